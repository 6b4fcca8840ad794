/- A text turned by its suffixes' order, and back: where the number ahead stands; how many are below; plain: no program is named here. -/
import Derived.Test.YthbnojhcmfhnhaaLcpMath
namespace Go.Proofs.Ythbnojhcmfhnhaa
open Pl (cnt cnt_succ cnt_congr)

/-- each of the first n numbers below n, no two alike. -/
def Bij (n : Nat) (g : Nat → Nat) : Prop := (∀ i, i < n → g i < n) ∧ ∀ i j, i < n → j < n → g i = g j → i = j
theorem Bij.onto {n : Nat} {g : Nat → Nat} (h : Bij n g) {p : Nat} (hp : p < n) : ∃ i, i < n ∧ g i = p := inj_onto n g h.1 h.2 p hp
theorem Bij.of_perm {n : Nat} {S : Nat → Int} (h : IsPerm S n) : Bij n (fun i => (S i).toNat) := ⟨fun i hi => by
  have := h.1 i hi
  show (S i).toNat < n
  omega, fun i j hi hj he => h.inj hi hj (by
    have h1 := h.1 i hi
    have h2 := h.1 j hj
    have he : (S i).toNat = (S j).toNat := he
    omega)⟩
theorem bij_perm {n : Nat} {g : Nat → Nat} (h : Bij n g) : (downS g n).Perm (downS id n) := by
  rw [List.perm_iff_count]
  intro p
  rw [count_downS h.2, count_downS (s := id) (fun a b _ _ he => he)]
  exact ind_congr ⟨fun ⟨j, hj, e⟩ => ⟨p, by rw [← e]; exact h.1 j hj, rfl⟩, fun ⟨j, hj, e⟩ => by
    have e : j = p := e
    exact h.onto (by omega)⟩
theorem countP_downS (P : Nat → Bool) (g : Nat → Nat) : ∀ n, (downS g n).countP P = cnt (fun j => P (g j)) n
  | 0 => rfl
  | n + 1 => by
    show (g n :: downS g n).countP P = _
    rw [List.countP_cons, countP_downS P g n, cnt_succ]
/-- counted in another order. -/
theorem cnt_bij {n : Nat} {g : Nat → Nat} (h : Bij n g) (P : Nat → Bool) : cnt (fun j => P (g j)) n = cnt P n := by
  rw [← countP_downS P g n, (bij_perm h).countP_eq, countP_downS]
  rfl
theorem cnt_lt : ∀ n k, k ≤ n → cnt (fun j => decide (j < k)) n = k
  | 0, k, hk => by
    obtain rfl : k = 0 := by omega
    rfl
  | n + 1, k, hk => by
    rw [cnt_succ]
    by_cases e : k = n + 1
    · subst e
      rw [cnt_congr (g := fun j => decide (j < n)) (fun j hj => decide_eq_decide.2 (by omega)), cnt_lt n n (Nat.le_refl _), decide_eq_true (show n < n + 1 by omega)]
      rfl
    · rw [cnt_lt n k (by omega), decide_eq_false (show ¬ n < k by omega)]
      rfl
/-- how many of the first n are below c. -/
def belowI (V : Nat → Int) (n : Nat) (c : Int) : Nat := cnt (fun j => decide (V j < c)) n
/-- how many of the first n are like c. -/
def aheadI (V : Nat → Int) (n : Nat) (c : Int) : Nat := cnt (fun j => decide (V j = c)) n
theorem belowI_succ (V : Nat → Int) (n : Nat) (c : Int) : belowI V (n + 1) c = belowI V n c + (if V n < c then 1 else 0) := by
  unfold belowI
  rw [cnt_succ]
  by_cases h : V n < c <;> simp [h]
theorem aheadI_succ (V : Nat → Int) (n : Nat) (c : Int) : aheadI V (n + 1) c = aheadI V n c + (if V n = c then 1 else 0) := by
  unfold aheadI
  rw [cnt_succ]
  by_cases h : V n = c <;> simp [h]
theorem cnt_le (f : Nat → Bool) : ∀ n, cnt f n ≤ n
  | 0 => Nat.le_refl _
  | n + 1 => by
    have := cnt_le f n
    rw [cnt_succ]
    split <;> omega
theorem belowI_le (V : Nat → Int) (n : Nat) (c : Int) : belowI V n c ≤ n := cnt_le _ n
theorem aheadI_le (V : Nat → Int) (n : Nat) (c : Int) : aheadI V n c ≤ n := cnt_le _ n
theorem belowI_bij {n : Nat} {g : Nat → Nat} (h : Bij n g) (V : Nat → Int) (c : Int) : belowI (fun j => V (g j)) n c = belowI V n c := cnt_bij h fun j => decide (V j < c)
theorem belowI_congr {V V' : Nat → Int} {n : Nat} (h : ∀ i, i < n → V i = V' i) (c : Int) : belowI V n c = belowI V' n c := cnt_congr fun j hj => by rw [h j hj]
theorem aheadI_congr {V V' : Nat → Int} {n : Nat} (h : ∀ i, i < n → V i = V' i) (c : Int) : aheadI V n c = aheadI V' n c := cnt_congr fun j hj => by rw [h j hj]
theorem belowI_all {V : Nat → Int} {c : Int} : ∀ {n : Nat}, (∀ i, i < n → V i < c) → belowI V n c = n
  | 0, _ => rfl
  | n + 1, h => by
    rw [belowI_succ, belowI_all (fun i hi => h i (by omega)), if_pos (h n (by omega))]
/-- two things that don't both hold. -/
theorem cnt_or (P Q : Nat → Bool) : ∀ n, (∀ j, j < n → ¬ (P j = true ∧ Q j = true)) → cnt (fun j => P j || Q j) n = cnt P n + cnt Q n
  | 0, _ => rfl
  | n + 1, h => by
    have h1 := h n (by omega)
    rw [cnt_succ, cnt_succ, cnt_succ, cnt_or P Q n (fun j hj => h j (by omega))]
    rcases hp : P n with _ | _ <;> rcases hq : Q n with _ | _
    · simp
    · simp; omega
    · simp; omega
    · exact absurd ⟨hp, hq⟩ h1
/-- only those ahead of i count. -/
theorem cnt_upto (P : Nat → Bool) (i : Nat) : ∀ n, i ≤ n → cnt (fun j => P j && decide (j < i)) n = cnt P i
  | 0, h => by
    obtain rfl : i = 0 := by omega
    rfl
  | n + 1, h => by
    by_cases e : i = n + 1
    · subst e
      exact cnt_congr fun j hj => by rw [decide_eq_true (by omega), Bool.and_true]
    · rw [cnt_succ, cnt_upto P i n (by omega), decide_eq_false (show ¬ n < i by omega), Bool.and_false]
      rfl
/-- where the number ahead stands, by counting. -/
def stepI (V : Nat → Int) (n i : Nat) : Nat := belowI V n (V i) + aheadI V i (V i)
theorem stepI_lt {V : Nat → Int} {n i : Nat} (hi : i < n) : stepI V n i < n := by
  have h : ∀ m, m ≤ n → i < m → cnt (fun j => decide (V j < V i)) m + cnt (fun j => decide (V j = V i) && decide (j < i)) m < m := by
    intro m
    induction m with
    | zero => intro _ h; omega
    | succ m ih =>
      intro hm him
      rw [cnt_succ, cnt_succ]
      by_cases e : i = m
      · subst e
        have h2 : ∀ k, k ≤ i → cnt (fun j => decide (V j < V i)) k + cnt (fun j => decide (V j = V i) && decide (j < i)) k ≤ k := by
          intro k
          induction k with
          | zero => intro _; exact Nat.le_refl _
          | succ k ih2 =>
            intro hk
            have := ih2 (by omega)
            rw [cnt_succ, cnt_succ]
            by_cases h3 : V k < V i
            · have h4 : ¬ V k = V i := by omega
              simp only [h3, h4, decide_true, decide_false, Bool.false_and, if_true, Bool.false_eq_true, if_false]
              omega
            · simp only [h3, decide_false, Bool.false_eq_true, if_false]
              split <;> omega
        have := h2 i (Nat.le_refl _)
        have h3 : ¬ V i < V i := by omega
        have h4 : ¬ i < i := by omega
        simp only [h3, h4, decide_false, Bool.and_false, Bool.false_eq_true, if_false]
        omega
      · have := ih (by omega) (by omega)
        by_cases h3 : V m < V i
        · have h4 : ¬ V m = V i := by omega
          simp only [h3, h4, decide_true, decide_false, Bool.false_and, if_true, Bool.false_eq_true, if_false]
          omega
        · simp only [h3, decide_false, Bool.false_eq_true, if_false]
          split <;> omega
  have h1 := h n (Nat.le_refl _) hi
  rw [cnt_upto _ i n (by omega)] at h1
  exact h1
/-- f is known by which come ahead. -/
theorem bij_ranked {n : Nat} {f : Nat → Nat} (h : Bij n f) {V : Nat → Int} (ho : ∀ i j, i < n → j < n → (f j < f i ↔ V j < V i ∨ V j = V i ∧ j < i)) {i : Nat} (hi : i < n) : f i = stepI V n i := by
  have h1 : cnt (fun j => decide (f j < f i)) n = f i := (cnt_bij h fun j => decide (j < f i)).trans (cnt_lt n (f i) (Nat.le_of_lt (h.1 i hi)))
  rw [← h1]
  unfold stepI
  show _ = cnt (fun j => decide (V j < V i)) n + cnt (fun j => decide (V j = V i)) i
  rw [← cnt_upto (fun j => decide (V j = V i)) i n (by omega), ← cnt_or _ _ n (fun j _ => by
    rintro ⟨h2, h3⟩
    rw [Bool.and_eq_true, decide_eq_true_iff, decide_eq_true_iff] at h3
    rw [decide_eq_true_iff] at h2
    omega)]
  refine cnt_congr fun j hj => ?_
  have h2 := ho i j hi hj
  rw [Bool.eq_iff_iff, Bool.or_eq_true, Bool.and_eq_true, decide_eq_true_iff, decide_eq_true_iff, decide_eq_true_iff, decide_eq_true_iff]
  exact h2

/-- the turned row, of any order. -/
def turnI (T : Nat → Int) (n : Nat) (S : Nat → Int) (i : Nat) : Int := if S i = 0 then T (n - 1) else T ((S i).toNat - 1)
/-- the place ahead; of the first one, the last. -/
def aheadN (n p : Nat) : Nat := if p = 0 then n - 1 else p - 1
theorem turnI_at {T : Nat → Int} {n : Nat} {S : Nat → Int} {i p : Nat} (h : S i = (p : Int)) : turnI T n S i = T (aheadN n p) := by
  unfold turnI aheadN
  rw [h]
  by_cases h : p = 0
  · rw [if_pos (by omega), if_pos h]
  · rw [if_neg (by omega), if_neg h, Int.toNat_natCast]
theorem turnI_nat (T : Nat → Int) (n : Nat) (s : Nat → Nat) (i : Nat) : turnI T n (fun j => ((s j : Nat) : Int)) i = T (aheadN n (s i)) := turnI_at rfl
theorem aheadN_lt {n p : Nat} (hp : p < n) : aheadN n p < n := by unfold aheadN; split <;> omega
theorem aheadN_inj {n p q : Nat} (hp : p < n) (hq : q < n) (h : aheadN n p = aheadN n q) : p = q := by
  unfold aheadN at h
  split at h <;> split at h <;> omega
/-- the last number is there once and is the least one. -/
def EndsT (T : Nat → Int) (n : Nat) : Prop := 0 < n ∧ ∀ i, i + 1 < n → T (n - 1) < T i
/-- V: the turned row of T, the whole one's suffix at place wh. -/
def TurnedOf (V : Nat → Int) (n wh : Nat) (T : Nat → Int) : Prop := ∃ s, IsSA T n s ∧ s wh = 0 ∧ ∀ i, i < n → V i = T (aheadN n (s i))
/-- where the place ahead stands in the order. -/
theorem ahead_turn {V T : Nat → Int} {n : Nat} {s : Nat → Nat} (hE : EndsT T n) (hs : IsSA T n s) (hV : ∀ i, i < n → V i = T (aheadN n (s i))) {i : Nat} (hi : i < n) : s (stepI V n i) = aheadN n (s i) := by
  have hex : ∀ i, ∃ j, i < n → j < n ∧ s j = aheadN n (s i) := fun i => by
    by_cases h : i < n
    · obtain ⟨j, h1, h2⟩ := hs.onto (aheadN_lt (hs.1 i h))
      exact ⟨j, fun _ => ⟨h1, h2⟩⟩
    · exact ⟨0, fun h' => absurd h' h⟩
  obtain ⟨f, hf⟩ : ∃ f : Nat → Nat, ∀ i, i < n → f i < n ∧ s (f i) = aheadN n (s i) := ⟨fun i => (hex i).choose, fun i hi => (hex i).choose_spec hi⟩
  have hb : Bij n f := ⟨fun i hi => (hf i hi).1, fun i j hi hj he => by
    have h1 := (hf i hi).2
    rw [he, (hf j hj).2] at h1
    exact (hs.inj hj hi (aheadN_inj (hs.1 j hj) (hs.1 i hi) h1)).symm⟩
  have lt_iff : ∀ a b, a < n → b < n → (a < b ↔ SLess T n (s a) (s b)) := fun a b ha hb => by
    constructor
    · intro h
      exact hs.2 a b h hb
    · intro h
      rcases Nat.lt_trichotomy a b with h1 | h1 | h1
      · exact h1
      · rw [h1] at h
        exact absurd h sless_irrefl
      · exact absurd h (sless_asymm (hs.2 b a h1 ha))
  have hlast : ∀ p, p < n → T p = T (n - 1) → p = n - 1 := fun p hp he => by
    by_cases h : p + 1 < n
    · have := hE.2 p h
      omega
    · omega
  have ho : ∀ i j, i < n → j < n → (f j < f i ↔ V j < V i ∨ V j = V i ∧ j < i) := fun i j hi hj => by
    rw [lt_iff _ _ (hf j hj).1 (hf i hi).1, (hf j hj).2, (hf i hi).2, hV i hi, hV j hj]
    have hp := aheadN_lt (hs.1 j hj)
    have hq := aheadN_lt (hs.1 i hi)
    by_cases he : T (aheadN n (s j)) = T (aheadN n (s i))
    · have hne : ¬ T (aheadN n (s j)) < T (aheadN n (s i)) := by omega
      by_cases h0 : s j = 0
      · have h1 : aheadN n (s i) = n - 1 := hlast _ hq (by rw [← he]; unfold aheadN; rw [if_pos h0])
        have h2 : s i = 0 := by
          unfold aheadN at h1
          split at h1
          · assumption
          · have := hs.1 i hi
            omega
        have hji : j = i := hs.inj hj hi (by omega)
        subst hji
        constructor
        · intro h
          exact absurd h sless_irrefl
        · rintro (h | ⟨_, h⟩) <;> omega
      · by_cases h0' : s i = 0
        · have h1 : aheadN n (s j) = n - 1 := hlast _ hp (by rw [he]; unfold aheadN; rw [if_pos h0'])
          have := hs.1 j hj
          unfold aheadN at h1
          rw [if_neg h0] at h1
          omega
        · rw [sless_step hp hq he]
          have e1 : aheadN n (s j) + 1 = s j := by unfold aheadN; rw [if_neg h0]; omega
          have e2 : aheadN n (s i) + 1 = s i := by unfold aheadN; rw [if_neg h0']; omega
          rw [e1, e2, ← lt_iff j i hj hi]
          constructor
          · intro h
            exact .inr ⟨he, h⟩
          · rintro (h | ⟨_, h⟩)
            · exact absurd h hne
            · exact h
    · rw [sless_now hp hq he]
      constructor
      · intro h
        exact .inl h
      · rintro (h | ⟨h, _⟩)
        · exact h
        · exact absurd h he
  rw [← bij_ranked hb ho hi, (hf i hi).2]
/-- the list, found number by number from behind. -/
def backAt (V : Nat → Int) (n wh : Nat) : Nat → Nat
  | 0 => wh
  | m + 1 => stepI V n (backAt V n wh m)
theorem backAt_lt {V : Nat → Int} {n wh : Nat} (hw : wh < n) : ∀ m, backAt V n wh m < n
  | 0 => hw
  | m + 1 => stepI_lt (backAt_lt hw m)
def backT (V : Nat → Int) (n wh k : Nat) : Int := V (backAt V n wh (n - 1 - k))
/-- a row that is turned back. -/
theorem back_is {V T : Nat → Int} {n wh : Nat} (hw : wh < n) (hE : EndsT T n) (hT : TurnedOf V n wh T) : ∀ k, k < n → T k = backT V n wh k := by
  obtain ⟨s, hs, h0, hV⟩ := hT
  have h : ∀ m, m < n → s (backAt V n wh m) = if m = 0 then 0 else n - m := by
    intro m
    induction m with
    | zero => intro _; exact h0
    | succ m ih =>
      intro hm
      show s (stepI V n (backAt V n wh m)) = _
      rw [ahead_turn hE hs hV (backAt_lt hw m), ih (by omega)]
      unfold aheadN
      by_cases e : m = 0
      · rw [show (if m = 0 then 0 else n - m) = 0 from if_pos e, if_pos rfl, if_neg (show ¬ m + 1 = 0 by omega)]
        omega
      · rw [show (if m = 0 then 0 else n - m) = n - m from if_neg e, if_neg (show ¬ n - m = 0 by omega), if_neg (show ¬ m + 1 = 0 by omega)]
        omega
  intro k hk
  unfold backT
  rw [hV _ (backAt_lt hw _), h _ (by omega)]
  unfold aheadN
  by_cases e : n - 1 - k = 0
  · rw [if_pos e, if_pos rfl, show n - 1 = k by omega]
  · rw [if_neg e, if_neg (by omega), show n - (n - 1 - k) - 1 = k by omega]
/-- is V the turned row of a list whose last number is there once and is the least one? -/
def BackOK (V : Nat → Int) (n wh : Nat) : Prop := EndsT (backT V n wh) n ∧ TurnedOf V n wh (backT V n wh)
theorem EndsT.congr {T T' : Nat → Int} {n : Nat} (h : ∀ k, k < n → T k = T' k) (hE : EndsT T n) : EndsT T' n := ⟨hE.1, fun i hi => by
  have := hE.2 i hi
  have h0 := hE.1
  rwa [h _ (by omega), h i (by omega)] at this⟩
theorem TurnedOf.congr {V T T' : Nat → Int} {n wh : Nat} (h : ∀ k, k < n → T k = T' k) (hT : TurnedOf V n wh T) : TurnedOf V n wh T' := by
  obtain ⟨s, hs, h0, hV⟩ := hT
  refine ⟨s, ⟨hs.1, fun i j hij hj => (sless_congr h).1 (hs.2 i j hij hj)⟩, h0, fun i hi => ?_⟩
  rw [hV i hi, h _ (aheadN_lt (hs.1 i hi))]
theorem back_ok {V T : Nat → Int} {n wh : Nat} (hw : wh < n) (hE : EndsT T n) (hT : TurnedOf V n wh T) : BackOK V n wh := ⟨hE.congr (back_is hw hE hT), hT.congr (back_is hw hE hT)⟩
theorem back_iff {V : Nat → Int} {n wh : Nat} (hw : wh < n) : BackOK V n wh ↔ ∃ T, EndsT T n ∧ TurnedOf V n wh T := ⟨fun h => ⟨_, h⟩, fun ⟨_, h1, h2⟩ => back_ok hw h1 h2⟩
end Go.Proofs.Ythbnojhcmfhnhaa
