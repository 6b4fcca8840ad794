/- A text turned by its suffixes' order, and back: where the number ahead stands; how many are below; plain: no program is named here. The suffixes that begin with a pattern stand side by side in the order; how many they are; plain: no program is named here. From the range of a pattern to that of one more number ahead of it: where the number ahead stands, of a list whose last number is there once: plain. What the developers' package bwt does, plainly: the places by the numbers there, of like ones as they rise, lead from each suffix to the one behind it; the round from the whole list's on is all places just if the row is a turned one. No program is named here. Where a number stood last, and stands next; how often it is between two places: plain: no program is named here. A row's ranges put in order; the rows of a wavelet matrix's levels: plain: no program is named here. The row of a level out of the one ahead of it, by putting those with 0 first: plain: no program is named here. Ranges of a row: how long, how many less, how many alike: plain: no program is named here. Narrowing a range of a wavelet matrix level by level: what stands in it: plain: no program is named here. A row parted by a bit in place, those with a one laid aside: plain: no program is named here. The document's functions of layer 13: Part, Sorted, Width. -/
import Derived.Test.YtbkdloebbbmkaaaGreatB03
import Derived.Test.YtbkdloebbbmkaaaGreatB01
import Derived.Test.YtbkdloebbbmkaaaGreatB02
import Derived.Deep.CutBlock
import Derived.Deep.CutRange
namespace Go.Proofs.YtbkdloebbbmkaaaGreat
open Pl (cnt cnt_succ cnt_congr)

/-- each of the first n numbers below n, no two alike. -/
def Bij (n : Nat) (g : Nat → Nat) : Prop := (∀ i, i < n → g i < n) ∧ ∀ i j, i < n → j < n → g i = g j → i = j
theorem Bij.onto {n : Nat} {g : Nat → Nat} (h : Bij n g) {p : Nat} (hp : p < n) : ∃ i, i < n ∧ g i = p := inj_onto n g h.1 h.2 p hp
theorem Bij.of_perm {n : Nat} {S : Nat → Int} (h : IsPerm S n) : Bij n (fun i => (S i).toNat) := ⟨fun i hi => by
  have := h.1 i hi
  show (S i).toNat < n
  omega, fun i j hi hj he => h.inj hi hj (by
    have h1 := h.1 i hi
    have h2 := h.1 j hj
    have he : (S i).toNat = (S j).toNat := he
    omega)⟩
theorem bij_perm {n : Nat} {g : Nat → Nat} (h : Bij n g) : (downS g n).Perm (downS id n) := by
  rw [List.perm_iff_count]
  intro p
  rw [count_downS h.2, count_downS (s := id) (fun a b _ _ he => he)]
  exact ind_congr ⟨fun ⟨j, hj, e⟩ => ⟨p, by rw [← e]; exact h.1 j hj, rfl⟩, fun ⟨j, hj, e⟩ => by
    have e : j = p := e
    exact h.onto (by omega)⟩
theorem countP_downS (P : Nat → Bool) (g : Nat → Nat) : ∀ n, (downS g n).countP P = cnt (fun j => P (g j)) n
  | 0 => rfl
  | n + 1 => by
    show (g n :: downS g n).countP P = _
    rw [List.countP_cons, countP_downS P g n, cnt_succ]
/-- counted in another order. -/
theorem cnt_bij {n : Nat} {g : Nat → Nat} (h : Bij n g) (P : Nat → Bool) : cnt (fun j => P (g j)) n = cnt P n := by
  rw [← countP_downS P g n, (bij_perm h).countP_eq, countP_downS]
  rfl
theorem cnt_lt : ∀ n k, k ≤ n → cnt (fun j => decide (j < k)) n = k
  | 0, k, hk => by
    obtain rfl : k = 0 := by omega
    rfl
  | n + 1, k, hk => by
    rw [cnt_succ]
    by_cases e : k = n + 1
    · subst e
      rw [cnt_congr (g := fun j => decide (j < n)) (fun j hj => decide_eq_decide.2 (by omega)), cnt_lt n n (Nat.le_refl _), decide_eq_true (show n < n + 1 by omega)]
      rfl
    · rw [cnt_lt n k (by omega), decide_eq_false (show ¬ n < k by omega)]
      rfl
/-- how many of the first n are below c. -/
def belowI (V : Nat → Int) (n : Nat) (c : Int) : Nat := cnt (fun j => decide (V j < c)) n
/-- how many of the first n are like c. -/
def aheadI (V : Nat → Int) (n : Nat) (c : Int) : Nat := cnt (fun j => decide (V j = c)) n
theorem belowI_succ (V : Nat → Int) (n : Nat) (c : Int) : belowI V (n + 1) c = belowI V n c + (if V n < c then 1 else 0) := by
  unfold belowI
  rw [cnt_succ]
  by_cases h : V n < c <;> simp [h]
theorem aheadI_succ (V : Nat → Int) (n : Nat) (c : Int) : aheadI V (n + 1) c = aheadI V n c + (if V n = c then 1 else 0) := by
  unfold aheadI
  rw [cnt_succ]
  by_cases h : V n = c <;> simp [h]
theorem cnt_le (f : Nat → Bool) : ∀ n, cnt f n ≤ n
  | 0 => Nat.le_refl _
  | n + 1 => by
    have := cnt_le f n
    rw [cnt_succ]
    split <;> omega
theorem belowI_le (V : Nat → Int) (n : Nat) (c : Int) : belowI V n c ≤ n := cnt_le _ n
theorem aheadI_le (V : Nat → Int) (n : Nat) (c : Int) : aheadI V n c ≤ n := cnt_le _ n
theorem belowI_bij {n : Nat} {g : Nat → Nat} (h : Bij n g) (V : Nat → Int) (c : Int) : belowI (fun j => V (g j)) n c = belowI V n c := cnt_bij h fun j => decide (V j < c)
theorem belowI_congr {V V' : Nat → Int} {n : Nat} (h : ∀ i, i < n → V i = V' i) (c : Int) : belowI V n c = belowI V' n c := cnt_congr fun j hj => by rw [h j hj]
theorem aheadI_congr {V V' : Nat → Int} {n : Nat} (h : ∀ i, i < n → V i = V' i) (c : Int) : aheadI V n c = aheadI V' n c := cnt_congr fun j hj => by rw [h j hj]
theorem belowI_all {V : Nat → Int} {c : Int} : ∀ {n : Nat}, (∀ i, i < n → V i < c) → belowI V n c = n
  | 0, _ => rfl
  | n + 1, h => by
    rw [belowI_succ, belowI_all (fun i hi => h i (by omega)), if_pos (h n (by omega))]
/-- two things that don't both hold. -/
theorem cnt_or (P Q : Nat → Bool) : ∀ n, (∀ j, j < n → ¬ (P j = true ∧ Q j = true)) → cnt (fun j => P j || Q j) n = cnt P n + cnt Q n
  | 0, _ => rfl
  | n + 1, h => by
    have h1 := h n (by omega)
    rw [cnt_succ, cnt_succ, cnt_succ, cnt_or P Q n (fun j hj => h j (by omega))]
    rcases hp : P n with _ | _ <;> rcases hq : Q n with _ | _
    · simp
    · simp; omega
    · simp; omega
    · exact absurd ⟨hp, hq⟩ h1
/-- only those ahead of i count. -/
theorem cnt_upto (P : Nat → Bool) (i : Nat) : ∀ n, i ≤ n → cnt (fun j => P j && decide (j < i)) n = cnt P i
  | 0, h => by
    obtain rfl : i = 0 := by omega
    rfl
  | n + 1, h => by
    by_cases e : i = n + 1
    · subst e
      exact cnt_congr fun j hj => by rw [decide_eq_true (by omega), Bool.and_true]
    · rw [cnt_succ, cnt_upto P i n (by omega), decide_eq_false (show ¬ n < i by omega), Bool.and_false]
      rfl
/-- where the number ahead stands, by counting. -/
def stepI (V : Nat → Int) (n i : Nat) : Nat := belowI V n (V i) + aheadI V i (V i)
theorem stepI_lt {V : Nat → Int} {n i : Nat} (hi : i < n) : stepI V n i < n := by
  have h : ∀ m, m ≤ n → i < m → cnt (fun j => decide (V j < V i)) m + cnt (fun j => decide (V j = V i) && decide (j < i)) m < m := by
    intro m
    induction m with
    | zero => intro _ h; omega
    | succ m ih =>
      intro hm him
      rw [cnt_succ, cnt_succ]
      by_cases e : i = m
      · subst e
        have h2 : ∀ k, k ≤ i → cnt (fun j => decide (V j < V i)) k + cnt (fun j => decide (V j = V i) && decide (j < i)) k ≤ k := by
          intro k
          induction k with
          | zero => intro _; exact Nat.le_refl _
          | succ k ih2 =>
            intro hk
            have := ih2 (by omega)
            rw [cnt_succ, cnt_succ]
            by_cases h3 : V k < V i
            · have h4 : ¬ V k = V i := by omega
              simp only [h3, h4, decide_true, decide_false, Bool.false_and, if_true, Bool.false_eq_true, if_false]
              omega
            · simp only [h3, decide_false, Bool.false_eq_true, if_false]
              split <;> omega
        have := h2 i (Nat.le_refl _)
        have h3 : ¬ V i < V i := by omega
        have h4 : ¬ i < i := by omega
        simp only [h3, h4, decide_false, Bool.and_false, Bool.false_eq_true, if_false]
        omega
      · have := ih (by omega) (by omega)
        by_cases h3 : V m < V i
        · have h4 : ¬ V m = V i := by omega
          simp only [h3, h4, decide_true, decide_false, Bool.false_and, if_true, Bool.false_eq_true, if_false]
          omega
        · simp only [h3, decide_false, Bool.false_eq_true, if_false]
          split <;> omega
  have h1 := h n (Nat.le_refl _) hi
  rw [cnt_upto _ i n (by omega)] at h1
  exact h1
/-- f is known by which come ahead. -/
theorem bij_ranked {n : Nat} {f : Nat → Nat} (h : Bij n f) {V : Nat → Int} (ho : ∀ i j, i < n → j < n → (f j < f i ↔ V j < V i ∨ V j = V i ∧ j < i)) {i : Nat} (hi : i < n) : f i = stepI V n i := by
  have h1 : cnt (fun j => decide (f j < f i)) n = f i := (cnt_bij h fun j => decide (j < f i)).trans (cnt_lt n (f i) (Nat.le_of_lt (h.1 i hi)))
  rw [← h1]
  unfold stepI
  show _ = cnt (fun j => decide (V j < V i)) n + cnt (fun j => decide (V j = V i)) i
  rw [← cnt_upto (fun j => decide (V j = V i)) i n (by omega), ← cnt_or _ _ n (fun j _ => by
    rintro ⟨h2, h3⟩
    rw [Bool.and_eq_true, decide_eq_true_iff, decide_eq_true_iff] at h3
    rw [decide_eq_true_iff] at h2
    omega)]
  refine cnt_congr fun j hj => ?_
  have h2 := ho i j hi hj
  rw [Bool.eq_iff_iff, Bool.or_eq_true, Bool.and_eq_true, decide_eq_true_iff, decide_eq_true_iff, decide_eq_true_iff, decide_eq_true_iff]
  exact h2

/-- the turned row, of any order. -/
def turnI (T : Nat → Int) (n : Nat) (S : Nat → Int) (i : Nat) : Int := if S i = 0 then T (n - 1) else T ((S i).toNat - 1)
/-- the place ahead; of the first one, the last. -/
def aheadN (n p : Nat) : Nat := if p = 0 then n - 1 else p - 1
theorem turnI_at {T : Nat → Int} {n : Nat} {S : Nat → Int} {i p : Nat} (h : S i = (p : Int)) : turnI T n S i = T (aheadN n p) := by
  unfold turnI aheadN
  rw [h]
  by_cases h : p = 0
  · rw [if_pos (by omega), if_pos h]
  · rw [if_neg (by omega), if_neg h, Int.toNat_natCast]
theorem turnI_nat (T : Nat → Int) (n : Nat) (s : Nat → Nat) (i : Nat) : turnI T n (fun j => ((s j : Nat) : Int)) i = T (aheadN n (s i)) := turnI_at rfl
theorem aheadN_lt {n p : Nat} (hp : p < n) : aheadN n p < n := by unfold aheadN; split <;> omega
theorem aheadN_inj {n p q : Nat} (hp : p < n) (hq : q < n) (h : aheadN n p = aheadN n q) : p = q := by
  unfold aheadN at h
  split at h <;> split at h <;> omega
/-- the last number is there once and is the least one. -/
def EndsT (T : Nat → Int) (n : Nat) : Prop := 0 < n ∧ ∀ i, i + 1 < n → T (n - 1) < T i
/-- V: the turned row of T, the whole one's suffix at place wh. -/
def TurnedOf (V : Nat → Int) (n wh : Nat) (T : Nat → Int) : Prop := ∃ s, IsSA T n s ∧ s wh = 0 ∧ ∀ i, i < n → V i = T (aheadN n (s i))
/-- where the place ahead stands in the order. -/
theorem ahead_turn {V T : Nat → Int} {n : Nat} {s : Nat → Nat} (hE : EndsT T n) (hs : IsSA T n s) (hV : ∀ i, i < n → V i = T (aheadN n (s i))) {i : Nat} (hi : i < n) : s (stepI V n i) = aheadN n (s i) := by
  have hex : ∀ i, ∃ j, i < n → j < n ∧ s j = aheadN n (s i) := fun i => by
    by_cases h : i < n
    · obtain ⟨j, h1, h2⟩ := hs.onto (aheadN_lt (hs.1 i h))
      exact ⟨j, fun _ => ⟨h1, h2⟩⟩
    · exact ⟨0, fun h' => absurd h' h⟩
  obtain ⟨f, hf⟩ : ∃ f : Nat → Nat, ∀ i, i < n → f i < n ∧ s (f i) = aheadN n (s i) := ⟨fun i => (hex i).choose, fun i hi => (hex i).choose_spec hi⟩
  have hb : Bij n f := ⟨fun i hi => (hf i hi).1, fun i j hi hj he => by
    have h1 := (hf i hi).2
    rw [he, (hf j hj).2] at h1
    exact (hs.inj hj hi (aheadN_inj (hs.1 j hj) (hs.1 i hi) h1)).symm⟩
  have lt_iff : ∀ a b, a < n → b < n → (a < b ↔ SLess T n (s a) (s b)) := fun a b ha hb => by
    constructor
    · intro h
      exact hs.2 a b h hb
    · intro h
      rcases Nat.lt_trichotomy a b with h1 | h1 | h1
      · exact h1
      · rw [h1] at h
        exact absurd h sless_irrefl
      · exact absurd h (sless_asymm (hs.2 b a h1 ha))
  have hlast : ∀ p, p < n → T p = T (n - 1) → p = n - 1 := fun p hp he => by
    by_cases h : p + 1 < n
    · have := hE.2 p h
      omega
    · omega
  have ho : ∀ i j, i < n → j < n → (f j < f i ↔ V j < V i ∨ V j = V i ∧ j < i) := fun i j hi hj => by
    rw [lt_iff _ _ (hf j hj).1 (hf i hi).1, (hf j hj).2, (hf i hi).2, hV i hi, hV j hj]
    have hp := aheadN_lt (hs.1 j hj)
    have hq := aheadN_lt (hs.1 i hi)
    by_cases he : T (aheadN n (s j)) = T (aheadN n (s i))
    · have hne : ¬ T (aheadN n (s j)) < T (aheadN n (s i)) := by omega
      by_cases h0 : s j = 0
      · have h1 : aheadN n (s i) = n - 1 := hlast _ hq (by rw [← he]; unfold aheadN; rw [if_pos h0])
        have h2 : s i = 0 := by
          unfold aheadN at h1
          split at h1
          · assumption
          · have := hs.1 i hi
            omega
        have hji : j = i := hs.inj hj hi (by omega)
        subst hji
        constructor
        · intro h
          exact absurd h sless_irrefl
        · rintro (h | ⟨_, h⟩) <;> omega
      · by_cases h0' : s i = 0
        · have h1 : aheadN n (s j) = n - 1 := hlast _ hp (by rw [he]; unfold aheadN; rw [if_pos h0'])
          have := hs.1 j hj
          unfold aheadN at h1
          rw [if_neg h0] at h1
          omega
        · rw [sless_step hp hq he]
          have e1 : aheadN n (s j) + 1 = s j := by unfold aheadN; rw [if_neg h0]; omega
          have e2 : aheadN n (s i) + 1 = s i := by unfold aheadN; rw [if_neg h0']; omega
          rw [e1, e2, ← lt_iff j i hj hi]
          constructor
          · intro h
            exact .inr ⟨he, h⟩
          · rintro (h | ⟨_, h⟩)
            · exact absurd h hne
            · exact h
    · rw [sless_now hp hq he]
      constructor
      · intro h
        exact .inl h
      · rintro (h | ⟨h, _⟩)
        · exact h
        · exact absurd h he
  rw [← bij_ranked hb ho hi, (hf i hi).2]
/-- the list, found number by number from behind. -/
def backAt (V : Nat → Int) (n wh : Nat) : Nat → Nat
  | 0 => wh
  | m + 1 => stepI V n (backAt V n wh m)
theorem backAt_lt {V : Nat → Int} {n wh : Nat} (hw : wh < n) : ∀ m, backAt V n wh m < n
  | 0 => hw
  | m + 1 => stepI_lt (backAt_lt hw m)
def backT (V : Nat → Int) (n wh k : Nat) : Int := V (backAt V n wh (n - 1 - k))
/-- a row that is turned back. -/
theorem back_is {V T : Nat → Int} {n wh : Nat} (hw : wh < n) (hE : EndsT T n) (hT : TurnedOf V n wh T) : ∀ k, k < n → T k = backT V n wh k := by
  obtain ⟨s, hs, h0, hV⟩ := hT
  have h : ∀ m, m < n → s (backAt V n wh m) = if m = 0 then 0 else n - m := by
    intro m
    induction m with
    | zero => intro _; exact h0
    | succ m ih =>
      intro hm
      show s (stepI V n (backAt V n wh m)) = _
      rw [ahead_turn hE hs hV (backAt_lt hw m), ih (by omega)]
      unfold aheadN
      by_cases e : m = 0
      · rw [show (if m = 0 then 0 else n - m) = 0 from if_pos e, if_pos rfl, if_neg (show ¬ m + 1 = 0 by omega)]
        omega
      · rw [show (if m = 0 then 0 else n - m) = n - m from if_neg e, if_neg (show ¬ n - m = 0 by omega), if_neg (show ¬ m + 1 = 0 by omega)]
        omega
  intro k hk
  unfold backT
  rw [hV _ (backAt_lt hw _), h _ (by omega)]
  unfold aheadN
  by_cases e : n - 1 - k = 0
  · rw [if_pos e, if_pos rfl, show n - 1 = k by omega]
  · rw [if_neg e, if_neg (by omega), show n - (n - 1 - k) - 1 = k by omega]
/-- is V the turned row of a list whose last number is there once and is the least one? -/
def BackOK (V : Nat → Int) (n wh : Nat) : Prop := EndsT (backT V n wh) n ∧ TurnedOf V n wh (backT V n wh)
theorem EndsT.congr {T T' : Nat → Int} {n : Nat} (h : ∀ k, k < n → T k = T' k) (hE : EndsT T n) : EndsT T' n := ⟨hE.1, fun i hi => by
  have := hE.2 i hi
  have h0 := hE.1
  rwa [h _ (by omega), h i (by omega)] at this⟩
theorem TurnedOf.congr {V T T' : Nat → Int} {n wh : Nat} (h : ∀ k, k < n → T k = T' k) (hT : TurnedOf V n wh T) : TurnedOf V n wh T' := by
  obtain ⟨s, hs, h0, hV⟩ := hT
  refine ⟨s, ⟨hs.1, fun i j hij hj => (sless_congr h).1 (hs.2 i j hij hj)⟩, h0, fun i hi => ?_⟩
  rw [hV i hi, h _ (aheadN_lt (hs.1 i hi))]
theorem back_ok {V T : Nat → Int} {n wh : Nat} (hw : wh < n) (hE : EndsT T n) (hT : TurnedOf V n wh T) : BackOK V n wh := ⟨hE.congr (back_is hw hE hT), hT.congr (back_is hw hE hT)⟩
theorem back_iff {V : Nat → Int} {n wh : Nat} (hw : wh < n) : BackOK V n wh ↔ ∃ T, EndsT T n ∧ TurnedOf V n wh T := ⟨fun h => ⟨_, h⟩, fun ⟨_, h1, h2⟩ => back_ok hw h1 h2⟩
end Go.Proofs.YtbkdloebbbmkaaaGreat

namespace Go.Proofs.YtbkdloebbbmkaaaGreat
open Pl (cnt cnt_succ cnt_congr)

theorem StN.between {T : Nat → Int} {n : Nat} {P : Nat → Int} {m a b c : Nat} (ha : StN T n P m a) (hc : StN T n P m c) (h1 : SLess T n a b) (h2 : SLess T n b c) : StN T n P m b := by
  obtain ⟨x, hx1, hx2, hx3, hx4⟩ := h1
  obtain ⟨y, hy1, hy2, hy3, hy4⟩ := h2
  obtain ⟨ha1, ha2⟩ := ha
  obtain ⟨hc1, hc2⟩ := hc
  by_cases hxm : m ≤ x
  · exact ⟨by omega, fun i hi => by rw [← hx1 i (by omega), ha2 i hi]⟩
  · by_cases hym : m ≤ y
    · exact ⟨by omega, fun i hi => by rw [hy1 i (by omega), hc2 i hi]⟩
    · exfalso
      have e1 : T (a + x) = P x := ha2 x (by omega)
      have e2 : T (c + y) = P y := hc2 y (by omega)
      have l1 : T (a + x) < T (b + x) := hx4.resolve_left (by omega)
      rcases Nat.lt_trichotomy y x with h | h | h
      · have e3 : T (a + y) = T (b + y) := hx1 y h
        have e4 : T (a + y) = P y := ha2 y (by omega)
        rcases hy4 with h4 | h4
        · omega
        · omega
      · subst h
        rcases hy4 with h4 | h4
        · omega
        · omega
      · have e3 : T (b + x) = T (c + x) := hy1 x h
        have e4 : T (c + x) = P x := hc2 x (by omega)
        omega
theorem stB_between {T : Nat → Int} {n : Nat} {P : Nat → Int} {m : Nat} {s : Nat → Nat} (hs : IsSA T n s) {i j k : Nat} (hij : i ≤ j) (hjk : j ≤ k) (hk : k < n) (hi : stB T n P m (s i) = true) (hk2 : stB T n P m (s k) = true) : stB T n P m (s j) = true := by
  rcases Nat.lt_or_eq_of_le hij with h1 | h1
  · rcases Nat.lt_or_eq_of_le hjk with h2 | h2
    · exact stB_iff.2 (StN.between (stB_iff.1 hi) (stB_iff.1 hk2) (hs.2 i j h1 (by omega)) (hs.2 j k h2 hk))
    · rw [h2]; exact hk2
  · rw [← h1]; exact hi

/-- of those of the first k that stand side by side: all between the first one and the last one, and no other. -/
theorem rngF_side {f : Nat → Bool} {n : Nat} (hf : ∀ i j k, i ≤ j → j ≤ k → k < n → f i = true → f k = true → f j = true) : ∀ k, k ≤ n →
    (rngF f k).2 - (rngF f k).1 = cnt f k ∧ (∀ j, j < k → (f j = true ↔ (rngF f k).1 ≤ j ∧ j < (rngF f k).2))
  | 0, _ => ⟨rfl, fun j hj => absurd hj (Nat.not_lt_zero j)⟩
  | k + 1, hk => by
    obtain ⟨h1, h2⟩ := rngF_side hf k (by omega)
    have hle := rngF_le f k
    cases hfk : f k with
    | false =>
      rw [rngF_miss hfk, cnt_succ, hfk]
      refine ⟨by rw [h1]; rfl, fun j hj => ?_⟩
      by_cases e : j = k
      · subst e
        rw [hfk]
        constructor
        · intro h; cases h
        · intro h; omega
      · exact h2 j (by omega)
    | true =>
      by_cases h0 : (rngF f k).2 = 0
      · rw [rngF_first hfk h0, cnt_succ, hfk, if_pos rfl, ← h1]
        refine ⟨by show k + 1 - k = _; omega, fun j hj => ?_⟩
        by_cases e : j = k
        · subst e
          exact ⟨fun _ => ⟨Nat.le_refl _, Nat.lt_succ_self _⟩, fun _ => hfk⟩
        · rw [h2 j (by omega)]
          show _ ↔ k ≤ j ∧ j < k + 1
          omega
      · have hlt : (rngF f k).1 < (rngF f k).2 ∨ ¬ (rngF f k).1 < (rngF f k).2 := Classical.em _
        have hpos : (rngF f k).1 < (rngF f k).2 := rngF_lt h0
        have hlast : f ((rngF f k).2 - 1) = true := (h2 _ (by omega)).2 ⟨by omega, by omega⟩
        have hend : (rngF f k).2 = k := by
          by_cases e : (rngF f k).2 = k
          · exact e
          · have := hf _ (rngF f k).2 k (by omega) hle.2 (by omega) hlast hfk
            have := ((h2 _ (by omega)).1 this).2
            omega
        rw [rngF_more hfk h0, cnt_succ, hfk, if_pos rfl, ← h1]
        refine ⟨by show k + 1 - (rngF f k).1 = _; omega, fun j hj => ?_⟩
        by_cases e : j = k
        · subst e
          exact ⟨fun _ => ⟨by show (rngF f j).1 ≤ j; omega, Nat.lt_succ_self _⟩, fun _ => hfk⟩
        · rw [h2 j (by omega), hend]
          show _ ↔ (rngF f k).1 ≤ j ∧ j < k + 1
          omega
theorem plsF_cnt (T : Nat → Int) (n : Nat) (P : Nat → Int) {m : Nat} (hm : 0 < m) : ∀ k, (plsF T n P m k).length = cnt (stB T n P m) k
  | 0 => rfl
  | k + 1 => by
    rw [cnt_succ, ← plsF_cnt T n P hm k]
    by_cases h : stB T n P m k = true
    · rw [plsF_hit ⟨hm, h⟩, if_pos h, List.length_append]
      rfl
    · rw [plsF_miss (fun g => h g.2), if_neg h]
      rfl
/-- as many places as suffixes. -/
theorem rngF_places {T : Nat → Int} {n : Nat} {P : Nat → Int} {m : Nat} {s : Nat → Nat} (hs : IsSA T n s) (hm : 0 < m) : (rngF (fun i => stB T n P m (s i)) n).2 - (rngF (fun i => stB T n P m (s i)) n).1 = (plsF T n P m n).length := by
  rw [(rngF_side (f := fun i => stB T n P m (s i)) (n := n) (fun i j k h1 h2 h3 h4 h5 => stB_between hs h1 h2 h3 h4 h5) n (Nat.le_refl _)).1, plsF_cnt T n P hm]
  exact cnt_bij ⟨hs.1, fun i j hi hj he => hs.inj hi hj he⟩ (stB T n P m)
/-- a part stands where it was taken from. -/
theorem stN_part (T : Nat → Int) {n a l : Nat} (h : a + l ≤ n) : StN T n (fun j => T (a + j)) l a := ⟨h, fun _ _ => rfl⟩
end Go.Proofs.YtbkdloebbbmkaaaGreat

namespace Go.Proofs.YtbkdloebbbmkaaaGreat
open Pl (cnt cnt_succ cnt_congr)

/-- where the place ahead stands in the order. -/
theorem ahead_once {V T : Nat → Int} {n : Nat} {s : Nat → Nat} (hE : OnceT T n) (hs : IsSA T n s) (hV : ∀ i, i < n → V i = T (aheadN n (s i))) {i : Nat} (hi : i < n) : s (stepI V n i) = aheadN n (s i) := by
  have hex : ∀ i, ∃ j, i < n → j < n ∧ s j = aheadN n (s i) := fun i => by
    by_cases h : i < n
    · obtain ⟨j, h1, h2⟩ := hs.onto (aheadN_lt (hs.1 i h))
      exact ⟨j, fun _ => ⟨h1, h2⟩⟩
    · exact ⟨0, fun h' => absurd h' h⟩
  obtain ⟨f, hf⟩ : ∃ f : Nat → Nat, ∀ i, i < n → f i < n ∧ s (f i) = aheadN n (s i) := ⟨fun i => (hex i).choose, fun i hi => (hex i).choose_spec hi⟩
  have hb : Bij n f := ⟨fun i hi => (hf i hi).1, fun i j hi hj he => by
    have h1 := (hf i hi).2
    rw [he, (hf j hj).2] at h1
    exact (hs.inj hj hi (aheadN_inj (hs.1 j hj) (hs.1 i hi) h1)).symm⟩
  have lt_iff : ∀ a b, a < n → b < n → (a < b ↔ SLess T n (s a) (s b)) := fun a b ha hb => by
    constructor
    · intro h
      exact hs.2 a b h hb
    · intro h
      rcases Nat.lt_trichotomy a b with h1 | h1 | h1
      · exact h1
      · rw [h1] at h
        exact absurd h sless_irrefl
      · exact absurd h (sless_asymm (hs.2 b a h1 ha))
  have hlast : ∀ p, p < n → T p = T (n - 1) → p = n - 1 := fun p hp he => by
    by_cases h : p + 1 < n
    · exact absurd he (hE.2 p h)
    · omega
  have ho : ∀ i j, i < n → j < n → (f j < f i ↔ V j < V i ∨ V j = V i ∧ j < i) := fun i j hi hj => by
    rw [lt_iff _ _ (hf j hj).1 (hf i hi).1, (hf j hj).2, (hf i hi).2, hV i hi, hV j hj]
    have hp := aheadN_lt (hs.1 j hj)
    have hq := aheadN_lt (hs.1 i hi)
    by_cases he : T (aheadN n (s j)) = T (aheadN n (s i))
    · have hne : ¬ T (aheadN n (s j)) < T (aheadN n (s i)) := by omega
      by_cases h0 : s j = 0
      · have h1 : aheadN n (s i) = n - 1 := hlast _ hq (by rw [← he]; unfold aheadN; rw [if_pos h0])
        have h2 : s i = 0 := by
          unfold aheadN at h1
          split at h1
          · assumption
          · have := hs.1 i hi
            omega
        have hji : j = i := hs.inj hj hi (by omega)
        subst hji
        constructor
        · intro h
          exact absurd h sless_irrefl
        · rintro (h | ⟨_, h⟩) <;> omega
      · by_cases h0' : s i = 0
        · have h1 : aheadN n (s j) = n - 1 := hlast _ hp (by rw [he]; unfold aheadN; rw [if_pos h0'])
          have := hs.1 j hj
          unfold aheadN at h1
          rw [if_neg h0] at h1
          omega
        · rw [sless_step hp hq he]
          have e1 : aheadN n (s j) + 1 = s j := by unfold aheadN; rw [if_neg h0]; omega
          have e2 : aheadN n (s i) + 1 = s i := by unfold aheadN; rw [if_neg h0']; omega
          rw [e1, e2, ← lt_iff j i hj hi]
          constructor
          · intro h
            exact .inr ⟨he, h⟩
          · rintro (h | ⟨_, h⟩)
            · exact absurd h hne
            · exact h
    · rw [sless_now hp hq he]
      constructor
      · intro h
        exact .inl h
      · rintro (h | ⟨h, _⟩)
        · exact h
        · exact absurd h he
  rw [← bij_ranked hb ho hi, (hf i hi).2]
theorem ahead_mod {n p : Nat} (hp : p < n) : (p + n - 1) % n = aheadN n p := by
  unfold aheadN
  by_cases h : p = 0
  · rw [if_pos h, h, Nat.zero_add, Nat.mod_eq_of_lt (by omega)]
  · rw [if_neg h, show p + n - 1 = p - 1 + n by omega, Nat.add_mod_right, Nat.mod_eq_of_lt (by omega)]
/-- where the suffix ahead stands: what is below its number, and how many of it come ahead. -/
def lfF (T : Nat → Int) (n : Nat) (s : Nat → Nat) (i : Nat) : Nat := trnB T n s (trnF T n s i) + trnC T n s (trnF T n s i) i
theorem lfF_is (T : Nat → Int) (n : Nat) (s : Nat → Nat) (i : Nat) : lfF T n s i = stepI (trnF T n s) n i := rfl
theorem lfF_lt {T : Nat → Int} {n : Nat} {s : Nat → Nat} {i : Nat} (hi : i < n) : lfF T n s i < n := by rw [lfF_is]; exact stepI_lt hi
theorem trnF_at {T : Nat → Int} {n : Nat} {s : Nat → Nat} (hs : IsSA T n s) {i : Nat} (hi : i < n) : trnF T n s i = T (aheadN n (s i)) := by
  unfold trnF
  rw [ahead_mod (hs.1 i hi)]
theorem lfF_at {T : Nat → Int} {n : Nat} {s : Nat → Nat} (hE : OnceT T n) (hs : IsSA T n s) {i : Nat} (hi : i < n) : s (lfF T n s i) = aheadN n (s i) := by
  rw [lfF_is]
  exact ahead_once hE hs (fun i hi => trnF_at hs hi) hi
/-- going ahead, as long as it is no round. -/
def lfK (T : Nat → Int) (n : Nat) (s : Nat → Nat) : Nat → Nat → Nat
  | 0, i => i
  | d + 1, i => lfF T n s (lfK T n s d i)
theorem lfK_at {T : Nat → Int} {n : Nat} {s : Nat → Nat} (hE : OnceT T n) (hs : IsSA T n s) {i : Nat} (hi : i < n) : ∀ d, d ≤ s i → lfK T n s d i < n ∧ s (lfK T n s d i) = s i - d
  | 0, _ => ⟨hi, rfl⟩
  | d + 1, h => by
    obtain ⟨h1, h2⟩ := lfK_at hE hs hi d (by omega)
    refine ⟨lfF_lt h1, ?_⟩
    show s (lfF T n s (lfK T n s d i)) = _
    rw [lfF_at hE hs h1, h2]
    unfold aheadN
    rw [if_neg (by omega)]
    omega
theorem cnt_mono_ {f : Nat → Bool} {a b : Nat} (h : a ≤ b) : cnt f a ≤ cnt f b := by
  obtain ⟨d, rfl⟩ : ∃ d, b = a + d := ⟨b - a, by omega⟩
  rw [Pl.cnt_add]
  omega
/-- the t-th one that is so. -/
theorem cnt_sel {f : Nat → Bool} {a t : Nat} : ∀ {b : Nat}, cnt f a ≤ t → t < cnt f b → ∃ i, a ≤ i ∧ i < b ∧ f i = true ∧ cnt f i = t
  | 0, h1, h2 => absurd h2 (Nat.not_lt_zero _)
  | b + 1, h1, h2 => by
    rw [cnt_succ] at h2
    by_cases h : t < cnt f b
    · obtain ⟨i, g1, g2, g3⟩ := cnt_sel h1 h
      exact ⟨i, g1, by omega, g3⟩
    · cases hf : f b with
      | false =>
        rw [hf] at h2
        exact absurd h2 (by simpa using h)
      | true =>
        rw [hf, if_pos rfl] at h2
        refine ⟨b, Nat.le_of_not_lt fun g => ?_, Nat.lt_succ_self b, hf, by omega⟩
        have := cnt_mono_ (f := f) (show b + 1 ≤ a by omega)
        rw [cnt_succ, hf, if_pos rfl] at this
        omega
/-- all that come of a part side by side, one number ahead, stand side by side. -/
theorem nar_set {T : Nat → Int} {n : Nat} {s : Nat → Nat} {c : Int} {a b j : Nat} : (∃ i, a ≤ i ∧ i < b ∧ trnF T n s i = c ∧ lfF T n s i = j) ↔ trnB T n s c + trnC T n s c a ≤ j ∧ j < trnB T n s c + trnC T n s c b := by
  constructor
  · rintro ⟨i, h1, h2, h3, rfl⟩
    unfold lfF
    rw [h3]
    have g1 : trnC T n s c a ≤ trnC T n s c i := cnt_mono_ h1
    have g2 : trnC T n s c (i + 1) ≤ trnC T n s c b := cnt_mono_ h2
    have g3 : trnC T n s c (i + 1) = trnC T n s c i + 1 := by
      unfold trnC
      rw [cnt_succ, decide_eq_true h3, if_pos rfl]
    omega
  · rintro ⟨h1, h2⟩
    obtain ⟨i, g1, g2, g3, g4⟩ := cnt_sel (f := fun i => decide (trnF T n s i = c)) (a := a) (b := b) (t := j - trnB T n s c) (by show trnC T n s c a ≤ _; omega) (by show _ < trnC T n s c b; omega)
    rw [decide_eq_true_iff] at g3
    refine ⟨i, g1, g2, g3, ?_⟩
    unfold lfF
    rw [g3]
    have g4 : trnC T n s c i = j - trnB T n s c := g4
    omega
/-- a pattern with one more number ahead. -/
def consF (c : Int) (P : Nat → Int) : Nat → Int
  | 0 => c
  | k + 1 => P k
theorem stN_cons {T : Nat → Int} {n : Nat} {P : Nat → Int} {c : Int} {m a : Nat} (h : StN T n (consF c P) (m + 1) a) : a < n ∧ T a = c ∧ StN T n P m (a + 1) := by
  refine ⟨by have := h.1; omega, h.2 0 (by omega), by have := h.1; omega, fun i hi => ?_⟩
  have := h.2 (i + 1) (by omega)
  rw [show a + 1 + i = a + (i + 1) by omega]
  exact this
theorem stN_cons' {T : Nat → Int} {n : Nat} {P : Nat → Int} {c : Int} {m a : Nat} (h : T a = c) (h2 : StN T n P m (a + 1)) : StN T n (consF c P) (m + 1) a := by
  refine ⟨by have := h2.1; omega, fun i hi => ?_⟩
  cases i with
  | zero => exact h
  | succ i =>
    have := h2.2 i (by omega)
    rw [show a + 1 + i = a + (i + 1) by omega] at this
    exact this
/-- the suffixes that begin with c and then P, of those that begin with P: where c isn't the last number, or P is empty. -/
theorem nar_stands {T : Nat → Int} {n : Nat} {s : Nat → Nat} (hE : OnceT T n) (hs : IsSA T n s) {P : Nat → Int} {m : Nat} {c : Int} (hc : c ≠ T (n - 1) ∨ m = 0) {j : Nat} (hj : j < n) :
    stB T n (consF c P) (m + 1) (s j) = true ↔ ∃ i, i < n ∧ stB T n P m (s i) = true ∧ trnF T n s i = c ∧ lfF T n s i = j := by
  rw [stB_iff]
  constructor
  · intro h
    obtain ⟨h1, h2, h3⟩ := stN_cons h
    obtain ⟨q, hq, hqs⟩ : ∃ q, q < n ∧ aheadN n q = s j := by
      by_cases e : s j + 1 < n
      · exact ⟨s j + 1, e, by unfold aheadN; rw [if_neg (by omega)]; omega⟩
      · exact ⟨0, by omega, by unfold aheadN; rw [if_pos rfl]; omega⟩
    obtain ⟨i, hi, hsi⟩ := hs.onto hq
    refine ⟨i, hi, ?_, by rw [trnF_at hs hi, hsi, hqs]; exact h2, hs.inj (lfF_lt hi) hj (by rw [lfF_at hE hs hi, hsi, hqs])⟩
    rw [stB_iff, hsi]
    by_cases hm : m = 0
    · subst hm
      exact ⟨by omega, fun k hk => absurd hk (Nat.not_lt_zero k)⟩
    · have h4 : s j + 1 < n := by have := h3.1; omega
      have e : q = s j + 1 := aheadN_inj hq h4 (by rw [hqs]; unfold aheadN; rw [if_neg (by omega)]; omega)
      rw [e]
      exact h3
  · rintro ⟨i, hi, h1, h2, h3⟩
    have e : s j = aheadN n (s i) := by rw [← h3]; exact lfF_at hE hs hi
    rw [trnF_at hs hi, ← e] at h2
    rw [stB_iff] at h1
    by_cases h0 : s i = 0
    · have h4 : s j = n - 1 := by rw [e]; unfold aheadN; rw [if_pos h0]
      rcases hc with hc | hc
      · rw [h4] at h2
        exact absurd h2.symm hc
      · subst hc
        exact stN_cons' h2 ⟨by have := hs.1 j hj; omega, fun k hk => absurd hk (Nat.not_lt_zero k)⟩
    · have h4 : s i = s j + 1 := by
        rw [e]
        unfold aheadN
        rw [if_neg h0]
        omega
      rw [h4] at h1
      exact stN_cons' h2 h1
/-- of the last number ahead of anything there is none. -/
theorem nar_last {T : Nat → Int} {n : Nat} (hE : OnceT T n) {P : Nat → Int} {m : Nat} (hm : 0 < m) {a : Nat} : stB T n (consF (T (n - 1)) P) (m + 1) a = false := by
  rw [Bool.eq_false_iff]
  intro h
  rw [stB_iff] at h
  obtain ⟨h1, h2, h3⟩ := stN_cons h
  have := h3.1
  exact hE.2 a (by omega) h2
theorem rngF_nil {f : Nat → Bool} : ∀ {n : Nat}, (∀ j, j < n → f j = false) → rngF f n = (0, 0)
  | 0, _ => rfl
  | n + 1, h => by rw [rngF_miss (h n (Nat.lt_succ_self n)), rngF_nil fun j hj => h j (by omega)]
theorem rngF_of {f : Nat → Bool} {x y : Nat} : ∀ {n : Nat}, x < y → y ≤ n → (∀ j, j < n → (f j = true ↔ x ≤ j ∧ j < y)) → rngF f n = (x, y)
  | 0, h1, h2, _ => by omega
  | n + 1, h1, h2, h => by
    by_cases e : y = n + 1
    · have hn : f n = true := (h n (Nat.lt_succ_self n)).2 ⟨by omega, by omega⟩
      by_cases hx : x = n
      · have h0 : rngF f n = (0, 0) := rngF_nil fun j hj => by
          rw [Bool.eq_false_iff]
          intro g
          have := (h j (by omega)).1 g
          omega
        rw [rngF_first hn (by rw [h0]), hx, e]
      · have ih := rngF_of (f := f) (x := x) (y := n) (n := n) (by omega) (Nat.le_refl _) fun j hj => by
          rw [h j (by omega)]
          omega
        rw [rngF_more hn (by rw [ih]; show n ≠ 0; omega), ih, e]
    · have hn : f n = false := by
        rw [Bool.eq_false_iff]
        intro g
        have := (h n (Nat.lt_succ_self n)).1 g
        omega
      rw [rngF_miss hn]
      exact rngF_of h1 (by omega) fun j hj => h j (by omega)
/-- those that stand between the ends of their range. -/
theorem rngF_in {T : Nat → Int} {n : Nat} {s : Nat → Nat} (hs : IsSA T n s) {P : Nat → Int} {m : Nat} {i : Nat} (hi : i < n) : stB T n P m (s i) = true ↔ (rngF (fun i => stB T n P m (s i)) n).1 ≤ i ∧ i < (rngF (fun i => stB T n P m (s i)) n).2 :=
  (rngF_side (f := fun i => stB T n P m (s i)) (n := n) (fun _ _ _ h1 h2 h3 h4 h5 => stB_between hs h1 h2 h3 h4 h5) n (Nat.le_refl _)).2 i hi
/-- the range of one number more. -/
theorem nar_range {T : Nat → Int} {n : Nat} {s : Nat → Nat} (hE : OnceT T n) (hs : IsSA T n s) {P : Nat → Int} {m : Nat} {c : Int} (hc : c ≠ T (n - 1) ∨ m = 0) {a b : Nat} (hab : rngF (fun i => stB T n P m (s i)) n = (a, b)) :
    rngF (fun i => stB T n (consF c P) (m + 1) (s i)) n = if trnC T n s c a ≠ trnC T n s c b then (trnB T n s c + trnC T n s c a, trnB T n s c + trnC T n s c b) else (0, 0) := by
  have hle := rngF_le (fun i => stB T n P m (s i)) n
  rw [hab] at hle
  have hle : a ≤ b ∧ b ≤ n := hle
  have hset : ∀ j, j < n → (stB T n (consF c P) (m + 1) (s j) = true ↔ trnB T n s c + trnC T n s c a ≤ j ∧ j < trnB T n s c + trnC T n s c b) := fun j hj => by
    rw [nar_stands hE hs hc hj, ← nar_set]
    constructor
    · rintro ⟨i, hi, h1, h2, h3⟩
      have := (rngF_in hs hi).1 h1
      rw [hab] at this
      exact ⟨i, this.1, this.2, h2, h3⟩
    · rintro ⟨i, h1, h2, h3, h4⟩
      have hi : i < n := by omega
      exact ⟨i, hi, (rngF_in hs hi).2 (by rw [hab]; exact ⟨h1, h2⟩), h3, h4⟩
  have hmono : trnC T n s c a ≤ trnC T n s c b := cnt_mono_ hle.1
  by_cases e : trnC T n s c a = trnC T n s c b
  · rw [if_neg (fun h => h e)]
    refine rngF_nil fun j hj => ?_
    rw [Bool.eq_false_iff]
    intro g
    have := (hset j hj).1 g
    omega
  · rw [if_pos e]
    refine rngF_of (by omega) ?_ hset
    refine Nat.le_of_not_lt fun g => ?_
    obtain ⟨i, h1, h2, h3, h4⟩ := (nar_set (T := T) (n := n) (s := s) (c := c) (a := a) (b := b) (j := trnB T n s c + trnC T n s c b - 1)).2 ⟨by omega, by omega⟩
    have := lfF_lt (T := T) (s := s) (show i < n by omega)
    omega
end Go.Proofs.YtbkdloebbbmkaaaGreat

namespace Go.Proofs.YtbkdloebbbmkaaaGreat
open Pl (cnt cnt_succ cnt_congr cnt_at_lt)

/-- x comes ahead of y: a lesser number there, or a like one further ahead. -/
def AheadOf (V : Nat → Int) (x y : Nat) : Prop := V x < V y ∨ V x = V y ∧ x < y
section
variable {V : Nat → Int} {n : Nat}
theorem aheadOf_irrefl {x : Nat} : ¬ AheadOf V x x := by rintro (h | h) <;> omega
theorem aheadOf_trans {x y z : Nat} (h : AheadOf V x y) (h' : AheadOf V y z) : AheadOf V x z := by
  rcases h with h | ⟨h, g⟩ <;> rcases h' with h' | ⟨h', g'⟩
  · exact .inl (by omega)
  · exact .inl (by omega)
  · exact .inl (by omega)
  · exact .inr ⟨by omega, by omega⟩
theorem aheadOf_or {x y : Nat} (h : x ≠ y) : AheadOf V x y ∨ AheadOf V y x := by
  rcases Int.lt_trichotomy (V x) (V y) with g | g | g
  · exact .inl (.inl g)
  · rcases Nat.lt_or_gt_of_ne h with q | q
    · exact .inl (.inr ⟨g, q⟩)
    · exact .inr (.inr ⟨g.symm, q⟩)
  · exact .inr (.inl g)
theorem below_more {c c' : Int} (h : c < c') : ∀ m, belowI V m c + aheadI V m c ≤ belowI V m c'
  | 0 => Nat.le_refl _
  | m + 1 => by
    have := below_more h m
    rw [belowI_succ, aheadI_succ, belowI_succ]
    by_cases h1 : V m < c
    · rw [if_pos h1, if_neg (by omega), if_pos (by omega)]
      omega
    · rw [if_neg h1]
      by_cases h2 : V m = c
      · rw [if_pos h2, if_pos (by omega)]
        omega
      · rw [if_neg h2]
        split <;> omega
theorem stepI_mono {i j : Nat} (hi : i < n) (_hj : j < n) (h : AheadOf V i j) : stepI V n i < stepI V n j := by
  unfold stepI
  rcases h with h | ⟨h, g⟩
  · have h1 := below_more h n (V := V)
    have h2 : aheadI V i (V i) < aheadI V n (V i) := cnt_at_lt (f := fun k => decide (V k = V i)) hi (by simp)
    omega
  · have h2 : aheadI V i (V i) < aheadI V j (V i) := cnt_at_lt (f := fun k => decide (V k = V i)) g (by simp)
    rw [← h]
    omega
theorem stepI_inj {i j : Nat} (hi : i < n) (hj : j < n) (h : stepI V n i = stepI V n j) : i = j := by
  apply Classical.byContradiction
  intro hne
  rcases aheadOf_or (V := V) hne with g | g
  · have := stepI_mono hi hj g
    omega
  · have := stepI_mono hj hi g
    omega
theorem ahead_of_step {i j : Nat} (hi : i < n) (hj : j < n) (h : stepI V n i < stepI V n j) : AheadOf V i j := by
  by_cases hne : i = j
  · rw [hne] at h
    omega
  · rcases aheadOf_or (V := V) hne with g | g
    · exact g
    · have := stepI_mono hj hi g
      omega
/-- where the suffix behind each one stands. -/
def NextOf (V : Nat → Int) (n : Nat) (X : Nat → Int) : Prop := ∀ p, p < n → X (stepI V n p) = (p : Int)
theorem rising_is {g : Nat → Nat} (hg : ∀ i, i < n → g i < n) (hr : ∀ i j, i < j → j < n → g i < g j) : ∀ i, i < n → g i = i := fun i hi => by
  have h : ∀ d i, i + d < n → g i + d ≤ g (i + d) := by
    intro d
    induction d with
    | zero => intro i _; exact Nat.le_refl _
    | succ d ih =>
      intro i hi
      have h1 := ih i (by omega)
      have h2 := hr (i + d) (i + (d + 1)) (by omega) hi
      omega
  have h1 := h (n - 1 - i) i (by omega)
  have h2 := h i 0 (by omega)
  have h3 := hg (n - 1) (by omega)
  rw [show i + (n - 1 - i) = n - 1 by omega] at h1
  rw [Nat.zero_add] at h2
  omega
/-- the places in order are it. -/
theorem next_of_sorted {X : Nat → Int} {f : Nat → Nat} (hf : ∀ i, i < n → f i < n) (hs : ∀ i j, i < j → j < n → AheadOf V (f i) (f j)) (hX : ∀ i, i < n → X i = ((f i : Nat) : Int)) : NextOf V n X := fun p hp => by
  obtain ⟨i, hi, rfl⟩ := inj_onto n f hf (fun i j hi hj he => by
    rcases Nat.lt_trichotomy i j with h | h | h
    · have := hs i j h hj
      rw [he] at this
      exact absurd this aheadOf_irrefl
    · exact h
    · have := hs j i h hi
      rw [he] at this
      exact absurd this aheadOf_irrefl) p hp
  rw [rising_is (g := fun i => stepI V n (f i)) (fun i hi => stepI_lt (hf i hi)) (fun i j hij hj => stepI_mono (hf i (by omega)) (hf j hj) (hs i j hij hj)) i hi, hX i hi]
theorem stepI_onto {i : Nat} (hi : i < n) : ∃ p, p < n ∧ stepI V n p = i := inj_onto n (stepI V n) (fun _ h => stepI_lt h) (fun _ _ h h' e => stepI_inj h h' e) i hi
variable {X : Nat → Int}
/-- the same, as a natural number. -/
def nxN (X : Nat → Int) (i : Nat) : Nat := (X i).toNat
theorem NextOf.at_ (h : NextOf V n X) {p : Nat} (hp : p < n) : nxN X (stepI V n p) = p := by
  unfold nxN
  rw [h p hp, Int.toNat_natCast]
theorem NextOf.lt (h : NextOf V n X) {i : Nat} (hi : i < n) : nxN X i < n := by
  obtain ⟨p, hp, rfl⟩ := stepI_onto (V := V) hi
  rw [h.at_ hp]
  exact hp
theorem NextOf.int (h : NextOf V n X) {i : Nat} (hi : i < n) : X i = ((nxN X i : Nat) : Int) := by
  obtain ⟨p, hp, rfl⟩ := stepI_onto (V := V) hi
  rw [h.at_ hp, h p hp]
theorem NextOf.back (h : NextOf V n X) {i : Nat} (hi : i < n) : stepI V n (nxN X i) = i := by
  obtain ⟨p, hp, rfl⟩ := stepI_onto (V := V) hi
  rw [h.at_ hp]
/-- the least number is there once, at wh. -/
def LeastAt (V : Nat → Int) (n wh : Nat) : Prop := ∀ j, j < n → j ≠ wh → V wh < V j
theorem least_iff (h : NextOf V n X) {wh : Nat} (hw : wh < n) : LeastAt V n wh ↔ nxN X 0 = wh ∧ (n = 1 ∨ V (nxN X 1) ≠ V wh) := by
  have h0 := h.lt (i := 0) (by omega)
  have b0 := h.back (i := 0) (by omega)
  constructor
  · intro hl
    have e0 : nxN X 0 = wh := by
      apply Classical.byContradiction
      intro hne
      have := stepI_mono hw h0 (.inl (hl _ h0 hne))
      omega
    refine ⟨e0, ?_⟩
    by_cases h1 : n = 1
    · exact .inl h1
    · have b1 := h.back (i := 1) (by omega)
      have := hl _ (h.lt (i := 1) (by omega)) (fun e => by
        rw [e, ← e0, b0] at b1
        omega)
      exact .inr (by omega)
  · rintro ⟨rfl, h1⟩ j hj hne
    have hp : 0 < stepI V n j := by
      apply Nat.pos_of_ne_zero
      intro e
      rw [← b0] at e
      exact hne (stepI_inj hj h0 e)
    rcases ahead_of_step (V := V) h0 hj (by omega) with g | ⟨g, _⟩
    · exact g
    · rcases h1 with h1 | h1
      · omega
      · have b1 := h.back (i := 1) (by omega)
        have l1 := h.lt (i := 1) (by omega)
        have q0 := ahead_of_step (V := V) h0 l1 (by omega)
        have q1 : V (nxN X 1) ≤ V j := by
          by_cases e : stepI V n j = 1
          · rw [← b1] at e
            rw [stepI_inj hj l1 e]
            exact Int.le_refl _
          · rcases ahead_of_step (V := V) l1 hj (by omega) with q | q <;> omega
        rcases q0 with q | q <;> omega
/-- the round. -/
def nxs (X : Nat → Int) (wh : Nat) : Nat → Nat
  | 0 => wh
  | m + 1 => nxN X (nxs X wh m)
theorem NextOf.nxs_lt (h : NextOf V n X) {wh : Nat} (hw : wh < n) : ∀ m, nxs X wh m < n
  | 0 => hw
  | m + 1 => h.lt (h.nxs_lt hw m)
theorem NextOf.nx_inj (h : NextOf V n X) {i j : Nat} (hi : i < n) (hj : j < n) (e : nxN X i = nxN X j) : i = j := by
  rw [← h.back hi, e, h.back hj]
/-- the round comes to wh only when all are told. -/
def FullR (X : Nat → Int) (n wh : Nat) : Prop := ∀ q, 0 < q → q < n → nxs X wh q ≠ wh
theorem NextOf.nxs_back (h : NextOf V n X) {wh : Nat} (hw : wh < n) : ∀ a d, nxs X wh (a + d) = nxs X wh a → nxs X wh d = wh := by
  intro a
  induction a with
  | zero => intro d e; rw [Nat.zero_add] at e; exact e
  | succ a ih =>
    intro d e
    rw [show a + 1 + d = a + d + 1 by omega] at e
    exact ih d (h.nx_inj (h.nxs_lt hw _) (h.nxs_lt hw _) e)
theorem NextOf.full_inj (h : NextOf V n X) {wh : Nat} (hw : wh < n) (hF : FullR X n wh) {i j : Nat} (hi : i < n) (hj : j < n) (e : nxs X wh i = nxs X wh j) : i = j := by
  rcases Nat.lt_trichotomy i j with g | g | g
  · exact absurd (h.nxs_back hw i (j - i) (by rw [show i + (j - i) = j by omega]; exact e.symm)) (hF _ (by omega) (by omega))
  · exact g
  · exact absurd (h.nxs_back hw j (i - j) (by rw [show j + (i - j) = i by omega]; exact e)) (hF _ (by omega) (by omega))
theorem NextOf.full_onto (h : NextOf V n X) {wh : Nat} (hw : wh < n) (hF : FullR X n wh) {p : Nat} (hp : p < n) : ∃ m, m < n ∧ nxs X wh m = p :=
  inj_onto n (nxs X wh) (fun m _ => h.nxs_lt hw m) (fun _ _ hi hj e => h.full_inj hw hF hi hj e) p hp
theorem NextOf.full_end (h : NextOf V n X) {wh : Nat} (hw : wh < n) (hF : FullR X n wh) : nxs X wh n = wh := by
  obtain ⟨m, hm, e⟩ := h.full_onto hw hF (h.nxs_lt hw n)
  have h1 := h.nxs_back hw m (n - m) (by rw [show m + (n - m) = n by omega]; exact e.symm)
  by_cases h0 : m = 0
  · subst h0
    exact h1
  · exact absurd h1 (hF _ (by omega) (by omega))
theorem NextOf.full_back (h : NextOf V n X) {wh : Nat} (hw : wh < n) (hF : FullR X n wh) : ∀ m, m ≤ n → backAt V n wh m = nxs X wh (n - m) := by
  intro m
  induction m with
  | zero => intro _; rw [Nat.sub_zero, h.full_end hw hF]; rfl
  | succ m ih =>
    intro hm
    show stepI V n (backAt V n wh m) = _
    rw [ih (by omega), show n - m = n - (m + 1) + 1 by omega]
    exact h.back (h.nxs_lt hw _)
/-- the list, from the front. -/
theorem NextOf.full_list (h : NextOf V n X) {wh : Nat} (hw : wh < n) (hF : FullR X n wh) {k : Nat} (hk : k < n) : backT V n wh k = V (nxs X wh (k + 1)) := by
  unfold backT
  rw [h.full_back hw hF _ (by omega), show n - (n - 1 - k) = k + 1 by omega]
theorem NextOf.ok_of (h : NextOf V n X) {wh : Nat} (hw : wh < n) (hL : LeastAt V n wh) (hF : FullR X n wh) : BackOK V n wh := by
  have hB : ∀ k, k < n → backT V n wh k = V (nxs X wh (k + 1)) := fun k hk => h.full_list hw hF hk
  have hlast : backT V n wh (n - 1) = V wh := by
    rw [hB _ (by omega), show n - 1 + 1 = n by omega, h.full_end hw hF]
  refine ⟨⟨by omega, fun i hi => ?_⟩, ?_⟩
  · rw [hlast, hB i (by omega)]
    exact hL _ (h.nxs_lt hw _) (hF _ (by omega) (by omega))
  · obtain ⟨s, hs⟩ : ∃ s : Nat → Nat, ∀ p, p < n → s p < n ∧ nxs X wh (s p) = p :=
      ⟨fun p => open Classical in if hp : p < n then (h.full_onto hw hF hp).choose else 0, fun p hp => by
        simp only [hp, dif_pos]
        exact (h.full_onto hw hF hp).choose_spec⟩
    have sx : ∀ m, m < n → s (nxs X wh m) = m := fun m hm => h.full_inj hw hF (hs _ (h.nxs_lt hw m)).1 hm (hs _ (h.nxs_lt hw m)).2
    have hfst : ∀ i, i < n → backT V n wh (s i) = V (nxN X i) := fun i hi => by
      rw [hB _ (hs i hi).1]
      show V (nxN X (nxs X wh (s i))) = _
      rw [(hs i hi).2]
    have main : ∀ m i j, n - s i ≤ m → i < j → j < n → SLess (backT V n wh) n (s i) (s j) := by
      intro m
      induction m with
      | zero =>
        intro i j hm hij hj
        have := (hs i (by omega)).1
        omega
      | succ m ih =>
        intro i j hm hij hj
        have hi : i < n := by omega
        have s1 := (hs i hi).1
        have s2 := (hs j hj).1
        rcases ahead_of_step (V := V) (h.lt hi) (h.lt hj) (by rw [h.back hi, h.back hj]; exact hij) with g | ⟨g, g'⟩
        · exact (sless_now s1 s2 (by rw [hfst i hi, hfst j hj]; omega)).2 (by rw [hfst i hi, hfst j hj]; exact g)
        · have nl : ∀ x y, x < n → y < n → nxN X x ≠ nxN X y → V (nxN X x) = V (nxN X y) → s x + 1 < n := fun x y hx hy hne he => by
            have q := (hs x hx).1
            apply Classical.byContradiction
            intro hq
            have e1 : nxN X x = wh := by
              have e2 : nxs X wh (s x + 1) = nxN X x := by
                show nxN X (nxs X wh (s x)) = _
                rw [(hs x hx).2]
              rw [← e2, show s x + 1 = n by omega, h.full_end hw hF]
            have := hL _ (h.lt hy) (fun e => hne (by rw [e1, e]))
            rw [e1] at he
            omega
          have n1 := nl i j hi hj (by omega) g
          have n2 := nl j i hj hi (by omega) g.symm
          have e1 : s (nxN X i) = s i + 1 := by
            have := sx (s i + 1) n1
            rwa [show nxs X wh (s i + 1) = nxN X i from by
              show nxN X (nxs X wh (s i)) = _
              rw [(hs i hi).2]] at this
          have e2 : s (nxN X j) = s j + 1 := by
            have := sx (s j + 1) n2
            rwa [show nxs X wh (s j + 1) = nxN X j from by
              show nxN X (nxs X wh (s j)) = _
              rw [(hs j hj).2]] at this
          refine (sless_step s1 s2 (by rw [hfst i hi, hfst j hj]; exact g)).2 ?_
          rw [← e1, ← e2]
          exact ih _ _ (by omega) g' (h.lt hj)
    refine ⟨s, ⟨fun i hi => (hs i hi).1, fun i j hij hj => main _ i j (Nat.le_refl _) hij hj⟩, sx 0 (by omega), fun i hi => ?_⟩
    unfold aheadN
    by_cases h0 : s i = 0
    · rw [if_pos h0, hlast]
      have := (hs i hi).2
      rw [h0] at this
      rw [← this]
      rfl
    · rw [if_neg h0, hB _ (by have := (hs i hi).1; omega), show s i - 1 + 1 = s i by omega, (hs i hi).2]
theorem NextOf.ok_iff (h : NextOf V n X) {wh : Nat} (hw : wh < n) : BackOK V n wh ↔ LeastAt V n wh ∧ FullR X n wh := by
  refine ⟨fun hB => ?_, fun ⟨h1, h2⟩ => h.ok_of hw h1 h2⟩
  obtain ⟨hE, s, hsa, h0, hV⟩ := hB
  refine ⟨fun j hj hne => ?_, fun q hq hqn e => ?_⟩
  · have hs0 : s j ≠ 0 := fun e => hne (hsa.inj hj hw (by rw [e, h0]))
    have := hsa.1 j hj
    rw [hV wh hw, hV j hj, h0]
    unfold aheadN
    rw [if_pos rfl, if_neg hs0]
    exact hE.2 _ (by omega)
  · have step : ∀ i, i < n → s i + 1 < n → s (nxN X i) = s i + 1 := fun i hi hlt => by
      have := ahead_turn hE hsa hV (h.lt hi)
      rw [h.back hi] at this
      unfold aheadN at this
      split at this <;> omega
    have all : ∀ q, q < n → s (nxs X wh q) = q := by
      intro q
      induction q with
      | zero => intro _; exact h0
      | succ q ih =>
        intro hq
        have h1 := ih (by omega)
        show s (nxN X (nxs X wh q)) = q + 1
        rw [step _ (h.nxs_lt hw q) (by omega), h1]
    have := all q hqn
    rw [e, h0] at this
    omega
end
end Go.Proofs.YtbkdloebbbmkaaaGreat

namespace Go.Proofs.YtbkdloebbbmkaaaGreat
open Pl (cnt cnt_succ cnt_congr)

/-- the last place ahead of m that has x; -1: none. -/
def lookB (V : Nat → Int) (x : Int) : Nat → Int
  | 0 => -1
  | m + 1 => if V m = x then (m : Int) else lookB V x m
/-- the first of the d places from p on that has x; p + d: none. -/
def lookN (V : Nat → Int) (x : Int) : Nat → Nat → Nat
  | 0, p => p
  | d + 1, p => if V p = x then p else lookN V x d (p + 1)
/-- where number i stood last. -/
def lastD (V : Nat → Int) (i : Nat) : Int := lookB V (V i) i
/-- where number i stands next. -/
def nextD (V : Nat → Int) (n i : Nat) : Int := ((lookN V (V i) (n - (i + 1)) (i + 1) : Nat) : Int)
theorem lookB_hit {V : Nat → Int} {x : Int} {m : Nat} (h : V m = x) : lookB V x (m + 1) = (m : Int) := if_pos h
theorem lookB_miss {V : Nat → Int} {x : Int} {m : Nat} (h : V m ≠ x) : lookB V x (m + 1) = lookB V x m := if_neg h
theorem lookB_is {V : Nat → Int} {x : Int} : ∀ m, (lookB V x m = -1 ∧ ∀ j, j < m → V j ≠ x) ∨ ∃ p, p < m ∧ lookB V x m = (p : Int) ∧ V p = x ∧ ∀ j, p < j → j < m → V j ≠ x
  | 0 => .inl ⟨rfl, fun j hj => absurd hj (Nat.not_lt_zero j)⟩
  | m + 1 => by
    by_cases h : V m = x
    · exact .inr ⟨m, by omega, lookB_hit h, h, fun j h1 h2 => by omega⟩
    · rw [lookB_miss h]
      rcases lookB_is m (V := V) (x := x) with ⟨h1, h2⟩ | ⟨p, h1, h2, h3, h4⟩
      · exact .inl ⟨h1, fun j hj => by
          by_cases e : j = m
          · rw [e]; exact h
          · exact h2 j (by omega)⟩
      · exact .inr ⟨p, by omega, h2, h3, fun j g1 g2 => by
          by_cases e : j = m
          · rw [e]; exact h
          · exact h4 j g1 (by omega)⟩
theorem lookB_at {V : Nat → Int} {x : Int} {m p : Nat} (hp : p < m) (hx : V p = x) (h : ∀ j, p < j → j < m → V j ≠ x) : lookB V x m = (p : Int) := by
  rcases lookB_is (V := V) (x := x) m with ⟨_, h2⟩ | ⟨q, h1, h2, h3, h4⟩
  · exact absurd hx (h2 p hp)
  · rw [h2]
    rcases Nat.lt_trichotomy p q with g | g | g
    · exact absurd h3 (h q g h1)
    · rw [g]
    · exact absurd hx (h4 p g hp)
theorem lookB_none {V : Nat → Int} {x : Int} {m : Nat} (h : ∀ j, j < m → V j ≠ x) : lookB V x m = -1 := by
  rcases lookB_is (V := V) (x := x) m with ⟨h1, _⟩ | ⟨q, h1, _, h3, _⟩
  · exact h1
  · exact absurd h3 (h q h1)
theorem lookB_congr {V V' : Nat → Int} {x : Int} : ∀ {m : Nat}, (∀ j, j < m → V j = V' j) → lookB V x m = lookB V' x m
  | 0, _ => rfl
  | m + 1, h => by
    unfold lookB
    rw [h m (by omega), lookB_congr (fun j hj => h j (by omega))]
theorem lookB_room {V : Nat → Int} {x : Int} {m : Nat} : -1 ≤ lookB V x m ∧ lookB V x m < (m : Int) := by
  rcases lookB_is (V := V) (x := x) m with ⟨h1, _⟩ | ⟨q, h1, h2, _, _⟩
  · omega
  · omega
theorem lookN_is {V : Nat → Int} {x : Int} : ∀ d p, p ≤ lookN V x d p ∧ lookN V x d p ≤ p + d ∧ (∀ j, p ≤ j → j < lookN V x d p → V j ≠ x) ∧ (lookN V x d p < p + d → V (lookN V x d p) = x)
  | 0, p => ⟨Nat.le_refl _, Nat.le_refl _, fun j h1 h2 => by
      have h2 : j < p := h2
      omega, fun h => absurd h (Nat.lt_irrefl _)⟩
  | d + 1, p => by
    unfold lookN
    by_cases h : V p = x
    · rw [if_pos h]
      exact ⟨Nat.le_refl _, by omega, fun j h1 h2 => by omega, fun _ => h⟩
    · rw [if_neg h]
      obtain ⟨h1, h2, h3, h4⟩ := lookN_is d (p + 1) (V := V) (x := x)
      refine ⟨by omega, by omega, fun j g1 g2 => ?_, fun g => h4 (by omega)⟩
      by_cases e : j = p
      · rw [e]; exact h
      · exact h3 j (by omega) g2
theorem lookN_at {V : Nat → Int} {x : Int} {d p q : Nat} (h1 : p ≤ q) (h2 : q ≤ p + d) (h3 : ∀ j, p ≤ j → j < q → V j ≠ x) (h4 : q < p + d → V q = x) : lookN V x d p = q := by
  obtain ⟨g1, g2, g3, g4⟩ := lookN_is (V := V) (x := x) d p
  rcases Nat.lt_trichotomy (lookN V x d p) q with g | g | g
  · exact absurd (g4 (by omega)) (h3 _ g1 g)
  · exact g
  · exact absurd (h4 (by omega)) (g3 q h1 g)
theorem nextD_at {V : Nat → Int} {n i q : Nat} (hi : i < n) (h1 : i < q) (h2 : q ≤ n) (h3 : ∀ j, i < j → j < q → V j ≠ V i) (h4 : q < n → V q = V i) : nextD V n i = (q : Int) := by
  unfold nextD
  rw [lookN_at (q := q) h1 (by omega) (fun j g1 g2 => h3 j g1 g2) (fun g => h4 (by omega))]
theorem nextD_is {V : Nat → Int} {n i : Nat} (hi : i < n) : ∃ q : Nat, nextD V n i = (q : Int) ∧ i < q ∧ q ≤ n ∧ (∀ j, i < j → j < q → V j ≠ V i) ∧ (q < n → V q = V i) := by
  obtain ⟨g1, g2, g3, g4⟩ := lookN_is (V := V) (x := V i) (n - (i + 1)) (i + 1)
  exact ⟨_, rfl, by omega, by omega, fun j h1 h2 => g3 j h1 h2, fun h => g4 (by omega)⟩
theorem lastD_is (V : Nat → Int) (i : Nat) : (lastD V i = -1 ∧ ∀ j, j < i → V j ≠ V i) ∨ ∃ p, p < i ∧ lastD V i = (p : Int) ∧ V p = V i ∧ ∀ j, p < j → j < i → V j ≠ V i := lookB_is i
theorem lastD_room (V : Nat → Int) (i : Nat) : -1 ≤ lastD V i ∧ lastD V i < (i : Int) := lookB_room
theorem nextD_room {V : Nat → Int} {n i : Nat} (hi : i < n) : (i : Int) < nextD V n i ∧ nextD V n i ≤ (n : Int) := by
  obtain ⟨q, h1, h2, h3, _⟩ := nextD_is (V := V) hi
  omega
/-- the next one of the last one. -/
theorem next_last {V : Nat → Int} {n i p : Nat} (hi : i < n) (h : lastD V i = (p : Int)) : nextD V n p = (i : Int) := by
  rcases lastD_is V i with ⟨h1, _⟩ | ⟨q, h1, h2, h3, h4⟩
  · omega
  · obtain rfl : p = q := by omega
    exact nextD_at (by omega) h1 (by omega) (fun j g1 g2 => by rw [h3]; exact h4 j g1 g2) (fun _ => h3.symm)
/-- the last one of the next one. -/
theorem last_next {V : Nat → Int} {n i q : Nat} (hi : i < n) (h : nextD V n i = (q : Int)) (hq : q < n) : lastD V q = (i : Int) := by
  obtain ⟨q', h1, h2, h3, h4, h5⟩ := nextD_is (V := V) hi
  obtain rfl : q = q' := by omega
  have e := h5 hq
  exact lookB_at h2 e.symm (fun j g1 g2 => by rw [e]; exact h4 j g1 g2)
/-- seen from behind. -/
theorem next_mirror {V : Nat → Int} {n i : Nat} (hi : i < n) : nextD (fun j => V (n - 1 - j)) n (n - 1 - i) = (n : Int) - 1 - lastD V i := by
  have e0 : n - 1 - (n - 1 - i) = i := by omega
  rcases lastD_is V i with ⟨h1, h2⟩ | ⟨p, h1, h2, h3, h4⟩
  · rw [h1, nextD_at (q := n) (by omega) (by omega) (Nat.le_refl _) (fun j g1 g2 => by
      show V (n - 1 - j) ≠ V (n - 1 - (n - 1 - i))
      rw [e0]
      exact h2 _ (by omega)) (fun g => absurd g (Nat.lt_irrefl _))]
    omega
  · rw [h2, nextD_at (q := n - 1 - p) (by omega) (by omega) (by omega) (fun j g1 g2 => by
      show V (n - 1 - j) ≠ V (n - 1 - (n - 1 - i))
      rw [e0]
      exact h4 _ (by omega) (by omega)) (fun _ => by
      show V (n - 1 - (n - 1 - p)) = V (n - 1 - (n - 1 - i))
      rw [e0, show n - 1 - (n - 1 - p) = p by omega]
      exact h3)]
    omega
/-- how many of the first m places are d, from a on, ahead of b. -/
def cntR (V : Nat → Int) (d a b : Int) (m : Nat) : Nat := cnt (fun j => decide (V j = d ∧ a ≤ (j : Int) ∧ (j : Int) < b)) m
theorem cntR_hit {V : Nat → Int} {d a b : Int} {m : Nat} (h : V m = d ∧ a ≤ (m : Int) ∧ (m : Int) < b) : cntR V d a b (m + 1) = cntR V d a b m + 1 := by
  unfold cntR
  rw [cnt_succ, if_pos (decide_eq_true h)]
theorem cntR_miss {V : Nat → Int} {d a b : Int} {m : Nat} (h : ¬ (V m = d ∧ a ≤ (m : Int) ∧ (m : Int) < b)) : cntR V d a b (m + 1) = cntR V d a b m := by
  unfold cntR
  rw [cnt_succ, if_neg (by rw [decide_eq_true_iff]; exact h), Nat.add_zero]
theorem cntR_le (V : Nat → Int) (d a b : Int) (m : Nat) : cntR V d a b m ≤ m := Pl.cnt_le _ m
/-- how many of them have none ahead of them from a on. -/
def fstR (V : Nat → Int) (d a b : Int) (m : Nat) : Nat := cnt (fun j => decide ((a ≤ (j : Int) ∧ (j : Int) < b ∧ V j = d) ∧ lastD V j < a)) m
theorem fstR_hit {V : Nat → Int} {d a b : Int} {m : Nat} (h : (a ≤ (m : Int) ∧ (m : Int) < b ∧ V m = d) ∧ lastD V m < a) : fstR V d a b (m + 1) = fstR V d a b m + 1 := by
  unfold fstR
  rw [cnt_succ, if_pos (decide_eq_true h)]
theorem fstR_miss {V : Nat → Int} {d a b : Int} {m : Nat} (h : ¬ ((a ≤ (m : Int) ∧ (m : Int) < b ∧ V m = d) ∧ lastD V m < a)) : fstR V d a b (m + 1) = fstR V d a b m := by
  unfold fstR
  rw [cnt_succ, if_neg (by rw [decide_eq_true_iff]; exact h), Nat.add_zero]
/-- the first one alone. -/
theorem firsts_one {V : Nat → Int} {d a b : Int} (ha : 0 ≤ a) : ∀ m, fstR V d a b m = min (cntR V d a b m) 1
  | 0 => rfl
  | m + 1 => by
    have ih := firsts_one ha (V := V) (d := d) (b := b) m
    by_cases h : V m = d ∧ a ≤ (m : Int) ∧ (m : Int) < b
    · rw [cntR_hit h]
      have hz : cntR V d a b m = 0 ↔ lastD V m < a := by
        constructor
        · intro h0
          rcases lastD_is V m with ⟨h1, _⟩ | ⟨p, h1, h2, h3, _⟩
          · omega
          · apply Int.lt_of_not_ge
            intro g
            have h4 : cntR V d a b p + 1 ≤ cntR V d a b m := by
              rw [← cntR_hit (V := V) (d := d) (a := a) (b := b) (m := p) ⟨by rw [h3]; exact h.1, by omega, by omega⟩]
              exact Pl.cnt_mono _ h1
            omega
        · intro hl
          exact Pl.cnt_zero fun j hj => decide_eq_false fun g => by
            rcases lastD_is V m with ⟨_, h2⟩ | ⟨p, h1, h2, h3, h4⟩
            · exact h2 j hj (by rw [g.1, h.1])
            · by_cases e : p < j
              · exact h4 j e hj (by rw [g.1, h.1])
              · omega
      by_cases hl : lastD V m < a
      · rw [fstR_hit ⟨⟨h.2.1, h.2.2, h.1⟩, hl⟩, ih, hz.2 hl]
        rfl
      · rw [fstR_miss (fun g => hl g.2), ih]
        have : cntR V d a b m ≠ 0 := fun e => hl (hz.1 e)
        omega
    · rw [cntR_miss h, fstR_miss (fun g => h ⟨g.1.2.2, g.1.1, g.1.2.1⟩), ih]
end Go.Proofs.YtbkdloebbbmkaaaGreat

namespace Go.Proofs.YtbkdloebbbmkaaaGreat
open Pl (cnt cnt_succ cnt_congr)

/-- what of the first m numbers stands from a on, ahead of b. -/
def partL (V : Nat → Int) (a b : Int) : Nat → List Int
  | 0 => []
  | m + 1 => partL V a b m ++ (if a ≤ (m : Int) ∧ (m : Int) < b then [V m] else [])
theorem partL_hit {V : Nat → Int} {a b : Int} {m : Nat} (h : a ≤ (m : Int) ∧ (m : Int) < b) : partL V a b (m + 1) = partL V a b m ++ [V m] := by
  show partL V a b m ++ _ = _
  rw [if_pos h]
theorem partL_miss {V : Nat → Int} {a b : Int} {m : Nat} (h : ¬ (a ≤ (m : Int) ∧ (m : Int) < b)) : partL V a b (m + 1) = partL V a b m := by
  show partL V a b m ++ _ = _
  rw [if_neg h, List.append_nil]
theorem partL_le (V : Nat → Int) (a b : Int) : ∀ m, (partL V a b m).length ≤ m
  | 0 => Nat.le_refl _
  | m + 1 => by
    have := partL_le V a b m
    by_cases h : a ≤ (m : Int) ∧ (m : Int) < b
    · rw [partL_hit h, List.length_append]
      show _ + 1 ≤ m + 1
      omega
    · rw [partL_miss h]
      omega
theorem mem_partL {V : Nat → Int} {a b x : Int} : ∀ {m}, x ∈ partL V a b m ↔ ∃ j : Nat, j < m ∧ a ≤ (j : Int) ∧ (j : Int) < b ∧ V j = x
  | 0 => ⟨fun h => (by cases h), fun ⟨j, hj, _⟩ => absurd hj (Nat.not_lt_zero j)⟩
  | m + 1 => by
    have ih := mem_partL (V := V) (a := a) (b := b) (x := x) (m := m)
    by_cases h : a ≤ (m : Int) ∧ (m : Int) < b
    · rw [partL_hit h, List.mem_append, ih, List.mem_singleton]
      constructor
      · rintro (⟨j, h1, h2⟩ | h1)
        · exact ⟨j, by omega, h2⟩
        · exact ⟨m, by omega, h.1, h.2, h1.symm⟩
      · rintro ⟨j, h1, h2, h3, h4⟩
        by_cases e : j = m
        · exact .inr (by rw [← h4, e])
        · exact .inl ⟨j, by omega, h2, h3, h4⟩
    · rw [partL_miss h, ih]
      constructor
      · rintro ⟨j, h1, h2⟩
        exact ⟨j, by omega, h2⟩
      · rintro ⟨j, h1, h2, h3, h4⟩
        by_cases e : j = m
        · subst e
          exact absurd ⟨h2, h3⟩ h
        · exact ⟨j, by omega, h2, h3, h4⟩
/-- how many of the range are such. -/
theorem countP_partL (V : Nat → Int) (a b : Int) (p : Int → Bool) : ∀ m, (partL V a b m).countP p = cnt (fun j => decide (a ≤ (j : Int) ∧ (j : Int) < b) && p (V j)) m
  | 0 => rfl
  | m + 1 => by
    have ih := countP_partL V a b p m
    rw [cnt_succ]
    by_cases h : a ≤ (m : Int) ∧ (m : Int) < b
    · rw [partL_hit h, List.countP_append, ih, decide_eq_true h, Bool.true_and, List.countP_cons, List.countP_nil, Nat.zero_add]
    · rw [partL_miss h, ih, decide_eq_false h, Bool.false_and]
      rfl
/-- how many of the range are less than c. -/
def lessR (V : Nat → Int) (a b c : Int) (m : Nat) : Nat := cnt (fun j => decide (a ≤ (j : Int) ∧ (j : Int) < b) && decide (V j < c)) m
theorem lessR_part (V : Nat → Int) (a b c : Int) (m : Nat) : (partL V a b m).countP (fun x => decide (x < c)) = lessR V a b c m := countP_partL V a b _ m
theorem cntR_part (V : Nat → Int) (d a b : Int) (m : Nat) : (partL V a b m).countP (fun x => decide (x = d)) = cntR V d a b m := by
  rw [countP_partL]
  unfold cntR
  refine cnt_congr fun j _ => ?_
  rw [← Bool.decide_and]
  exact decide_eq_decide.2 ⟨fun h => ⟨h.2, h.1⟩, fun h => ⟨h.2, h.1⟩⟩

/-- a number put in behind those that are not greater. -/
def insL (x : Int) : List Int → List Int
  | [] => [x]
  | y :: l => if y ≤ x then y :: insL x l else x :: y :: l
/-- put in order. -/
def sortL (l : List Int) : List Int := l.foldl (fun o x => insL x o) []
theorem insL_length (x : Int) : ∀ l, (insL x l).length = l.length + 1
  | [] => rfl
  | y :: l => by
    unfold insL
    split
    · show (insL x l).length + 1 = _
      rw [insL_length x l]
      rfl
    · rfl
theorem insL_perm (x : Int) : ∀ l, (insL x l).Perm (x :: l)
  | [] => List.Perm.refl _
  | y :: l => by
    unfold insL
    split
    · exact ((insL_perm x l).cons y).trans (List.Perm.swap x y l)
    · exact List.Perm.refl _
theorem insL_sorted (x : Int) : ∀ {l : List Int}, l.Pairwise (· ≤ ·) → (insL x l).Pairwise (· ≤ ·)
  | [], _ => List.pairwise_singleton _ _
  | y :: l, h => by
    rw [List.pairwise_cons] at h
    unfold insL
    by_cases e : y ≤ x
    · rw [if_pos e, List.pairwise_cons]
      refine ⟨fun z hz => ?_, insL_sorted x h.2⟩
      rcases List.mem_cons.1 ((insL_perm x l).mem_iff.1 hz) with g | g
      · rw [g]; exact e
      · exact h.1 z g
    · rw [if_neg e, List.pairwise_cons, List.pairwise_cons]
      refine ⟨fun z hz => ?_, h⟩
      rcases List.mem_cons.1 hz with g | g
      · omega
      · have := h.1 z g
        omega
theorem sortL_snoc (l : List Int) (x : Int) : sortL (l ++ [x]) = insL x (sortL l) := by
  unfold sortL
  rw [List.foldl_append]
  rfl
theorem fold_perm : ∀ (l o : List Int), (l.foldl (fun o x => insL x o) o).Perm (l ++ o)
  | [], _ => List.Perm.refl _
  | x :: l, o => by
    show (l.foldl (fun o x => insL x o) (insL x o)).Perm _
    refine (fold_perm l _).trans ?_
    refine ((insL_perm x o).append_left l).trans ?_
    exact List.perm_middle
theorem sortL_perm (l : List Int) : (sortL l).Perm l := by
  have := fold_perm l []
  rwa [List.append_nil] at this
theorem fold_sorted (l : List Int) : ∀ o : List Int, o.Pairwise (· ≤ ·) → (l.foldl (fun o x => insL x o) o).Pairwise (· ≤ ·) := by
  induction l with
  | nil => intro o h; exact h
  | cons y l ih =>
    intro o h
    exact ih _ (insL_sorted y h)
theorem sortL_sorted (l : List Int) : (sortL l).Pairwise (· ≤ ·) := fold_sorted l [] List.Pairwise.nil
theorem sortL_length (l : List Int) : (sortL l).length = l.length := (sortL_perm l).length_eq
/-- in order: what stands at k. -/
theorem sorted_at {s : List Int} (hs : s.Pairwise (· ≤ ·)) {k : Nat} {v : Int} (h1 : s.countP (fun x => decide (x < v)) ≤ k) (h2 : k < s.countP (fun x => decide (x < v + 1))) : s[k]? = some v := by
  induction s generalizing k with
  | nil => exact absurd h2 (Nat.not_lt_zero _)
  | cons x s ih =>
    rw [List.pairwise_cons] at hs
    rw [List.countP_cons] at h1 h2
    by_cases hx : x < v
    · rw [if_pos (decide_eq_true hx)] at h1
      rw [if_pos (decide_eq_true (by omega))] at h2
      obtain ⟨m, rfl⟩ : ∃ m, k = m + 1 := ⟨k - 1, by omega⟩
      rw [List.getElem?_cons_succ]
      exact ih hs.2 (by omega) (by omega)
    · have h0 : s.countP (fun x => decide (x < v)) = 0 := by
        rw [List.countP_eq_zero]
        intro y hy
        have := hs.1 y hy
        rw [decide_eq_true_iff]
        omega
      by_cases hxv : x = v
      · subst hxv
        rcases k with _ | m
        · rfl
        · rw [List.getElem?_cons_succ]
          rw [if_pos (decide_eq_true (by omega))] at h2
          exact ih hs.2 (by omega) (by omega)
      · have h3 : s.countP (fun x => decide (x < v + 1)) = 0 := by
          rw [List.countP_eq_zero]
          intro y hy
          have := hs.1 y hy
          rw [decide_eq_true_iff]
          omega
        rw [h3, if_neg (by rw [decide_eq_true_iff]; omega)] at h2
        omega
theorem at_sorted {s : List Int} (hs : s.Pairwise (· ≤ ·)) {k : Nat} {v : Int} (h : s[k]? = some v) : s.countP (fun x => decide (x < v)) ≤ k ∧ k < s.countP (fun x => decide (x < v + 1)) := by
  induction s generalizing k with
  | nil => cases h
  | cons x s ih =>
    rw [List.pairwise_cons] at hs
    rw [List.countP_cons, List.countP_cons]
    rcases k with _ | m
    · have e : x = v := Option.some.inj h
      rw [← e]
      have h0 : s.countP (fun y => decide (y < x)) = 0 := by
        rw [List.countP_eq_zero]
        intro y hy
        have := hs.1 y hy
        rw [decide_eq_true_iff]
        omega
      rw [h0, if_neg (by rw [decide_eq_true_iff]; omega), if_pos (decide_eq_true (by omega))]
      omega
    · rw [List.getElem?_cons_succ] at h
      obtain ⟨g1, g2⟩ := ih hs.2 h
      have hx := hs.1 v (List.mem_of_getElem? h)
      rw [if_pos (decide_eq_true (show x < v + 1 by omega))]
      refine ⟨?_, by omega⟩
      split <;> omega
/-- what stands at k, the range put in order; -1: nothing. -/
def quantI (V : Nat → Int) (n : Nat) (a b k : Int) : Int := if 0 ≤ k then (sortL (partL V a b n)).getD k.toNat (-1) else -1
theorem quantI_at {V : Nat → Int} {n : Nat} {a b v : Int} {k : Nat} (h1 : lessR V a b v n ≤ k) (h2 : k < lessR V a b (v + 1) n) : quantI V n a b (k : Int) = v := by
  unfold quantI
  rw [if_pos (by omega), Int.toNat_natCast, List.getD_eq_getElem?_getD, sorted_at (sortL_sorted _) (by rw [(sortL_perm _).countP_eq, lessR_part]; exact h1) (by rw [(sortL_perm _).countP_eq, lessR_part]; exact h2)]
  rfl
theorem quantI_is {V : Nat → Int} {n : Nat} {a b : Int} {k : Nat} (hk : k < (partL V a b n).length) : ∃ v, quantI V n a b (k : Int) = v ∧ v ∈ partL V a b n ∧ lessR V a b v n ≤ k ∧ k < lessR V a b (v + 1) n := by
  have hl : k < (sortL (partL V a b n)).length := by rw [sortL_length]; exact hk
  have h := List.getElem?_eq_getElem hl
  have h2 := at_sorted (sortL_sorted _) h
  rw [(sortL_perm _).countP_eq, lessR_part, (sortL_perm _).countP_eq, lessR_part] at h2
  exact ⟨_, quantI_at h2.1 h2.2, (sortL_perm _).mem_iff.1 (List.mem_of_getElem? h), h2⟩
theorem quantI_out {V : Nat → Int} {n : Nat} {a b k : Int} (h : k < 0 ∨ ((partL V a b n).length : Int) ≤ k) : quantI V n a b k = -1 := by
  unfold quantI
  by_cases h0 : 0 ≤ k
  · rw [if_pos h0, List.getD_eq_getElem?_getD, List.getElem?_eq_none (by rw [sortL_length]; omega)]
    rfl
  · exact if_neg h0

/-- the first m numbers. -/
def takeL (V : Nat → Int) : Nat → List Int
  | 0 => []
  | m + 1 => takeL V m ++ [V m]
theorem takeL_length (V : Nat → Int) : ∀ m, (takeL V m).length = m
  | 0 => rfl
  | m + 1 => by
    show (takeL V m ++ [V m]).length = _
    rw [List.length_append, takeL_length V m]
    rfl
theorem takeL_at (V : Nat → Int) : ∀ m k, k < m → (takeL V m)[k]? = some (V k)
  | 0, k, h => absurd h (Nat.not_lt_zero k)
  | m + 1, k, h => by
    show (takeL V m ++ [V m])[k]? = _
    by_cases e : k = m
    · subst e
      rw [List.getElem?_append_right (by rw [takeL_length]; exact Nat.le_refl _), takeL_length, Nat.sub_self]
      rfl
    · rw [List.getElem?_append_left (by rw [takeL_length]; omega)]
      exact takeL_at V m k (by omega)
/-- a list is its numbers. -/
theorem takeL_is {V : Nat → Int} : ∀ {l : List Int}, (∀ k, k < l.length → l[k]? = some (V k)) → takeL V l.length = l := fun {l} h => by
  apply List.ext_getElem?
  intro k
  by_cases hk : k < l.length
  · rw [takeL_at V _ k hk, h k hk]
  · rw [List.getElem?_eq_none (by rw [takeL_length]; omega), List.getElem?_eq_none (by omega)]
/-- where a number is put in. -/
theorem insL_at {x : Int} : ∀ {s : List Int} {p : Nat}, (∀ j y, j < p → s[j]? = some y → y ≤ x) → p ≤ s.length → (∀ y, s[p]? = some y → x < y) → insL x s = s.take p ++ x :: s.drop p
  | [], p, _, hp, _ => by
    obtain rfl : p = 0 := by simpa using hp
    rfl
  | y :: s, 0, _, _, h2 => by
    have := h2 y rfl
    unfold insL
    rw [if_neg (by omega)]
    rfl
  | y :: s, p + 1, h1, hp, h2 => by
    have h0 := h1 0 y (by omega) rfl
    unfold insL
    rw [if_pos h0, insL_at (s := s) (p := p) (fun j z hj hz => h1 (j + 1) z (by omega) hz) (by simpa using hp) (fun z hz => h2 z hz)]
    rfl
/-- how many bits a number has, at least one. -/
def widthN (m : Nat) : Nat := if h : m ≤ 1 then 1 else widthN (m / 2) + 1
termination_by m
decreasing_by omega
theorem widthN_low {m : Nat} (h : m ≤ 1) : widthN m = 1 := by
  unfold widthN
  rw [dif_pos h]
theorem widthN_up {m : Nat} (h : ¬ m ≤ 1) : widthN m = widthN (m / 2) + 1 := by
  rw [widthN, dif_neg h]
theorem widthN_pos (m : Nat) : 1 ≤ widthN m := by
  by_cases h : m ≤ 1
  · rw [widthN_low h]
    exact Nat.le_refl _
  · rw [widthN_up h]
    omega
theorem widthN_pow : ∀ (k m : Nat), m < 2 ^ k → 1 ≤ k → widthN m ≤ k := by
  intro k
  induction k with
  | zero => intro m _ h; omega
  | succ k ih =>
    intro m hm _
    by_cases h : m ≤ 1
    · rw [widthN_low h]
      omega
    · rw [widthN_up h]
      rw [Nat.pow_succ] at hm
      by_cases hk : k = 0
      · subst hk
        omega
      · have := ih (m / 2) (by omega) (by omega)
        omega
theorem lt_widthN (m : Nat) : m < 2 ^ widthN m := by
  induction m using Nat.strongRecOn with
  | _ m ih =>
    by_cases h : m ≤ 1
    · rw [widthN_low h]
      omega
    · rw [widthN_up h, Nat.pow_succ]
      have := ih (m / 2) (by omega)
      omega
end Go.Proofs.YtbkdloebbbmkaaaGreat

namespace Go.Proofs.YtbkdloebbbmkaaaGreat
open Pl (cnt cnt_succ cnt_congr)

/-- a bit of a number. -/
def bitZ (x : Int) (b : Nat) : Int := x / 2 ^ b % 2
theorem bitZ_or (x : Int) (b : Nat) : bitZ x b = 0 ∨ bitZ x b = 1 := by unfold bitZ; omega
/-- a bit as a byte. -/
def bitN (x : Int) (b : Nat) : Nat := (bitZ x b).toNat
theorem bitN_int (x : Int) (b : Nat) : ((bitN x b : Nat) : Int) = bitZ x b := by
  unfold bitN
  have := bitZ_or x b
  omega
theorem bitN_lt (x : Int) (b : Nat) : bitN x b < 2 := by
  unfold bitN
  have := bitZ_or x b
  omega
open Classical in
/-- the row of the next level: by the bit alone, those with 0 first. -/
noncomputable def rowNext (R : Nat → Int) (n b : Nat) (p : Nat) : Int := if h : ∃ j, j < n ∧ stepI (fun j => bitZ (R j) b) n j = p then R h.choose else 0
theorem rowNext_at {R : Nat → Int} {n b j : Nat} (hj : j < n) : rowNext R n b (stepI (fun j => bitZ (R j) b) n j) = R j := by
  have h : ∃ j', j' < n ∧ stepI (fun j => bitZ (R j) b) n j' = stepI (fun j => bitZ (R j) b) n j := ⟨j, hj, rfl⟩
  unfold rowNext
  rw [dif_pos h]
  have h2 := h.choose_spec
  rw [stepI_inj h2.1 hj h2.2]
theorem rowNext_is {R : Nat → Int} {n b p : Nat} (hp : p < n) : ∃ j, j < n ∧ stepI (fun j => bitZ (R j) b) n j = p ∧ rowNext R n b p = R j := by
  obtain ⟨j, hj, e⟩ := stepI_onto (V := fun j => bitZ (R j) b) hp
  exact ⟨j, hj, e, by rw [← e]; exact rowNext_at hj⟩
/-- the row of level k, of a matrix of W levels. -/
noncomputable def levRow (V : Nat → Int) (n W : Nat) : Nat → Nat → Int
  | 0 => V
  | k + 1 => rowNext (levRow V n W k) n (W - 1 - k)
/-- the bits of level k. -/
noncomputable def levBit (V : Nat → Int) (n W k i : Nat) : Bool := decide (bitZ (levRow V n W k i) (W - 1 - k) = 1)
theorem levRow_room {V : Nat → Int} {n W : Nat} {lo hi : Int} (h : ∀ i, i < n → lo ≤ V i ∧ V i ≤ hi) : ∀ k i, i < n → lo ≤ levRow V n W k i ∧ levRow V n W k i ≤ hi
  | 0, i, hi' => h i hi'
  | k + 1, i, hi' => by
    obtain ⟨j, hj, _, e⟩ := rowNext_is (R := levRow V n W k) (b := W - 1 - k) hi'
    show lo ≤ rowNext (levRow V n W k) n (W - 1 - k) i ∧ rowNext (levRow V n W k) n (W - 1 - k) i ≤ hi
    rw [e]
    exact levRow_room h k j hj
/-- those with a bit less than c, and of those with c the ones ahead of i, are put in. -/
structure NxtIn (R : Nat → Int) (n b : Nat) (c : Int) (i : Nat) (m : Nat) (U : Nat → Int) : Prop where
  many : m = belowI (fun j => bitZ (R j) b) n c + aheadI (fun j => bitZ (R j) b) i c
  put : ∀ j, j < n → bitZ (R j) b < c ∨ (bitZ (R j) b = c ∧ j < i) → U (stepI (fun j => bitZ (R j) b) n j) = R j
theorem NxtIn.start (R : Nat → Int) (n b : Nat) (U : Nat → Int) : NxtIn R n b 0 0 0 U := by
  refine ⟨?_, fun j _ h => ?_⟩
  · have h0 : belowI (fun j => bitZ (R j) b) n 0 = 0 := Pl.cnt_zero fun j _ => decide_eq_false (by
      have := bitZ_or (R j) b
      show ¬ bitZ (R j) b < 0
      omega)
    rw [h0]
    rfl
  · have := bitZ_or (R j) b
    rcases h with h | h
    · omega
    · omega
theorem NxtIn.hit {R : Nat → Int} {n b i m : Nat} {c : Int} {U : Nat → Int} (h : NxtIn R n b c i m U) (hi : i < n) (hb : bitZ (R i) b = c) {U' : Nat → Int} (h1 : ∀ k, k ≠ m → U' k = U k) (h2 : U' m = R i) : NxtIn R n b c (i + 1) (m + 1) U' := by
  have hs : stepI (fun j => bitZ (R j) b) n i = m := by
    rw [h.many]
    show belowI (fun j => bitZ (R j) b) n (bitZ (R i) b) + aheadI (fun j => bitZ (R j) b) i (bitZ (R i) b) = _
    rw [hb]
  refine ⟨?_, fun j hj hc => ?_⟩
  · rw [aheadI_succ, if_pos hb, h.many, Nat.add_assoc]
  · by_cases e : j = i
    · rw [e, hs, h2]
    · rw [h1 _ (fun g => e (stepI_inj hj hi (g.trans hs.symm)))]
      exact h.put j hj (hc.imp id (fun g => ⟨g.1, by omega⟩))
theorem NxtIn.miss {R : Nat → Int} {n b i m : Nat} {c : Int} {U : Nat → Int} (h : NxtIn R n b c i m U) (hb : bitZ (R i) b ≠ c) : NxtIn R n b c (i + 1) m U := by
  refine ⟨?_, fun j hj hc => h.put j hj (hc.imp id (fun g => ⟨g.1, ?_⟩))⟩
  · rw [aheadI_succ, if_neg hb, Nat.add_zero]
    exact h.many
  · by_cases e : j = i
    · rw [e] at g
      exact absurd g.1 hb
    · omega
theorem NxtIn.next {R : Nat → Int} {n b m : Nat} {c : Int} {U : Nat → Int} (h : NxtIn R n b c n m U) : NxtIn R n b (c + 1) 0 m U := by
  refine ⟨?_, fun j hj hc => h.put j hj ?_⟩
  · rw [h.many]
    show _ = belowI _ n (c + 1) + 0
    rw [Nat.add_zero]
    unfold belowI aheadI
    rw [← cnt_or (fun j => decide (bitZ (R j) b < c)) (fun j => decide (bitZ (R j) b = c)) n (fun j _ h => by
      rw [decide_eq_true_iff, decide_eq_true_iff] at h
      have h1 : bitZ (R j) b < c := h.1
      omega)]
    refine cnt_congr fun j _ => ?_
    rw [Bool.eq_iff_iff, Bool.or_eq_true, decide_eq_true_iff, decide_eq_true_iff, decide_eq_true_iff]
    show bitZ (R j) b < c ∨ bitZ (R j) b = c ↔ bitZ (R j) b < c + 1
    omega
  · rcases hc with g | g
    · by_cases e : bitZ (R j) b < c
      · exact .inl e
      · exact .inr ⟨by omega, hj⟩
    · omega
theorem NxtIn.done {R : Nat → Int} {n b m : Nat} {U : Nat → Int} (h : NxtIn R n b 2 0 m U) : m = n ∧ ∀ p, p < n → U p = rowNext R n b p := by
  constructor
  · rw [h.many, belowI_all (fun i _ => by have := bitZ_or (R i) b; show bitZ (R i) b < 2; omega)]
    rfl
  · intro p hp
    obtain ⟨j, hj, e, e2⟩ := rowNext_is (R := R) (b := b) hp
    rw [e2, ← e]
    exact h.put j hj (.inl (by have := bitZ_or (R j) b; omega))
theorem NxtIn.le {R : Nat → Int} {n b m i : Nat} {c : Int} {U : Nat → Int} (h : NxtIn R n b c i m U) (hi : i ≤ n) : m ≤ 2 * n := by
  rw [h.many]
  have h1 := belowI_le (fun j => bitZ (R j) b) n c
  have h2 := aheadI_le (fun j => bitZ (R j) b) i c
  omega
end Go.Proofs.YtbkdloebbbmkaaaGreat

namespace Go.Proofs.YtbkdloebbbmkaaaGreat
open Pl (cnt cnt_succ cnt_congr cnt_mono cnt_at_lt)

theorem cnt_imp {f g : Nat → Bool} : ∀ {n : Nat}, (∀ j, j < n → f j = true → g j = true) → cnt f n ≤ cnt g n
  | 0, _ => Nat.le_refl _
  | n + 1, h => by
    have ih := cnt_imp (n := n) (f := f) (g := g) (fun j hj => h j (by omega))
    have h0 := h n (Nat.lt_succ_self n)
    rw [cnt_succ, cnt_succ]
    cases hf : f n with
    | false =>
      rw [if_neg (by simp)]
      omega
    | true =>
      rw [if_pos rfl, if_pos (h0 hf)]
      omega
theorem cnt_parts {f g h : Nat → Bool} : ∀ {n : Nat}, (∀ j, j < n → f j = (g j || h j) ∧ (g j = true → h j = false)) → cnt f n = cnt g n + cnt h n
  | 0, _ => rfl
  | n + 1, hh => by
    have ih := cnt_parts (n := n) (f := f) (g := g) (h := h) (fun j hj => hh j (by omega))
    obtain ⟨h1, h2⟩ := hh n (Nat.lt_succ_self n)
    rw [cnt_succ, cnt_succ, cnt_succ, ih, h1]
    cases hg : g n with
    | true => rw [h2 hg]; simp; omega
    | false => cases h n <;> simp <;> omega
theorem lessR_mono {V : Nat → Int} {a b c c' : Int} {n : Nat} (h : c ≤ c') : lessR V a b c n ≤ lessR V a b c' n :=
  cnt_imp fun j _ hj => by
    rw [Bool.and_eq_true, decide_eq_true_iff, decide_eq_true_iff] at hj ⊢
    exact ⟨hj.1, by omega⟩
theorem lessR_parts {V : Nat → Int} {x y z c : Int} {n : Nat} (h1 : x ≤ y) (h2 : y ≤ z) : lessR V x z c n = lessR V x y c n + lessR V y z c n :=
  cnt_parts fun j _ => by
    constructor
    · rw [← Bool.and_or_distrib_right]
      congr 1
      rw [Bool.eq_iff_iff, Bool.or_eq_true, decide_eq_true_iff, decide_eq_true_iff, decide_eq_true_iff]
      omega
    · intro h
      rw [Bool.and_eq_true, decide_eq_true_iff] at h
      rw [decide_eq_false (by omega), Bool.false_and]
theorem partL_len {V : Nat → Int} {p q : Nat} (hpq : p ≤ q) : ∀ {n : Nat}, (partL V (p : Int) (q : Int) n).length = Nat.min n q - Nat.min n p
  | 0 => by
    show 0 = Nat.min 0 q - Nat.min 0 p
    rw [show Nat.min 0 q = 0 from Nat.min_eq_left (Nat.zero_le _)]
    omega
  | n + 1 => by
    have ih := partL_len (V := V) hpq (n := n)
    have e1 : ∀ a b : Nat, (a ≤ b → Nat.min a b = a) ∧ (b ≤ a → Nat.min a b = b) := fun a b => ⟨Nat.min_eq_left, Nat.min_eq_right⟩
    by_cases h : (p : Int) ≤ (n : Int) ∧ (n : Int) < (q : Int)
    · rw [partL_hit h, List.length_append, ih, (e1 n q).1 (by omega), (e1 n p).2 (by omega), (e1 (n + 1) q).1 (by omega), (e1 (n + 1) p).2 (by omega)]
      show n - p + 1 = _
      omega
    · rw [partL_miss h, ih]
      by_cases hn : n < p
      · rw [(e1 n q).1 (by omega), (e1 n p).1 (by omega), (e1 (n + 1) q).1 (by omega), (e1 (n + 1) p).1 (by omega)]
        omega
      · rw [(e1 n q).2 (by omega), (e1 n p).2 (by omega), (e1 (n + 1) q).2 (by omega), (e1 (n + 1) p).2 (by omega)]
theorem partL_count {V : Nat → Int} {p q n : Nat} (hpq : p ≤ q) (hq : q ≤ n) : (partL V (p : Int) (q : Int) n).length = q - p := by
  rw [partL_len hpq, show Nat.min n q = q from Nat.min_eq_right hq, show Nat.min n p = p from Nat.min_eq_right (by omega)]
theorem lessR_all {V : Nat → Int} {a b c : Int} {n : Nat} (h : ∀ i, i < n → V i < c) : lessR V a b c n = (partL V a b n).length := by
  rw [← lessR_part, List.countP_eq_length]
  intro x hx
  obtain ⟨j, h1, _, _, h4⟩ := mem_partL.1 hx
  rw [decide_eq_true_iff, ← h4]
  exact h j h1
theorem cntR_past {V : Nat → Int} {d a b : Int} {m : Nat} (hm : b ≤ (m : Int)) : ∀ k, cntR V d a b (m + k) = cntR V d a b m
  | 0 => rfl
  | k + 1 => by
    rw [← Nat.add_assoc, cntR_miss (fun h => by omega)]
    exact cntR_past hm k
theorem cntR_upto {V : Nat → Int} {d : Int} {p n : Nat} (hp : p ≤ n) : cntR V d 0 (p : Int) n = cnt (fun j => decide (V j = d)) p := by
  obtain ⟨k, rfl⟩ : ∃ k, n = p + k := ⟨n - p, by omega⟩
  rw [cntR_past (Int.le_refl _) k]
  unfold cntR
  refine cnt_congr fun j hj => decide_eq_decide.2 ⟨fun h => h.1, fun h => ⟨h, by omega, by omega⟩⟩
theorem cntR_more {V : Nat → Int} {x : Int} {p q j n : Nat} (h1 : p ≤ j) (h2 : j < q) (hq : q ≤ n) (hx : V j = x) : cntR V x 0 (p : Int) n < cntR V x 0 (q : Int) n := by
  rw [cntR_upto (by omega), cntR_upto hq]
  exact Nat.lt_of_le_of_lt (cnt_mono _ h1) (cnt_at_lt h2 (decide_eq_true hx))
/-- how many of a range: as many ahead of its end less those ahead of its beginning. -/
theorem cntR_diff {V : Nat → Int} {d : Int} {p q n : Nat} (hpq : p ≤ q) : cntR V d 0 (q : Int) n = cntR V d 0 (p : Int) n + cntR V d (p : Int) (q : Int) n := by
  unfold cntR
  refine cnt_parts fun j _ => ⟨?_, fun h => ?_⟩
  · rw [Bool.eq_iff_iff, Bool.or_eq_true, decide_eq_true_iff, decide_eq_true_iff, decide_eq_true_iff]
    omega
  · rw [decide_eq_true_iff] at h
    exact decide_eq_false (by omega)
theorem cntR_le_n {V : Nat → Int} {d a b : Int} {n : Nat} : cntR V d a b n ≤ n := cntR_le _ _ _ _ _
/-- the only one of a range of one. -/
theorem quantI_one {V : Nat → Int} {n i : Nat} (hi : i < n) : quantI V n (i : Int) ((i : Int) + 1) 0 = V i := by
  have e : ((i : Int) + 1) = ((i + 1 : Nat) : Int) := by omega
  have hl : (partL V (i : Int) ((i + 1 : Nat) : Int) n).length = 1 := by rw [partL_count (by omega) (by omega)]; omega
  rw [e]
  obtain ⟨v, h1, h2, _⟩ := quantI_is (V := V) (n := n) (a := (i : Int)) (b := ((i + 1 : Nat) : Int)) (k := 0) (by rw [hl]; exact Nat.one_pos)
  have h1 : quantI V n (i : Int) ((i + 1 : Nat) : Int) 0 = v := h1
  rw [h1]
  obtain ⟨j, _, h4, h5, h6⟩ := mem_partL.1 h2
  obtain rfl : j = i := by omega
  exact h6.symm
/-- numbers put in order, one behind the other: k behind k - 1. -/
theorem quant_rise {V : Nat → Int} {n : Nat} {a b l x : Int} {k : Nat} (h1 : lessR V a b l n ≤ k) (h2 : k < lessR V a b (l + 1) n) (h3 : lessR V a b x n ≤ k + 1) (h4 : k + 1 < lessR V a b (x + 1) n) :
    l ≤ x ∧ (l < x → lessR V a b x n = k + 1) := by
  constructor
  · apply Int.le_of_not_gt
    intro h
    have := lessR_mono (V := V) (a := a) (b := b) (n := n) (show x + 1 ≤ l by omega)
    omega
  · intro h
    have := lessR_mono (V := V) (a := a) (b := b) (n := n) (show l + 1 ≤ x by omega)
    omega
end Go.Proofs.YtbkdloebbbmkaaaGreat

namespace Go.Proofs.YtbkdloebbbmkaaaGreat
open Pl (cnt cnt_succ cnt_congr cnt_mono cnt_le)

/-- the place of the c of number k; -1: none. -/
def selW (V : Nat → Int) (n : Nat) (c k : Int) : Int := Pl.sel (fun j => decide (V j = c)) n k
/-- how many from a on, ahead of b. -/
def seg (f : Nat → Bool) (a b : Nat) : Nat := cnt f b - cnt f a
theorem seg_congr {f g : Nat → Bool} {a b : Nat} (h : ∀ j, j < b → f j = g j) (hab : a ≤ b) : seg f a b = seg g a b := by
  unfold seg
  rw [cnt_congr h, cnt_congr (fun j hj => h j (by omega))]
theorem seg_all {f : Nat → Bool} {a b : Nat} (h : ∀ j, j < b → f j = true) (hab : a ≤ b) : seg f a b = b - a := by
  have e : ∀ m, m ≤ b → cnt f m = m := by
    intro m
    induction m with
    | zero => intro _; rfl
    | succ m ih =>
      intro hm
      rw [cnt_succ, ih (by omega), if_pos (h m (by omega))]
  unfold seg
  rw [e b (Nat.le_refl _), e a hab]
theorem seg_le (f : Nat → Bool) {a b : Nat} (hab : a ≤ b) : seg f a b ≤ b - a := by
  obtain ⟨k, rfl⟩ : ∃ k, b = a + k := ⟨b - a, by omega⟩
  unfold seg
  rw [Pl.cnt_add]
  have := cnt_le (fun j => f (a + j)) k
  omega
theorem seg_split (f g : Nat → Bool) (a b : Nat) (hab : a ≤ b) : seg f a b = seg (fun j => f j && g j) a b + seg (fun j => f j && !g j) a b := by
  have e : ∀ m, cnt f m = cnt (fun j => f j && g j) m + cnt (fun j => f j && !g j) m := fun m => cnt_parts fun j _ => by
    cases f j <;> cases g j <;> simp
  have h1 := cnt_mono (fun j => f j && g j) hab
  have h2 := cnt_mono (fun j => f j && !g j) hab
  unfold seg
  rw [e b, e a]
  omega
/-- a range's numbers, counted so. -/
theorem seg_range (P : Nat → Bool) {a b n : Nat} (hab : a ≤ b) (hb : b ≤ n) : cnt (fun j => decide ((a : Int) ≤ (j : Int) ∧ (j : Int) < (b : Int)) && P j) n = seg P a b := by
  have h1 : cnt (fun j => decide ((a : Int) ≤ (j : Int) ∧ (j : Int) < (b : Int)) && P j) n = cnt (fun j => decide ((a : Int) ≤ (j : Int) ∧ (j : Int) < (b : Int)) && P j) b := by
    obtain ⟨k, rfl⟩ : ∃ k, n = b + k := ⟨n - b, by omega⟩
    rw [Pl.cnt_add, Pl.cnt_zero (n := k) (fun j _ => by
      show (decide _ && _) = false
      rw [decide_eq_false (by omega), Bool.false_and]), Nat.add_zero]
  rw [h1]
  obtain ⟨k, rfl⟩ : ∃ k, b = a + k := ⟨b - a, by omega⟩
  unfold seg
  rw [Pl.cnt_add, Pl.cnt_add P, Pl.cnt_zero (n := a) (fun j hj => by
    show (decide _ && _) = false
    rw [decide_eq_false (by omega), Bool.false_and]), Nat.zero_add, Nat.add_sub_cancel_left]
  exact cnt_congr fun j hj => by
    show (decide _ && _) = _
    rw [decide_eq_true (by omega), Bool.true_and]

/-- where the place i goes, of those with the bit c. -/
def down (R : Nat → Int) (n b : Nat) (c : Int) (i : Nat) : Nat := belowI (fun j => bitZ (R j) b) n c + aheadI (fun j => bitZ (R j) b) i c
theorem down_hit {R : Nat → Int} {n b i : Nat} {c : Int} (hi : i < n) (h : bitZ (R i) b = c) : down R n b c (i + 1) = down R n b c i + 1 ∧ rowNext R n b (down R n b c i) = R i := by
  constructor
  · unfold down
    rw [aheadI_succ, if_pos h, Nat.add_assoc]
  · have e : down R n b c i = stepI (fun j => bitZ (R j) b) n i := by
      show _ = belowI (fun j => bitZ (R j) b) n (bitZ (R i) b) + aheadI (fun j => bitZ (R j) b) i (bitZ (R i) b)
      rw [h]
      rfl
    rw [e]
    exact rowNext_at hi
theorem down_miss {R : Nat → Int} {n b i : Nat} {c : Int} (h : bitZ (R i) b ≠ c) : down R n b c (i + 1) = down R n b c i := by
  unfold down
  rw [aheadI_succ, if_neg h, Nat.add_zero]
theorem down_mono {R : Nat → Int} {n b : Nat} {c : Int} {i j : Nat} (h : i ≤ j) : down R n b c i ≤ down R n b c j := Nat.add_le_add_left (cnt_mono _ h) _
/-- ones and noughts ahead of a place. -/
theorem ones_zeros (R : Nat → Int) (b i : Nat) : aheadI (fun j => bitZ (R j) b) i 0 + aheadI (fun j => bitZ (R j) b) i 1 = i := by
  have h := Pl.cnt_not (fun j => decide (bitZ (R j) b = 0)) i
  have e : cnt (fun j => !decide (bitZ (R j) b = 0)) i = aheadI (fun j => bitZ (R j) b) i 1 := cnt_congr fun j _ => by
    rw [← decide_not]
    refine decide_eq_decide.2 ?_
    show ¬ bitZ (R j) b = 0 ↔ bitZ (R j) b = 1
    have := bitZ_or (R j) b
    omega
  rw [e] at h
  exact h
theorem below_zero (R : Nat → Int) (n b : Nat) : belowI (fun j => bitZ (R j) b) n 0 = 0 := Pl.cnt_zero fun j _ => decide_eq_false (by
  have := bitZ_or (R j) b
  show ¬ bitZ (R j) b < 0
  omega)
theorem below_one (R : Nat → Int) (n b : Nat) : belowI (fun j => bitZ (R j) b) n 1 = aheadI (fun j => bitZ (R j) b) n 0 := cnt_congr fun j _ => decide_eq_decide.2 (by
  show bitZ (R j) b < 1 ↔ bitZ (R j) b = 0
  have := bitZ_or (R j) b
  omega)
theorem down_zero (R : Nat → Int) (n b i : Nat) : down R n b 0 i = aheadI (fun j => bitZ (R j) b) i 0 := by
  unfold down
  rw [below_zero, Nat.zero_add]
theorem down_one (R : Nat → Int) (n b i : Nat) : down R n b 1 i = aheadI (fun j => bitZ (R j) b) n 0 + aheadI (fun j => bitZ (R j) b) i 1 := by
  unfold down
  rw [below_one]
theorem down_le {R : Nat → Int} {n b i : Nat} {c : Int} (hc : c = 0 ∨ c = 1) (hi : i ≤ n) : down R n b c i ≤ n := by
  have h1 := ones_zeros R b n
  have h2 := cnt_mono (fun j => decide (bitZ (R j) b = c)) hi
  have h2 : aheadI (fun j => bitZ (R j) b) i c ≤ aheadI (fun j => bitZ (R j) b) n c := h2
  rcases hc with rfl | rfl
  · rw [down_zero]; omega
  · rw [down_one]; omega
/-- those with the bit c, in their order, stand side by side on the next level. -/
theorem down_cnt (R : Nat → Int) (n b : Nat) (c : Int) (P : Int → Bool) : ∀ i, i ≤ n →
    cnt (fun p => P (rowNext R n b p)) (down R n b c i) = cnt (fun p => P (rowNext R n b p)) (down R n b c 0) + cnt (fun j => decide (bitZ (R j) b = c) && P (R j)) i
  | 0, _ => rfl
  | i + 1, hi => by
    have ih := down_cnt R n b c P i (by omega)
    by_cases h : bitZ (R i) b = c
    · obtain ⟨h1, h2⟩ := down_hit (n := n) (show i < n by omega) h
      rw [h1, cnt_succ, cnt_succ, h2, ih, decide_eq_true h, Bool.true_and, Nat.add_assoc]
    · rw [down_miss h, cnt_succ, ih, decide_eq_false h, Bool.false_and]
      rfl
theorem down_seg (R : Nat → Int) (n b : Nat) (c : Int) (P : Int → Bool) {i j : Nat} (hij : i ≤ j) (hj : j ≤ n) :
    seg (fun p => P (rowNext R n b p)) (down R n b c i) (down R n b c j) = seg (fun p => decide (bitZ (R p) b = c) && P (R p)) i j := by
  have h1 := down_cnt R n b c P i (by omega)
  have h2 := down_cnt R n b c P j hj
  have h3 := cnt_mono (fun j => decide (bitZ (R j) b = c) && P (R j)) hij
  unfold seg
  rw [h1, h2]
  omega

/-- the range [a, b) of level k holds those of [A, B) whose first k bits are q. -/
structure Nar (V : Nat → Int) (n W k A B : Nat) (q : Int) (a b : Nat) : Prop where
  le : a ≤ b
  room : b ≤ n
  many : ∀ P : Int → Bool, seg (fun j => decide (V j / 2 ^ (W - k) = q) && P (V j)) A B = seg (fun p => P (levRow V n W k p)) a b
theorem half_bit (x : Int) (b : Nat) : x / 2 ^ b = 2 * (x / 2 ^ (b + 1)) + bitZ x b := by
  unfold bitZ
  have e : (2 : Int) ^ (b + 1) = 2 ^ b * 2 := Int.pow_succ 2 b
  rw [e, ← Int.ediv_ediv_of_nonneg (by exact Int.le_of_lt (Int.pow_pos (by decide)))]
  omega
theorem Nar.start {V : Nat → Int} {n W A B : Nat} (hAB : A ≤ B) (hB : B ≤ n) (hV : ∀ i, i < n → 0 ≤ V i ∧ V i < 2 ^ W) : Nar V n W 0 A B 0 A B := by
  refine ⟨hAB, hB, fun P => seg_congr (fun j hj => ?_) hAB⟩
  have := hV j (by omega)
  show (decide _ && P (V j)) = P (V j)
  rw [decide_eq_true (by
    show V j / 2 ^ W = 0
    exact Int.ediv_eq_zero_of_lt this.1 this.2), Bool.true_and]
theorem Nar.step {V : Nat → Int} {n W k A B a b : Nat} {q : Int} (h : Nar V n W k A B q a b) (hk : k < W) (hAB : A ≤ B) {c : Int} (hc : c = 0 ∨ c = 1) :
    Nar V n W (k + 1) A B (2 * q + c) (down (levRow V n W k) n (W - 1 - k) c a) (down (levRow V n W k) n (W - 1 - k) c b) := by
  refine ⟨down_mono h.le, down_le hc h.room, fun P => ?_⟩
  have h1 := h.many (fun x => decide (bitZ x (W - 1 - k) = c) && P x)
  have h2 := down_seg (levRow V n W k) n (W - 1 - k) c P h.le h.room
  show _ = seg (fun p => P (rowNext (levRow V n W k) n (W - 1 - k) p)) _ _
  rw [h2, ← h1]
  refine seg_congr (fun j _ => ?_) hAB
  have e : W - (k + 1) = W - 1 - k := by omega
  have e2 : W - k = (W - 1 - k) + 1 := by omega
  show (decide (V j / 2 ^ (W - (k + 1)) = 2 * q + c) && P (V j)) = (decide (V j / 2 ^ (W - k) = q) && (decide (bitZ (V j) (W - 1 - k) = c) && P (V j)))
  rw [e, e2, half_bit (V j) (W - 1 - k), ← Bool.and_assoc, ← Bool.decide_and]
  congr 1
  refine decide_eq_decide.2 ?_
  have := bitZ_or (V j) (W - 1 - k)
  generalize V j / 2 ^ (W - 1 - k + 1) = u
  omega
/-- how many there are. -/
theorem Nar.size {V : Nat → Int} {n W k A B a b : Nat} {q : Int} (h : Nar V n W k A B q a b) : b - a = seg (fun j => decide (V j / 2 ^ (W - k) = q)) A B := by
  have h1 := h.many (fun _ => true)
  rw [seg_all (fun _ _ => rfl) h.le] at h1
  rw [← h1]
  unfold seg
  congr 1 <;> exact cnt_congr fun j _ => Bool.and_true _
/-- at the last level: those that are q. -/
theorem Nar.last {V : Nat → Int} {n W A B a b : Nat} {q : Int} (h : Nar V n W W A B q a b) : b - a = seg (fun j => decide (V j = q)) A B := by
  rw [h.size, Nat.sub_self]
  unfold seg
  congr 1 <;> exact cnt_congr fun j _ => decide_eq_decide.2 (by rw [Int.pow_zero, Int.ediv_one])
/-- a range's numbers less than c, by the first k bits alone. -/
def lessK (V : Nat → Int) (A B : Nat) (s : Nat) (q : Int) : Nat := seg (fun j => decide (V j / 2 ^ s < q)) A B
theorem Nar.less {V : Nat → Int} {n W k A B a b : Nat} {q : Int} (h : Nar V n W k A B q a b) (hk : k < W) (hAB : A ≤ B) {c : Int} (hc : c = 0 ∨ c = 1) :
    lessK V A B (W - (k + 1)) (2 * q + c) = lessK V A B (W - k) q + (if c = 1 then down (levRow V n W k) n (W - 1 - k) 0 b - down (levRow V n W k) n (W - 1 - k) 0 a else 0) := by
  have hs := (h.step hk hAB (.inl rfl)).size
  rw [hs]
  have e : W - (k + 1) = W - 1 - k := by omega
  have e2 : W - k = (W - 1 - k) + 1 := by omega
  unfold lessK
  rw [e, e2]
  have key : ∀ (P : Nat → Bool), (∀ j, decide (V j / 2 ^ (W - 1 - k) < 2 * q + c) = (decide (V j / 2 ^ (W - 1 - k + 1) < q) || P j) ∧ (decide (V j / 2 ^ (W - 1 - k + 1) < q) = true → P j = false)) → seg (fun j => decide (V j / 2 ^ (W - 1 - k) < 2 * q + c)) A B = seg (fun j => decide (V j / 2 ^ (W - 1 - k + 1) < q)) A B + seg P A B := by
    intro P hP
    have e : ∀ m, cnt (fun j => decide (V j / 2 ^ (W - 1 - k) < 2 * q + c)) m = cnt (fun j => decide (V j / 2 ^ (W - 1 - k + 1) < q)) m + cnt P m := fun m => cnt_parts fun j _ => hP j
    have h1 := cnt_mono (fun j => decide (V j / 2 ^ (W - 1 - k + 1) < q)) hAB
    have h2 := cnt_mono P hAB
    unfold seg
    rw [e B, e A]
    omega
  rcases hc with rfl | rfl
  · rw [if_neg (by decide), key (fun _ => false) (fun j => by
      rw [Bool.or_false]
      refine ⟨decide_eq_decide.2 ?_, fun _ => rfl⟩
      rw [half_bit (V j) (W - 1 - k)]
      have := bitZ_or (V j) (W - 1 - k)
      omega)]
    have h0 : seg (fun _ => false) A B = 0 := by
      unfold seg
      rw [Pl.cnt_zero (fun _ _ => rfl), Nat.zero_sub]
    rw [h0]
  · rw [if_pos rfl, key (fun j => decide (V j / 2 ^ (W - 1 - k) = 2 * q + 0)) (fun j => by
      rw [← Bool.decide_or]
      refine ⟨decide_eq_decide.2 ?_, fun h => decide_eq_false ?_⟩
      · rw [half_bit (V j) (W - 1 - k)]
        have := bitZ_or (V j) (W - 1 - k)
        omega
      · rw [decide_eq_true_iff] at h
        rw [half_bit (V j) (W - 1 - k)]
        have := bitZ_or (V j) (W - 1 - k)
        omega)]

/-- the place on a level of what stands at p on the next one. -/
theorem down_onto {R : Nat → Int} {n b : Nat} {c : Int} {a : Nat} : ∀ {d p : Nat}, a ≤ d → d ≤ n → down R n b c a ≤ p → p < down R n b c d → ∃ i, a ≤ i ∧ i < d ∧ bitZ (R i) b = c ∧ down R n b c i = p
  | 0, p, h1, _, h3, h4 => by
    obtain rfl : a = 0 := by omega
    omega
  | d + 1, p, h1, h2, h3, h4 => by
    by_cases e : a = d + 1
    · subst e
      omega
    · by_cases hb : bitZ (R d) b = c
      · have hd := (down_hit (n := n) (show d < n by omega) hb).1
        by_cases hp : p = down R n b c d
        · exact ⟨d, by omega, Nat.lt_succ_self d, hb, hp.symm⟩
        · obtain ⟨i, g1, g2, g3⟩ := down_onto (d := d) (by omega) (by omega) h3 (by omega)
          exact ⟨i, g1, by omega, g3⟩
      · rw [down_miss hb] at h4
        obtain ⟨i, g1, g2, g3⟩ := down_onto (d := d) (by omega) (by omega) h3 h4
        exact ⟨i, g1, by omega, g3⟩
theorem up_zero {R : Nat → Int} {n b i : Nat} (hi : i < n) (hb : bitZ (R i) b = 0) : Pl.sel (fun j => !decide (bitZ (R j) b = 1)) n ((down R n b 0 i : Nat) : Int) = (i : Int) := by
  rw [down_zero]
  have e : aheadI (fun j => bitZ (R j) b) i 0 = cnt (fun j => !decide (bitZ (R j) b = 1)) i := cnt_congr fun j _ => by
    rw [← decide_not]
    refine decide_eq_decide.2 ?_
    show bitZ (R j) b = 0 ↔ ¬ bitZ (R j) b = 1
    have := bitZ_or (R j) b
    omega
  rw [e]
  exact Pl.sel_in hi (by rw [← decide_not]; exact decide_eq_true (by omega))
theorem up_one {R : Nat → Int} {n b i : Nat} (hi : i < n) (hb : bitZ (R i) b = 1) : Pl.sel (fun j => decide (bitZ (R j) b = 1)) n (((down R n b 1 i : Nat) : Int) - ((down R n b 0 n : Nat) : Int)) = (i : Int) := by
  rw [down_zero, down_one, show (((aheadI (fun j => bitZ (R j) b) n 0 + aheadI (fun j => bitZ (R j) b) i 1 : Nat) : Int) - ((aheadI (fun j => bitZ (R j) b) n 0 : Nat) : Int)) = ((cnt (fun j => decide (bitZ (R j) b = 1)) i : Nat) : Int) by
    show _ = ((aheadI (fun j => bitZ (R j) b) i 1 : Nat) : Int)
    omega]
  exact Pl.sel_in hi (decide_eq_true hb)
/-- the one of number m among those of the range that are x, on level k. -/
structure UpAt (V : Nat → Int) (n W k a : Nat) (x : Int) (m i : Nat) : Prop where
  lo : a ≤ i
  room : i < n
  is_ : levRow V n W k i = x
  many : seg (fun p => decide (levRow V n W k p = x)) a i = m
theorem UpAt.up {V : Nat → Int} {n W k A B a b m p : Nat} {q x c : Int} (h : Nar V n W k A B q a b) (hc : bitZ x (W - 1 - k) = c) (hu : UpAt V n W (k + 1) (down (levRow V n W k) n (W - 1 - k) c a) x m p) (hp : p < down (levRow V n W k) n (W - 1 - k) c b) :
    ∃ i, i < b ∧ bitZ (levRow V n W k i) (W - 1 - k) = c ∧ down (levRow V n W k) n (W - 1 - k) c i = p ∧ UpAt V n W k a x m i := by
  obtain ⟨i, g1, g2, g3, g4⟩ := down_onto h.le h.room hu.lo hp
  have hn : i < n := Nat.lt_of_lt_of_le g2 h.room
  refine ⟨i, g2, g3, g4, g1, hn, ?_, ?_⟩
  · have e := (down_hit hn g3).2
    rw [g4] at e
    exact e.symm.trans hu.is_
  · have e := down_seg (levRow V n W k) n (W - 1 - k) c (fun y => decide (y = x)) g1 (Nat.le_of_lt hn)
    rw [g4] at e
    have e2 := hu.many
    have e3 : seg (fun p => decide (levRow V n W (k + 1) p = x)) (down (levRow V n W k) n (W - 1 - k) c a) p = seg (fun p => decide (bitZ (levRow V n W k p) (W - 1 - k) = c) && decide (levRow V n W k p = x)) a i := e
    rw [e2] at e3
    rw [e3]
    refine seg_congr (fun j _ => ?_) g1
    rw [← Bool.decide_and]
    refine decide_eq_decide.2 ⟨fun g => ⟨by rw [g, hc], g⟩, fun g => g.2⟩
theorem UpAt.done {V : Nat → Int} {n W m i : Nat} {x : Int} (h : UpAt V n W 0 0 x m i) : selW V n x (m : Int) = (i : Int) := by
  have hm : cnt (fun j => decide (V j = x)) i = m := h.many
  unfold selW
  rw [← hm]
  exact Pl.sel_in h.room (decide_eq_true h.is_)
end Go.Proofs.YtbkdloebbbmkaaaGreat

namespace Go.Proofs.YtbkdloebbbmkaaaGreat
open Pl (cnt cnt_succ cnt_congr cnt_mono cnt_le)

/-- of the first i numbers, those with 0 stand at the row's beginning, those with 1 in another row. -/
structure PartIn (R : Nat → Int) (n b i z o : Nat) (U Y : Nat → Int) : Prop where
  zeros : z = aheadI (fun j => bitZ (R j) b) i 0
  ones : o = aheadI (fun j => bitZ (R j) b) i 1
  put0 : ∀ j, j < i → bitZ (R j) b = 0 → U (aheadI (fun j => bitZ (R j) b) j 0) = R j
  put1 : ∀ j, j < i → bitZ (R j) b = 1 → Y (aheadI (fun j => bitZ (R j) b) j 1) = R j
  rest : ∀ j, i ≤ j → j < n → U j = R j
theorem PartIn.start (R : Nat → Int) (n b : Nat) (Y : Nat → Int) : PartIn R n b 0 0 0 R Y := ⟨rfl, rfl, fun j h => absurd h (Nat.not_lt_zero j), fun j h => absurd h (Nat.not_lt_zero j), fun _ _ _ => rfl⟩
theorem PartIn.all {R U Y : Nat → Int} {n b i z o : Nat} (h : PartIn R n b i z o U Y) : z + o = i := by
  rw [h.zeros, h.ones]
  exact ones_zeros R b i
theorem ahead_lt {X : Nat → Int} {i j : Nat} {c : Int} (h : j < i) (hc : X j = c) : aheadI X j c < aheadI X i c := Pl.cnt_at_lt (f := fun j => decide (X j = c)) h (decide_eq_true hc)
theorem PartIn.zero {R U Y : Nat → Int} {n b i z o : Nat} (h : PartIn R n b i z o U Y) (hb : bitZ (R i) b = 0) : PartIn R n b (i + 1) (z + 1) o (fun p => if p = z then R i else U p) Y := by
  have hall := h.all
  refine ⟨?_, ?_, fun j hj hjb => ?_, fun j hj hjb => ?_, fun j h1 h2 => ?_⟩
  · rw [aheadI_succ, if_pos hb, h.zeros]
  · rw [aheadI_succ, if_neg (by rw [hb]; decide), h.ones, Nat.add_zero]
  · by_cases e : j = i
    · rw [e]
      exact if_pos h.zeros.symm
    · have hlt : aheadI (fun j => bitZ (R j) b) j 0 < aheadI (fun j => bitZ (R j) b) i 0 := ahead_lt (X := fun j => bitZ (R j) b) (by omega) hjb
      have hlt : aheadI (fun j => bitZ (R j) b) j 0 < z := by rw [h.zeros]; exact hlt
      show (if aheadI (fun j => bitZ (R j) b) j 0 = z then R i else _) = _
      rw [if_neg (by omega)]
      exact h.put0 j (by omega) hjb
  · have hji : j ≠ i := fun e => by
      rw [e, hb] at hjb
      exact absurd hjb (by decide)
    exact h.put1 j (by omega) hjb
  · show (if j = z then R i else U j) = R j
    rw [if_neg (by omega)]
    exact h.rest j (by omega) h2
theorem PartIn.one {R U Y Y' : Nat → Int} {n b i z o : Nat} (h : PartIn R n b i z o U Y) (hb : bitZ (R i) b = 1) (hY : ∀ p, p < o → Y' p = Y p) (ho : Y' o = R i) : PartIn R n b (i + 1) z (o + 1) U Y' := by
  refine ⟨?_, ?_, fun j hj hjb => ?_, fun j hj hjb => ?_, fun j h1 h2 => ?_⟩
  · rw [aheadI_succ, if_neg (by rw [hb]; decide), h.zeros, Nat.add_zero]
  · rw [aheadI_succ, if_pos hb, h.ones]
  · have hji : j ≠ i := fun e => by
      rw [e, hb] at hjb
      exact absurd hjb (by decide)
    exact h.put0 j (by omega) hjb
  · by_cases e : j = i
    · rw [e, ← h.ones]
      exact ho
    · have hlt : aheadI (fun j => bitZ (R j) b) j 1 < aheadI (fun j => bitZ (R j) b) i 1 := ahead_lt (X := fun j => bitZ (R j) b) (by omega) hjb
      rw [hY _ (by rw [h.ones]; exact hlt)]
      exact h.put1 j (by omega) hjb
  · exact h.rest j (by omega) h2
/-- those with 1 laid behind those with 0: the next level's row. -/
theorem PartIn.done {R U Y : Nat → Int} {n b z o : Nat} (h : PartIn R n b n z o U Y) : ∀ p, p < n → (if z ≤ p ∧ p < z + o then Y (p - z) else U p) = rowNext R n b p := fun p hp => by
  have hall := h.all
  obtain ⟨j, hj, e, e2⟩ := rowNext_is (R := R) (b := b) hp
  rw [e2, ← e]
  have hs : stepI (fun j => bitZ (R j) b) n j = belowI (fun j => bitZ (R j) b) n (bitZ (R j) b) + aheadI (fun j => bitZ (R j) b) j (bitZ (R j) b) := rfl
  rcases bitZ_or (R j) b with g | g
  · have hlt : aheadI (fun j => bitZ (R j) b) j 0 < z := by rw [h.zeros]; exact ahead_lt (X := fun j => bitZ (R j) b) hj g
    rw [hs, g, below_zero, Nat.zero_add, if_neg (by omega)]
    exact h.put0 j hj g
  · have hlt : aheadI (fun j => bitZ (R j) b) j 1 < o := by rw [h.ones]; exact ahead_lt (X := fun j => bitZ (R j) b) hj g
    rw [hs, g, below_one, ← h.zeros, if_pos (by omega), Nat.add_sub_cancel_left]
    exact h.put1 j hj g
end Go.Proofs.YtbkdloebbbmkaaaGreat

namespace Go.Proofs.YtbkdloebbbmkaaaGreat
open Go.RowKit

/-- a list as a row. -/
theorem icells_litI {V : Nat → Int} {l : List Int} (h : ∀ k, k < l.length → l[k]? = some (V k)) : icells V l.length = icells (litI l) l.length := icells_congr fun k hk => by
  unfold litI
  rw [List.getD_eq_getElem?_getD, h k hk]
  rfl
theorem litI_at {l : List Int} {k : Nat} {x : Int} (h : l[k]? = some x) : litI l k = x := by
  unfold litI
  rw [List.getD_eq_getElem?_getD, h]
  rfl
theorem litI_some {l : List Int} {k : Nat} (h : k < l.length) : l[k]? = some (litI l k) := by
  rw [litI_at (List.getElem?_eq_getElem h)]
  exact List.getElem?_eq_getElem h
theorem icells_litI_snoc (l : List Int) (x : Int) : icells (litI (l ++ [x])) (l.length + 1) = icells (litI l) l.length ++ [.int .i64 x] := by
  rw [icells_snoc, icells_congr (U := litI (l ++ [x])) (U' := litI l) (fun k hk => litI_at (by rw [List.getElem?_append_left hk]; exact litI_some hk)), litI_at (x := x) (by rw [List.getElem?_append_right (Nat.le_refl _), Nat.sub_self]; rfl)]

theorem insL_row {x : Int} {S : List Int} {p k : Nat} (h1 : ∀ j y, j < p → S[j]? = some y → y ≤ x) (hp : p ≤ S.length) (h2 : ∀ y, S[p]? = some y → x < y) (hk : k < S.length + 1) : litI (insL x S) k = if k = p then x else if p < k then litI S (k - 1) else litI S k := by
  rw [insL_at h1 hp h2]
  have hlt : (S.take p).length = p := by rw [List.length_take]; omega
  by_cases e : k = p
  · rw [if_pos e]
    exact litI_at (by rw [List.getElem?_append_right (by omega), hlt, e, Nat.sub_self]; rfl)
  · rw [if_neg e]
    by_cases g : p < k
    · rw [if_pos g]
      refine litI_at ?_
      rw [List.getElem?_append_right (by omega), hlt, show k - p = (k - 1 - p) + 1 by omega, List.getElem?_cons_succ, List.getElem?_drop, show p + (k - 1 - p) = k - 1 by omega]
      exact litI_some (by omega)
    · rw [if_neg g]
      refine litI_at ?_
      rw [List.getElem?_append_left (by omega), List.getElem?_take, if_pos (by omega)]
      exact litI_some (by omega)
end Go.Proofs.YtbkdloebbbmkaaaGreat
