/- What the developers' package bwt does, plainly: the places by the numbers there, of like ones as they rise, lead from each suffix to the one behind it; the round from the whole list's on is all places just if the row is a turned one. No program is named here. -/
import Derived.Test.YthbnojhcmfhnhaaBwtMath
namespace Go.Proofs.Ythbnojhcmfhnhaa
open Pl (cnt cnt_succ cnt_congr cnt_at_lt)

/-- x comes ahead of y: a lesser number there, or a like one further ahead. -/
def AheadOf (V : Nat → Int) (x y : Nat) : Prop := V x < V y ∨ V x = V y ∧ x < y
section
variable {V : Nat → Int} {n : Nat}
theorem aheadOf_irrefl {x : Nat} : ¬ AheadOf V x x := by rintro (h | h) <;> omega
theorem aheadOf_trans {x y z : Nat} (h : AheadOf V x y) (h' : AheadOf V y z) : AheadOf V x z := by
  rcases h with h | ⟨h, g⟩ <;> rcases h' with h' | ⟨h', g'⟩
  · exact .inl (by omega)
  · exact .inl (by omega)
  · exact .inl (by omega)
  · exact .inr ⟨by omega, by omega⟩
theorem aheadOf_or {x y : Nat} (h : x ≠ y) : AheadOf V x y ∨ AheadOf V y x := by
  rcases Int.lt_trichotomy (V x) (V y) with g | g | g
  · exact .inl (.inl g)
  · rcases Nat.lt_or_gt_of_ne h with q | q
    · exact .inl (.inr ⟨g, q⟩)
    · exact .inr (.inr ⟨g.symm, q⟩)
  · exact .inr (.inl g)
theorem below_more {c c' : Int} (h : c < c') : ∀ m, belowI V m c + aheadI V m c ≤ belowI V m c'
  | 0 => Nat.le_refl _
  | m + 1 => by
    have := below_more h m
    rw [belowI_succ, aheadI_succ, belowI_succ]
    by_cases h1 : V m < c
    · rw [if_pos h1, if_neg (by omega), if_pos (by omega)]
      omega
    · rw [if_neg h1]
      by_cases h2 : V m = c
      · rw [if_pos h2, if_pos (by omega)]
        omega
      · rw [if_neg h2]
        split <;> omega
theorem stepI_mono {i j : Nat} (hi : i < n) (_hj : j < n) (h : AheadOf V i j) : stepI V n i < stepI V n j := by
  unfold stepI
  rcases h with h | ⟨h, g⟩
  · have h1 := below_more h n (V := V)
    have h2 : aheadI V i (V i) < aheadI V n (V i) := cnt_at_lt (f := fun k => decide (V k = V i)) hi (by simp)
    omega
  · have h2 : aheadI V i (V i) < aheadI V j (V i) := cnt_at_lt (f := fun k => decide (V k = V i)) g (by simp)
    rw [← h]
    omega
theorem stepI_inj {i j : Nat} (hi : i < n) (hj : j < n) (h : stepI V n i = stepI V n j) : i = j := by
  apply Classical.byContradiction
  intro hne
  rcases aheadOf_or (V := V) hne with g | g
  · have := stepI_mono hi hj g
    omega
  · have := stepI_mono hj hi g
    omega
theorem ahead_of_step {i j : Nat} (hi : i < n) (hj : j < n) (h : stepI V n i < stepI V n j) : AheadOf V i j := by
  by_cases hne : i = j
  · rw [hne] at h
    omega
  · rcases aheadOf_or (V := V) hne with g | g
    · exact g
    · have := stepI_mono hj hi g
      omega
/-- where the suffix behind each one stands. -/
def NextOf (V : Nat → Int) (n : Nat) (X : Nat → Int) : Prop := ∀ p, p < n → X (stepI V n p) = (p : Int)
theorem rising_is {g : Nat → Nat} (hg : ∀ i, i < n → g i < n) (hr : ∀ i j, i < j → j < n → g i < g j) : ∀ i, i < n → g i = i := fun i hi => by
  have h : ∀ d i, i + d < n → g i + d ≤ g (i + d) := by
    intro d
    induction d with
    | zero => intro i _; exact Nat.le_refl _
    | succ d ih =>
      intro i hi
      have h1 := ih i (by omega)
      have h2 := hr (i + d) (i + (d + 1)) (by omega) hi
      omega
  have h1 := h (n - 1 - i) i (by omega)
  have h2 := h i 0 (by omega)
  have h3 := hg (n - 1) (by omega)
  rw [show i + (n - 1 - i) = n - 1 by omega] at h1
  rw [Nat.zero_add] at h2
  omega
/-- the places in order are it. -/
theorem next_of_sorted {X : Nat → Int} {f : Nat → Nat} (hf : ∀ i, i < n → f i < n) (hs : ∀ i j, i < j → j < n → AheadOf V (f i) (f j)) (hX : ∀ i, i < n → X i = ((f i : Nat) : Int)) : NextOf V n X := fun p hp => by
  obtain ⟨i, hi, rfl⟩ := inj_onto n f hf (fun i j hi hj he => by
    rcases Nat.lt_trichotomy i j with h | h | h
    · have := hs i j h hj
      rw [he] at this
      exact absurd this aheadOf_irrefl
    · exact h
    · have := hs j i h hi
      rw [he] at this
      exact absurd this aheadOf_irrefl) p hp
  rw [rising_is (g := fun i => stepI V n (f i)) (fun i hi => stepI_lt (hf i hi)) (fun i j hij hj => stepI_mono (hf i (by omega)) (hf j hj) (hs i j hij hj)) i hi, hX i hi]
theorem stepI_onto {i : Nat} (hi : i < n) : ∃ p, p < n ∧ stepI V n p = i := inj_onto n (stepI V n) (fun _ h => stepI_lt h) (fun _ _ h h' e => stepI_inj h h' e) i hi
variable {X : Nat → Int}
/-- the same, as a natural number. -/
def nxN (X : Nat → Int) (i : Nat) : Nat := (X i).toNat
theorem NextOf.at_ (h : NextOf V n X) {p : Nat} (hp : p < n) : nxN X (stepI V n p) = p := by
  unfold nxN
  rw [h p hp, Int.toNat_natCast]
theorem NextOf.lt (h : NextOf V n X) {i : Nat} (hi : i < n) : nxN X i < n := by
  obtain ⟨p, hp, rfl⟩ := stepI_onto (V := V) hi
  rw [h.at_ hp]
  exact hp
theorem NextOf.int (h : NextOf V n X) {i : Nat} (hi : i < n) : X i = ((nxN X i : Nat) : Int) := by
  obtain ⟨p, hp, rfl⟩ := stepI_onto (V := V) hi
  rw [h.at_ hp, h p hp]
theorem NextOf.back (h : NextOf V n X) {i : Nat} (hi : i < n) : stepI V n (nxN X i) = i := by
  obtain ⟨p, hp, rfl⟩ := stepI_onto (V := V) hi
  rw [h.at_ hp]
/-- the least number is there once, at wh. -/
def LeastAt (V : Nat → Int) (n wh : Nat) : Prop := ∀ j, j < n → j ≠ wh → V wh < V j
theorem least_iff (h : NextOf V n X) {wh : Nat} (hw : wh < n) : LeastAt V n wh ↔ nxN X 0 = wh ∧ (n = 1 ∨ V (nxN X 1) ≠ V wh) := by
  have h0 := h.lt (i := 0) (by omega)
  have b0 := h.back (i := 0) (by omega)
  constructor
  · intro hl
    have e0 : nxN X 0 = wh := by
      apply Classical.byContradiction
      intro hne
      have := stepI_mono hw h0 (.inl (hl _ h0 hne))
      omega
    refine ⟨e0, ?_⟩
    by_cases h1 : n = 1
    · exact .inl h1
    · have b1 := h.back (i := 1) (by omega)
      have := hl _ (h.lt (i := 1) (by omega)) (fun e => by
        rw [e, ← e0, b0] at b1
        omega)
      exact .inr (by omega)
  · rintro ⟨rfl, h1⟩ j hj hne
    have hp : 0 < stepI V n j := by
      apply Nat.pos_of_ne_zero
      intro e
      rw [← b0] at e
      exact hne (stepI_inj hj h0 e)
    rcases ahead_of_step (V := V) h0 hj (by omega) with g | ⟨g, _⟩
    · exact g
    · rcases h1 with h1 | h1
      · omega
      · have b1 := h.back (i := 1) (by omega)
        have l1 := h.lt (i := 1) (by omega)
        have q0 := ahead_of_step (V := V) h0 l1 (by omega)
        have q1 : V (nxN X 1) ≤ V j := by
          by_cases e : stepI V n j = 1
          · rw [← b1] at e
            rw [stepI_inj hj l1 e]
            exact Int.le_refl _
          · rcases ahead_of_step (V := V) l1 hj (by omega) with q | q <;> omega
        rcases q0 with q | q <;> omega
/-- the round. -/
def nxs (X : Nat → Int) (wh : Nat) : Nat → Nat
  | 0 => wh
  | m + 1 => nxN X (nxs X wh m)
theorem NextOf.nxs_lt (h : NextOf V n X) {wh : Nat} (hw : wh < n) : ∀ m, nxs X wh m < n
  | 0 => hw
  | m + 1 => h.lt (h.nxs_lt hw m)
theorem NextOf.nx_inj (h : NextOf V n X) {i j : Nat} (hi : i < n) (hj : j < n) (e : nxN X i = nxN X j) : i = j := by
  rw [← h.back hi, e, h.back hj]
/-- the round comes to wh only when all are told. -/
def FullR (X : Nat → Int) (n wh : Nat) : Prop := ∀ q, 0 < q → q < n → nxs X wh q ≠ wh
theorem NextOf.nxs_back (h : NextOf V n X) {wh : Nat} (hw : wh < n) : ∀ a d, nxs X wh (a + d) = nxs X wh a → nxs X wh d = wh := by
  intro a
  induction a with
  | zero => intro d e; rw [Nat.zero_add] at e; exact e
  | succ a ih =>
    intro d e
    rw [show a + 1 + d = a + d + 1 by omega] at e
    exact ih d (h.nx_inj (h.nxs_lt hw _) (h.nxs_lt hw _) e)
theorem NextOf.full_inj (h : NextOf V n X) {wh : Nat} (hw : wh < n) (hF : FullR X n wh) {i j : Nat} (hi : i < n) (hj : j < n) (e : nxs X wh i = nxs X wh j) : i = j := by
  rcases Nat.lt_trichotomy i j with g | g | g
  · exact absurd (h.nxs_back hw i (j - i) (by rw [show i + (j - i) = j by omega]; exact e.symm)) (hF _ (by omega) (by omega))
  · exact g
  · exact absurd (h.nxs_back hw j (i - j) (by rw [show j + (i - j) = i by omega]; exact e)) (hF _ (by omega) (by omega))
theorem NextOf.full_onto (h : NextOf V n X) {wh : Nat} (hw : wh < n) (hF : FullR X n wh) {p : Nat} (hp : p < n) : ∃ m, m < n ∧ nxs X wh m = p :=
  inj_onto n (nxs X wh) (fun m _ => h.nxs_lt hw m) (fun _ _ hi hj e => h.full_inj hw hF hi hj e) p hp
theorem NextOf.full_end (h : NextOf V n X) {wh : Nat} (hw : wh < n) (hF : FullR X n wh) : nxs X wh n = wh := by
  obtain ⟨m, hm, e⟩ := h.full_onto hw hF (h.nxs_lt hw n)
  have h1 := h.nxs_back hw m (n - m) (by rw [show m + (n - m) = n by omega]; exact e.symm)
  by_cases h0 : m = 0
  · subst h0
    exact h1
  · exact absurd h1 (hF _ (by omega) (by omega))
theorem NextOf.full_back (h : NextOf V n X) {wh : Nat} (hw : wh < n) (hF : FullR X n wh) : ∀ m, m ≤ n → backAt V n wh m = nxs X wh (n - m) := by
  intro m
  induction m with
  | zero => intro _; rw [Nat.sub_zero, h.full_end hw hF]; rfl
  | succ m ih =>
    intro hm
    show stepI V n (backAt V n wh m) = _
    rw [ih (by omega), show n - m = n - (m + 1) + 1 by omega]
    exact h.back (h.nxs_lt hw _)
/-- the list, from the front. -/
theorem NextOf.full_list (h : NextOf V n X) {wh : Nat} (hw : wh < n) (hF : FullR X n wh) {k : Nat} (hk : k < n) : backT V n wh k = V (nxs X wh (k + 1)) := by
  unfold backT
  rw [h.full_back hw hF _ (by omega), show n - (n - 1 - k) = k + 1 by omega]
theorem NextOf.ok_of (h : NextOf V n X) {wh : Nat} (hw : wh < n) (hL : LeastAt V n wh) (hF : FullR X n wh) : BackOK V n wh := by
  have hB : ∀ k, k < n → backT V n wh k = V (nxs X wh (k + 1)) := fun k hk => h.full_list hw hF hk
  have hlast : backT V n wh (n - 1) = V wh := by
    rw [hB _ (by omega), show n - 1 + 1 = n by omega, h.full_end hw hF]
  refine ⟨⟨by omega, fun i hi => ?_⟩, ?_⟩
  · rw [hlast, hB i (by omega)]
    exact hL _ (h.nxs_lt hw _) (hF _ (by omega) (by omega))
  · obtain ⟨s, hs⟩ : ∃ s : Nat → Nat, ∀ p, p < n → s p < n ∧ nxs X wh (s p) = p :=
      ⟨fun p => open Classical in if hp : p < n then (h.full_onto hw hF hp).choose else 0, fun p hp => by
        simp only [hp, dif_pos]
        exact (h.full_onto hw hF hp).choose_spec⟩
    have sx : ∀ m, m < n → s (nxs X wh m) = m := fun m hm => h.full_inj hw hF (hs _ (h.nxs_lt hw m)).1 hm (hs _ (h.nxs_lt hw m)).2
    have hfst : ∀ i, i < n → backT V n wh (s i) = V (nxN X i) := fun i hi => by
      rw [hB _ (hs i hi).1]
      show V (nxN X (nxs X wh (s i))) = _
      rw [(hs i hi).2]
    have main : ∀ m i j, n - s i ≤ m → i < j → j < n → SLess (backT V n wh) n (s i) (s j) := by
      intro m
      induction m with
      | zero =>
        intro i j hm hij hj
        have := (hs i (by omega)).1
        omega
      | succ m ih =>
        intro i j hm hij hj
        have hi : i < n := by omega
        have s1 := (hs i hi).1
        have s2 := (hs j hj).1
        rcases ahead_of_step (V := V) (h.lt hi) (h.lt hj) (by rw [h.back hi, h.back hj]; exact hij) with g | ⟨g, g'⟩
        · exact (sless_now s1 s2 (by rw [hfst i hi, hfst j hj]; omega)).2 (by rw [hfst i hi, hfst j hj]; exact g)
        · have nl : ∀ x y, x < n → y < n → nxN X x ≠ nxN X y → V (nxN X x) = V (nxN X y) → s x + 1 < n := fun x y hx hy hne he => by
            have q := (hs x hx).1
            apply Classical.byContradiction
            intro hq
            have e1 : nxN X x = wh := by
              have e2 : nxs X wh (s x + 1) = nxN X x := by
                show nxN X (nxs X wh (s x)) = _
                rw [(hs x hx).2]
              rw [← e2, show s x + 1 = n by omega, h.full_end hw hF]
            have := hL _ (h.lt hy) (fun e => hne (by rw [e1, e]))
            rw [e1] at he
            omega
          have n1 := nl i j hi hj (by omega) g
          have n2 := nl j i hj hi (by omega) g.symm
          have e1 : s (nxN X i) = s i + 1 := by
            have := sx (s i + 1) n1
            rwa [show nxs X wh (s i + 1) = nxN X i from by
              show nxN X (nxs X wh (s i)) = _
              rw [(hs i hi).2]] at this
          have e2 : s (nxN X j) = s j + 1 := by
            have := sx (s j + 1) n2
            rwa [show nxs X wh (s j + 1) = nxN X j from by
              show nxN X (nxs X wh (s j)) = _
              rw [(hs j hj).2]] at this
          refine (sless_step s1 s2 (by rw [hfst i hi, hfst j hj]; exact g)).2 ?_
          rw [← e1, ← e2]
          exact ih _ _ (by omega) g' (h.lt hj)
    refine ⟨s, ⟨fun i hi => (hs i hi).1, fun i j hij hj => main _ i j (Nat.le_refl _) hij hj⟩, sx 0 (by omega), fun i hi => ?_⟩
    unfold aheadN
    by_cases h0 : s i = 0
    · rw [if_pos h0, hlast]
      have := (hs i hi).2
      rw [h0] at this
      rw [← this]
      rfl
    · rw [if_neg h0, hB _ (by have := (hs i hi).1; omega), show s i - 1 + 1 = s i by omega, (hs i hi).2]
theorem NextOf.ok_iff (h : NextOf V n X) {wh : Nat} (hw : wh < n) : BackOK V n wh ↔ LeastAt V n wh ∧ FullR X n wh := by
  refine ⟨fun hB => ?_, fun ⟨h1, h2⟩ => h.ok_of hw h1 h2⟩
  obtain ⟨hE, s, hsa, h0, hV⟩ := hB
  refine ⟨fun j hj hne => ?_, fun q hq hqn e => ?_⟩
  · have hs0 : s j ≠ 0 := fun e => hne (hsa.inj hj hw (by rw [e, h0]))
    have := hsa.1 j hj
    rw [hV wh hw, hV j hj, h0]
    unfold aheadN
    rw [if_pos rfl, if_neg hs0]
    exact hE.2 _ (by omega)
  · have step : ∀ i, i < n → s i + 1 < n → s (nxN X i) = s i + 1 := fun i hi hlt => by
      have := ahead_turn hE hsa hV (h.lt hi)
      rw [h.back hi] at this
      unfold aheadN at this
      split at this <;> omega
    have all : ∀ q, q < n → s (nxs X wh q) = q := by
      intro q
      induction q with
      | zero => intro _; exact h0
      | succ q ih =>
        intro hq
        have h1 := ih (by omega)
        show s (nxN X (nxs X wh q)) = q + 1
        rw [step _ (h.nxs_lt hw q) (by omega), h1]
    have := all q hqn
    rw [e, h0] at this
    omega
end
end Go.Proofs.Ythbnojhcmfhnhaa
