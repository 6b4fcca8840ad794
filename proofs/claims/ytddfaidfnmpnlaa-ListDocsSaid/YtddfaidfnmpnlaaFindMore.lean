/- The suffixes that begin with a pattern stand side by side in the order; how many they are; plain: no program is named here. -/
import Derived.Test.YtddfaidfnmpnlaaFindMath
import Derived.Test.YtddfaidfnmpnlaaBwtMath
namespace Go.Proofs.Ytddfaidfnmpnlaa
open Pl (cnt cnt_succ cnt_congr)

theorem StN.between {T : Nat → Int} {n : Nat} {P : Nat → Int} {m a b c : Nat} (ha : StN T n P m a) (hc : StN T n P m c) (h1 : SLess T n a b) (h2 : SLess T n b c) : StN T n P m b := by
  obtain ⟨x, hx1, hx2, hx3, hx4⟩ := h1
  obtain ⟨y, hy1, hy2, hy3, hy4⟩ := h2
  obtain ⟨ha1, ha2⟩ := ha
  obtain ⟨hc1, hc2⟩ := hc
  by_cases hxm : m ≤ x
  · exact ⟨by omega, fun i hi => by rw [← hx1 i (by omega), ha2 i hi]⟩
  · by_cases hym : m ≤ y
    · exact ⟨by omega, fun i hi => by rw [hy1 i (by omega), hc2 i hi]⟩
    · exfalso
      have e1 : T (a + x) = P x := ha2 x (by omega)
      have e2 : T (c + y) = P y := hc2 y (by omega)
      have l1 : T (a + x) < T (b + x) := hx4.resolve_left (by omega)
      rcases Nat.lt_trichotomy y x with h | h | h
      · have e3 : T (a + y) = T (b + y) := hx1 y h
        have e4 : T (a + y) = P y := ha2 y (by omega)
        rcases hy4 with h4 | h4
        · omega
        · omega
      · subst h
        rcases hy4 with h4 | h4
        · omega
        · omega
      · have e3 : T (b + x) = T (c + x) := hy1 x h
        have e4 : T (c + x) = P x := hc2 x (by omega)
        omega
theorem stB_between {T : Nat → Int} {n : Nat} {P : Nat → Int} {m : Nat} {s : Nat → Nat} (hs : IsSA T n s) {i j k : Nat} (hij : i ≤ j) (hjk : j ≤ k) (hk : k < n) (hi : stB T n P m (s i) = true) (hk2 : stB T n P m (s k) = true) : stB T n P m (s j) = true := by
  rcases Nat.lt_or_eq_of_le hij with h1 | h1
  · rcases Nat.lt_or_eq_of_le hjk with h2 | h2
    · exact stB_iff.2 (StN.between (stB_iff.1 hi) (stB_iff.1 hk2) (hs.2 i j h1 (by omega)) (hs.2 j k h2 hk))
    · rw [h2]; exact hk2
  · rw [← h1]; exact hi

/-- of those of the first k that stand side by side: all between the first one and the last one, and no other. -/
theorem rngF_side {f : Nat → Bool} {n : Nat} (hf : ∀ i j k, i ≤ j → j ≤ k → k < n → f i = true → f k = true → f j = true) : ∀ k, k ≤ n →
    (rngF f k).2 - (rngF f k).1 = cnt f k ∧ (∀ j, j < k → (f j = true ↔ (rngF f k).1 ≤ j ∧ j < (rngF f k).2))
  | 0, _ => ⟨rfl, fun j hj => absurd hj (Nat.not_lt_zero j)⟩
  | k + 1, hk => by
    obtain ⟨h1, h2⟩ := rngF_side hf k (by omega)
    have hle := rngF_le f k
    cases hfk : f k with
    | false =>
      rw [rngF_miss hfk, cnt_succ, hfk]
      refine ⟨by rw [h1]; rfl, fun j hj => ?_⟩
      by_cases e : j = k
      · subst e
        rw [hfk]
        constructor
        · intro h; cases h
        · intro h; omega
      · exact h2 j (by omega)
    | true =>
      by_cases h0 : (rngF f k).2 = 0
      · rw [rngF_first hfk h0, cnt_succ, hfk, if_pos rfl, ← h1]
        refine ⟨by show k + 1 - k = _; omega, fun j hj => ?_⟩
        by_cases e : j = k
        · subst e
          exact ⟨fun _ => ⟨Nat.le_refl _, Nat.lt_succ_self _⟩, fun _ => hfk⟩
        · rw [h2 j (by omega)]
          show _ ↔ k ≤ j ∧ j < k + 1
          omega
      · have hlt : (rngF f k).1 < (rngF f k).2 ∨ ¬ (rngF f k).1 < (rngF f k).2 := Classical.em _
        have hpos : (rngF f k).1 < (rngF f k).2 := rngF_lt h0
        have hlast : f ((rngF f k).2 - 1) = true := (h2 _ (by omega)).2 ⟨by omega, by omega⟩
        have hend : (rngF f k).2 = k := by
          by_cases e : (rngF f k).2 = k
          · exact e
          · have := hf _ (rngF f k).2 k (by omega) hle.2 (by omega) hlast hfk
            have := ((h2 _ (by omega)).1 this).2
            omega
        rw [rngF_more hfk h0, cnt_succ, hfk, if_pos rfl, ← h1]
        refine ⟨by show k + 1 - (rngF f k).1 = _; omega, fun j hj => ?_⟩
        by_cases e : j = k
        · subst e
          exact ⟨fun _ => ⟨by show (rngF f j).1 ≤ j; omega, Nat.lt_succ_self _⟩, fun _ => hfk⟩
        · rw [h2 j (by omega), hend]
          show _ ↔ (rngF f k).1 ≤ j ∧ j < k + 1
          omega
theorem plsF_cnt (T : Nat → Int) (n : Nat) (P : Nat → Int) {m : Nat} (hm : 0 < m) : ∀ k, (plsF T n P m k).length = cnt (stB T n P m) k
  | 0 => rfl
  | k + 1 => by
    rw [cnt_succ, ← plsF_cnt T n P hm k]
    by_cases h : stB T n P m k = true
    · rw [plsF_hit ⟨hm, h⟩, if_pos h, List.length_append]
      rfl
    · rw [plsF_miss (fun g => h g.2), if_neg h]
      rfl
/-- as many places as suffixes. -/
theorem rngF_places {T : Nat → Int} {n : Nat} {P : Nat → Int} {m : Nat} {s : Nat → Nat} (hs : IsSA T n s) (hm : 0 < m) : (rngF (fun i => stB T n P m (s i)) n).2 - (rngF (fun i => stB T n P m (s i)) n).1 = (plsF T n P m n).length := by
  rw [(rngF_side (f := fun i => stB T n P m (s i)) (n := n) (fun i j k h1 h2 h3 h4 h5 => stB_between hs h1 h2 h3 h4 h5) n (Nat.le_refl _)).1, plsF_cnt T n P hm]
  exact cnt_bij ⟨hs.1, fun i j hi hj he => hs.inj hi hj he⟩ (stB T n P m)
/-- a part stands where it was taken from. -/
theorem stN_part (T : Nat → Int) {n a l : Nat} (h : a + l ≤ n) : StN T n (fun j => T (a + j)) l a := ⟨h, fun _ _ => rfl⟩
end Go.Proofs.Ytddfaidfnmpnlaa
