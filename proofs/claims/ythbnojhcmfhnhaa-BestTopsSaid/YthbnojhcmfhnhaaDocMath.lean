/- Where a number stood last, and stands next; how often it is between two places: plain: no program is named here. -/
import Derived.Test.YthbnojhcmfhnhaaCntMath
namespace Go.Proofs.Ythbnojhcmfhnhaa
open Pl (cnt cnt_succ cnt_congr)

/-- the last place ahead of m that has x; -1: none. -/
def lookB (V : Nat → Int) (x : Int) : Nat → Int
  | 0 => -1
  | m + 1 => if V m = x then (m : Int) else lookB V x m
/-- the first of the d places from p on that has x; p + d: none. -/
def lookN (V : Nat → Int) (x : Int) : Nat → Nat → Nat
  | 0, p => p
  | d + 1, p => if V p = x then p else lookN V x d (p + 1)
/-- where number i stood last. -/
def lastD (V : Nat → Int) (i : Nat) : Int := lookB V (V i) i
/-- where number i stands next. -/
def nextD (V : Nat → Int) (n i : Nat) : Int := ((lookN V (V i) (n - (i + 1)) (i + 1) : Nat) : Int)
theorem lookB_hit {V : Nat → Int} {x : Int} {m : Nat} (h : V m = x) : lookB V x (m + 1) = (m : Int) := if_pos h
theorem lookB_miss {V : Nat → Int} {x : Int} {m : Nat} (h : V m ≠ x) : lookB V x (m + 1) = lookB V x m := if_neg h
theorem lookB_is {V : Nat → Int} {x : Int} : ∀ m, (lookB V x m = -1 ∧ ∀ j, j < m → V j ≠ x) ∨ ∃ p, p < m ∧ lookB V x m = (p : Int) ∧ V p = x ∧ ∀ j, p < j → j < m → V j ≠ x
  | 0 => .inl ⟨rfl, fun j hj => absurd hj (Nat.not_lt_zero j)⟩
  | m + 1 => by
    by_cases h : V m = x
    · exact .inr ⟨m, by omega, lookB_hit h, h, fun j h1 h2 => by omega⟩
    · rw [lookB_miss h]
      rcases lookB_is m (V := V) (x := x) with ⟨h1, h2⟩ | ⟨p, h1, h2, h3, h4⟩
      · exact .inl ⟨h1, fun j hj => by
          by_cases e : j = m
          · rw [e]; exact h
          · exact h2 j (by omega)⟩
      · exact .inr ⟨p, by omega, h2, h3, fun j g1 g2 => by
          by_cases e : j = m
          · rw [e]; exact h
          · exact h4 j g1 (by omega)⟩
theorem lookB_at {V : Nat → Int} {x : Int} {m p : Nat} (hp : p < m) (hx : V p = x) (h : ∀ j, p < j → j < m → V j ≠ x) : lookB V x m = (p : Int) := by
  rcases lookB_is (V := V) (x := x) m with ⟨_, h2⟩ | ⟨q, h1, h2, h3, h4⟩
  · exact absurd hx (h2 p hp)
  · rw [h2]
    rcases Nat.lt_trichotomy p q with g | g | g
    · exact absurd h3 (h q g h1)
    · rw [g]
    · exact absurd hx (h4 p g hp)
theorem lookB_none {V : Nat → Int} {x : Int} {m : Nat} (h : ∀ j, j < m → V j ≠ x) : lookB V x m = -1 := by
  rcases lookB_is (V := V) (x := x) m with ⟨h1, _⟩ | ⟨q, h1, _, h3, _⟩
  · exact h1
  · exact absurd h3 (h q h1)
theorem lookB_congr {V V' : Nat → Int} {x : Int} : ∀ {m : Nat}, (∀ j, j < m → V j = V' j) → lookB V x m = lookB V' x m
  | 0, _ => rfl
  | m + 1, h => by
    unfold lookB
    rw [h m (by omega), lookB_congr (fun j hj => h j (by omega))]
theorem lookB_room {V : Nat → Int} {x : Int} {m : Nat} : -1 ≤ lookB V x m ∧ lookB V x m < (m : Int) := by
  rcases lookB_is (V := V) (x := x) m with ⟨h1, _⟩ | ⟨q, h1, h2, _, _⟩
  · omega
  · omega
theorem lookN_is {V : Nat → Int} {x : Int} : ∀ d p, p ≤ lookN V x d p ∧ lookN V x d p ≤ p + d ∧ (∀ j, p ≤ j → j < lookN V x d p → V j ≠ x) ∧ (lookN V x d p < p + d → V (lookN V x d p) = x)
  | 0, p => ⟨Nat.le_refl _, Nat.le_refl _, fun j h1 h2 => by
      have h2 : j < p := h2
      omega, fun h => absurd h (Nat.lt_irrefl _)⟩
  | d + 1, p => by
    unfold lookN
    by_cases h : V p = x
    · rw [if_pos h]
      exact ⟨Nat.le_refl _, by omega, fun j h1 h2 => by omega, fun _ => h⟩
    · rw [if_neg h]
      obtain ⟨h1, h2, h3, h4⟩ := lookN_is d (p + 1) (V := V) (x := x)
      refine ⟨by omega, by omega, fun j g1 g2 => ?_, fun g => h4 (by omega)⟩
      by_cases e : j = p
      · rw [e]; exact h
      · exact h3 j (by omega) g2
theorem lookN_at {V : Nat → Int} {x : Int} {d p q : Nat} (h1 : p ≤ q) (h2 : q ≤ p + d) (h3 : ∀ j, p ≤ j → j < q → V j ≠ x) (h4 : q < p + d → V q = x) : lookN V x d p = q := by
  obtain ⟨g1, g2, g3, g4⟩ := lookN_is (V := V) (x := x) d p
  rcases Nat.lt_trichotomy (lookN V x d p) q with g | g | g
  · exact absurd (g4 (by omega)) (h3 _ g1 g)
  · exact g
  · exact absurd (h4 (by omega)) (g3 q h1 g)
theorem nextD_at {V : Nat → Int} {n i q : Nat} (hi : i < n) (h1 : i < q) (h2 : q ≤ n) (h3 : ∀ j, i < j → j < q → V j ≠ V i) (h4 : q < n → V q = V i) : nextD V n i = (q : Int) := by
  unfold nextD
  rw [lookN_at (q := q) h1 (by omega) (fun j g1 g2 => h3 j g1 g2) (fun g => h4 (by omega))]
theorem nextD_is {V : Nat → Int} {n i : Nat} (hi : i < n) : ∃ q : Nat, nextD V n i = (q : Int) ∧ i < q ∧ q ≤ n ∧ (∀ j, i < j → j < q → V j ≠ V i) ∧ (q < n → V q = V i) := by
  obtain ⟨g1, g2, g3, g4⟩ := lookN_is (V := V) (x := V i) (n - (i + 1)) (i + 1)
  exact ⟨_, rfl, by omega, by omega, fun j h1 h2 => g3 j h1 h2, fun h => g4 (by omega)⟩
theorem lastD_is (V : Nat → Int) (i : Nat) : (lastD V i = -1 ∧ ∀ j, j < i → V j ≠ V i) ∨ ∃ p, p < i ∧ lastD V i = (p : Int) ∧ V p = V i ∧ ∀ j, p < j → j < i → V j ≠ V i := lookB_is i
theorem lastD_room (V : Nat → Int) (i : Nat) : -1 ≤ lastD V i ∧ lastD V i < (i : Int) := lookB_room
theorem nextD_room {V : Nat → Int} {n i : Nat} (hi : i < n) : (i : Int) < nextD V n i ∧ nextD V n i ≤ (n : Int) := by
  obtain ⟨q, h1, h2, h3, _⟩ := nextD_is (V := V) hi
  omega
/-- the next one of the last one. -/
theorem next_last {V : Nat → Int} {n i p : Nat} (hi : i < n) (h : lastD V i = (p : Int)) : nextD V n p = (i : Int) := by
  rcases lastD_is V i with ⟨h1, _⟩ | ⟨q, h1, h2, h3, h4⟩
  · omega
  · obtain rfl : p = q := by omega
    exact nextD_at (by omega) h1 (by omega) (fun j g1 g2 => by rw [h3]; exact h4 j g1 g2) (fun _ => h3.symm)
/-- the last one of the next one. -/
theorem last_next {V : Nat → Int} {n i q : Nat} (hi : i < n) (h : nextD V n i = (q : Int)) (hq : q < n) : lastD V q = (i : Int) := by
  obtain ⟨q', h1, h2, h3, h4, h5⟩ := nextD_is (V := V) hi
  obtain rfl : q = q' := by omega
  have e := h5 hq
  exact lookB_at h2 e.symm (fun j g1 g2 => by rw [e]; exact h4 j g1 g2)
/-- seen from behind. -/
theorem next_mirror {V : Nat → Int} {n i : Nat} (hi : i < n) : nextD (fun j => V (n - 1 - j)) n (n - 1 - i) = (n : Int) - 1 - lastD V i := by
  have e0 : n - 1 - (n - 1 - i) = i := by omega
  rcases lastD_is V i with ⟨h1, h2⟩ | ⟨p, h1, h2, h3, h4⟩
  · rw [h1, nextD_at (q := n) (by omega) (by omega) (Nat.le_refl _) (fun j g1 g2 => by
      show V (n - 1 - j) ≠ V (n - 1 - (n - 1 - i))
      rw [e0]
      exact h2 _ (by omega)) (fun g => absurd g (Nat.lt_irrefl _))]
    omega
  · rw [h2, nextD_at (q := n - 1 - p) (by omega) (by omega) (by omega) (fun j g1 g2 => by
      show V (n - 1 - j) ≠ V (n - 1 - (n - 1 - i))
      rw [e0]
      exact h4 _ (by omega) (by omega)) (fun _ => by
      show V (n - 1 - (n - 1 - p)) = V (n - 1 - (n - 1 - i))
      rw [e0, show n - 1 - (n - 1 - p) = p by omega]
      exact h3)]
    omega
/-- how many of the first m places are d, from a on, ahead of b. -/
def cntR (V : Nat → Int) (d a b : Int) (m : Nat) : Nat := cnt (fun j => decide (V j = d ∧ a ≤ (j : Int) ∧ (j : Int) < b)) m
theorem cntR_hit {V : Nat → Int} {d a b : Int} {m : Nat} (h : V m = d ∧ a ≤ (m : Int) ∧ (m : Int) < b) : cntR V d a b (m + 1) = cntR V d a b m + 1 := by
  unfold cntR
  rw [cnt_succ, if_pos (decide_eq_true h)]
theorem cntR_miss {V : Nat → Int} {d a b : Int} {m : Nat} (h : ¬ (V m = d ∧ a ≤ (m : Int) ∧ (m : Int) < b)) : cntR V d a b (m + 1) = cntR V d a b m := by
  unfold cntR
  rw [cnt_succ, if_neg (by rw [decide_eq_true_iff]; exact h), Nat.add_zero]
theorem cntR_le (V : Nat → Int) (d a b : Int) (m : Nat) : cntR V d a b m ≤ m := Pl.cnt_le _ m
/-- how many of them have none ahead of them from a on. -/
def fstR (V : Nat → Int) (d a b : Int) (m : Nat) : Nat := cnt (fun j => decide ((a ≤ (j : Int) ∧ (j : Int) < b ∧ V j = d) ∧ lastD V j < a)) m
theorem fstR_hit {V : Nat → Int} {d a b : Int} {m : Nat} (h : (a ≤ (m : Int) ∧ (m : Int) < b ∧ V m = d) ∧ lastD V m < a) : fstR V d a b (m + 1) = fstR V d a b m + 1 := by
  unfold fstR
  rw [cnt_succ, if_pos (decide_eq_true h)]
theorem fstR_miss {V : Nat → Int} {d a b : Int} {m : Nat} (h : ¬ ((a ≤ (m : Int) ∧ (m : Int) < b ∧ V m = d) ∧ lastD V m < a)) : fstR V d a b (m + 1) = fstR V d a b m := by
  unfold fstR
  rw [cnt_succ, if_neg (by rw [decide_eq_true_iff]; exact h), Nat.add_zero]
/-- the first one alone. -/
theorem firsts_one {V : Nat → Int} {d a b : Int} (ha : 0 ≤ a) : ∀ m, fstR V d a b m = min (cntR V d a b m) 1
  | 0 => rfl
  | m + 1 => by
    have ih := firsts_one ha (V := V) (d := d) (b := b) m
    by_cases h : V m = d ∧ a ≤ (m : Int) ∧ (m : Int) < b
    · rw [cntR_hit h]
      have hz : cntR V d a b m = 0 ↔ lastD V m < a := by
        constructor
        · intro h0
          rcases lastD_is V m with ⟨h1, _⟩ | ⟨p, h1, h2, h3, _⟩
          · omega
          · apply Int.lt_of_not_ge
            intro g
            have h4 : cntR V d a b p + 1 ≤ cntR V d a b m := by
              rw [← cntR_hit (V := V) (d := d) (a := a) (b := b) (m := p) ⟨by rw [h3]; exact h.1, by omega, by omega⟩]
              exact Pl.cnt_mono _ h1
            omega
        · intro hl
          exact Pl.cnt_zero fun j hj => decide_eq_false fun g => by
            rcases lastD_is V m with ⟨_, h2⟩ | ⟨p, h1, h2, h3, h4⟩
            · exact h2 j hj (by rw [g.1, h.1])
            · by_cases e : p < j
              · exact h4 j e hj (by rw [g.1, h.1])
              · omega
      by_cases hl : lastD V m < a
      · rw [fstR_hit ⟨⟨h.2.1, h.2.2, h.1⟩, hl⟩, ih, hz.2 hl]
        rfl
      · rw [fstR_miss (fun g => hl g.2), ih]
        have : cntR V d a b m ≠ 0 := fun e => hl (hz.1 e)
        omega
    · rw [cntR_miss h, fstR_miss (fun g => h ⟨g.1.2.2, g.1.1, g.1.2.1⟩), ih]
end Go.Proofs.Ythbnojhcmfhnhaa
