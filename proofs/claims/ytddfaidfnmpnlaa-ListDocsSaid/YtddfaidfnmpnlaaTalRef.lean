/- The document's functions of layer 16: Doubles, Unlike by looking. -/
import Derived.Test.YtddfaidfnmpnlaaTalMath
import Derived.Test.YtddfaidfnmpnlaaSufTurn
import Derived.Test.YtddfaidfnmpnlaaIntPut
import Derived.Deep.QuietTactic
import Derived.BigQuiet
namespace Go.Proofs.Ytddfaidfnmpnlaa
open Go.RowKit

/-- the doubles, as a row's numbers. -/
def dblI (D L : Nat → Int) (m : Nat) : Nat → Int := fun q => ((dblT D L m q : Nat) : Int)

theorem unlT_more {D : Nat → Int} {a i n : Nat} (ha : a ≤ i) (hi : i < n) : unlT D a (i + 1) n = unlT D a i n + (if lastD D i < (a : Int) then 1 else 0) := by
  unfold unlT
  by_cases h : lastD D i < (a : Int)
  · rw [if_pos h]
    have e := cnt_add_or (f := fun j => decide (a ≤ j ∧ j < i ∧ lastD D j < (a : Int))) (g := fun j => decide (i ≤ j ∧ j < i + 1)) (fun j => by
      rw [decide_eq_true_iff, decide_eq_true_iff]
      omega) n
    rw [cnt_span i (i + 1) (by omega) n (by omega), Nat.add_sub_cancel_left] at e
    rw [← e]
    refine Pl.cnt_congr fun j _ => ?_
    rw [Bool.eq_iff_iff, Bool.or_eq_true, decide_eq_true_iff, decide_eq_true_iff, decide_eq_true_iff]
    constructor
    · intro g
      by_cases e : j = i
      · exact .inr (by omega)
      · exact .inl (by omega)
    · rintro (g | g)
      · omega
      · obtain rfl : j = i := by omega
        exact ⟨ha, by omega, h⟩
  · rw [if_neg h, Nat.add_zero]
    refine Pl.cnt_congr fun j _ => decide_eq_decide.2 ?_
    constructor
    · intro g
      by_cases e : j = i
      · rw [e] at g; omega
      · omega
    · intro g
      omega
/-- whether one of them is like number i. -/
def SeenT (D : Nat → Int) (a k i : Nat) (r : Bool) : Prop := r = true ↔ ∃ j, a ≤ j ∧ j < k ∧ D j = D i
theorem lastD_seen {D : Nat → Int} {a i : Nat} : (∃ j, a ≤ j ∧ j < i ∧ D j = D i) ↔ ¬ lastD D i < (a : Int) := by
  rcases lastD_is D i with ⟨h1, h2⟩ | ⟨p, h1, h2, h3, h4⟩
  · rw [h1]
    exact ⟨fun ⟨j, g1, g2, g3⟩ => absurd g3 (h2 j g2), fun h => absurd (show (-1 : Int) < (a : Int) by omega) h⟩
  · rw [h2]
    constructor
    · rintro ⟨j, g1, g2, g3⟩
      by_cases e : p < j
      · exact absurd g3 (h4 j e g2)
      · omega
    · intro h
      exact ⟨p, by omega, h1, h3⟩

end Go.Proofs.Ytddfaidfnmpnlaa
