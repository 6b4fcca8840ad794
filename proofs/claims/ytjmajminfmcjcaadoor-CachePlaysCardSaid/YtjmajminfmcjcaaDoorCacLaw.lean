/- What the walks of layer 7's laws have in common: arrays of ints, numbers below a bound. -/
import Derived.Test.YtjmajminfmcjcaaDoorCacFst
import Derived.Test.YtjmajminfmcjcaaDoorCacPure
import Derived.Test.YtjmajminfmcjcaaDoorInts
import Derived.Test.YtjmajminfmcjcaaDoorCrcLaw
import Derived.Deep.CutBlock
import Derived.Deep.DeepCutAuto
namespace Go.Proofs.YtjmajminfmcjcaaDoor
open Go.RowKit

/-- a number below t out of any int. -/
theorem turn_n (a : Int) (t : Nat) (ht : 0 < t) (hs : t ≤ 4194304) : ∃ j : Nat, wrap64 ((IntKind.u64.wrap a).tmod (t : Int)) = (j : Int) ∧ j < t := by
  have hw : 0 ≤ IntKind.u64.wrap a := by rw [IntKind.wrap_u64]; omega
  generalize IntKind.u64.wrap a = x at hw
  have e1 : x.tmod (t : Int) = x % (t : Int) := Int.tmod_eq_emod_of_nonneg hw
  have h1 := Int.emod_nonneg x (show (t : Int) ≠ 0 by omega)
  have h2 := Int.emod_lt_of_pos x (show (0 : Int) < (t : Int) by omega)
  rw [e1]
  refine ⟨(x % (t : Int)).toNat, ?_, by omega⟩
  unfold wrap64
  omega
/-- numbers as cells. -/
def scel (S : Nat → Nat) (n : Nat) : List Value := (List.range n).map fun (j : Nat) => Value.int .i64 ((S j : Nat) : Int)
theorem scel_at (S : Nat → Nat) (n j : Nat) (hj : j < n) : (scel S n)[j]? = some (.int .i64 ((S j : Nat) : Int)) := by
  unfold scel
  rw [List.getElem?_map, List.getElem?_range hj]
  rfl
theorem scel_set (S : Nat → Nat) (n j v : Nat) : (scel S n).set j (.int .i64 (v : Int)) = scel (fun m => if j = m then v else S m) n := by
  unfold scel
  apply List.ext_getElem
  · simp
  · intro m h1 h2
    simp only [List.getElem_map, List.getElem_range, List.getElem_set]
    by_cases h : j = m
    · simp [h]
    · simp [h]
end Go.Proofs.YtjmajminfmcjcaaDoor
