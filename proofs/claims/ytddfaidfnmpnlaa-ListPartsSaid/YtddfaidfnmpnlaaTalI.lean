/- What layer 16's laws ask of package tally, as one word (TalI), over any 'At' (a tally lies at a pointer); the laws' opening. -/
import Derived.Test.YtddfaidfnmpnlaaTalRef
import Derived.Test.YtddfaidfnmpnlaaSufI
namespace Go.Proofs.Ytddfaidfnmpnlaa
open Go.RowKit

/-- the doubles of a place; 0, if there is none. -/
def dblAt (D L : Nat → Int) (n : Nat) (i : Int) : Int := if 0 ≤ i ∧ i < (n : Int) then ((dblT D L n i.toNat : Nat) : Int) else 0
theorem dblAt_in {D L : Nat → Int} {n i : Nat} (h : i < n) : dblAt D L n (i : Int) = ((dblT D L n i : Nat) : Int) := by
  unfold dblAt
  rw [if_pos (by omega), Int.toNat_natCast]
theorem dblAt_out {D L : Nat → Int} {n : Nat} {i : Int} (h : ¬ (0 ≤ i ∧ i < (n : Int))) : dblAt D L n i = 0 := if_neg h
theorem dblAt_room (D L : Nat → Int) (n : Nat) (i : Int) : 0 ≤ dblAt D L n i ∧ dblAt D L n i ≤ (n : Int) := by
  unfold dblAt
  split
  · have := dblT_le D L n i.toNat
    omega
  · omega
theorem itsR_lit_ {w : World} (xs : List Int) (hm : xs.length ≤ maxLen) (hx : ∀ x ∈ xs, -9223372036854775808 ≤ x ∧ x ≤ 9223372036854775807) : ItsR (w.alloc (.cells (xs.map fun x => Value.int .i64 x).toArray 3)) (some ⟨w.heap.size, 0, none⟩) xs.length xs.length (litI xs) := ⟨fun e => (by cases e), Nat.le_refl _, hm, its_lit w xs hx⟩
theorem below_up {lo : Nat} {w a b : World} (hlo : w.heap.size = lo) (h : Below lo w a) (hb : Below a.heap.size a b) : Below lo w b := h.trans (hb.mono (by have := h.size; omega))
section
variable {At : Nat → World → Value → Nat → (Nat → Int) → (Nat → Int) → Prop}
/-- the chapter's example. -/
def txD : Nat → Int := litI [0, 1, 0, 0, 1]
def txL : Nat → Int := litI [0, 0, 0, 2, 1]
end
end Go.Proofs.Ytddfaidfnmpnlaa
