/- The contracts of the document's own answers for layer 4: a sum bit by bit, and the sum behind bytes. -/
import Derived.Test.YtpcdbmkmpphhiaaCrc
namespace Go.Proofs.Ytpcdbmkmpphhiaa
open Go.RowKit

theorem odd_test (r : Nat) : ((r : Int) % 2 == 1) = r.testBit 0 := by
  rw [Nat.testBit_zero, Bool.eq_iff_iff]
  simp
  omega
theorem bit_test8 (v k : Nat) (hv : v < 256) (hk : k < 8) : (bits .and .u8 ((v : Int) / 2 ^ k) 1 == 1) = v.testBit k := by
  have all : ∀ j, j < 8 → ∀ y, y < 256 → (bits .and .u8 ((y / 2 ^ j : Nat) : Int) 1 == 1) = y.testBit j := by decide +kernel
  rw [shr_u]
  exact all k hk v hv

end Go.Proofs.Ytpcdbmkmpphhiaa
