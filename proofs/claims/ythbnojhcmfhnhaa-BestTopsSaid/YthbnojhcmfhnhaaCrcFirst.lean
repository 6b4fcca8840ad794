/- The contracts of the document's own answers for layer 4: a sum bit by bit, and the sum behind bytes. The contract of the opening of layer 4's laws: it is true, and leaves what was there as it was. -/
import Derived.Test.YthbnojhcmfhnhaaCrc
import Derived.Lib.SmallJoins
import Derived.Lib.SlBytesConst
namespace Go.Proofs.Ythbnojhcmfhnhaa
open Go.RowKit

theorem odd_test (r : Nat) : ((r : Int) % 2 == 1) = r.testBit 0 := by
  rw [Nat.testBit_zero, Bool.eq_iff_iff]
  simp
  omega
theorem bit_test8 (v k : Nat) (hv : v < 256) (hk : k < 8) : (bits .and .u8 ((v : Int) / 2 ^ k) 1 == 1) = v.testBit k := by
  have all : ∀ j, j < 8 → ∀ y, y < 256 → (bits .and .u8 ((y / 2 ^ j : Nat) : Int) 1 == 1) = y.testBit j := by decide +kernel
  rw [shr_u]
  exact all k hk v hv

end Go.Proofs.Ythbnojhcmfhnhaa

namespace Go.Proofs.Ythbnojhcmfhnhaa
open Go.RowKit

/-- bytes out of a list. -/
def ofList (l : List Nat) : Nat → Nat := fun k => l.getD k 0
theorem bys_lit (l : List Nat) (hl : ∀ x ∈ l, x < 256) (w : World) (fz : Nat × Nat) : Bys (w.alloc (.cells (l.map fun (x : Nat) => Value.int .u8 (x : Int)).toArray 5 fz)) (w.heap.size + 1) (some ⟨w.heap.size, 0, none⟩) l.length (ofList l) := fun k hk => by
  refine ⟨⟨w.heap.size, 0, none⟩, rfl, Nat.lt_succ_self _, ?_, ?_⟩
  · have e : (⟨w.heap.size, 0, none⟩ : Addr).add k = ⟨w.heap.size, k, none⟩ := by unfold Addr.add; split <;> simp_all
    rw [e, World.cell?_alloc_mark]
    simp [ofList, hk]
  · unfold ofList
    rw [List.getD_eq_getElem?_getD, List.getElem?_eq_getElem hk]
    exact hl _ (List.getElem_mem _)
/-- the bytes of the example. -/
def o4 : Obj := .cells #[.int .u8 49, .int .u8 50, .int .u8 51, .int .u8 52] 5 (4, 5)
def o5 : Obj := .cells #[.int .u8 53, .int .u8 54, .int .u8 55, .int .u8 56, .int .u8 57] 5 (5, 6)
end Go.Proofs.Ythbnojhcmfhnhaa
