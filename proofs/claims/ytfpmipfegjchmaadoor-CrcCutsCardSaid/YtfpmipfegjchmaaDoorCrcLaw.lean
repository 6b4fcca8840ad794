/- What the laws of layer 4 have in common: a slice of bytes that came in, its room too. -/
import Derived.Test.YtfpmipfegjchmaaDoorCrcFirst
import Derived.Test.YtfpmipfegjchmaaDoorCrcLaid
import Derived.Test.YtfpmipfegjchmaaDoorTie
import Derived.Test.YtfpmipfegjchmaaDoorCards
import Derived.SevenTiedAt
namespace Go.Proofs.YtfpmipfegjchmaaDoor
open Go.ChangeShapes Go.WideShapes Go.ChangeAt Go.RowKit

section
variable {H : Type} {enc : TypeId × Value → H}
theorem open_bytesc {W : World} {v : Value} {d : DataW H} {p : List MemPlace} {b : Nat} {r : Reach} (hv : Value.okWide Tryd.prog W r b 22 v) (h : DataW.Trod enc Tryd.prog W 0 (fun _ => true) true 22 v d p) :
    ∃ (A : Option Addr) (n c : Nat) (V : Nat → Nat), v = .slice A n c ∧ c ≤ maxLen ∧ (A = none → n = 0 ∧ c = 0) ∧ n ≤ c ∧ Bys W W.heap.size A n V := by
  obtain ⟨a0, len, cap, rfl⟩ := okWide_slice Tryd.underlying22 hv
  obtain ⟨fuel, hf⟩ := h
  rcases open_ints Tryd.underlying22 Tryd.underlying5 cells_u8 hf with ⟨hcs, _⟩ | ⟨a, n, c, zs, hcs, _, hl, hm, hz, _, hcell, hwz⟩
  · simp [Value.cells] at hcs
    obtain ⟨rfl, rfl, rfl⟩ := hcs
    exact ⟨none, 0, 0, fun _ => 0, rfl, Nat.zero_le _, fun _ => ⟨rfl, rfl⟩, Nat.le_refl _, fun k hk => absurd hk (by omega)⟩
  · simp [Value.cells] at hcs
    obtain ⟨rfl, rfl, rfl⟩ := hcs
    have hnm : len ≤ zs.length := by rw [hz]; split <;> omega
    refine ⟨some a, len, cap, fun k => (zs.getD k 0).toNat, rfl, hm, fun e => (by cases e), hl, fun k hk => ?_⟩
    have e0 := hcell k (by omega)
    have hlt := cell_in e0
    rw [add_block] at hlt
    have hmem : zs.getD k 0 ∈ zs := by
      rw [List.getD_eq_getElem?_getD, List.getElem?_eq_getElem (by omega)]
      exact List.getElem_mem _
    obtain ⟨x, hx, hxz⟩ := u8_nat (hwz _ hmem)
    refine ⟨a, rfl, hlt, ?_, ?_⟩
    · show W.cell? (a.add k) = some (.int .u8 (((zs.getD k 0).toNat : Nat) : Int))
      rw [e0, hxz, Int.toNat_natCast]
    · show (zs.getD k 0).toNat < 256
      rw [hxz]
      exact hx
end
theorem Bys.take {w : World} {B n m : Nat} {A : Option Addr} {V : Nat → Nat} (h : Bys w B A n V) (hm : m ≤ n) : Bys w B A m V := fun k hk => h k (by omega)
theorem Bys.lt {w : World} {B n : Nat} {A : Option Addr} {V : Nat → Nat} (h : Bys w B A n V) : ∀ k, k < n → V k < 256 := fun k hk => (h k hk).elim fun _ h => h.2.2.2
end Go.Proofs.YtfpmipfegjchmaaDoor
