/- A slice of int8s that came in, with all that is asked of one that is read. -/
import Derived.Test.YtmjcjelempidfaaListR
namespace Go.Proofs.Ytmjcjelempidfaa
open Go.ChangeShapes Go.WideShapes Go.ChangeAt Go.RowKit

/-- a slice of int8s that can be read. -/
def It8R (w : World) (A : Option Addr) (n c : Nat) (V : Nat → Int) : Prop := (A = none → n = 0 ∧ c = 0) ∧ n ≤ c ∧ c ≤ maxLen ∧ ∀ k, k < n → ∃ ad : Addr, A = some ad ∧ ad.block < w.heap.size ∧ w.cell? (ad.add k) = some (.int .i8 (V k)) ∧ -128 ≤ V k ∧ V k ≤ 127
theorem It8R.below {w w' : World} {A : Option Addr} {n c : Nat} {V : Nat → Int} (h : It8R w A n c V) (hb : Below w.heap.size w w') : It8R w' A n c V := ⟨h.1, h.2.1, h.2.2.1, fun k hk => by
  obtain ⟨ad, e, h1, h2, h3⟩ := h.2.2.2 k hk
  exact ⟨ad, e, Nat.lt_of_lt_of_le h1 hb.size, (hb.cell (by rw [add_block]; exact h1)).trans h2, h3⟩⟩
theorem i8_in {a : Int} (h : (Lit.int .i8 a).wf = true) : -128 ≤ a ∧ a ≤ 127 := by
  simp [Lit.wf, IntKind.min, IntKind.max, IntKind.bits, IntKind.signed] at h
  omega
theorem cells_i8 : Try.prog.cellsOf 34 = 1 := by kernel_rfl
section
variable {H : Type} {enc : TypeId × Value → H}
set_option maxRecDepth 100000 in
theorem open_list8 {W : World} {v : Value} {d : DataW H} {p : List MemPlace} {b : Nat} {r : Reach} (hv : Value.okWide Try.prog W r b 32 v) (h : DataW.Trod enc Try.prog W 0 (fun _ => true) true 32 v d p) :
    ∃ (A : Option Addr) (n c : Nat) (V : Nat → Int), v = .slice A n c ∧ It8R W A n c V := by
  obtain ⟨a0, len, cap, rfl⟩ := okWide_slice Try.underlying32 hv
  obtain ⟨fuel, hf⟩ := h
  rcases open_ints Try.underlying32 Try.underlying34 cells_i8 hf with ⟨hcs, _⟩ | ⟨a, n, c, zs, hcs, _, hl, hm, hz, _, hcell, hwz⟩
  · simp [Value.cells] at hcs
    obtain ⟨rfl, rfl, rfl⟩ := hcs
    exact ⟨none, 0, 0, fun _ => 0, rfl, fun _ => ⟨rfl, rfl⟩, Nat.le_refl _, Nat.zero_le _, fun k hk => absurd hk (by omega)⟩
  · simp [Value.cells] at hcs
    obtain ⟨rfl, rfl, rfl⟩ := hcs
    have hnm : len ≤ zs.length := by rw [hz]; split <;> omega
    refine ⟨some a, len, cap, fun k => zs.getD k 0, rfl, fun e => (by cases e), hl, hm, fun k hk => ?_⟩
    have e0 := hcell k (by omega)
    have hlt := cell_in e0
    rw [add_block] at hlt
    have hmem : zs.getD k 0 ∈ zs := by
      rw [List.getD_eq_getElem?_getD, List.getElem?_eq_getElem (by omega)]
      exact List.getElem_mem _
    exact ⟨a, rfl, hlt, e0, i8_in (hwz _ hmem)⟩
end
end Go.Proofs.Ytmjcjelempidfaa
