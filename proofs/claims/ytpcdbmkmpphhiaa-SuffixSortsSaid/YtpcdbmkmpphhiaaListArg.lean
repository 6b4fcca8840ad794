/- How long a slice of ints that came in may be: the form's own reach. -/
import Derived.Test.YtpcdbmkmpphhiaaInts
import Derived.SizedLaws
namespace Go.Proofs.Ytpcdbmkmpphhiaa
open Go.ChangeShapes Go.WideShapes Go.ChangeAt Go.RowKit

section
variable {H : Type} {enc : TypeId × Value → H}
theorem bytes_int : Try.prog.bytesOf 3 = 8 := by kernel_rfl
theorem list_reach {W : World} {P : Option Addr} {n c j : Nat} {d : DataW H} {p : List MemPlace} {ts : List TypeId} {ds : List (DataW H)} (h : DataW.Trod enc Try.prog W 0 (fun _ => true) true 22 (.slice P n c) d p)
    (hsz : (DataW.weightsEach Try.prog ts ds).all (· ≤ reachBytes) = true) (ht : ts[j]? = some 22) (hd : ds[j]? = some d) : n * 8 ≤ 140737488351232 := by
  obtain ⟨fuel, hf⟩ := h
  rcases open_ints Try.underlying22 Try.underlying3 cells_i64 hf with ⟨hcs, _⟩ | ⟨a, len, cap, zs, hcs, _, hl, hm, hz, hx, _⟩
  · simp [Value.cells] at hcs
    obtain ⟨rfl, rfl, rfl⟩ := hcs
    omega
  · simp [Value.cells] at hcs
    obtain ⟨rfl, rfl, rfl⟩ := hcs
    simp only [Prod.mk.injEq] at hx
    obtain ⟨rfl, _⟩ := hx
    have h1 := sized_slice hsz ht hd Try.underlying22
    rw [bytes_int] at h1
    have hnm : n ≤ zs.length := by rw [hz]; split <;> omega
    simp only [lits, List.length_map, List.length_take, List.length_drop, reachBytes] at h1
    omega
set_option maxRecDepth 100000 in
theorem open_listc {W : World} {v : Value} {d : DataW H} {p : List MemPlace} {b : Nat} {r : Reach} (hv : Value.okWide Try.prog W r b 22 v) (h : DataW.Trod enc Try.prog W 0 (fun _ => true) true 22 v d p) :
    ∃ (A : Option Addr) (n c : Nat) (V : Nat → Int), v = .slice A n c ∧ n ≤ maxLen ∧ (A = none → n = 0 ∧ c = 0) ∧ n ≤ c ∧ Its W W.heap.size A n V := by
  obtain ⟨a0, len, cap, rfl⟩ := okWide_slice Try.underlying22 hv
  obtain ⟨fuel, hf⟩ := h
  rcases open_ints Try.underlying22 Try.underlying3 cells_i64 hf with ⟨hcs, _⟩ | ⟨a, n, c, zs, hcs, _, hl, hm, hz, _, hcell, hwz⟩
  · simp [Value.cells] at hcs
    obtain ⟨rfl, rfl, rfl⟩ := hcs
    exact ⟨none, 0, 0, fun _ => 0, rfl, Nat.zero_le _, fun _ => ⟨rfl, rfl⟩, Nat.le_refl _, fun k hk => absurd hk (by omega)⟩
  · simp [Value.cells] at hcs
    obtain ⟨rfl, rfl, rfl⟩ := hcs
    have hnm : len ≤ zs.length := by rw [hz]; split <;> omega
    refine ⟨some a, len, cap, fun k => zs.getD k 0, rfl, Nat.le_trans hl hm, fun e => (by cases e), hl, fun k hk => ?_⟩
    have e0 := hcell k (by omega)
    have hlt := cell_in e0
    rw [add_block] at hlt
    have hmem : zs.getD k 0 ∈ zs := by
      rw [List.getD_eq_getElem?_getD, List.getElem?_eq_getElem (by omega)]
      exact List.getElem_mem _
    exact ⟨a, rfl, hlt, e0, i64_in (hwz _ hmem)⟩
end
end Go.Proofs.Ytpcdbmkmpphhiaa
