/- A slice of slices of bytes that came in, as sections. -/
import Derived.Test.YtoeamldadclodaaTxtRef
import Derived.Test.YtoeamldadclodaaLaw
import Derived.Deep.Matrix
import Derived.SizedLaws
namespace Go.Proofs.Ytoeamldadclodaa
open Go.ChangeShapes Go.WideShapes Go.ChangeAt Go.RowKit Go.Deep

section
variable {H : Type} {enc : TypeId × Value → H}
theorem cells_bytes : Try.prog.cellsOf 34 = 1 := by kernel_rfl
set_option maxRecDepth 100000 in
theorem open_secs {W : World} {v : Value} {d : DataW H} {p : List MemPlace} {b : Nat} {r : Reach} (hv : Value.okWide Try.prog W r b 33 v) (h : DataW.Trod enc Try.prog W 0 (fun _ => true) true 33 v d p) :
    ∃ (P : Option Addr) (c : Nat) (L : List Part), v = .slice P L.length c ∧ L.length ≤ c ∧ c ≤ maxLen ∧ (P = none → L = [] ∧ c = 0) ∧ Secs W W.heap.size P L := by
  obtain ⟨a0, len, cap, rfl⟩ := okWide_slice Try.underlying33 hv
  obtain ⟨fuel, hf⟩ := h
  rcases open_int_rows Try.underlying33 Try.underlying34 Try.underlying5 cells_bytes cells_u8 hf with ⟨hcs, _⟩ | ⟨a, n, c, A, Ln, C, Z, hcs, _, hl, hm, _, hrow⟩
  · simp [Value.cells] at hcs
    obtain ⟨rfl, rfl, rfl⟩ := hcs
    exact ⟨none, 0, [], rfl, Nat.le_refl _, Nat.zero_le _, fun _ => ⟨rfl, rfl⟩, fun j p hj => by simp at hj⟩
  · simp [Value.cells] at hcs
    obtain ⟨rfl, rfl, rfl⟩ := hcs
    refine ⟨some a, cap, (List.range len).map fun i => ⟨A i, Ln i, C i, fun k => ((Z i).getD k 0).toNat⟩, by simp, by simpa using hl, hm, fun e => (by cases e), fun j q hj => ?_⟩
    have hjn : j < len := by
      have := (List.getElem?_eq_some_iff.1 hj).1
      simpa using this
    rw [List.getElem?_map, List.getElem?_range hjn] at hj
    cases hj
    obtain ⟨h1, h2, h3, h4, h5, h6, h7⟩ := hrow j (by omega)
    have hlt := cell_in h1
    rw [add_block] at hlt
    refine ⟨a, rfl, hlt, h1, h2, h3, fun e => ?_, fun k hk => ?_⟩
    · have e : A j = none := e
      have := h6 e
      exact ⟨by show Ln j = 0; omega, this⟩
    · have hk : k < Ln j := hk
      rcases hA : A j with _ | a'
      · have := h6 hA
        omega
      · obtain ⟨_, h8⟩ := h7 a' hA
        have e0 := h8 k (by omega)
        have hlt2 := cell_in e0
        rw [add_block] at hlt2
        have hmem : (Z j).getD k 0 ∈ Z j := by
          rw [List.getD_eq_getElem?_getD, List.getElem?_eq_getElem (by omega)]
          exact List.getElem_mem _
        obtain ⟨x, hx, hxz⟩ := u8_nat (h5 _ hmem)
        refine ⟨a', hA, hlt2, ?_, ?_⟩
        · show W.cell? (a'.add k) = some (.int .u8 ((((Z j).getD k 0).toNat : Nat) : Int))
          rw [e0, hxz, Int.toNat_natCast]
        · show ((Z j).getD k 0).toNat < 256
          rw [hxz]
          exact hx
/-- how many such slices memory has room for: the form's own reach. -/
theorem bytes_slice : Try.prog.bytesOf 34 = 24 := by kernel_rfl
theorem secs_reach {W : World} {P : Option Addr} {n c j : Nat} {d : DataW H} {p : List MemPlace} {ts : List TypeId} {ds : List (DataW H)} (h : DataW.Trod enc Try.prog W 0 (fun _ => true) true 33 (.slice P n c) d p)
    (hsz : (DataW.weightsEach Try.prog ts ds).all (· ≤ reachBytes) = true) (ht : ts[j]? = some 33) (hd : ds[j]? = some d) : n * 24 ≤ 140737488351232 := by
  obtain ⟨fuel, hf⟩ := h
  rcases open_int_rows Try.underlying33 Try.underlying34 Try.underlying5 cells_bytes cells_u8 hf with ⟨hcs, _⟩ | ⟨a, len, cap, A, Ln, C, Z, hcs, _, hl, hm, hx, _⟩
  · simp [Value.cells] at hcs
    obtain ⟨rfl, rfl, rfl⟩ := hcs
    omega
  · simp [Value.cells] at hcs
    obtain ⟨rfl, rfl, rfl⟩ := hcs
    simp only [Prod.mk.injEq] at hx
    obtain ⟨rfl, _⟩ := hx
    have h1 := sized_slice hsz ht hd Try.underlying33
    rw [bytes_slice] at h1
    simp only [List.length_map, List.length_range, reachBytes] at h1
    omega
end
end Go.Proofs.Ytoeamldadclodaa
