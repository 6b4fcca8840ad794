/- An array of integers that came in, by value. -/
import Derived.Test.YthbnojhcmfhnhaaLaw
namespace Go.Proofs.Ythbnojhcmfhnhaa
open Go.ChangeShapes Go.WideShapes Go.ChangeAt Go.RowKit

section
variable {H : Type} {enc : TypeId × Value → H}
theorem list_of (l : List Value) (k : IntKind) (h : ∀ v ∈ l, ∃ z : Int, v = .int k z ∧ (Lit.int k z).wf = true) : ∃ zs : List Int, l = zs.map (fun z => Value.int k z) ∧ ∀ z ∈ zs, (Lit.int k z).wf = true := by
  induction l with
  | nil => exact ⟨[], rfl, fun _ h => by cases h⟩
  | cons v l ih =>
    obtain ⟨z, rfl, hz⟩ := h v (List.mem_cons_self ..)
    obtain ⟨zs, rfl, hzs⟩ := ih fun u hu => h u (List.mem_cons_of_mem _ hu)
    refine ⟨z :: zs, rfl, fun y hy => ?_⟩
    rcases List.mem_cons.1 hy with rfl | hy
    · exact hz
    · exact hzs y hy
set_option maxRecDepth 100000 in
theorem open_arr {W : World} {v : Value} {d : DataW H} {p : List MemPlace} {b : Nat} {r : Reach} {t e : TypeId} {n : Nat} {k : IntKind} (ht : Try.prog.underlying t = some (.array n e)) (he : Try.prog.underlying e = some (.int k)) (hce : Try.prog.cellsOf e = 1) (hct : Try.prog.cellsOf t = n)
    (hv : Value.okWide Try.prog W r b t v) (h : DataW.Trod enc Try.prog W 0 (fun _ => true) true t v d p) : ∃ zs : List Int, v = .agg (zs.map fun z => Value.int k z).toArray ∧ zs.length = n ∧ ∀ z ∈ zs, (Lit.int k z).wf = true := by
  obtain ⟨cs, rfl, hsz, _⟩ : ∃ cs, v = .agg cs ∧ cs.size = Try.prog.cellsOf t ∧ Row.okWide Try.prog W r b t cs := by
    simpa [Value.okWide, ht] using hv
  rw [hct] at hsz
  obtain ⟨l⟩ := cs
  have hl : l.length = n := by simpa using hsz
  obtain ⟨fuel, hf⟩ := h
  obtain ⟨xs, mm, _, _, _, hlen, hel⟩ := DataW.trod_array ht hf
  rw [hce] at hel
  obtain ⟨zs, e1, e2⟩ := list_of l k fun u hu => by
    obtain ⟨i, hi, rfl⟩ := List.getElem_of_mem hu
    have h0 := hel i (by omega)
    have hx : ∃ x, xs[i]? = some x := ⟨_, List.getElem?_eq_getElem (by omega)⟩
    obtain ⟨x, hx⟩ := hx
    rw [hx] at h0
    obtain ⟨z, hz, _, hw⟩ := DataW.trod_int he h0
    have hcell : ((Value.agg ⟨l⟩).cells.toList.drop (i * 1)).take 1 = [l[i]] := by
      show (l.drop (i * 1)).take 1 = _
      rw [Nat.mul_one, List.drop_eq_getElem_cons hi]
      rfl
    refine ⟨z, ?_, hw⟩
    have := hz
    rw [hcell] at this
    simpa using this
  subst e1
  exact ⟨zs, rfl, by simpa using hl, e2⟩
end
end Go.Proofs.Ythbnojhcmfhnhaa
