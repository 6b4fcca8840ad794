/- For every input colophonlaw18.BestAll returns true, and its arguments read as they read. No condition. -/
import Derived.Test.YthbnojhcmfhnhaaLaw
import Derived.Test.YthbnojhcmfhnhaaListR
import Derived.Test.YthbnojhcmfhnhaaArr
import Derived.Test.YthbnojhcmfhnhaaBstAny
import Derived.Test.YthbnojhcmfhnhaaBsAll
namespace Go.Proofs.Ythbnojhcmfhnhaa.bestAll
open Go.ChangeShapes Go.WideShapes Go.ChangeAt Go.RowKit

theorem walk (A0 : Option Addr) (n0 c0 : Nat) (V0 : Nat → Int) (zs1 : List Int) (w : World) (hr0 : ItsR w A0 n0 c0 V0) (hl1 : zs1.length = 2) (hz1 : ∀ z ∈ zs1, (Lit.int .i64 z).wf = true) :
    Calls Try.prog 4 #[.slice A0 n0 c0, .agg (zs1.map fun z => Value.int .i64 z).toArray] w fun e w' => e = .returned (.bool true) ∧ Below w.heap.size w w' := by
  obtain ⟨x, y, rfl⟩ : ∃ x y, zs1 = [x, y] := by
    match zs1, hl1 with
    | [u, v], _ => exact ⟨u, v, rfl⟩
  have hx := hz1 x (by simp)
  have hy := hz1 y (by simp)
  exact bsAll_walk mat_any best_any A0 n0 c0 V0 x y w hx hy hr0

theorem own : ownKnob Try.prog.godebug = none := by kernel_rfl
theorem laidOut : laidOutB Try.prog = true := by kernel_rfl

set_option maxRecDepth 100000 in
theorem lifted (os : Os) (started : os.Started) (H : Type) (enc : TypeId × Value → H) :
    ReturnsInHanded {} Try.checked os 4 .any (Rows.bestAllSpec.pre6 enc Try.prog Try.f4 Rows.bestAllRow.domain false) (Rows.bestAllSpec.post enc Try.prog Try.f4 false true false false) := by
  refine returnsInHanded_of_change (C := Try.checked) own started (by kernel_rfl) Try.func4
    (ChangeSpec.witness6 (enc := enc) (C := Try.checked) false ⟨#[], #[.slice none 0 0, .agg #[.int .i64 0, .int .i64 0]], []⟩ 8 (by kernel_rfl) (by kernel_rfl) (by kernel_rfl) (by kernel_rfl)) ?_
  intro W base args ds gs before hval0 hW hcnd _
  have hval : ∀ (j : Nat) t v, Try.f4.params[j]? = some t → args[j]? = some v → Value.okWide Try.prog W .any base t v := hval0
  have hW' := hW
  obtain ⟨p, q, hA0, hV, rfl, hfz, hnd⟩ := hW
  have hA : DataW.TrodAll enc Try.prog W 0 (fun _ => true) true Try.f4.params.toList args.toList ds p := hA0
  rw [Try.params4] at hA hval
  obtain ⟨v0, v1, d0, d1, p0, p1, rfl, rfl, rfl, h0, h1⟩ := trodAll_two hA
  obtain ⟨rfl, rfl⟩ := trodVars_none hV
  obtain ⟨A0, n0, c0, V0, rfl, hr0⟩ := open_listr (hval 0 22 v0 rfl rfl) h0
  obtain ⟨zs1, rfl, hl1, wz1⟩ := open_arr Try.underlying23 Try.underlying3 (by kernel_rfl) (by kernel_rfl) (hval 1 23 v1 rfl rfl) h1
  clear hA0 hval0
  refine (walk A0 n0 c0 V0 zs1 W hr0 hl1 wz1).mono fun e W' ⟨he, hg⟩ => ?_
  subst he
  exact ⟨_, rfl, law_post laidOut rfl rfl rfl (by rw [Try.params4]; decide +kernel) hW' hg⟩

/-- The statement. -/
theorem proved : Rows.BestAllSaid :=
  OpenClaim.holds_of_wide 4 Try.f4 rfl rfl rfl rfl rfl rfl rfl ⟨rfl, rfl, rfl, rfl, rfl⟩ rfl rfl rfl rfl rfl (by kernel_rfl) Try.func4 (by kernel_rfl)
    (of_decide_eq_true (by kernel_rfl)) (by unfold Func.isWrapper; first | (rw [if_pos (by decide +kernel)]; kernel_rfl) | (rw [if_neg (by decide +kernel)]; exact ⟨rfl, rfl⟩))
    (fun os started H enc _ => lifted os started H enc)
#print axioms proved
end Go.Proofs.Ythbnojhcmfhnhaa.bestAll
