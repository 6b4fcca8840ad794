/- For every input colophonlaw14.RmqFirst returns true, and its arguments read as they read. No condition. -/
import Derived.Test.YtmjcjelempidfaaLaw
import Derived.Test.YtmjcjelempidfaaListR
import Derived.Test.YtmjcjelempidfaaRmqAny
import Derived.Test.YtmjcjelempidfaaRqFirst
import Derived.Test.YtmjcjelempidfaaArr
namespace Go.Proofs.Ytmjcjelempidfaa.rmqFirst
open Go.ChangeShapes Go.WideShapes Go.ChangeAt Go.RowKit

theorem walk (a0 : Int) (a1 : Int) (zs2 : List Int) (w : World) (wa0 : (Lit.int .u16 a0).wf = true) (wa1 : (Lit.int .i64 a1).wf = true) (hl2 : zs2.length = 2) (hz2 : ∀ z ∈ zs2, (Lit.int .i64 z).wf = true) :
    Calls Try.prog 6 #[.int .u16 a0, .int .i64 a1, .agg (zs2.map fun z => Value.int .i64 z).toArray] w fun e w' => e = .returned (.bool true) ∧ Below w.heap.size w w' := by
  obtain ⟨x, y, rfl⟩ : ∃ x y, zs2 = [x, y] := by
    match zs2, hl2 with
    | [u, v], _ => exact ⟨u, v, rfl⟩
  exact rqFirst_walk rmq_any a0 a1 x y w wa0 wa1 (hz2 x (by simp)) (hz2 y (by simp))

theorem own : ownKnob Try.prog.godebug = none := by kernel_rfl
theorem laidOut : laidOutB Try.prog = true := by kernel_rfl

set_option maxRecDepth 100000 in
theorem lifted (os : Os) (started : os.Started) (H : Type) (enc : TypeId × Value → H) :
    ReturnsInHanded {} Try.checked os 6 .any (Rows.rmqFirstSpec.pre6 enc Try.prog Try.f6 Rows.rmqFirstRow.domain false) (Rows.rmqFirstSpec.post enc Try.prog Try.f6 false true false false) := by
  refine returnsInHanded_of_change (C := Try.checked) own started (by kernel_rfl) Try.func6
    (ChangeSpec.witness6 (enc := enc) (C := Try.checked) false ⟨#[], #[.int .u16 0, .int .i64 0, .agg #[.int .i64 0, .int .i64 0]], []⟩ 8 (by kernel_rfl) (by kernel_rfl) (by kernel_rfl) (by kernel_rfl)) ?_
  intro W base args ds gs before hval0 hW hcnd _
  have hval : ∀ (j : Nat) t v, Try.f6.params[j]? = some t → args[j]? = some v → Value.okWide Try.prog W .any base t v := hval0
  have hW' := hW
  obtain ⟨p, q, hA0, hV, rfl, hfz, hnd⟩ := hW
  have hA : DataW.TrodAll enc Try.prog W 0 (fun _ => true) true Try.f6.params.toList args.toList ds p := hA0
  rw [Try.params6] at hA hval
  obtain ⟨v0, v1, v2, d0, d1, d2, p0, p1, p2, rfl, rfl, rfl, h0, h1, h2⟩ := trodAll_three hA
  obtain ⟨rfl, rfl⟩ := trodVars_none hV
  obtain ⟨a0, rfl, rfl, rfl, wa0⟩ := open_int Try.underlying38 (hval 0 38 v0 rfl rfl) h0
  obtain ⟨a1, rfl, rfl, rfl, wa1⟩ := open_int Try.underlying3 (hval 1 3 v1 rfl rfl) h1
  obtain ⟨zs2, rfl, hl2, wz2⟩ := open_arr Try.underlying36 Try.underlying3 (by kernel_rfl) (by kernel_rfl) (hval 2 36 v2 rfl rfl) h2
  clear hA0 hval0
  refine (walk a0 a1 zs2 W wa0 wa1 hl2 wz2).mono fun e W' ⟨he, hg⟩ => ?_
  subst he
  exact ⟨_, rfl, law_post laidOut rfl rfl rfl (by rw [Try.params6]; decide +kernel) hW' hg⟩

/-- The statement. -/
theorem proved : Rows.RmqFirstSaid :=
  OpenClaim.holds_of_wide 6 Try.f6 rfl rfl rfl rfl rfl rfl rfl ⟨rfl, rfl, rfl, rfl, rfl⟩ rfl rfl rfl rfl rfl (by kernel_rfl) Try.func6 (by kernel_rfl)
    (of_decide_eq_true (by kernel_rfl)) (by unfold Func.isWrapper; first | (rw [if_pos (by decide +kernel)]; kernel_rfl) | (rw [if_neg (by decide +kernel)]; exact ⟨rfl, rfl⟩))
    (fun os started H enc _ => lifted os started H enc)
#print axioms proved
end Go.Proofs.Ytmjcjelempidfaa.rmqFirst
