/- For every input colophonlaw16.TallyAll returns true, and its arguments read as they read. No condition. -/
import Derived.Test.YtoeamldadclodaaLaw
import Derived.Test.YtoeamldadclodaaSecsArg
import Derived.Test.YtoeamldadclodaaTalAny
import Derived.Test.YtoeamldadclodaaTlAll
namespace Go.Proofs.Ytoeamldadclodaa.tallyAll
open Go.ChangeShapes Go.WideShapes Go.ChangeAt Go.RowKit

theorem walk (P0 : Option Addr) (c0 : Nat) (L0 : List Part) (a1 : Int) (w : World) (hl0 : L0.length ≤ c0) (hm0 : c0 ≤ maxLen) (_hP0 : P0 = none → L0 = [] ∧ c0 = 0) (hs0 : Secs w w.heap.size P0 L0) (_wa1 : (Lit.int .i64 a1).wf = true) :
    Calls Try.prog 5 #[.slice P0 L0.length c0, .int .i64 a1] w fun e w' => e = .returned (.bool true) ∧ Below w.heap.size w w' := by
  exact tlAll_walk tal_any P0 c0 L0 a1 w hl0 hm0 hs0

theorem own : ownKnob Try.prog.godebug = none := by kernel_rfl
theorem laidOut : laidOutB Try.prog = true := by kernel_rfl

set_option maxRecDepth 100000 in
theorem lifted (os : Os) (started : os.Started) (H : Type) (enc : TypeId × Value → H) :
    ReturnsInHanded {} Try.checked os 5 .any (Rows.tallyAllSpec.pre6 enc Try.prog Try.f5 Rows.tallyAllRow.domain false) (Rows.tallyAllSpec.post enc Try.prog Try.f5 false true false false) := by
  refine returnsInHanded_of_change (C := Try.checked) own started (by kernel_rfl) Try.func5
    (ChangeSpec.witness6 (enc := enc) (C := Try.checked) false ⟨#[], #[.slice none 0 0, .int .i64 0], []⟩ 8 (by kernel_rfl) (by kernel_rfl) (by kernel_rfl) (by kernel_rfl)) ?_
  intro W base args ds gs before hval0 hW hcnd _
  have hval : ∀ (j : Nat) t v, Try.f5.params[j]? = some t → args[j]? = some v → Value.okWide Try.prog W .any base t v := hval0
  have hW' := hW
  obtain ⟨p, q, hA0, hV, rfl, hfz, hnd⟩ := hW
  have hA : DataW.TrodAll enc Try.prog W 0 (fun _ => true) true Try.f5.params.toList args.toList ds p := hA0
  rw [Try.params5] at hA hval
  obtain ⟨v0, v1, d0, d1, p0, p1, rfl, rfl, rfl, h0, h1⟩ := trodAll_two hA
  obtain ⟨rfl, rfl⟩ := trodVars_none hV
  obtain ⟨P0, c0, L0, rfl, hl0, hm0, hz0, ho0⟩ := open_secs (hval 0 33 v0 rfl rfl) h0
  obtain ⟨a1, rfl, rfl, rfl, wa1⟩ := open_int Try.underlying3 (hval 1 3 v1 rfl rfl) h1
  clear hA0 hval0
  refine (walk P0 c0 L0 a1 W hl0 hm0 hz0 ho0 wa1).mono fun e W' ⟨he, hg⟩ => ?_
  subst he
  exact ⟨_, rfl, law_post laidOut rfl rfl rfl (by rw [Try.params5]; decide +kernel) hW' hg⟩

/-- The statement. -/
theorem proved : Rows.TallyAllSaid :=
  OpenClaim.holds_of_wide 5 Try.f5 rfl rfl rfl rfl rfl rfl rfl ⟨rfl, rfl, rfl, rfl, rfl⟩ rfl rfl rfl rfl rfl (by kernel_rfl) Try.func5 (by kernel_rfl)
    (of_decide_eq_true (by kernel_rfl)) (by unfold Func.isWrapper; first | (rw [if_pos (by decide +kernel)]; kernel_rfl) | (rw [if_neg (by decide +kernel)]; exact ⟨rfl, rfl⟩))
    (fun os started H enc _ => lifted os started H enc)
#print axioms proved
end Go.Proofs.Ytoeamldadclodaa.tallyAll
