/- For every input colophonlaw12.DocsArrays returns true, and its arguments read as they read. No condition. -/
import Derived.Test.YtpdleigcdmgfmaaLaw
import Derived.Test.YtpdleigcdmgfmaaListR
import Derived.Test.YtpdleigcdmgfmaaSecsArg
import Derived.Test.YtpdleigcdmgfmaaDocAny
import Derived.Test.YtpdleigcdmgfmaaDcArrays
namespace Go.Proofs.Ytpdleigcdmgfmaa.docsArrays
open Go.ChangeShapes Go.WideShapes Go.ChangeAt Go.RowKit

theorem walk (P : Option Addr) (c : Nat) (L : List Part) (A : Option Addr) (n ca : Nat) (V : Nat → Int) (w : World) (hl : L.length ≤ c) (hcm : c ≤ maxLen) (hP : P = none → L = [] ∧ c = 0) (hs : Secs w w.heap.size P L) (ho : ItsR w A n ca V) :
    Calls Try.prog 3 #[.slice P L.length c, .slice A n ca] w fun e w' => e = .returned (.bool true) ∧ Below w.heap.size w w' :=
  dcArrays_walk docs_any P c L A n ca V w hl hcm hP hs ho

theorem own : ownKnob Try.prog.godebug = none := by kernel_rfl
theorem laidOut : laidOutB Try.prog = true := by kernel_rfl

set_option maxRecDepth 100000 in
theorem lifted (os : Os) (started : os.Started) (H : Type) (enc : TypeId × Value → H) :
    ReturnsInHanded {} Try.checked os 3 .any (Rows.docsArraysSpec.pre6 enc Try.prog Try.f3 Rows.docsArraysRow.domain false) (Rows.docsArraysSpec.post enc Try.prog Try.f3 false true false false) := by
  refine returnsInHanded_of_change (C := Try.checked) own started (by kernel_rfl) Try.func3
    (ChangeSpec.witness6 (enc := enc) (C := Try.checked) false ⟨#[], #[.slice none 0 0, .slice none 0 0], []⟩ 8 (by kernel_rfl) (by kernel_rfl) (by kernel_rfl) (by kernel_rfl)) ?_
  intro W base args ds gs before hval0 hW hcnd _
  have hval : ∀ (j : Nat) t v, Try.f3.params[j]? = some t → args[j]? = some v → Value.okWide Try.prog W .any base t v := hval0
  have hW' := hW
  obtain ⟨p, q, hA0, hV, rfl, hfz, hnd⟩ := hW
  have hA : DataW.TrodAll enc Try.prog W 0 (fun _ => true) true Try.f3.params.toList args.toList ds p := hA0
  rw [Try.params3] at hA hval
  obtain ⟨v0, v1, d0, d1, p0, p1, rfl, rfl, rfl, h0, h1⟩ := trodAll_two hA
  obtain ⟨rfl, rfl⟩ := trodVars_none hV
  obtain ⟨P0, c0, L0, rfl, hl0, hm0, hz0, ho0⟩ := open_secs (hval 0 22 v0 rfl rfl) h0
  obtain ⟨A1, n1, c1, V1, rfl, hr1⟩ := open_listr (hval 1 23 v1 rfl rfl) h1
  clear hA0 hval0
  refine (walk P0 c0 L0 A1 n1 c1 V1 W hl0 hm0 hz0 ho0 hr1).mono fun e W' ⟨he, hg⟩ => ?_
  subst he
  exact ⟨_, rfl, law_post laidOut rfl rfl rfl (by rw [Try.params3]; decide +kernel) hW' hg⟩

/-- The statement. -/
theorem proved : Rows.DocsArraysSaid :=
  OpenClaim.holds_of_wide 3 Try.f3 rfl rfl rfl rfl rfl rfl rfl ⟨rfl, rfl, rfl, rfl, rfl⟩ rfl rfl rfl rfl rfl (by kernel_rfl) Try.func3 (by kernel_rfl)
    (of_decide_eq_true (by kernel_rfl)) (by unfold Func.isWrapper; first | (rw [if_pos (by decide +kernel)]; kernel_rfl) | (rw [if_neg (by decide +kernel)]; exact ⟨rfl, rfl⟩))
    (fun os started H enc _ => lifted os started H enc)
#print axioms proved
end Go.Proofs.Ytpdleigcdmgfmaa.docsArrays
