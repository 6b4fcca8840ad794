/- For every input colophonlaw16.TallyLinks returns true, and its arguments read as they read. No condition. -/
import Derived.Test.YtoeamldadclodaaLaw
import Derived.Test.YtoeamldadclodaaBytesOwn
import Derived.Test.YtoeamldadclodaaTalAny
import Derived.Test.YtoeamldadclodaaTlLinks
namespace Go.Proofs.Ytoeamldadclodaa.tallyLinks
open Go.ChangeShapes Go.WideShapes Go.ChangeAt Go.RowKit

theorem walk (A0 : Option Addr) (n0 c0 : Nat) (V0 : Nat → Nat) (A1 : Option Addr) (n1 c1 : Nat) (V1 : Nat → Nat) (w : World) (hn0 : n0 ≤ maxLen) (_hz0 : A0 = none → n0 = 0 ∧ c0 = 0) (ho0 : Bys w w.heap.size A0 n0 V0) (hn1 : n1 ≤ maxLen) (_hz1 : A1 = none → n1 = 0 ∧ c1 = 0) (ho1 : Bys w w.heap.size A1 n1 V1) :
    Calls Try.prog 6 #[.slice A0 n0 c0, .slice A1 n1 c1] w fun e w' => e = .returned (.bool true) ∧ Below w.heap.size w w' := by
  exact tlLinks_walk tal_any A0 A1 n0 c0 n1 c1 V0 V1 w hn0 hn1 ho0 ho1

theorem own : ownKnob Try.prog.godebug = none := by kernel_rfl
theorem laidOut : laidOutB Try.prog = true := by kernel_rfl

set_option maxRecDepth 100000 in
theorem lifted (os : Os) (started : os.Started) (H : Type) (enc : TypeId × Value → H) :
    ReturnsInHanded {} Try.checked os 6 .any (Rows.tallyLinksSpec.pre6 enc Try.prog Try.f6 Rows.tallyLinksRow.domain false) (Rows.tallyLinksSpec.post enc Try.prog Try.f6 false true false false) := by
  refine returnsInHanded_of_change (C := Try.checked) own started (by kernel_rfl) Try.func6
    (ChangeSpec.witness6 (enc := enc) (C := Try.checked) false ⟨#[], #[.slice none 0 0, .slice none 0 0], []⟩ 8 (by kernel_rfl) (by kernel_rfl) (by kernel_rfl) (by kernel_rfl)) ?_
  intro W base args ds gs before hval0 hW hcnd _
  have hval : ∀ (j : Nat) t v, Try.f6.params[j]? = some t → args[j]? = some v → Value.okWide Try.prog W .any base t v := hval0
  have hW' := hW
  obtain ⟨p, q, hA0, hV, rfl, hfz, hnd⟩ := hW
  have hA : DataW.TrodAll enc Try.prog W 0 (fun _ => true) true Try.f6.params.toList args.toList ds p := hA0
  rw [Try.params6] at hA hval
  obtain ⟨v0, v1, d0, d1, p0, p1, rfl, rfl, rfl, h0, h1⟩ := trodAll_two hA
  obtain ⟨rfl, rfl⟩ := trodVars_none hV
  obtain ⟨A0, n0, c0, V0, rfl, hn0, hz0, ho0⟩ := open_bytes (hval 0 34 v0 rfl rfl) h0
  obtain ⟨A1, n1, c1, V1, rfl, hn1, hz1, ho1⟩ := open_bytes (hval 1 34 v1 rfl rfl) h1
  clear hA0 hval0
  refine (walk A0 n0 c0 V0 A1 n1 c1 V1 W hn0 hz0 ho0 hn1 hz1 ho1).mono fun e W' ⟨he, hg⟩ => ?_
  subst he
  exact ⟨_, rfl, law_post laidOut rfl rfl rfl (by rw [Try.params6]; decide +kernel) hW' hg⟩

/-- The statement. -/
theorem proved : Rows.TallyLinksSaid :=
  OpenClaim.holds_of_wide 6 Try.f6 rfl rfl rfl rfl rfl rfl rfl ⟨rfl, rfl, rfl, rfl, rfl⟩ rfl rfl rfl rfl rfl (by kernel_rfl) Try.func6 (by kernel_rfl)
    (of_decide_eq_true (by kernel_rfl)) (by unfold Func.isWrapper; first | (rw [if_pos (by decide +kernel)]; kernel_rfl) | (rw [if_neg (by decide +kernel)]; exact ⟨rfl, rfl⟩))
    (fun os started H enc _ => lifted os started H enc)
#print axioms proved
end Go.Proofs.Ytoeamldadclodaa.tallyLinks
