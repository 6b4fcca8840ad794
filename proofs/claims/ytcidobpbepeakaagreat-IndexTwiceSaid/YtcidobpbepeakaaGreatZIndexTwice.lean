/- For every input colophonlaw19.IndexTwice returns true, and its arguments read as they read. No condition. -/
import Derived.Test.YtcidobpbepeakaaGreatB01
import Derived.Test.YtcidobpbepeakaaGreatB47
import Derived.Test.YtcidobpbepeakaaGreatB26
namespace Go.Proofs.YtcidobpbepeakaaGreat.indexTwice
open Go.ChangeShapes Go.WideShapes Go.ChangeAt Go.RowKit

theorem walk (P0 : Option Addr) (c0 : Nat) (L0 : List Part) (A1 : Option Addr) (n1 c1 : Nat) (V1 : Nat → Nat) (w : World) (hl0 : L0.length ≤ c0) (hm0 : c0 ≤ maxLen) (_hP0 : P0 = none → L0 = [] ∧ c0 = 0) (hs0 : Secs w w.heap.size P0 L0) (hn1 : n1 ≤ maxLen) (_hz1 : A1 = none → n1 = 0 ∧ c1 = 0) (ho1 : Bys w w.heap.size A1 n1 V1) :
    Calls Tryz.prog 7 #[.slice P0 L0.length c0, .slice A1 n1 c1] w fun e w' => e = .returned (.bool true) ∧ Below w.heap.size w w' := by
  exact ixTwice_walk idx_any P0 c0 L0 A1 n1 c1 V1 w hl0 hm0 _hP0 hs0 hn1 _hz1 ho1

theorem own : ownKnob Tryz.prog.godebug = none := by kernel_rfl
theorem laidOut : laidOutB Tryz.prog = true := by kernel_rfl

set_option maxRecDepth 100000 in
theorem lifted (os : Os) (started : os.Started) (H : Type) (enc : TypeId × Value → H) :
    ReturnsInHanded {} Tryz.checked os 7 .any (Rows.indexTwiceSpec.pre6 enc Tryz.prog Tryz.f7 Rows.indexTwiceRow.domain false) (Rows.indexTwiceSpec.post enc Tryz.prog Tryz.f7 false true false false) := by
  refine returnsInHanded_of_change (C := Tryz.checked) own started (by kernel_rfl) Tryz.func7
    (ChangeSpec.witness6 (enc := enc) (C := Tryz.checked) false ⟨#[], #[.slice none 0 0, .slice none 0 0], []⟩ 8 (by kernel_rfl) (by kernel_rfl) (by kernel_rfl) (by kernel_rfl)) ?_
  intro W base args ds gs before hval0 hW hcnd _
  have hval : ∀ (j : Nat) t v, Tryz.f7.params[j]? = some t → args[j]? = some v → Value.okWide Tryz.prog W .any base t v := hval0
  have hW' := hW
  obtain ⟨p, q, hA0, hV, rfl, hfz, hnd⟩ := hW
  have hA : DataW.TrodAll enc Tryz.prog W 0 (fun _ => true) true Tryz.f7.params.toList args.toList ds p := hA0
  rw [Tryz.params7] at hA hval
  obtain ⟨v0, v1, d0, d1, p0, p1, rfl, rfl, rfl, h0, h1⟩ := trodAll_two hA
  obtain ⟨rfl, rfl⟩ := trodVars_none hV
  obtain ⟨P0, c0, L0, rfl, hl0, hm0, hz0, ho0⟩ := open_secs (hval 0 22 v0 rfl rfl) h0
  obtain ⟨A1, n1, c1, V1, rfl, hn1, hz1, ho1⟩ := open_bytes (hval 1 23 v1 rfl rfl) h1
  clear hA0 hval0
  refine (walk P0 c0 L0 A1 n1 c1 V1 W hl0 hm0 hz0 ho0 hn1 hz1 ho1).mono fun e W' ⟨he, hg⟩ => ?_
  subst he
  exact ⟨_, rfl, law_post laidOut rfl rfl rfl (by rw [Tryz.params7]; decide +kernel) hW' hg⟩

/-- The statement. -/
theorem proved : Rows.IndexTwiceSaid :=
  OpenClaim.holds_of_wide 7 Tryz.f7 rfl rfl rfl rfl rfl rfl rfl ⟨rfl, rfl, rfl, rfl, rfl⟩ rfl rfl rfl rfl rfl (by kernel_rfl) Tryz.func7 (by kernel_rfl)
    (of_decide_eq_true (by kernel_rfl)) (by unfold Func.isWrapper; first | (rw [if_pos (by decide +kernel)]; kernel_rfl) | (rw [if_neg (by decide +kernel)]; exact ⟨rfl, rfl⟩))
    (fun os started H enc _ => lifted os started H enc)
#print axioms proved
end Go.Proofs.YtcidobpbepeakaaGreat.indexTwice
