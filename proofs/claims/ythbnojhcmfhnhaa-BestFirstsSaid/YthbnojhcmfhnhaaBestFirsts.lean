/- For every input colophonlaw18.BestFirsts returns true, and its arguments read as they read. No condition. -/
import Derived.Test.YthbnojhcmfhnhaaLaw
import Derived.Test.YthbnojhcmfhnhaaListR
import Derived.Test.YthbnojhcmfhnhaaArr
import Derived.Test.YthbnojhcmfhnhaaBstAny
import Derived.Test.YthbnojhcmfhnhaaBsFirsts
namespace Go.Proofs.Ythbnojhcmfhnhaa.bestFirsts
open Go.ChangeShapes Go.WideShapes Go.ChangeAt Go.RowKit

theorem walk (A0 : Option Addr) (n0 c0 : Nat) (V0 : Nat → Int) (zs1 : List Int) (zs2 : List Int) (w : World) (hr0 : ItsR w A0 n0 c0 V0) (hl1 : zs1.length = 2) (hz1 : ∀ z ∈ zs1, (Lit.int .i64 z).wf = true) (hl2 : zs2.length = 2) (hz2 : ∀ z ∈ zs2, (Lit.int .u8 z).wf = true) :
    Calls Try.prog 5 #[.slice A0 n0 c0, .agg (zs1.map fun z => Value.int .i64 z).toArray, .agg (zs2.map fun z => Value.int .u8 z).toArray] w fun e w' => e = .returned (.bool true) ∧ Below w.heap.size w w' := by
  obtain ⟨x, y, rfl⟩ : ∃ x y, zs1 = [x, y] := by
    match zs1, hl1 with
    | [u, v], _ => exact ⟨u, v, rfl⟩
  have hx := hz1 x (by simp)
  have hy := hz1 y (by simp)
  obtain ⟨b0, b1, rfl⟩ : ∃ b0 b1, zs2 = [b0, b1] := by
    match zs2, hl2 with
    | [u, v], _ => exact ⟨u, v, rfl⟩
  have hb0 := hz2 b0 (by simp)
  have hb1 := hz2 b1 (by simp)
  exact bsFirsts_walk mat_any best_any A0 n0 c0 V0 x y b0 b1 w hx hy hb0 hb1 hr0

theorem own : ownKnob Try.prog.godebug = none := by kernel_rfl
theorem laidOut : laidOutB Try.prog = true := by kernel_rfl

set_option maxRecDepth 100000 in
theorem lifted (os : Os) (started : os.Started) (H : Type) (enc : TypeId × Value → H) :
    ReturnsInHanded {} Try.checked os 5 .any (Rows.bestFirstsSpec.pre6 enc Try.prog Try.f5 Rows.bestFirstsRow.domain false) (Rows.bestFirstsSpec.post enc Try.prog Try.f5 false true false false) := by
  refine returnsInHanded_of_change (C := Try.checked) own started (by kernel_rfl) Try.func5
    (ChangeSpec.witness6 (enc := enc) (C := Try.checked) false ⟨#[], #[.slice none 0 0, .agg #[.int .i64 0, .int .i64 0], .agg #[.int .u8 0, .int .u8 0]], []⟩ 8 (by kernel_rfl) (by kernel_rfl) (by kernel_rfl) (by kernel_rfl)) ?_
  intro W base args ds gs before hval0 hW hcnd _
  have hval : ∀ (j : Nat) t v, Try.f5.params[j]? = some t → args[j]? = some v → Value.okWide Try.prog W .any base t v := hval0
  have hW' := hW
  obtain ⟨p, q, hA0, hV, rfl, hfz, hnd⟩ := hW
  have hA : DataW.TrodAll enc Try.prog W 0 (fun _ => true) true Try.f5.params.toList args.toList ds p := hA0
  rw [Try.params5] at hA hval
  obtain ⟨v0, v1, v2, d0, d1, d2, p0, p1, p2, rfl, rfl, rfl, h0, h1, h2⟩ := trodAll_three hA
  obtain ⟨rfl, rfl⟩ := trodVars_none hV
  obtain ⟨A0, n0, c0, V0, rfl, hr0⟩ := open_listr (hval 0 22 v0 rfl rfl) h0
  obtain ⟨zs1, rfl, hl1, wz1⟩ := open_arr Try.underlying23 Try.underlying3 (by kernel_rfl) (by kernel_rfl) (hval 1 23 v1 rfl rfl) h1
  obtain ⟨zs2, rfl, hl2, wz2⟩ := open_arr Try.underlying46 Try.underlying5 (by kernel_rfl) (by kernel_rfl) (hval 2 46 v2 rfl rfl) h2
  clear hA0 hval0
  refine (walk A0 n0 c0 V0 zs1 zs2 W hr0 hl1 wz1 hl2 wz2).mono fun e W' ⟨he, hg⟩ => ?_
  subst he
  exact ⟨_, rfl, law_post laidOut rfl rfl rfl (by rw [Try.params5]; decide +kernel) hW' hg⟩

/-- The statement. -/
theorem proved : Rows.BestFirstsSaid :=
  OpenClaim.holds_of_wide 5 Try.f5 rfl rfl rfl rfl rfl rfl rfl ⟨rfl, rfl, rfl, rfl, rfl⟩ rfl rfl rfl rfl rfl (by kernel_rfl) Try.func5 (by kernel_rfl)
    (of_decide_eq_true (by kernel_rfl)) (by unfold Func.isWrapper; first | (rw [if_pos (by decide +kernel)]; kernel_rfl) | (rw [if_neg (by decide +kernel)]; exact ⟨rfl, rfl⟩))
    (fun os started H enc _ => lifted os started H enc)
#print axioms proved
end Go.Proofs.Ythbnojhcmfhnhaa.bestFirsts
