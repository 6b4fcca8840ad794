/- For every input colophonlaw15.FindNarrows returns true, and its arguments read as they read. No condition. -/
import Derived.Test.YtbkdloebbbmkaaaGreatB01
import Derived.Test.YtbkdloebbbmkaaaGreatB03
import Derived.Test.YtbkdloebbbmkaaaGreatB13
namespace Go.Proofs.YtbkdloebbbmkaaaGreat.findNarrows
open Go.ChangeShapes Go.WideShapes Go.ChangeAt Go.RowKit

theorem walk (A0 : Option Addr) (n0 c0 : Nat) (V0 : Nat → Nat) (zs1 : List Int) (w : World) (hn0 : n0 ≤ maxLen) (_hz0 : A0 = none → n0 = 0 ∧ c0 = 0) (ho0 : Bys w w.heap.size A0 n0 V0) (hl1 : zs1.length = 3) (hz1 : ∀ z ∈ zs1, (Lit.int .i64 z).wf = true) :
    Calls Tryz.prog 6 #[.slice A0 n0 c0, .agg (zs1.map fun z => Value.int .i64 z).toArray] w fun e w' => e = .returned (.bool true) ∧ Below w.heap.size w w' := by
  obtain ⟨x, y, z, rfl⟩ : ∃ x y z, zs1 = [x, y, z] := by
    match zs1, hl1 with
    | [u, v, t], _ => exact ⟨u, v, t, rfl⟩
  have hx := hz1 x (by simp)
  have hy := hz1 y (by simp)
  have hz := hz1 z (by simp)
  exact fdNarrows_walk find_any A0 n0 c0 V0 x y z w hn0 hx hy hz ho0

theorem own : ownKnob Tryz.prog.godebug = none := by kernel_rfl
theorem laidOut : laidOutB Tryz.prog = true := by kernel_rfl

set_option maxRecDepth 100000 in
theorem lifted (os : Os) (started : os.Started) (H : Type) (enc : TypeId × Value → H) :
    ReturnsInHanded {} Tryz.checked os 6 .any (Rows.findNarrowsSpec.pre6 enc Tryz.prog Tryz.f6 Rows.findNarrowsRow.domain false) (Rows.findNarrowsSpec.post enc Tryz.prog Tryz.f6 false true false false) := by
  refine returnsInHanded_of_change (C := Tryz.checked) own started (by kernel_rfl) Tryz.func6
    (ChangeSpec.witness6 (enc := enc) (C := Tryz.checked) false ⟨#[], #[.slice none 0 0, .agg #[.int .i64 0, .int .i64 0, .int .i64 0]], []⟩ 8 (by kernel_rfl) (by kernel_rfl) (by kernel_rfl) (by kernel_rfl)) ?_
  intro W base args ds gs before hval0 hW hcnd _
  have hval : ∀ (j : Nat) t v, Tryz.f6.params[j]? = some t → args[j]? = some v → Value.okWide Tryz.prog W .any base t v := hval0
  have hW' := hW
  obtain ⟨p, q, hA0, hV, rfl, hfz, hnd⟩ := hW
  have hA : DataW.TrodAll enc Tryz.prog W 0 (fun _ => true) true Tryz.f6.params.toList args.toList ds p := hA0
  rw [Tryz.params6] at hA hval
  obtain ⟨v0, v1, d0, d1, p0, p1, rfl, rfl, rfl, h0, h1⟩ := trodAll_two hA
  obtain ⟨rfl, rfl⟩ := trodVars_none hV
  obtain ⟨A0, n0, c0, V0, rfl, hn0, hz0, ho0⟩ := open_bytes (hval 0 35 v0 rfl rfl) h0
  obtain ⟨zs1, rfl, hl1, wz1⟩ := open_arr Tryz.underlying49 Tryz.underlying3 (by kernel_rfl) (by kernel_rfl) (hval 1 49 v1 rfl rfl) h1
  clear hA0 hval0
  refine (walk A0 n0 c0 V0 zs1 W hn0 hz0 ho0 hl1 wz1).mono fun e W' ⟨he, hg⟩ => ?_
  subst he
  exact ⟨_, rfl, law_post laidOut rfl rfl rfl (by rw [Tryz.params6]; decide +kernel) hW' hg⟩

/-- The statement. -/
theorem proved : Rows.FindNarrowsSaid :=
  OpenClaim.holds_of_wide 6 Tryz.f6 rfl rfl rfl rfl rfl rfl rfl ⟨rfl, rfl, rfl, rfl, rfl⟩ rfl rfl rfl rfl rfl (by kernel_rfl) Tryz.func6 (by kernel_rfl)
    (of_decide_eq_true (by kernel_rfl)) (by unfold Func.isWrapper; first | (rw [if_pos (by decide +kernel)]; kernel_rfl) | (rw [if_neg (by decide +kernel)]; exact ⟨rfl, rfl⟩))
    (fun os started H enc _ => lifted os started H enc)
#print axioms proved
end Go.Proofs.YtbkdloebbbmkaaaGreat.findNarrows
