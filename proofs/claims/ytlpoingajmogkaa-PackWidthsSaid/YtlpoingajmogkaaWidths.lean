/- For every input colophonlaw01.PackWidths returns true, and its argument reads as it read. No condition. -/
import Derived.Test.YtlpoingajmogkaaFirst
import Derived.Test.YtlpoingajmogkaaLaw
namespace Go.Proofs.Ytlpoingajmogkaa.packWidths
open Go.ChangeShapes Go.WideShapes Go.ChangeAt Go.RowKit

theorem own : ownKnob Try.prog.godebug = none := by kernel_rfl
theorem laidOut : laidOutB Try.prog = true := by kernel_rfl

set_option maxHeartbeats 800000 in
theorem walk (x : Nat) (hx : x < 2 ^ 64) (w : World) :
    Calls Try.prog 5 #[.int .u64 (x : Int)] w fun e w' => e = .returned (.bool true) ∧ Below w.heap.size w w' := by
  have HF := Lib.hid (first_any w)
  obtain ⟨s1, s2, s3, s4⟩ := widthN_spec hx
  have HW : ∀ W, Hid (Calls Try.prog 23 #[.int .u64 (x : Int)] W fun e w' => e = .returned (.int .i64 (widthN x : Nat)) ∧ W = w') := fun W => Lib.hid (widthOf_any x hx W)
  generalize widthN x = k at s1 s2 s3 s4 HW
  obtain ⟨m, hm⟩ : ∃ m : Nat, max 1 ((k : Int) - 1) = (m : Int) ∧ 1 ≤ m ∧ m ≤ 64 ∧ (k ≠ 1 → m = k - 1) := ⟨max 1 (k - 1), by omega, by omega, by omega, by omega⟩
  obtain ⟨hm0, hm1, hm2, hm3⟩ := hm
  have HN : ∀ W, Hid (Calls Try.prog 10 #[.int .i64 (k : Int), .int .i64 2] W (NewFull W k 2)) := fun W => Lib.hid (new_full k 2 s1 s2 (by omega) W)
  have HN2 : ∀ W, Hid (Calls Try.prog 10 #[.int .i64 (max 1 ((k : Int) - 1)), .int .i64 2] W (NewFull W m 2)) := fun W => by rw [hm0]; exact Lib.hid (new_full m 2 hm1 hm2 (by omega) W)
  have S4 := Lib.hid (show k ≠ 1 → 2 ^ m ≤ x by intro h; rw [hm3 h]; exact s4 h)
  have S3 := Lib.hid s3
  clear hm0 s4 s3 hm3 hx
  go_enter Try.func5, Try.ntmps5
  go_wp2_with fail
  refine HF.out.mono ?_
  rintro e w1 ⟨rfl, hb1⟩
  go_wp2_with fail
  refine (HW _).out.mono ?_
  rintro e w' ⟨rfl, rfl⟩
  go_wp2_with fail
  refine (HN _).out.mono ?_
  rintro e w2 ⟨g, gs, rfl, hg, hgs, hb2, ws, hp⟩
  have hB2 : Below w.heap.size w w2 := hb1.trans (hb2.mono hb1.size)
  go_wp2_with fail
  refine (HN2 _).out.mono ?_
  rintro e w3 ⟨g', gs', rfl, hg', hgs', hb3, ws', hq⟩
  have hp3 := hp.below hb3 hp.pk.head.lt hp.pk.body.lt
  have hB3 : Below w.heap.size w w3 := hB2.trans (hb3.mono hB2.size)
  go_wp2_with fail
  refine (hp3.set_ 1 x (by decide) S3.out).mono ?_
  rintro e w4 ⟨rfl, ws4, hp4, hg4⟩
  have hB4 : Below w.heap.size w w4 := hB3.trans (below_of_grownBy hg4 (by have := hB2.size; have := hb1.size; omega) hB3.size)
  have hl2 := hp.pk.head.lt
  have hl3 := hp.pk.body.lt
  have hq4 := hq.grown hg4 (by intro e; injection e; omega) (by intro e; injection e; omega)
  have G1 := Lib.hid (show Calls Try.prog 14 #[.pointer (some ⟨g, 0, none⟩), .int .i64 1] w4 fun e w' => e = .returned (.int .u64 (x : Int)) ∧ w4 = w' from hp4.get 1 (by decide))
  have G0 := Lib.hid (show Calls Try.prog 14 #[.pointer (some ⟨g, 0, none⟩), .int .i64 0] w4 fun e w' => e = .returned (.int .u64 0) ∧ w4 = w' from hp4.get 0 (by decide))
  have Q1 := Lib.hid (show Calls Try.prog 14 #[.pointer (some ⟨g', 0, none⟩), .int .i64 1] w4 fun e w' => e = .returned (.int .u64 0) ∧ w4 = w' from hq4.get 1 (by decide))
  clear hb1 hb2 hb3 hB2 hB3 hp hp3 hq hg4 hl2 hl3
  go_wp2_with fail
  refine G1.out.mono ?_
  rintro e w' ⟨rfl, rfl⟩
  go_wp2_with fail
  refine G0.out.mono ?_
  rintro e w' ⟨rfl, rfl⟩
  by_cases hk : k = 1
  · have t : ((k : Int) == 1) = true := by simp [hk]
    clear hk
    go_wp2_with fail
    go_ret
    exact ⟨rfl, hB4⟩
  · have t : ((k : Int) == 1) = false := by rw [beq_eq_false_iff_ne]; omega
    have QS := Lib.hid (set_wide hq4.pk hm2 1 x (by decide) (S4.out hk))
    clear hk
    go_wp2_with fail
    refine QS.out.mono ?_
    rintro e w' ⟨rfl, rfl⟩
    go_wp2_with fail
    refine Q1.out.mono ?_
    rintro e w' ⟨rfl, rfl⟩
    go_wp2_with fail
    go_ret
    exact ⟨rfl, hB4⟩

set_option maxRecDepth 100000 in
theorem lifted (os : Os) (started : os.Started) (H : Type) (enc : TypeId × Value → H) :
    ReturnsInHanded {} Try.checked os 5 .any (Rows.packWidthsSpec.pre6 enc Try.prog Try.f5 Rows.packWidthsRow.domain false) (Rows.packWidthsSpec.post enc Try.prog Try.f5 false true false false) := by
  refine returnsInHanded_of_change (C := Try.checked) own started (by kernel_rfl) Try.func5
    (ChangeSpec.witness6 (enc := enc) (C := Try.checked) false ⟨#[], #[.int .u64 0], []⟩ 8 (by kernel_rfl) (by kernel_rfl) (by kernel_rfl) (by kernel_rfl)) ?_
  intro W base args ds gs before hval0 hW hcnd _
  have hval : ∀ (j : Nat) t v, Try.f5.params[j]? = some t → args[j]? = some v → Value.okWide Try.prog W .any base t v := hval0
  have hW' := hW
  obtain ⟨p, q, hA0, hV, rfl, hfz, hnd⟩ := hW
  have hA : DataW.TrodAll enc Try.prog W 0 (fun _ => true) true Try.f5.params.toList args.toList ds p := hA0
  rw [Try.params5] at hA hval
  obtain ⟨v0, vs0, d0, ds0, p0, q0, hargs, rfl, rfl, h0, r0⟩ := trodAll_cons hA
  obtain ⟨rfl, rfl, rfl⟩ := trodAll_nil r0
  obtain rfl : args = #[v0] := by cases args; simp_all
  obtain ⟨rfl, rfl⟩ := trodVars_none hV
  obtain ⟨a0, rfl, rfl, rfl, w0⟩ := open_int Try.underlying30 (hval 0 30 v0 rfl rfl) h0
  clear hA0 hval0
  obtain ⟨x, hx, rfl⟩ := u64_nat w0
  refine (walk x hx W).mono fun e W' ⟨he, hg⟩ => ?_
  subst he
  exact ⟨_, rfl, law_post laidOut rfl rfl rfl (by rw [Try.params5]; decide +kernel) hW' hg⟩

/-- The statement. -/
theorem proved : Rows.PackWidthsSaid :=
  OpenClaim.holds_of_wide 5 Try.f5 rfl rfl rfl rfl rfl rfl rfl ⟨rfl, rfl, rfl, rfl, rfl⟩ rfl rfl rfl rfl rfl (by kernel_rfl) Try.func5 (by kernel_rfl)
    (of_decide_eq_true (by kernel_rfl)) (by unfold Func.isWrapper; first | (rw [if_pos (by decide +kernel)]; kernel_rfl) | (rw [if_neg (by decide +kernel)]; exact ⟨rfl, rfl⟩))
    (fun os started H enc _ => lifted os started H enc)
#print axioms proved
end Go.Proofs.Ytlpoingajmogkaa.packWidths
