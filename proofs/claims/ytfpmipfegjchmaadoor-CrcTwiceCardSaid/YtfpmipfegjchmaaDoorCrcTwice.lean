/- For every input colophonlaw04.CrcTwice returns true, and its argument reads as it read. No condition but that the two tables lie as the program's text lays them (the card ties it). -/
import Derived.Test.YtfpmipfegjchmaaDoorCrcLaw
namespace Go.Proofs.YtfpmipfegjchmaaDoor.crcTwice
open Go.ChangeShapes Go.WideShapes Go.ChangeAt Go.RowKit

set_option maxRecDepth 100000 in
set_option maxHeartbeats 3200000 in
theorem walk (A : Option Addr) (n c : Nat) (V : Nat → Nat) (w : World) (hcm : c ≤ maxLen) (hA : A = none → n = 0 ∧ c = 0) (hc : n ≤ c) (ho : Bys w w.heap.size A n V) (ht : Tabs w) :
    Calls Tryd.prog 7 #[.slice A n c] w fun e w' => e = .returned (.bool true) ∧ Below w.heap.size w w' := by
  have HT := Lib.hid ht
  have HO := Lib.hid ho
  have HF := Lib.hid (cfirst_any w ht)
  unfold maxLen at hcm
  obtain ⟨m, hm⟩ : ∃ m, min n 1000 = m := ⟨_, rfl⟩
  have hmn : m ≤ n := by omega
  have hm1 : m ≤ 1000 := by omega
  have HM := Lib.hid hm
  clear ho ht hm
  go_enter Tryd.func7, Tryd.ntmps7
  go_wp2_with fail
  refine HF.out.mono ?_
  rintro e w0 ⟨rfl, hb0⟩
  go_upto_region 3 with (fail)
  go_cut [3] (fun s wx => s = .slice A m c ∧ Below w.heap.size w wx)
  case first =>
    go_wp2_with fail
    all_goals
      go_meet
      exact ⟨by rw [← HM.out]; congr 1; omega, hb0⟩
  case rest =>
    obtain ⟨rfl, hB⟩ := hcut
    have HX := Lib.hid ((HO.out.take hmn).mono_ (Nat.le_refl _))
    have hV := HX.out.lt
    have HP := Lib.hid (put_any A m c V wc (by omega) (fun e => ⟨by have := hA e; omega, (hA e).2⟩) ((HX.out.below hB).mono_ hB.size) (HT.out.keep hB))
    clear hA
    go_wp2_with fail
    refine HP.out.mono ?_
    rintro e w1 ⟨p, rfl, hp, hb1⟩
    obtain ⟨Ap, cp, rfl, _, _, _⟩ := row_bys hp (fun k _ => behind_lt hV k)
    have hB1 := hB.trans (hb1.mono hB.size)
    have HP2 := Lib.hid (put_row (n := m + 4) (by omega) hp (fun k _ => behind_lt hV k) (HT.out.keep hB1))
    have Hp1 := Lib.hid hp
    clear HP hb1 hp
    go_wp2_with fail
    refine HP2.out.mono ?_
    rintro e w2 ⟨q, rfl, hq, hb2⟩
    have hB2 := hB1.trans (hb2.mono hB1.size)
    have HC := Lib.hid (cut_put (n := m + 4) (by omega) hq (fun k _ => behind_lt hV k) (HT.out.keep hB2))
    have Hp2 := Lib.hid (ownsRow_keep Hp1.out hb2)
    clear HP2 hb2 hq Hp1 hB1
    go_wp2_with fail
    refine HC.out.mono ?_
    rintro e w3 ⟨y, rfl, hy, hb3⟩
    have hB3 := hB2.trans (hb3.mono hB2.size)
    have HC2 := Lib.hid (cut_put (n := m) (by omega) hy hV (HT.out.keep hB3))
    have Hp3 := Lib.hid (ownsRow_keep Hp2.out hb3)
    clear HC hb3 hy Hp2 hB2
    go_wp2_with fail
    refine HC2.out.mono ?_
    rintro e w4 ⟨z, rfl, hz, hb4⟩
    have hB4 := hB3.trans (hb4.mono hB3.size)
    have Hp4 := Lib.hid (ownsRow_keep Hp3.out hb4)
    have hc1 := row_conv hz hV
    have hc2 := Bys.conv (HX.out.below hB4) c
    have HS := Lib.hid (sum_row (n := m + 4) (by omega) Hp4.out (fun k _ => behind_lt hV k) (HT.out.keep hB4))
    rw [Pl.sumN_twice (behind_ends V m)] at HS
    clear HC2 hb4 hz Hp3 hB3
    go_wp2_with fail
    refine HS.out.mono ?_
    rintro e w5 ⟨rfl, hb5⟩
    have hB5 := hB4.trans (hb5.mono hB4.size)
    have Hp5 := Lib.hid (ownsRow_keep Hp4.out hb5)
    have HN := Lib.hid (put_any none 0 0 V w5 (by omega) (fun _ => ⟨rfl, rfl⟩) (fun k hk => absurd hk (by omega)) (HT.out.keep hB5))
    clear HS hb5 Hp4 hB4 hc1 hc2
    go_wp2_with fail
    refine HN.out.mono ?_
    rintro e w6 ⟨t, rfl, htt, hb6⟩
    obtain ⟨At, ct, rfl, _, _, _⟩ := row_bys htt (fun k _ => behind_lt (V := V) (n := 0) (fun k hk => absurd hk (by omega)) k)
    have hB6 := hB5.trans (hb6.mono hB5.size)
    have Hp6 := Lib.hid (ownsRow_keep Hp5.out hb6)
    have HS2 := Lib.hid (sum_row (n := 0 + 4) (by omega) htt (fun k _ => behind_lt (fun k hk => absurd hk (by omega)) k) (HT.out.keep hB6))
    rw [Pl.sumN_twice (behind_ends V 0)] at HS2
    clear HN hb6 htt Hp5 hB5
    go_wp2_with fail
    refine HS2.out.mono ?_
    rintro e w7 ⟨rfl, hb7⟩
    have hB7 := hB6.trans (hb7.mono hB6.size)
    have Hp7 := Lib.hid (ownsRow_keep Hp6.out hb7)
    have HS3 := Lib.hid (sum_row (n := m + 4) (by omega) Hp7.out (fun k _ => behind_lt hV k) (HT.out.keep hB7))
    rw [Pl.sumN_twice (behind_ends V m)] at HS3
    clear HS2 hb7 Hp6 hB6 Hp7
    go_wp2_with fail
    refine HS3.out.mono ?_
    rintro e w8 ⟨rfl, hb8⟩
    have hB8 := hB7.trans (hb8.mono hB7.size)
    clear HS3 hb8 hB7
    go_wp2_with fail
    go_ret
    exact ⟨rfl, hB8⟩

theorem own : ownKnob Tryd.prog.godebug = none := by kernel_rfl
theorem laidOut : laidOutB Tryd.prog = true := by kernel_rfl

set_option maxRecDepth 100000 in
theorem lifted (os : Os) (started : os.Started) (H : Type) (enc : TypeId × Value → H) :
    ReturnsInHanded {} Tryd.checked os 7 .any (fun w args => (Rows.crcTwiceSpec.pre enc Tryd.prog Tryd.f7 [] false w args ∧ laidMetH Tryd.prog laidL w) ∧ sizedMet enc Tryd.prog Tryd.f7 (OpenSpec.ofChange Rows.crcTwiceSpec) false w args)
      (Rows.crcTwiceSpec.post enc Tryd.prog Tryd.f7 false true false false) := by
  refine returnsInHanded_of_change_and (C := Tryd.checked) (X := fun w _ => laidMetH Tryd.prog laidL w) (fun _ _ _ hh h => h.of_heap hh) own started (by kernel_rfl) Tryd.func7
    (ChangeSpec.witness_shaped (enc := enc) (C := Tryd.checked) (os := os) (X := fun w _ => laidMetH Tryd.prog laidL w) false (World.doorLaid Tryd.prog 400 os) #[.slice none 0 0] 8 rfl (World.shaped_of_RefB (by kernel_rfl) (by kernel_rfl)) (by kernel_rfl) (by kernel_rfl) (by kernel_rfl) (door_met os _)) ?_
  intro W base args ds gs before hval0 hW _ _ hL _
  have hval : ∀ (j : Nat) t v, Tryd.f7.params[j]? = some t → args[j]? = some v → Value.okWide Tryd.prog W .any base t v := hval0
  have hW' := hW
  obtain ⟨p, q, hA0, hV, rfl, hfz, hnd⟩ := hW
  have hA : DataW.TrodAll enc Tryd.prog W 0 (fun _ => true) true Tryd.f7.params.toList args.toList ds p := hA0
  rw [Tryd.params7] at hA hval
  obtain ⟨v0, d0, rfl, rfl, h0⟩ := trodAll_one hA
  obtain ⟨rfl, rfl⟩ := trodVars_none hV
  obtain ⟨A0, n0, c0, V0, rfl, hn0, hz0, hc0, ho0⟩ := open_bytesc (hval 0 22 v0 rfl rfl) h0
  clear hA0 hval0
  refine (walk A0 n0 c0 V0 W hn0 hz0 hc0 ho0 (tabs_of_laid hL)).mono fun e W' ⟨he, hg⟩ => ?_
  subst he
  exact ⟨_, rfl, law_post laidOut rfl rfl rfl (by rw [Tryd.params7]; decide +kernel) hW' hg⟩

/-- The row. -/
theorem holds : Rows.CrcTwiceSaid :=
  OpenClaim.holds_of_wide 7 Tryd.f7 rfl rfl rfl rfl rfl rfl rfl ⟨rfl, rfl, rfl, rfl, rfl⟩ rfl rfl rfl rfl rfl (by kernel_rfl) Tryd.func7 (by kernel_rfl)
    (of_decide_eq_true (by kernel_rfl)) (by unfold Func.isWrapper; first | (rw [if_pos (by decide +kernel)]; kernel_rfl) | (rw [if_neg (by decide +kernel)]; exact ⟨rfl, rfl⟩))
    (fun os started H enc _ => lifted os started H enc)
/-- The statement: the row's card. -/
theorem proved : Rows.CrcTwiceCardSaid :=
  Claim7.holds_tied_plain_at .later [] Rows.crcTwiceCard.laidKinds Rows.crcTwiceCard.laidTests Rows.crcTwiceCard.stood.harness Rows.crcTwiceCard.stood.looks
    holds (fun _ h => by cases h) (by kernel_rfl) (fun _ h => by cases h) crcTwice_row_tie rfl ⟨rfl, rfl⟩ (by kernel_rfl) rfl
    (fun f fn hf hfn => by
      obtain rfl : f = 7 := Option.some.inj ((show Tryd.prog.funcNamed "colophon/colophonlaw04.CrcTwice" = some 7 by kernel_rfl).symm.trans hf) |>.symm
      obtain rfl : fn = Tryd.f7 := (Option.some.inj (Tryd.func7.symm.trans hfn)).symm
      exact ⟨by kernel_rfl, fun j t ht => by
        have hm : t ∈ Tryd.f7.params.toList := by simpa using Array.mem_of_getElem? ht
        have hall : (Tryd.f7.params.toList.all fun u => !Tryd.prog.wantsStandIn u) = true := by kernel_rfl
        exact (show Tryd.prog.wantsStandIn t = false by simpa using List.all_eq_true.1 hall t hm)⟩)
    (by kernel_rfl)
#print axioms proved
end Go.Proofs.YtfpmipfegjchmaaDoor.crcTwice
