/- The walk of colophonlaw10.LcpOrdered, over what package lcp answers (LcpI). -/
import Derived.Test.YtlcgigiphlmjpaaLcpI
import Derived.Test.YtlcgigiphlmjpaaSufTurn
import Derived.Deep.RegionHeld3
namespace Go.Proofs.Ytlcgigiphlmjpaa
open Go.RowKit

set_option maxRecDepth 100000 in
set_option maxHeartbeats 3200000 in
theorem lcOrdered_walk (I : LcpI) (A : Option Addr) (n c : Nat) (V : Nat → Int) (x y : Int) (w : World) (ho : ItsR w A n c V) (_ : (Lit.int .i64 x).wf = true) (_ : (Lit.int .i64 y).wf = true) :
    Calls Try.prog 4 #[.slice A n c, .int .i64 x, .int .i64 y] w fun e w' => e = .returned (.bool true) ∧ Below w.heap.size w w' := by
  have HI := Lib.hid I
  have HO := Lib.hid ho
  have HF := Lib.hid (lfirst_any I w)
  have hcl : c ≤ 9223372036854775807 := by have := ho.2.2.1; unfold maxLen at this; omega
  have hnc := ho.2.1
  clear I ho
  go_enter Try.func4, Try.ntmps4
  go_wp2_with fail
  refine HF.out.mono ?_
  rintro e w0 ⟨rfl, hb0⟩
  clear HF
  by_cases hbig : (n : Int) ≤ 300
  · have d1 : decide ((300 : Int) < (n : Int)) = false := decide_eq_false (by omega)
    have hn4 : n ≤ 300 := by omega
    have HA := Lib.hid (refArrayS_any A n c V w0 (by omega) (HO.out.below hb0).2.2.2)
    go_wp2_with fail
    refine HA.out.mono ?_
    rintro e w1 ⟨u, s, rfl, hs, hown, hb1⟩
    have HS := Lib.hid hs
    have hsm : ∀ i, i < n → -9223372036854775808 ≤ ((s i : Nat) : Int) ∧ ((s i : Nat) : Int) ≤ 9223372036854775807 := fun i hi => by have := hs.1 i hi; omega
    obtain ⟨A1, c1, rfl, hi1⟩ := ItsR.of_own hown hsm
    have HI1 := Lib.hid hi1
    have hB1 := hb0.trans (hb1.mono hb0.size)
    have HL := Lib.hid (HI.out.array A n c V A1 n c1 (fun i => ((s i : Nat) : Int)) w1 (by omega) (by omega) (HO.out.below hB1) hi1)
    have hc1l : c1 ≤ 9223372036854775807 := by have := hi1.2.2.1; unfold maxLen at this; omega
    have hnc1 := hi1.2.1
    clear d1 hbig HA hs hown hb1 hsm hi1 hb0
    go_wp2_with fail
    refine HL.out.mono ?_
    rintro e w2 ⟨h2, _, hb2⟩
    obtain ⟨A2, c2, rfl, hi2⟩ := h2 ⟨rfl, HS.out.perm⟩
    have HI2 := Lib.hid hi2
    have hc2l : c2 ≤ 9223372036854775807 := by have := hi2.2.2.1; unfold maxLen at this; omega
    have hnc2 := hi2.2.1
    have HI1' := Lib.hid (HI1.out.below hb2)
    have hB2 := hB1.trans (hb2.mono hB1.size)
    have HRA := Lib.hid (refArrayL_any A A1 n c n c1 V (fun i => ((s i : Nat) : Int)) w2 (by omega) (by omega) (HO.out.below hB2).2.2.2 HI1'.out.2.2.2)
    clear h2 HL hi2 hb2 HI1 hB1
    go_wp2_with fail
    refine HRA.out.mono ?_
    rintro e w3 ⟨v3, rfl, hown3, hb3⟩
    obtain ⟨A3, c3, rfl, hi3⟩ := ItsR.of_own hown3 (fun i _ => by have := lcpI_room (V := V) (n := n) (S := fun i => ((s i : Nat) : Int)) (i := i); omega)
    have HI1b := Lib.hid (HI1'.out.below hb3)
    have HI2b := Lib.hid (HI2.out.below hb3)
    have HSm := Lib.hid (refSame8_any A2 A3 n n c2 c3 _ _ w3.heap.size w3.heap.size w3 (by unfold maxLen; omega) (Nat.le_refl _) (Nat.le_refl _) HI2b.out.2.2.2 hi3.2.2.2)
    have hB3 := hB2.trans (hb3.mono hB2.size)
    clear HRA hown3 hi3 hb3 HI1' HI2 hB2
    go_wp2_with fail
    refine HSm.out.mono ?_
    rintro e w4 ⟨b, rfl, hbi, hb4⟩
    obtain rfl : b = true := hbi.2 ⟨by trivial, fun _ _ => by trivial⟩
    have HI1c := Lib.hid (HI1b.out.below hb4)
    have HI2c := Lib.hid (HI2b.out.below hb4)
    have hB4 := hB3.trans (hb4.mono hB3.size)
    have HRg : Hid (∀ (W : World) (i j : Int) (r : Int), Below w4.heap.size w4 W → (Lit.int .i64 i).wf = true → (Lit.int .i64 j).wf = true → rangeI (lcpI V n fun i => ((s i : Nat) : Int)) n i j = r → Hid (Calls Try.prog 14 #[.slice A2 n c2, .int .i64 i, .int .i64 j] W fun e w' => e = .returned (.int .i64 r) ∧ Below W.heap.size W w')) := Lib.hid fun W i j r hW h1 h2 e => Lib.hid (by
      subst e
      exact HI.out.range_ A2 n c2 _ i j W (by omega) h1 h2 (HI2c.out.below hW))
    clear hbi hb4 HSm HI1b HI2b hB3
    by_cases h2 : n < 2
    · have d2 : decide ((n : Int) < 2) = true := decide_eq_true (by omega)
      have H5 := HRg.out w4 0 0 (-1) (Below.refl _ _) (by decide) (by decide) (rangeI_out (by omega))
      go_wp2_with fail
      refine H5.out.mono ?_
      rintro e w5 ⟨rfl, hb5⟩
      have hB5 := hB4.trans (hb5.mono hB4.size)
      go_wp2_with fail
      go_ret
      exact ⟨rfl, hB5⟩
    · have d2 : decide ((n : Int) < 2) = false := decide_eq_false (by omega)
      obtain ⟨a, ha, han⟩ := turn_w x n (by omega) (by omega)
      obtain ⟨b, hb, hbn⟩ := turn_w y n (by omega) (by omega)
      have HA := Lib.hid ha
      have HB := Lib.hid hb
      clear ha hb
      go_wp2_with fail
      go_quiet (fail)
      rw [HA.out, HB.out]
      obtain ⟨w5, hw5⟩ : ∃ w5, w4.drewN ‹Nat› = w5 := ⟨_, rfl⟩
      have hb5 : Below w4.heap.size w4 w5 := by rw [← hw5]; exact below_drewN' (Below.refl _ _) _
      rw [hw5]
      clear hw5 HA HB d2 h2
      have wa : (Lit.int .i64 (a : Int)).wf = true := wf_i64 (by omega) (by omega)
      have wb : (Lit.int .i64 (b : Int)).wf = true := wf_i64 (by omega) (by omega)
      have hB5 := hB4.trans (hb5.mono hB4.size)
      by_cases hab : a = b
      · subst hab
        have H6 := HRg.out w5 a a (-1) hb5 wa wb (rangeI_out (by omega))
        go_wp2_with fail
        refine H6.out.mono ?_
        rintro e w6 ⟨rfl, hb6⟩
        have hB6 := hB5.trans (hb6.mono hB5.size)
        go_wp2_with fail
        go_ret
        exact ⟨rfl, hB6⟩
      · have dab : ((a : Int) == (b : Int)) = false := by rw [beq_eq_false_iff_ne]; omega
        have hai : (a : Int) < (n : Int) := by omega
        have hbi : (b : Int) < (n : Int) := by omega
        obtain ⟨r, hr⟩ : ∃ r, comI V n ((s a : Nat) : Int) ((s b : Nat) : Int) = r := ⟨_, rfl⟩
        have hr1 := (range_com HS.out han hbn hab).trans hr
        have hr2 := rangeI_symm.trans hr1
        have H1 : Hid (∀ W, Below w4.heap.size w4 W → Hid (Calls Try.prog 14 #[.slice A2 n c2, .int .i64 (a : Int), .int .i64 (b : Int)] W fun e w' => e = .returned (.int .i64 r) ∧ Below W.heap.size W w')) := Lib.hid fun W hW => HRg.out W a b r hW wa wb hr1
        have H2 : Hid (∀ W, Below w4.heap.size w4 W → Hid (Calls Try.prog 14 #[.slice A2 n c2, .int .i64 (b : Int), .int .i64 (a : Int)] W fun e w' => e = .returned (.int .i64 r) ∧ Below W.heap.size W w')) := Lib.hid fun W hW => HRg.out W b a r hW wb wa hr2
        have hsa := HS.out.1 a han
        have hsb := HS.out.1 b hbn
        have HC : Hid (∀ W, Below w4.heap.size w4 W → Hid (Calls Try.prog 15 #[.slice A n c, .int .i64 ((s a : Nat) : Int), .int .i64 ((s b : Nat) : Int)] W fun e w' => e = .returned (.int .i64 r) ∧ Below W.heap.size W w')) := Lib.hid fun W hW => Lib.hid (by
          have h := refCommon_any A n c V ((s a : Nat) : Int) ((s b : Nat) : Int) w.heap.size W (by omega) (wf_i64 (by omega) (by omega)) (wf_i64 (by omega) (by omega)) (HO.out.2.2.2.below (hB4.trans (hW.mono hB4.size)))
          rw [hr] at h
          exact h)
        obtain ⟨ad, rfl, _, _, _⟩ := HI1c.out.2.2.2 a han
        have HSS : Hid (∀ W, Below w4.heap.size w4 W → W.cell? (ad.add a) = some (.int .i64 ((s a : Nat) : Int)) ∧ W.cell? (ad.add b) = some (.int .i64 ((s b : Nat) : Int)) ∧ Below w4.heap.size w4 W) := Lib.hid fun W hW => by
          obtain ⟨_, e1, _, h1, _⟩ := (HI1c.out.2.2.2.below hW) a han
          obtain ⟨_, e2, _, h2, _⟩ := (HI1c.out.2.2.2.below hW) b hbn
          cases e1
          cases e2
          exact ⟨h1, h2, hW⟩
        clear hr1 hr2 hr HRg hab hsa hsb
        generalize s a = sa at *
        generalize s b = sb at *
        have hbD := below_drew' hb5
        go_upto_region 14 with (fail)
        go_cut [6] (fun s6 wx => s6 = .bool true ∧ Below w4.heap.size w4 wx)
        case first =>
          go_region_held3 (fun w' => w'.cell? (ad.add a) = some (.int .i64 (sa : Int)) ∧ w'.cell? (ad.add b) = some (.int .i64 (sb : Int)) ∧ Below w4.heap.size w4 w')
            ((first
              | exact HSS.out _ hbD
              | exact HSS.out _ hC4
              | exact HSS.out _ hC3
              | exact HSS.out _ hC2
              | exact HSS.out _ hC1))
            (first
              | (go_at_call 14; (with_reducible refine (H1.out _ hbD).out.mono ?_); rintro e x1 ⟨rfl, hc1⟩; have hC1 := hbD.trans (hc1.mono hbD.size))
              | (go_at_call 15; (with_reducible refine (HC.out _ hC1).out.mono ?_); rintro e x2 ⟨rfl, hc2⟩; have hC2 := hC1.trans (hc2.mono hC1.size))
              | (go_at_call 14; (with_reducible refine (H2.out _ hC2).out.mono ?_); rintro e x3 ⟨rfl, hc3⟩; have hC3 := hC2.trans (hc3.mono hC2.size))
              | (go_at_call 14; (with_reducible refine (H1.out _ hC3).out.mono ?_); rintro e x4 ⟨rfl, hc4⟩; have hC4 := hC3.trans (hc4.mono hC3.size)))
          all_goals
            go_wp2_with fail
            go_meet
            exact ⟨rfl, hC4⟩
        case rest =>
          obtain ⟨rfl, hCx⟩ := hcut
          go_wp2_with fail
          go_ret
          exact ⟨rfl, hB4.trans (hCx.mono hB4.size)⟩
  · have d1 : decide ((300 : Int) < (n : Int)) = true := decide_eq_true (by omega)
    go_wp2_with fail
    go_ret
    exact ⟨rfl, hb0⟩
end Go.Proofs.Ytlcgigiphlmjpaa
