/- The walk of colophonlaw13.WaveTurns, over what package wave answers (WaveI). -/
import Derived.Test.YtfhflmojcfnhnaaWavI
import Derived.Test.YtfhflmojcfnhnaaWavNar
namespace Go.Proofs.Ytfhflmojcfnhnaa
open Go.RowKit
theorem selW_rank {V : Nat → Int} {n i : Nat} (hi : i < n) : selW V n (V i) ((cntR V (V i) 0 (i : Int) n : Nat) : Int) = (i : Int) := by
  unfold selW
  rw [cntR_upto (by omega)]
  exact Pl.sel_in hi (decide_eq_true rfl)
theorem atI_in {V : Nat → Int} {n i : Nat} (hi : i < n) : atI V n (i : Int) = V i := by
  unfold atI
  rw [if_pos ⟨by omega, by omega⟩, Int.toNat_natCast]
section
variable {At : Nat → World → Value → Nat → (Nat → Int) → Nat → Prop} {Vt : Nat → World → Value → Nat → (Nat → Bool) → Prop}

set_option maxRecDepth 100000 in
set_option maxHeartbeats 3200000 in
theorem wvTurns_walk (I : WaveI At Vt) (A : Option Addr) (n ca : Nat) (V : Nat → Int) (w : World) (ho : ItsR w A n ca V) :
    Calls Try.prog 6 #[.slice A n ca] w fun e w' => e = .returned (.bool true) ∧ Below w.heap.size w w' := by
  have HI := Lib.hid I
  have HO := Lib.hid ho
  have HF := Lib.hid (wfirst_any I w)
  have hnm : n ≤ maxLen := by have := ho.2.1; have := ho.2.2.1; omega
  have hnl : n ≤ 9223372036854775807 := by unfold maxLen at hnm; omega
  clear I ho
  by_cases hbig : 300 < n
  · have hdd : decide ((300 : Int) < (n : Int)) = true := decide_eq_true (by omega)
    go_enter Try.func6, Try.ntmps6
    go_wp2_with fail
    refine HF.out.mono ?_
    rintro e w0 ⟨rfl, hb0⟩
    have hB0 := hb0
    go_wp2_with fail
    go_ret
    exact ⟨rfl, hB0⟩
  · have hdd : decide ((300 : Int) < (n : Int)) = false := decide_eq_false (by omega)
    have hn : n ≤ 300 := by omega
    obtain ⟨r, hr⟩ : ∃ r : Bool, r = true ↔ RightW V n 20 := ⟨@decide _ (Classical.propDecidable _), @decide_eq_true_iff _ (Classical.propDecidable _)⟩
    have HR := Lib.hid hr
    clear hr
    go_enter Try.func6, Try.ntmps6
    go_wp2_with fail
    refine HF.out.mono ?_
    rintro e w0 ⟨rfl, hb0⟩
    have HB0 := hb0
    have HO0 := Lib.hid (HO.out.below hb0)
    have HRt := Lib.hid (wright_is A n ca V 20 w0 hnm (by decide) HO0.out.2.2.2 r HR.out)
    clear HF HO
    go_wp2_with fail
    refine HRt.out.mono ?_
    rintro e w1 ⟨rfl, hb1⟩
    have HB1 := HB0.trans (hb1.mono HB0.size)
    rcases r with _ | _
    · clear HRt
      go_wp2_with fail
      go_ret
      exact ⟨rfl, HB1⟩
    · have HO1 := Lib.hid (HO0.out.below hb1)
      have HMd := Lib.hid (wmade_any HI.out A n ca V 20 w1 (by omega) (by decide) HO1.out)
      have HRw : Hid (RightW V n 20) := Lib.hid (HR.out.1 rfl)
      clear HRt hb1 HO0 HB0 HR
      go_wp2_with fail
      refine HMd.out.mono ?_
      rintro e w2 ⟨h1, _, hb2⟩
      obtain ⟨B, v, rfl, hAt⟩ := h1 HRw.out
      obtain ⟨pa, rfl⟩ := HI.out.ptr hAt
      have HB2 := HB1.trans (hb2.mono HB1.size)
      have HA2 : Hid (At B w2 (.pointer (some pa)) n V 20) := Lib.hid hAt
      have HO2 := Lib.hid (HO1.out.below hb2)
      clear h1 hAt hb2 HMd HO1 HB1
      have HB3 := Lib.hid HB2
      clear HB2
      go_wp2_with fail
      go_loopw [28] (fun s wr => ∃ i : Nat, i ≤ n ∧ s = .int .i64 (i : Int) ∧ Hid (Below w.heap.size w wr) ∧ Hid (At B wr (.pointer (some pa)) n V 20) ∧ Hid (ItsR wr A n ca V)) (fun s _ => n - (intOf s).toNat)
      case atStart => exact ⟨0, Nat.zero_le _, rfl, HB3, HA2, HO2⟩
      case round =>
        clear HB3 HA2 HO2
        obtain ⟨i, hi, rfl, hB, hA, hO⟩ := hrel
        by_cases hlt : i < n
        · have hlti : (i : Int) < (n : Int) := by omega
          obtain ⟨ad, rfl, _, cx, hv1, hv2⟩ := hO.out.2.2.2 i hlt
          have HAi := Lib.hid (atI_in (V := V) hlt)
          have HSi := Lib.hid (selW_rank (V := V) hlt)
          have HQi := Lib.hid (quantI_one (V := V) hlt)
          obtain ⟨x, hx⟩ : ∃ x, V i = x := ⟨_, rfl⟩
          rw [hx] at cx hv1 hv2 HAi HSi HQi
          obtain ⟨r, hr⟩ : ∃ r, cntR V x 0 (i : Int) n = r := ⟨_, rfl⟩
          rw [hr] at HSi
          have HRi := Lib.hid hr
          have hrn : r ≤ 300 := by rw [← hr]; exact Nat.le_trans cntR_le_n hn
          have wi := WalkArith.wf_i64 (show -9223372036854775808 ≤ (i : Int) ∧ (i : Int) ≤ 9223372036854775807 by omega)
          have wi1 := WalkArith.wf_i64 (show -9223372036854775808 ≤ (i : Int) + 1 ∧ (i : Int) + 1 ≤ 9223372036854775807 by omega)
          have wx := WalkArith.wf_i64 (show -9223372036854775808 ≤ x ∧ x ≤ 9223372036854775807 by omega)
          have wr' := WalkArith.wf_i64 (show -9223372036854775808 ≤ (r : Int) ∧ (r : Int) ≤ 9223372036854775807 by omega)
          have e1 : IntKind.i64.wrap ((i : Int) + 1) = (i : Int) + 1 := IntWalk.i64_in _ (by omega)
          have q1 : (x != x) = false := by simp
          have q2 : ((i : Int) != (i : Int)) = false := by simp
          have H3 := Lib.hid (HI.out.at_ _ _ _ _ _ (i : Int) wr wi hA.out)
          rw [HAi.out] at H3
          clear hx hr
          go_wp2_with fail
          refine H3.out.mono ?_
          rintro e w3 ⟨rfl, hb3⟩
          have HB3 := hB.out.trans (hb3.mono hB.out.size)
          have HA3 := Lib.hid (HI.out.keep hA.out hb3)
          have HO3 := Lib.hid (hO.out.below hb3)
          have H4 := Lib.hid (HI.out.rank_ _ _ _ _ _ x (i : Int) w3 wx wi HA3.out)
          rw [HRi.out] at H4
          clear hb3 hA hB hO H3
          go_wp2_with fail
          refine H4.out.mono ?_
          rintro e w4 ⟨rfl, hb4⟩
          have HB4 := HB3.trans (hb4.mono HB3.size)
          have HA4 := Lib.hid (HI.out.keep HA3.out hb4)
          have HO4 := Lib.hid (HO3.out.below hb4)
          have H5 := Lib.hid (HI.out.select _ _ _ _ _ x (r : Int) w4 wx wr' HA4.out)
          rw [HSi.out] at H5
          clear hb4 HA3 HB3 HO3 H4
          go_wp2_with fail
          refine H5.out.mono ?_
          rintro e w5 ⟨rfl, hb5⟩
          have HB5 := HB4.trans (hb5.mono HB4.size)
          have HA5 := Lib.hid (HI.out.keep HA4.out hb5)
          have HO5 := Lib.hid (HO4.out.below hb5)
          have H6 := Lib.hid (HI.out.quantile _ _ _ _ _ (i : Int) ((i : Int) + 1) 0 w5 wi wi1 (by decide) HA5.out)
          rw [HQi.out] at H6
          clear hb5 HA4 HB4 HO4 H5
          go_wp2_with fail
          refine H6.out.mono ?_
          rintro e w6 ⟨rfl, hb6⟩
          have HB6 := HB5.trans (hb6.mono HB5.size)
          have HA6 := Lib.hid (HI.out.keep HA5.out hb6)
          have HO6 := Lib.hid (HO5.out.below hb6)
          clear hb6 HA5 HB5 HO5 H6
          go_wp2_with fail
          go_roundw
          case rel => exact ⟨i + 1, by omega, by go_num, Lib.hid HB6, HA6, HO6⟩
          case measure => simp [intOf]; omega
        · have hge : ¬ (i : Int) < (n : Int) := by omega
          have wn := WalkArith.wf_i64 (show -9223372036854775808 ≤ (n : Int) ∧ (n : Int) ≤ 9223372036854775807 by omega)
          have H3 := Lib.hid (HI.out.distinct _ _ _ _ _ 0 (n : Int) wr (by decide) wn hA.out)
          go_wp2_with fail
          refine H3.out.mono ?_
          rintro e w3 ⟨⟨AD, cD, D, rfl, hP, hPr⟩, hb3⟩
          have HB3 := hB.out.trans (hb3.mono hB.out.size)
          have HA3 := Lib.hid (HI.out.keep hA.out hb3)
          have HPs := Lib.hid hP
          have HPr := Lib.hid hPr
          have hDl := hPr.1
          have hB3 := Lib.hid HB3
          clear hb3 hA hB hO H3 hP hPr HB3
          go_wp2_with fail
          go_loopw [7, 64] (fun s t wr => ∃ k : Nat, k ≤ D.length ∧ t = .int .i64 (k : Int) ∧ s = .int .i64 ((sumP D k : Nat) : Int) ∧ Hid (Below w.heap.size w wr) ∧ Hid (At B wr (.pointer (some pa)) n V 20) ∧ Hid (PrsR wr AD D)) (fun _ t _ => D.length - (intOf t).toNat)
          case atStart => exact ⟨0, Nat.zero_le _, rfl, rfl, hB3, HA3, HPr⟩
          case round =>
            clear hB3 HA3 HPr
            obtain ⟨k, hk, rfl, rfl, hB, hA, hPr⟩ := hrel
            by_cases hltk : k < D.length
            · have hltk1 : (k : Int) < ((D.length : Nat) : Int) := by omega
              obtain ⟨d, hd⟩ : ∃ d, D[k]? = some d := ⟨_, List.getElem?_eq_getElem hltk⟩
              obtain ⟨gd, od, rfl, hgd, c1, c2, c3⟩ := hPr.out.2 k d hd
              obtain ⟨y, hy⟩ : ∃ y, d.1 = y := ⟨_, rfl⟩
              obtain ⟨z, hz⟩ : ∃ z, d.2 = z := ⟨_, rfl⟩
              rw [hy] at c1
              rw [hz] at c2 c3
              obtain ⟨s0, hs0⟩ : ∃ s0, sumP D k = s0 := ⟨_, rfl⟩
              rw [hs0]
              have hmany := (HPs.out.many d (List.mem_of_getElem? hd)).1
              rw [cntR_part, hy, hz] at hmany
              have hsum := HPs.out.sums k d hd
              rw [lessR_part, hs0, hy] at hsum
              have hs1 := sumP_succ hd
              rw [hs0, hz] at hs1
              have hyr : 0 ≤ y ∧ y ≤ 20 := by
                have hm : 0 < (partL V 0 (n : Int) n).countP (fun x => decide (x = y)) := by
                  have h1 := HPs.out.many d (List.mem_of_getElem? hd)
                  rw [hy] at h1
                  rw [← h1.1]
                  exact h1.2
                rw [List.countP_pos_iff] at hm
                obtain ⟨x, hx, hxy⟩ := hm
                rw [decide_eq_true_iff] at hxy
                obtain ⟨j, h1, _, _, h4⟩ := mem_partL.1 hx
                rw [← hxy, ← h4]
                exact HRw.out.2.2.2 j h1
              have hs300 : s0 ≤ 300 := by
                rw [hsum]
                exact Nat.le_trans (Pl.cnt_le _ _) hn
              have wy := WalkArith.wf_i64 (show -9223372036854775808 ≤ y ∧ y ≤ 9223372036854775807 by omega)
              obtain ⟨g9, hg9⟩ : ∃ g9, wr.heap.size = g9 := ⟨_, rfl⟩
              obtain ⟨wa, hwa⟩ : ∃ wa, wr.alloc (.cells #[.int .i64 y, .int .i64 (z : Int)] 50) = wa := ⟨_, rfl⟩
              have la : Lies wa g9 50 [.int .i64 y, .int .i64 (z : Int)] := by rw [← hwa, ← hg9]; exact lies_new wr _ _
              have hba : Below wr.heap.size wr wa := by rw [← hwa]; exact (Below.refl _ _).alloc (Nat.le_refl _) _
              have hza : g9 < wa.heap.size := la.lt
              have HBa := Lib.hid (hB.out.trans (hba.mono hB.out.size))
              have HAa := Lib.hid (HI.out.keep hA.out hba)
              have HPa := Lib.hid (hPr.out.below hba)
              have HV : Hid (∀ W, Below wa.heap.size wa W → (W.cell? ⟨g9, 0, none⟩ = some (.int .i64 y) ∧ W.cell? ⟨g9, 1, none⟩ = some (.int .i64 (z : Int))) ∧ Below wa.heap.size wa W) := Lib.hid fun W h => ⟨⟨(la.below h hza).cell 0, (la.below h hza).cell 1⟩, h⟩
              have HRk : Hid (∀ W, Below wa.heap.size wa W → Calls Try.prog 19 #[.pointer (some pa), .int .i64 y, .int .i64 (n : Int)] W fun e w' => e = .returned (.int .i64 (z : Int)) ∧ Below wa.heap.size wa w') := Lib.hid fun W h => (HI.out.rank_ _ _ _ _ _ y (n : Int) W wy wn (HI.out.keep HAa.out h)).mono fun e w' hh => ⟨by rw [hh.1, ← hmany], h.trans (hh.2.mono h.size)⟩
              have HBl : Hid (∀ W, Below wa.heap.size wa W → Calls Try.prog 25 #[.pointer (some pa), .int .i64 0, .int .i64 (n : Int), .int .i64 y] W fun e w' => e = .returned (.int .i64 (s0 : Int)) ∧ Below wa.heap.size wa w') := Lib.hid fun W h => (HI.out.below _ _ _ _ _ 0 (n : Int) y W (by decide) wn wy (HI.out.keep HAa.out h)).mono fun e w' hh => ⟨by rw [hh.1, ← hsum], h.trans (hh.2.mono h.size)⟩
              have HS1 := Lib.hid hs1
              have hbd0 := below_drew' (Below.refl wa.heap.size wa)
              have q1 : ((z : Int) != (z : Int)) = false := by simp
              have q2 : ((s0 : Int) != (s0 : Int)) = false := by simp
              clear hd hy hz hs0 hmany hsum hs1 la hba hza hB hA hPr hyr
              go_upto_region 16 with (fail)
              go_cut [86] from 68 to 86 (fun s wx => s = .bool false ∧ Below wa.heap.size wa wx)
              case first =>
                go_region_held3 (fun w' => (w'.cell? ⟨g9, 0, none⟩ = some (.int .i64 y) ∧ w'.cell? ⟨g9, 1, none⟩ = some (.int .i64 (z : Int))) ∧ Below wa.heap.size wa w')
                  ((first
                    | exact HV.out _ hbd0
                    | exact HV.out _ hC2
                    | exact HV.out _ hC1))
                  ((first
                    | (go_at_call 19; (with_reducible refine (HRk.out _ hbd0).mono ?_); rintro e w' ⟨rfl, hC1⟩)
                    | (go_at_call 25; (with_reducible refine (HBl.out _ hC1).mono ?_); rintro e w' ⟨rfl, hC2⟩)))
                go_wp2_with fail
                go_meet
                exact ⟨rfl, hC2⟩
              case rest =>
                obtain ⟨rfl, hCx⟩ := hcut
                have c9 := (HV.out _ hCx).1.2
                have HBc := Lib.hid (HBa.out.trans (hCx.mono HBa.out.size))
                have HAc := Lib.hid (HI.out.keep HAa.out hCx)
                have HPc := Lib.hid (HPa.out.below hCx)
                have ew : IntKind.i64.wrap ((s0 : Int) + (z : Int)) = (s0 : Int) + (z : Int) := IntWalk.i64_in _ (by omega)
                clear hCx HV HRk HBl HBa HAa HPa hbd0 q1 q2
                go_wp2_with fail
                go_roundw
                case rel => exact ⟨k + 1, by omega, by go_num, by rw [HS1.out]; go_num, HBc, HAc, HPc⟩
                case measure => simp [intOf]; omega
            · obtain rfl : k = D.length := by omega
              have hge2 : ¬ ((D.length : Nat) : Int) < ((D.length : Nat) : Int) := by omega
              have hsn : sumP D D.length = n := by
                rw [HPs.out.sum_all]
                have h := partL_count (V := V) (p := 0) (q := n) (n := n) (Nat.zero_le _) (Nat.le_refl _)
                exact h
              rw [hsn]
              have q1 : ((n : Int) == (n : Int)) = true := by simp
              have HB20 := Lib.hid hB.out
              have H20 := Lib.hid (HI.out.nilLen wr)
              clear hsn hA hB hPr
              go_wp2_with fail
              refine H20.out.mono ?_
              rintro e w21 ⟨rfl, hb21⟩
              have HB21 := Lib.hid (HB20.out.trans (hb21.mono HB20.out.size))
              have H21 := Lib.hid (HI.out.nilLevels  w21)
              clear hb21 H20 HB20
              go_wp2_with fail
              refine H21.out.mono ?_
              rintro e w22 ⟨⟨AL, cL, rfl⟩, hb22⟩
              have HB22 := Lib.hid (HB21.out.trans (hb22.mono HB21.out.size))
              have H22 := Lib.hid (HI.out.nilAt 0 w22)
              clear hb22 H21 HB21
              go_wp2_with fail
              refine H22.out.mono ?_
              rintro e w23 ⟨rfl, hb23⟩
              have HB23 := Lib.hid (HB22.out.trans (hb23.mono HB22.out.size))
              have H23 := Lib.hid (HI.out.nilRank 0 1 w23)
              clear hb23 H22 HB22
              go_wp2_with fail
              refine H23.out.mono ?_
              rintro e w24 ⟨rfl, hb24⟩
              have HB24 := Lib.hid (HB23.out.trans (hb24.mono HB23.out.size))
              have H24 := Lib.hid (HI.out.nilSelect 0 0 w24)
              clear hb24 H23 HB23
              go_wp2_with fail
              refine H24.out.mono ?_
              rintro e w25 ⟨rfl, hb25⟩
              have HB25 := Lib.hid (HB24.out.trans (hb25.mono HB24.out.size))
              have H25 := Lib.hid (HI.out.nilQuantile 0 1 0 w25)
              clear hb25 H24 HB24
              go_wp2_with fail
              refine H25.out.mono ?_
              rintro e w26 ⟨rfl, hb26⟩
              have HB26 := Lib.hid (HB25.out.trans (hb26.mono HB25.out.size))
              have H26 := Lib.hid (HI.out.nilBelow 0 1 1 w26)
              clear hb26 H25 HB25
              go_wp2_with fail
              refine H26.out.mono ?_
              rintro e w27 ⟨rfl, hb27⟩
              have HB27 := Lib.hid (HB26.out.trans (hb27.mono HB26.out.size))
              have H27 := Lib.hid (HI.out.nilDistinct 0 1 w27)
              clear hb27 H26 HB26
              go_wp2_with fail
              refine H27.out.mono ?_
              rintro e w28 ⟨⟨AM, cM, rfl⟩, hb28⟩
              have HB28 := Lib.hid (HB27.out.trans (hb28.mono HB27.out.size))
              clear hb28 H27 HB27
              go_wp2_with fail
              go_ret
              exact ⟨rfl, HB28.out⟩
end
end Go.Proofs.Ytfhflmojcfnhnaa
