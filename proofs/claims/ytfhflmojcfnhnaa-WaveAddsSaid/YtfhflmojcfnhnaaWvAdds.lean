/- The walk of colophonlaw13.WaveAdds, over what package wave answers (WaveI). -/
import Derived.Test.YtfhflmojcfnhnaaWavI
import Derived.Test.YtfhflmojcfnhnaaWavNar
namespace Go.Proofs.Ytfhflmojcfnhnaa
open Go.RowKit
theorem wturn (z : Int) (n : Nat) (hn : n ≤ 4194303) : ∃ a : Nat, wrap64 ((IntKind.u64.wrap z).tmod ((n : Int) + 1)) = (a : Int) ∧ a ≤ n := by
  obtain ⟨j, h1, h2⟩ := turn_w z (n + 1) (by omega) (by omega)
  exact ⟨j, by rw [show ((n : Int) + 1) = ((n + 1 : Nat) : Int) by omega]; exact h1, by omega⟩
section
variable {At : Nat → World → Value → Nat → (Nat → Int) → Nat → Prop} {Vt : Nat → World → Value → Nat → (Nat → Bool) → Prop}

set_option maxRecDepth 100000 in
set_option maxHeartbeats 3200000 in
theorem wvAdds_walk (I : WaveI At Vt) (A : Option Addr) (n ca : Nat) (V : Nat → Int) (x0 x1 x2 x3 : Int) (w : World) (hx0 : (Lit.int .i64 x0).wf = true) (hx1 : (Lit.int .i64 x1).wf = true) (hx2 : (Lit.int .i64 x2).wf = true) (hx3 : (Lit.int .i64 x3).wf = true) (ho : ItsR w A n ca V) :
    Calls Try.prog 8 #[.slice A n ca, .agg #[.int .i64 x0, .int .i64 x1, .int .i64 x2], .int .i64 x3] w fun e w' => e = .returned (.bool true) ∧ Below w.heap.size w w' := by
  have HI := Lib.hid I
  have hbx : Below w.heap.size w (w.alloc (.cells #[.int .i64 x0, .int .i64 x1, .int .i64 x2] 53)) := (Below.refl _ _).alloc (Nat.le_refl _) _
  have HL := Lib.hid (lies_new w 53 [.int .i64 x0, .int .i64 x1, .int .i64 x2])
  have HO := Lib.hid (ho.below hbx)
  have HF := Lib.hid (wfirst_any I (w.alloc (.cells #[.int .i64 x0, .int .i64 x1, .int .i64 x2] 53)))
  have hsz := size_alloc w (.cells #[.int .i64 x0, .int .i64 x1, .int .i64 x2] 53)
  have HW := Lib.hid (And.intro hx0 ( And.intro hx1 ( And.intro hx2 ( hx3))))
  have hnm : n ≤ maxLen := by have := ho.2.1; have := ho.2.2.1; omega
  have hnl : n ≤ 9223372036854775807 := by unfold maxLen at hnm; omega
  have hix0 := i64_in hx0
  have hix1 := i64_in hx1
  have hix2 := i64_in hx2
  have hix3 := i64_in hx3
  clear I ho hx0 hx1 hx2 hx3
  by_cases hbig : 300 < n
  · have hdd : decide ((300 : Int) < (n : Int)) = true := decide_eq_true (by omega)
    clear hsz
    go_enter Try.func8, Try.ntmps8
    go_wp2_with fail
    refine HF.out.mono ?_
    rintro e w0 ⟨rfl, hb0⟩
    have hB0 := hbx.trans (hb0.mono hbx.size)
    go_wp2_with fail
    go_ret
    exact ⟨rfl, hB0⟩
  · have hdd : decide ((300 : Int) < (n : Int)) = false := decide_eq_false (by omega)
    have hn : n ≤ 300 := by omega
    have HSz := Lib.hid hsz
    obtain ⟨r, hr⟩ : ∃ r : Bool, r = true ↔ RightW V n 300 := ⟨@decide _ (Classical.propDecidable _), @decide_eq_true_iff _ (Classical.propDecidable _)⟩
    have HR := Lib.hid hr
    clear hr hsz
    go_enter Try.func8, Try.ntmps8
    go_wp2_with fail
    refine HF.out.mono ?_
    rintro e w0 ⟨rfl, hb0⟩
    have HB0 := hbx.trans (hb0.mono hbx.size)
    have HO0 := Lib.hid (HO.out.below hb0)
    have HL0 := Lib.hid (HL.out.below hb0 (by rw [HSz.out]; omega))
    have hz0 : w.heap.size < w0.heap.size := by have := hb0.size; have := HSz.out; omega
    have HRt := Lib.hid (wright_is A n ca V 300 w0 hnm (by decide) HO0.out.2.2.2 r HR.out)
    clear HF HO HL hbx hb0
    go_wp2_with fail
    refine HRt.out.mono ?_
    rintro e w1 ⟨rfl, hb1⟩
    have HB1 := HB0.trans (hb1.mono HB0.size)
    rcases r with _ | _
    · clear HRt
      go_wp2_with fail
      go_ret
      exact ⟨rfl, HB1⟩
    · have HO1 := Lib.hid (HO0.out.below hb1)
      have HL1 := Lib.hid (HL0.out.below hb1 hz0)
      have hz1 : w.heap.size < w1.heap.size := by have := hb1.size; omega
      have HMd := Lib.hid (wmade_any HI.out A n ca V 300 w1 (by omega) (by decide) HO1.out)
      have HRw : Hid (RightW V n 300) := Lib.hid (HR.out.1 rfl)
      clear HRt hb1 HO0 HB0 HR HL0 hz0
      go_wp2_with fail
      refine HMd.out.mono ?_
      rintro e w2 ⟨h1, _, hb2⟩
      obtain ⟨B, v, rfl, hAt⟩ := h1 HRw.out
      obtain ⟨pa, rfl⟩ := HI.out.ptr hAt
      have HB2 := HB1.trans (hb2.mono HB1.size)
      have HA2 : Hid (At B w2 (.pointer (some pa)) n V 300) := Lib.hid hAt
      have HO2 := Lib.hid (HO1.out.below hb2)
      have HL2 := Lib.hid (HL1.out.below hb2 hz1)
      have hz2 : w.heap.size < w2.heap.size := by have := hb2.size; omega
      clear h1 hAt hb2 HMd HO1 HB1 HL1 hz1
      obtain ⟨a0, ha, han⟩ := wturn x0 n (by omega)
      obtain ⟨b0, hb, hbn⟩ := wturn x1 n (by omega)
      obtain ⟨c0, hc, hcn⟩ := wturn x2 n (by omega)
      have G1 := Lib.hid ha
      have G2 := Lib.hid hb
      have G3 := Lib.hid hc
      clear ha hb hc
      have y0 : ∀ q, (w2.drewN q).cell? ⟨w.heap.size, 0, none⟩ = some (.int .i64 x0) := fun q => by
        have h : w2.cell? ⟨w.heap.size, 0, none⟩ = some (.int .i64 x0) := HL2.out.cell 0
        exact h
      have y1 : ∀ q, (w2.drewN q).cell? ⟨w.heap.size, 1, none⟩ = some (.int .i64 x1) := fun q => by
        have h : w2.cell? ⟨w.heap.size, 1, none⟩ = some (.int .i64 x1) := HL2.out.cell 1
        exact h
      have y2 : ∀ q, (w2.drewN q).cell? ⟨w.heap.size, 2, none⟩ = some (.int .i64 x2) := fun q => by
        have h : w2.cell? ⟨w.heap.size, 2, none⟩ = some (.int .i64 x2) := HL2.out.cell 2
        exact h
      have ew : IntKind.i64.wrap ((n : Int) + 1) = (n : Int) + 1 := IntWalk.i64_in _ (by omega)
      have eu : IntKind.u64.wrap ((n : Int) + 1) = (n : Int) + 1 := IntWalk.u64_in _ (by omega)
      have en : ¬ ((n : Int) + 1 = 0) := by omega
      have en2 : ¬ (n + 1 = 0) := by omega
      go_upto_region 7 with (fail)
      go_cut [10, 11, 12] from 35 to 52 (fun s t u wx => s = .int .i64 (a0 : Int) ∧ t = .int .i64 (b0 : Int) ∧ u = .int .i64 (c0 : Int) ∧ Below w2.heap.size w2 wx)
      case first =>
        go_quiet (fail)
        go_wp2_with fail
        go_meet
        exact ⟨by rw [G1.out], by rw [G2.out], by rw [G3.out], below_drewN' (Below.refl _ _) _⟩
      case rest =>
      obtain ⟨rfl, rfl, rfl, hCx⟩ := hcut
      have HB3 := Lib.hid (HB2.trans (hCx.mono HB2.size))
      have HA3 := Lib.hid (HI.out.keep HA2.out hCx)
      obtain ⟨p, z, hp, hz, hpz⟩ : ∃ p z : Nat, p ≤ z ∧ z ≤ n ∧ Hid (((a0 : Int) < (c0 : Int) ∧ ¬ (c0 : Int) < (a0 : Int) ∧ a0 < c0 ∧ ¬ c0 < a0 ∧ p = a0 ∧ z = c0) ∨ (¬ (a0 : Int) < (c0 : Int) ∧ (c0 : Int) < (a0 : Int) ∧ ¬ a0 < c0 ∧ c0 < a0 ∧ p = c0 ∧ z = a0) ∨ (¬ (a0 : Int) < (c0 : Int) ∧ ¬ (c0 : Int) < (a0 : Int) ∧ ¬ a0 < c0 ∧ ¬ c0 < a0 ∧ p = a0 ∧ z = a0)) := by
        rcases Nat.lt_trichotomy a0 c0 with h | h | h
        · exact ⟨a0, c0, by omega, hcn, Lib.hid (.inl ⟨by omega, by omega, h, by omega, rfl, rfl⟩)⟩
        · exact ⟨a0, a0, Nat.le_refl _, han, Lib.hid (.inr (.inr ⟨by omega, by omega, by omega, by omega, rfl, rfl⟩))⟩
        · exact ⟨c0, a0, by omega, han, Lib.hid (.inr (.inl ⟨by omega, by omega, by omega, h, rfl, rfl⟩))⟩
      obtain ⟨q, hpq, hqz, hq⟩ : ∃ q : Nat, p ≤ q ∧ q ≤ z ∧ Hid (((z : Int) < (b0 : Int) ∧ z < b0 ∧ (p : Int) < (z : Int) ∧ p < z ∧ q = z) ∨ ((z : Int) < (b0 : Int) ∧ z < b0 ∧ ¬ (p : Int) < (z : Int) ∧ ¬ p < z ∧ q = p) ∨ (¬ (z : Int) < (b0 : Int) ∧ ¬ z < b0 ∧ (p : Int) < (b0 : Int) ∧ p < b0 ∧ q = b0) ∨ (¬ (z : Int) < (b0 : Int) ∧ ¬ z < b0 ∧ ¬ (p : Int) < (b0 : Int) ∧ ¬ p < b0 ∧ q = p)) := by
        by_cases h1 : z < b0
        · by_cases h2 : p < z
          · exact ⟨z, hp, Nat.le_refl _, Lib.hid (.inl ⟨by omega, h1, by omega, h2, rfl⟩)⟩
          · exact ⟨p, Nat.le_refl _, hp, Lib.hid (.inr (.inl ⟨by omega, h1, by omega, h2, rfl⟩))⟩
        · by_cases h2 : p < b0
          · exact ⟨b0, by omega, by omega, Lib.hid (.inr (.inr (.inl ⟨by omega, h1, by omega, h2, rfl⟩)))⟩
          · exact ⟨p, Nat.le_refl _, hp, Lib.hid (.inr (.inr (.inr ⟨by omega, h1, by omega, h2, rfl⟩)))⟩
      clear G1 G2 G3 y0 y1 y2 ew eu en en2 HA2 HB2 hCx HO2 HL2 hz2 hix0 hix1 hix2 hix3 HSz
      go_upto_region 8 with (fail)
      go_cut [10, 12] from 53 to 58 (fun s t wx => s = .int .i64 (p : Int) ∧ t = .int .i64 (z : Int) ∧ wx = wc)
      case first =>
        rcases hpz.out with ⟨g1, g2, g3, g4, g5, g6⟩ | ⟨g1, g2, g3, g4, g5, g6⟩ | ⟨g1, g2, g3, g4, g5, g6⟩
        all_goals
          have G := Lib.hid (And.intro g5 g6)
          clear g5 g6
          go_wp2_with fail
          go_meet
          exact ⟨by rw [G.out.1], by rw [G.out.2], rfl⟩
      case rest =>
      obtain ⟨rfl, rfl, rfl⟩ := hcut
      go_upto_region 9 with (fail)
      go_cut [11] from 59 to 63 (fun s wx => s = .int .i64 (q : Int) ∧ wx = wc)
      case first =>
        rcases hq.out with ⟨g1, g2, g3, g4, g5⟩ | ⟨g1, g2, g3, g4, g5⟩ | ⟨g1, g2, g3, g4, g5⟩ | ⟨g1, g2, g3, g4, g5⟩
        all_goals
          have G := Lib.hid g5
          clear g5
          go_wp2_with fail
          go_meet
          exact ⟨by rw [G.out], rfl⟩
      case rest =>
      obtain ⟨rfl, rfl⟩ := hcut
      have wp := WalkArith.wf_i64 (show -9223372036854775808 ≤ (p : Int) ∧ (p : Int) ≤ 9223372036854775807 by omega)
      have wq := WalkArith.wf_i64 (show -9223372036854775808 ≤ (q : Int) ∧ (q : Int) ≤ 9223372036854775807 by omega)
      have wz := WalkArith.wf_i64 (show -9223372036854775808 ≤ (z : Int) ∧ (z : Int) ≤ 9223372036854775807 by omega)
      have H3 := Lib.hid (HI.out.distinct _ _ _ _ _ (p : Int) (z : Int) wc wp wz HA3.out)
      clear hpz hq
      go_wp2_with fail
      refine H3.out.mono ?_
      rintro e w3 ⟨⟨AD, cD, D, rfl, hP, hPr⟩, hb3⟩
      have hB3 := Lib.hid (HB3.out.trans (hb3.mono HB3.out.size))
      have HA4 := Lib.hid (HI.out.keep HA3.out hb3)
      have HPs := Lib.hid hP
      have HPr := Lib.hid hPr
      have hDl := hPr.1
      clear hb3 HA3 HB3 H3 hP hPr
      go_wp2_with fail
      go_loopw [13, 69] (fun s t wr => ∃ k : Nat, k ≤ D.length ∧ t = .int .i64 (k : Int) ∧ s = .int .i64 ((sumP D k : Nat) : Int) ∧ Hid (Below w.heap.size w wr) ∧ Hid (At B wr (.pointer (some pa)) n V 300) ∧ Hid (PrsR wr AD D)) (fun _ t _ => D.length - (intOf t).toNat)
      case atStart => exact ⟨0, Nat.zero_le _, rfl, rfl, hB3, HA4, HPr⟩
      case round =>
        clear hB3 HA4 HPr
        obtain ⟨k, hk, rfl, rfl, hB, hA, hPr⟩ := hrel
        by_cases hltk : k < D.length
        · have hltk1 : (k : Int) < ((D.length : Nat) : Int) := by omega
          obtain ⟨d, hd⟩ : ∃ d, D[k]? = some d := ⟨_, List.getElem?_eq_getElem hltk⟩
          obtain ⟨gd, od, rfl, hgd, c1, c2, c3⟩ := hPr.out.2 k d hd
          obtain ⟨y, hy⟩ : ∃ y, d.1 = y := ⟨_, rfl⟩
          obtain ⟨u, hu⟩ : ∃ u, d.2 = u := ⟨_, rfl⟩
          rw [hy] at c1
          rw [hu] at c2 c3
          obtain ⟨s0, hs0⟩ : ∃ s0, sumP D k = s0 := ⟨_, rfl⟩
          rw [hs0]
          have hmany := (HPs.out.many d (List.mem_of_getElem? hd)).1
          rw [cntR_part, hy, hu] at hmany
          have hdif := cntR_diff (V := V) (d := y) (p := p) (q := z) (n := n) hp
          have hsum := HPs.out.sums k d hd
          rw [lessR_part, hs0, hy] at hsum
          have hs1 := sumP_succ hd
          rw [hs0, hu] at hs1
          have hyr : 0 ≤ y ∧ y ≤ 300 := by
            have hm : 0 < (partL V (p : Int) (z : Int) n).countP (fun x => decide (x = y)) := by
              have h1 := HPs.out.many d (List.mem_of_getElem? hd)
              rw [hy] at h1
              rw [← h1.1]
              exact h1.2
            rw [List.countP_pos_iff] at hm
            obtain ⟨x, hx, hxy⟩ := hm
            rw [decide_eq_true_iff] at hxy
            obtain ⟨j, h1, _, _, h4⟩ := mem_partL.1 hx
            rw [← hxy, ← h4]
            exact HRw.out.2.2.2 j h1
          have hs300 : s0 ≤ 300 := by
            rw [hsum]
            exact Nat.le_trans (Pl.cnt_le _ _) hn
          have wy := WalkArith.wf_i64 (show -9223372036854775808 ≤ y ∧ y ≤ 9223372036854775807 by omega)
          obtain ⟨rz, hrz⟩ : ∃ rz, cntR V y 0 (z : Int) n = rz := ⟨_, rfl⟩
          obtain ⟨rp, hrp⟩ : ∃ rp, cntR V y 0 (p : Int) n = rp := ⟨_, rfl⟩
          have hrz3 : rz ≤ 300 := by rw [← hrz]; exact Nat.le_trans cntR_le_n hn
          rw [hrz, hrp, ← hmany] at hdif
          have ed : IntKind.i64.wrap ((rz : Int) - (rp : Int)) = (u : Int) := by rw [IntWalk.i64_in _ (by omega)]; omega
          obtain ⟨g9, hg9⟩ : ∃ g9, wr.heap.size = g9 := ⟨_, rfl⟩
          obtain ⟨wa, hwa⟩ : ∃ wa, wr.alloc (.cells #[.int .i64 y, .int .i64 (u : Int)] 50) = wa := ⟨_, rfl⟩
          have la : Lies wa g9 50 [.int .i64 y, .int .i64 (u : Int)] := by rw [← hwa, ← hg9]; exact lies_new wr _ _
          have hba : Below wr.heap.size wr wa := by rw [← hwa]; exact (Below.refl _ _).alloc (Nat.le_refl _) _
          have hza : g9 < wa.heap.size := la.lt
          have HBa := Lib.hid (hB.out.trans (hba.mono hB.out.size))
          have HAa := Lib.hid (HI.out.keep hA.out hba)
          have HPa := Lib.hid (hPr.out.below hba)
          have HV : Hid (∀ W, Below wa.heap.size wa W → (W.cell? ⟨g9, 0, none⟩ = some (.int .i64 y) ∧ W.cell? ⟨g9, 1, none⟩ = some (.int .i64 (u : Int))) ∧ Below wa.heap.size wa W) := Lib.hid fun W h => ⟨⟨(la.below h hza).cell 0, (la.below h hza).cell 1⟩, h⟩
          have HRz : Hid (∀ W, Below wa.heap.size wa W → Calls Try.prog 19 #[.pointer (some pa), .int .i64 y, .int .i64 (z : Int)] W fun e w' => e = .returned (.int .i64 (rz : Int)) ∧ Below wa.heap.size wa w') := Lib.hid fun W h => (HI.out.rank_ _ _ _ _ _ y (z : Int) W wy wz (HI.out.keep HAa.out h)).mono fun e w' hh => ⟨by rw [hh.1, hrz], h.trans (hh.2.mono h.size)⟩
          have HRp : Hid (∀ W, Below wa.heap.size wa W → Calls Try.prog 19 #[.pointer (some pa), .int .i64 y, .int .i64 (p : Int)] W fun e w' => e = .returned (.int .i64 (rp : Int)) ∧ Below wa.heap.size wa w') := Lib.hid fun W h => (HI.out.rank_ _ _ _ _ _ y (p : Int) W wy wp (HI.out.keep HAa.out h)).mono fun e w' hh => ⟨by rw [hh.1, hrp], h.trans (hh.2.mono h.size)⟩
          have HS1 := Lib.hid hs1
          have hbd0 := below_drew' (Below.refl wa.heap.size wa)
          have q1 : ((u : Int) != (u : Int)) = false := by simp
          clear hd hy hu hs0 hmany hsum hs1 la hba hza hB hA hPr hyr hdif hrz hrp
          go_upto_region 14 with (fail)
          go_cut [86] from 73 to 86 (fun s wx => s = .bool false ∧ Below wa.heap.size wa wx)
          case first =>
            go_region_held3 (fun w' => (w'.cell? ⟨g9, 0, none⟩ = some (.int .i64 y) ∧ w'.cell? ⟨g9, 1, none⟩ = some (.int .i64 (u : Int))) ∧ Below wa.heap.size wa w')
              ((first
                | exact HV.out _ hbd0
                | exact HV.out _ hC2
                | exact HV.out _ hC1))
              ((first
                | (go_at_call 19; (with_reducible refine (HRp.out _ hC1).mono ?_); rintro e w' ⟨rfl, hC2⟩)
                | (go_at_call 19; (with_reducible refine (HRz.out _ hbd0).mono ?_); rintro e w' ⟨rfl, hC1⟩)))
            go_wp2_with fail
            go_meet
            exact ⟨rfl, hC2⟩
          case rest =>
            obtain ⟨rfl, hCx⟩ := hcut
            have c9 := (HV.out _ hCx).1.2
            have HBc := Lib.hid (HBa.out.trans (hCx.mono HBa.out.size))
            have HAc := Lib.hid (HI.out.keep HAa.out hCx)
            have HPc := Lib.hid (HPa.out.below hCx)
            have ew : IntKind.i64.wrap ((s0 : Int) + (u : Int)) = (s0 : Int) + (u : Int) := IntWalk.i64_in _ (by omega)
            clear hCx HV HRz HRp HBa HAa HPa hbd0 q1 ed
            go_wp2_with fail
            go_roundw
            case rel => exact ⟨k + 1, by omega, by go_num, by rw [HS1.out]; go_num, HBc, HAc, HPc⟩
            case measure => simp [intOf]; omega
        · obtain rfl : k = D.length := by omega
          have hge2 : ¬ ((D.length : Nat) : Int) < ((D.length : Nat) : Int) := by omega
          obtain ⟨m, hm⟩ : ∃ m : Nat, p + m = z := ⟨z - p, by omega⟩
          have hsn : sumP D D.length = m := by
            rw [HPs.out.sum_all, partL_count hp hz]
            omega
          rw [hsn]
          have em : IntKind.i64.wrap ((z : Int) - (p : Int)) = (m : Int) := by rw [IntWalk.i64_in _ (by omega)]; omega
          have hl := lessR_parts (V := V) (x := (p : Int)) (y := (q : Int)) (z := (z : Int)) (c := x3) (n := n) (by omega) (by omega)
          obtain ⟨l1, hl1⟩ : ∃ l1, lessR V (p : Int) (z : Int) x3 n = l1 := ⟨_, rfl⟩
          obtain ⟨l2, hl2⟩ : ∃ l2, lessR V (p : Int) (q : Int) x3 n = l2 := ⟨_, rfl⟩
          obtain ⟨l3, hl3⟩ : ∃ l3, lessR V (q : Int) (z : Int) x3 n = l3 := ⟨_, rfl⟩
          rw [hl1, hl2, hl3] at hl
          have hln : l1 ≤ 300 := by rw [← hl1]; exact Nat.le_trans (Pl.cnt_le _ _) hn
          have el : IntKind.i64.wrap ((l2 : Int) + (l3 : Int)) = (l1 : Int) := by rw [IntWalk.i64_in _ (by omega)]; omega
          have q1 : ((l1 : Int) == (l1 : Int)) = true := by simp
          have q2 : ((m : Int) == (m : Int)) = true := by simp
          have HB20 := Lib.hid hB.out
          have HA20 := hA
          have H20 := Lib.hid (HI.out.below _ _ _ _ _ (p : Int) (z : Int) x3 wr wp wz HW.out.2.2.2 hA.out)
          rw [hl1] at H20
          have HL2 := Lib.hid hl2
          have HL3 := Lib.hid hl3
          clear hsn hA hB hPr hl hm hl1 hl2 hl3
          go_wp2_with fail
          refine H20.out.mono ?_
          rintro e w21 ⟨rfl, hb21⟩
          have HB21 := Lib.hid (HB20.out.trans (hb21.mono HB20.out.size))
          have HA21 := Lib.hid (HI.out.keep HA20.out hb21)
          have H21 := Lib.hid (HI.out.below _ _ _ _ _ (p : Int) (q : Int) x3 w21 wp wq HW.out.2.2.2 HA21.out)
          rw [HL2.out] at H21
          clear hb21 H20 HB20 HA20
          go_wp2_with fail
          refine H21.out.mono ?_
          rintro e w22 ⟨rfl, hb22⟩
          have HB22 := Lib.hid (HB21.out.trans (hb22.mono HB21.out.size))
          have HA22 := Lib.hid (HI.out.keep HA21.out hb22)
          have H22 := Lib.hid (HI.out.below _ _ _ _ _ (q : Int) (z : Int) x3 w22 wq wz HW.out.2.2.2 HA22.out)
          rw [HL3.out] at H22
          clear hb22 H21 HB21 HA21
          go_wp2_with fail
          refine H22.out.mono ?_
          rintro e w23 ⟨rfl, hb23⟩
          have HB23 := Lib.hid (HB22.out.trans (hb23.mono HB22.out.size))
          clear hb23 H22 HB22 HA22
          go_wp2_with fail
          go_ret
          exact ⟨rfl, HB23.out⟩
end
end Go.Proofs.Ytfhflmojcfnhnaa
