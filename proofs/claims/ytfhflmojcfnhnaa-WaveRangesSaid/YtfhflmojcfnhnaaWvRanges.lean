/- The walk of colophonlaw13.WaveRanges, over what package wave answers (WaveI). -/
import Derived.Test.YtfhflmojcfnhnaaWavI
import Derived.Test.YtfhflmojcfnhnaaWavNar
namespace Go.Proofs.Ytfhflmojcfnhnaa
open Go.RowKit
theorem cnt_litI (S : List Int) (p : Int → Bool) : ∀ m, m ≤ S.length → Pl.cnt (fun j => p (litI S j)) m = (S.take m).countP p
  | 0, _ => by rw [List.take_zero]; rfl
  | m + 1, h => by
    have ih := cnt_litI S p m (by omega)
    have hs : S[m]? = some (litI S m) := litI_some (by omega)
    rw [Pl.cnt_succ, ih, List.take_add_one, hs, List.countP_append]
    show _ = _ + ([litI S m] : List Int).countP p
    rw [List.countP_cons, List.countP_nil, Nat.zero_add]
theorem litI_part {V : Nat → Int} {n : Nat} {a b : Int} (h : RightW V n 300) : ∀ j, j < (partL V a b n).length → -9223372036854775808 ≤ litI (partL V a b n) j ∧ litI (partL V a b n) j ≤ 9223372036854775807 := fun j hj => by
  obtain ⟨i, h1, _, _, h4⟩ := mem_partL.1 (List.mem_of_getElem? (litI_some hj))
  have := h.2.2.2 i h1
  rw [h4] at this
  omega
theorem litI_sort {V : Nat → Int} {n : Nat} {a b : Int} (h : RightW V n 300) : ∀ j, j < (partL V a b n).length → -9223372036854775808 ≤ litI (sortL (partL V a b n)) j ∧ litI (sortL (partL V a b n)) j ≤ 9223372036854775807 := fun j hj => by
  obtain ⟨i, h1, _, _, h4⟩ := mem_partL.1 ((sortL_perm _).mem_iff.1 (List.mem_of_getElem? (litI_some (l := sortL (partL V a b n)) (by rw [sortL_length]; exact hj))))
  have := h.2.2.2 i h1
  rw [h4] at this
  omega
section
variable {At : Nat → World → Value → Nat → (Nat → Int) → Nat → Prop} {Vt : Nat → World → Value → Nat → (Nat → Bool) → Prop}

set_option maxRecDepth 100000 in
set_option maxHeartbeats 3200000 in
theorem wvRanges_walk (I : WaveI At Vt) (A : Option Addr) (n ca : Nat) (V : Nat → Int) (x0 x1 x2 x3 : Int) (w : World) (hx0 : (Lit.int .i64 x0).wf = true) (hx1 : (Lit.int .i64 x1).wf = true) (hx2 : (Lit.int .i64 x2).wf = true) (hx3 : (Lit.int .i64 x3).wf = true) (ho : ItsR w A n ca V) :
    Calls Try.prog 5 #[.slice A n ca, .agg #[.int .i64 x0, .int .i64 x1], .agg #[.int .i64 x2, .int .i64 x3]] w fun e w' => e = .returned (.bool true) ∧ Below w.heap.size w w' := by
  have HI := Lib.hid I
  obtain ⟨wb, hwb⟩ : ∃ wb, (w.alloc (.cells #[.int .i64 x0, .int .i64 x1] 36)).alloc (.cells #[.int .i64 x2, .int .i64 x3] 36) = wb := ⟨_, rfl⟩
  have hbx : Below w.heap.size w wb := by rw [← hwb]; exact ((Below.refl _ _).alloc (Nat.le_refl _) _).alloc (by rw [size_alloc]; omega) _
  have l1 : Lies wb w.heap.size 36 [.int .i64 x0, .int .i64 x1] := by rw [← hwb]; exact (lies_new w _ _).alloc _
  have l2 : Lies wb (w.heap.size + 1) 36 [.int .i64 x2, .int .i64 x3] := by
    have h := lies_new (w.alloc (.cells #[.int .i64 x0, .int .i64 x1] 36)) 36 [.int .i64 x2, .int .i64 x3]
    rw [size_alloc] at h
    rw [← hwb]
    exact h
  have HL := Lib.hid (And.intro l1 l2)
  have HO := Lib.hid (ho.below hbx)
  have HF := Lib.hid (wfirst_any I wb)
  have hsz : w.heap.size + 2 ≤ wb.heap.size := by rw [← hwb, size_alloc, size_alloc]; omega
  have HW := Lib.hid (And.intro hx0 ( And.intro hx1 ( And.intro hx2 ( hx3))))
  have hnm : n ≤ maxLen := by have := ho.2.1; have := ho.2.2.1; omega
  have hnl : n ≤ 9223372036854775807 := by unfold maxLen at hnm; omega
  have hix0 := i64_in hx0
  have hix1 := i64_in hx1
  have hix2 := i64_in hx2
  have hix3 := i64_in hx3
  clear l1 l2 I ho hx0 hx1 hx2 hx3
  by_cases hbig : 300 < n
  · have hdd : decide ((300 : Int) < (n : Int)) = true := decide_eq_true (by omega)
    clear hsz
    go_enter Try.func5, Try.ntmps5
    go_wp2_with fail
    refine HF.out.mono ?_
    rintro e w0 ⟨rfl, hb0⟩
    have hB0 := hbx.trans (hb0.mono hbx.size)
    go_wp2_with fail
    go_ret
    exact ⟨rfl, hB0⟩
  · have hdd : decide ((300 : Int) < (n : Int)) = false := decide_eq_false (by omega)
    have hn : n ≤ 300 := by omega
    have HSz := Lib.hid hsz
    obtain ⟨r, hr⟩ : ∃ r : Bool, r = true ↔ RightW V n 300 := ⟨@decide _ (Classical.propDecidable _), @decide_eq_true_iff _ (Classical.propDecidable _)⟩
    have HR := Lib.hid hr
    clear hr hsz
    go_enter Try.func5, Try.ntmps5
    go_wp2_with fail
    refine HF.out.mono ?_
    rintro e w0 ⟨rfl, hb0⟩
    have HB0 := hbx.trans (hb0.mono hbx.size)
    have HO0 := Lib.hid (HO.out.below hb0)
    have HL0 := Lib.hid (And.intro (HL.out.1.below hb0 (by have := HSz.out; omega)) (HL.out.2.below hb0 (by have := HSz.out; omega)))
    have hz0 : w.heap.size + 2 ≤ w0.heap.size := by have := hb0.size; have := HSz.out; omega
    have HRt := Lib.hid (wright_is A n ca V 300 w0 hnm (by decide) HO0.out.2.2.2 r HR.out)
    clear HF HO HL hbx hb0
    go_wp2_with fail
    refine HRt.out.mono ?_
    rintro e w1 ⟨rfl, hb1⟩
    have HB1 := HB0.trans (hb1.mono HB0.size)
    rcases r with _ | _
    · clear HRt
      go_wp2_with fail
      go_ret
      exact ⟨rfl, HB1⟩
    · have HO1 := Lib.hid (HO0.out.below hb1)
      have HL1 := Lib.hid (And.intro (HL0.out.1.below hb1 (by omega)) (HL0.out.2.below hb1 (by omega)))
      have hz1 : w.heap.size + 2 ≤ w1.heap.size := by have := hb1.size; omega
      have HMd := Lib.hid (wmade_any HI.out A n ca V 300 w1 (by omega) (by decide) HO1.out)
      have HRw : Hid (RightW V n 300) := Lib.hid (HR.out.1 rfl)
      clear HRt hb1 HO0 HB0 HR HL0 hz0
      go_wp2_with fail
      refine HMd.out.mono ?_
      rintro e w2 ⟨h1, _, hb2⟩
      obtain ⟨B, v, rfl, hAt⟩ := h1 HRw.out
      obtain ⟨pa, rfl⟩ := HI.out.ptr hAt
      have HB2 := HB1.trans (hb2.mono HB1.size)
      have HA2 : Hid (At B w2 (.pointer (some pa)) n V 300) := Lib.hid hAt
      have HO2 := Lib.hid (HO1.out.below hb2)
      have HL2 := Lib.hid (And.intro (HL1.out.1.below hb2 (by omega)) (HL1.out.2.below hb2 (by omega)))
      have hz2 : w.heap.size + 2 ≤ w2.heap.size := by have := hb2.size; omega
      clear h1 hAt hb2 HMd HO1 HB1 HL1 hz1
      have a2 : w2.cell? ⟨w.heap.size, 0, none⟩ = some (.int .i64 x0) := HL2.out.1.cell 0
      have b2 : w2.cell? ⟨w.heap.size, 1, none⟩ = some (.int .i64 x1) := HL2.out.1.cell 1
      have HPt := Lib.hid (refPart_any A n ca V x0 x1 w2 (by omega) HO2.out.2.2.2)
      have HBp := Lib.hid (litI_part (a := x0) (b := x1) HRw.out)
      have HBs := Lib.hid (litI_sort (a := x0) (b := x1) HRw.out)
      have hSn := partL_le V x0 x1 n
      obtain ⟨S, hS⟩ : ∃ S, partL V x0 x1 n = S := ⟨_, rfl⟩
      rw [hS] at HPt HBp HBs hSn
      have HS := Lib.hid hS
      clear hS
      go_wp2_with fail
      refine HPt.out.mono ?_
      rintro e w3 ⟨u3, rfl, hown, hb3⟩
      obtain ⟨AP, cP, rfl, hIP⟩ := ItsR.of_own hown (fun j hj => HBp.out j hj)
      have HB3 := HB2.trans (hb3.mono HB2.size)
      have HA3 := Lib.hid (HI.out.keep HA2.out hb3)
      have HP3 := Lib.hid hIP
      have HL3 := Lib.hid (And.intro (HL2.out.1.below hb3 (by omega)) (HL2.out.2.below hb3 (by omega)))
      have hz3 : w.heap.size + 2 ≤ w3.heap.size := by have := hb3.size; omega
      have htk : takeL (litI S) S.length = S := takeL_is (fun k hk => litI_some hk)
      have HSr := refSortedW_any AP S.length cP (litI S) w3 (by omega) hIP.2.2.2
      rw [htk] at HSr
      have HTk := Lib.hid htk
      have HSr := Lib.hid HSr
      clear hown hb3 hIP HPt HB2 HA2 HO2 HL2 hz2 a2 b2 htk
      go_wp2_with fail
      refine HSr.out.mono ?_
      rintro e w4 ⟨u4, rfl, hown, hb4⟩
      obtain ⟨AS, cS, rfl, hIS⟩ := ItsR.of_own hown (fun j hj => HBs.out j hj)
      have HB4 := Lib.hid (HB3.trans (hb4.mono HB3.size))
      have HA4 := Lib.hid (HI.out.keep HA3.out hb4)
      have HP4 := Lib.hid (HP3.out.below hb4)
      have HS4 := Lib.hid hIS
      have HL4 := Lib.hid (And.intro (HL3.out.1.below hb4 (by omega)) (HL3.out.2.below hb4 (by omega)))
      have hz4 : w.heap.size + 2 ≤ w4.heap.size := by have := hb4.size; omega
      have y0 : ∀ q, (w4.drewN q).cell? ⟨w.heap.size + 1, 0, none⟩ = some (.int .i64 x2) := fun q => by
        have h : w4.cell? ⟨w.heap.size + 1, 0, none⟩ = some (.int .i64 x2) := HL4.out.2.cell 0
        exact h
      have y1 : ∀ q, (w4.drewN q).cell? ⟨w.heap.size + 1, 1, none⟩ = some (.int .i64 x3) := fun q => by
        have h : w4.cell? ⟨w.heap.size + 1, 1, none⟩ = some (.int .i64 x3) := HL4.out.2.cell 1
        exact h
      obtain ⟨N, hN⟩ : ∃ N, S.length = N := ⟨_, rfl⟩
      rw [hN] at hSn HP4 HS4
      have HN := Lib.hid hN
      have hbd0 : ∀ q, Below w4.heap.size w4 (w4.drewN q) := fun q => below_drewN' (Below.refl _ _) q
      clear hown hb4 hIS HSr HB3 HA3 HP3 HL3 hz3 HBs HBp hix0 hix1 HSz
      go_upto_region 8 with (fail)
      clear hN
      go_cut [11, 12] from 40 to 43 (fun s t wx => s = .int .i64 x2 ∧ t = .int .i64 x3 ∧ Below w4.heap.size w4 wx)
      case first =>
        go_quiet (fail)
        go_wp2_with fail
        go_meet
        exact ⟨rfl, rfl, hbd0 _⟩
      case rest =>
      obtain ⟨rfl, rfl, hCx⟩ := hcut
      have HB5 := Lib.hid (HB4.out.trans (hCx.mono HB4.out.size))
      have HA5 := Lib.hid (HI.out.keep HA4.out hCx)
      have HP5 := Lib.hid (HP4.out.below hCx)
      have HS5 := Lib.hid (HS4.out.below hCx)
      have HL5 := Lib.hid (HL4.out.1.below hCx (by omega))
      have hz5 : w.heap.size < wc.heap.size := by have := hCx.size; omega
      clear hCx HB4 HA4 HP4 HS4 HL4 hz4 y0 y1 hbd0
      obtain ⟨r8, hr8⟩ : ∃ r8 : Bool, r8 = true ↔ (0 ≤ x2 ∧ x2 < (N : Int)) := ⟨decide (0 ≤ x2 ∧ x2 < (N : Int)), decide_eq_true_iff⟩
      have HR8 := Lib.hid hr8
      clear hr8
      go_upto_region 10 with (fail)
      go_cut [51] from 44 to 51 (fun s wx => s = .bool r8 ∧ wx = wc)
      case first =>
        by_cases h1 : 0 ≤ x2
        · have g1 : decide ((0 : Int) ≤ x2) = true := decide_eq_true h1
          by_cases h2 : x2 < (N : Int)
          · have g2 : decide (x2 < (N : Int)) = true := decide_eq_true h2
            obtain rfl : r8 = true := HR8.out.2 ⟨h1, h2⟩
            go_wp2_with fail
            go_meet
            exact ⟨rfl, rfl⟩
          · have g2 : decide (x2 < (N : Int)) = false := decide_eq_false h2
            obtain rfl : r8 = false := Bool.eq_false_iff.2 fun h => h2 (HR8.out.1 h).2
            go_wp2_with fail
            go_meet
            exact ⟨rfl, rfl⟩
        · have g1 : decide ((0 : Int) ≤ x2) = false := decide_eq_false h1
          obtain rfl : r8 = false := Bool.eq_false_iff.2 fun h => h1 (HR8.out.1 h).1
          go_wp2_with fail
          go_meet
          exact ⟨rfl, rfl⟩
      case rest =>
      obtain ⟨rfl, rfl⟩ := hcut
      go_upto_if 51 with (fail)
      go_cut [13] from 52 to 55 (fun s wx => s = .int .i64 (quantI V n x0 x1 x2) ∧ wx = wc)
      case first =>
        rcases r8 with _ | _
        · have hat : quantI V n x0 x1 x2 = -1 := quantI_out (by
            rw [HS.out, HN.out]
            by_cases h : x2 < 0
            · exact .inl h
            · exact .inr (Int.le_of_not_gt fun g => by
                have := HR8.out.2 ⟨by omega, g⟩
                cases this))
          have HAt1 := Lib.hid hat
          clear hat
          go_wp2_with fail
          go_meet
          exact ⟨by rw [HAt1.out], rfl⟩
        · obtain ⟨h1, h2⟩ := HR8.out.1 rfl
          obtain ⟨x, rfl⟩ : ∃ x : Nat, x2 = (x : Int) := ⟨x2.toNat, by omega⟩
          have hxn : x < N := by omega
          obtain ⟨ad, rfl, _, cx, _⟩ := HS5.out.2.2.2 x hxn
          have hat : quantI V n x0 x1 (x : Int) = litI (sortL S) x := by
            unfold quantI
            rw [if_pos h1, Int.toNat_natCast, HS.out, List.getD_eq_getElem?_getD, litI_some (by rw [sortL_length, HN.out]; exact hxn)]
            rfl
          obtain ⟨y, hy⟩ : ∃ y, litI (sortL S) x = y := ⟨_, rfl⟩
          rw [hy] at cx hat
          have HAt1 := Lib.hid hat
          clear hat hy
          go_wp2_with fail
          go_meet
          exact ⟨by rw [HAt1.out], rfl⟩
      case rest =>
      obtain ⟨rfl, rfl⟩ := hcut
      obtain ⟨y1, hy1⟩ : ∃ y1, quantI V n x0 x1 x2 = y1 := ⟨_, rfl⟩
      have HY1 := Lib.hid hy1
      rw [hy1]
      clear hy1 HR8 HS5
      go_wp2_with fail
      go_loop [14, 58] (fun t u => ∃ i m : Nat, i ≤ N ∧ m ≤ i ∧ u = .int .i64 (i : Int) ∧ t = .int .i64 (m : Int) ∧ Hid (m = Pl.cnt (fun j => decide (litI S j < x3)) i)) (fun _ u => N - (intOf u).toNat)
      case atStart => exact ⟨0, 0, Nat.zero_le _, Nat.le_refl _, rfl, rfl, Lib.hid rfl⟩
      case round =>
        obtain ⟨i, m, hi, hmi, rfl, rfl, hm⟩ := hrel
        by_cases hlt : i < N
        · have hlti : (i : Int) < (N : Int) := by omega
          obtain ⟨ad, rfl, _, cx, _⟩ := HP5.out.2.2.2 i hlt
          by_cases h1 : litI S i < x3
          · have HM2 : Hid (m + 1 = Pl.cnt (fun j => decide (litI S j < x3)) (i + 1)) := Lib.hid (by rw [Pl.cnt_succ, if_pos (decide_eq_true h1), ← hm.out])
            have g1 : decide (litI S i < x3) = true := decide_eq_true h1
            generalize litI S i = x at cx g1 h1
            clear hm
            go_wp2_with fail
            go_round
            case rel => exact ⟨i + 1, m + 1, by omega, by omega, by go_num, by go_num, HM2⟩
            case measure => simp [intOf]; omega
          · have HM2 : Hid (m = Pl.cnt (fun j => decide (litI S j < x3)) (i + 1)) := Lib.hid (by rw [Pl.cnt_succ, if_neg (by rw [decide_eq_true_iff]; exact h1), ← hm.out, Nat.add_zero])
            have g1 : decide (litI S i < x3) = false := decide_eq_false h1
            generalize litI S i = x at cx g1 h1
            clear hm
            go_wp2_with fail
            go_round
            case rel => exact ⟨i + 1, m, by omega, by omega, by go_num, rfl, HM2⟩
            case measure => simp [intOf]; omega
        · obtain rfl : i = N := by omega
          have hge : ¬ (i : Int) < (i : Int) := by omega
          have hml : m = lessR V x0 x1 x3 n := by
            rw [hm.out, ← HN.out, cnt_litI S (fun x => decide (x < x3)) S.length (Nat.le_refl _), List.take_length, ← lessR_part, HS.out]
          have HM := Lib.hid hml
          have a5 : wc.cell? ⟨w.heap.size, 0, none⟩ = some (.int .i64 x0) := HL5.out.cell 0
          have b5 : wc.cell? ⟨w.heap.size, 1, none⟩ = some (.int .i64 x1) := HL5.out.cell 1
          have H1 := Lib.hid (HI.out.quantile _ _ _ _ _ x0 x1 x2 wc HW.out.1 HW.out.2.1 HW.out.2.2.1 HA5.out)
          rw [HY1.out] at H1
          have q1 : (y1 == y1) = true := by simp
          have q2 : ((m : Int) == (m : Int)) = true := by simp
          clear hm hml
          go_wp2_with fail
          refine H1.out.mono ?_
          rintro e w6 ⟨rfl, hb6⟩
          have HB6 := Lib.hid (HB5.out.trans (hb6.mono HB5.out.size))
          have HA6 := Lib.hid (HI.out.keep HA5.out hb6)
          have HP6 := Lib.hid (HP5.out.below hb6)
          have HL6 := Lib.hid (HL5.out.below hb6 hz5)
          have hz6 : w.heap.size < w6.heap.size := by have := hb6.size; omega
          have a6 : w6.cell? ⟨w.heap.size, 0, none⟩ = some (.int .i64 x0) := HL6.out.cell 0
          have b6 : w6.cell? ⟨w.heap.size, 1, none⟩ = some (.int .i64 x1) := HL6.out.cell 1
          have H2 := Lib.hid (HI.out.below _ _ _ _ _ x0 x1 x3 w6 HW.out.1 HW.out.2.1 HW.out.2.2.2 HA6.out)
          rw [← HM.out] at H2
          clear hb6 H1 HB5 HA5 HP5 HL5 hz5 a5 b5
          go_wp2_with fail
          refine H2.out.mono ?_
          rintro e w7 ⟨rfl, hb7⟩
          have HB7 := Lib.hid (HB6.out.trans (hb7.mono HB6.out.size))
          have HA7 := Lib.hid (HI.out.keep HA6.out hb7)
          have HP7 := Lib.hid (HP6.out.below hb7)
          have HL7 := Lib.hid (HL6.out.below hb7 hz6)
          have a7 : w7.cell? ⟨w.heap.size, 0, none⟩ = some (.int .i64 x0) := HL7.out.cell 0
          have b7 : w7.cell? ⟨w.heap.size, 1, none⟩ = some (.int .i64 x1) := HL7.out.cell 1
          have H3 := Lib.hid (HI.out.distinct _ _ _ _ _ x0 x1 w7 HW.out.1 HW.out.2.1 HA7.out)
          clear hb7 H2 HB6 HA6 HP6 HL6 hz6 a6 b6
          go_wp2_with fail
          refine H3.out.mono ?_
          rintro e w8 ⟨⟨AD, cD, D, rfl, hPd, hPr⟩, hb8⟩
          have HB8 := Lib.hid (HB7.out.trans (hb8.mono HB7.out.size))
          have HP8 := Lib.hid (HP7.out.below hb8)
          have HPd := Lib.hid hPd
          have HPr := Lib.hid hPr
          have H4 := refPairs_any AP i cP (litI S) w8 (by omega) HP8.out.2.2.2
          have htk : takeL (litI S) i = S := by
            have h := takeL_is (V := litI S) (l := S) (fun k hk => litI_some hk)
            rw [HN.out] at h
            exact h
          rw [htk] at H4
          have H4 := Lib.hid H4
          clear hb8 H3 HB7 HA7 HP7 HL7 a7 b7 hPd hPr htk
          go_wp2_with fail
          refine H4.out.mono ?_
          rintro e w9 ⟨u9, E, rfl, hPe, hEl, hown, hb9⟩
          have hDE : D = E := HPd.out.one (by rw [HS.out]; exact hPe)
          subst hDE
          obtain ⟨AE, cE, rfl, hPr2⟩ := PrsR.of_own hown (by omega) (fun d hd => by
            rw [(hPe.many d hd).1]
            have := List.countP_le_length (p := fun x => decide (x = d.1)) (l := S)
            rw [HN.out] at this
            omega)
          have HB9 := Lib.hid (HB8.out.trans (hb9.mono HB8.out.size))
          have H5 := Lib.hid (refSameP_any AD AE cD cE D w9 (HPr.out.below hb9) hPr2)
          clear hPe hEl hown hb9 H4 HP8 hPr2 HB8
          go_wp2_with fail
          refine H5.out.mono ?_
          rintro e w10 ⟨rfl, hb10⟩
          have HB10 := Lib.hid (HB9.out.trans (hb10.mono HB9.out.size))
          clear hb10 H5 HB9
          go_wp2_with fail
          go_ret
          exact ⟨rfl, HB10.out⟩
end
end Go.Proofs.Ytfhflmojcfnhnaa
