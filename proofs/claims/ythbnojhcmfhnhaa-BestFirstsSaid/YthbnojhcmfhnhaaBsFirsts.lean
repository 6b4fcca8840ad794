/- The walk of colophonlaw18.BestFirsts, over what packages wave and best answer (MatI, BestI). -/
import Derived.Test.YthbnojhcmfhnhaaBsTops
namespace Go.Proofs.Ythbnojhcmfhnhaa
open Go.RowKit
theorem u8_in18 {a : Int} (h : (Lit.int .u8 a).wf = true) : 0 ≤ a ∧ a ≤ 255 := by
  simp [Lit.wf, IntKind.min, IntKind.max, IntKind.signed, IntKind.bits] at h
  omega
/-- the first of the best is no worse than any. -/
theorem BestOf.head {l : List Int} {R D : List (Int × Nat)} {b d : Int × Nat} (h : BestOf l R) (hD : PairsOf l D) (hd : d ∈ D) (hb : R[0]? = some b) : d = b ∨ Bet b d := by
  have hm : d ∈ R := (h.mem d).2 ((hD.mem d).1 hd)
  rcases R with _ | ⟨c, R⟩
  · cases hm
  · obtain rfl : c = b := Option.some.inj hb
    rcases List.mem_cons.1 hm with e | e
    · exact .inl e
    · have hr := h.rise
      rw [List.pairwise_cons] at hr
      exact .inr (hr.1 d e)
section
variable {At : Nat → World → Value → Nat → (Nat → Int) → Nat → Prop} {St : Nat → Nat → (Nat → Prop) → World → Value → List Int → List (Int × Nat) → Prop}

set_option maxRecDepth 100000 in
set_option maxHeartbeats 3200000 in
theorem bsFirsts_walk (I : MatI At) (J : BestI At St) (A : Option Addr) (n ca : Nat) (V : Nat → Int) (x0 x1 z0 z1 : Int) (w : World) (hx0 : (Lit.int .i64 x0).wf = true) (hx1 : (Lit.int .i64 x1).wf = true) (hz0 : (Lit.int .u8 z0).wf = true) (hz1 : (Lit.int .u8 z1).wf = true) (ho : ItsR w A n ca V) :
    Calls Try.prog 5 #[.slice A n ca, .agg #[.int .i64 x0, .int .i64 x1], .agg #[.int .u8 z0, .int .u8 z1]] w fun e w' => e = .returned (.bool true) ∧ Below w.heap.size w w' := by
  have HI := Lib.hid I
  have HJ := Lib.hid J
  have hbx1 : Below w.heap.size w (w.alloc (.cells #[.int .i64 x0, .int .i64 x1] 23)) := (Below.refl _ _).alloc (Nat.le_refl _) _
  have hsz1 := size_alloc w (.cells #[.int .i64 x0, .int .i64 x1] 23)
  have hbx2 : Below (w.alloc (.cells #[.int .i64 x0, .int .i64 x1] 23)).heap.size (w.alloc (.cells #[.int .i64 x0, .int .i64 x1] 23)) ((w.alloc (.cells #[.int .i64 x0, .int .i64 x1] 23)).alloc (.cells #[.int .u8 z0, .int .u8 z1] 46)) := (Below.refl _ _).alloc (Nat.le_refl _) _
  have hsz2 := size_alloc (w.alloc (.cells #[.int .i64 x0, .int .i64 x1] 23)) (.cells #[.int .u8 z0, .int .u8 z1] 46)
  have hl1 := (lies_new w 23 [.int .i64 x0, .int .i64 x1]).below hbx2 (by rw [hsz1]; omega)
  have hl2 := lies_new (w.alloc (.cells #[.int .i64 x0, .int .i64 x1] 23)) 46 [.int .u8 z0, .int .u8 z1]
  rw [hsz1] at hl2 hsz2
  have hbx := hbx1.trans (hbx2.mono hbx1.size)
  have HO := Lib.hid ((ho.below hbx1).below hbx2)
  have HF := Lib.hid (bfirst18_any I J ((w.alloc (.cells #[.int .i64 x0, .int .i64 x1] 23)).alloc (.cells #[.int .u8 z0, .int .u8 z1] 46)))
  have HL := Lib.hid hl1
  have HM := Lib.hid hl2
  have HW := Lib.hid (And.intro hx0 hx1)
  have hnm : n ≤ maxLen := by have := ho.2.1; have := ho.2.2.1; omega
  have hnl : n ≤ 9223372036854775807 := by unfold maxLen at hnm; omega
  have hsz := hsz2
  have hkb : (0 ≤ z0 ∧ z0 ≤ 255) ∧ 0 ≤ z1 ∧ z1 ≤ 255 := ⟨u8_in18 hz0, u8_in18 hz1⟩
  clear I J ho hx0 hx1 hz0 hz1 hl1 hl2 hbx1 hbx2 hsz1 hsz2
  by_cases hbig : 200 < n
  · have hdd : decide ((200 : Int) < (n : Int)) = true := decide_eq_true (by omega)
    clear hsz hkb
    go_enter Try.func5, Try.ntmps5
    go_wp2_with fail
    refine HF.out.mono ?_
    rintro e w0 ⟨rfl, hb0⟩
    have hB0 := hbx.trans (hb0.mono hbx.size)
    go_wp2_with fail
    go_ret
    exact ⟨rfl, hB0⟩
  · have hdd : decide ((200 : Int) < (n : Int)) = false := decide_eq_false (by omega)
    have hn : n ≤ 200 := by omega
    have HSz := Lib.hid hsz
    have HKb := Lib.hid hkb
    obtain ⟨r, hr⟩ : ∃ r : Bool, r = true ↔ RightS V n 301 := ⟨@decide _ (Classical.propDecidable _), @decide_eq_true_iff _ (Classical.propDecidable _)⟩
    have HR := Lib.hid hr
    clear hsz hr hkb
    go_enter Try.func5, Try.ntmps5
    go_wp2_with fail
    refine HF.out.mono ?_
    rintro e w0 ⟨rfl, hb0⟩
    have HB0 := Lib.hid (hbx.trans (hb0.mono hbx.size))
    have HO0 := Lib.hid (HO.out.below hb0)
    have HL0 := Lib.hid (HL.out.below hb0 (by rw [HSz.out]; omega))
    have HM0 := Lib.hid (HM.out.below hb0 (by rw [HSz.out]; omega))
    have hz0 : w.heap.size + 1 < w0.heap.size := by have := hb0.size; have := HSz.out; omega
    have HRt := Lib.hid (refRightS_is A n ca V 301 _ w0 hnm HO0.out.2.2.2 r HR.out)
    clear HF hb0 HO HL HM hbx
    go_wp2_with fail
    refine HRt.out.mono ?_
    rintro e w1 ⟨rfl, rfl⟩
    rcases r with _ | _
    · clear HRt
      go_wp2_with fail
      go_ret
      exact ⟨rfl, HB0.out⟩
    · have HRw : Hid (RightW V n 300) := Lib.hid (rightW_is.2 ⟨⟨by decide, by decide⟩, HR.out.1 rfl⟩)
      have HMd := Lib.hid (HI.out.new A n ca V 300 w0 (by omega) (by decide) HO0.out)
      clear HRt HR
      go_wp2_with fail
      refine HMd.out.mono ?_
      rintro e w2 ⟨h1, _, hb2⟩
      obtain ⟨v, rfl, hAt⟩ := h1 HRw.out
      obtain ⟨pa, rfl⟩ := HI.out.ptr hAt
      have HB2 := Lib.hid (HB0.out.trans (hb2.mono HB0.out.size))
      have HA2 : Hid (At w0.heap.size w2 (.pointer (some pa)) n V 300) := Lib.hid hAt
      have HO2 := Lib.hid (HO0.out.below hb2)
      have HL2 := Lib.hid (HL0.out.below hb2 (by omega))
      have HM2 := Lib.hid (HM0.out.below hb2 hz0)
      have hz2 : w.heap.size + 1 < w2.heap.size := by have := hb2.size; omega
      have c0 : w2.cell? ⟨w.heap.size, 0, none⟩ = some (.int .i64 x0) := HL2.out.cell 0
      have c1 : w2.cell? ⟨w.heap.size, 1, none⟩ = some (.int .i64 x1) := HL2.out.cell 1
      have d0 : w2.cell? ⟨w.heap.size + 1, 0, none⟩ = some (.int .u8 z0) := HM2.out.cell 0
      have d1 : w2.cell? ⟨w.heap.size + 1, 1, none⟩ = some (.int .u8 z1) := HM2.out.cell 1
      obtain ⟨mn, hmn⟩ : ∃ mn : Int, (if z1 < z0 then z1 else z0) = mn := ⟨_, rfl⟩
      obtain ⟨mx, hmx⟩ : ∃ mx : Int, (if z0 < z1 then z1 else z0) = mx := ⟨_, rfl⟩
      obtain ⟨jn, hjn⟩ : ∃ jn : Nat, (jn : Int) = 1 + mn := ⟨(1 + mn).toNat, by
        have h := HKb.out
        rw [← hmn]
        split <;> omega⟩
      obtain ⟨kn, hkn⟩ : ∃ kn : Nat, (kn : Int) = 1 + mx := ⟨(1 + mx).toNat, by
        have h := HKb.out
        rw [← hmx]
        split <;> omega⟩
      have hjk : 1 ≤ jn ∧ jn ≤ kn ∧ kn ≤ 256 := by
        have h := HKb.out
        have h1 : 0 ≤ mn ∧ mn ≤ mx ∧ mx ≤ 255 := by
          rw [← hmn, ← hmx]
          split <;> split <;> omega
        omega
      have e1 : IntKind.i64.wrap mn = mn := IntWalk.i64_in _ (by omega)
      have e2 : IntKind.i64.wrap mx = mx := IntWalk.i64_in _ (by omega)
      have e3 : IntKind.i64.wrap (1 + mn) = (jn : Int) := by rw [IntWalk.i64_in _ (by omega)]; exact hjn.symm
      have e4 : IntKind.i64.wrap (1 + mx) = (kn : Int) := by rw [IntWalk.i64_in _ (by omega)]; exact hkn.symm
      clear hjn hkn
      obtain ⟨l, hl⟩ : ∃ l, partL V x0 x1 n = l := ⟨_, rfl⟩
      have HTop : Hid (∀ (t : Nat) W, t ≤ 256 → Below w2.heap.size w2 W → Calls Try.prog 13 #[.pointer (some pa), .int .i64 x0, .int .i64 x1, .int .i64 (t : Int)] W fun e w' => (∃ (A9 : Option Addr) (c9 tl : Nat) (T : List (Int × Nat)), e = .returned (.slice A9 tl c9) ∧ Hid (T.length = tl ∧ tl ≤ c9 ∧ c9 ≤ maxLen ∧ ∃ R, BestOf l R ∧ T = R.take t) ∧ Hid (PrsR w' A9 T)) ∧ Below W.heap.size W w' ∧ Below w2.heap.size w2 w') := Lib.hid fun t W ht h => (HJ.out.top _ _ _ _ _ x0 x1 (t : Int) W HW.out.1 HW.out.2 (WalkArith.wf_i64 (by omega)) (HI.out.keep HA2.out h)).mono fun e w' hh => by
        obtain ⟨⟨A9, c9, T', e1, hc, ⟨R', hR', hT'⟩, hP'⟩, hb'⟩ := hh
        rw [hl] at hR'
        exact ⟨⟨A9, c9, T'.length, T', e1, Lib.hid ⟨rfl, hc.1, hc.2, R', hR', hT'⟩, Lib.hid hP'⟩, hb', h.trans (hb'.mono h.size)⟩
      have HTJ := Lib.hid fun W h => HTop.out jn W (by omega) h
      have HTK := Lib.hid fun W h => HTop.out kn W (by omega) h
      have HLq := Lib.hid hl
      have HV : Hid (∀ W, Below w2.heap.size w2 W → (W.cell? ⟨w.heap.size, 0, none⟩ = some (.int .i64 x0) ∧ W.cell? ⟨w.heap.size, 1, none⟩ = some (.int .i64 x1)) ∧ Below w2.heap.size w2 W) := Lib.hid fun W h => ⟨⟨(HL2.out.below h (by omega)).cell 0, (HL2.out.below h (by omega)).cell 1⟩, h⟩
      have hbd0 := below_drew' (Below.refl w2.heap.size w2)
      clear hl HTop
      go_upto_region 8 with (fail)
      clear c0 c1 d0 d1 hmn hmx e1 e2 e3 e4 HM2
      go_cut [11, 12] (fun s t wx => ∃ (A1 : Option Addr) (c1 t1 : Nat) (T1 : List (Int × Nat)) (A2 : Option Addr) (c2 t2 : Nat) (T2 : List (Int × Nat)), s = .slice A1 t1 c1 ∧ t = .slice A2 t2 c2 ∧ Hid (T1.length = t1 ∧ t1 ≤ c1 ∧ c1 ≤ maxLen ∧ ∃ R, BestOf l R ∧ T1 = R.take jn) ∧ Hid (T2.length = t2 ∧ t2 ≤ c2 ∧ c2 ≤ maxLen ∧ ∃ R, BestOf l R ∧ T2 = R.take kn) ∧ Hid (PrsR wx A1 T1) ∧ Hid (PrsR wx A2 T2) ∧ Below w2.heap.size w2 wx)
      case first =>
        go_region_held3 (fun w' => (w'.cell? ⟨w.heap.size, 0, none⟩ = some (.int .i64 x0) ∧ w'.cell? ⟨w.heap.size, 1, none⟩ = some (.int .i64 x1)) ∧ Below w2.heap.size w2 w')
          ((first
            | exact HV.out _ hbd0
            | exact HV.out _ hC2
            | exact HV.out _ hC1))
          ((first
            | (go_at_call 13; (with_reducible refine (HTK.out _ hC1).mono ?_); rintro e w' ⟨⟨B2, k2, s2, S2, rfl, hF2, hP2⟩, hB2, hC2⟩)
            | (go_at_call 13; (with_reducible refine (HTJ.out _ hbd0).mono ?_); rintro e w' ⟨⟨B1, k1, s1, S1, rfl, hF1, hP1⟩, hB1, hC1⟩)))
        all_goals first
          | (go_meet; exact ⟨B1, k1, s1, S1, B2, k2, s2, S2, rfl, rfl, hF1, hF2, Lib.hid (hP1.out.below hB2), hP2, hC2⟩)
          | (go_wp2_with fail; go_meet; exact ⟨B1, k1, s1, S1, B2, k2, s2, S2, rfl, rfl, hF1, hF2, Lib.hid (hP1.out.below hB2), hP2, hC2⟩)
      case rest =>
        obtain ⟨A1, c1, t1, T1, A3, c2, t2, T2, rfl, rfl, hF1, hF2, hP1, hP2, hCx⟩ := hcut
        have HB3 := Lib.hid (HB2.out.trans (hCx.mono HB2.out.size))
        have HA3 := Lib.hid (HI.out.keep HA2.out hCx)
        have HL3 := Lib.hid (HL2.out.below hCx (by omega))
        have hz3 : w.heap.size + 1 < wc.heap.size := by have := hCx.size; omega
        obtain ⟨hT1l, hT1c, hc1m, R, hR, hT1⟩ := hF1.out
        obtain ⟨hT2l, hT2c, hc2m, R', hR', hT2⟩ := hF2.out
        obtain rfl := hR'.one hR
        have hlt1 : t1 = min jn R'.length := by rw [← hT1l, hT1, List.length_take]
        have hlt2 : t2 = min kn R'.length := by rw [← hT2l, hT2, List.length_take]
        have hif1 : (if (t2 : Int) < (jn : Int) then (t2 : Int) else (jn : Int)) = (t1 : Int) := by split <;> omega
        have hif2 : (if t2 < jn then (t2 : Int) else (jn : Int)) = (t1 : Int) := by split <;> omega
        have h12 : t1 ≤ t2 := by omega
        have k1 : (0 : Int) ≤ (t1 : Int) := by omega
        have k2 : (t1 : Int) ≤ (c2 : Int) := by omega
        have k3 : t1 ≤ c2 := by omega
        have hc63 : c2 ≤ 9223372036854775807 := by unfold maxLen at hc2m; omega
        have hTT : T2.take t1 = T1 := by
          rw [hT2, hT1, List.take_take, ← hT1l, hT1, List.length_take]
          apply List.ext_getElem?
          intro i
          rw [List.getElem?_take, List.getElem?_take]
          by_cases h1 : i < jn
          · by_cases h2 : i < R'.length
            · rw [if_pos (by omega), if_pos h1]
            · rw [List.getElem?_eq_none (by omega)]
              simp
          · rw [if_neg (by omega), if_neg h1]
        have HSm := refSameP_any A1 A3 c1 c2 T1 wc hP1.out (by rw [← hTT]; exact hP2.out.take _)
        rw [hT1l] at HSm
        have HSm := Lib.hid HSm
        have q1 : ((t1 : Int) != (t1 : Int)) = false := by simp
        have HBs : Hid (BestOf l R' ∧ T2 = R'.take kn) := Lib.hid ⟨hR, hT2⟩
        have HT2 := Lib.hid hT2l
        clear hF1 hF2 hT1l hT1 hT2 hR hR' hTT hP1 hlt1 hlt2 hT1c hc1m HA2 HB2 HL2 hz2 HTJ HTK HV hbd0 hCx hT2l
        go_wp2_with fail
        refine HSm.out.mono ?_
        rintro e w4 ⟨rfl, hb4⟩
        have HB4 := Lib.hid (HB3.out.trans (hb4.mono HB3.out.size))
        have HP4 := Lib.hid (hP2.out.below hb4)
        have HL4 := Lib.hid (HL3.out.below hb4 (by omega))
        have c0 : w4.cell? ⟨w.heap.size, 0, none⟩ = some (.int .i64 x0) := HL4.out.cell 0
        have c1 : w4.cell? ⟨w.heap.size, 1, none⟩ = some (.int .i64 x1) := HL4.out.cell 1
        have HD := HI.out.distinct _ _ _ _ _ x0 x1 w4 HW.out.1 HW.out.2 (HI.out.keep HA3.out hb4)
        rw [HLq.out] at HD
        have HD := Lib.hid HD
        clear hb4 hP2 HB3 HA3 HL3 hz3 HSm q1 hif1 hif2
        go_wp2_with fail
        refine HD.out.mono ?_
        rintro e w5 ⟨⟨AD, cD, D, rfl, hPD, hPr⟩, hb5⟩
        have HB5 := Lib.hid (HB4.out.trans (hb5.mono HB4.out.size))
        have HP5 := Lib.hid (HP4.out.below hb5)
        have HD5 := Lib.hid hPr
        have HPD := Lib.hid hPD
        obtain ⟨nd, hnd⟩ : ∃ nd, D.length = nd := ⟨_, rfl⟩
        have HNd := Lib.hid hnd
        rw [hnd]
        have hnd4 : nd ≤ 4194304 := by have := hPr.1; omega
        clear hb5 HP4 HB4 HD c0 c1 HL4 hPr hPD hnd
        go_wp2_with fail
        go_loopw [81] (fun v wr => ∃ i : Nat, i ≤ nd ∧ v = .int .i64 (i : Int) ∧ Hid (Below w.heap.size w wr) ∧ Hid (PrsR wr AD D) ∧ Hid (PrsR wr A3 T2)) (fun v _ => nd - (intOf v).toNat)
        case atStart => exact ⟨0, Nat.zero_le _, rfl, HB5, HD5, HP5⟩
        case round =>
          clear HB5 HD5 HP5
          obtain ⟨i, hi, rfl, hB, hD, hP⟩ := hrel
          by_cases hlt : i < nd
          · have hlti : (i : Int) < (nd : Int) := by omega
            obtain ⟨d, hd⟩ : ∃ d, D[i]? = some d := ⟨_, List.getElem?_eq_getElem (by rw [HNd.out]; exact hlt)⟩
            have hmem : d ∈ D := List.mem_of_getElem? hd
            have hdR : d ∈ R' := (HBs.out.1.mem d).2 ((HPD.out.mem d).1 hmem)
            obtain ⟨b, hb0, hb2⟩ : ∃ b, R'[0]? = some b ∧ T2[0]? = some b := by
              have h0 : 0 < R'.length := List.length_pos_of_mem hdR
              refine ⟨R'[0], List.getElem?_eq_getElem h0, ?_⟩
              rw [HBs.out.2, List.getElem?_take_of_lt (by omega)]
              exact List.getElem?_eq_getElem h0
            have hbd := HBs.out.1.head HPD.out hmem hb0
            have ht2 : 0 < t2 := by
              rcases Nat.eq_zero_or_pos T2.length with e | e
              · rw [List.length_eq_zero_iff.1 e] at hb2
                cases hb2
              · have := HT2.out
                omega
            obtain ⟨g, o, eA, _, cg1, cg2, _⟩ := hD.out.2 i d hd
            subst eA
            obtain ⟨wa, hwa⟩ : ∃ wa, wr.alloc (.cells #[.int .i64 d.1, .int .i64 ((d.2 : Nat) : Int)] 39) = wa := ⟨_, rfl⟩
            obtain ⟨g9, hg9⟩ : ∃ g9, wr.heap.size = g9 := ⟨_, rfl⟩
            have la : Lies wa g9 39 [.int .i64 d.1, .int .i64 ((d.2 : Nat) : Int)] := by rw [← hwa, ← hg9]; exact lies_new wr _ _
            have hba : Below wr.heap.size wr wa := by rw [← hwa]; exact (Below.refl _ _).alloc (Nat.le_refl _) _
            have HBa := Lib.hid (hB.out.trans (hba.mono hB.out.size))
            have HDa := Lib.hid (hD.out.below hba)
            have HPa := Lib.hid (hP.out.below hba)
            obtain ⟨g2, o2, eA2, _, cb1, cb2, _⟩ := HPa.out.2 0 b hb2
            subst eA2
            have l1 : wa.cell? ⟨g9, 0, none⟩ = some (.int .i64 d.1) := la.cell 0
            have l2 : wa.cell? ⟨g9, 1, none⟩ = some (.int .i64 ((d.2 : Nat) : Int)) := la.cell 1
            obtain ⟨x, y⟩ := d
            obtain ⟨bx, bz⟩ := b
            replace cg1 : wr.cell? ⟨g, o + i * 2, none⟩ = some (.int .i64 x) := cg1
            replace cg2 : wr.cell? ⟨g, o + i * 2 + 1, none⟩ = some (.int .i64 (y : Int)) := cg2
            replace cb1 : wa.cell? ⟨g2, o2, none⟩ = some (.int .i64 bx) := cb1
            replace cb2 : wa.cell? ⟨g2, o2 + 1, none⟩ = some (.int .i64 (bz : Int)) := cb2
            replace l1 : wa.cell? ⟨g9, 0, none⟩ = some (.int .i64 x) := l1
            replace l2 : wa.cell? ⟨g9, 1, none⟩ = some (.int .i64 (y : Int)) := l2
            replace hwa : wr.alloc (.cells #[.int .i64 x, .int .i64 (y : Int)] 39) = wa := hwa
            have hrl : ∀ q, Hid (Below w.heap.size w (wa.drewN q)) ∧ Hid (PrsR (wa.drewN q) (some ⟨g, o, none⟩) D) ∧ Hid (PrsR (wa.drewN q) (some ⟨g2, o2, none⟩) T2) := fun q => ⟨Lib.hid (below_drewN' HBa.out q), Lib.hid (HDa.out.below (below_drewN' (Below.refl _ _) q)), Lib.hid (HPa.out.below (below_drewN' (Below.refl _ _) q))⟩
            have HRl := Lib.hid hrl
            have ht2i : (0 : Int) < (t2 : Int) := by omega
            have hfacts : decide ((bz : Int) < (y : Int)) = false ∧ decide (bz < y) = false ∧ ((((y : Int) == (bz : Int)) = true ∧ (y == bz) = true ∧ decide (x < bx) = false) ∨ (((y : Int) == (bz : Int)) = false ∧ (y == bz) = false)) := by
              have h : (x = bx ∧ y = bz) ∨ y < bz ∨ (y = bz ∧ bx < x) := by
                rcases hbd with e | e
                · cases e
                  exact .inl ⟨rfl, rfl⟩
                · exact .inr e
              refine ⟨decide_eq_false (by omega), decide_eq_false (by omega), ?_⟩
              by_cases e : y = bz
              · exact .inl ⟨by rw [beq_iff_eq]; omega, by rw [beq_iff_eq]; exact e, decide_eq_false (by omega)⟩
              · exact .inr ⟨by rw [beq_eq_false_iff_ne]; omega, by rw [beq_eq_false_iff_ne]; exact e⟩
            clear hd hmem hdR hb0 hb2 hbd la hba hB hD hP HBa HDa HPa hrl
            obtain ⟨f1, f2, f3⟩ := hfacts
            go_upto_region 14 with (fail)
            clear hwa hg9 cg1 cg2
            rcases f3 with ⟨f3, f4, f5⟩ | ⟨f3, f4⟩
            all_goals
              go_wp2_with fail
              go_quiet (fail)
              go_wp2_with fail
              go_roundw
              case rel => exact ⟨i + 1, by omega, by go_num, (HRl.out _).1, (HRl.out _).2.1, (HRl.out _).2.2⟩
              case measure => simp [intOf]; omega
          · have hge : ¬ (i : Int) < (nd : Int) := by omega
            go_wp2_with fail
            go_ret
            exact ⟨rfl, hB.out⟩
end
end Go.Proofs.Ythbnojhcmfhnhaa
