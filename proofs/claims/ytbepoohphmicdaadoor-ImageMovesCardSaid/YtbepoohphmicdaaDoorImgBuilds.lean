/- The walk of colophonlaw06.ImageBuilds, over what package image answers (ImgI). -/
import Derived.Test.YtbepoohphmicdaaDoorImgFirst
namespace Go.Proofs.YtbepoohphmicdaaDoor
open Go.RowKit

theorem row_room {w : World} {B n g cap : Nat} {t : TypeId} {cs : List Value} (h : w.ownsRow B t 1 (.slice (some ⟨g, 0, none⟩) n cap) n cs) : cap ≤ maxLen := by
  rcases h.2 with ⟨e, _⟩ | ⟨_, _, _, e, _, _, _, h, _⟩
  · cases e
  · cases e
    exact h

section
variable {T : World → Prop} {At : Nat → World → Value → List Sec → Prop}
set_option maxRecDepth 100000 in
set_option maxHeartbeats 6400000 in
theorem imgBuilds_good (I : ImgI T At) (P : Option Addr) (c : Nat) (L : List Part) (a s : Int) (w : World) (hl : L.length ≤ c) (hcm : c ≤ maxLen) (hP : P = none → L = [] ∧ c = 0) (ho : Secs w w.heap.size P L) (ha : (Lit.int .i64 a).wf = true) (hs : (Lit.int .i64 s).wf = true) (hsz : sizeFrom 0 L ≤ 1200000) (hgood : L.length ≤ 60 ∧ allPages (secsP L) ≤ 4096) (hT : T w) :
    Calls Tryd.prog 3 #[.slice P L.length c, .int .i64 a, .int .i64 s] w fun e w' => e = .returned (.bool true) ∧ Below w.heap.size w w' := by
  have HI := Lib.hid I
  have HT := Lib.hid hT
  have HO := Lib.hid ho
  have HF := Lib.hid (ifirst_any I _ hT)
  have HSz := Lib.hid (fun W (hW : Below w.heap.size w W) => Lib.hid (refSize_any P c L w.heap.size W (by omega) (ho.below hW)))
  have HBu := Lib.hid (fun W (hW : Below w.heap.size w W) => Lib.hid (I.build P c L W (I.tk hT hW) hl hcm hP ((ho.below hW).mono_ hW.size)))
  have HRb := Lib.hid (fun W (hW : Below w.heap.size w W) => Lib.hid (refBuild_any P c L W ((ho.below hW).mono_ hW.size)))
  obtain ⟨k, hk⟩ : ∃ k, L.length = k := ⟨_, rfl⟩
  have HK := Lib.hid hk
  rw [hk] at HSz HBu HRb ⊢
  obtain ⟨z, hz⟩ : ∃ z, sizeFrom 0 L = z := ⟨_, rfl⟩
  rw [hz] at HSz hsz
  have hd : decide ((1200000 : Int) < (z : Int)) = false := by simp; omega
  obtain ⟨S, hS⟩ : ∃ S, secsP L = S := ⟨_, rfl⟩
  have HS := Lib.hid hS
  have HG := Lib.hid hgood
  have hfit : Fits S := by
    rw [← hS]
    exact ⟨by rw [secsP_length]; exact hgood.1, hgood.2, ho.bytes⟩
  have HFit := Lib.hid hfit
  obtain ⟨M, hM⟩ : ∃ M, allPages S = M := ⟨_, rfl⟩
  have hM1 : 0 < M := by rw [← hM]; unfold allPages startAt; omega
  have hM4 : M ≤ 4096 := by rw [← hM, ← hS]; exact hgood.2
  have HM := Lib.hid hM
  have hk60 : k ≤ 60 := by rw [← hk]; exact hgood.1
  obtain ⟨N, hN⟩ : ∃ N, 264 * M = N := ⟨_, rfl⟩
  have HN := Lib.hid hN
  have HWa := Lib.hid ha
  have HWs := Lib.hid hs
  have has : -9223372036854775808 ≤ a ∧ a ≤ 9223372036854775807 := by
    simp [Lit.wf, IntKind.min, IntKind.max, IntKind.bits, IntKind.signed] at ha
    exact ha
  clear ho hT I hP hk hz hl hcm hgood hfit hS hM hN ha hs hsz
  go_enter Tryd.func3, Tryd.ntmps3
  go_wp2_with fail
  refine HF.out.mono ?_
  rintro e w0 ⟨rfl, hB0⟩
  have HS1 := HSz.out w0 hB0
  clear HF HSz
  go_wp2_with fail
  refine HS1.out.mono ?_
  rintro e w1 ⟨rfl, rfl⟩
  have HB1 := HBu.out w0 hB0
  clear HBu HS1
  go_wp2_with fail
  refine HB1.out.mono ?_
  rintro e w1 ⟨_, _, h3, hb1⟩
  obtain ⟨v, rfl, hv⟩ := h3 HG.out.1 HG.out.2
  have hB1 := hB0.trans (hb1.mono hB0.size)
  rw [HS.out, HM.out, HN.out] at hv
  have HV := Lib.hid hv
  have HR1 := HRb.out w1 hB1
  clear h3 hv hb1 HB1 HRb
  go_wp2_with fail
  refine HR1.out.mono ?_
  rintro e w2 ⟨_, _, h3, hb2⟩
  obtain ⟨u, rfl, hu⟩ := h3 HG.out.1 HG.out.2
  have hB2 := hB1.trans (hb2.mono hB1.size)
  rw [HS.out, HM.out, HN.out] at hu
  have HV2 := Lib.hid (ownsRow_keep HV.out hb2)
  have hc1 := row_conv HV2.out (fun k _ => HFit.out.byte k)
  have hc2 := row_conv hu (fun k _ => HFit.out.byte k)
  have hr : ((bstr (imageOf S) N).toList == (bstr (imageOf S) N).toList) = true := str_same rfl
  obtain ⟨g, cap, rfl⟩ := Joins.ownsRow_form HV2.out (by have := HN.out; omega)
  obtain ⟨Y, cy, hY, hYA, hYc, hYo⟩ := row_bys HV2.out (fun k _ => HFit.out.byte k)
  cases hY
  have HCap := Lib.hid (row_room HV2.out)
  have HYo := Lib.hid (fun W (hW : Below w2.heap.size w2 W) => hYo.below hW)
  have HBf := Lib.hid (fun W (hW : Below w2.heap.size w2 W) => hB2.trans (hW.mono hB2.size))
  have HOp := Lib.hid (HI.out.open_ (some ⟨g, 0, none⟩) N cap (imageOf S) w2 (HI.out.tk HT.out hB2) (by have := HN.out; omega) hYA hYc HCap.out hYo)
  have HIm := Lib.hid (show IsImage N (imageOf S) S from ⟨HFit.out, by rw [HM.out]; exact HN.out.symm, fun _ _ => rfl⟩)
  clear h3 hu hb2 HR1 HV hYA hYo hB0 hB1 hB2
  go_wp2_with fail
  refine HOp.out.mono ?_
  rintro e w3 ⟨h1, _, hC3⟩
  obtain ⟨m, Q, hIQ, rfl, hAt⟩ := h1 ⟨S, HIm.out⟩
  obtain ⟨pa, rfl⟩ := HI.out.ptr hAt
  have HSm := Lib.hid (HIm.out.same hIQ)
  have hatk := fun W (hW : Below w3.heap.size w3 W) => HI.out.keep hAt hW
  have HAt := Lib.hid hatk
  have HCf := Lib.hid (fun W (hW : Below w3.heap.size w3 W) => hC3.trans (hW.mono hC3.size))
  have HTf := Lib.hid (fun W (hW : Below w3.heap.size w3 W) => HI.out.tk HT.out (HBf.out W (hC3.trans (hW.mono hC3.size))))
  have HRd := Lib.hid (read_any HI.out _ _ Q w3 (HTf.out _ (Below.refl _ _)) hAt)
  have hQS : imageOf Q = imageOf S := funext fun x => (HSm.out.image x).symm
  have hQM : allPages Q = M := by rw [← HSm.out.all]; exact HM.out
  have hQk : Q.length = k := by rw [← HSm.out.1, ← HS.out, secsP_length]; exact HK.out
  have HQS := Lib.hid hQS
  have HQM := Lib.hid hQM
  have HQk := Lib.hid hQk
  clear h1 hAt hIQ HOp hc1 hc2 HV2 hatk hC3 hQS hQM hQk
  go_wp2_with fail
  refine HRd.out.mono ?_
  rintro e w4 ⟨Pr, cr, Lr, rfl, hr60, hsr, hsm, hC4⟩
  have HSP := Lib.hid (same_sp (hsm.trans (HSm.out.symm.trans (by rw [← HS.out]; exact SameS.refl _))))
  have hsa := refSame_any Pr P cr c Lr L w4 (by unfold maxLen; omega) hsr ((HO.out.below (HBf.out _ (HCf.out _ hC4))).mono_ (HBf.out _ (HCf.out _ hC4)).size)
  rw [HK.out] at hsa
  have HSa := Lib.hid hsa
  clear hsa hsr hsm HRd
  go_wp2_with fail
  refine HSa.out.mono ?_
  rintro e w5 ⟨bo, rfl, hbo, hb5⟩
  obtain rfl : bo = true := hbo.2 HSP.out
  have hC5 := hC4.trans (hb5.mono hC4.size)
  have hpg := HI.out.pages _ _ Q w5 (HTf.out _ hC5) (HAt.out _ hC5)
  rw [HQM.out] at hpg
  have HPg := Lib.hid hpg
  clear hbo hb5 hC4 HSa hpg
  have hNM : (N : Int) / 264 = (M : Int) := by have := HN.out; omega
  have hMw : IntKind.i64.wrap (M : Int) = (M : Int) := IntWalk.i64_in _ (by omega)
  go_wp2_with fail
  refine HPg.out.mono ?_
  rintro e w6 ⟨rfl, hb6⟩
  have hC6 := hC5.trans (hb6.mono hC5.size)
  have HPa := Lib.hid (HI.out.page _ _ Q a w6 HWa.out (HTf.out _ hC6) (HAt.out _ hC6))
  clear hb6 hC5 HPg
  go_wp2_with fail
  refine HPa.out.mono ?_
  rintro e w7 ⟨hyes, hno, hb7⟩
  have hC7 := hC6.trans (hb7.mono hC6.size)
  have hpg := HI.out.pages _ _ Q w7 (HTf.out _ hC7) (HAt.out _ hC7)
  rw [HQM.out] at hyes hno hpg
  have HPg := Lib.hid hpg
  by_cases hin : 0 ≤ a ∧ a < (M : Int)
  · obtain ⟨u2, rfl, hu2⟩ := hyes hin
    have d1 : decide (a < 0) = false := by simp; omega
    clear hno hyes hpg HPa hC6 hb7
    go_wp2_with fail
    refine HPg.out.mono ?_
    rintro e w8 ⟨rfl, hb8⟩
    have d2 : decide ((M : Int) ≤ a) = false := by simp; omega
    have hC8 := hC7.trans (hb8.mono hC7.size)
    obtain ⟨x, hx⟩ : ∃ x : Nat, a = (x : Int) := ⟨a.toNat, by omega⟩
    have hxM : x < M := by omega
    obtain ⟨o, ho⟩ : ∃ o, 264 * x = o := ⟨_, rfl⟩
    obtain ⟨o2, ho2⟩ : ∃ o2, o + 256 = o2 := ⟨_, rfl⟩
    have hoN : o2 ≤ N := by have := HN.out; omega
    have hfn : (fun y => imageOf Q (264 * a.toNat + y)) = fun y => imageOf S (o + y) := by
      rw [HQS.out, hx, Int.toNat_natCast, ho]
    rw [hfn] at hu2
    have w1 : IntKind.i64.wrap (264 * a) = (o : Int) := by rw [IntWalk.i64_in _ (by omega)]; omega
    have w2' : IntKind.i64.wrap ((o : Int) + 256) = (o2 : Int) := by rw [IntWalk.i64_in _ (by omega)]; omega
    have w3' : (o : Int) ≤ (o2 : Int) := by omega
    have w4' : (o2 : Int) ≤ (cap : Int) := by omega
    have w5' : o2 - o = 256 := by omega
    have w6' : cap ≠ o := by omega
    have hc1 := fun q => row_conv (ownsRow_keep hu2 (hb8.trans (below_drewN' (Below.refl _ w8) q |>.mono hb8.size))) (fun y _ => HFit.out.byte (o + y))
    have hc2 : ∀ q, (convert 25 9 (.slice (some ⟨g, o, none⟩) 256 (cap - o))).run Tryd.prog (w8.drewN q) = .ok (.string (bstr (fun y => imageOf S (o + y)) 256)) (w8.drewN q) := fun q => by
      have h := Bys.cut_ (m := o) (e := 256) (HYo.out (w8.drewN q) (HCf.out _ (below_drewN' hC8 q))) (by omega)
      rw [addr_add] at h
      exact h.conv _
    have hr2 : ((bstr (fun y => imageOf S (o + y)) 256).toList == (bstr (fun y => imageOf S (o + y)) 256).toList) = true := str_same rfl
    clear hx hxM ho ho2 hoN hfn hb8 hC7 hu2 HPg hin has
    go_wp2_with fail
    go_quiet (fail)
    go_wp2_with fail
    have hC9 := below_drewN' hC8 nq
    clear hc1 hc2 hr2 w1 w2' w3' w4' w5' w6' d1 d2 hC8
    generalize w8.drewN nq = w9 at hC9 ⊢
    go_loopw [15, 108] (fun at_ v wx => ∃ i f : Nat, i ≤ k ∧ v = .int .i64 (i : Int) ∧ at_ = .int .i64 (f : Int) ∧ Hid (f = startAt S i) ∧ f ≤ 4096 ∧ Below w3.heap.size w3 wx) (fun _ v _ => k - (intOf v).toNat)
    case atStart => exact ⟨0, 1, Nat.zero_le _, rfl, rfl, Lib.hid rfl, by decide, hC9⟩
    case round =>
      obtain ⟨i, f, hi, rfl, rfl, hf, hf4, hb⟩ := hrel
      by_cases hlt : i < k
      · obtain ⟨p, hp⟩ : ∃ p, L[i]? = some p := ⟨_, List.getElem?_eq_getElem (by rw [HK.out]; exact hlt)⟩
        obtain ⟨ad, rfl, hbl, hc, hnc, hcm, _, _⟩ := (HO.out.below (HBf.out _ (HCf.out _ hb))) i p hp
        have hSp : S[i]? = some p.sec := by rw [← HS.out]; exact secsP_at hp
        have hst := startAt_succ S i p.sec hSp
        have HST := Lib.hid (show startAt S (i + 1) = f + pgs p.n by rw [hst, hf.out]; rfl)
        have hall := startAt_le S (i + 1) (by rw [← HQk.out, ← HSm.out.1] at hlt; omega)
        have hfp : f + pgs p.n ≤ 4096 := by have := HST.out; have := HM.out; omega
        have hln := lenAt_at hSp
        have HLN := Lib.hid (show lenAt S i = p.n from hln)
        clear hp hcm hst hall hSp hln
        obtain ⟨A, n, cc, V⟩ := p
        have hfp : f + pgs n ≤ 4096 := hfp
        have hpr := pgs_room n
        have hlti : (i : Int) < (k : Int) := by omega
        obtain ⟨n1, hn1⟩ : ∃ n1, n + 255 = n1 := ⟨_, rfl⟩
        obtain ⟨pg, hpg⟩ : ∃ pg, pgs n = pg := ⟨_, rfl⟩
        obtain ⟨f2, hf2⟩ : ∃ f2, f + pg = f2 := ⟨_, rfl⟩
        have hpd : n1 / 256 = pg := by rw [← hpg, ← hn1]; rfl
        have z1 : IntKind.i64.wrap ((n : Int) + 255) = (n1 : Int) := by rw [IntWalk.i64_in _ (by omega)]; omega
        have z2 : (n1 : Int) / 256 = (pg : Int) := by omega
        have z3 : IntKind.i64.wrap ((f : Int) + (pg : Int)) = (f2 : Int) := by rw [IntWalk.i64_in _ (by omega)]; omega
        have z4 : IntKind.i64.wrap (pg : Int) = (pg : Int) := IntWalk.i64_in _ (by omega)
        have HF2 := Lib.hid (show f2 = startAt S (i + 1) by rw [HST.out, ← hf2, ← hpg])
        have hf24 : f2 ≤ 4096 := by omega
        clear hn1 hpg hf2 hpd
        by_cases hse : (i : Int) = s
        · have hsl : 0 ≤ s ∧ s < (Q.length : Int) := by rw [HQk.out]; omega
          have hst2 : s.toNat = i := by omega
          have hfi : firstI Q s = f := by
            unfold firstI
            rw [if_pos hsl, hst2]
            unfold startAt
            rw [← HSm.out.ahead i (by rw [HSm.out.1, HQk.out]; omega)]
            exact hf.out.symm
          have hsi : sizeI Q s = n := by
            unfold sizeI
            rw [if_pos hsl, hst2, ← HSm.out.lenAt]
            exact HLN.out
          have hc1 := HI.out.first _ _ Q s wr HWs.out (HTf.out _ hb) (HAt.out _ hb)
          rw [hfi] at hc1
          have HC1 := Lib.hid hc1
          have HSi := Lib.hid hsi
          have hseb : ((i : Int) == s) = true := by simpa using hse
          clear hsl hst2 hfi hsi hc1 hse
          go_wp2_with fail
          refine HC1.out.mono ?_
          rintro e w10 ⟨rfl, hb10⟩
          have hbb := hb.trans (hb10.mono hb.size)
          have hc2 := HI.out.size _ _ Q s w10 HWs.out (HTf.out _ hbb) (HAt.out _ hbb)
          rw [HSi.out] at hc2
          have HC2 := Lib.hid hc2
          clear hc2 HC1 hb10
          go_wp2_with fail
          refine HC2.out.mono ?_
          rintro e w11 ⟨rfl, hb11⟩
          have hbc := hbb.trans (hb11.mono hbb.size)
          clear HC2 hb11
          go_wp2_with fail
          go_roundw
          case rel => exact ⟨i + 1, f2, by omega, by go_num, rfl, HF2, hf24, hbc⟩
          case measure => simp [intOf]; omega
        · have hseb : ((i : Int) == s) = false := by simpa using hse
          go_wp2_with fail
          go_roundw
          case rel => exact ⟨i + 1, f2, by omega, by go_num, rfl, HF2, hf24, hb⟩
          case measure => simp [intOf]; omega
      · obtain rfl : k = i := by omega
        by_cases hsin : 0 ≤ s ∧ s < (k : Int)
        · have d1 : decide ((0 : Int) ≤ s) = true := by simpa using hsin.1
          have d2 : decide (s < (k : Int)) = true := by simpa using hsin.2
          go_wp2_with fail
          go_ret
          exact ⟨rfl, HBf.out _ (HCf.out _ hb)⟩
        · have hsl : ¬ (0 ≤ s ∧ s < (Q.length : Int)) := by rw [HQk.out]; exact hsin
          have hfi : firstI Q s = 0 := by unfold firstI; rw [if_neg hsl]
          have hsi : sizeI Q s = 0 := by unfold sizeI; rw [if_neg hsl]
          have hc1 := HI.out.first _ _ Q s wr HWs.out (HTf.out _ hb) (HAt.out _ hb)
          rw [hfi] at hc1
          have HC1 := Lib.hid hc1
          have HSi := Lib.hid hsi
          have HSl := Lib.hid hsl
          clear hfi hsi hc1 hsl
          by_cases h0 : s < 0
          · have d1 : decide ((0 : Int) ≤ s) = false := by simp; omega
            go_wp2_with fail
            refine HC1.out.mono ?_
            rintro e w10 ⟨rfl, hb10⟩
            have hbb := hb.trans (hb10.mono hb.size)
            have hc2 := HI.out.size _ _ Q s w10 HWs.out (HTf.out _ hbb) (HAt.out _ hbb)
            rw [HSi.out] at hc2
            have HC2 := Lib.hid hc2
            clear hc2 HC1 hb10
            go_wp2_with fail
            refine HC2.out.mono ?_
            rintro e w11 ⟨rfl, hb11⟩
            have hbc := hbb.trans (hb11.mono hbb.size)
            have HC3 := Lib.hid (HI.out.section_ _ _ Q s w11 HWs.out (HTf.out _ hbc) (HAt.out _ hbc))
            clear HC2 hb11
            go_wp2_with fail
            refine HC3.out.mono ?_
            rintro e w12 ⟨_, hnil, hb12⟩
            obtain ⟨A9, c9, rfl⟩ := hnil HSl.out
            have hbd := hbc.trans (hb12.mono hbc.size)
            clear hnil HC3 hb12
            go_wp2_with fail
            go_ret
            exact ⟨rfl, HBf.out _ (HCf.out _ hbd)⟩
          · have d1 : decide ((0 : Int) ≤ s) = true := by simp; omega
            have d2 : decide (s < (k : Int)) = false := by simp; omega
            go_wp2_with fail
            refine HC1.out.mono ?_
            rintro e w10 ⟨rfl, hb10⟩
            have hbb := hb.trans (hb10.mono hb.size)
            have hc2 := HI.out.size _ _ Q s w10 HWs.out (HTf.out _ hbb) (HAt.out _ hbb)
            rw [HSi.out] at hc2
            have HC2 := Lib.hid hc2
            clear hc2 HC1 hb10
            go_wp2_with fail
            refine HC2.out.mono ?_
            rintro e w11 ⟨rfl, hb11⟩
            have hbc := hbb.trans (hb11.mono hbb.size)
            have HC3 := Lib.hid (HI.out.section_ _ _ Q s w11 HWs.out (HTf.out _ hbc) (HAt.out _ hbc))
            clear HC2 hb11
            go_wp2_with fail
            refine HC3.out.mono ?_
            rintro e w12 ⟨_, hnil, hb12⟩
            obtain ⟨A9, c9, rfl⟩ := hnil HSl.out
            have hbd := hbc.trans (hb12.mono hbc.size)
            clear hnil HC3 hb12
            go_wp2_with fail
            go_ret
            exact ⟨rfl, HBf.out _ (HCf.out _ hbd)⟩
  · obtain rfl := hno hin
    clear hno hyes hpg HPa hC6 hb7
    by_cases h0 : a < 0
    · have d1 : decide (a < 0) = true := by simpa using h0
      go_wp2_with fail
      go_ret
      exact ⟨rfl, HBf.out _ (HCf.out _ hC7)⟩
    · have d1 : decide (a < 0) = false := by simpa using h0
      have d2 : decide ((M : Int) ≤ a) = true := by simp; omega
      go_wp2_with fail
      refine HPg.out.mono ?_
      rintro e w8 ⟨rfl, hb8⟩
      have hC8 := hC7.trans (hb8.mono hC7.size)
      go_wp2_with fail
      go_ret
      exact ⟨rfl, HBf.out _ (HCf.out _ hC8)⟩

set_option maxRecDepth 100000 in
set_option maxHeartbeats 3200000 in
theorem imgBuilds_walk (I : ImgI T At) (P : Option Addr) (c : Nat) (L : List Part) (a s : Int) (w : World) (hl : L.length ≤ c) (hcm : c ≤ maxLen) (hP : P = none → L = [] ∧ c = 0) (ho : Secs w w.heap.size P L) (ha : (Lit.int .i64 a).wf = true) (hs : (Lit.int .i64 s).wf = true) (hT : T w) :
    Calls Tryd.prog 3 #[.slice P L.length c, .int .i64 a, .int .i64 s] w fun e w' => e = .returned (.bool true) ∧ Below w.heap.size w w' := by
  by_cases hgo : sizeFrom 0 L ≤ 1200000 ∧ (L.length ≤ 60 ∧ allPages (secsP L) ≤ 4096)
  · exact imgBuilds_good I P c L a s w hl hcm hP ho ha hs hgo.1 hgo.2 hT
  · have HI := Lib.hid I
    have HT := Lib.hid hT
    have HF := Lib.hid (ifirst_any I _ hT)
    have HSz := Lib.hid (fun W (hW : Below w.heap.size w W) => Lib.hid (refSize_any P c L w.heap.size W (by omega) (ho.below hW)))
    have HBu := Lib.hid (fun W (hW : Below w.heap.size w W) => Lib.hid (I.build P c L W (I.tk hT hW) hl hcm hP ((ho.below hW).mono_ hW.size)))
    have HRb := Lib.hid (fun W (hW : Below w.heap.size w W) => Lib.hid (refBuild_any P c L W ((ho.below hW).mono_ hW.size)))
    have hbadp : ∀ (W W' : World) (e : Ending), ¬ (L.length ≤ 60 ∧ allPages (secsP L) ≤ 4096) → BuildPost W L e W' → e = .returned (.tuple #[.slice none 0 0, .int .i64 80]) ∧ Below W.heap.size W W' := fun W W' e hn h => by
      obtain ⟨h1, h2, _, hb⟩ := h
      refine ⟨?_, hb⟩
      by_cases h60 : L.length ≤ 60
      · exact h2 h60 (by omega)
      · exact h1 (by omega)
    have HBad := Lib.hid hbadp
    obtain ⟨k, hk⟩ : ∃ k, L.length = k := ⟨_, rfl⟩
    have HGo := Lib.hid hgo
    rw [hk] at HSz HBu HRb ⊢
    obtain ⟨z, hz⟩ : ∃ z, sizeFrom 0 L = z := ⟨_, rfl⟩
    have HZ := Lib.hid hz
    rw [hz] at HSz
    clear ho hT I hP hk hz hl hcm hgo hbadp ha hs
    go_enter Tryd.func3, Tryd.ntmps3
    go_wp2_with fail
    refine HF.out.mono ?_
    rintro e w0 ⟨rfl, hB0⟩
    have HS1 := HSz.out w0 hB0
    clear HF HSz
    go_wp2_with fail
    refine HS1.out.mono ?_
    rintro e w1 ⟨rfl, rfl⟩
    by_cases hbig : 1200000 < z
    · have hd : decide ((1200000 : Int) < (z : Int)) = true := by simp; omega
      go_wp2_with fail
      go_ret
      exact ⟨rfl, hB0⟩
    have hd : decide ((1200000 : Int) < (z : Int)) = false := by simp; omega
    have HNg := Lib.hid (show ¬ (L.length ≤ 60 ∧ allPages (secsP L) ≤ 4096) from fun h => HGo.out ⟨by rw [HZ.out]; omega, h⟩)
    have HB1 := HBu.out w0 hB0
    clear HBu HS1 HGo
    go_wp2_with fail
    refine HB1.out.mono ?_
    rintro e w1 hpost
    obtain ⟨rfl, hb1⟩ := HBad.out _ _ _ HNg.out hpost
    have hB1 := hB0.trans (hb1.mono hB0.size)
    have HR1 := HRb.out w1 hB1
    clear hpost hb1 HB1 HRb
    go_wp2_with fail
    refine HR1.out.mono ?_
    rintro e w2 hpost
    obtain ⟨rfl, hb2⟩ := HBad.out _ _ _ HNg.out hpost
    have hB2 := hB1.trans (hb2.mono hB1.size)
    have hcn := conv_bytes none 0 0 (fun _ => 0) w2 (fun k hk => absurd hk (Nat.not_lt_zero k))
    have hr : ((bstr (fun _ => 0) 0).toList == (bstr (fun _ => 0) 0).toList) = true := str_same rfl
    clear hpost hb2 HR1
    go_wp2_with fail
    go_ret
    exact ⟨rfl, hB2⟩
end
end Go.Proofs.YtbepoohphmicdaaDoor
