/- The walk of colophonlaw06.ImageApart, over what package image answers (ImgI). -/
import Derived.Test.YtbepoohphmicdaaDoorImgBuilds
import Derived.Test.YtbepoohphmicdaaDoorHeld
namespace Go.Proofs.YtbepoohphmicdaaDoor
open Go.RowKit

section
variable {T : World → Prop} {At : Nat → World → Value → List Sec → Prop}
set_option linter.unusedSimpArgs false in
set_option maxRecDepth 100000 in
set_option maxHeartbeats 6400000 in
theorem imgApart_good (I : ImgI T At) (P : Option Addr) (c : Nat) (L : List Part) (P' : Option Addr) (c' : Nat) (L' : List Part) (w : World) (hl : L.length ≤ c) (hcm : c ≤ maxLen) (hP : P = none → L = [] ∧ c = 0) (ho : Secs w w.heap.size P L) (hl' : L'.length ≤ c') (hcm' : c' ≤ maxLen) (hP' : P' = none → L' = [] ∧ c' = 0) (ho' : Secs w w.heap.size P' L')
    (hsz : sizeFrom 0 L ≤ 50000) (hsz' : sizeFrom 0 L' ≤ 50000) (hgood : L.length ≤ 60 ∧ allPages (secsP L) ≤ 4096) (hgood' : L'.length ≤ 60 ∧ allPages (secsP L') ≤ 4096) (hT : T w) :
    Calls Tryd.prog 7 #[.slice P L.length c, .slice P' L'.length c'] w fun e w' => e = .returned (.bool true) ∧ Below w.heap.size w w' := by
  have HI := Lib.hid I
  have HT := Lib.hid hT
  have HF := Lib.hid (ifirst_any I _ hT)
  have HSz := Lib.hid (fun W (hW : Below w.heap.size w W) => Lib.hid (refSize_any P c L w.heap.size W (by omega) (ho.below hW)))
  have HSz' := Lib.hid (fun W (hW : Below w.heap.size w W) => Lib.hid (refSize_any P' c' L' w.heap.size W (by omega) (ho'.below hW)))
  have HBu := Lib.hid (fun W (hW : Below w.heap.size w W) => Lib.hid (I.build P c L W (I.tk hT hW) hl hcm hP ((ho.below hW).mono_ hW.size)))
  have HBu' := Lib.hid (fun W (hW : Below w.heap.size w W) => Lib.hid (I.build P' c' L' W (I.tk hT hW) hl' hcm' hP' ((ho'.below hW).mono_ hW.size)))
  have HSa0 := Lib.hid (fun W (hW : Below w.heap.size w W) => Lib.hid (refSame_any P P' c c' L L' W (by omega) ((ho.below hW).mono_ hW.size) ((ho'.below hW).mono_ hW.size)))
  have HSp := Lib.hid (fun (h : SameP L L') => sp_same ho ho' h)
  have hfit : Fits (secsP L) := ⟨by rw [secsP_length]; exact hgood.1, hgood.2, ho.bytes⟩
  have hfit' : Fits (secsP L') := ⟨by rw [secsP_length]; exact hgood'.1, hgood'.2, ho'.bytes⟩
  have HFit := Lib.hid hfit
  have HFit' := Lib.hid hfit'
  have HG := Lib.hid hgood
  have HG' := Lib.hid hgood'
  obtain ⟨k, hk⟩ : ∃ k, L.length = k := ⟨_, rfl⟩
  obtain ⟨k', hk'⟩ : ∃ k, L'.length = k := ⟨_, rfl⟩
  have HK := Lib.hid hk
  rw [hk] at HSz HBu HSa0 ⊢
  rw [hk'] at HSz' HBu' HSa0 ⊢
  obtain ⟨z, hz⟩ : ∃ z, sizeFrom 0 L = z := ⟨_, rfl⟩
  obtain ⟨z', hz'⟩ : ∃ z, sizeFrom 0 L' = z := ⟨_, rfl⟩
  rw [hz] at HSz hsz
  rw [hz'] at HSz' hsz'
  have hd : (z : Int) ≤ 50000 := by omega
  have hd' : (z' : Int) ≤ 50000 := by omega
  obtain ⟨M, hM⟩ : ∃ M, allPages (secsP L) = M := ⟨_, rfl⟩
  obtain ⟨M', hM'⟩ : ∃ M, allPages (secsP L') = M := ⟨_, rfl⟩
  have hM1 : 0 < M := by rw [← hM]; unfold allPages startAt; omega
  have hM4 : M ≤ 4096 := by rw [← hM]; exact hgood.2
  have HM := Lib.hid hM
  have HM' := Lib.hid hM'
  have hk60 : k ≤ 60 := by rw [← hk]; exact hgood.1
  clear ho hT I hP hk hz hl hcm hgood hfit hM hsz ho' hP' hk' hz' hl' hcm' hgood' hfit' hM' hsz'
  go_enter Tryd.func7, Tryd.ntmps7
  go_wp2_with fail
  refine HF.out.mono ?_
  rintro e w0 ⟨rfl, hB0⟩
  have HS1 := HSz.out w0 hB0
  have HS2 := HSz'.out w0 hB0
  have HB1 := HBu.out w0 hB0
  clear HF HSz HSz' HBu
  go_upto_region 3 with (fail)
  go_cut [20] (fun q wx => q = .bool false ∧ wx = w0)
  case first =>
    go_wp2_with fail
    refine HS1.out.mono ?_
    rintro e w1 ⟨rfl, rfl⟩
    go_wp2_with fail
    refine HS2.out.mono ?_
    rintro e w1 ⟨rfl, rfl⟩
    have dz : decide ((50000 : Int) < (z : Int)) = false := by simp; omega
    have dz' : decide ((50000 : Int) < (z' : Int)) = false := by simp; omega
    clear HS1 HS2
    go_wp2_with fail
    all_goals
      go_meet
      exact ⟨rfl, rfl⟩
  case rest =>
  obtain ⟨rfl, rfl⟩ := hcut
  clear HS1 HS2
  go_wp2_with fail
  refine HB1.out.mono ?_
  rintro e w1 ⟨_, _, h3, hb1⟩
  obtain ⟨v, rfl, hv⟩ := h3 HG.out.1 HG.out.2
  have hB1 := hB0.trans (hb1.mono hB0.size)
  rw [HM.out] at hv
  have HV := Lib.hid hv
  have HB2 := HBu'.out w1 hB1
  clear h3 hv hb1 HB1 HBu' hB0
  go_wp2_with fail
  refine HB2.out.mono ?_
  rintro e w2 ⟨_, _, h3, hb2⟩
  obtain ⟨u, rfl, hu⟩ := h3 HG'.out.1 HG'.out.2
  have hB2 := hB1.trans (hb2.mono hB1.size)
  rw [HM'.out] at hu
  have HV2 := Lib.hid (ownsRow_keep HV.out hb2)
  have HU2 := Lib.hid hu
  obtain ⟨bx, hbx⟩ : ∃ bx, ((bstr (imageOf (secsP L)) (264 * M)).toList == (bstr (imageOf (secsP L')) (264 * M')).toList) = bx := ⟨_, rfl⟩
  have HBX := Lib.hid (show bx = true ↔ SameP L L' by
    rw [← hbx, str_eq, decide_eq_true_eq]
    constructor
    · intro e
      obtain ⟨e1, e2⟩ := bstr_same (fun q _ => HFit.out.byte q) (fun q _ => HFit'.out.byte q) e
      exact same_sp (image_same HFit.out HFit'.out (by rw [HM.out, HM'.out]; omega) (by rw [HM.out]; exact e2))
    · intro e
      have hs := HSp.out e
      have e1 : M = M' := by rw [← HM.out, ← HM'.out]; exact hs.all
      rw [e1]
      exact bstr_congr fun q _ => hs.image q)
  have hw0 := below_drew' (Below.refl w2.heap.size w2)
  have HSS := Lib.hid (show ∀ W, Below w2.heap.size w2 W → (convert 25 9 v).run Tryd.prog W = .ok (.string (bstr (imageOf (secsP L)) (264 * M))) W ∧ (convert 25 9 u).run Tryd.prog W = .ok (.string (bstr (imageOf (secsP L')) (264 * M'))) W ∧ Below w2.heap.size w2 W from fun W hW => ⟨row_conv (ownsRow_keep HV2.out hW) (fun q _ => HFit.out.byte q), row_conv (ownsRow_keep HU2.out hW) (fun q _ => HFit'.out.byte q), hW⟩)
  have HSa := HSa0.out w2.drew (below_drew' hB2)
  clear h3 hu hb2 HB2 HV HSa0 HSp
  go_upto_region 9 with (fail)
  go_cut [45] (fun q wx => q = .bool false ∧ Below w2.heap.size w2 wx)
  case first =>
      refine wp_region_noPanic ?_
      refine wp_region_held_drew (S := (fun W => (convert 25 9 v).run Tryd.prog W = .ok (.string (bstr (imageOf (secsP L)) (264 * M))) W ∧ (convert 25 9 u).run Tryd.prog W = .ok (.string (bstr (imageOf (secsP L')) (264 * M'))) W ∧ Below w2.heap.size w2 W)) (by kernel_rfl) (HSS.out _ hw0) (fun hHeld => ?_)
      refine take_at (i := 0) (d := 37) (v := ?_) rfl rfl (by kernel_rfl) (by kernel_rfl) (by kernel_rfl) (fun _ _ _ h => h) (Or.inl ⟨by rfl, ?_⟩) (by assumption) ?_
      rotate_left
      · intro wS hSw
        go_simp
        all_goals with_reducible rfl
      try simp only [Act.put, List.setIfInBounds_toArray, List.set_cons_zero, List.set_cons_succ]
      refine take_at (i := 1) (d := 38) (v := ?_) rfl rfl (by kernel_rfl) (by kernel_rfl) (by kernel_rfl) (fun _ _ _ h => h) (Or.inl ⟨by rfl, ?_⟩) (by assumption) ?_
      rotate_left
      · intro wS hSw
        go_simp
        all_goals with_reducible rfl
      try simp only [Act.put, List.setIfInBounds_toArray, List.set_cons_zero, List.set_cons_succ]
      refine take_at (i := 2) (d := 39) (v := ?_) rfl rfl (by kernel_rfl) (by kernel_rfl) (by kernel_rfl) (fun _ _ _ h => h) (Or.inl ⟨by rfl, ?_⟩) (by assumption) ?_
      rotate_left
      · intro wS hSw
        go_simp
        all_goals with_reducible rfl
      try simp only [Act.put, List.setIfInBounds_toArray, List.set_cons_zero, List.set_cons_succ]
      refine take_at (i := 3) (d := 40) (v := ?_) rfl rfl (by kernel_rfl) (by kernel_rfl) (by kernel_rfl) (fun _ _ _ h => h) (Or.inl ⟨by rfl, ?_⟩) (by assumption) ?_
      rotate_left
      · intro wS hSw
        go_simp
        all_goals with_reducible rfl
      try simp only [Act.put, List.setIfInBounds_toArray, List.set_cons_zero, List.set_cons_succ]
      refine take_at (i := 4) (d := 41) (v := ?_) rfl rfl (by kernel_rfl) (by kernel_rfl) (by kernel_rfl) (fun _ _ _ h => h) (Or.inl ⟨by rfl, ?_⟩) (by assumption) ?_
      rotate_left
      · intro wS hSw
        go_simp
        all_goals with_reducible rfl
      try simp only [Act.put, List.setIfInBounds_toArray, List.set_cons_zero, List.set_cons_succ]
      refine take_at (i := 5) (d := 42) (v := ?_) rfl rfl (by kernel_rfl) (by kernel_rfl) (by kernel_rfl) (fun _ _ _ h => h) (Or.inl ⟨by rfl, ?_⟩) (by assumption) ?_
      rotate_left
      · intro wS hSw
        go_simp
        all_goals with_reducible rfl
      try simp only [Act.put, List.setIfInBounds_toArray, List.set_cons_zero, List.set_cons_succ]
      refine take_at (i := 6) (d := 43) (v := ?_) rfl rfl (by kernel_rfl) (by kernel_rfl) (by kernel_rfl) (fun _ _ _ h => h) (Or.inl ⟨by rfl, ?_⟩) (by assumption) ?_
      rotate_left
      · intro wS hSw
        go_simp
        all_goals with_reducible rfl
      try simp only [Act.put, List.setIfInBounds_toArray, List.set_cons_zero, List.set_cons_succ]
      refine wpAnyH_ready (rs := [7]) (by kernel_rfl) (by simp) ?_
      refine AllReadyH.cons rfl (fun K hK => ?_) AllReadyH.nil
      go_simp
      refine HSa.out.mono ?_
      rintro e x1 ⟨bo, rfl, hbo, hc1⟩
      have hC1 := hw0.trans (hc1.mono hw0.size)
      obtain rfl : bx = bo := by
        rw [Bool.eq_iff_iff]
        exact HBX.out.trans hbo.symm
      clear hbo hc1
      refine hK.out _ _ ?_ (fun hHeld => ?_)
      · exact HSS.out _ hC1
      clear hK K
      try simp only [Act.put, List.setIfInBounds_toArray, List.set_cons_zero, List.set_cons_succ]
      refine take_at (i := 8) (d := 45) (v := ?_) rfl rfl (by kernel_rfl) (by kernel_rfl) (by kernel_rfl) (fun _ _ _ h => h) (Or.inl ⟨by rfl, ?_⟩) (by assumption) ?_
      rotate_left
      · intro wS hSw
        go_simp
        all_goals with_reducible rfl
      try simp only [Act.put, List.setIfInBounds_toArray, List.set_cons_zero, List.set_cons_succ]
      refine wpAnyH_done (by kernel_rfl) ?_ _
      refine NoPanic.normal ?_
      go_wp2_with fail
      go_meet
      exact And.intro rfl hC1
  case rest =>
  obtain ⟨rfl, hC⟩ := hcut
  have hB3 := hB2.trans (hC.mono hB2.size)
  have HV3 := Lib.hid (ownsRow_keep HV2.out hC)
  obtain ⟨g, cap, rfl⟩ := Joins.ownsRow_form HV3.out (by omega)
  obtain ⟨Y, cy, hY, hYA, hYc, hYo⟩ := row_bys HV3.out (fun q _ => HFit.out.byte q)
  cases hY
  have HOp := Lib.hid (HI.out.open_ (some ⟨g, 0, none⟩) (264 * M) cap (imageOf (secsP L)) wc (HI.out.tk HT.out hB3) (by omega) hYA hYc (row_room HV3.out) hYo)
  have HIm := Lib.hid (show IsImage (264 * M) (imageOf (secsP L)) (secsP L) from ⟨HFit.out, by rw [HM.out], fun _ _ => rfl⟩)
  clear hYA hYc hYo HV3 HV2 HU2 HSS hw0 HSa hbx hC
  go_wp2_with fail
  refine HOp.out.mono ?_
  rintro e w3 ⟨h1, _, hb3⟩
  obtain ⟨m, Q, hIQ, rfl, hAt⟩ := h1 ⟨_, HIm.out⟩
  obtain ⟨pa, rfl⟩ := HI.out.ptr hAt
  have hB4 := hB3.trans (hb3.mono hB3.size)
  have HSm := Lib.hid (HIm.out.same hIQ)
  have hQk : Q.length = k := by rw [← HSm.out.1, secsP_length]; exact HK.out
  have hQM : allPages Q = M := by rw [← HSm.out.all]; exact HM.out
  have hse := HI.out.sections _ _ Q w3 (HI.out.tk HT.out hB4) hAt
  rw [hQk] at hse
  have HSe := Lib.hid hse
  have HQk := Lib.hid hQk
  have HQM := Lib.hid hQM
  have HAt := Lib.hid (fun W (hW : Below w3.heap.size w3 W) => HI.out.keep hAt hW)
  have HBf := Lib.hid (fun W (hW : Below w3.heap.size w3 W) => hB4.trans (hW.mono hB4.size))
  have HTf := Lib.hid (fun W (hW : Below w3.heap.size w3 W) => HI.out.tk HT.out (hB4.trans (hW.mono hB4.size)))
  clear h1 hIQ hAt hb3 HOp hQk hQM hse hB3
  go_wp2_with fail
  refine HSe.out.mono ?_
  rintro e w4 ⟨rfl, hC4⟩
  clear HSe
  go_wp2_with fail
  go_loopw [11, 53] (fun at_ v wx => ∃ i f : Nat, i ≤ k ∧ v = .int .i64 (i : Int) ∧ at_ = .int .i64 (f : Int) ∧ Hid (f = startAt Q i) ∧ f ≤ 4096 ∧ Below w3.heap.size w3 wx) (fun _ v _ => k - (intOf v).toNat)
  case atStart => exact ⟨0, 1, Nat.zero_le _, rfl, rfl, Lib.hid rfl, by decide, hC4⟩
  case round =>
    clear hC4
    obtain ⟨i, f, hi, rfl, rfl, hf, hf4, hb⟩ := hrel
    by_cases hlt : i < k
    · obtain ⟨x, hx⟩ : ∃ x, Q[i]? = some x := ⟨_, List.getElem?_eq_getElem (by rw [HQk.out]; exact hlt)⟩
      have hwf : (Lit.int .i64 (i : Int)).wf = true := by simp [Lit.wf, IntKind.min, IntKind.max, IntKind.bits, IntKind.signed]; omega
      have HWf := Lib.hid hwf
      have hst := startAt_succ Q i x hx
      obtain ⟨n, hn⟩ : ∃ n, x.n = n := ⟨_, rfl⟩
      rw [hn] at hst
      have HST := Lib.hid (show startAt Q (i + 1) = f + pgs n by rw [hst, hf.out])
      have hall := startAt_le Q (i + 1) (by rw [HQk.out]; omega)
      have hfp : f + pgs n ≤ 4096 := by have := HST.out; have := HQM.out; omega
      have hpr := pgs_room n
      have hsl : 0 ≤ (i : Int) ∧ (i : Int) < (Q.length : Int) := by rw [HQk.out]; omega
      have hfi : firstI Q (i : Int) = f := by
        unfold firstI
        rw [if_pos hsl, Int.toNat_natCast]
        exact hf.out.symm
      have hsi : sizeI Q (i : Int) = n := by
        unfold sizeI
        rw [if_pos hsl, Int.toNat_natCast, lenAt_at hx]
        exact hn
      have HC1 := Lib.hid (fun W (hW : Below w3.heap.size w3 W) => Lib.hid (by
        have h := HI.out.first _ _ Q (i : Int) W HWf.out (HTf.out _ hW) (HAt.out _ hW)
        rw [hfi] at h
        exact h))
      have HC2 := Lib.hid (fun W (hW : Below w3.heap.size w3 W) => Lib.hid (by
        have h := HI.out.size _ _ Q (i : Int) W HWf.out (HTf.out _ hW) (HAt.out _ hW)
        rw [hsi] at h
        exact h))
      have hlti : (i : Int) < (k : Int) := by omega
      have HCa := HC1.out wr hb
      clear hx hwf hst hall hsl hfi hsi hn
      go_wp2_with fail
      refine HCa.out.mono ?_
      rintro e w5 ⟨rfl, hb5⟩
      have hC5 := hb.trans (hb5.mono hb.size)
      clear HCa hb5
      go_wp2_with fail
      go_loopw [11] (fun at_ wx => ∃ q g : Nat, at_ = .int .i64 (g : Int) ∧ g = f + q ∧ q ≤ pgs n ∧ Below w3.heap.size w3 wx) (fun at_ _ => 4097 - (intOf at_).toNat)
      case atStart => exact ⟨0, f, rfl, rfl, Nat.zero_le _, hC5⟩
      case round =>
        obtain ⟨q, g2, rfl, hg, hq, hb6⟩ := hrel
        have HCa := HC1.out wr hb6
        have HGq := Lib.hid hg
        obtain ⟨g3, hg3⟩ : ∃ g3, g2 * 256 = g3 := ⟨_, rfl⟩
        obtain ⟨f3, hf3⟩ : ∃ f3, 256 * f = f3 := ⟨_, rfl⟩
        obtain ⟨f4, hf4'⟩ : ∃ f4, f3 + n = f4 := ⟨_, rfl⟩
        have v1 : IntKind.i64.wrap ((g2 : Int) * 256) = (g3 : Int) := by rw [IntWalk.i64_in _ (by omega)]; omega
        have v2 : IntKind.i64.wrap (256 * (f : Int)) = (f3 : Int) := by rw [IntWalk.i64_in _ (by omega)]; omega
        have v3 : IntKind.i64.wrap ((f3 : Int) + (n : Int)) = (f4 : Int) := by rw [IntWalk.i64_in _ (by omega)]; omega
        have hdec : (q < pgs n ∧ g3 < f4) ∨ (q = pgs n ∧ ¬ g3 < f4) := by
          unfold pgs at hq ⊢
          omega
        have hg4 : g2 ≤ 4096 := by omega
        clear hg hg3 hf3 hf4'
        go_wp2_with fail
        refine HCa.out.mono ?_
        rintro e w6 ⟨rfl, hb7⟩
        have hC6 := hb6.trans (hb7.mono hb6.size)
        have HCb := HC2.out w6 hC6
        clear HCa hb7
        go_wp2_with fail
        refine HCb.out.mono ?_
        rintro e w7 ⟨rfl, hb8⟩
        have hC7 := hC6.trans (hb8.mono hC6.size)
        clear HCb hb8
        rcases hdec with ⟨hq1, hlt1⟩ | ⟨hq1, hlt1⟩
        · have d1 : (g3 : Int) < (f4 : Int) := by omega
          go_wp2_with fail
          go_roundw
          case rel => exact ⟨q + 1, g2 + 1, by go_num, by have := HGq.out; omega, hq1, hC7⟩
          case measure => have := HGq.out; simp [intOf]; omega
        · have d1 : ¬ (g3 : Int) < (f4 : Int) := by omega
          have HF2 := Lib.hid (show g2 = startAt Q (i + 1) by rw [HST.out, HGq.out, hq1])
          clear hq1
          go_wp2_with fail
          go_roundw
          case rel => exact ⟨i + 1, g2, by omega, by go_num, rfl, HF2, hg4, hC7⟩
          case measure => simp [intOf]; omega
    · obtain rfl : k = i := by omega
      have hff : f = M := by rw [hf.out, ← HQM.out, ← HQk.out]; rfl
      subst hff
      have hpg := HI.out.pages _ _ Q wr (HTf.out _ hb) (HAt.out _ hb)
      rw [HQM.out] at hpg
      have HPg := Lib.hid hpg
      clear hpg
      go_wp2_with fail
      refine HPg.out.mono ?_
      rintro e w5 ⟨rfl, hb5⟩
      have hC5 := hb.trans (hb5.mono hb.size)
      clear HPg hb5
      go_wp2_with fail
      go_ret
      exact ⟨rfl, HBf.out _ hC5⟩

theorem build_form {w w' : World} {L : List Part} {e : Ending} (h : BuildPost w L e w') : ∃ v q, e = .returned (.tuple #[v, .int .i64 q]) ∧ ((L.length ≤ 60 ∧ allPages (secsP L) ≤ 4096) → q = 0) ∧ (¬ (L.length ≤ 60 ∧ allPages (secsP L) ≤ 4096) → q = 80) ∧ Below w.heap.size w w' := by
  obtain ⟨h1, h2, h3, hb⟩ := h
  by_cases hg : L.length ≤ 60 ∧ allPages (secsP L) ≤ 4096
  · obtain ⟨v, rfl, _⟩ := h3 hg.1 hg.2
    exact ⟨v, 0, rfl, fun _ => rfl, fun h => absurd hg h, hb⟩
  · refine ⟨.slice none 0 0, 80, ?_, fun h => absurd h hg, fun _ => rfl, hb⟩
    by_cases h60 : L.length ≤ 60
    · exact h2 h60 (by omega)
    · exact h1 (by omega)

set_option maxRecDepth 100000 in
set_option maxHeartbeats 3200000 in
theorem imgApart_walk (I : ImgI T At) (P : Option Addr) (c : Nat) (L : List Part) (P' : Option Addr) (c' : Nat) (L' : List Part) (w : World) (hl : L.length ≤ c) (hcm : c ≤ maxLen) (hP : P = none → L = [] ∧ c = 0) (ho : Secs w w.heap.size P L) (hl' : L'.length ≤ c') (hcm' : c' ≤ maxLen) (hP' : P' = none → L' = [] ∧ c' = 0) (ho' : Secs w w.heap.size P' L') (hT : T w) :
    Calls Tryd.prog 7 #[.slice P L.length c, .slice P' L'.length c'] w fun e w' => e = .returned (.bool true) ∧ Below w.heap.size w w' := by
  by_cases hgo : (sizeFrom 0 L ≤ 50000 ∧ sizeFrom 0 L' ≤ 50000) ∧ (L.length ≤ 60 ∧ allPages (secsP L) ≤ 4096) ∧ (L'.length ≤ 60 ∧ allPages (secsP L') ≤ 4096)
  · exact imgApart_good I P c L P' c' L' w hl hcm hP ho hl' hcm' hP' ho' hgo.1.1 hgo.1.2 hgo.2.1 hgo.2.2 hT
  · have HI := Lib.hid I
    have HT := Lib.hid hT
    have HF := Lib.hid (ifirst_any I _ hT)
    have HSz := Lib.hid (fun W (hW : Below w.heap.size w W) => Lib.hid (refSize_any P c L w.heap.size W (by omega) (ho.below hW)))
    have HSz' := Lib.hid (fun W (hW : Below w.heap.size w W) => Lib.hid (refSize_any P' c' L' w.heap.size W (by omega) (ho'.below hW)))
    have HBu := Lib.hid (fun W (hW : Below w.heap.size w W) => Lib.hid (I.build P c L W (I.tk hT hW) hl hcm hP ((ho.below hW).mono_ hW.size)))
    have HBu' := Lib.hid (fun W (hW : Below w.heap.size w W) => Lib.hid (I.build P' c' L' W (I.tk hT hW) hl' hcm' hP' ((ho'.below hW).mono_ hW.size)))
    have HGo := Lib.hid hgo
    obtain ⟨k, hk⟩ : ∃ k, L.length = k := ⟨_, rfl⟩
    obtain ⟨k', hk'⟩ : ∃ k, L'.length = k := ⟨_, rfl⟩
    rw [hk] at HSz HBu ⊢
    rw [hk'] at HSz' HBu' ⊢
    obtain ⟨z, hz⟩ : ∃ z, sizeFrom 0 L = z := ⟨_, rfl⟩
    obtain ⟨z', hz'⟩ : ∃ z, sizeFrom 0 L' = z := ⟨_, rfl⟩
    have HZ := Lib.hid hz
    have HZ' := Lib.hid hz'
    rw [hz] at HSz
    rw [hz'] at HSz'
    clear ho hT I hP hk hz hl hcm ho' hP' hk' hz' hl' hcm' hgo
    go_enter Tryd.func7, Tryd.ntmps7
    go_wp2_with fail
    refine HF.out.mono ?_
    rintro e w0 ⟨rfl, hB0⟩
    have HS1 := HSz.out w0 hB0
    have HS2 := HSz'.out w0 hB0
    have HB1 := HBu.out w0 hB0
    clear HF HSz HSz' HBu
    obtain ⟨bb, hbb⟩ : ∃ bb, decide (50000 < z ∨ 50000 < z') = bb := ⟨_, rfl⟩
    go_upto_region 3 with (fail)
    go_cut [20] (fun q wx => q = .bool bb ∧ wx = w0)
    case first =>
      go_wp2_with fail
      refine HS1.out.mono ?_
      rintro e w1 ⟨rfl, rfl⟩
      go_wp2_with fail
      refine HS2.out.mono ?_
      rintro e w1 ⟨rfl, rfl⟩
      have HBB := Lib.hid hbb
      clear HS1 HS2 hbb
      by_cases hmx : (z : Int) < (z' : Int)
      · have hx : decide ((50000 : Int) < (z' : Int)) = bb := by
          rw [← HBB.out]
          exact decide_eq_decide.2 (by omega)
        have hmx2 : ¬ (z' : Int) < (z : Int) := by omega
        have hmx3 : (z : Int) ≤ (z' : Int) := by omega
        have hmx4 : ¬ (z' : Int) ≤ (z : Int) := by omega
        go_wp2_with fail
        all_goals
          go_meet
          exact ⟨rfl, rfl⟩
      · have hx : decide ((50000 : Int) < (z : Int)) = bb := by
          rw [← HBB.out]
          exact decide_eq_decide.2 (by omega)
        go_wp2_with fail
        all_goals
          go_meet
          exact ⟨rfl, rfl⟩
    case rest =>
    obtain ⟨rfl, rfl⟩ := hcut
    clear HS1 HS2
    cases bb
    · have hzz : ¬ (50000 < z ∨ 50000 < z') := by simpa using hbb
      have HNg := Lib.hid (show ¬ ((L.length ≤ 60 ∧ allPages (secsP L) ≤ 4096) ∧ (L'.length ≤ 60 ∧ allPages (secsP L') ≤ 4096)) from fun h => HGo.out ⟨⟨by rw [HZ.out]; omega, by rw [HZ'.out]; omega⟩, h⟩)
      clear hbb hzz HGo
      go_wp2_with fail
      refine HB1.out.mono ?_
      rintro e w1 hpost
      obtain ⟨v, q, rfl, hq1, hq2, hb1⟩ := build_form hpost
      have hB1 := hB0.trans (hb1.mono hB0.size)
      have HB2 := HBu'.out w1 hB1
      have HQ2 := Lib.hid hq2
      clear hpost hb1 HB1 HBu' hq1 hq2
      go_wp2_with fail
      refine HB2.out.mono ?_
      rintro e w2 hpost
      obtain ⟨u, q', rfl, hq1, hq2', hb2⟩ := build_form hpost
      have hB2 := hB1.trans (hb2.mono hB1.size)
      have HQ2' := Lib.hid hq2'
      have hqq : q = 80 ∨ q' = 80 := by
        by_cases h : L.length ≤ 60 ∧ allPages (secsP L) ≤ 4096
        · exact .inr (HQ2'.out fun h2 => HNg.out ⟨h, h2⟩)
        · exact .inl (HQ2.out h)
      clear hpost hb2 HB2 hq1 hq2'
      rcases hqq with rfl | rfl
      · go_wp2_with fail
        go_ret
        exact ⟨rfl, hB2⟩
      · by_cases hq0 : q = 0
        · subst hq0
          go_wp2_with fail
          go_ret
          exact ⟨rfl, hB2⟩
        · have hqb : (q == 0) = false := by rw [beq_eq_false_iff_ne]; exact hq0
          go_wp2_with fail
          go_ret
          exact ⟨rfl, hB2⟩
    · clear hbb
      go_wp2_with fail
      go_ret
      exact ⟨rfl, hB0⟩
end
end Go.Proofs.YtbepoohphmicdaaDoor
