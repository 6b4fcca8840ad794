/- The walk of colophonlaw06.ImageMoves, over what package image answers (ImgI). -/
import Derived.Test.YtbepoohphmicdaaDoorImgApart
import Derived.Test.YtbepoohphmicdaaDoorImgMoved
import Derived.Test.YtbepoohphmicdaaDoorImgTurns
namespace Go.Proofs.YtbepoohphmicdaaDoor
open Go.RowKit

theorem row_room_any {w : World} {B n c : Nat} {t : TypeId} {cs : List Value} {A : Option Addr} (h : w.ownsRow B t 1 (.slice A n c) n cs) : c ≤ maxLen := by
  rcases h.2 with ⟨e, _⟩ | ⟨_, _, _, e, _, _, _, h, _⟩
  · injection e with e1 e2 e3
    omega
  · injection e with e1 e2 e3
    omega
/-- append of bytes to a row of the call's own, as one step of a region that draws its order, walked by hand. -/
theorem held_append_bytes {ops : Array Oper} {o : Oper} {a : Act} {w : World} {K : Act → World → Prop} {Q : Exit → Act → World → Prop} {E : Prop} (d : Nat) (hd : o.dst = some d) (hgd : o.guard = none) (s x : Operand)
    (ho : o.op = .call { callee := .builtin .append, args := #[s, x], argTypes := #[25, 25] })
    {B : Nat} {v : Value} {i : Nat} {xs : List Value} (hs : a.eval s = v) (hown : w.ownsRow B 5 1 v i xs) {ad : Addr} {n c : Nat} {V : Nat → Nat} (hx : a.eval x = .slice (some ad) n c) {B' : Nat} (hW : Bys w B' (some ad) n V)
    (hB : B ≤ w.heap.size) (hi : i + n ≤ 4194304)
    (h : ∀ v' w', Hid (w'.ownsRow B 5 1 v' (i + n) (xs ++ ycells V n)) → Below B w w' → K (a.put (some d) v') w') :
    if Region.wanted o (yielded ops a.tmps) = true then Oper.wp Tryd.prog o a w K Q else E := by
  have hw : Region.wanted o (yielded ops a.tmps) = true := by simp [Region.wanted, hgd]
  rw [if_pos hw]
  obtain ⟨i0, hi0, hz0, hs0, hb0⟩ := info_parts info_u8
  refine wp_append_own _ s x 25 ho B 5 i0 (.int .u8 0) 1 1 Tryd.underlying25 hi0 hz0 hs0 hb0 rfl (by decide) v i xs hs hown ad n c (ycells V n) hx
    (by rw [ycells_length]; omega) (fun j u hj => ?_) (ycells_one V n) (by unfold maxLen; omega) (by omega) hB (fun v' w' h2 h3 _ => ?_)
  · have hjn : j < n := by
      have := (List.getElem?_eq_some_iff.1 hj).1
      rw [ycells_length] at this
      exact this
    rw [ycells_at V n j hjn] at hj
    obtain ⟨ad', e, hb, hc, _⟩ := hW j hjn
    cases e
    rw [← hj, ← hc]
  · rw [hd]
    exact h v' w' h2 ((Below.refl _ _).grown h3 hB (fun k hk => (hown.lt k hk).1))

section
variable {T : World → Prop} {At : Nat → World → Value → List Sec → Prop}
set_option linter.unusedSimpArgs false in
set_option maxRecDepth 100000 in
set_option maxHeartbeats 6400000 in
theorem imgMoves_good (I : ImgI T At) (P : Option Addr) (c : Nat) (L : List Part) (a b : Int) (w : World) (hl : L.length ≤ c) (hcm : c ≤ maxLen) (hP : P = none → L = [] ∧ c = 0) (ho : Secs w w.heap.size P L) (hsz : sizeFrom 0 L ≤ 50000) (hgood : L.length ≤ 60 ∧ allPages (secsP L) ≤ 4096) (hT : T w) :
    Calls Tryd.prog 6 #[.slice P L.length c, .int .i64 a, .int .i64 b] w fun e w' => e = .returned (.bool true) ∧ Below w.heap.size w w' := by
  have HI := Lib.hid I
  have HT := Lib.hid hT
  have HF := Lib.hid (ifirst_any I _ hT)
  have HSz := Lib.hid (fun W (hW : Below w.heap.size w W) => Lib.hid (refSize_any P c L w.heap.size W (by omega) (ho.below hW)))
  have HBu := Lib.hid (fun W (hW : Below w.heap.size w W) => Lib.hid (I.build P c L W (I.tk hT hW) hl hcm hP ((ho.below hW).mono_ hW.size)))
  obtain ⟨S, hS⟩ : ∃ S, secsP L = S := ⟨_, rfl⟩
  have HS := Lib.hid hS
  have hfit : Fits S := by rw [← hS]; exact ⟨by rw [secsP_length]; exact hgood.1, hgood.2, ho.bytes⟩
  have HFit := Lib.hid hfit
  have HG := Lib.hid hgood
  obtain ⟨k, hk⟩ : ∃ k, L.length = k := ⟨_, rfl⟩
  rw [hk] at HSz HBu ⊢
  obtain ⟨z, hz⟩ : ∃ z, sizeFrom 0 L = z := ⟨_, rfl⟩
  rw [hz] at HSz hsz
  have hd : decide ((50000 : Int) < (z : Int)) = false := by simp; omega
  obtain ⟨M, hM⟩ : ∃ M, allPages S = M := ⟨_, rfl⟩
  have hM1 : 0 < M := by rw [← hM]; unfold allPages startAt; omega
  have hM4 : M ≤ 4096 := by rw [← hM]; exact hfit.pages
  have HM := Lib.hid hM
  obtain ⟨N, hN⟩ : ∃ N, 264 * M = N := ⟨_, rfl⟩
  have HN := Lib.hid hN
  clear ho hT I hP hk hz hl hcm hgood hfit hM hsz hS hN
  go_enter Tryd.func6, Tryd.ntmps6
  go_wp2_with fail
  refine HF.out.mono ?_
  rintro e w0 ⟨rfl, hB0⟩
  have HS1 := HSz.out w0 hB0
  have HB1 := HBu.out w0 hB0
  clear HF HSz HBu
  go_wp2_with fail
  refine HS1.out.mono ?_
  rintro e w1 ⟨rfl, rfl⟩
  clear HS1
  go_wp2_with fail
  refine HB1.out.mono ?_
  rintro e w1 ⟨_, _, h3, hb1⟩
  obtain ⟨v, rfl, hv⟩ := h3 HG.out.1 HG.out.2
  have hB1 := hB0.trans (hb1.mono hB0.size)
  rw [HS.out, HM.out, HN.out] at hv
  obtain ⟨g, cap, rfl⟩ := Joins.ownsRow_form hv (by have := HN.out; omega)
  have HV := Lib.hid hv
  have hcapN : N ≤ cap := by
    obtain ⟨Y, cy, hY, _, h, _⟩ := row_bys hv (fun q _ => HFit.out.byte q)
    cases hY
    exact h
  clear h3 hb1 HB1 hB0 hv
  have hNM : (N : Int) / 264 = (M : Int) := by have := HN.out; omega
  have hMw : IntKind.i64.wrap (M : Int) = (M : Int) := IntWalk.i64_in _ (by omega)
  have hMu : IntKind.u64.wrap (M : Int) = (M : Int) := by rw [IntKind.wrap_u64]; omega
  have hMne : (M : Int) ≠ 0 := by omega
  obtain ⟨x, hx, hxM⟩ := turn_num_ a M hM1 (by omega)
  obtain ⟨y, hy, hyM⟩ := turn_num_ b M hM1 (by omega)
  have HX := Lib.hid hx
  have HY := Lib.hid hy
  have hNw : N ≤ 1081344 := by have := HN.out; clear hx hy; omega
  clear hx hy
  go_wp2_with fail
  go_quiet (fail)
  go_wp2_with fail
  rw [HX.out, HY.out]
  obtain ⟨o, hox⟩ : ∃ o, 264 * x = o := ⟨_, rfl⟩
  obtain ⟨o2, ho2⟩ : ∃ o2, o + 264 = o2 := ⟨_, rfl⟩
  have HOX := Lib.hid hox
  have HO2 := Lib.hid ho2
  have ho2N : o2 ≤ N := by have := HN.out; omega
  have x1 : IntKind.i64.wrap (264 * (x : Int)) = (o : Int) := by rw [IntWalk.i64_in _ (by omega)]; omega
  have x2 : IntKind.i64.wrap ((o : Int) + 264) = (o2 : Int) := by rw [IntWalk.i64_in _ (by omega)]; omega
  have x3 : (o : Int) ≤ (cap : Int) := by omega
  have x4 : (o2 : Int) ≤ (N : Int) := by omega
  have x5 : (o2 : Int) ≤ (cap : Int) := by omega
  have x6 : (o : Int) ≤ (o2 : Int) := by omega
  have hB2 := below_drewN' hB1 nq
  have HV2 := Lib.hid (show (w1.drewN nq).ownsRow w0.heap.size 5 1 (.slice (some ⟨g, 0, none⟩) N cap) N (ycells (imageOf S) N) from HV.out)
  clear hB1 HV hNM hMw hMu hMne hox ho2
  generalize w1.drewN nq = w2 at hB2 HV2 ⊢
  have hw0 := below_drew' (Below.refl w2.heap.size w2)
  have hwa := fun ob => below_drew' ((Below.refl w2.heap.size w2).alloc (Nat.le_refl _) ob)
  obtain ⟨adX, hX2⟩ : ∃ adX, (if cap = o2 then some (⟨g, 0, none⟩ : Addr) else some ⟨g, o2, none⟩) = some adX := by
    by_cases h : cap = o2
    · exact ⟨_, by rw [if_pos h]⟩
    · exact ⟨_, by rw [if_neg h]⟩
  have HX2 := Lib.hid hX2
  have HW0 := Lib.hid (World.ownsRow_made (base := w2.heap.size) (e := 5) (size := 1) w2 #[] 0 (Nat.le_refl _) (by unfold maxLen; omega) rfl)
  have HBa := Lib.hid (fun W (hW : Below w2.heap.size w2 W) => by
    obtain ⟨Y, cy, hY, _, _, hYo⟩ := row_bys HV2.out (fun q _ => HFit.out.byte q)
    cases hY
    exact hYo.below hW : ∀ W, Below w2.heap.size w2 W → Bys W w2.heap.size (some ⟨g, 0, none⟩) N (imageOf S))
  have HBx := Lib.hid (fun W (hW : Below w2.heap.size w2 W) => by
    by_cases h : cap = o2
    · exact fun q hq => by omega
    · have e := HX2.out
      rw [if_neg h] at e
      cases e
      rw [← addr_add]
      exact Bys.cut_ (HBa.out W hW) (by omega) : ∀ W, Below w2.heap.size w2 W → Bys W w2.heap.size (some adX) (N - o2) (fun q => imageOf S (o2 + q)))
  have HBo := Lib.hid (fun W (hW : Below w2.heap.size w2 W) => (HBa.out W hW).take_ (m := o) (by omega))
  go_upto_region 10 with (fail)
  go_cut [12] (fun q wx => Hid (wx.ownsRow w2.heap.size 5 1 q (o + (N - o2)) (ycells (goneOf S x) (o + (N - o2)))) ∧ Below w2.heap.size w2 wx)
  case first =>
      refine wp_region_noPanic ?_
      refine wp_region_held_drew (S := fun W => Below w2.heap.size w2 W) (by kernel_rfl) hw0 (fun hHeld => ?_)
      refine take_at (i := 1) (d := 55) (v := ?_) rfl rfl (by kernel_rfl) (by kernel_rfl) (by kernel_rfl) (fun _ _ _ h => h) (Or.inl ⟨by rfl, ?_⟩) (by assumption) ?_
      rotate_left
      · intro wS hSw
        go_simp
        all_goals with_reducible rfl
      try simp only [Act.put, List.setIfInBounds_toArray, List.set_cons_zero, List.set_cons_succ]
      refine take_at (i := 2) (d := 56) (v := ?_) rfl rfl (by kernel_rfl) (by kernel_rfl) (by kernel_rfl) (fun _ _ _ h => h) (Or.inl ⟨by rfl, ?_⟩) (by assumption) ?_
      rotate_left
      · intro wS hSw
        go_simp
        all_goals with_reducible rfl
      try simp only [Act.put, List.setIfInBounds_toArray, List.set_cons_zero, List.set_cons_succ]
      refine take_at (i := 3) (d := 57) (v := ?_) rfl rfl (by kernel_rfl) (by kernel_rfl) (by kernel_rfl) (fun _ _ _ h => h) (Or.inl ⟨by rfl, ?_⟩) (by assumption) ?_
      rotate_left
      · intro wS hSw
        go_simp
        all_goals with_reducible rfl
      try simp only [Act.put, List.setIfInBounds_toArray, List.set_cons_zero, List.set_cons_succ]
      refine take_at (i := 4) (d := 58) (v := ?_) rfl rfl (by kernel_rfl) (by kernel_rfl) (by kernel_rfl) (fun _ _ _ h => h) (Or.inl ⟨by rfl, ?_⟩) (by assumption) ?_
      rotate_left
      · intro wS hSw
        go_simp
        all_goals with_reducible rfl
      try simp only [Act.put, List.setIfInBounds_toArray, List.set_cons_zero, List.set_cons_succ]
      refine take_at (i := 6) (d := 60) (v := ?_) rfl rfl (by kernel_rfl) (by kernel_rfl) (by kernel_rfl) (fun _ _ _ h => h) (Or.inl ⟨by rfl, ?_⟩) (by assumption) ?_
      rotate_left
      · intro wS hSw
        go_simp
        all_goals with_reducible rfl
      try simp only [Act.put, List.setIfInBounds_toArray, List.set_cons_zero, List.set_cons_succ]
      refine take_at (i := 7) (d := 61) (v := ?_) rfl rfl (by kernel_rfl) (by kernel_rfl) (by kernel_rfl) (fun _ _ _ h => h) (Or.inl ⟨by rfl, ?_⟩) (by assumption) ?_
      rotate_left
      · intro wS hSw
        go_simp
        all_goals with_reducible rfl
      try simp only [Act.put, List.setIfInBounds_toArray, List.set_cons_zero, List.set_cons_succ]
      refine take_at (i := 8) (d := 62) (v := ?_) rfl rfl (by kernel_rfl) (by kernel_rfl) (by kernel_rfl) (fun _ _ _ h => h) (Or.inl ⟨by rfl, ?_⟩) (by assumption) ?_
      rotate_left
      · intro wS hSw
        go_simp
        all_goals with_reducible rfl
      try simp only [Act.put, List.setIfInBounds_toArray, List.set_cons_zero, List.set_cons_succ]
      refine take_at (i := 9) (d := 63) (v := ?_) rfl rfl (by kernel_rfl) (by kernel_rfl) (by kernel_rfl) (fun _ _ _ h => h) (Or.inl ⟨by rfl, ?_⟩) (by assumption) ?_
      rotate_left
      · intro wS hSw
        go_simp
        all_goals with_reducible rfl
      try simp only [Act.put, List.setIfInBounds_toArray, List.set_cons_zero, List.set_cons_succ]
      refine take_at (i := 10) (d := 64) (v := ?_) rfl rfl (by kernel_rfl) (by kernel_rfl) (by kernel_rfl) (fun _ _ _ h => h) (Or.inl ⟨by rfl, ?_⟩) (by assumption) ?_
      rotate_left
      · intro wS hSw
        go_simp
        all_goals with_reducible rfl
      try simp only [Act.put, List.setIfInBounds_toArray, List.set_cons_zero, List.set_cons_succ]
      refine wpAnyH_ready (rs := [0]) (by kernel_rfl) (by simp) ?_
      refine AllReadyH.cons rfl (fun K hK => ?_) AllReadyH.nil
      go_simp
      refine hK.out _ _ ?_ (fun hHeld => ?_)
      · exact hwa _
      clear hK K
      try simp only [Act.put, List.setIfInBounds_toArray, List.set_cons_zero, List.set_cons_succ]
      refine wpAnyH_ready (rs := [5]) (by kernel_rfl) (by simp) ?_
      refine AllReadyH.cons rfl (fun K hK => ?_) AllReadyH.nil
      refine held_append_bytes 59 rfl rfl (.tmp 54) (.tmp 58) rfl rfl HW0.out.drew rfl (HBo.out _ (hwa _)) (hwa _).size (by omega) ?_
      intro v5 w5 hown5 hb5
      have hC5 := (hwa _).trans hb5
      refine hK.out _ _ ?_ (fun hHeld => ?_)
      · exact hC5
      clear hK K
      try simp only [Act.put, List.setIfInBounds_toArray, List.set_cons_zero, List.set_cons_succ]
      refine wpAnyH_ready (rs := [11]) (by kernel_rfl) (by simp) ?_
      refine AllReadyH.cons rfl (fun K hK => ?_) AllReadyH.nil
      refine held_append_bytes 65 rfl rfl (.tmp 59) (.tmp 64) rfl rfl hown5.out rfl (HBx.out _ hC5) hC5.size (by omega) ?_
      intro v6 w6 hown6 hb6
      have hC6 := hC5.trans hb6
      have H6 := Lib.hid (show w6.ownsRow w2.heap.size 5 1 v6 (o + (N - o2)) (ycells (goneOf S x) (o + (N - o2))) from by
        have h := hown6.out
        rw [List.nil_append, Nat.zero_add, ycells_both] at h
        have e : ycells (both (imageOf S) (fun q => imageOf S (o2 + q)) o) (o + (N - o2)) = ycells (goneOf S x) (o + (N - o2)) := ycells_congr fun q _ => by
          unfold both goneOf
          rw [← HO2.out, HOX.out]
        rw [e] at h
        exact h)
      clear hown6 hown5 hb5 hb6
      refine hK.out _ _ ?_ (fun hHeld => ?_)
      · exact hC6
      clear hK K
      try simp only [Act.put, List.setIfInBounds_toArray, List.set_cons_zero, List.set_cons_succ]
      refine take_at (i := 12) (d := 12) (v := ?_) rfl rfl (by kernel_rfl) (by kernel_rfl) (by kernel_rfl) (fun _ _ _ h => h) (Or.inl ⟨by rfl, ?_⟩) (by assumption) ?_
      rotate_left
      · intro wS hSw
        go_simp
        all_goals with_reducible rfl
      try simp only [Act.put, List.setIfInBounds_toArray, List.set_cons_zero, List.set_cons_succ]
      refine wpAnyH_done (by kernel_rfl) ?_ _
      refine NoPanic.normal ?_
      go_wp2_with fail
      go_meet
      exact ⟨H6, hC6⟩
  case rest =>
  obtain ⟨HG12, hC3⟩ := hcut
  rename World => w3
  have hG264 : o + (N - o2) = 264 * (M - 1) := by have := HN.out; have := HOX.out; have := HO2.out; omega
  have hGlt : ∀ q, q < o + (N - o2) → goneOf S x q < 256 := fun q _ => by unfold goneOf; split <;> exact HFit.out.byte _
  obtain ⟨Zg, cg, rfl, hZgA, hZgc, hZgo⟩ := row_bys HG12.out hGlt
  have hcgm := row_room_any HG12.out
  have HZg := Lib.hid (fun W (hW : Below w3.heap.size w3 W) => hZgo.below hW)
  have HZgA := Lib.hid hZgA
  have HCg := Lib.hid hcgm
  have HG2 := Lib.hid hG264
  have HBa3 := Lib.hid (fun W (hW : Below w3.heap.size w3 W) => HBa.out W (hC3.trans (hW.mono hC3.size)))
  have HBf := Lib.hid (fun W (hW : Below w3.heap.size w3 W) => hB2.trans ((hC3.trans (hW.mono hC3.size)).mono hB2.size))
  have hcapm := row_room HV2.out
  have HCap := Lib.hid hcapm
  have h2s := hC3.size
  clear HW0 HBo HBx hwa hw0 hGlt hZgA hZgo hcgm hG264 x4 x5 hX2 HX2 HBa hC3 hB2 hcapm HG12
  have hw0 := below_drew' (Below.refl w3.heap.size w3)
  have hwa := fun ob => below_drew' ((Below.refl w3.heap.size w3).alloc (Nat.le_refl _) ob)
  have HW0 := Lib.hid (World.ownsRow_made (base := w3.heap.size) (e := 5) (size := 1) w3 #[] 0 (Nat.le_refl _) (by unfold maxLen; omega) rfl)
  have HBo := HBa3
  have hoN : o + 264 ≤ N := by have := HO2.out; omega
  have HBx := Lib.hid (fun W (hW : Below w3.heap.size w3 W) => by
    rw [← addr_add]
    exact Bys.cut_ (HBa3.out W hW) (by omega) : ∀ W, Below w3.heap.size w3 W → Bys W w2.heap.size (some ⟨g, o, none⟩) 264 (fun q => imageOf S (o + q)))
  have x7 : cap ≠ o := by have := HO2.out; omega
  have x8 : o2 - o = 264 := by have := HO2.out; omega
  have x9 : (o2 : Int) ≤ (cap : Int) := by omega
  go_upto_region 11 with (fail)
  go_cut [13] (fun q wx => Hid (wx.ownsRow w3.heap.size 5 1 q (N + 264) (ycells (moreOf S M x) (N + 264))) ∧ Below w3.heap.size w3 wx)
  case first =>
      refine wp_region_noPanic ?_
      refine wp_region_held_drew (S := fun W => Below w3.heap.size w3 W) (by kernel_rfl) hw0 (fun hHeld => ?_)
      refine take_at (i := 1) (d := 67) (v := ?_) rfl rfl (by kernel_rfl) (by kernel_rfl) (by kernel_rfl) (fun _ _ _ h => h) (Or.inl ⟨by rfl, ?_⟩) (by assumption) ?_
      rotate_left
      · intro wS hSw
        go_simp
        all_goals with_reducible rfl
      try simp only [Act.put, List.setIfInBounds_toArray, List.set_cons_zero, List.set_cons_succ]
      refine take_at (i := 3) (d := 69) (v := ?_) rfl rfl (by kernel_rfl) (by kernel_rfl) (by kernel_rfl) (fun _ _ _ h => h) (Or.inl ⟨by rfl, ?_⟩) (by assumption) ?_
      rotate_left
      · intro wS hSw
        go_simp
        all_goals with_reducible rfl
      try simp only [Act.put, List.setIfInBounds_toArray, List.set_cons_zero, List.set_cons_succ]
      refine take_at (i := 4) (d := 70) (v := ?_) rfl rfl (by kernel_rfl) (by kernel_rfl) (by kernel_rfl) (fun _ _ _ h => h) (Or.inl ⟨by rfl, ?_⟩) (by assumption) ?_
      rotate_left
      · intro wS hSw
        go_simp
        all_goals with_reducible rfl
      try simp only [Act.put, List.setIfInBounds_toArray, List.set_cons_zero, List.set_cons_succ]
      refine take_at (i := 5) (d := 71) (v := ?_) rfl rfl (by kernel_rfl) (by kernel_rfl) (by kernel_rfl) (fun _ _ _ h => h) (Or.inl ⟨by rfl, ?_⟩) (by assumption) ?_
      rotate_left
      · intro wS hSw
        go_simp
        all_goals with_reducible rfl
      try simp only [Act.put, List.setIfInBounds_toArray, List.set_cons_zero, List.set_cons_succ]
      refine take_at (i := 6) (d := 72) (v := ?_) rfl rfl (by kernel_rfl) (by kernel_rfl) (by kernel_rfl) (fun _ _ _ h => h) (Or.inl ⟨by rfl, ?_⟩) (by assumption) ?_
      rotate_left
      · intro wS hSw
        go_simp
        all_goals with_reducible rfl
      try simp only [Act.put, List.setIfInBounds_toArray, List.set_cons_zero, List.set_cons_succ]
      refine take_at (i := 7) (d := 73) (v := ?_) rfl rfl (by kernel_rfl) (by kernel_rfl) (by kernel_rfl) (fun _ _ _ h => h) (Or.inl ⟨by rfl, ?_⟩) (by assumption) ?_
      rotate_left
      · intro wS hSw
        go_simp
        all_goals with_reducible rfl
      try simp only [Act.put, List.setIfInBounds_toArray, List.set_cons_zero, List.set_cons_succ]
      refine take_at (i := 8) (d := 74) (v := ?_) rfl rfl (by kernel_rfl) (by kernel_rfl) (by kernel_rfl) (fun _ _ _ h => h) (Or.inl ⟨by rfl, ?_⟩) (by assumption) ?_
      rotate_left
      · intro wS hSw
        go_simp
        all_goals with_reducible rfl
      try simp only [Act.put, List.setIfInBounds_toArray, List.set_cons_zero, List.set_cons_succ]
      refine take_at (i := 9) (d := 75) (v := ?_) rfl rfl (by kernel_rfl) (by kernel_rfl) (by kernel_rfl) (fun _ _ _ h => h) (Or.inl ⟨by rfl, ?_⟩) (by assumption) ?_
      rotate_left
      · intro wS hSw
        go_simp
        all_goals with_reducible rfl
      try simp only [Act.put, List.setIfInBounds_toArray, List.set_cons_zero, List.set_cons_succ]
      refine wpAnyH_ready (rs := [0]) (by kernel_rfl) (by simp) ?_
      refine AllReadyH.cons rfl (fun K hK => ?_) AllReadyH.nil
      go_simp
      refine hK.out _ _ ?_ (fun hHeld => ?_)
      · exact hwa _
      clear hK K
      try simp only [Act.put, List.setIfInBounds_toArray, List.set_cons_zero, List.set_cons_succ]
      refine wpAnyH_ready (rs := [2]) (by kernel_rfl) (by simp) ?_
      refine AllReadyH.cons rfl (fun K hK => ?_) AllReadyH.nil
      refine held_append_bytes 68 rfl rfl (.tmp 66) (.tmp 67) rfl rfl HW0.out.drew rfl (HBo.out _ (hwa _)) (hwa _).size (by omega) ?_
      intro v5 w5 hown5 hb5
      have hC5 := (hwa _).trans hb5
      refine hK.out _ _ ?_ (fun hHeld => ?_)
      · exact hC5
      clear hK K
      try simp only [Act.put, List.setIfInBounds_toArray, List.set_cons_zero, List.set_cons_succ]
      refine wpAnyH_ready (rs := [10]) (by kernel_rfl) (by simp) ?_
      refine AllReadyH.cons rfl (fun K hK => ?_) AllReadyH.nil
      refine held_append_bytes 76 rfl rfl (.tmp 68) (.tmp 75) rfl rfl hown5.out rfl (HBx.out _ hC5) hC5.size (by omega) ?_
      intro v6 w6 hown6 hb6
      have hC6 := hC5.trans hb6
      have H6 := Lib.hid (show w6.ownsRow w3.heap.size 5 1 v6 (N + 264) (ycells (moreOf S M x) (N + 264)) from by
        have h := hown6.out
        rw [List.nil_append, Nat.zero_add, ycells_both] at h
        have e : ycells (both (imageOf S) (fun q => imageOf S (o + q)) N) (N + 264) = ycells (moreOf S M x) (N + 264) := ycells_congr fun q _ => by
          unfold both moreOf
          rw [HN.out, HOX.out]
        rw [e] at h
        exact h)
      clear hown6 hown5 hb5 hb6
      refine hK.out _ _ ?_ (fun hHeld => ?_)
      · exact hC6
      clear hK K
      try simp only [Act.put, List.setIfInBounds_toArray, List.set_cons_zero, List.set_cons_succ]
      refine take_at (i := 11) (d := 13) (v := ?_) rfl rfl (by kernel_rfl) (by kernel_rfl) (by kernel_rfl) (fun _ _ _ h => h) (Or.inl ⟨by rfl, ?_⟩) (by assumption) ?_
      rotate_left
      · intro wS hSw
        go_simp
        all_goals with_reducible rfl
      try simp only [Act.put, List.setIfInBounds_toArray, List.set_cons_zero, List.set_cons_succ]
      refine wpAnyH_done (by kernel_rfl) ?_ _
      refine NoPanic.normal ?_
      go_wp2_with fail
      go_meet
      exact ⟨H6, hC6⟩
  case rest =>
  obtain ⟨HM13, hC4⟩ := hcut
  rename World => w4
  have hMlt : ∀ q, q < N + 264 → moreOf S M x q < 256 := fun q _ => by unfold moreOf; split <;> exact HFit.out.byte _
  obtain ⟨Zm, cm, rfl, hZmA, hZmc, hZmo⟩ := row_bys HM13.out hMlt
  have hcmm := row_room_any HM13.out
  have HGone := Lib.hid (show ¬ ∃ L, IsImage (o + (N - o2)) (goneOf S x) L from by rw [HG2.out]; exact gone_no HFit.out HM.out hxM)
  have HMore := Lib.hid (show ¬ ∃ L, IsImage (N + 264) (moreOf S M x) L from by
    have e : N + 264 = 264 * (M + 1) := by have := HN.out; omega
    rw [e]
    exact more_no HFit.out HM.out hxM)
  have h4s := hC4.size
  have HO1 := Lib.hid (HI.out.open_ Zg (o + (N - o2)) cg (goneOf S x) w4 (HI.out.tk HT.out (HBf.out _ hC4)) (by omega) HZgA.out hZgc HCg.out ((HZg.out _ hC4).mono_ (by omega)))
  have HO2p := Lib.hid (fun W (hW : Below w4.heap.size w4 W) => Lib.hid (HI.out.open_ Zm (N + 264) cm (moreOf S M x) W (HI.out.tk HT.out (HBf.out _ (hC4.trans (hW.mono h4s)))) (by omega) hZmA hZmc hcmm ((hZmo.below hW).mono_ hW.size)))
  have HBa4 := Lib.hid (fun W (hW : Below w4.heap.size w4 W) => HBa3.out W (hC4.trans (hW.mono h4s)))
  have HBf4 := Lib.hid (fun W (hW : Below w4.heap.size w4 W) => HBf.out W (hC4.trans (hW.mono h4s)))
  clear HW0 HBo HBx hwa hw0 hMlt hZmA hZmo hcmm HM13 HZg HZgA hC4 HBf HBa3
  go_wp2_with fail
  refine HO1.out.mono ?_
  rintro e w5 ⟨_, hno, hb5⟩
  obtain rfl := hno HGone.out
  have HO2q := HO2p.out w5 hb5
  clear hno HO1 HO2p
  go_wp2_with fail
  refine HO2q.out.mono ?_
  rintro e w6 ⟨_, hno, hb6⟩
  obtain rfl := hno HMore.out
  have hb56 := hb5.trans (hb6.mono hb5.size)
  clear hno HO2q hb5 hb6
  by_cases hxy : x = y
  · have hxyi : ((x : Int) == (y : Int)) = true := by rw [beq_iff_eq]; omega
    go_wp2_with fail
    go_ret
    exact ⟨rfl, HBf4.out _ hb56⟩
  · have hxyi : ((x : Int) == (y : Int)) = false := by rw [beq_eq_false_iff_ne]; omega
    have HW6 := Lib.hid (World.ownsRow_made (base := w6.heap.size) (e := 5) (size := 1) w6 #[] 0 (Nat.le_refl _) (by unfold maxLen; omega) rfl)
    have hBa : Below w6.heap.size w6 (w6.alloc (.cells #[] 5)) := (Below.refl _ _).alloc (Nat.le_refl _) _
    have hsa := hBa.size
    have h6s := hb56.size
    have HB6 := Lib.hid (HBa4.out _ (hb56.trans (hBa.mono h6s)))
    go_wp2_with (at_builtin; refine step_append_bytes rfl (.tmp 96) (.tmp 97) rfl rfl HW6.out rfl (fun h => (by cases h)) HB6.out hsa (by omega) ?_; intro v7 w7 hown7 hb7)
    have h7 := hown7.out
    rw [List.nil_append, Nat.zero_add] at h7
    obtain ⟨gz, cz, rfl⟩ := Joins.ownsRow_form h7 (by omega)
    have hczN : N ≤ cz := by
      obtain ⟨Y, cy, hY, _, h, _⟩ := row_bys h7 (fun q _ => HFit.out.byte q)
      cases hY
      exact h
    have HCz := Lib.hid (row_room h7)
    have hB67 := hBa.trans hb7
    have H7 := Lib.hid h7
    have HBa7 := Lib.hid (fun W (hW : Below w6.heap.size w6 W) => HBa4.out W (hb56.trans (hW.mono h6s)))
    have HBf7 := Lib.hid (fun W (hW : Below w6.heap.size w6 W) => HBf4.out W (hb56.trans (hW.mono h6s)))
    obtain ⟨p, hpy⟩ : ∃ p, 264 * y = p := ⟨_, rfl⟩
    obtain ⟨p2, hp2⟩ : ∃ p2, p + 264 = p2 := ⟨_, rfl⟩
    have HPY := Lib.hid hpy
    have HP2 := Lib.hid hp2
    have hp2N : p2 ≤ N := by have := HN.out; omega
    have y1 : IntKind.i64.wrap (264 * (y : Int)) = (p : Int) := by rw [IntWalk.i64_in _ (by omega)]; omega
    have y2 : IntKind.i64.wrap ((p : Int) + 264) = (p2 : Int) := by rw [IntWalk.i64_in _ (by omega)]; omega
    have y3 : (p : Int) ≤ (p2 : Int) := by omega
    have y4 : (p2 : Int) ≤ (cap : Int) := by omega
    have y5 : (p2 : Int) ≤ (cz : Int) := by omega
    have y6 : (o2 : Int) ≤ (cz : Int) := by omega
    have y7 : p2 - p = 264 := by omega
    have y8 : cap ≠ p := by omega
    have y9 : cz ≠ p := by omega
    have y10 : cz ≠ o := by omega
    have hoN2 : o + 264 ≤ N := hoN
    have hpN : p + 264 ≤ N := by omega
    clear hpy hp2 hown7 hb7 hBa hsa HW6 HB6 h7
    have hw0 := below_drew' hB67
    have HSrc := Lib.hid (fun W (hW : Below w6.heap.size w6 W) f (hf : f + 264 ≤ N) => by
      have h := Bys.cut_ (m := f) (e := 264) (HBa7.out W hW) hf
      rw [addr_add] at h
      exact fun q hq => by
        obtain ⟨_, e, _, h1, _⟩ := h q hq
        cases e
        exact h1 : ∀ W, Below w6.heap.size w6 W → ∀ f, f + 264 ≤ N → ∀ q, q < 264 → W.cell? ((⟨g, f, none⟩ : Addr).add q) = some (.int .u8 ((imageOf S (f + q) : Nat) : Int)))
    obtain ⟨x9, hcp, hr9, hb9⟩ := row_copy (dc := cz - o) (c := cap - p) (V := fun q => imageOf S (p + q)) H7.out.drew hoN2 (HSrc.out w7.drew hw0 p hpN)
    have hCn := hw0.trans hb9
    have HR9 := Lib.hid hr9
    clear hr9 hb9
    go_upto_region 19 with (fail)
    go_cut [] (fun wx => wx = x9)
    case first =>
        refine wp_region_noPanic ?_
        refine wp_region_held_drew (S := fun W => Below w6.heap.size w6 W) (by kernel_rfl) hw0 (fun hHeld => ?_)
        refine take_at (i := 0) (d := 99) (v := ?_) rfl rfl (by kernel_rfl) (by kernel_rfl) (by kernel_rfl) (fun _ _ _ h => h) (Or.inl ⟨by rfl, ?_⟩) (by assumption) ?_
        rotate_left
        · intro wS hSw
          go_simp
          all_goals with_reducible rfl
        try simp only [Act.put, List.setIfInBounds_toArray, List.set_cons_zero, List.set_cons_succ]
        refine take_at (i := 1) (d := 100) (v := ?_) rfl rfl (by kernel_rfl) (by kernel_rfl) (by kernel_rfl) (fun _ _ _ h => h) (Or.inl ⟨by rfl, ?_⟩) (by assumption) ?_
        rotate_left
        · intro wS hSw
          go_simp
          all_goals with_reducible rfl
        try simp only [Act.put, List.setIfInBounds_toArray, List.set_cons_zero, List.set_cons_succ]
        refine take_at (i := 2) (d := 101) (v := ?_) rfl rfl (by kernel_rfl) (by kernel_rfl) (by kernel_rfl) (fun _ _ _ h => h) (Or.inl ⟨by rfl, ?_⟩) (by assumption) ?_
        rotate_left
        · intro wS hSw
          go_simp
          all_goals with_reducible rfl
        try simp only [Act.put, List.setIfInBounds_toArray, List.set_cons_zero, List.set_cons_succ]
        refine take_at (i := 3) (d := 102) (v := ?_) rfl rfl (by kernel_rfl) (by kernel_rfl) (by kernel_rfl) (fun _ _ _ h => h) (Or.inl ⟨by rfl, ?_⟩) (by assumption) ?_
        rotate_left
        · intro wS hSw
          go_simp
          all_goals with_reducible rfl
        try simp only [Act.put, List.setIfInBounds_toArray, List.set_cons_zero, List.set_cons_succ]
        refine take_at (i := 4) (d := 103) (v := ?_) rfl rfl (by kernel_rfl) (by kernel_rfl) (by kernel_rfl) (fun _ _ _ h => h) (Or.inl ⟨by rfl, ?_⟩) (by assumption) ?_
        rotate_left
        · intro wS hSw
          go_simp
          all_goals with_reducible rfl
        try simp only [Act.put, List.setIfInBounds_toArray, List.set_cons_zero, List.set_cons_succ]
        refine take_at (i := 5) (d := 104) (v := ?_) rfl rfl (by kernel_rfl) (by kernel_rfl) (by kernel_rfl) (fun _ _ _ h => h) (Or.inl ⟨by rfl, ?_⟩) (by assumption) ?_
        rotate_left
        · intro wS hSw
          go_simp
          all_goals with_reducible rfl
        try simp only [Act.put, List.setIfInBounds_toArray, List.set_cons_zero, List.set_cons_succ]
        refine take_at (i := 6) (d := 105) (v := ?_) rfl rfl (by kernel_rfl) (by kernel_rfl) (by kernel_rfl) (fun _ _ _ h => h) (Or.inl ⟨by rfl, ?_⟩) (by assumption) ?_
        rotate_left
        · intro wS hSw
          go_simp
          all_goals with_reducible rfl
        try simp only [Act.put, List.setIfInBounds_toArray, List.set_cons_zero, List.set_cons_succ]
        refine take_at (i := 7) (d := 106) (v := ?_) rfl rfl (by kernel_rfl) (by kernel_rfl) (by kernel_rfl) (fun _ _ _ h => h) (Or.inl ⟨by rfl, ?_⟩) (by assumption) ?_
        rotate_left
        · intro wS hSw
          go_simp
          all_goals with_reducible rfl
        try simp only [Act.put, List.setIfInBounds_toArray, List.set_cons_zero, List.set_cons_succ]
        refine take_at (i := 8) (d := 107) (v := ?_) rfl rfl (by kernel_rfl) (by kernel_rfl) (by kernel_rfl) (fun _ _ _ h => h) (Or.inl ⟨by rfl, ?_⟩) (by assumption) ?_
        rotate_left
        · intro wS hSw
          go_simp
          all_goals with_reducible rfl
        try simp only [Act.put, List.setIfInBounds_toArray, List.set_cons_zero, List.set_cons_succ]
        refine take_at (i := 9) (d := 108) (v := ?_) rfl rfl (by kernel_rfl) (by kernel_rfl) (by kernel_rfl) (fun _ _ _ h => h) (Or.inl ⟨by rfl, ?_⟩) (by assumption) ?_
        rotate_left
        · intro wS hSw
          go_simp
          all_goals with_reducible rfl
        try simp only [Act.put, List.setIfInBounds_toArray, List.set_cons_zero, List.set_cons_succ]
        refine take_at (i := 10) (d := 109) (v := ?_) rfl rfl (by kernel_rfl) (by kernel_rfl) (by kernel_rfl) (fun _ _ _ h => h) (Or.inl ⟨by rfl, ?_⟩) (by assumption) ?_
        rotate_left
        · intro wS hSw
          go_simp
          all_goals with_reducible rfl
        try simp only [Act.put, List.setIfInBounds_toArray, List.set_cons_zero, List.set_cons_succ]
        refine take_at (i := 11) (d := 110) (v := ?_) rfl rfl (by kernel_rfl) (by kernel_rfl) (by kernel_rfl) (fun _ _ _ h => h) (Or.inl ⟨by rfl, ?_⟩) (by assumption) ?_
        rotate_left
        · intro wS hSw
          go_simp
          all_goals with_reducible rfl
        try simp only [Act.put, List.setIfInBounds_toArray, List.set_cons_zero, List.set_cons_succ]
        refine take_at (i := 12) (d := 111) (v := ?_) rfl rfl (by kernel_rfl) (by kernel_rfl) (by kernel_rfl) (fun _ _ _ h => h) (Or.inl ⟨by rfl, ?_⟩) (by assumption) ?_
        rotate_left
        · intro wS hSw
          go_simp
          all_goals with_reducible rfl
        try simp only [Act.put, List.setIfInBounds_toArray, List.set_cons_zero, List.set_cons_succ]
        refine take_at (i := 13) (d := 112) (v := ?_) rfl rfl (by kernel_rfl) (by kernel_rfl) (by kernel_rfl) (fun _ _ _ h => h) (Or.inl ⟨by rfl, ?_⟩) (by assumption) ?_
        rotate_left
        · intro wS hSw
          go_simp
          all_goals with_reducible rfl
        try simp only [Act.put, List.setIfInBounds_toArray, List.set_cons_zero, List.set_cons_succ]
        refine wpAnyH_ready (rs := [14]) (by kernel_rfl) (by simp) ?_
        refine AllReadyH.cons rfl (fun K hK => ?_) AllReadyH.nil
        go_simp
        refine hK.out _ _ ?_ (fun hHeld => ?_)
        · exact hCn
        clear hK K
        try simp only [Act.put, List.setIfInBounds_toArray, List.set_cons_zero, List.set_cons_succ]
        refine wpAnyH_done (by kernel_rfl) ?_ _
        refine NoPanic.normal ?_
        go_wp2_with fail
        go_meet
        rfl
    case rest =>
    obtain rfl := hcut
    have hw1 := below_drew' hCn
    obtain ⟨x10, hcp2, hr10, hb10⟩ := row_copy (dc := cz - p) (c := cap - o) (V := fun q => imageOf S (o + q)) HR9.out.drew hpN (HSrc.out _ hw1 o hoN2)
    have hCn2 := hw1.trans hb10
    have HR10 := Lib.hid hr10
    clear hr10 hb10 hcp hw0
    go_upto_region 20 with (fail)
    go_cut [] (fun wx => wx = x10)
    case first =>
        refine wp_region_noPanic ?_
        refine wp_region_held_drew (S := fun W => Below w6.heap.size w6 W) (by kernel_rfl) hw1 (fun hHeld => ?_)
        refine take_at (i := 0) (d := 114) (v := ?_) rfl rfl (by kernel_rfl) (by kernel_rfl) (by kernel_rfl) (fun _ _ _ h => h) (Or.inl ⟨by rfl, ?_⟩) (by assumption) ?_
        rotate_left
        · intro wS hSw
          go_simp
          all_goals with_reducible rfl
        try simp only [Act.put, List.setIfInBounds_toArray, List.set_cons_zero, List.set_cons_succ]
        refine take_at (i := 1) (d := 115) (v := ?_) rfl rfl (by kernel_rfl) (by kernel_rfl) (by kernel_rfl) (fun _ _ _ h => h) (Or.inl ⟨by rfl, ?_⟩) (by assumption) ?_
        rotate_left
        · intro wS hSw
          go_simp
          all_goals with_reducible rfl
        try simp only [Act.put, List.setIfInBounds_toArray, List.set_cons_zero, List.set_cons_succ]
        refine take_at (i := 2) (d := 116) (v := ?_) rfl rfl (by kernel_rfl) (by kernel_rfl) (by kernel_rfl) (fun _ _ _ h => h) (Or.inl ⟨by rfl, ?_⟩) (by assumption) ?_
        rotate_left
        · intro wS hSw
          go_simp
          all_goals with_reducible rfl
        try simp only [Act.put, List.setIfInBounds_toArray, List.set_cons_zero, List.set_cons_succ]
        refine take_at (i := 3) (d := 117) (v := ?_) rfl rfl (by kernel_rfl) (by kernel_rfl) (by kernel_rfl) (fun _ _ _ h => h) (Or.inl ⟨by rfl, ?_⟩) (by assumption) ?_
        rotate_left
        · intro wS hSw
          go_simp
          all_goals with_reducible rfl
        try simp only [Act.put, List.setIfInBounds_toArray, List.set_cons_zero, List.set_cons_succ]
        refine take_at (i := 4) (d := 118) (v := ?_) rfl rfl (by kernel_rfl) (by kernel_rfl) (by kernel_rfl) (fun _ _ _ h => h) (Or.inl ⟨by rfl, ?_⟩) (by assumption) ?_
        rotate_left
        · intro wS hSw
          go_simp
          all_goals with_reducible rfl
        try simp only [Act.put, List.setIfInBounds_toArray, List.set_cons_zero, List.set_cons_succ]
        refine take_at (i := 5) (d := 119) (v := ?_) rfl rfl (by kernel_rfl) (by kernel_rfl) (by kernel_rfl) (fun _ _ _ h => h) (Or.inl ⟨by rfl, ?_⟩) (by assumption) ?_
        rotate_left
        · intro wS hSw
          go_simp
          all_goals with_reducible rfl
        try simp only [Act.put, List.setIfInBounds_toArray, List.set_cons_zero, List.set_cons_succ]
        refine take_at (i := 6) (d := 120) (v := ?_) rfl rfl (by kernel_rfl) (by kernel_rfl) (by kernel_rfl) (fun _ _ _ h => h) (Or.inl ⟨by rfl, ?_⟩) (by assumption) ?_
        rotate_left
        · intro wS hSw
          go_simp
          all_goals with_reducible rfl
        try simp only [Act.put, List.setIfInBounds_toArray, List.set_cons_zero, List.set_cons_succ]
        refine take_at (i := 7) (d := 121) (v := ?_) rfl rfl (by kernel_rfl) (by kernel_rfl) (by kernel_rfl) (fun _ _ _ h => h) (Or.inl ⟨by rfl, ?_⟩) (by assumption) ?_
        rotate_left
        · intro wS hSw
          go_simp
          all_goals with_reducible rfl
        try simp only [Act.put, List.setIfInBounds_toArray, List.set_cons_zero, List.set_cons_succ]
        refine take_at (i := 8) (d := 122) (v := ?_) rfl rfl (by kernel_rfl) (by kernel_rfl) (by kernel_rfl) (fun _ _ _ h => h) (Or.inl ⟨by rfl, ?_⟩) (by assumption) ?_
        rotate_left
        · intro wS hSw
          go_simp
          all_goals with_reducible rfl
        try simp only [Act.put, List.setIfInBounds_toArray, List.set_cons_zero, List.set_cons_succ]
        refine take_at (i := 9) (d := 123) (v := ?_) rfl rfl (by kernel_rfl) (by kernel_rfl) (by kernel_rfl) (fun _ _ _ h => h) (Or.inl ⟨by rfl, ?_⟩) (by assumption) ?_
        rotate_left
        · intro wS hSw
          go_simp
          all_goals with_reducible rfl
        try simp only [Act.put, List.setIfInBounds_toArray, List.set_cons_zero, List.set_cons_succ]
        refine take_at (i := 10) (d := 124) (v := ?_) rfl rfl (by kernel_rfl) (by kernel_rfl) (by kernel_rfl) (fun _ _ _ h => h) (Or.inl ⟨by rfl, ?_⟩) (by assumption) ?_
        rotate_left
        · intro wS hSw
          go_simp
          all_goals with_reducible rfl
        try simp only [Act.put, List.setIfInBounds_toArray, List.set_cons_zero, List.set_cons_succ]
        refine take_at (i := 11) (d := 125) (v := ?_) rfl rfl (by kernel_rfl) (by kernel_rfl) (by kernel_rfl) (fun _ _ _ h => h) (Or.inl ⟨by rfl, ?_⟩) (by assumption) ?_
        rotate_left
        · intro wS hSw
          go_simp
          all_goals with_reducible rfl
        try simp only [Act.put, List.setIfInBounds_toArray, List.set_cons_zero, List.set_cons_succ]
        refine take_at (i := 12) (d := 126) (v := ?_) rfl rfl (by kernel_rfl) (by kernel_rfl) (by kernel_rfl) (fun _ _ _ h => h) (Or.inl ⟨by rfl, ?_⟩) (by assumption) ?_
        rotate_left
        · intro wS hSw
          go_simp
          all_goals with_reducible rfl
        try simp only [Act.put, List.setIfInBounds_toArray, List.set_cons_zero, List.set_cons_succ]
        refine take_at (i := 13) (d := 127) (v := ?_) rfl rfl (by kernel_rfl) (by kernel_rfl) (by kernel_rfl) (fun _ _ _ h => h) (Or.inl ⟨by rfl, ?_⟩) (by assumption) ?_
        rotate_left
        · intro wS hSw
          go_simp
          all_goals with_reducible rfl
        try simp only [Act.put, List.setIfInBounds_toArray, List.set_cons_zero, List.set_cons_succ]
        refine wpAnyH_ready (rs := [14]) (by kernel_rfl) (by simp) ?_
        refine AllReadyH.cons rfl (fun K hK => ?_) AllReadyH.nil
        go_simp
        refine hK.out _ _ ?_ (fun hHeld => ?_)
        · exact hCn2
        clear hK K
        try simp only [Act.put, List.setIfInBounds_toArray, List.set_cons_zero, List.set_cons_succ]
        refine wpAnyH_done (by kernel_rfl) ?_ _
        refine NoPanic.normal ?_
        go_wp2_with fail
        go_meet
        rfl
    case rest =>
    obtain rfl := hcut
    have hsw : overTo (overTo (imageOf S) o 264 (fun q => imageOf S (p + q))) p 264 (fun q => imageOf S (o + q)) = swapOf S x y := by
      unfold swapOf
      rw [HOX.out, HPY.out]
    have hrz := HR10.out
    rw [hsw] at hrz
    have hSl : ∀ q, q < N → swapOf S x y q < 256 := fun q hq => by
      unfold swapOf
      exact overTo_lt (fun k hk => overTo_lt (n := N) (fun k _ => HFit.out.byte k) (fun k _ => HFit.out.byte _) k hk) (fun k _ => HFit.out.byte _) q hq
    obtain ⟨Y, cy, hY, hYA, hYc, hYo⟩ := row_bys hrz hSl
    cases hY
    have HSw := Lib.hid (show ¬ ∃ L, IsImage N (swapOf S x y) L from by rw [← HN.out]; exact swap_no HFit.out HM.out hxM hyM hxy)
    have hBend := HBf7.out _ hCn2
    have HO3 := Lib.hid (HI.out.open_ (some ⟨gz, 0, none⟩) N cz (swapOf S x y) _ (HI.out.tk HT.out hBend) (by omega) hYA hYc HCz.out hYo)
    clear hrz hsw hSl hYA hYo hcp2 hw1 HR9 HR10 hCn
    go_wp2_with fail
    refine HO3.out.mono ?_
    rintro e w10 ⟨_, hno, hb10⟩
    obtain rfl := hno HSw.out
    have hB10 := hBend.trans (hb10.mono hBend.size)
    clear hno HO3 hb10
    go_wp2_with fail
    refine (HI.out.nilPage 0 w10).mono ?_
    rintro e w11 ⟨rfl, hb11⟩
    have hB11 := hB10.trans (hb11.mono hB10.size)
    clear hb11
    go_wp2_with fail
    refine (HI.out.nilSections w11).mono ?_
    rintro e w12 ⟨rfl, hb12⟩
    have hB12 := hB11.trans (hb12.mono hB11.size)
    clear hb12
    go_wp2_with fail
    refine (HI.out.nilPages w12).mono ?_
    rintro e w13 ⟨rfl, hb13⟩
    have hB13 := hB12.trans (hb13.mono hB12.size)
    clear hb13
    go_wp2_with fail
    refine (HI.out.nilSize 0 w13).mono ?_
    rintro e w14 ⟨rfl, hb14⟩
    have hB14 := hB13.trans (hb14.mono hB13.size)
    clear hb14
    go_wp2_with fail
    refine (HI.out.nilFirst 0 w14).mono ?_
    rintro e w15 ⟨rfl, hb15⟩
    have hB15 := hB14.trans (hb15.mono hB14.size)
    clear hb15
    go_wp2_with fail
    refine (HI.out.nilSection 0 w15).mono ?_
    rintro e w16 ⟨rfl, hb16⟩
    have hB16 := hB15.trans (hb16.mono hB15.size)
    clear hb16
    go_wp2_with fail
    go_ret
    exact ⟨rfl, hB16⟩

set_option maxRecDepth 100000 in
set_option maxHeartbeats 3200000 in
theorem imgMoves_walk (I : ImgI T At) (P : Option Addr) (c : Nat) (L : List Part) (a b : Int) (w : World) (hl : L.length ≤ c) (hcm : c ≤ maxLen) (hP : P = none → L = [] ∧ c = 0) (ho : Secs w w.heap.size P L) (hT : T w) :
    Calls Tryd.prog 6 #[.slice P L.length c, .int .i64 a, .int .i64 b] w fun e w' => e = .returned (.bool true) ∧ Below w.heap.size w w' := by
  by_cases hgo : sizeFrom 0 L ≤ 50000 ∧ (L.length ≤ 60 ∧ allPages (secsP L) ≤ 4096)
  · exact imgMoves_good I P c L a b w hl hcm hP ho hgo.1 hgo.2 hT
  · have HF := Lib.hid (ifirst_any I _ hT)
    have HSz := Lib.hid (fun W (hW : Below w.heap.size w W) => Lib.hid (refSize_any P c L w.heap.size W (by omega) (ho.below hW)))
    have HBu := Lib.hid (fun W (hW : Below w.heap.size w W) => Lib.hid (I.build P c L W (I.tk hT hW) hl hcm hP ((ho.below hW).mono_ hW.size)))
    have HGo := Lib.hid hgo
    obtain ⟨k, hk⟩ : ∃ k, L.length = k := ⟨_, rfl⟩
    rw [hk] at HSz HBu ⊢
    obtain ⟨z, hz⟩ : ∃ z, sizeFrom 0 L = z := ⟨_, rfl⟩
    have HZ := Lib.hid hz
    rw [hz] at HSz
    clear ho hT I hP hk hz hl hcm hgo
    go_enter Tryd.func6, Tryd.ntmps6
    go_wp2_with fail
    refine HF.out.mono ?_
    rintro e w0 ⟨rfl, hB0⟩
    have HS1 := HSz.out w0 hB0
    have HB1 := HBu.out w0 hB0
    clear HF HSz HBu
    go_wp2_with fail
    refine HS1.out.mono ?_
    rintro e w1 ⟨rfl, rfl⟩
    clear HS1
    by_cases hbig : 50000 < z
    · have hd : decide ((50000 : Int) < (z : Int)) = true := by simp; omega
      go_wp2_with fail
      go_ret
      exact ⟨rfl, hB0⟩
    · have hd : decide ((50000 : Int) < (z : Int)) = false := by simp; omega
      have HNg := Lib.hid (show ¬ (L.length ≤ 60 ∧ allPages (secsP L) ≤ 4096) from fun h => HGo.out ⟨by rw [HZ.out]; omega, h⟩)
      go_wp2_with fail
      refine HB1.out.mono ?_
      rintro e w1 ⟨h1, h2, _, hb1⟩
      have hB1 := hB0.trans (hb1.mono hB0.size)
      have hbad : e = .returned (.tuple #[.slice none 0 0, .int .i64 80]) := by
        by_cases h60 : L.length ≤ 60
        · exact h2 h60 (by have := HNg.out; omega)
        · exact h1 (by omega)
      subst hbad
      clear h1 h2 HB1 hb1
      go_wp2_with fail
      go_ret
      exact ⟨rfl, hB1⟩
end
end Go.Proofs.YtbepoohphmicdaaDoor
