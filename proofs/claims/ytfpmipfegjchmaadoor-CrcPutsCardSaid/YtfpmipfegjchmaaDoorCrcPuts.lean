/- For every input colophonlaw04.CrcPuts returns true, and its arguments read as they read. No condition but that the two tables lie as the program's text lays them (the card ties it). -/
import Derived.Test.YtfpmipfegjchmaaDoorCrcLaw
import Derived.Test.YtfpmipfegjchmaaDoorHeld
import Derived.Deep.RegionHeld3
import Derived.Deep.CutBlock
import Derived.Deep.DeepCutAuto
namespace Go.Proofs.YtfpmipfegjchmaaDoor.crcPuts
open Go.ChangeShapes Go.WideShapes Go.ChangeAt Go.RowKit

set_option linter.unusedSimpArgs false in
set_option maxRecDepth 100000 in
set_option maxHeartbeats 3200000 in
theorem walk (A : Option Addr) (n c : Nat) (V : Nat → Nat) (i : Int) (w : World) (_hcm : c ≤ maxLen) (hA : A = none → n = 0 ∧ c = 0) (hc : n ≤ c) (ho : Bys w w.heap.size A n V) (_hi : (Lit.int .i64 i).wf = true) (ht : Tabs w) :
    Calls Tryd.prog 3 #[.slice A n c, .int .i64 i] w fun e w' => e = .returned (.bool true) ∧ Below w.heap.size w w' := by
  have HT := Lib.hid ht
  have HO := Lib.hid ho
  have HF := Lib.hid (cfirst_any w ht)
  have HA := Lib.hid hA
  obtain ⟨m, hm⟩ : ∃ m, min n 3000 = m := ⟨_, rfl⟩
  have hmn : m ≤ n := by omega
  have hm1 : m ≤ 3000 := by omega
  have HM := Lib.hid hm
  obtain ⟨k, hk, hkm⟩ := turn_num i (m + 1) (by omega) (by omega)
  have hk3 : wrap64 ((IntKind.u64.wrap i).tmod ((m : Int) + 1)) = (k : Int) := hk
  have HK := Lib.hid hk3
  have hkm1 : k ≤ m := by omega
  clear ho ht hm hA hk hk3 hkm
  go_enter Tryd.func3, Tryd.ntmps3
  go_wp2_with fail
  refine HF.out.mono ?_
  rintro e w0 ⟨rfl, hb0⟩
  have HW := Lib.hid (World.ownsRow_made (base := w0.heap.size) (e := 5) (size := 1) w0 #[] 0 (Nat.le_refl _) (by unfold maxLen; omega) rfl)
  have hbl : Below w0.heap.size w0 (w0.alloc (.cells #[] 5)) := (Below.refl _ _).alloc (Nat.le_refl _) _
  have HX := Lib.hid ((HO.out.below (hb0.trans (hbl.mono hb0.size))).take hmn)
  have HBL := Lib.hid hbl
  clear hbl
  go_upto_region 3 with (fail)
  go_cut [5] (fun s wx => Hid (wx.ownsRow w0.heap.size 5 1 s m (ycells V m)) ∧ Below w.heap.size w wx)
  case first =>
    by_cases hs : (3000 : Int) < (n : Int)
    rotate_left
    · obtain rfl : n = m := by have := HM.out; omega
      go_wp2_with (at_builtin; refine step_append_bytes rfl (.tmp 12) (.tmp 17) rfl rfl HW.out rfl HA.out HX.out HBL.out.size (by omega) ?_; intro v1 w1 hown1 hb1)
      go_meet
      have h := hown1.out
      rw [List.nil_append, Nat.zero_add] at h
      exact ⟨Lib.hid h, hb0.trans ((HBL.out.trans hb1).mono hb0.size)⟩
    · obtain rfl : m = 3000 := by have := HM.out; omega
      have hA3 : A = none → 3000 = 0 ∧ c = 0 := fun e => by have := HA.out e; omega
      go_wp2_with (at_builtin; refine step_append_bytes rfl (.tmp 12) (.tmp 17) rfl rfl HW.out rfl hA3 HX.out HBL.out.size (by omega) ?_; intro v1 w1 hown1 hb1)
      go_meet
      have h := hown1.out
      rw [List.nil_append, Nat.zero_add] at h
      exact ⟨Lib.hid h, hb0.trans ((HBL.out.trans hb1).mono hb0.size)⟩
  case rest =>
    obtain ⟨hown, hB⟩ := hcut
    have hV : ∀ k, k < m → V k < 256 := (HO.out.take hmn).lt
    obtain ⟨X, cx, rfl, hX, hcx, hox⟩ := row_bys hown.out hV
    have HV := Lib.hid hV
    have HOX := Lib.hid hox
    have HP := Lib.hid (put_any X m cx V wc (by omega) hX hox (HT.out.keep hB))
    clear hV hox hown HW HX HBL hb0
    have hk3 := HK.out
    go_wp2_with fail
    rw [hk3]
    clear hk3
    refine HP.out.mono ?_
    rintro e w1 ⟨p, rfl, hp, hb1⟩
    have hB1 := hB.trans (hb1.mono hB.size)
    have HX1 := Lib.hid ((HOX.out.below hb1).mono_ hb1.size)
    have HP1 := Lib.hid hp
    have hbl := fun k => behind_lt (V := V) (n := m) HV.out k
    have HB := Lib.hid hbl
    have hw0 := below_drew' (Below.refl w1.heap.size w1)
    have HRS : ∀ W, Below w1.heap.size w1 W → Hid (Calls Tryd.prog 11 #[.slice X m cx] W fun e w' => e = .returned (.int .u32 ((Pl.sumN V m : Nat) : Int)) ∧ W = w') := fun W hW => Lib.hid (refSum_any X m cx V _ W (by omega) (HX1.out.below hW))
    have HRP : ∀ W, Below w1.heap.size w1 W → Hid (Calls Tryd.prog 12 #[.slice X m cx] W (PutPost W m V)) := fun W hW => Lib.hid (refPut_any X m cx V W (by omega) hX ((HX1.out.below hW).mono_ hW.size))
    have HC : ∀ W, Below w1.heap.size w1 W → (convert 22 9 p).run Tryd.prog W = .ok (.string (bstr (behind V m) (m + 4))) W ∧ (convert 22 9 (.slice X m cx)).run Tryd.prog W = .ok (.string (bstr V m)) W ∧ (convert 22 9 (.slice A m c)).run Tryd.prog W = .ok (.string (bstr V m)) W := fun W hW =>
      ⟨row_conv (ownsRow_keep HP1.out hW) (fun k _ => HB.out k), (HX1.out.below hW).conv cx, (((HO.out.below (hB1.trans (hW.mono hB1.size))).take hmn)).conv c⟩
    have HCC := Lib.hid HC
    have hS := Lib.hid (show ∀ W, Below w1.heap.size w1 W → (convert 22 9 p).run Tryd.prog W = .ok (.string (bstr (behind V m) (m + 4))) W ∧ (convert 22 9 (.slice X m cx)).run Tryd.prog W = .ok (.string (bstr V m)) W ∧ (convert 22 9 (.slice A m c)).run Tryd.prog W = .ok (.string (bstr V m)) W ∧ Below w1.heap.size w1 W from fun W hW => ⟨(HC W hW).1, (HC W hW).2.1, (HC W hW).2.2, hW⟩)
    have hwa := fun o => below_drew' ((Below.refl w1.heap.size w1).alloc (Nat.le_refl _) o)
    have HS3 : ∀ A2, Bys w1 w1.heap.size A2 (m - k) (fun j => V (k + j)) → Hid (Calls Tryd.prog 10 #[.slice (some ⟨w1.heap.size, 0, none⟩) 3 3] (w1.alloc (.cells #[.slice X k cx, .slice none 0 0, .slice A2 (m - k) (cx - k)] 22)).drew fun e w' => e = .returned (.int .u32 ((Pl.sumN V m : Nat) : Int)) ∧ Below w1.heap.size w1.drew w') := fun A2 h2 =>
      Lib.hid (sum_three X A2 m k cx V w1.drew (by omega) hkm1 HX1.out h2 ((HT.out.keep hB1).keep hw0))
    have hmc : (m : Int) ≤ (c : Int) := by omega
    have hkx : (k : Int) ≤ (cx : Int) := by omega
    have hki : (k : Int) ≤ (m : Int) := by omega
    clear HP hp hb1 hbl HC
    go_upto_region 6 with (fail)
    go_cut [57] (fun s wx => s = .bool false ∧ Below w1.heap.size w1 wx)
    case first =>
      obtain ⟨X2, hX2⟩ : ∃ X2, (if cx = k then X else Option.map (fun x => x.add k) X) = X2 := ⟨_, rfl⟩
      have HS1 := HS3 X2 (by
        rw [← hX2]
        split
        · have e : m = k := by omega
          subst e
          rw [Nat.sub_self]
          exact fun j hj => absurd hj (by omega)
        · exact HX1.out.from hkm1)
      clear HS3
      refine wp_region_noPanic ?_
      refine wp_region_held_drew (S := (fun w' => (convert 22 9 p).run Tryd.prog w' = .ok (.string (bstr (behind V m) (m + 4))) w' ∧ (convert 22 9 (.slice X m cx)).run Tryd.prog w' = .ok (.string (bstr V m)) w' ∧ (convert 22 9 (.slice A m c)).run Tryd.prog w' = .ok (.string (bstr V m)) w' ∧ Below w1.heap.size w1 w')) (by kernel_rfl) (hS.out _ hw0) (fun hHeld => ?_)
      refine take_at (i := 0) (d := 29) (v := ?_) rfl rfl (by kernel_rfl) (by kernel_rfl) (by kernel_rfl) (fun _ _ _ h => h) (Or.inl ⟨by rfl, ?_⟩) (by assumption) ?_
      rotate_left
      · intro wS hSw
        go_simp
        all_goals with_reducible rfl
      try simp only [Act.put, List.setIfInBounds_toArray, List.set_cons_zero, List.set_cons_succ]
      refine take_at (i := 1) (d := 30) (v := ?_) rfl rfl (by kernel_rfl) (by kernel_rfl) (by kernel_rfl) (fun _ _ _ h => h) (Or.inl ⟨by rfl, ?_⟩) (by assumption) ?_
      rotate_left
      · intro wS hSw
        go_simp
        all_goals with_reducible rfl
      try simp only [Act.put, List.setIfInBounds_toArray, List.set_cons_zero, List.set_cons_succ]
      refine take_at (i := 2) (d := 31) (v := ?_) rfl rfl (by kernel_rfl) (by kernel_rfl) (by kernel_rfl) (fun _ _ _ h => h) (Or.inl ⟨by rfl, ?_⟩) (by assumption) ?_
      rotate_left
      · intro wS hSw
        go_simp
        all_goals with_reducible rfl
      try simp only [Act.put, List.setIfInBounds_toArray, List.set_cons_zero, List.set_cons_succ]
      refine take_at (i := 3) (d := 32) (v := ?_) rfl rfl (by kernel_rfl) (by kernel_rfl) (by kernel_rfl) (fun _ _ _ h => h) (Or.inl ⟨by rfl, ?_⟩) (by assumption) ?_
      rotate_left
      · intro wS hSw
        go_simp
        all_goals with_reducible rfl
      try simp only [Act.put, List.setIfInBounds_toArray, List.set_cons_zero, List.set_cons_succ]
      refine take_at (i := 4) (d := 33) (v := ?_) rfl rfl (by kernel_rfl) (by kernel_rfl) (by kernel_rfl) (fun _ _ _ h => h) (Or.inl ⟨by rfl, ?_⟩) (by assumption) ?_
      rotate_left
      · intro wS hSw
        go_simp
        all_goals with_reducible rfl
      try simp only [Act.put, List.setIfInBounds_toArray, List.set_cons_zero, List.set_cons_succ]
      refine take_at (i := 5) (d := 34) (v := ?_) rfl rfl (by kernel_rfl) (by kernel_rfl) (by kernel_rfl) (fun _ _ _ h => h) (Or.inl ⟨by rfl, ?_⟩) (by assumption) ?_
      rotate_left
      · intro wS hSw
        go_simp
        all_goals with_reducible rfl
      try simp only [Act.put, List.setIfInBounds_toArray, List.set_cons_zero, List.set_cons_succ]
      refine take_at (i := 8) (d := 37) (v := ?_) rfl rfl (by kernel_rfl) (by kernel_rfl) (by kernel_rfl) (fun _ _ _ h => h) (Or.inl ⟨by rfl, ?_⟩) (by assumption) ?_
      rotate_left
      · intro wS hSw
        go_simp
        all_goals with_reducible rfl
      try simp only [Act.put, List.setIfInBounds_toArray, List.set_cons_zero, List.set_cons_succ]
      refine wpAnyH_ready (rs := [6]) (by kernel_rfl) (by simp) ?_
      refine AllReadyH.cons rfl (fun K hK => ?_) AllReadyH.nil
      go_simp
      refine hK.out _ _ ?_ (fun hHeld => ?_)
      · exact hS.out _ (hwa _)
      clear hK K
      try simp only [Act.put, List.setIfInBounds_toArray, List.set_cons_zero, List.set_cons_succ]
      refine wpAnyH_ready (rs := [7]) (by kernel_rfl) (by simp) ?_
      refine AllReadyH.cons rfl (fun K hK => ?_) AllReadyH.nil
      go_simp
      refine HS1.out.mono ?_
      rintro e x1 ⟨rfl, hc1⟩
      have hC1 := hw0.trans (hc1.mono hw0.size)
      have HR1 := HRS x1 hC1
      have HR2 := HRP x1 hC1
      refine hK.out _ _ ?_ (fun hHeld => ?_)
      · exact hS.out _ hC1
      clear hK K
      try simp only [Act.put, List.setIfInBounds_toArray, List.set_cons_zero, List.set_cons_succ]
      refine wpAnyH_ready (rs := [9]) (by kernel_rfl) (by simp) ?_
      refine AllReadyH.cons rfl (fun K hK => ?_) AllReadyH.nil
      go_simp
      refine HR1.out.mono ?_
      rintro e x2 ⟨rfl, rfl⟩
      refine hK.out _ _ ?_ (fun hHeld => ?_)
      · exact hS.out _ hC1
      clear hK K
      try simp only [Act.put, List.setIfInBounds_toArray, List.set_cons_zero, List.set_cons_succ]
      refine take_at (i := 10) (d := 39) (v := ?_) rfl rfl (by kernel_rfl) (by kernel_rfl) (by kernel_rfl) (fun _ _ _ h => h) (Or.inl ⟨by rfl, ?_⟩) (by assumption) ?_
      rotate_left
      · intro wS hSw
        go_simp
        all_goals with_reducible rfl
      try simp only [Act.put, List.setIfInBounds_toArray, List.set_cons_zero, List.set_cons_succ]
      refine take_at (i := 11) (d := 40) (v := ?_) rfl rfl (by kernel_rfl) (by kernel_rfl) (by kernel_rfl) (fun _ _ _ h => h) (Or.inl ⟨by rfl, ?_⟩) (by assumption) ?_
      rotate_left
      · intro wS hSw
        go_simp
        all_goals with_reducible rfl
      try simp only [Act.put, List.setIfInBounds_toArray, List.set_cons_zero, List.set_cons_succ]
      refine take_at (i := 12) (d := 41) (v := ?_) rfl rfl (by kernel_rfl) (by kernel_rfl) (by kernel_rfl) (fun _ _ _ h => h) (Or.inl ⟨by rfl, ?_⟩) (by assumption) ?_
      rotate_left
      · intro wS hSw
        go_simp
        all_goals with_reducible rfl
      try simp only [Act.put, List.setIfInBounds_toArray, List.set_cons_zero, List.set_cons_succ]
      refine take_at (i := 13) (d := 42) (v := ?_) rfl rfl (by kernel_rfl) (by kernel_rfl) (by kernel_rfl) (fun _ _ _ h => h) (Or.inl ⟨by rfl, ?_⟩) (by assumption) ?_
      rotate_left
      · intro wS hSw
        go_simp
        all_goals with_reducible rfl
      try simp only [Act.put, List.setIfInBounds_toArray, List.set_cons_zero, List.set_cons_succ]
      refine take_at (i := 14) (d := 43) (v := ?_) rfl rfl (by kernel_rfl) (by kernel_rfl) (by kernel_rfl) (fun _ _ _ h => h) (Or.inl ⟨by rfl, ?_⟩) (by assumption) ?_
      rotate_left
      · intro wS hSw
        go_simp
        all_goals with_reducible rfl
      try simp only [Act.put, List.setIfInBounds_toArray, List.set_cons_zero, List.set_cons_succ]
      refine wpAnyH_ready (rs := [15]) (by kernel_rfl) (by simp) ?_
      refine AllReadyH.cons rfl (fun K hK => ?_) AllReadyH.nil
      go_simp
      refine HR2.out.mono ?_
      rintro e x3 ⟨u, rfl, hu, hc3⟩
      have hC3 := hC1.trans (hc3.mono hC1.size)
      have hcv := row_conv hu (fun k _ => HB.out k)
      refine hK.out _ _ ?_ (fun hHeld => ?_)
      · exact hS.out _ hC3
      clear hK K
      try simp only [Act.put, List.setIfInBounds_toArray, List.set_cons_zero, List.set_cons_succ]
      refine wpAnyH_ready (rs := [16]) (by kernel_rfl) (by simp) ?_
      refine AllReadyH.cons rfl (fun K hK => ?_) AllReadyH.nil
      go_simp
      refine hK.out _ _ ?_ (fun hHeld => ?_)
      · exact hS.out _ hC3
      clear hK K
      try simp only [Act.put, List.setIfInBounds_toArray, List.set_cons_zero, List.set_cons_succ]
      refine take_at (i := 17) (d := 46) (v := ?_) rfl rfl (by kernel_rfl) (by kernel_rfl) (by kernel_rfl) (fun _ _ _ h => h) (Or.inl ⟨by rfl, ?_⟩) (by assumption) ?_
      rotate_left
      · intro wS hSw
        go_simp
        all_goals with_reducible rfl
      try simp only [Act.put, List.setIfInBounds_toArray, List.set_cons_zero, List.set_cons_succ]
      refine take_at (i := 18) (d := 47) (v := ?_) rfl rfl (by kernel_rfl) (by kernel_rfl) (by kernel_rfl) (fun _ _ _ h => h) (Or.inl ⟨by rfl, ?_⟩) (by assumption) ?_
      rotate_left
      · intro wS hSw
        go_simp
        all_goals with_reducible rfl
      try simp only [Act.put, List.setIfInBounds_toArray, List.set_cons_zero, List.set_cons_succ]
      refine take_at (i := 19) (d := 48) (v := ?_) rfl rfl (by kernel_rfl) (by kernel_rfl) (by kernel_rfl) (fun _ _ _ h => h) (Or.inl ⟨by rfl, ?_⟩) (by assumption) ?_
      rotate_left
      · intro wS hSw
        go_simp
        all_goals with_reducible rfl
      try simp only [Act.put, List.setIfInBounds_toArray, List.set_cons_zero, List.set_cons_succ]
      refine take_at (i := 20) (d := 49) (v := ?_) rfl rfl (by kernel_rfl) (by kernel_rfl) (by kernel_rfl) (fun _ _ _ h => h) (Or.inl ⟨by rfl, ?_⟩) (by assumption) ?_
      rotate_left
      · intro wS hSw
        go_simp
        all_goals with_reducible rfl
      try simp only [Act.put, List.setIfInBounds_toArray, List.set_cons_zero, List.set_cons_succ]
      refine take_at (i := 21) (d := 50) (v := ?_) rfl rfl (by kernel_rfl) (by kernel_rfl) (by kernel_rfl) (fun _ _ _ h => h) (Or.inl ⟨by rfl, ?_⟩) (by assumption) ?_
      rotate_left
      · intro wS hSw
        go_simp
        all_goals with_reducible rfl
      try simp only [Act.put, List.setIfInBounds_toArray, List.set_cons_zero, List.set_cons_succ]
      refine take_at (i := 22) (d := 51) (v := ?_) rfl rfl (by kernel_rfl) (by kernel_rfl) (by kernel_rfl) (fun _ _ _ h => h) (Or.inl ⟨by rfl, ?_⟩) (by assumption) ?_
      rotate_left
      · intro wS hSw
        go_simp
        all_goals with_reducible rfl
      try simp only [Act.put, List.setIfInBounds_toArray, List.set_cons_zero, List.set_cons_succ]
      refine take_at (i := 23) (d := 52) (v := ?_) rfl rfl (by kernel_rfl) (by kernel_rfl) (by kernel_rfl) (fun _ _ _ h => h) (Or.inl ⟨by rfl, ?_⟩) (by assumption) ?_
      rotate_left
      · intro wS hSw
        go_simp
        all_goals with_reducible rfl
      try simp only [Act.put, List.setIfInBounds_toArray, List.set_cons_zero, List.set_cons_succ]
      refine take_at (i := 24) (d := 53) (v := ?_) rfl rfl (by kernel_rfl) (by kernel_rfl) (by kernel_rfl) (fun _ _ _ h => h) (Or.inl ⟨by rfl, ?_⟩) (by assumption) ?_
      rotate_left
      · intro wS hSw
        go_simp
        all_goals with_reducible rfl
      try simp only [Act.put, List.setIfInBounds_toArray, List.set_cons_zero, List.set_cons_succ]
      refine take_at (i := 25) (d := 54) (v := ?_) rfl rfl (by kernel_rfl) (by kernel_rfl) (by kernel_rfl) (fun _ _ _ h => h) (Or.inl ⟨by rfl, ?_⟩) (by assumption) ?_
      rotate_left
      · intro wS hSw
        go_simp
        all_goals with_reducible rfl
      try simp only [Act.put, List.setIfInBounds_toArray, List.set_cons_zero, List.set_cons_succ]
      refine take_at (i := 26) (d := 55) (v := ?_) rfl rfl (by kernel_rfl) (by kernel_rfl) (by kernel_rfl) (fun _ _ _ h => h) (Or.inl ⟨by rfl, ?_⟩) (by assumption) ?_
      rotate_left
      · intro wS hSw
        go_simp
        all_goals with_reducible rfl
      try simp only [Act.put, List.setIfInBounds_toArray, List.set_cons_zero, List.set_cons_succ]
      refine take_at (i := 27) (d := 56) (v := ?_) rfl rfl (by kernel_rfl) (by kernel_rfl) (by kernel_rfl) (fun _ _ _ h => h) (Or.inl ⟨by rfl, ?_⟩) (by assumption) ?_
      rotate_left
      · intro wS hSw
        go_simp
        all_goals with_reducible rfl
      try simp only [Act.put, List.setIfInBounds_toArray, List.set_cons_zero, List.set_cons_succ]
      refine take_at (i := 28) (d := 57) (v := ?_) rfl rfl (by kernel_rfl) (by kernel_rfl) (by kernel_rfl) (fun _ _ _ h => h) (Or.inl ⟨by rfl, ?_⟩) (by assumption) ?_
      rotate_left
      · intro wS hSw
        go_simp
        all_goals with_reducible rfl
      try simp only [Act.put, List.setIfInBounds_toArray, List.set_cons_zero, List.set_cons_succ]
      refine wpAnyH_done (by kernel_rfl) ?_ _
      refine NoPanic.normal ?_
      go_wp2_with fail
      go_meet
      exact And.intro rfl hC3
    case rest =>
      obtain ⟨rfl, hC⟩ := hcut
      have hB2 := hB1.trans (hC.mono hB1.size)
      have HP2 := Lib.hid (ownsRow_keep HP1.out hC)
      have HX2 := Lib.hid (HX1.out.below hC)
      have hCs := hC.size
      have HK2 := Lib.hid (cut_put (n := m) (by omega) HP2.out HV.out (HT.out.keep hB2))
      clear HP1 HX1 HRS HRP HCC hS HS3 hC hwa hw0
      go_wp2_with fail
      refine HK2.out.mono ?_
      rintro e w5 ⟨z, rfl, hz, hb5⟩
      have hc1 := row_conv hz HV.out
      have hc2 := Bys.conv (HX2.out.below (hb5.mono hCs)) cx
      have hB5 := hB2.trans (hb5.mono hB2.size)
      clear HK2 hb5
      go_wp2_with fail
      go_ret
      exact ⟨rfl, hB5⟩

theorem own : ownKnob Tryd.prog.godebug = none := by kernel_rfl
theorem laidOut : laidOutB Tryd.prog = true := by kernel_rfl

set_option linter.unusedSimpArgs false in
set_option maxRecDepth 100000 in
theorem lifted (os : Os) (started : os.Started) (H : Type) (enc : TypeId × Value → H) :
    ReturnsInHanded {} Tryd.checked os 3 .any (fun w args => (Rows.crcPutsSpec.pre enc Tryd.prog Tryd.f3 [] false w args ∧ laidMetH Tryd.prog laidL w) ∧ sizedMet enc Tryd.prog Tryd.f3 (OpenSpec.ofChange Rows.crcPutsSpec) false w args)
      (Rows.crcPutsSpec.post enc Tryd.prog Tryd.f3 false true false false) := by
  refine returnsInHanded_of_change_and (C := Tryd.checked) (X := fun w _ => laidMetH Tryd.prog laidL w) (fun _ _ _ hh h => h.of_heap hh) own started (by kernel_rfl) Tryd.func3
    (ChangeSpec.witness_shaped (enc := enc) (C := Tryd.checked) (os := os) (X := fun w _ => laidMetH Tryd.prog laidL w) false (World.doorLaid Tryd.prog 400 os) #[.slice none 0 0, .int .i64 0] 8 rfl (World.shaped_of_RefB (by kernel_rfl) (by kernel_rfl)) (by kernel_rfl) (by kernel_rfl) (by kernel_rfl) (door_met os _)) ?_
  intro W base args ds gs before hval0 hW _ _ hL _
  have hval : ∀ (j : Nat) t v, Tryd.f3.params[j]? = some t → args[j]? = some v → Value.okWide Tryd.prog W .any base t v := hval0
  have hW' := hW
  obtain ⟨p, q, hA0, hV, rfl, hfz, hnd⟩ := hW
  have hA : DataW.TrodAll enc Tryd.prog W 0 (fun _ => true) true Tryd.f3.params.toList args.toList ds p := hA0
  rw [Tryd.params3] at hA hval
  obtain ⟨v0, v1, d0, d1, p0, p1, rfl, rfl, rfl, h0, h1⟩ := trodAll_two hA
  obtain ⟨rfl, rfl⟩ := trodVars_none hV
  obtain ⟨A0, n0, c0, V0, rfl, hn0, hz0, hc0, ho0⟩ := open_bytesc (hval 0 22 v0 rfl rfl) h0
  obtain ⟨a1, rfl, rfl, rfl, wa1⟩ := open_int Tryd.underlying3 (hval 1 3 v1 rfl rfl) h1
  clear hA0 hval0
  refine (walk A0 n0 c0 V0 a1 W hn0 hz0 hc0 ho0 wa1 (tabs_of_laid hL)).mono fun e W' ⟨he, hg⟩ => ?_
  subst he
  exact ⟨_, rfl, law_post laidOut rfl rfl rfl (by rw [Tryd.params3]; decide +kernel) hW' hg⟩

/-- The row. -/
theorem holds : Rows.CrcPutsSaid :=
  OpenClaim.holds_of_wide 3 Tryd.f3 rfl rfl rfl rfl rfl rfl rfl ⟨rfl, rfl, rfl, rfl, rfl⟩ rfl rfl rfl rfl rfl (by kernel_rfl) Tryd.func3 (by kernel_rfl)
    (of_decide_eq_true (by kernel_rfl)) (by unfold Func.isWrapper; first | (rw [if_pos (by decide +kernel)]; kernel_rfl) | (rw [if_neg (by decide +kernel)]; exact ⟨rfl, rfl⟩))
    (fun os started H enc _ => lifted os started H enc)
/-- The statement: the row's card. -/
theorem proved : Rows.CrcPutsCardSaid :=
  Claim7.holds_tied_plain_at .later [] Rows.crcPutsCard.laidKinds Rows.crcPutsCard.laidTests Rows.crcPutsCard.stood.harness Rows.crcPutsCard.stood.looks
    holds (fun _ h => by cases h) (by kernel_rfl) (fun _ h => by cases h) crcPuts_row_tie rfl ⟨rfl, rfl⟩ (by kernel_rfl) rfl
    (fun f fn hf hfn => by
      obtain rfl : f = 3 := Option.some.inj ((show Tryd.prog.funcNamed "colophon/colophonlaw04.CrcPuts" = some 3 by kernel_rfl).symm.trans hf) |>.symm
      obtain rfl : fn = Tryd.f3 := (Option.some.inj (Tryd.func3.symm.trans hfn)).symm
      exact ⟨by kernel_rfl, fun j t ht => by
        have hm : t ∈ Tryd.f3.params.toList := by simpa using Array.mem_of_getElem? ht
        have hall : (Tryd.f3.params.toList.all fun u => !Tryd.prog.wantsStandIn u) = true := by kernel_rfl
        exact (show Tryd.prog.wantsStandIn t = false by simpa using List.all_eq_true.1 hall t hm)⟩)
    (by kernel_rfl)
#print axioms proved
end Go.Proofs.YtfpmipfegjchmaaDoor.crcPuts
