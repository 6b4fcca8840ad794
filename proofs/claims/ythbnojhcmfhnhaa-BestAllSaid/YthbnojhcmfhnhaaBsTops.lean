/- The walk of colophonlaw18.BestTops, over what packages wave and best answer (MatI, BestI). -/
import Derived.Test.YthbnojhcmfhnhaaBestI
import Derived.Deep.RegionHeld3
namespace Go.Proofs.Ythbnojhcmfhnhaa
open Go.RowKit
theorem PrsR.take {w : World} {A : Option Addr} {D : List (Int × Nat)} (h : PrsR w A D) (k : Nat) : PrsR w A (D.take k) := ⟨by
  have := h.1
  rw [List.length_take]
  omega, fun i d hd => by
  have hk : i < k := by
    have := (List.getElem?_eq_some_iff.1 hd).1
    rw [List.length_take] at this
    omega
  rw [List.getElem?_take_of_lt hk] at hd
  exact h.2 i d hd⟩
theorem PrsR.of_own_room {w : World} {B : Nat} {v : Value} {D : List (Int × Nat)} (h : w.ownsRow B 39 2 v D.length (prcells D)) (hl : D.length ≤ 4194304) (hm : ∀ d ∈ D, d.2 ≤ 4194304) : ∃ A c, v = .slice A D.length c ∧ D.length ≤ c ∧ c ≤ maxLen ∧ PrsR w A D := by
  obtain ⟨A, c, e, hp⟩ := PrsR.of_own h hl hm
  refine ⟨A, c, e, ?_, ?_, hp⟩
  · rcases h.2 with ⟨e', h0⟩ | ⟨g, cap, cur, e', _, _, h1, h2, _⟩
    · rw [e] at e'
      injection e' with _ _ q3
      omega
    · rw [e] at e'
      cases e'
      exact h1
  · rcases h.2 with ⟨e', h0⟩ | ⟨g, cap, cur, e', _, _, h1, h2, _⟩
    · rw [e] at e'
      injection e' with _ _ q3
      omega
    · rw [e] at e'
      cases e'
      exact h2
theorem takeL_lit (l : List Int) : takeL (litI l) l.length = l := takeL_is (fun _ hk => litI_some hk)
section
variable {At : Nat → World → Value → Nat → (Nat → Int) → Nat → Prop} {St : Nat → Nat → (Nat → Prop) → World → Value → List Int → List (Int × Nat) → Prop}

set_option maxRecDepth 100000 in
set_option maxHeartbeats 3200000 in
theorem bsTops_walk (I : MatI At) (J : BestI At St) (A : Option Addr) (n ca : Nat) (V : Nat → Int) (x0 x1 k : Int) (w : World) (hx0 : (Lit.int .i64 x0).wf = true) (hx1 : (Lit.int .i64 x1).wf = true) (hk : (Lit.int .i64 k).wf = true) (ho : ItsR w A n ca V) :
    Calls Try.prog 3 #[.slice A n ca, .agg #[.int .i64 x0, .int .i64 x1], .int .i64 k] w fun e w' => e = .returned (.bool true) ∧ Below w.heap.size w w' := by
  have HI := Lib.hid I
  have HJ := Lib.hid J
  have hbx : Below w.heap.size w (w.alloc (.cells #[.int .i64 x0, .int .i64 x1] 23)) := (Below.refl _ _).alloc (Nat.le_refl _) _
  have HL := Lib.hid (lies_new w 23 [.int .i64 x0, .int .i64 x1])
  have HO := Lib.hid (ho.below hbx)
  have HF := Lib.hid (bfirst18_any I J (w.alloc (.cells #[.int .i64 x0, .int .i64 x1] 23)))
  have HW := Lib.hid (And.intro hx0 (And.intro hx1 hk))
  have hnm : n ≤ maxLen := by have := ho.2.1; have := ho.2.2.1; omega
  have hnl : n ≤ 9223372036854775807 := by unfold maxLen at hnm; omega
  have hsz := size_alloc w (.cells #[.int .i64 x0, .int .i64 x1] 23)
  have hkb := i64_in hk
  clear I J ho hx0 hx1 hk
  by_cases hbig : 300 < n
  · have hdd : decide ((300 : Int) < (n : Int)) = true := decide_eq_true (by omega)
    clear hsz hkb
    go_enter Try.func3, Try.ntmps3
    go_wp2_with fail
    refine HF.out.mono ?_
    rintro e w0 ⟨rfl, hb0⟩
    have hB0 := hbx.trans (hb0.mono hbx.size)
    go_wp2_with fail
    go_ret
    exact ⟨rfl, hB0⟩
  · have hdd : decide ((300 : Int) < (n : Int)) = false := decide_eq_false (by omega)
    have hn : n ≤ 300 := by omega
    have HSz := Lib.hid hsz
    have HKb := Lib.hid hkb
    obtain ⟨r, hr⟩ : ∃ r : Bool, r = true ↔ RightS V n 301 := ⟨@decide _ (Classical.propDecidable _), @decide_eq_true_iff _ (Classical.propDecidable _)⟩
    have HR := Lib.hid hr
    clear hsz hr hkb
    go_enter Try.func3, Try.ntmps3
    go_wp2_with fail
    refine HF.out.mono ?_
    rintro e w0 ⟨rfl, hb0⟩
    have HB0 := Lib.hid (hbx.trans (hb0.mono hbx.size))
    have HO0 := Lib.hid (HO.out.below hb0)
    have HL0 := Lib.hid (HL.out.below hb0 (by rw [HSz.out]; omega))
    have hz0 : w.heap.size < w0.heap.size := by have := hb0.size; have := HSz.out; omega
    have HRt := Lib.hid (refRightS_is A n ca V 301 _ w0 hnm HO0.out.2.2.2 r HR.out)
    clear HF hb0 HO HL hbx
    go_wp2_with fail
    refine HRt.out.mono ?_
    rintro e w1 ⟨rfl, rfl⟩
    rcases r with _ | _
    · clear HRt
      go_wp2_with fail
      go_ret
      exact ⟨rfl, HB0.out⟩
    · have HRw : Hid (RightW V n 300) := Lib.hid (rightW_is.2 ⟨⟨by decide, by decide⟩, HR.out.1 rfl⟩)
      have HMd := Lib.hid (HI.out.new A n ca V 300 w0 (by omega) (by decide) HO0.out)
      clear HRt HR
      go_wp2_with fail
      refine HMd.out.mono ?_
      rintro e w2 ⟨h1, _, hb2⟩
      obtain ⟨v, rfl, hAt⟩ := h1 HRw.out
      obtain ⟨pa, rfl⟩ := HI.out.ptr hAt
      have HB2 := Lib.hid (HB0.out.trans (hb2.mono HB0.out.size))
      have HA2 : Hid (At w0.heap.size w2 (.pointer (some pa)) n V 300) := Lib.hid hAt
      have HO2 := Lib.hid (HO0.out.below hb2)
      have HL2 := Lib.hid (HL0.out.below hb2 hz0)
      have hz2 : w.heap.size < w2.heap.size := by have := hb2.size; omega
      have c0 : w2.cell? ⟨w.heap.size, 0, none⟩ = some (.int .i64 x0) := HL2.out.cell 0
      have c1 : w2.cell? ⟨w.heap.size, 1, none⟩ = some (.int .i64 x1) := HL2.out.cell 1
      have HPt := Lib.hid (refPart_any A n ca V x0 x1 w2 (by omega) HO2.out.2.2.2)
      have HVs := Lib.hid HO2.out.2.2.2.small
      clear h1 hAt hb2 HMd HO0 HB0 HL0 hz0
      go_wp2_with fail
      refine HPt.out.mono ?_
      rintro e w3 ⟨u, rfl, hown, hb3⟩
      have HBs : Hid (∀ W, Below w3.heap.size w3 W → At w0.heap.size W (.pointer (some pa)) n V 300) := Lib.hid fun W h => HI.out.keep (HI.out.keep HA2.out hb3) h
      have HB3 := Lib.hid (HB2.out.trans (hb3.mono HB2.out.size))
      have HL3 := Lib.hid (HL2.out.below hb3 hz2)
      have hz3 : w.heap.size < w3.heap.size := by have := hb3.size; omega
      have hlen := partL_le V x0 x1 n
      obtain ⟨l, hl⟩ : ∃ l, partL V x0 x1 n = l := ⟨_, rfl⟩
      have hlm : ∀ x ∈ l, -9223372036854775808 ≤ x ∧ x ≤ 9223372036854775807 := fun x hx => by
        rw [← hl] at hx
        obtain ⟨i, hi, _, _, e⟩ := mem_partL.1 hx
        rw [← e]
        exact HVs.out i hi
      rw [hl] at hown hlen
      have HLq := Lib.hid hl
      obtain ⟨X, cX, eX, hIx⟩ := ItsR.of_own hown (fun j hj => by
        have h := litI_some (l := l) (k := j) hj
        exact hlm _ (List.mem_of_getElem? h))
      subst eX
      have HRk := Lib.hid (refRanked_any X l.length cX (litI l) w3 (by omega) hIx.2.2.2)
      rw [takeL_lit] at HRk
      obtain ⟨m, hm⟩ : ∃ m, l.length = m := ⟨_, rfl⟩
      rw [hm] at HRk hlen
      have HLm := Lib.hid hm
      clear hown hb3 HPt HB2 HL2 hz2 c0 c1 HA2 HO2 hIx hlm HVs
      rw [hm]
      clear hl hm
      go_wp2_with fail
      refine HRk.out.mono ?_
      rintro e w4 ⟨u, R, rfl, hBest, hRn, hown, hb4⟩
      have hcnt : ∀ d ∈ R, d.2 ≤ 4194304 := fun d hd => by
        have h := (hBest.many d hd).1
        have h2 := List.countP_le_length (p := fun x => decide (x = d.1)) (l := l)
        have h3 := HLm.out
        omega
      obtain ⟨A2, c2, eA, hcr, hcm, hPr⟩ := PrsR.of_own_room hown (by omega) hcnt
      subst eA
      obtain ⟨nr, hnr⟩ : ∃ nr, R.length = nr := ⟨_, rfl⟩
      obtain ⟨T, hT⟩ : ∃ T, R.take k.toNat = T := ⟨_, rfl⟩
      obtain ⟨tl, htl⟩ : ∃ tl, T.length = tl := ⟨_, rfl⟩
      have htl2 : tl = min k.toNat nr := by rw [← htl, ← hT, List.length_take, hnr]
      have HB4 := Lib.hid (HB3.out.trans (hb4.mono HB3.out.size))
      have HL4 := Lib.hid (HL3.out.below hb4 hz3)
      have hz4 : w.heap.size < w4.heap.size := by have := hb4.size; omega
      have HTop : Hid (∀ W, Below w4.heap.size w4 W → Calls Try.prog 13 #[.pointer (some pa), .int .i64 x0, .int .i64 x1, .int .i64 k] W fun e w' => (∃ (A9 : Option Addr) (c9 : Nat), e = .returned (.slice A9 tl c9) ∧ PrsR w' A9 T) ∧ Below w4.heap.size w4 w') := Lib.hid fun W h => (HJ.out.top _ _ _ _ _ x0 x1 k W HW.out.1 HW.out.2.1 HW.out.2.2 (HBs.out W (hb4.trans (h.mono hb4.size)))).mono fun e w' hh => by
        obtain ⟨⟨A9, c9, T', e1, _, ⟨R', hR', hT'⟩, hP'⟩, hb'⟩ := hh
        rw [HLq.out] at hR'
        obtain rfl := hR'.one hBest
        rw [hT] at hT'
        subst hT'
        exact ⟨⟨A9, c9, by rw [e1, htl], hP'⟩, h.trans (hb'.mono h.size)⟩
      have HSame : Hid (∀ W A9 c9, Below w4.heap.size w4 W → PrsR W A9 T → Calls Try.prog 12 #[.slice A9 tl c9, .slice A2 tl c2] W fun e w' => e = .returned (.bool true) ∧ Below w4.heap.size w4 w') := Lib.hid fun W A9 c9 h hp => by
        have hs := refSameP_any A9 A2 c9 c2 T W hp (by rw [← hT]; exact (hPr.below h).take _)
        rw [htl] at hs
        exact hs.mono fun e w' hh => ⟨hh.1, h.trans (hh.2.mono h.size)⟩
      have HV : Hid (∀ W, Below w4.heap.size w4 W → (W.cell? ⟨w.heap.size, 0, none⟩ = some (.int .i64 x0) ∧ W.cell? ⟨w.heap.size, 1, none⟩ = some (.int .i64 x1)) ∧ Below w4.heap.size w4 W) := Lib.hid fun W h => ⟨⟨(HL4.out.below h hz4).cell 0, (HL4.out.below h hz4).cell 1⟩, h⟩
      have hbd0 := below_drew' (Below.refl w4.heap.size w4)
      rw [hnr] at hcr ⊢
      have hnr3 : nr ≤ 300 := by omega
      have hc63 : c2 ≤ 9223372036854775807 := by unfold maxLen at hcm; omega
      have htl3 : tl ≤ c2 := by omega
      clear hPr hown hb4 hT htl hnr HRk HBs HB3 HL3 hz3 hBest hcnt hRn HLq hlen hcm HSz
      go_upto_region 7 with (fail)
      go_cut [6] (fun s wx => s = .bool true ∧ Below w4.heap.size w4 wx)
      case first =>
        obtain ⟨mk, hif1⟩ : ∃ mk : Int, (if (nr : Int) < k then (nr : Int) else k) = mk := ⟨_, rfl⟩
        have hif2 : (if (0 : Int) < mk then mk else 0) = (tl : Int) := by
          rw [← hif1]
          by_cases h1 : (nr : Int) < k
          · rw [if_pos h1]
            by_cases h2 : (0 : Int) < (nr : Int)
            · rw [if_pos h2]
              omega
            · rw [if_neg h2]
              omega
          · rw [if_neg h1]
            by_cases h2 : (0 : Int) < k
            · rw [if_pos h2]
              omega
            · rw [if_neg h2]
              omega
        have k1 : (0 : Int) ≤ (tl : Int) := by omega
        have k2 : (tl : Int) ≤ (c2 : Int) := by omega
        clear htl2
        go_region_held3 (fun w' => (w'.cell? ⟨w.heap.size, 0, none⟩ = some (.int .i64 x0) ∧ w'.cell? ⟨w.heap.size, 1, none⟩ = some (.int .i64 x1)) ∧ Below w4.heap.size w4 w')
          ((first
            | exact HV.out _ hbd0
            | exact HV.out _ hC2
            | exact HV.out _ hC1))
          ((first
            | (go_at_call 12; (with_reducible refine (HSame.out _ _ _ hC1 hP9).mono ?_); rintro e w' ⟨rfl, hC2⟩)
            | (go_at_call 13; (with_reducible refine (HTop.out _ hbd0).mono ?_); rintro e w' ⟨⟨A9, c9, rfl, hP9⟩, hC1⟩)))
        all_goals first
          | (go_meet; exact ⟨rfl, hC2⟩)
          | (go_wp2_with fail; go_meet; exact ⟨rfl, hC2⟩)
      case rest =>
        obtain ⟨rfl, hCx⟩ := hcut
        have HB5 := Lib.hid (HB4.out.trans (hCx.mono HB4.out.size))
        clear hCx HV HTop HSame
        go_wp2_with fail
        go_ret
        exact ⟨rfl, HB5.out⟩
end
end Go.Proofs.Ythbnojhcmfhnhaa
