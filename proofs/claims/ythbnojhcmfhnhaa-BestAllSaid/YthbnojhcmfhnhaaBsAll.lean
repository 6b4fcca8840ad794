/- The walk of colophonlaw18.BestAll, over what packages wave and best answer (MatI, BestI). -/
import Derived.Test.YthbnojhcmfhnhaaBsTops
import Derived.Test.YthbnojhcmfhnhaaBestGo
namespace Go.Proofs.Ythbnojhcmfhnhaa
open Go.RowKit
theorem width255 : widthN 255 = 8 := by
  rw [widthN_up (by decide), widthN_up (by decide), widthN_up (by decide), widthN_up (by decide), widthN_up (by decide), widthN_up (by decide), widthN_up (by decide), widthN_low (by decide)]
/-- how the law stands: i steps, al numbers in all, id steps since the last number, k numbers told. -/
def BsS (St : Nat → Nat → (Nat → Prop) → World → Value → List Int → List (Int × Nat) → Prop) (B H : Nat) (wH : World) (sv : Value) (l : List Int) (n1 g9 : Nat) (wr : World) (i al id k : Nat) : Prop :=
  ∃ (P T : List (Int × Nat)) (I : Nat) (F : Nat → Prop) (lx : Int) (lc : Nat),
    SInv 8 l P T I ∧ (i = I + T.length ∧ al = (T.map Prod.snd).sum ∧ id ≤ I ∧ k = T.length) ∧
    St B H F wr sv l P ∧ (∀ j, F j → H ≤ j ∧ j < wr.heap.size ∧ j ≠ g9) ∧
    Lies wr g9 39 [.int .i64 lx, .int .i64 ((lc : Nat) : Int)] ∧ ((T = [] ∧ lc = n1) ∨ (lx, lc) ∈ T) ∧ Below H wH wr ∧ H ≤ g9 ∧ g9 < wr.heap.size
section
variable {At : Nat → World → Value → Nat → (Nat → Int) → Nat → Prop} {St : Nat → Nat → (Nat → Prop) → World → Value → List Int → List (Int × Nat) → Prop}

set_option maxRecDepth 100000 in
set_option maxHeartbeats 3200000 in
theorem bsAll_walk (I : MatI At) (J : BestI At St) (A : Option Addr) (n ca : Nat) (V : Nat → Int) (x0 x1 : Int) (w : World) (hx0 : (Lit.int .i64 x0).wf = true) (hx1 : (Lit.int .i64 x1).wf = true) (ho : ItsR w A n ca V) :
    Calls Try.prog 4 #[.slice A n ca, .agg #[.int .i64 x0, .int .i64 x1]] w fun e w' => e = .returned (.bool true) ∧ Below w.heap.size w w' := by
  have HI := Lib.hid I
  have HJ := Lib.hid J
  have hbx : Below w.heap.size w (w.alloc (.cells #[.int .i64 x0, .int .i64 x1] 23)) := (Below.refl _ _).alloc (Nat.le_refl _) _
  have HL := Lib.hid (lies_new w 23 [.int .i64 x0, .int .i64 x1])
  have HO := Lib.hid (ho.below hbx)
  have HF := Lib.hid (bfirst18_any I J (w.alloc (.cells #[.int .i64 x0, .int .i64 x1] 23)))
  have HW := Lib.hid (And.intro hx0 hx1)
  have hnm : n ≤ maxLen := by have := ho.2.1; have := ho.2.2.1; omega
  have hnl : n ≤ 9223372036854775807 := by unfold maxLen at hnm; omega
  have hsz := size_alloc w (.cells #[.int .i64 x0, .int .i64 x1] 23)
  clear I J ho hx0 hx1
  by_cases hbig : 200 < n
  · have hdd : decide ((200 : Int) < (n : Int)) = true := decide_eq_true (by omega)
    clear hsz
    go_enter Try.func4, Try.ntmps4
    go_wp2_with fail
    refine HF.out.mono ?_
    rintro e w0 ⟨rfl, hb0⟩
    have hB0 := hbx.trans (hb0.mono hbx.size)
    go_wp2_with fail
    go_ret
    exact ⟨rfl, hB0⟩
  · have hdd : decide ((200 : Int) < (n : Int)) = false := decide_eq_false (by omega)
    have hn : n ≤ 200 := by omega
    have HSz := Lib.hid hsz
    obtain ⟨r, hr⟩ : ∃ r : Bool, r = true ↔ RightS V n 256 := ⟨@decide _ (Classical.propDecidable _), @decide_eq_true_iff _ (Classical.propDecidable _)⟩
    have HR := Lib.hid hr
    clear hsz hr
    go_enter Try.func4, Try.ntmps4
    go_wp2_with fail
    refine HF.out.mono ?_
    rintro e w0 ⟨rfl, hb0⟩
    have HB0 := Lib.hid (hbx.trans (hb0.mono hbx.size))
    have HO0 := Lib.hid (HO.out.below hb0)
    have HL0 := Lib.hid (HL.out.below hb0 (by rw [HSz.out]; omega))
    have hz0 : w.heap.size < w0.heap.size := by have := hb0.size; have := HSz.out; omega
    have HRt := Lib.hid (refRightS_is A n ca V 256 _ w0 hnm HO0.out.2.2.2 r HR.out)
    clear HF hb0 HO HL hbx
    go_wp2_with fail
    refine HRt.out.mono ?_
    rintro e w1 ⟨rfl, rfl⟩
    rcases r with _ | _
    · clear HRt
      go_wp2_with fail
      go_ret
      exact ⟨rfl, HB0.out⟩
    · have HRw : Hid (RightW V n 255) := Lib.hid (rightW_is.2 ⟨⟨by decide, by decide⟩, HR.out.1 rfl⟩)
      have HMd := Lib.hid (HI.out.new A n ca V 255 w0 (by omega) (by decide) HO0.out)
      clear HRt HR
      go_wp2_with fail
      refine HMd.out.mono ?_
      rintro e w2 ⟨h1, _, hb2⟩
      obtain ⟨v, rfl, hAt⟩ := h1 HRw.out
      obtain ⟨pa, rfl⟩ := HI.out.ptr hAt
      have HB2 := Lib.hid (HB0.out.trans (hb2.mono HB0.out.size))
      have HA2 : Hid (At w0.heap.size w2 (.pointer (some pa)) n V 255) := Lib.hid hAt
      have HO2 := Lib.hid (HO0.out.below hb2)
      have HL2 := Lib.hid (HL0.out.below hb2 hz0)
      have hz02 := hb2.size
      have hz2 : w.heap.size < w2.heap.size := by have := hb2.size; omega
      have c0 : w2.cell? ⟨w.heap.size, 0, none⟩ = some (.int .i64 x0) := HL2.out.cell 0
      have c1 : w2.cell? ⟨w.heap.size, 1, none⟩ = some (.int .i64 x1) := HL2.out.cell 1
      have HPt := Lib.hid (refPart_any A n ca V x0 x1 w2 (by omega) HO2.out.2.2.2)
      have HVs := Lib.hid HO2.out.2.2.2.small
      clear h1 hAt hb2 HMd HO0 HB0 HL0 hz0
      go_wp2_with fail
      refine HPt.out.mono ?_
      rintro e w3 ⟨u, rfl, hown, hb3⟩
      have HBs : Hid (∀ W, Below w3.heap.size w3 W → At w0.heap.size W (.pointer (some pa)) n V 255) := Lib.hid fun W h => HI.out.keep (HI.out.keep HA2.out hb3) h
      have HB3 := Lib.hid (HB2.out.trans (hb3.mono HB2.out.size))
      have HL3 := Lib.hid (HL2.out.below hb3 hz2)
      have hz3 : w.heap.size < w3.heap.size := by have := hb3.size; omega
      have hlen := partL_le V x0 x1 n
      obtain ⟨l, hl⟩ : ∃ l, partL V x0 x1 n = l := ⟨_, rfl⟩
      have hlm : ∀ x ∈ l, -9223372036854775808 ≤ x ∧ x ≤ 9223372036854775807 := fun x hx => by
        rw [← hl] at hx
        obtain ⟨i, hi, _, _, e⟩ := mem_partL.1 hx
        rw [← e]
        exact HVs.out i hi
      rw [hl] at hown hlen
      have HLq := Lib.hid hl
      have hl255 : ∀ x ∈ l, 0 ≤ x ∧ x ≤ 255 := fun x hx => by
        rw [← hl] at hx
        obtain ⟨i, hi, _, _, e⟩ := mem_partL.1 hx
        rw [← e]
        exact HRw.out.2.2.2 i hi
      obtain ⟨X, cX, eX, hIx⟩ := ItsR.of_own hown (fun j hj => by
        have h := litI_some (l := l) (k := j) hj
        exact hlm _ (List.mem_of_getElem? h))
      subst eX
      have HS0 := Lib.hid (SInv.start (K := 8) fun x hx => ⟨(hl255 x hx).1, by have := (hl255 x hx).2; omega⟩)
      have hNw := HJ.out.new w0.heap.size _ n 255 V x0 x1 w3 HW.out.1 HW.out.2 (by have := hb3.size; omega) (HBs.out w3 (Below.refl _ _))
      rw [hl, width255] at hNw
      have HNw := Lib.hid hNw
      obtain ⟨m, hm⟩ : ∃ m, l.length = m := ⟨_, rfl⟩
      rw [hm] at hlen
      have HLm := Lib.hid hm
      have c0 : w3.cell? ⟨w.heap.size, 0, none⟩ = some (.int .i64 x0) := HL3.out.cell 0
      have c1 : w3.cell? ⟨w.heap.size, 1, none⟩ = some (.int .i64 x1) := HL3.out.cell 1
      clear hown hb3 HPt HB2 HL2 hz2 HA2 HO2 hIx hlm HVs hNw hl255
      rw [hm]
      clear hl hm
      have e8 : IntKind.i64.wrap (8 * (m : Int)) = ((8 * m : Nat) : Int) := by rw [IntWalk.i64_in _ (by omega)]; omega
      have e9 : IntKind.i64.wrap (((8 * m : Nat) : Int) + (m : Int)) = ((9 * m : Nat) : Int) := by rw [IntWalk.i64_in _ (by omega)]; omega
      have e10 : IntKind.i64.wrap (((9 * m : Nat) : Int) + 1) = ((9 * m + 1 : Nat) : Int) := by rw [IntWalk.i64_in _ (by omega)]; omega
      have en : IntKind.i64.wrap ((n : Int) + 1) = ((n + 1 : Nat) : Int) := by rw [IntWalk.i64_in _ (by omega)]; omega
      obtain ⟨m8, hm8⟩ : ∃ m8, 8 * m = m8 := ⟨_, rfl⟩
      obtain ⟨m9, hm9⟩ : ∃ m9, 9 * m = m9 := ⟨_, rfl⟩
      obtain ⟨mq, hmq⟩ : ∃ mq, m9 + 1 = mq := ⟨_, rfl⟩
      obtain ⟨n1, hn1⟩ : ∃ n1, n + 1 = n1 := ⟨_, rfl⟩
      rw [hm8, hm9] at e9
      rw [hm8] at e8
      rw [hm9, hmq] at e10
      rw [hn1] at en
      have HM := Lib.hid (And.intro hm8 (And.intro hm9 (And.intro hmq hn1)))
      clear hm8 hm9 hmq hn1
      go_wp2_with fail
      refine HNw.out.mono ?_
      rintro e w4 ⟨⟨sv, F, rfl, hSt, hF⟩, hb4⟩
      obtain ⟨ps, rfl⟩ := HJ.out.ptrS hSt
      obtain ⟨H, hH⟩ : ∃ H, w3.heap.size = H := ⟨_, rfl⟩
      obtain ⟨B0, hB0⟩ : ∃ B0, w0.heap.size = B0 := ⟨_, rfl⟩
      obtain ⟨g9, hg9⟩ : ∃ g9, w4.heap.size = g9 := ⟨_, rfl⟩
      have la := lies_new w4 39 [.int .i64 0, .int .i64 (n1 : Int)]
      have hs4 := hb4.size
      have hba : Below w4.heap.size w4 (w4.alloc (.cells #[.int .i64 0, .int .i64 (n1 : Int)] 39)) := (Below.refl _ _).alloc (Nat.le_refl _) _
      have HSt : Hid (BsS St B0 H w3 (.pointer (some ps)) l n1 g9 (w4.alloc (.cells #[.int .i64 0, .int .i64 (n1 : Int)] 39)) 0 0 0 0) := Lib.hid (by
        subst hH hB0 hg9
        refine ⟨_, [], 0, F, 0, n1, HS0.out, ⟨rfl, rfl, Nat.le_refl _, rfl⟩, HJ.out.keepS_ hSt hba.size (fun k hk _ => hba.block k hk), fun j hj => ?_, la, .inl ⟨rfl, rfl⟩, hb4.trans (hba.mono hs4), hs4, la.lt⟩
        have h1 := hF j hj
        have h2 := hba.size
        omega)
      have HHH := Lib.hid hH
      have hm200 : m ≤ 200 := by omega
      rw [hH] at hs4
      clear hSt hF hb4 la hba HNw HS0 hB0 hH
      go_upto_region 9 with (fail)
      obtain ⟨wx, hwx⟩ : ∃ W, w4.alloc (.cells #[.int .i64 0, .int .i64 (n1 : Int)] 39) = W := ⟨_, rfl⟩
      rw [hwx] at HSt
      rw [hwx]
      clear hwx hg9
      go_wp2_with fail
      go_loopw [10, 11, 12, 56] (fun a b c v wr => ∃ i al id_ k : Nat, i ≤ mq ∧ a = .int .i64 (al : Int) ∧ b = .int .i64 (id_ : Int) ∧ c = .int .i64 (k : Int) ∧ v = .int .i64 (i : Int) ∧ Hid (BsS St B0 H w3 (.pointer (some ps)) l n1 g9 wr i al id_ k)) (fun _ _ _ v _ => mq - (intOf v).toNat)
      case atStart => exact ⟨0, 0, 0, 0, Nat.zero_le _, rfl, rfl, rfl, rfl, HSt⟩
      case round =>
        clear HSt
        obtain ⟨i, al, id_, k, hi, rfl, rfl, rfl, rfl, hB⟩ := hrel
        obtain ⟨P, T, I, F, lx, lc, hInv, ⟨hiI, hal, hid, hk⟩, hSt, hF, hLs, hlast, hbl, hg9, hg9w⟩ := hB.out
        have hfew := hInv.few
        rw [HLm.out] at hfew
        have hMM := HM.out
        have hlt : i < mq := by omega
        have hi18 : i ≤ 1801 := by omega
        have hm8 : m8 ≤ 1600 := by omega
        have hIm : I ≤ m8 := by omega
        have hlti : (i : Int) < (mq : Int) := by omega
        have hwrH : H ≤ wr.heap.size := by omega
        have hFw : ∀ j, F j → j < wr.heap.size := fun j hj => (hF j hj).2.1
        have HStp := Lib.hid (HJ.out.step _ _ F _ l P wr hSt hFw)
        have HInv := Lib.hid hInv
        have HF := Lib.hid hF
        have HLs := Lib.hid hLs
        have HBl := Lib.hid hbl
        have HNs := Lib.hid (And.intro hiI (And.intro hal (And.intro hid hk)))
        have HLast := Lib.hid hlast
        clear hB hInv hSt hF hLs hbl hFw hiI hal hk hlast hMM
        go_wp2_with fail
        refine HStp.out.mono ?_
        rintro e w5 ⟨F', hc1, hc2, hF1, hF2, hOff⟩
        have hlt9 : ¬ F g9 := fun h => (HF.out g9 h).2.2 rfl
        have hL5 : Lies w5 g9 39 [.int .i64 lx, .int .i64 ((lc : Nat) : Int)] := HLs.out.same (hOff.block g9 hg9w hlt9)
        have hB5 := hOff.below HBl.out hwrH (fun k hk => (HF.out k hk).1)
        have hF5 : ∀ j, F' j → H ≤ j ∧ j < w5.heap.size ∧ j ≠ g9 := fun j hj => by
          refine ⟨?_, hF2 j hj, ?_⟩
          · rcases hF1 j hj with h | h
            · exact (HF.out j h).1
            · omega
          · rcases hF1 j hj with h | h
            · exact (HF.out j h).2.2
            · omega
        have hs5 := hOff.size
        rcases Classical.em (P = []) with hP | hP
        · subst hP
          obtain ⟨rfl, hSt5⟩ := hc1 rfl
          have hdone := HInv.out.done
          have hba : Below w5.heap.size w5 (w5.alloc (.cells #[.int .i64 0, .int .i64 0] 39)) := (Below.refl _ _).alloc (Nat.le_refl _) _
          have HNx := Lib.hid (HJ.out.next B0 H F' _ l (w5.alloc (.cells #[.int .i64 0, .int .i64 0] 39)) (HJ.out.keepS_ hSt5 hba.size (fun k hk _ => hba.block k hk)) (fun j hj => by have := (hF5 j hj).2.1; have := hba.size; omega))
          have HBa := Lib.hid (hB5.trans (hba.mono (by omega)))
          have hsa : H ≤ (w5.alloc (.cells #[.int .i64 0, .int .i64 0] 39)).heap.size := by have := hba.size; omega
          have HDn := Lib.hid hdone
          have HF5 := Lib.hid hF5
          clear hc1 hc2 hSt5 hdone hba hF5 hB5 hL5 hOff hF1 hF2
          unfold noneP
          go_wp2_with fail
          refine HNx.out.mono ?_
          rintro e w6 ⟨rfl, hOff6⟩
          have hB6 := hOff6.below HBa.out hsa (fun j hj => (HF5.out j hj).1)
          have hs6 := hOff6.size
          have hba6 : Below w6.heap.size w6 (w6.alloc (.cells #[.int .i64 0, .int .i64 0] 39)) := (Below.refl _ _).alloc (Nat.le_refl _) _
          have hB7 := hB6.trans (hba6.mono (by omega))
          obtain ⟨w7, hw7⟩ : ∃ W, w6.alloc (.cells #[.int .i64 0, .int .i64 0] 39) = W := ⟨_, rfl⟩
          rw [hw7] at hB7
          have HW7 := Lib.hid hw7
          clear hw7
          rw [← HHH.out] at hB7
          have HB7 := Lib.hid (HB3.out.trans (hB7.mono HB3.out.size))
          have HL7 := Lib.hid (HL3.out.below hB7 hz3)
          have d0 : w7.cell? ⟨w.heap.size, 0, none⟩ = some (.int .i64 x0) := HL7.out.cell 0
          have d1 : w7.cell? ⟨w.heap.size, 1, none⟩ = some (.int .i64 x1) := HL7.out.cell 1
          have HDs := HI.out.distinct _ _ _ _ _ x0 x1 w7 HW.out.1 HW.out.2 (HBs.out w7 hB7)
          rw [HLq.out] at HDs
          have HDs := Lib.hid HDs
          have hal : al = m := by rw [HNs.out.2.1, HDn.out.2, HLm.out]
          subst hal
          have q1 : ((al : Int) == (al : Int)) = true := by rw [beq_iff_eq]
          clear hOff6 hB6 hba6 hB7 HNx HBa
          unfold noneP
          go_upto_region 22 with (fail)
          rw [HW7.out]
          go_wp2_with fail
          refine HDs.out.mono ?_
          rintro e w8 ⟨⟨AD, cD, D, rfl, hPD, hPr⟩, hb8⟩
          have HB8 := Lib.hid (HB7.out.trans (hb8.mono HB7.out.size))
          have hkD : D.length = k := by rw [HNs.out.2.2.2, best_len HDn.out.1 hPD]
          rw [hkD]
          have q2 : ((k : Int) == (k : Int)) = true := by rw [beq_iff_eq]
          clear hb8 HDs hPr hPD hkD
          go_wp2_with fail
          go_ret
          exact ⟨rfl, HB8.out⟩
        · obtain ⟨p, A1, B1, rfl, hbest⟩ := best_part l P hP HInv.out.apart
          have hcc := hc2 p (A1 ++ B1) List.perm_middle hbest
          rcases Nat.eq_zero_or_pos p.2 with h0 | h0
          · obtain ⟨rfl, hSt5⟩ := hcc.1 h0
            have hInv2 := HInv.out.tell hbest h0
            obtain ⟨x, pw⟩ := p
            obtain ⟨cc, hcc2⟩ : ∃ cc, cntP l (x, pw) = cc := ⟨_, rfl⟩
            have hcp := HInv.out.pos (x, pw) (List.mem_append_right _ (List.mem_cons_self ..))
            have hcm := cntP_le l (x, pw)
            rw [HLm.out, hcc2] at hcm
            rw [hcc2] at hcp hInv2 ⊢
            have hfew2 := hInv2.few
            have hsm := hInv2.sum
            rw [HLm.out] at hfew2 hsm
            have hlast : (lc = n1) ∨ Bet (lx, lc) (x, cc) := by
              rcases HLast.out with ⟨_, h⟩ | h
              · exact .inl h
              · have hr := hInv2.rise
                rw [List.pairwise_append] at hr
                exact .inr (hr.2.2 _ h _ (List.mem_singleton.2 rfl))
            have hn1 := HM.out.2.2.2
            have hlc : cc ≤ lc ∧ (cc = lc → lx < x) := by
              rcases hlast with h | h
              · omega
              · unfold Bet at h
                have h : cc < lc ∨ (cc = lc ∧ lx < x) := h
                omega
            obtain ⟨g13, hg13⟩ : ∃ g13, w5.heap.size = g13 := ⟨_, rfl⟩
            obtain ⟨wa, hwa⟩ : ∃ wa, w5.alloc (.cells #[.int .i64 x, .int .i64 (cc : Int)] 39) = wa := ⟨_, rfl⟩
            have la : Lies wa g13 39 [.int .i64 x, .int .i64 (cc : Int)] := by rw [← hwa, ← hg13]; exact lies_new w5 _ _
            have hba : Below w5.heap.size w5 wa := by rw [← hwa]; exact (Below.refl _ _).alloc (Nat.le_refl _) _
            have hLa := hL5.below hba hL5.lt
            have hsa := hba.size
            have hne : g13 ≠ g9 := by have := hL5.lt; omega
            have l1 : wa.cell? ⟨g13, 0, none⟩ = some (.int .i64 x) := la.cell 0
            have l2 : wa.cell? ⟨g13, 1, none⟩ = some (.int .i64 (cc : Int)) := la.cell 1
            have l3 : wa.cell? ⟨g9, 0, none⟩ = some (.int .i64 lx) := hLa.cell 0
            have l4 : wa.cell? ⟨g9, 1, none⟩ = some (.int .i64 (lc : Int)) := hLa.cell 1
            have f3 := hLa.free 0
            have f4 := hLa.free 1
            have hal2 : (T ++ [(x, cc)] |>.map Prod.snd).sum = al + cc := by
              rw [List.map_append, List.sum_append, HNs.out.2.1]
              simp
            have halm : al + cc ≤ m := by
              rw [hal2] at hsm
              omega
            have hkm : k + 1 ≤ m := by
              have h := hfew2.2
              rw [List.length_append] at h
              have h : T.length + 1 ≤ m := h
              have := HNs.out.2.2.2
              omega
            have e1 : IntKind.i64.wrap ((al : Int) + (cc : Int)) = ((al + cc : Nat) : Int) := by rw [IntWalk.i64_in _ (by omega)]; omega
            have e2 : IntKind.i64.wrap ((k : Int) + 1) = ((k + 1 : Nat) : Int) := by rw [IntWalk.i64_in _ (by omega)]; omega
            have hwb : Below H w3 ((wa.setCell ⟨g9, 0, none⟩ (.int .i64 x)).setCell ⟨g9, 1, none⟩ (.int .i64 (cc : Int))) := ((hB5.trans (hba.mono (by omega))).setCell (p := ⟨g9, 0, none⟩) hg9 _).setCell (p := ⟨g9, 1, none⟩) hg9 _
            have hsz : ((wa.setCell ⟨g9, 0, none⟩ (.int .i64 x)).setCell ⟨g9, 1, none⟩ (.int .i64 (cc : Int))).heap.size = wa.heap.size := by simp [World.setCell]
            have HN : Hid (BsS St B0 H w3 (.pointer (some ps)) l n1 g9 ((wa.setCell ⟨g9, 0, none⟩ (.int .i64 x)).setCell ⟨g9, 1, none⟩ (.int .i64 (cc : Int))) (i + 1) (al + cc) 0 (k + 1)) := Lib.hid ⟨_, T ++ [(x, cc)], I, F', x, cc, hInv2, ⟨by
              have := HNs.out.1
              rw [List.length_append]
              show i + 1 = I + (T.length + 1)
              omega, hal2.symm, Nat.zero_le _, by
              rw [List.length_append, HNs.out.2.2.2]
              rfl⟩, HJ.out.keepS_ hSt5 (by rw [hsz]; exact hsa) (fun j hj h => by
                have hj9 : j ≠ g9 := by
                  rcases h with h | h
                  · omega
                  · exact (hF5 j h).2.2
                rw [Below.heap_setCell _ ⟨g9, 1, none⟩ _ j hj9, Below.heap_setCell _ ⟨g9, 0, none⟩ _ j hj9]
                exact hba.block j hj), fun j hj => by
                have := hF5 j hj
                rw [hsz]
                omega, (hLa.put 0 (.int .i64 x)).put 1 (.int .i64 (cc : Int)), .inr (List.mem_append_right _ (List.mem_singleton.2 rfl)), hwb, hg9, by
                rw [hsz]
                exact hLa.lt⟩
            obtain ⟨al2, ha2⟩ : ∃ al2, al + cc = al2 := ⟨_, rfl⟩
            obtain ⟨k2, hk2⟩ : ∃ k2, k + 1 = k2 := ⟨_, rfl⟩
            rw [ha2, hk2] at HN
            rw [ha2] at e1
            rw [hk2] at e2
            have r1 : decide ((m8 : Int) < (id_ : Int)) = false := decide_eq_false (by omega)
            have r1' : decide (m8 < id_) = false := decide_eq_false (by omega)
            have r2 : decide ((lc : Int) < (cc : Int)) = false := decide_eq_false (by omega)
            have r2' : decide (lc < cc) = false := decide_eq_false (by omega)
            have r3 : decide ((cc : Int) < 1) = false := decide_eq_false (by omega)
            have r3' : decide (cc < 1) = false := decide_eq_false (by omega)
            have rr : (((cc : Int) == (lc : Int)) = true ∧ (cc == lc) = true ∧ decide (x ≤ lx) = false) ∨ (((cc : Int) == (lc : Int)) = false ∧ (cc == lc) = false) := by
              by_cases e : cc = lc
              · exact .inl ⟨by rw [beq_iff_eq]; omega, by rw [beq_iff_eq]; exact e, decide_eq_false (by have := hlc.2 e; omega)⟩
              · exact .inr ⟨by rw [beq_eq_false_iff_ne]; omega, by rw [beq_eq_false_iff_ne]; exact e⟩
            have HWa := Lib.hid (And.intro hwa hg13)
            clear hcc hc1 hc2 hSt5 hInv2 hba hbest hF5 hB5 hL5 hOff hF1 hF2 hsm hfew2 hlast hlc la hLa hal2 halm hkm hwb hsz ha2 hk2 hwa hg13 hcc2
            go_upto_region 12 with (fail)
            rw [HWa.out.1, HWa.out.2]
            rcases rr with ⟨q1, q2, q3⟩ | ⟨q1, q2⟩
            all_goals
              go_wp2_with fail
              go_roundw
              case rel => exact ⟨i + 1, al2, 0, k2, by omega, rfl, rfl, rfl, by go_num, HN⟩
              case measure => simp [intOf]; omega
          · obtain ⟨rfl, hSt5⟩ := hcc.2 h0
            have hInv2 := HInv.out.half h0
            have hba : Below w5.heap.size w5 (w5.alloc (.cells #[.int .i64 0, .int .i64 0] 39)) := (Below.refl _ _).alloc (Nat.le_refl _) _
            have hfew2 := hInv2.few
            rw [HLm.out] at hfew2
            have e1 : IntKind.i64.wrap ((id_ : Int) + 1) = ((id_ + 1 : Nat) : Int) := by rw [IntWalk.i64_in _ (by omega)]; omega
            have HN : Hid (BsS St B0 H w3 (.pointer (some ps)) l n1 g9 (w5.alloc (.cells #[.int .i64 0, .int .i64 0] 39)) (i + 1) al (id_ + 1) k) := Lib.hid ⟨_, T, I + 1, F', lx, lc, hInv2, ⟨by have := HNs.out.1; omega, HNs.out.2.1, by omega, HNs.out.2.2.2⟩, HJ.out.keepS_ hSt5 hba.size (fun k hk _ => hba.block k hk), fun j hj => by have := hF5 j hj; have := hba.size; omega, hL5.alloc _, HLast.out, hB5.trans (hba.mono (by omega)), hg9, by have := hba.size; omega⟩
            obtain ⟨id2, hid2⟩ : ∃ id2, id_ + 1 = id2 := ⟨_, rfl⟩
            rw [hid2] at HN e1
            clear hcc hc1 hc2 hSt5 hInv2 hba hbest hF5 hB5 hL5 hOff hF1 hF2 hid2
            unfold noneP
            go_wp2_with fail
            go_roundw
            case rel => exact ⟨i + 1, al, id2, k, by omega, rfl, rfl, rfl, by go_num, HN⟩
            case measure => simp [intOf]; omega
end
end Go.Proofs.Ythbnojhcmfhnhaa
