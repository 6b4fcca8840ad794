/- The walk of colophonlaw18.BestMoves, over what packages wave and best answer (MatI, BestI). -/
import Derived.Test.YthbnojhcmfhnhaaBsTops
import Derived.Test.YthbnojhcmfhnhaaIntJoin
namespace Go.Proofs.Ythbnojhcmfhnhaa
open Go.RowKit
theorem its_shift {w : World} {B n t r : Nat} {ad : Addr} {V : Nat → Int} (h : Its w B (some ad) n V) (hr : t + r ≤ n) : Its w B (some (ad.add t)) r (fun j => V (t + j)) := fun j hj => by
  obtain ⟨ad', e, h1, h2, h3⟩ := h (t + j) (by omega)
  cases e
  exact ⟨ad.add t, rfl, by rw [add_block]; exact h1, by rw [Addr.add_add]; exact h2, h3⟩
theorem its_head {w : World} {B n r : Nat} {A : Option Addr} {V : Nat → Int} (h : Its w B A n V) (hr : r ≤ n) : Its w B A r V := fun j hj => h j (by omega)
theorem takeL_cat (F G : Nat → Int) (m : Nat) : ∀ k, takeL (catF F G m) (m + k) = takeL F m ++ takeL G k := fun k => by
  apply List.ext_getElem?
  intro i
  rw [List.getElem?_append, takeL_length]
  by_cases h : i < m
  · rw [if_pos h, takeL_at _ _ _ (by omega), takeL_at _ _ _ h]
    unfold catF
    rw [if_pos h]
  · rw [if_neg h]
    by_cases h2 : i < m + k
    · rw [takeL_at _ _ _ h2, takeL_at _ _ _ (by omega)]
      unfold catF
      rw [if_neg h]
    · rw [List.getElem?_eq_none (by rw [takeL_length]; omega), List.getElem?_eq_none (by rw [takeL_length]; omega)]
theorem takeL_rot (V : Nat → Int) {t r n : Nat} (h : r + t = n) : (takeL (catF (fun j => V (t + j)) V r) n).Perm (takeL V n) := by
  have h1 : takeL V n = takeL V t ++ takeL (fun j => V (t + j)) r := by
    rw [← takeL_cat]
    have h2 : catF V (fun j => V (t + j)) t = V := by
      funext j
      unfold catF
      split
      · rfl
      · show V (t + (j - t)) = V j
        congr 1
        omega
    rw [h2, show t + r = n by omega]
  rw [h1, ← h, takeL_cat]
  exact List.perm_append_comm
theorem takeL_snoc_ (V : Nat → Int) (m : Nat) : takeL V (m + 1) = takeL V m ++ [V m] := by
  apply List.ext_getElem?
  intro i
  rw [List.getElem?_append, takeL_length]
  by_cases h : i < m
  · rw [if_pos h, takeL_at _ _ _ (by omega), takeL_at _ _ _ h]
  · rw [if_neg h]
    by_cases h2 : i = m
    · subst h2
      rw [takeL_at _ _ _ (by omega), Nat.sub_self]
      rfl
    · rw [List.getElem?_eq_none (by rw [takeL_length]; omega), List.getElem?_eq_none (by simp; omega)]
theorem partL_whole (V : Nat → Int) {N : Nat} : ∀ n, n ≤ N → partL V 0 (N : Int) n = takeL V n
  | 0, _ => rfl
  | n + 1, h => by
    rw [partL_hit (by omega), partL_whole V n (by omega), takeL_snoc_]
theorem takeL_mem {V : Nat → Int} {n : Nat} {x : Int} : x ∈ takeL V n ↔ ∃ j, j < n ∧ V j = x := by
  constructor
  · intro h
    obtain ⟨k, hk⟩ := List.getElem?_of_mem h
    have hkm : k < n := by
      have := (List.getElem?_eq_some_iff.1 hk).1
      rwa [takeL_length] at this
    rw [takeL_at V n k hkm] at hk
    exact ⟨k, hkm, by injection hk⟩
  · rintro ⟨j, hj, e⟩
    have := List.mem_of_getElem? (takeL_at V n j hj)
    rwa [e] at this
/-- two side by side exchanged. -/
def swapF (U : Nat → Int) (i : Nat) : Nat → Int := fun j => if j = i + 1 then U i else if j = i then U (i + 1) else U j
theorem takeL_alike {U V : Nat → Int} {m : Nat} (h : ∀ j, j < m → U j = V j) : takeL U m = takeL V m := by
  apply List.ext_getElem?
  intro i
  by_cases g : i < m
  · rw [takeL_at _ _ _ g, takeL_at _ _ _ g, h i g]
  · rw [List.getElem?_eq_none (by rw [takeL_length]; omega), List.getElem?_eq_none (by rw [takeL_length]; omega)]
theorem takeL_swap (U : Nat → Int) (i : Nat) : ∀ m, i + 2 ≤ m → (takeL (swapF U i) m).Perm (takeL U m)
  | 0, h => by omega
  | m + 1, h => by
    rw [takeL_snoc_, takeL_snoc_]
    rcases Nat.lt_or_eq_of_le h with g | g
    · have e : swapF U i m = U m := by
        unfold swapF
        rw [if_neg (by omega), if_neg (by omega)]
      rw [e]
      exact (takeL_swap U i m (by omega)).append_right _
    · obtain rfl : m = i + 1 := by omega
      rw [takeL_snoc_, takeL_snoc_, takeL_alike (U := swapF U i) (V := U) (m := i) (fun j hj => by
        unfold swapF
        rw [if_neg (by omega), if_neg (by omega)])]
      have e1 : swapF U i i = U (i + 1) := by
        unfold swapF
        rw [if_neg (by omega), if_pos rfl]
      have e2 : swapF U i (i + 1) = U i := by
        unfold swapF
        rw [if_pos rfl]
      rw [e1, e2, List.append_assoc, List.append_assoc]
      exact (List.Perm.swap _ _ _).append_left _
section
variable {At : Nat → World → Value → Nat → (Nat → Int) → Nat → Prop} {St : Nat → Nat → (Nat → Prop) → World → Value → List Int → List (Int × Nat) → Prop}

set_option maxRecDepth 100000 in
set_option maxHeartbeats 3200000 in
theorem bsMoves_walk (I : MatI At) (J : BestI At St) (A : Option Addr) (n ca : Nat) (V : Nat → Int) (x k : Int) (w : World) (_hx : (Lit.int .i64 x).wf = true) (_hk : (Lit.int .i64 k).wf = true) (ho : ItsR w A n ca V) :
    Calls Try.prog 6 #[.slice A n ca, .int .i64 x, .int .i64 k] w fun e w' => e = .returned (.bool true) ∧ Below w.heap.size w w' := by
  have HI := Lib.hid I
  have HJ := Lib.hid J
  have HO := Lib.hid ho
  have HF := Lib.hid (bfirst18_any I J w)
  have hnm : n ≤ maxLen := by have := ho.2.1; have := ho.2.2.1; omega
  have hnl : n ≤ 9223372036854775807 := by unfold maxLen at hnm; omega
  clear I J ho
  by_cases hbig : 200 < n
  · have hdd : decide ((200 : Int) < (n : Int)) = true := decide_eq_true (by omega)
    go_enter Try.func6, Try.ntmps6
    go_wp2_with fail
    refine HF.out.mono ?_
    rintro e w0 ⟨rfl, hb0⟩
    go_wp2_with fail
    go_ret
    exact ⟨rfl, hb0⟩
  · have hdd : decide ((200 : Int) < (n : Int)) = false := decide_eq_false (by omega)
    have hn : n ≤ 200 := by omega
    obtain ⟨r, hr⟩ : ∃ r : Bool, r = true ↔ RightS V n 301 := ⟨@decide _ (Classical.propDecidable _), @decide_eq_true_iff _ (Classical.propDecidable _)⟩
    have HR := Lib.hid hr
    clear hr
    go_enter Try.func6, Try.ntmps6
    go_wp2_with fail
    refine HF.out.mono ?_
    rintro e w0 ⟨rfl, hb0⟩
    have HB0 := Lib.hid hb0
    have HO0 := Lib.hid (HO.out.below hb0)
    have HRt := Lib.hid (refRightS_is A n ca V 301 _ w0 hnm HO0.out.2.2.2 r HR.out)
    clear HF hb0 HO
    go_wp2_with fail
    refine HRt.out.mono ?_
    rintro e w1 ⟨rfl, rfl⟩
    rcases r with _ | _
    · clear HRt
      go_wp2_with fail
      go_ret
      exact ⟨rfl, HB0.out⟩
    · have HRw : Hid (RightW V n 300) := Lib.hid (rightW_is.2 ⟨⟨by decide, by decide⟩, HR.out.1 rfl⟩)
      by_cases hn0 : n = 0
      · subst hn0
        clear HRt HR
        go_wp2_with fail
        go_ret
        exact ⟨rfl, HB0.out⟩
      · have hn1 : 0 < n := by omega
        have q0 : ((n : Int) == 0) = false := by rw [beq_eq_false_iff_ne]; omega
        have q0' : (n == 0) = false := by rw [beq_eq_false_iff_ne]; omega
        obtain ⟨t, ht, htn⟩ := turn_w x n hn1 (by omega)
        have HTt := Lib.hid ht
        obtain ⟨ad, hA, _⟩ := HO0.out.2.2.2 0 hn1
        subst hA
        have hnca := HO0.out.2.1
        have hcam := HO0.out.2.2.1
        obtain ⟨r1, hr1⟩ : ∃ r1, n - t = r1 := ⟨_, rfl⟩
        have hr1n : r1 + t = n := by omega
        have hr1p : 0 < r1 := by omega
        have hca63 : ca ≤ 9223372036854775807 := by unfold maxLen at hcam; omega
        have kt1 : (0 : Int) ≤ (t : Int) := by omega
        have kt2 : (t : Int) ≤ (n : Int) := by omega
        have kt3 : (t : Int) ≤ (ca : Int) := by omega
        have kt4 : (n : Int) ≤ (ca : Int) := by omega
        have kt5 : ¬ ca = t := by omega
        have kt6 : ¬ (ca : Int) = (t : Int) := by omega
        have kt7 : t ≤ n := by omega
        have kt8 : t ≤ ca := by omega
        have eu : IntKind.u64.wrap (n : Int) = (n : Int) := IntWalk.u64_in _ (by omega)
        have en : ¬ ((n : Int) = 0) := by omega
        have hown0 : (w0.alloc (.cells #[] 3)).ownsRow w0.heap.size 3 1 (.slice (some ⟨w0.heap.size, 0, none⟩) 0 0) 0 [] := World.ownsRow_lit w0 #[] 0 (Nat.le_refl _) (Nat.zero_le _) rfl
        have HE0 : Hid (((w0.alloc (.cells #[] 3)).drew).ownsRow w0.heap.size 3 1 (.slice (some ⟨w0.heap.size, 0, none⟩) 0 0) 0 []) := Lib.hid hown0
        have HR1n := Lib.hid hr1n
        have HBl := Lib.hid (fun o => below_drew' ((Below.refl w0.heap.size w0).alloc (Nat.le_refl _) o))
        have hwt : wrap64 ((IntKind.u64.wrap x).tmod (n : Int)) = (t : Int) := ht
        have HSh := Lib.hid (its_shift (t := t) (r := r1) HO0.out.2.2.2 (by omega))
        have HSd := Lib.hid (its_head (r := t) HO0.out.2.2.2 (by omega))
        clear HRt HR hown0 ht
        go_upto_region 6 with (fail)
        rw [HTt.out]
        clear hwt
        go_cut [8] (fun s wx => ∃ (A5 : Option Addr) (c5 : Nat), s = .slice A5 n c5 ∧ Hid (wx.ownsRow w0.heap.size 3 1 (.slice A5 n c5) n (icells (catF (fun j => V (t + j)) V r1) n)) ∧ Hid (Below w0.heap.size w0 wx))
        case first =>
          go_region_held3 (fun w' => Below w0.heap.size w0 w')
            ((first
              | exact below_drew' (Below.refl w0.heap.size w0)
              | exact HBl.out _
              | exact hC2
              | exact hC1))
            ((first
              | (refine held_append_ints (by rfl) (.tmp 41) (.tmp 44) (by rfl) (by rfl) hown5.out (by rfl) (HSd.out.below hC1) hC1.size n (by omega) (by omega) ?_; intro A6 c6 w6 hown6 hb6; have hC2 := hC1.trans hb6)
              | (refine held_append_ints (by rfl) (.tmp 37) (.tmp 40) (by rfl) (by rfl) HE0.out (by rfl) (HSh.out.below (HBl.out _)) (HBl.out _).size r1 (by omega) (by omega) ?_; intro A5 c5 w5 hown5 hb5; have hC1 := (HBl.out _).trans hb5)))
          all_goals first
            | (go_meet; exact ⟨A6, c6, rfl, Lib.hid (by
                have h := hown6.out
                rw [List.nil_append, icells_cat, HR1n.out] at h
                exact h), Lib.hid hC2⟩)
            | (go_wp2_with fail; go_meet; exact ⟨A6, c6, rfl, Lib.hid (by
                have h := hown6.out
                rw [List.nil_append, icells_cat, HR1n.out] at h
                exact h), Lib.hid hC2⟩)
        case rest =>
          obtain ⟨A5, c5, rfl, hown5, hC5⟩ := hcut
          obtain ⟨g, cg, e5, hgB, _⟩ := owns_some hown5.out hn1
          cases e5
          have HX0 : Hid ((takeL (catF (fun j => V (t + j)) V r1) n).Perm (takeL V n)) := Lib.hid (takeL_rot V HR1n.out)
          clear HE0 HBl HSh HSd hr1 hr1n kt1 kt2 kt3 kt4 kt5 kt6 kt7 kt8 eu en hca63
          rename World => wk
          go_wp2_with fail
          go_loopw [9] (fun v wr => ∃ (i : Nat) (U : Nat → Int), i ≤ n + 1 ∧ v = .int .i64 (i : Int) ∧ Hid (wr.ownsRow w0.heap.size 3 1 (.slice (some ⟨g, 0, none⟩) n c5) n (icells U n)) ∧ Hid ((takeL U n).Perm (takeL V n)) ∧ Hid (Below w0.heap.size w0 wr)) (fun v _ => n + 1 - (intOf v).toNat)
          case atStart => exact ⟨0, _, Nat.zero_le _, rfl, hown5, HX0, hC5⟩
          case round =>
            clear hown5 HX0 hC5
            obtain ⟨i, U, hi, rfl, hown, hP, hb⟩ := hrel
            have w1 : IntKind.i64.wrap ((i : Int) + 1) = ((i + 1 : Nat) : Int) := by rw [IntWalk.i64_in _ (by omega)]; omega
            by_cases hlt : i + 1 < n
            · have hlti : ((i + 1 : Nat) : Int) < (n : Int) := by omega
              have ca1 : wr.cell? ⟨g, i, none⟩ = some (.int .i64 (U i)) := by
                rw [hown.out.cellAt i (by omega)]
                exact icells_at _ _ _ (by omega)
              have ca2 : wr.cell? ⟨g, i + 1, none⟩ = some (.int .i64 (U (i + 1))) := by
                rw [hown.out.cellAt (i + 1) (by omega)]
                exact icells_at _ _ _ (by omega)
              have f1 := owns_free hown.out i
              have f2 := owns_free hown.out (i + 1)
              generalize hy1 : U i = y1 at ca1
              generalize hy2 : U (i + 1) = y2 at ca2
              have HN : Hid (((wr.setCell ⟨g, i, none⟩ (.int .i64 y2)).setCell ⟨g, i + 1, none⟩ (.int .i64 y1)).ownsRow w0.heap.size 3 1 (.slice (some ⟨g, 0, none⟩) n c5) n (icells (swapF U i) n)) := Lib.hid (by
                have h := owns_put (owns_put hown.out i (.int .i64 y2)) (i + 1) (.int .i64 y1)
                rw [icells_put, icells_put] at h
                rw [icells_congr (U := swapF U i) (U' := fun j => if j = i + 1 then y1 else if j = i then y2 else U j) (fun j _ => by
                  unfold swapF
                  rw [hy1, hy2])]
                exact h)
              have HPn : Hid ((takeL (swapF U i) n).Perm (takeL V n)) := Lib.hid ((takeL_swap U i n (by omega)).trans hP.out)
              have HBn : Hid (Below w0.heap.size w0 (((wr.setCell ⟨g, i, none⟩ (.int .i64 y2)).setCell ⟨g, i + 1, none⟩ (.int .i64 y1)).drew)) := Lib.hid (below_drew' ((hb.out.setCell (p := ⟨g, i, none⟩) hgB _).setCell (p := ⟨g, i + 1, none⟩) hgB _))
              have w2 : IntKind.i64.wrap ((i : Int) + 2) = ((i + 2 : Nat) : Int) := by rw [IntWalk.i64_in _ (by omega)]; omega
              generalize hq2 : i + 2 = q2 at w2
              generalize hq1 : i + 1 = q1 at w1 hlt hlti ca2 f2 hy2 HN HBn
              have b1 : (i : Int) < (n : Int) := by omega
              have b2 : i < n := by omega
              have b3 : q2 ≤ n + 1 := by omega
              have b4 : i < q2 := by omega
              have lne : i < q1 := by omega
              clear hy1 hy2 hq1 hq2 hown hP hb
              go_wp2_with fail
              go_region
              all_goals go_wp2_with fail
              all_goals go_roundw
              case rel => exact ⟨q2, _, b3, rfl, HN, HPn, HBn⟩
              case measure => simp [intOf]; omega
            · have hge : decide (((i + 1 : Nat) : Int) < (n : Int)) = false := decide_eq_false (by omega)
              have hge2 : ¬ ((i + 1 : Nat) : Int) < (n : Int) := by omega
              generalize i + 1 = q1 at w1 hge hge2
              obtain ⟨X, hX⟩ : ∃ X, U = X := ⟨_, rfl⟩
              rw [hX] at hown hP
              clear hX
              have hmem : ∀ j, j < n → ∃ i, i < n ∧ V i = X j := fun j hj => takeL_mem.1 (hP.out.mem_iff.1 (takeL_mem.2 ⟨j, hj, rfl⟩))
              have hVb := HO0.out.2.2.2.small
              obtain ⟨A6, c6, e6, hIx⟩ := ItsR.of_own hown.out (fun j hj => by
                obtain ⟨i, hi, e⟩ := hmem j hj
                rw [← e]
                exact hVb i hi)
              cases e6
              have HRx : Hid (RightW X n 300) := Lib.hid ⟨HRw.out.1, HRw.out.2.1, HRw.out.2.2.1, fun j hj => by
                obtain ⟨i, hi, e⟩ := hmem j hj
                rw [← e]
                exact HRw.out.2.2.2 i hi⟩
              have HIx := Lib.hid hIx
              have HBr := Lib.hid (HB0.out.trans (hb.out.mono HB0.out.size))
              have H1 := Lib.hid (HI.out.new (some ad) n ca V 300 wr (by omega) (by decide) (HO0.out.below hb.out))
              have HPx : Hid (∀ R R', BestOf (partL V 0 (n : Int) n) R → BestOf (partL X 0 (n : Int) n) R' → R' = R) := Lib.hid fun R R' h1 h2 => by
                rw [partL_whole _ n (Nat.le_refl _)] at h1 h2
                exact (h2.perm hP.out).one h1
              obtain ⟨kk, hkk, hkk2⟩ := turn_w k 200 (by decide) (by decide)
              have HKK : Hid (wrap64 ((IntKind.u64.wrap k).tmod 200) = (kk : Int)) := Lib.hid hkk
              obtain ⟨jn, hjn⟩ : ∃ jn, 1 + kk = jn := ⟨_, rfl⟩
              have e1 : IntKind.i64.wrap (1 + (kk : Int)) = (jn : Int) := by rw [IntWalk.i64_in _ (by omega)]; omega
              have E1 : Hid (wrap64 (1 + (kk : Int)) = (jn : Int)) := Lib.hid (by rw [IntWalk.wrap64_in _ (by omega)]; omega)
              have hj4 : jn ≤ 200 := by omega
              have wn := WalkArith.wf_i64 (show -9223372036854775808 ≤ (n : Int) ∧ (n : Int) ≤ 9223372036854775807 by omega)
              have wj := WalkArith.wf_i64 (show -9223372036854775808 ≤ (jn : Int) ∧ (jn : Int) ≤ 9223372036854775807 by omega)
              clear hown hP hb hmem hVb hIx hkk hjn
              go_wp2_with fail
              refine H1.out.mono ?_
              rintro e w3 ⟨h1, _, hb3⟩
              obtain ⟨v1, rfl, hA1⟩ := h1 HRw.out
              obtain ⟨p1, rfl⟩ := HI.out.ptr hA1
              have HB3 := Lib.hid (HBr.out.trans (hb3.mono HBr.out.size))
              have HA1 := Lib.hid hA1
              have H2 := Lib.hid (HI.out.new _ n _ X 300 w3 (by omega) (by decide) (HIx.out.below hb3))
              clear h1 hb3 hA1 H1 HBr HIx
              go_wp2_with fail
              refine H2.out.mono ?_
              rintro e w4 ⟨h1, _, hb4⟩
              obtain ⟨v2, rfl, hA2⟩ := h1 HRx.out
              obtain ⟨p2, rfl⟩ := HI.out.ptr hA2
              have HB4 := Lib.hid (HB3.out.trans (hb4.mono HB3.out.size))
              have HA1b := Lib.hid (HI.out.keep HA1.out hb4)
              have HA2 := Lib.hid hA2
              have H3 := Lib.hid (HJ.out.top _ _ _ _ _ 0 (n : Int) (jn : Int) w4 (by decide) wn wj HA1b.out)
              clear h1 hb4 hA2 H2 HB3 HA1
              go_wp2_with fail
              rw [HKK.out, E1.out]
              refine H3.out.mono ?_
              rintro e w5 ⟨⟨A1, c1, T1, rfl, _, ⟨R1, hR1, hT1⟩, hQ1⟩, hb5⟩
              have HB5 := Lib.hid (HB4.out.trans (hb5.mono HB4.out.size))
              have HA2b := Lib.hid (HI.out.keep HA2.out hb5)
              have H4 := Lib.hid (HJ.out.top _ _ _ _ _ 0 (n : Int) (jn : Int) w5 (by decide) wn wj HA2b.out)
              have HQ1 := Lib.hid hQ1
              have HT1 := Lib.hid hT1
              have HR1 := Lib.hid hR1
              clear hb5 hQ1 hT1 hR1 H3 HB4 HA2 HA1b
              go_wp2_with fail
              refine H4.out.mono ?_
              rintro e w6 ⟨⟨A2, c2, T2, rfl, _, ⟨R2, hR2, hT2⟩, hQ2⟩, hb6⟩
              have HB6 := Lib.hid (HB5.out.trans (hb6.mono HB5.out.size))
              obtain rfl := HPx.out R1 R2 HR1.out hR2
              have h12 : T2 = T1 := by rw [hT2, HT1.out]
              subst h12
              have H5 := Lib.hid (refSameP_any A1 A2 c1 c2 T2 w6 (HQ1.out.below hb6) hQ2)
              clear hb6 hQ2 hT2 hR2 H4 HB5 HQ1 HT1 HR1
              go_wp2_with fail
              refine H5.out.mono ?_
              rintro e w7 ⟨rfl, hb7⟩
              have HB7 := Lib.hid (HB6.out.trans (hb7.mono HB6.out.size))
              clear hb7 H5
              go_wp2_with fail
              go_ret
              exact ⟨rfl, HB7.out⟩
end
end Go.Proofs.Ythbnojhcmfhnhaa
