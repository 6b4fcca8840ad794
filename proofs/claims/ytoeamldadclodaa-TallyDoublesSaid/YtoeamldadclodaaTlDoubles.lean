/- The walk of colophonlaw16.TallyDoubles, over what package tally answers (TalI). -/
import Derived.Test.YtoeamldadclodaaTalI
import Derived.Deep.DeepCutAuto
namespace Go.Proofs.Ytoeamldadclodaa
open Go.RowKit
section
variable {At : Nat → World → Value → Nat → (Nat → Int) → (Nat → Int) → Prop}

set_option maxRecDepth 100000 in
set_option maxHeartbeats 3200000 in
theorem tlDoubles_walk (I : TalI At) (A A' : Option Addr) (n c n' c' : Nat) (D L : Nat → Int) (a b : Int) (w : World) (ha : (Lit.int .i64 a).wf = true) (hb : (Lit.int .i64 b).wf = true) (ho : ItsR w A n c D) (ho' : ItsR w A' n' c' L) :
    Calls Try.prog 3 #[.slice A n c, .slice A' n' c', .agg #[.int .i64 a, .int .i64 b]] w fun e w' => e = .returned (.bool true) ∧ Below w.heap.size w w' := by
  have HI := Lib.hid I
  obtain ⟨lo, hlo⟩ : ∃ lo, w.heap.size = lo := ⟨_, rfl⟩
  obtain ⟨wa, hwa⟩ : ∃ wa, w.alloc (.cells #[.int .i64 a, .int .i64 b] 23) = wa := ⟨_, rfl⟩
  have za : wa.heap.size = lo + 1 := by rw [← hwa, size_alloc, hlo]
  have la : Lies wa lo 23 [.int .i64 a, .int .i64 b] := by rw [← hwa, ← hlo]; exact lies_new w _ _
  have ka : Below lo w wa := by rw [← hwa, ← hlo]; exact (Below.refl _ _).alloc (Nat.le_refl _) _
  have HO := Lib.hid (ho.below (by rw [hlo]; exact ka))
  have HO' := Lib.hid (ho'.below (by rw [hlo]; exact ka))
  have HF := Lib.hid (tlfirst_any I wa)
  have HW := Lib.hid (And.intro ha hb)
  have hnl : n ≤ 9223372036854775807 := by have := ho.2.1; have := ho.2.2.1; unfold maxLen at this; omega
  have hnl' : n' ≤ 9223372036854775807 := by have := ho'.2.1; have := ho'.2.2.1; unfold maxLen at this; omega
  have HK := Lib.hid ka
  have HLa := Lib.hid la
  rw [hlo]
  clear I ho ho' ha hb ka la
  obtain ⟨r, hr⟩ : ∃ r : Bool, r = decide (400 < n ∨ 400 < n') := ⟨_, rfl⟩
  have HR := Lib.hid hr
  clear hr
  go_enter Try.func3, Try.ntmps3
  go_wp2_with fail
  refine HF.out.mono ?_
  rintro e w0 ⟨rfl, hb0⟩
  have HB0 := Lib.hid (below_up hlo HK.out hb0)
  have HO0 := Lib.hid (HO.out.below hb0)
  have HO0' := Lib.hid (HO'.out.below hb0)
  have HL0 := Lib.hid (HLa.out.below hb0 (by omega))
  have hs0 : lo + 1 ≤ w0.heap.size := by rw [← za]; exact hb0.size
  clear hb0 HF HO HO' HLa HK hwa
  go_upto_region 3 with (fail)
  go_cut [23] from 18 to 23 (fun s wx => s = .bool r ∧ wx = w0)
  case first =>
    by_cases hlt : n < n'
    · have hltI : (n : Int) < (n' : Int) := by omega
      go_wp2_with fail
      go_meet
      exact ⟨by rw [HR.out]; congr 1; rw [decide_eq_decide]; omega, rfl⟩
    · have hltI : ¬ (n : Int) < (n' : Int) := by omega
      go_wp2_with fail
      go_meet
      exact ⟨by rw [HR.out]; congr 1; rw [decide_eq_decide]; omega, rfl⟩
  case rest =>
  obtain ⟨rfl, rfl⟩ := hcut
  rcases r with _ | _
  rotate_left
  · go_wp2_with fail
    go_ret
    exact ⟨rfl, HB0.out⟩
  have hn : n ≤ 400 ∧ n' ≤ 400 := by have := of_decide_eq_false HR.out.symm; omega
  obtain ⟨hn1, hn2⟩ := hn
  have HN := Lib.hid (HI.out.new _ n c D _ n' c' L wc (by omega) (by omega) HO0.out HO0'.out)
  clear HR
  go_wp2_with fail
  refine HN.out.mono ?_
  rintro e w1 ⟨h1, h2, hb1⟩
  have HB1 := Lib.hid (below_up hlo HB0.out hb1)
  by_cases hnn : n = n'
  rotate_left
  · obtain rfl := h2 hnn
    have e1 : ((n : Int) != (n' : Int)) = true := by rw [bne_iff_ne]; omega
    have e2 : ¬ (n : Int) = (n' : Int) := by omega
    clear h1 h2 hb1 HN HO0 HO0' HL0
    go_wp2_with fail
    go_ret
    exact ⟨rfl, HB1.out⟩
  · subst hnn
    obtain ⟨v, rfl, hAt⟩ := h1 rfl
    obtain ⟨pa, rfl⟩ := HI.out.ptr hAt
    have e1 : ((n : Int) != (n : Int)) = false := by simp
    have HA1 := Lib.hid hAt
    have HO1 := Lib.hid (HO0.out.below hb1)
    have HO1' := Lib.hid (HO0'.out.below hb1)
    have HL1 := Lib.hid (HL0.out.below hb1 (by omega))
    have HD := Lib.hid (refDoubles_any A A' n c c' D L w1 (by omega) HO1.out.2.2.2 HO1'.out.2.2.2)
    have hs1 : lo + 1 ≤ w1.heap.size := Nat.le_trans hs0 hb1.size
    clear h1 h2 hAt hb1 HN HO0 HO0' HL0 HB0
    go_wp2_with fail
    refine HD.out.mono ?_
    rintro e w2 ⟨u, rfl, hu, hb2⟩
    obtain ⟨Ad, cd, rfl, hd⟩ := ItsR.of_own hu (fun i hi => by unfold dblI; have := dblT_le D L n i; omega)
    have HDr := Lib.hid hd
    have HB2 := Lib.hid (below_up hlo HB1.out hb2)
    have HA2 := Lib.hid (HI.out.keep HA1.out hb2)
    have HL2 := Lib.hid (HL1.out.below hb2 (by omega))
    have hs2 : lo + 1 ≤ w2.heap.size := Nat.le_trans hs1 hb2.size
    clear hu hb2 hd HA1 HO1 HO1' HL1 HD HB1
    go_wp2_with fail
    go_loopw [10] (fun s wr => ∃ (k : Nat) (z : Int), k ≤ n + 2 ∧ z + 1 = (k : Int) ∧ s = .int .i64 z ∧ Hid (Below lo w wr) ∧ Hid (Below w2.heap.size w2 wr)) (fun s _ => n + 2 - (intOf s + 1).toNat)
    case atStart => exact ⟨0, -1, by omega, by omega, rfl, HB2, Lib.hid (Below.refl _ _)⟩
    case round =>
      clear HB2
      obtain ⟨k, z, hk, hz, rfl, hB, hb⟩ := hrel
      by_cases hlt : z ≤ (n : Int)
      · have d0 : decide (z ≤ (n : Int)) = true := decide_eq_true hlt
        have z1 : IntKind.i64.wrap (z + 1) = z + 1 := IntWalk.i64_in _ (by omega)
        have hwz := WalkArith.wf_i64 (show -9223372036854775808 ≤ z ∧ z ≤ 9223372036854775807 by omega)
        have H1 := HI.out.doubles _ _ _ _ _ z _ hwz (HI.out.keep HA2.out hb.out)
        by_cases hin : 0 ≤ z ∧ z < (n : Int)
        · obtain ⟨i, rfl⟩ : ∃ i : Nat, z = (i : Int) := ⟨z.toNat, by omega⟩
          have hi : i < n := by omega
          rw [dblAt_in hi] at H1
          obtain ⟨ad, rfl, _, cd0, _⟩ := HDr.out.2.2.2.below hb.out i hi
          have cd1 : World.cell? _ (ad.add i) = some (.int .i64 ((dblT D L n i : Nat) : Int)) := cd0
          have q1 : (((dblT D L n i : Nat) : Int) != ((dblT D L n i : Nat) : Int)) = false := by simp
          have g1 : decide ((0 : Int) ≤ (i : Int)) = true := decide_eq_true hin.1
          have g2 : decide ((i : Int) < (n : Int)) = true := decide_eq_true hin.2
          generalize dblT D L n i = y at H1 cd1 q1
          have H1 := Lib.hid H1
          clear cd0 hz
          go_wp2_with (go_at_call 10; (with_reducible refine H1.out.mono ?_); rintro e w3 ⟨rfl, hb3⟩)
          go_roundw
          case rel => exact ⟨i + 2, (i : Int) + 1, by omega, by omega, by go_num, Lib.hid (below_up hlo hB.out hb3), Lib.hid (hb.out.trans (hb3.mono hb.out.size))⟩
          case measure => simp [intOf]; omega
        · rw [dblAt_out hin] at H1
          have H1 := Lib.hid H1
          have hout : (decide ((0 : Int) ≤ z) = false) ∨ (decide ((0 : Int) ≤ z) = true ∧ decide (z < (n : Int)) = false) := by
            by_cases g : 0 ≤ z
            · exact .inr ⟨decide_eq_true g, decide_eq_false (by omega)⟩
            · exact .inl (decide_eq_false g)
          have hk1 : k + 1 ≤ n + 2 := by omega
          have HZ : Hid (z + 1 + 1 = ((k + 1 : Nat) : Int)) := Lib.hid (by omega)
          have hzz : -1 ≤ z := by omega
          clear hz hin
          rcases hout with g1 | ⟨g1, g2⟩
          · go_wp2_with (go_at_call 10; (with_reducible refine H1.out.mono ?_); rintro e w3 ⟨rfl, hb3⟩)
            go_roundw
            case rel => exact ⟨k + 1, z + 1, hk1, HZ.out, rfl, Lib.hid (below_up hlo hB.out hb3), Lib.hid (hb.out.trans (hb3.mono hb.out.size))⟩
            case measure => simp [intOf]; omega
          · go_wp2_with (go_at_call 10; (with_reducible refine H1.out.mono ?_); rintro e w3 ⟨rfl, hb3⟩)
            go_roundw
            case rel => exact ⟨k + 1, z + 1, hk1, HZ.out, rfl, Lib.hid (below_up hlo hB.out hb3), Lib.hid (hb.out.trans (hb3.mono hb.out.size))⟩
            case measure => simp [intOf]; omega
      · have d0 : decide (z ≤ (n : Int)) = false := decide_eq_false hlt
        rename World => w3
        have HA3 := Lib.hid (HI.out.keep HA2.out hb.out)
        have hl3 := HL2.out.below hb.out (by omega)
        have c0 : w3.cell? ⟨lo, 0, none⟩ = some (.int .i64 a) := hl3.cell 0
        have c1 : w3.cell? ⟨lo, 1, none⟩ = some (.int .i64 b) := hl3.cell 1
        have HDr3 := Lib.hid (HDr.out.below hb.out)
        clear HA2 HL2 HDr hb hl3
        go_upto_region 19 with (fail)
        go_cut [12, 13] from 69 to 72 (fun s t wx => s = .int .i64 a ∧ t = .int .i64 b ∧ Below w3.heap.size w3 wx)
        case first =>
          go_quiet (fail)
          go_wp2_with fail
          go_meet
          exact ⟨rfl, rfl, below_drewN' (Below.refl _ _) _⟩
        case rest =>
        obtain ⟨rfl, rfl, hbx⟩ := hcut
        have HB4 := Lib.hid (below_up hlo hB.out hbx)
        have HA4 := Lib.hid (HI.out.keep HA3.out hbx)
        have HDr4 := Lib.hid (HDr3.out.below hbx)
        have H5 := HI.out.docs _ _ _ _ _ a b wc HW.out.1 HW.out.2 HA4.out
        have hbb := i64_in HW.out.2
        have hab := i64_in HW.out.1
        clear HA3 HDr3 hB hbx c0 c1
        by_cases hin : 0 ≤ a ∧ a < b ∧ b ≤ (n : Int)
        rotate_left
        · rw [docsI_out hin] at H5
          have H5 := Lib.hid H5
          have hout : decide (a < 0) = true ∨ (decide (a < 0) = false ∧ decide (b ≤ a) = true) ∨ (decide (a < 0) = false ∧ decide (b ≤ a) = false ∧ decide ((n : Int) < b) = true) := by
            by_cases g : a < 0
            · exact .inl (decide_eq_true g)
            · by_cases g' : b ≤ a
              · exact .inr (.inl ⟨decide_eq_false g, decide_eq_true g'⟩)
              · exact .inr (.inr ⟨decide_eq_false g, decide_eq_false g', decide_eq_true (by omega)⟩)
          clear hin hbb hab
          rcases hout with g1 | ⟨g1, g2⟩ | ⟨g1, g2, g3⟩
          all_goals
            go_wp2_with (go_at_call 11; (with_reducible refine H5.out.mono ?_); rintro e w5 ⟨rfl, hb5⟩)
            go_ret
            exact ⟨rfl, below_up hlo HB4.out hb5⟩
        · obtain ⟨h0, hlt2, hbn⟩ := hin
          obtain ⟨x, rfl⟩ : ∃ x : Nat, a = (x : Int) := ⟨a.toNat, by omega⟩
          obtain ⟨y, rfl⟩ : ∃ y : Nat, b = (y : Int) := ⟨b.toNat, by omega⟩
          have hxy : x < y := by omega
          have hyn : y ≤ n := by omega
          rw [docsI_in hxy hyn] at H5
          have H5 := Lib.hid H5
          have g1 : decide ((x : Int) < 0) = false := decide_eq_false (by omega)
          have g2 : decide ((y : Int) ≤ (x : Int)) = false := decide_eq_false (by omega)
          have g2' : decide (y ≤ x) = false := decide_eq_false (by omega)
          have g3 : decide ((n : Int) < (y : Int)) = false := decide_eq_false (by omega)
          have g3' : decide (n < y) = false := decide_eq_false (by omega)
          obtain ⟨s0, hs0⟩ : ∃ s0 : Int, (y : Int) - (x : Int) = s0 := ⟨_, rfl⟩
          have w1 : IntKind.i64.wrap ((y : Int) - (x : Int)) = s0 := by rw [IntWalk.i64_in _ (by omega)]; exact hs0
          have x1 : IntKind.i64.wrap ((x : Int) + 1) = ((x + 1 : Nat) : Int) := by rw [IntWalk.i64_in _ (by omega)]; omega
          have HS0 : Hid (s0 = ((y : Int) - (x : Int)) - ((sumD (dblT D L n) (x + 1) 0 : Nat) : Int)) := Lib.hid (by rw [← hs0]; show _ = _ - ((0 : Nat) : Int); omega)
          have hs0b : 0 ≤ s0 ∧ s0 ≤ 400 := by omega
          clear hbb hab hs0 h0 hlt2 hbn
          go_wp2_with fail
          go_loop [14, 15] (fun s t => ∃ (k : Nat) (z : Int), x + 1 + k ≤ y ∧ s = .int .i64 z ∧ t = .int .i64 ((x + 1 + k : Nat) : Int) ∧ -200000 ≤ z ∧ z ≤ 400 ∧ Hid (z = ((y : Int) - (x : Int)) - ((sumD (dblT D L n) (x + 1) k : Nat) : Int) ∧ -(400 * (k : Int)) ≤ z)) (fun _ t => y - (intOf t).toNat)
          case atStart => exact ⟨0, s0, by omega, rfl, by go_num, by omega, by omega, Lib.hid ⟨HS0.out, by omega⟩⟩
          case round =>
            clear HS0
            obtain ⟨k, z, hk, rfl, rfl, hz1, hz2, hz⟩ := hrel
            by_cases hkl : x + 1 + k < y
            · have hklI : ((x + 1 + k : Nat) : Int) < (y : Int) := by omega
              obtain ⟨ad, rfl, _, cd0, _⟩ := HDr4.out.2.2.2 (x + 1 + k) (by omega)
              have cd1 : World.cell? _ (ad.add (x + 1 + k)) = some (.int .i64 ((dblT D L n (x + 1 + k) : Nat) : Int)) := cd0
              have hdl := dblT_le D L n (x + 1 + k)
              have hkn : ((x + 1 + k : Nat) : Int) < (n : Int) := by omega
              have HN : Hid (z - ((dblT D L n (x + 1 + k) : Nat) : Int) = ((y : Int) - (x : Int)) - ((sumD (dblT D L n) (x + 1) (k + 1) : Nat) : Int) ∧ -(400 * ((k + 1 : Nat) : Int)) ≤ z - ((dblT D L n (x + 1 + k) : Nat) : Int)) := Lib.hid (by
                have h := hz.out
                show z - _ = _ - ((sumD (dblT D L n) (x + 1) k + dblT D L n (x + 1 + k) : Nat) : Int) ∧ _
                omega)
              have hz3 : -(400 * (k : Int)) ≤ z := hz.out.2
              generalize dblT D L n (x + 1 + k) = d at cd1 hdl HN
              obtain ⟨j, hj⟩ : ∃ j, x + 1 + k = j := ⟨_, rfl⟩
              rw [hj] at hklI cd1 hkn hkl ⊢
              have z1 : IntKind.i64.wrap (z - (d : Int)) = z - (d : Int) := IntWalk.i64_in _ (by omega)
              have HJ := Lib.hid hj
              have hz4 : -200000 ≤ z - (d : Int) := by omega
              clear cd0 hz hj
              go_wp2_with fail
              go_round
              case rel => exact ⟨k + 1, z - (d : Int), by have := HJ.out; omega, rfl, by have := HJ.out; go_num, hz4, by omega, HN⟩
              case measure => simp [intOf]; omega
            · have hkl2 : x + 1 + k = y := by omega
              have hkI : ¬ ((x + 1 + k : Nat) : Int) < (y : Int) := by omega
              have e := hz.out.1
              rw [show k = y - x - 1 by omega] at e
              rw [← e] at H5
              have q1 : (z == z) = true := by rw [beq_iff_eq]
              have hge : ¬ (y : Int) < (y : Int) := by omega
              rw [hkl2] at hkI ⊢
              clear e hz hkl2
              go_wp2_with (go_at_call 11; (with_reducible refine H5.out.mono ?_); rintro e w5 ⟨rfl, hb5⟩)
              go_ret
              exact ⟨rfl, below_up hlo HB4.out hb5⟩
end
end Go.Proofs.Ytoeamldadclodaa
