/- The walk of colophonlaw13.WaveSorts, over what package wave answers (WaveI). -/
import Derived.Test.YtfhflmojcfnhnaaWavI
import Derived.Test.YtfhflmojcfnhnaaWavNar
namespace Go.Proofs.Ytfhflmojcfnhnaa
open Go.RowKit
/-- behind k places: the last one, and how many are less. -/
def SrtInv (V : Nat → Int) (n : Nat) (p q : Nat) (k : Nat) (l a : Int) : Prop :=
  (k = 0 ∧ l = -1 ∧ a = 0) ∨ ∃ k', k = k' + 1 ∧ lessR V (p : Int) (q : Int) l n ≤ k' ∧ k' < lessR V (p : Int) (q : Int) (l + 1) n ∧ a = ((lessR V (p : Int) (q : Int) l n : Nat) : Int)
theorem SrtInv.step {V : Nat → Int} {n p q k : Nat} {l a v : Int} (h : SrtInv V n p q k l a) (h0 : 0 ≤ v) (h1 : lessR V (p : Int) (q : Int) v n ≤ k) (h2 : k < lessR V (p : Int) (q : Int) (v + 1) n) :
    l ≤ v ∧ (l < v → lessR V (p : Int) (q : Int) v n = k) ∧ (l = v → ((lessR V (p : Int) (q : Int) v n : Nat) : Int) = a) := by
  rcases h with ⟨rfl, rfl, rfl⟩ | ⟨k', rfl, g1, g2, g3⟩
  · exact ⟨by omega, fun _ => by omega, fun h => by omega⟩
  · obtain ⟨e1, e2⟩ := quant_rise g1 g2 h1 h2
    exact ⟨e1, e2, fun e => by rw [← e, g3]⟩
section
variable {At : Nat → World → Value → Nat → (Nat → Int) → Nat → Prop} {Vt : Nat → World → Value → Nat → (Nat → Bool) → Prop}

set_option maxRecDepth 100000 in
set_option maxHeartbeats 3200000 in
theorem wvSorts_walk (I : WaveI At Vt) (A : Option Addr) (n ca : Nat) (V : Nat → Int) (x0 x1 : Int) (w : World) (hx0 : (Lit.int .i64 x0).wf = true) (hx1 : (Lit.int .i64 x1).wf = true) (ho : ItsR w A n ca V) :
    Calls Try.prog 7 #[.slice A n ca, .agg #[.int .i64 x0, .int .i64 x1]] w fun e w' => e = .returned (.bool true) ∧ Below w.heap.size w w' := by
  have HI := Lib.hid I
  have hbx : Below w.heap.size w (w.alloc (.cells #[.int .i64 x0, .int .i64 x1] 36)) := (Below.refl _ _).alloc (Nat.le_refl _) _
  have HL := Lib.hid (lies_new w 36 [.int .i64 x0, .int .i64 x1])
  have HO := Lib.hid (ho.below hbx)
  have HF := Lib.hid (wfirst_any I (w.alloc (.cells #[.int .i64 x0, .int .i64 x1] 36)))
  have hsz := size_alloc w (.cells #[.int .i64 x0, .int .i64 x1] 36)
  have HW := Lib.hid (And.intro hx0 ( hx1))
  have hnm : n ≤ maxLen := by have := ho.2.1; have := ho.2.2.1; omega
  have hnl : n ≤ 9223372036854775807 := by unfold maxLen at hnm; omega
  have hix0 := i64_in hx0
  have hix1 := i64_in hx1
  clear I ho hx0 hx1
  by_cases hbig : 200 < n
  · have hdd : decide ((200 : Int) < (n : Int)) = true := decide_eq_true (by omega)
    clear hsz
    go_enter Try.func7, Try.ntmps7
    go_wp2_with fail
    refine HF.out.mono ?_
    rintro e w0 ⟨rfl, hb0⟩
    have hB0 := hbx.trans (hb0.mono hbx.size)
    go_wp2_with fail
    go_ret
    exact ⟨rfl, hB0⟩
  · have hdd : decide ((200 : Int) < (n : Int)) = false := decide_eq_false (by omega)
    have hn : n ≤ 200 := by omega
    have HSz := Lib.hid hsz
    obtain ⟨r, hr⟩ : ∃ r : Bool, r = true ↔ RightW V n 300 := ⟨@decide _ (Classical.propDecidable _), @decide_eq_true_iff _ (Classical.propDecidable _)⟩
    have HR := Lib.hid hr
    clear hr hsz
    go_enter Try.func7, Try.ntmps7
    go_wp2_with fail
    refine HF.out.mono ?_
    rintro e w0 ⟨rfl, hb0⟩
    have HB0 := hbx.trans (hb0.mono hbx.size)
    have HO0 := Lib.hid (HO.out.below hb0)
    have HL0 := Lib.hid (HL.out.below hb0 (by rw [HSz.out]; omega))
    have hz0 : w.heap.size < w0.heap.size := by have := hb0.size; have := HSz.out; omega
    have HRt := Lib.hid (wright_is A n ca V 300 w0 hnm (by decide) HO0.out.2.2.2 r HR.out)
    clear HF HO HL hbx hb0
    go_wp2_with fail
    refine HRt.out.mono ?_
    rintro e w1 ⟨rfl, hb1⟩
    have HB1 := HB0.trans (hb1.mono HB0.size)
    rcases r with _ | _
    · clear HRt
      go_wp2_with fail
      go_ret
      exact ⟨rfl, HB1⟩
    · have HO1 := Lib.hid (HO0.out.below hb1)
      have HL1 := Lib.hid (HL0.out.below hb1 hz0)
      have hz1 : w.heap.size < w1.heap.size := by have := hb1.size; omega
      have HMd := Lib.hid (wmade_any HI.out A n ca V 300 w1 (by omega) (by decide) HO1.out)
      have HRw : Hid (RightW V n 300) := Lib.hid (HR.out.1 rfl)
      clear HRt hb1 HO0 HB0 HR HL0 hz0
      go_wp2_with fail
      refine HMd.out.mono ?_
      rintro e w2 ⟨h1, _, hb2⟩
      obtain ⟨B, v, rfl, hAt⟩ := h1 HRw.out
      obtain ⟨pa, rfl⟩ := HI.out.ptr hAt
      have HB2 := HB1.trans (hb2.mono HB1.size)
      have HA2 : Hid (At B w2 (.pointer (some pa)) n V 300) := Lib.hid hAt
      have HO2 := Lib.hid (HO1.out.below hb2)
      have HL2 := Lib.hid (HL1.out.below hb2 hz1)
      have hz2 : w.heap.size < w2.heap.size := by have := hb2.size; omega
      clear h1 hAt hb2 HMd HO1 HB1 HL1 hz1
      have a2 : w2.cell? ⟨w.heap.size, 0, none⟩ = some (.int .i64 x0) := HL2.out.cell 0
      have b2 : w2.cell? ⟨w.heap.size, 1, none⟩ = some (.int .i64 x1) := HL2.out.cell 1
      obtain ⟨p, hp, hpc⟩ : ∃ p : Nat, p ≤ n ∧ (((n : Int) < x0 ∧ (0 : Int) < (n : Int) ∧ p = n) ∨ ((n : Int) < x0 ∧ ¬ (0 : Int) < (n : Int) ∧ p = 0) ∨ (¬ (n : Int) < x0 ∧ 0 < x0 ∧ x0 = (p : Int)) ∨ (¬ (n : Int) < x0 ∧ ¬ 0 < x0 ∧ p = 0)) := by
        by_cases h1 : (n : Int) < x0
        · by_cases h2 : (0 : Int) < (n : Int)
          · exact ⟨n, Nat.le_refl _, .inl ⟨h1, h2, rfl⟩⟩
          · exact ⟨0, Nat.zero_le _, .inr (.inl ⟨h1, h2, rfl⟩)⟩
        · by_cases h2 : 0 < x0
          · exact ⟨x0.toNat, by omega, .inr (.inr (.inl ⟨h1, h2, by omega⟩))⟩
          · exact ⟨0, Nat.zero_le _, .inr (.inr (.inr ⟨h1, h2, rfl⟩))⟩
      obtain ⟨q, hpq, hq, hqc⟩ : ∃ q : Nat, p ≤ q ∧ q ≤ n ∧ (((n : Int) < x1 ∧ (p : Int) < (n : Int) ∧ q = n) ∨ ((n : Int) < x1 ∧ ¬ (p : Int) < (n : Int) ∧ q = p) ∨ (¬ (n : Int) < x1 ∧ (p : Int) < x1 ∧ x1 = (q : Int)) ∨ (¬ (n : Int) < x1 ∧ ¬ (p : Int) < x1 ∧ q = p)) := by
        by_cases h1 : (n : Int) < x1
        · by_cases h2 : (p : Int) < (n : Int)
          · exact ⟨n, hp, Nat.le_refl _, .inl ⟨h1, h2, rfl⟩⟩
          · exact ⟨p, Nat.le_refl _, hp, .inr (.inl ⟨h1, h2, rfl⟩)⟩
        · by_cases h2 : (p : Int) < x1
          · exact ⟨x1.toNat, by omega, by omega, .inr (.inr (.inl ⟨h1, h2, by omega⟩))⟩
          · exact ⟨p, Nat.le_refl _, hp, .inr (.inr (.inr ⟨h1, h2, rfl⟩))⟩
      have HP := Lib.hid hpc
      have HQ := Lib.hid hqc
      clear hpc hqc
      go_upto_region 6 with (fail)
      go_cut [7] from 28 to 33 (fun s wx => s = .int .i64 (p : Int) ∧ wx = w2)
      case first =>
        rcases HP.out with ⟨g1, g2, g3⟩ | ⟨g1, g2, g3⟩ | ⟨g1, g2, g3⟩ | ⟨g1, g2, g3⟩
        · have G := Lib.hid g3
          clear g3
          go_wp2_with fail
          go_meet
          exact ⟨by rw [G.out], rfl⟩
        · have G := Lib.hid g3
          clear g3
          go_wp2_with fail
          go_meet
          exact ⟨by rw [G.out]; rfl, rfl⟩
        · have G := Lib.hid g3
          clear g3
          go_wp2_with fail
          go_meet
          exact ⟨by rw [G.out], rfl⟩
        · have G := Lib.hid g3
          clear g3
          go_wp2_with fail
          go_meet
          exact ⟨by rw [G.out]; rfl, rfl⟩
      case rest =>
      obtain ⟨rfl, rfl⟩ := hcut
      go_upto_region 7 with (fail)
      go_cut [8] from 34 to 40 (fun s wx => s = .int .i64 (q : Int) ∧ wx = wc)
      case first =>
        rcases HQ.out with ⟨g1, g2, g3⟩ | ⟨g1, g2, g3⟩ | ⟨g1, g2, g3⟩ | ⟨g1, g2, g3⟩
        all_goals
          have G := Lib.hid g3
          clear g3
          go_wp2_with fail
          go_meet
          exact ⟨by rw [G.out], rfl⟩
      case rest =>
      obtain ⟨rfl, rfl⟩ := hcut
      obtain ⟨m, hm⟩ : ∃ m : Nat, p + m = q := ⟨q - p, by omega⟩
      have hw1 : IntKind.i64.wrap ((q : Int) - (p : Int)) = (m : Int) := by rw [IntWalk.i64_in _ (by omega)]; omega
      have HLn : Hid ((partL V (p : Int) (q : Int) n).length = m) := Lib.hid (by rw [partL_count hpq hq]; omega)
      have HB3 := Lib.hid HB2
      have HIp := HI
      clear HP HQ HL2 hz2 a2 b2 HO2 HB2 hix0 hix1 HW HSz
      have HM := Lib.hid hm
      clear hm
      go_wp2_with fail
      go_loopw [9, 10, 44] (fun s t u wr => ∃ (k : Nat) (l a : Int), k ≤ m ∧ u = .int .i64 (k : Int) ∧ s = .int .i64 l ∧ t = .int .i64 a ∧ Hid (SrtInv V n p q k l a) ∧ Hid (Below w.heap.size w wr) ∧ Hid (At B wr (.pointer (some pa)) n V 300)) (fun _ _ u _ => m - (intOf u).toNat)
      case atStart => exact ⟨0, -1, 0, Nat.zero_le _, rfl, rfl, rfl, Lib.hid (.inl ⟨rfl, rfl, rfl⟩), HB3, HA2⟩
      case round =>
        clear HB3 HA2
        obtain ⟨k, l, a, hk, rfl, rfl, rfl, hS, hB, hA⟩ := hrel
        have wp := WalkArith.wf_i64 (show -9223372036854775808 ≤ (p : Int) ∧ (p : Int) ≤ 9223372036854775807 by omega)
        have wq := WalkArith.wf_i64 (show -9223372036854775808 ≤ (q : Int) ∧ (q : Int) ≤ 9223372036854775807 by omega)
        have hkn : k ≤ 200 := by have := HM.out; omega
        have wk := WalkArith.wf_i64 (show -9223372036854775808 ≤ (k : Int) ∧ (k : Int) ≤ 9223372036854775807 by omega)
        have HQt := Lib.hid (HI.out.quantile _ _ _ _ _ (p : Int) (q : Int) (k : Int) wr wp wq wk hA.out)
        by_cases hlt : k < m
        · have hltk : (k : Int) < (m : Int) := by omega
          obtain ⟨v, hv, hmem, h3, h4⟩ := quantI_is (V := V) (n := n) (a := (p : Int)) (b := (q : Int)) (k := k) (by rw [HLn.out]; exact hlt)
          obtain ⟨j, hj1, hj2, hj3, hj4⟩ := mem_partL.1 hmem
          have hvr := HRw.out.2.2.2 j hj1
          rw [hj4] at hvr
          obtain ⟨e1, e2, e3⟩ := hS.out.step hvr.1 h3 h4
          have wv := WalkArith.wf_i64 (show -9223372036854775808 ≤ v ∧ v ≤ 9223372036854775807 by omega)
          have hrr := cntR_more (V := V) (x := v) (p := p) (q := q) (j := j) (n := n) (by omega) (by omega) hq hj4
          rw [hv] at HQt
          obtain ⟨ls, hls⟩ : ∃ ls, lessR V (p : Int) (q : Int) v n = ls := ⟨_, rfl⟩
          obtain ⟨r1, hr1⟩ : ∃ r1, cntR V v 0 (q : Int) n = r1 := ⟨_, rfl⟩
          obtain ⟨r2, hr2⟩ : ∃ r2, cntR V v 0 (p : Int) n = r2 := ⟨_, rfl⟩
          have HN : Hid (SrtInv V n p q (k + 1) v ((ls : Nat) : Int)) := Lib.hid (.inr ⟨k, rfl, h3, h4, by rw [hls]⟩)
          rw [hls] at e2 e3
          rw [hr1, hr2] at hrr
          have q1 : decide (v < l) = false := decide_eq_false (by omega)
          have q1' : ¬ v < l := by omega
          have q2 : ((ls : Int) != (ls : Int)) = false := by simp
          have q3 : ((r1 : Int) == (r2 : Int)) = false := by rw [beq_eq_false_iff_ne]; omega
          have q3' : ¬ (r1 : Int) = (r2 : Int) := by omega
          have q3'' : ¬ r1 = r2 := by omega
          have q3b : (r1 == r2) = false := by rw [beq_eq_false_iff_ne]; exact q3''
          have HLs := Lib.hid hls
          have HR1 := Lib.hid hr1
          have HR2 := Lib.hid hr2
          have hcase : (decide (l < v) = true ∧ l < v ∧ Hid ((k : Int) = (ls : Int))) ∨ (decide (l < v) = false ∧ ¬ l < v ∧ Hid (a = (ls : Int))) := by
            by_cases h : l < v
            · exact .inl ⟨decide_eq_true h, h, Lib.hid (by rw [e2 h])⟩
            · exact .inr ⟨decide_eq_false h, h, Lib.hid (e3 (by omega)).symm⟩
          clear hv hmem h3 h4 hj2 hj3 hj4 e1 e2 e3 hls hr1 hr2 hS hrr hj1
          rcases hcase with ⟨c1, c2, c3⟩ | ⟨c1, c2, c3⟩
          all_goals
            go_wp2_with fail
            refine HQt.out.mono ?_
            rintro e w3 ⟨rfl, hb3⟩
            have HB3 := hB.out.trans (hb3.mono hB.out.size)
            have HA3 := Lib.hid (HI.out.keep hA.out hb3)
            have HBl := Lib.hid (HI.out.below _ _ _ _ _ (p : Int) (q : Int) v w3 wp wq wv HA3.out)
            rw [HLs.out, ← c3.out] at HBl
            clear hb3 hA hB HQt
            go_wp2_with fail
            refine HBl.out.mono ?_
            rintro e w4 ⟨rfl, hb4⟩
            have HB4 := HB3.trans (hb4.mono HB3.size)
            have HA4 := Lib.hid (HI.out.keep HA3.out hb4)
            have HRk := Lib.hid (HI.out.rank_ _ _ _ _ _ v (q : Int) w4 wv wq HA4.out)
            rw [HR1.out] at HRk
            clear hb4 HA3 HB3 HBl
            go_wp2_with fail
            refine HRk.out.mono ?_
            rintro e w5 ⟨rfl, hb5⟩
            have HB5 := HB4.trans (hb5.mono HB4.size)
            have HA5 := Lib.hid (HI.out.keep HA4.out hb5)
            have HRk := Lib.hid (HI.out.rank_ _ _ _ _ _ v (p : Int) w5 wv wp HA5.out)
            rw [HR2.out] at HRk
            clear hb5 HA4 HB4
            go_wp2_with fail
            refine HRk.out.mono ?_
            rintro e w6 ⟨rfl, hb6⟩
            have HB6 := HB5.trans (hb6.mono HB5.size)
            have HA6 := Lib.hid (HI.out.keep HA5.out hb6)
            clear hb6 HA5 HB5 HRk
            go_wp2_with fail
            go_roundw
            case rel => exact ⟨k + 1, v, _, by omega, by go_num, rfl, rfl, by rw [c3.out]; exact HN, Lib.hid HB6, HA6⟩
            case measure => simp [intOf]; omega
        · obtain rfl : k = m := by omega
          have hge : ¬ (k : Int) < (k : Int) := by omega
          have hout : quantI V n (p : Int) (q : Int) (k : Int) = -1 := quantI_out (.inr (by rw [HLn.out]; exact Int.le_refl _))
          have hall : lessR V (p : Int) (q : Int) 301 n = k := by rw [lessR_all (fun i hi => by have := HRw.out.2.2.2 i hi; omega), HLn.out]
          rw [hout] at HQt
          have q1 : ((k : Int) == (k : Int)) = true := by simp
          have HAl := Lib.hid hall
          clear hout hall hS
          go_wp2_with fail
          refine HQt.out.mono ?_
          rintro e w3 ⟨rfl, hb3⟩
          have HB3 := hB.out.trans (hb3.mono hB.out.size)
          have HA3 := Lib.hid (HI.out.keep hA.out hb3)
          have HBl := Lib.hid (HI.out.below _ _ _ _ _ (p : Int) (q : Int) 301 w3 wp wq (by decide) HA3.out)
          rw [HAl.out] at HBl
          clear hb3 hA hB HQt
          go_wp2_with fail
          refine HBl.out.mono ?_
          rintro e w4 ⟨rfl, hb4⟩
          have HB4 := HB3.trans (hb4.mono HB3.size)
          clear hb4 HA3 HB3 HBl
          go_wp2_with fail
          go_ret
          exact ⟨rfl, HB4⟩
end
end Go.Proofs.Ytfhflmojcfnhnaa
