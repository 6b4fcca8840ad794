/- The walk of colophonlaw13.WaveRanks, over what package wave answers (WaveI). -/
import Derived.Test.YtfhflmojcfnhnaaWavI
import Derived.Test.YtfhflmojcfnhnaaDocRef
namespace Go.Proofs.Ytfhflmojcfnhnaa
open Go.RowKit
section
variable {At : Nat → World → Value → Nat → (Nat → Int) → Nat → Prop} {Vt : Nat → World → Value → Nat → (Nat → Bool) → Prop}

set_option maxRecDepth 100000 in
set_option maxHeartbeats 3200000 in
theorem wvRanks_walk (I : WaveI At Vt) (A : Option Addr) (n ca : Nat) (V : Nat → Int) (c a b : Int) (w : World) (hc : (Lit.int .i64 c).wf = true) (ha : (Lit.int .i64 a).wf = true) (hb : (Lit.int .i64 b).wf = true) (ho : ItsR w A n ca V) :
    Calls Try.prog 4 #[.slice A n ca, .int .i64 c, .agg #[.int .i64 a, .int .i64 b]] w fun e w' => e = .returned (.bool true) ∧ Below w.heap.size w w' := by
  have HI := Lib.hid I
  have hbx : Below w.heap.size w (w.alloc (.cells #[.int .i64 a, .int .i64 b] 36)) := (Below.refl _ _).alloc (Nat.le_refl _) _
  have HL := Lib.hid (lies_new w 36 [.int .i64 a, .int .i64 b])
  have HO := Lib.hid (ho.below hbx)
  have HF := Lib.hid (wfirst_any I (w.alloc (.cells #[.int .i64 a, .int .i64 b] 36)))
  have HW := Lib.hid (And.intro hc (And.intro ha hb))
  have hnm : n ≤ maxLen := by have := ho.2.1; have := ho.2.2.1; omega
  have hnl : n ≤ 9223372036854775807 := by unfold maxLen at hnm; omega
  have hsz := size_alloc w (.cells #[.int .i64 a, .int .i64 b] 36)
  have hab := And.intro (i64_in ha) (i64_in hb)
  clear I ho hc ha hb
  by_cases hbig : 1000 < n
  · have hdd : decide ((1000 : Int) < (n : Int)) = true := decide_eq_true (by omega)
    clear hsz hab
    go_enter Try.func4, Try.ntmps4
    go_wp2_with fail
    refine HF.out.mono ?_
    rintro e w0 ⟨rfl, hb0⟩
    have hB0 := hbx.trans (hb0.mono hbx.size)
    go_wp2_with fail
    go_ret
    exact ⟨rfl, hB0⟩
  · have hdd : decide ((1000 : Int) < (n : Int)) = false := decide_eq_false (by omega)
    have hn : n ≤ 1000 := by omega
    have HSz := Lib.hid hsz
    have HAB := Lib.hid hab
    obtain ⟨r, hr⟩ : ∃ r : Bool, r = true ↔ RightW V n 300 := ⟨@decide _ (Classical.propDecidable _), @decide_eq_true_iff _ (Classical.propDecidable _)⟩
    have HR := Lib.hid hr
    clear hsz hab hr
    go_enter Try.func4, Try.ntmps4
    go_wp2_with fail
    refine HF.out.mono ?_
    rintro e w0 ⟨rfl, hb0⟩
    have hB0 := hbx.trans (hb0.mono hbx.size)
    have HO0 := Lib.hid (HO.out.below hb0)
    have HL0 := Lib.hid (HL.out.below hb0 (by rw [HSz.out]; omega))
    have hz0 : w.heap.size < w0.heap.size := by have := hb0.size; have := HSz.out; omega
    have HRt := Lib.hid (wright_is A n ca V 300 w0 hnm (by decide) HO0.out.2.2.2 r HR.out)
    clear HF hb0 HO HL hbx
    go_wp2_with fail
    refine HRt.out.mono ?_
    rintro e w1 ⟨rfl, hb1⟩
    have hB1 := hB0.trans (hb1.mono hB0.size)
    rcases r with _ | _
    · clear HRt
      go_wp2_with fail
      go_ret
      exact ⟨rfl, hB1⟩
    · have HO1 := Lib.hid (HO0.out.below hb1)
      have HL1 := Lib.hid (HL0.out.below hb1 hz0)
      have hz1 : w.heap.size < w1.heap.size := by have := hb1.size; omega
      have HMd := Lib.hid (wmade_any HI.out A n ca V 300 w1 (by omega) (by decide) HO1.out)
      have HRw : Hid (RightW V n 300) := Lib.hid (HR.out.1 rfl)
      clear HRt hb1 HO0 HL0 hB0 hz0 HR
      go_wp2_with fail
      refine HMd.out.mono ?_
      rintro e w2 ⟨h1, _, hb2⟩
      obtain ⟨B, v, rfl, hAt⟩ := h1 HRw.out
      obtain ⟨pa, rfl⟩ := HI.out.ptr hAt
      have hB2 := hB1.trans (hb2.mono hB1.size)
      have HA2 := Lib.hid hAt
      have HO2 := Lib.hid (HO1.out.below hb2)
      have HL2 := Lib.hid (HL1.out.below hb2 hz1)
      have hz2 : w.heap.size < w2.heap.size := by have := hb2.size; omega
      have a2 : w2.cell? ⟨w.heap.size, 0, none⟩ = some (.int .i64 a) := HL2.out.cell 0
      have b2 : w2.cell? ⟨w.heap.size, 1, none⟩ = some (.int .i64 b) := HL2.out.cell 1
      clear h1 hAt hb2 HMd HO1 HL1 hB1 hz1
      go_wp2_with fail
      go_quiet (fail)
      have HB3 : Hid (Below w.heap.size w (w2.drewN nq)) := Lib.hid (below_drewN' hB2 nq)
      have HA3 : Hid (At B (w2.drewN nq) (.pointer (some pa)) n V (300 : Int).toNat) := Lib.hid (HI.out.keep HA2.out (below_drewN' (Below.refl _ _) nq))
      have HO3 : Hid (ItsR (w2.drewN nq) A n ca V) := Lib.hid (HO2.out.below (below_drewN' (Below.refl _ _) nq))
      clear HA2 HO2 HL2 hz2 a2 b2 hB2
      generalize w2.drewN nq = w3 at HB3 HA3 HO3 ⊢
      obtain ⟨r8, hr8⟩ : ∃ r8 : Bool, r8 = true ↔ (0 ≤ a ∧ a < (n : Int)) := ⟨decide (0 ≤ a ∧ a < (n : Int)), decide_eq_true_iff⟩
      have HR8 := Lib.hid hr8
      clear hr8
      go_upto_region 8 with (fail)
      go_cut [42] from 35 to 42 (fun s wx => s = .bool r8 ∧ wx = w3)
      case first =>
        by_cases h1 : 0 ≤ a
        · have g1 : decide ((0 : Int) ≤ a) = true := decide_eq_true h1
          by_cases h2 : a < (n : Int)
          · have g2 : decide (a < (n : Int)) = true := decide_eq_true h2
            obtain rfl : r8 = true := HR8.out.2 ⟨h1, h2⟩
            go_wp2_with fail
            go_meet
            exact ⟨rfl, rfl⟩
          · have g2 : decide (a < (n : Int)) = false := decide_eq_false h2
            obtain rfl : r8 = false := Bool.eq_false_iff.2 fun h => h2 (HR8.out.1 h).2
            go_wp2_with fail
            go_meet
            exact ⟨rfl, rfl⟩
        · have g1 : decide ((0 : Int) ≤ a) = false := decide_eq_false h1
          obtain rfl : r8 = false := Bool.eq_false_iff.2 fun h => h1 (HR8.out.1 h).1
          go_wp2_with fail
          go_meet
          exact ⟨rfl, rfl⟩
      case rest =>
        obtain ⟨rfl, rfl⟩ := hcut
        go_upto_if 42 with (fail)
        go_cut [11] from 43 to 46 (fun s wx => s = .int .i64 (atI V n a) ∧ wx = wc)
        case first =>
          rcases r8 with _ | _
          · have hat : atI V n a = -1 := if_neg fun h => by
              have := HR8.out.2 h
              cases this
            have HAt1 := Lib.hid hat
            clear hat
            go_wp2_with fail
            go_meet
            exact ⟨by rw [HAt1.out], rfl⟩
          · obtain ⟨h1, h2⟩ := HR8.out.1 rfl
            obtain ⟨x, rfl⟩ : ∃ x : Nat, a = (x : Int) := ⟨a.toNat, by omega⟩
            have hxn : x < n := by omega
            obtain ⟨ad, rfl, _, cx, _⟩ := HO3.out.2.2.2 x hxn
            have hat : atI V n (x : Int) = V x := by
              unfold atI
              rw [if_pos ⟨h1, h2⟩, Int.toNat_natCast]
            obtain ⟨y, hy⟩ : ∃ y, V x = y := ⟨_, rfl⟩
            rw [hy] at cx hat
            have HAt1 := Lib.hid hat
            clear hat hy
            go_wp2_with fail
            go_meet
            exact ⟨by rw [HAt1.out], rfl⟩
        case rest =>
          obtain ⟨rfl, rfl⟩ := hcut
          obtain ⟨y1, hy1⟩ : ∃ y1, atI V n a = y1 := ⟨_, rfl⟩
          have HY1 := Lib.hid hy1
          rw [hy1]
          clear hy1 HR8
          go_wp2_with fail
          go_loop [12, 13, 49] (fun s t u => ∃ i m : Nat, i ≤ n ∧ m ≤ i ∧ u = .int .i64 (i : Int) ∧ t = .int .i64 (m : Int) ∧ (∃ z : Int, s = .int .i64 z ∧ Hid (z = selW V i c b)) ∧ Hid (m = Pl.cnt (fun j => decide (V j = c)) i)) (fun _ _ u => n - (intOf u).toNat)
          case atStart => exact ⟨0, 0, Nat.zero_le _, Nat.le_refl _, rfl, rfl, ⟨-1, rfl, Lib.hid rfl⟩, Lib.hid rfl⟩
          case round =>
            obtain ⟨i, m, hi, hmi, rfl, rfl, ⟨z, rfl, hz⟩, hm⟩ := hrel
            by_cases hlt : i < n
            · have hlti : (i : Int) < (n : Int) := by omega
              obtain ⟨ad, rfl, _, cx, _⟩ := HO3.out.2.2.2 i hlt
              have hsel : selW V (i + 1) c b = if decide (V i = c) = true ∧ ((Pl.cnt (fun j => decide (V j = c)) i : Nat) : Int) = b then (i : Int) else selW V i c b := rfl
              rw [← hm.out, ← hz.out] at hsel
              by_cases h1 : V i = c
              · have HM2 : Hid (m + 1 = Pl.cnt (fun j => decide (V j = c)) (i + 1)) := Lib.hid (by rw [Pl.cnt_succ, if_pos (decide_eq_true h1), ← hm.out])
                rw [decide_eq_true h1] at hsel
                rw [h1] at cx
                have g1 : (c == c) = true := by rw [beq_iff_eq]
                by_cases h2 : (m : Int) = b
                · have HZ2 : Hid ((i : Int) = selW V (i + 1) c b) := Lib.hid (by rw [hsel, if_pos ⟨rfl, h2⟩])
                  have g2 : ((m : Int) == b) = true := by rw [beq_iff_eq]; exact h2
                  clear hsel hm hz h1 h2
                  go_wp2_with fail
                  go_round
                  case rel => exact ⟨i + 1, m + 1, by omega, by omega, by go_num, by go_num, ⟨_, rfl, HZ2⟩, HM2⟩
                  case measure => simp [intOf]; omega
                · have HZ2 : Hid (z = selW V (i + 1) c b) := Lib.hid (by rw [hsel, if_neg fun h => h2 h.2])
                  have g2 : ((m : Int) == b) = false := by rw [beq_eq_false_iff_ne]; exact h2
                  clear hsel hm hz h1
                  go_wp2_with fail
                  go_round
                  case rel => exact ⟨i + 1, m + 1, by omega, by omega, by go_num, by go_num, ⟨_, rfl, HZ2⟩, HM2⟩
                  case measure => simp [intOf]; omega
              · have HM2 : Hid (m = Pl.cnt (fun j => decide (V j = c)) (i + 1)) := Lib.hid (by rw [Pl.cnt_succ, if_neg (by rw [decide_eq_true_iff]; exact h1), ← hm.out, Nat.add_zero])
                have HZ2 : Hid (z = selW V (i + 1) c b) := Lib.hid (by rw [hsel, if_neg fun h => h1 (of_decide_eq_true h.1)])
                have g1 : (V i == c) = false := by rw [beq_eq_false_iff_ne]; exact h1
                generalize V i = x at cx g1 h1
                clear hsel hm hz
                go_wp2_with fail
                go_round
                case rel => exact ⟨i + 1, m, by omega, by omega, by go_num, rfl, ⟨_, rfl, HZ2⟩, HM2⟩
                case measure => simp [intOf]; omega
            · have hin : i = n := by omega
              have hge : ¬ (i : Int) < (n : Int) := by omega
              rw [hin] at hz
              have H1 := Lib.hid (HI.out.at_ _ _ _ _ _ a wc HW.out.2.1 HA3.out)
              rw [HY1.out] at H1
              have g1 : (y1 == y1) = true := by rw [beq_iff_eq]
              clear hm hin
              go_wp2_with fail
              refine H1.out.mono ?_
              rintro e w4 ⟨rfl, hb4⟩
              have HB4 := HB3.out.trans (hb4.mono HB3.out.size)
              have HA4 := Lib.hid (HI.out.keep HA3.out hb4)
              have HO4 := Lib.hid (HO3.out.below hb4)
              have H2 := Lib.hid (HI.out.rank_ _ _ _ _ _ c a w4 HW.out.1 HW.out.2.1 HA4.out)
              clear hb4 H1
              go_wp2_with fail
              refine H2.out.mono ?_
              rintro e w5 ⟨rfl, hb5⟩
              have HB5 := HB4.trans (hb5.mono HB4.size)
              have HA5 := Lib.hid (HI.out.keep HA4.out hb5)
              have HO5 := Lib.hid (HO4.out.below hb5)
              have H3 := Lib.hid (refCountD_any A n ca V c 0 a _ w5 (by omega) HO5.out.2.2.2)
              obtain ⟨k, hk⟩ : ∃ k, cntR V c 0 a n = k := ⟨_, rfl⟩
              rw [hk] at H3 ⊢
              have g2 : ((k : Int) == (k : Int)) = true := by rw [beq_iff_eq]
              clear hb5 H2 HA4 HO4 HB4 hk
              go_wp2_with fail
              refine H3.out.mono ?_
              rintro e w6 ⟨rfl, rfl⟩
              have H4 := Lib.hid (HI.out.select _ _ _ _ _ c b w5 HW.out.1 HW.out.2.2 HA5.out)
              rw [← hz.out] at H4
              have g3 : (z == z) = true := by rw [beq_iff_eq]
              clear H3
              go_wp2_with fail
              refine H4.out.mono ?_
              rintro e w7 ⟨rfl, hb7⟩
              have HB7 := HB5.trans (hb7.mono HB5.size)
              clear H4
              go_wp2_with fail
              go_ret
              exact ⟨rfl, HB7⟩
end
end Go.Proofs.Ytfhflmojcfnhnaa
