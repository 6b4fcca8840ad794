/- The walk of colophonlaw12.DocsCounts, over what packages text and docs answer (DocsI). -/
import Derived.Test.YtpdleigcdmgfmaaDocI
namespace Go.Proofs.Ytpdleigcdmgfmaa
open Go.RowKit
section
variable {At : Nat → World → Value → List Sec → Prop}

set_option maxRecDepth 100000 in
set_option maxHeartbeats 3200000 in
theorem dcCounts_walk (I : DocsI At) (A : Option Addr) (n c : Nat) (V : Nat → Int) (d a b : Int) (w : World) (hd : (Lit.int .i64 d).wf = true) (ha : (Lit.int .i64 a).wf = true) (hb : (Lit.int .i64 b).wf = true) (ho : ItsR w A n c V) :
    Calls Try.prog 5 #[.slice A n c, .int .i64 d, .agg #[.int .i64 a, .int .i64 b]] w fun e w' => e = .returned (.bool true) ∧ Below w.heap.size w w' := by
  have HI := Lib.hid I
  have hbx : Below w.heap.size w (w.alloc (.cells #[.int .i64 a, .int .i64 b] 41)) := (Below.refl _ _).alloc (Nat.le_refl _) _
  have HL := Lib.hid (lies_new w 41 [.int .i64 a, .int .i64 b])
  have HO := Lib.hid (ho.below hbx)
  have HF := Lib.hid (dfirst_any I (w.alloc (.cells #[.int .i64 a, .int .i64 b] 41)))
  have HW := Lib.hid (And.intro hd (And.intro ha hb))
  have hnl : n ≤ 9223372036854775807 := by have := ho.2.1; have := ho.2.2.1; unfold maxLen at this; omega
  have hsz := size_alloc w (.cells #[.int .i64 a, .int .i64 b] 41)
  clear I ho hd ha hb
  by_cases hbig : 1500 < n
  · have hdd : decide ((1500 : Int) < (n : Int)) = true := decide_eq_true (by omega)
    clear hsz
    go_enter Try.func5, Try.ntmps5
    go_wp2_with fail
    refine HF.out.mono ?_
    rintro e w0 ⟨rfl, hb0⟩
    have hB0 := hbx.trans (hb0.mono hbx.size)
    go_wp2_with fail
    go_ret
    exact ⟨rfl, hB0⟩
  · have hdd : decide ((1500 : Int) < (n : Int)) = false := decide_eq_false (by omega)
    have hn : n ≤ 1500 := by omega
    have HSz := Lib.hid hsz
    clear hsz
    go_enter Try.func5, Try.ntmps5
    go_wp2_with fail
    refine HF.out.mono ?_
    rintro e w0 ⟨rfl, hb0⟩
    have hB0 := hbx.trans (hb0.mono hbx.size)
    have HO0 := Lib.hid (HO.out.below hb0)
    have HL0 := Lib.hid (HL.out.below hb0 (by rw [HSz.out]; omega))
    have hz0 : w.heap.size < w0.heap.size := by have := hb0.size; have := HSz.out; omega
    have a0 : w0.cell? ⟨w.heap.size, 0, none⟩ = some (.int .i64 a) := HL0.out.cell 0
    have b0 : w0.cell? ⟨w.heap.size, 1, none⟩ = some (.int .i64 b) := HL0.out.cell 1
    have HCt := Lib.hid (HI.out.count A n c V d a b w0 (by omega) HW.out.1 HW.out.2.1 HW.out.2.2 HO0.out)
    clear HF hb0 HO HL hbx
    go_wp2_with fail
    refine HCt.out.mono ?_
    rintro e w1 ⟨rfl, hb1⟩
    have hB1 := hB0.trans (hb1.mono hB0.size)
    have HO1 := Lib.hid (HO0.out.below hb1)
    have HL1 := Lib.hid (HL0.out.below hb1 hz0)
    have hz1 : w.heap.size < w1.heap.size := by have := hb1.size; omega
    have a1 : w1.cell? ⟨w.heap.size, 0, none⟩ = some (.int .i64 a) := HL1.out.cell 0
    have b1 : w1.cell? ⟨w.heap.size, 1, none⟩ = some (.int .i64 b) := HL1.out.cell 1
    have HRf := Lib.hid (refCountD_any A n c V d a b _ w1 (by omega) HO1.out.2.2.2)
    obtain ⟨k, hk⟩ : ∃ k, cntR V d a b n = k := ⟨_, rfl⟩
    have HK := Lib.hid hk
    rw [hk] at HRf ⊢
    have g0 : ((k : Int) != (k : Int)) = false := by simp
    clear HCt hb1 HO0 HL0 a0 b0 hB0 hk hz0
    go_wp2_with fail
    refine HRf.out.mono ?_
    rintro e w2 ⟨rfl, rfl⟩
    have HBk := Lib.hid (HI.out.back A n c V w1 (by omega) HO1.out)
    clear HRf
    go_wp2_with fail
    refine HBk.out.mono ?_
    rintro e w2 ⟨⟨A2, c2, rfl, hi2⟩, hb2⟩
    have hB2 := hB1.trans (hb2.mono hB1.size)
    have HX2 := Lib.hid hi2
    have HO2 := Lib.hid (HO1.out.below hb2)
    have HL2 := Lib.hid (HL1.out.below hb2 hz1)
    have a2 : w2.cell? ⟨w.heap.size, 0, none⟩ = some (.int .i64 a) := HL2.out.cell 0
    have b2 : w2.cell? ⟨w.heap.size, 1, none⟩ = some (.int .i64 b) := HL2.out.cell 1
    clear HBk hb2 hi2 HO1 HL1 a1 b1 hB1 hz1 g0
    go_wp2_with fail
    go_loop [8, 35] (fun u v => ∃ i m : Nat, i ≤ n ∧ m ≤ i ∧ u = .int .i64 (m : Int) ∧ v = .int .i64 (i : Int) ∧ Hid (m = fstR V d a b i)) (fun _ v => n - (intOf v).toNat)
    case atStart => exact ⟨0, 0, Nat.zero_le _, Nat.le_refl _, rfl, rfl, Lib.hid rfl⟩
    case round =>
      obtain ⟨i, m, hi, hmi, rfl, rfl, hm⟩ := hrel
      by_cases hlt : i < n
      · have hlti : (i : Int) < (n : Int) := by omega
        obtain ⟨ad1, rfl, _, c1', _⟩ := HX2.out.2.2.2 i hlt
        obtain ⟨ad2, rfl, _, c2', _⟩ := HO2.out.2.2.2 i hlt
        by_cases hh : (a ≤ (i : Int) ∧ (i : Int) < b ∧ V i = d) ∧ lastD V i < a
        · have HM : Hid (m + 1 = fstR V d a b (i + 1)) := Lib.hid (by rw [fstR_hit hh, hm.out])
          obtain ⟨⟨h1, h2, h3⟩, h4⟩ := hh
          have g1 : decide (a ≤ (i : Int)) = true := decide_eq_true h1
          have g2 : decide ((i : Int) < b) = true := decide_eq_true h2
          have g3 : (d == d) = true := by rw [beq_iff_eq]
          have g4 : decide (lastD V i < a) = true := decide_eq_true h4
          rw [h3] at c2'
          generalize lastD V i = x at c1' g4 h4
          clear hm h3
          go_wp2_with fail
          go_round
          case rel => exact ⟨i + 1, m + 1, by omega, by omega, by go_num, by go_num, HM⟩
          case measure => simp [intOf]; omega
        · have HM : Hid (m = fstR V d a b (i + 1)) := Lib.hid (by rw [fstR_miss hh, hm.out])
          by_cases h1 : a ≤ (i : Int)
          · have g1 : decide (a ≤ (i : Int)) = true := decide_eq_true h1
            by_cases h2 : (i : Int) < b
            · have g2 : decide ((i : Int) < b) = true := decide_eq_true h2
              by_cases h3 : V i = d
              · have g3 : (d == d) = true := by rw [beq_iff_eq]
                have h4 : ¬ lastD V i < a := fun h => hh ⟨⟨h1, h2, h3⟩, h⟩
                have g4 : decide (lastD V i < a) = false := decide_eq_false h4
                rw [h3] at c2'
                generalize lastD V i = x at c1' g4 h4
                clear hm h3 hh
                go_wp2_with fail
                go_round
                case rel => exact ⟨i + 1, m, by omega, by omega, rfl, by go_num, HM⟩
                case measure => simp [intOf]; omega
              · have g3 : (V i == d) = false := by rw [beq_eq_false_iff_ne]; exact h3
                generalize V i = y at c2' g3 h3
                generalize lastD V i = x at c1'
                clear hm hh
                go_wp2_with fail
                go_round
                case rel => exact ⟨i + 1, m, by omega, by omega, rfl, by go_num, HM⟩
                case measure => simp [intOf]; omega
            · have g2 : decide ((i : Int) < b) = false := decide_eq_false h2
              generalize lastD V i = x at c1'
              clear hm hh
              go_wp2_with fail
              go_round
              case rel => exact ⟨i + 1, m, by omega, by omega, rfl, by go_num, HM⟩
              case measure => simp [intOf]; omega
          · have g1 : decide (a ≤ (i : Int)) = false := decide_eq_false h1
            generalize lastD V i = x at c1'
            clear hm hh
            go_wp2_with fail
            go_round
            case rel => exact ⟨i + 1, m, by omega, by omega, rfl, by go_num, HM⟩
            case measure => simp [intOf]; omega
      · have hin : i = n := by omega
        have hge : ¬ (i : Int) < (n : Int) := by omega
        rw [hin] at hm
        by_cases ha0 : a < 0
        · have g1 : decide (a < 0) = true := decide_eq_true ha0
          clear hm hin
          go_wp2_with fail
          go_ret
          exact ⟨rfl, hB2⟩
        · have g1 : decide (a < 0) = false := decide_eq_false ha0
          have hmm : (m : Int) = min (k : Int) 1 := by
            have := firsts_one (V := V) (d := d) (b := b) (show 0 ≤ a by omega) n
            rw [← hm.out, HK.out] at this
            omega
          clear hm hin HK
          by_cases hk0 : k = 0
          · obtain rfl : m = 0 := by omega
            subst hk0
            clear hmm
            go_wp2_with fail
            go_ret
            exact ⟨rfl, hB2⟩
          · obtain rfl : m = 1 := by omega
            by_cases hk1 : k = 1
            · subst hk1
              clear hmm
              go_wp2_with fail
              go_ret
              exact ⟨rfl, hB2⟩
            · have hk2 : (1 : Int) < (k : Int) := by omega
              have hk3 : ¬ (k : Int) < 1 := by omega
              have hk4 : ¬ (k : Int) ≤ 1 := by omega
              have hmin : min (k : Int) 1 = 1 := by omega
              clear hmm
              go_wp2_with fail
              all_goals go_ret
              all_goals exact ⟨rfl, hB2⟩
end
end Go.Proofs.Ytpdleigcdmgfmaa
