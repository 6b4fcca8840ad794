/- The walk of colophonlaw11.BwtBack, over what package bwt answers (BwtI). -/
import Derived.Test.YtjloepepnjcpiaaBwtI
namespace Go.Proofs.Ytjloepepnjcpiaa
open Go.RowKit

set_option maxRecDepth 100000 in
set_option maxHeartbeats 3200000 in
theorem bwBack_walk (I : BwtI) (A : Option Addr) (n c : Nat) (V : Nat → Int) (wh al : Int) (w : World) (ho : ItsR w A n c V) (hh : (Lit.int .i64 wh).wf = true) (ha : (Lit.int .i64 al).wf = true) :
    Calls Try.prog 5 #[.slice A n c, .int .i64 wh, .int .i64 al] w fun e w' => e = .returned (.bool true) ∧ Below w.heap.size w w' := by
  have HI := Lib.hid I
  have HO := Lib.hid ho
  have HF := Lib.hid (bfirst_any I w)
  have hcl : c ≤ 9223372036854775807 := by have := ho.2.2.1; unfold maxLen at this; omega
  have hnc := ho.2.1
  have hai := i64_in ha
  have hhi := i64_in hh
  clear I ho
  go_enter Try.func5, Try.ntmps5
  go_wp2_with fail
  refine HF.out.mono ?_
  rintro e w0 ⟨rfl, hb0⟩
  clear HF
  by_cases hbig : (n : Int) ≤ 200
  · have d1 : decide ((200 : Int) < (n : Int)) = false := decide_eq_false (by omega)
    have hn4 : n ≤ 200 := by omega
    by_cases hmid : 3000 < al ∧ al ≤ 4194304
    · have d2 : decide ((3000 : Int) < al) = true := decide_eq_true hmid.1
      have d3 : decide (al ≤ 4194304) = true := decide_eq_true hmid.2
      go_wp2_with fail
      go_ret
      exact ⟨rfl, hb0⟩
    · have H1 := Lib.hid (HI.out.back A n c V wh al w0 (by omega) hh ha (by omega) (HO.out.below hb0))
      have hRt : ∀ (r : Bool), (r = true ↔ RightS V n al) → ∀ W, Below w.heap.size w W → Hid (Calls Try.prog 14 #[.slice A n c, .int .i64 al] W fun e w' => e = .returned (.bool r) ∧ W = w') := fun r hr W hW => Lib.hid (refRightS_is A n c V al w.heap.size W (by unfold maxLen; omega) (HO.out.2.2.2.below hW) r hr)
      have HRt := Lib.hid hRt
      clear hRt
      by_cases hr : RightS V n al
      · have ha3 : 0 ≤ al ∧ al ≤ 3000 := by have := hr.1; omega
        have d2 : decide ((3000 : Int) < al) = false := decide_eq_false (by omega)
        have HR := Lib.hid hr
        clear hr hmid
        obtain ⟨mx, hmx⟩ : ∃ mx : Nat, max n 1 = mx := ⟨_, rfl⟩
        by_cases hin : 0 ≤ wh ∧ wh < (mx : Int)
        · obtain ⟨h, rfl⟩ : ∃ h : Nat, wh = (h : Int) := ⟨wh.toNat, by omega⟩
          have d4 : decide ((h : Int) < 0) = false := decide_eq_false (by omega)
          by_cases hn0 : n = 0
          · subst hn0
            obtain rfl : h = 0 := by omega
            go_wp2_with fail
            refine H1.out.mono ?_
            rintro e w1 ⟨_, h1, _, _, hb1⟩
            obtain ⟨A2, c2, rfl⟩ := h1 HR.out rfl rfl
            have hB1 := hb0.trans (hb1.mono hb0.size)
            have HC := HRt.out true ⟨fun _ => HR.out, fun _ => rfl⟩ w1 hB1
            clear h1 hb1 H1
            go_wp2_with fail
            refine HC.out.mono ?_
            rintro e w2 ⟨rfl, rfl⟩
            go_wp2_with fail
            go_ret
            exact ⟨rfl, hB1⟩
          · have hhn : h < n := by omega
            have hB : BackOK V n h ∨ ¬ BackOK V n h := Classical.em _
            rcases hB with hB | hB
            · have HB := Lib.hid hB
              clear hB
              go_wp2_with fail
              refine H1.out.mono ?_
              rintro e w1 ⟨_, _, h1, _, hb1⟩
              obtain ⟨A2, c2, rfl, hi2⟩ := h1 HR.out h rfl hhn HB.out
              have HL := Lib.hid hi2
              have hB1 := hb0.trans (hb1.mono hb0.size)
              have HC := HRt.out true ⟨fun _ => HR.out, fun _ => rfl⟩ w1 hB1
              clear h1 hb1 H1 hi2
              go_wp2_with fail
              refine HC.out.mono ?_
              rintro e w2 ⟨rfl, rfl⟩
              have hB2 := hB1
              have HBk := Lib.hid (refBack_is A n c h V w1 (by omega) hhn ((HO.out.2.2.2.below hB1).mono_ hB1.size) true ⟨fun _ => HB.out, fun _ => rfl⟩)
              clear HC HRt
              go_wp2_with fail
              refine HBk.out.mono ?_
              rintro e w3 ⟨A3, c3, rfl, hi3, hb3⟩
              have hB3 := hB1.trans (hb3.mono hB1.size)
              have HS := Lib.hid (refSame8_any A2 A3 n n c2 c3 _ _ w3.heap.size w3.heap.size w3 (by unfold maxLen; omega) (Nat.le_refl _) (Nat.le_refl _) (HL.out.below hb3).2.2.2 hi3.2.2.2)
              clear HBk hi3 hb3
              go_wp2_with fail
              refine HS.out.mono ?_
              rintro e w4 ⟨b, rfl, hbi, hb4⟩
              obtain rfl : b = true := hbi.2 ⟨by trivial, fun _ _ => by trivial⟩
              have hB4 := hB3.trans (hb4.mono hB3.size)
              clear hbi
              go_wp2_with fail
              go_ret
              exact ⟨rfl, hB4⟩
            · have HB := Lib.hid hB
              clear hB
              go_wp2_with fail
              refine H1.out.mono ?_
              rintro e w1 ⟨_, _, _, h1, hb1⟩
              obtain ⟨A2, c2, rfl⟩ := h1 HR.out h rfl hhn HB.out
              have hB1 := hb0.trans (hb1.mono hb0.size)
              have HC := HRt.out true ⟨fun _ => HR.out, fun _ => rfl⟩ w1 hB1
              clear h1 hb1 H1
              go_wp2_with fail
              refine HC.out.mono ?_
              rintro e w2 ⟨rfl, rfl⟩
              have HBk := Lib.hid (refBack_is A n c h V w1 (by omega) hhn ((HO.out.2.2.2.below hB1).mono_ hB1.size) false ⟨fun e => (by cases e), fun h => absurd h HB.out⟩)
              clear HC HRt
              go_wp2_with fail
              refine HBk.out.mono ?_
              rintro e w3 ⟨A3, c3, rfl, hi3, hb3⟩
              have hB3 := hB1.trans (hb3.mono hB1.size)
              clear hi3
              go_wp2_with fail
              go_ret
              exact ⟨rfl, hB3⟩
        · have HNo : Hid (¬ (RightS V n al ∧ 0 ≤ wh ∧ wh < ((max n 1 : Nat) : Int))) := Lib.hid (by
            rw [hmx]
            exact fun g => hin g.2)
          have HRt1 := Lib.hid (HRt.out true ⟨fun _ => HR.out, fun _ => rfl⟩)
          by_cases hw0 : wh < 0
          · have d4 : decide (wh < 0) = true := decide_eq_true hw0
            clear hin hmx
            go_wp2_with fail
            refine H1.out.mono ?_
            rintro e w1 ⟨h1, _, _, _, hb1⟩
            obtain ⟨A2, c2, rfl⟩ := h1 HNo.out
            have hB1 := hb0.trans (hb1.mono hb0.size)
            have HC := HRt1.out w1 hB1
            clear h1 hb1 H1
            go_wp2_with fail
            refine HC.out.mono ?_
            rintro e w2 ⟨rfl, rfl⟩
            go_wp2_with fail
            go_ret
            exact ⟨rfl, hB1⟩
          · have d4 : decide (wh < 0) = false := decide_eq_false hw0
            by_cases hn0 : n = 0
            · subst hn0
              have d5 : decide ((1 : Int) ≤ wh) = true := decide_eq_true (by omega)
              clear hin hmx
              go_wp2_with fail
              refine H1.out.mono ?_
              rintro e w1 ⟨h1, _, _, _, hb1⟩
              obtain ⟨A2, c2, rfl⟩ := h1 HNo.out
              have hB1 := hb0.trans (hb1.mono hb0.size)
              have HC := HRt1.out w1 hB1
              clear h1 hb1 H1
              go_wp2_with fail
              refine HC.out.mono ?_
              rintro e w2 ⟨rfl, rfl⟩
              go_wp2_with fail
              go_ret
              exact ⟨rfl, hB1⟩
            · have d5 : decide ((n : Int) ≤ wh) = true := decide_eq_true (by omega)
              clear hin hmx
              go_wp2_with fail
              refine H1.out.mono ?_
              rintro e w1 ⟨h1, _, _, _, hb1⟩
              obtain ⟨A2, c2, rfl⟩ := h1 HNo.out
              have hB1 := hb0.trans (hb1.mono hb0.size)
              have HC := HRt1.out w1 hB1
              clear h1 hb1 H1
              go_wp2_with fail
              refine HC.out.mono ?_
              rintro e w2 ⟨rfl, rfl⟩
              go_wp2_with fail
              go_ret
              exact ⟨rfl, hB1⟩
      · have HR := Lib.hid hr
        have hcond : (decide ((3000 : Int) < al) = false ∨ (decide ((3000 : Int) < al) = true ∧ decide (al ≤ 4194304) = false)) := by
          by_cases h1 : 3000 < al
          · exact .inr ⟨decide_eq_true h1, decide_eq_false (by omega)⟩
          · exact .inl (decide_eq_false h1)
        clear hr hmid
        rcases hcond with d2 | ⟨d2, d3⟩
        all_goals
          go_wp2_with fail
          refine H1.out.mono ?_
          rintro e w1 ⟨h1, _, _, _, hb1⟩
          obtain ⟨A2, c2, rfl⟩ := h1 (fun g => HR.out g.1)
          have hB1 := hb0.trans (hb1.mono hb0.size)
          have HC := HRt.out false ⟨fun e => (by cases e), fun h => absurd h HR.out⟩ w1 hB1
          clear h1 hb1
          go_wp2_with fail
          refine HC.out.mono ?_
          rintro e w2 ⟨rfl, rfl⟩
          go_wp2_with fail
          go_ret
          exact ⟨rfl, hB1⟩
  · have d1 : decide ((200 : Int) < (n : Int)) = true := decide_eq_true (by omega)
    go_wp2_with fail
    go_ret
    exact ⟨rfl, hb0⟩
end Go.Proofs.Ytjloepepnjcpiaa
