/- The walk of colophonlaw11.BwtCounts, over what package bwt answers (BwtI). -/
import Derived.Test.YtjloepepnjcpiaaBwtI
namespace Go.Proofs.Ytjloepepnjcpiaa
open Go.RowKit

set_option maxRecDepth 100000 in
set_option maxHeartbeats 3200000 in
theorem bwCounts_walk (I : BwtI) (A : Option Addr) (n c : Nat) (V : Nat → Int) (al : Int) (w : World) (ho : ItsR w A n c V) (ha : (Lit.int .i64 al).wf = true) :
    Calls Try.prog 4 #[.slice A n c, .int .i64 al] w fun e w' => e = .returned (.bool true) ∧ Below w.heap.size w w' := by
  have HI := Lib.hid I
  have HO := Lib.hid ho
  have HF := Lib.hid (bfirst_any I w)
  have hcl : c ≤ 9223372036854775807 := by have := ho.2.2.1; unfold maxLen at this; omega
  have hnc := ho.2.1
  have hai := i64_in ha
  clear I ho
  go_enter Try.func4, Try.ntmps4
  go_wp2_with fail
  refine HF.out.mono ?_
  rintro e w0 ⟨rfl, hb0⟩
  clear HF
  by_cases hbig : (n : Int) ≤ 500
  · have d1 : decide ((500 : Int) < (n : Int)) = false := decide_eq_false (by omega)
    have hn4 : n ≤ 500 := by omega
    by_cases hmid : 3000 < al ∧ al ≤ 4194304
    · have d2 : decide ((3000 : Int) < al) = true := decide_eq_true hmid.1
      have d3 : decide (al ≤ 4194304) = true := decide_eq_true hmid.2
      go_wp2_with fail
      go_ret
      exact ⟨rfl, hb0⟩
    · have H1 := Lib.hid (HI.out.counts A n c V al w0 (by omega) ha (by omega) (HO.out.below hb0))
      have hRt : ∀ (r : Bool), (r = true ↔ RightS V n al) → ∀ W, Below w.heap.size w W → Hid (Calls Try.prog 14 #[.slice A n c, .int .i64 al] W fun e w' => e = .returned (.bool r) ∧ W = w') := fun r hr W hW => Lib.hid (refRightS_is A n c V al w.heap.size W (by unfold maxLen; omega) (HO.out.2.2.2.below hW) r hr)
      have HRt := Lib.hid hRt
      clear hRt
      by_cases hr : RightS V n al
      · obtain ⟨a, rfl⟩ : ∃ a : Nat, al = (a : Int) := ⟨al.toNat, by have := hr.1.1; omega⟩
        have ha3 : a ≤ 3000 := by have := hr.1.2.1; omega
        have d2 : decide ((3000 : Int) < (a : Int)) = false := decide_eq_false (by omega)
        have HR := Lib.hid hr
        clear hr hmid
        go_wp2_with fail
        refine H1.out.mono ?_
        rintro e w1 ⟨h1, _, hb1⟩
        obtain ⟨A2, c2, rfl, hi2⟩ := h1 HR.out
        rw [Int.toNat_natCast] at hi2
        rw [Int.toNat_natCast]
        have HL := Lib.hid hi2
        have hB1 := hb0.trans (hb1.mono hb0.size)
        have HC := HRt.out true ⟨fun _ => HR.out, fun _ => rfl⟩ w1 hB1
        have hc2 := hi2.2.1
        have hc2m : c2 ≤ 9223372036854775807 := by have := hi2.2.2.1; unfold maxLen at this; omega
        clear h1 hi2 H1 hb1 HRt
        go_wp2_with fail
        refine HC.out.mono ?_
        rintro e w2 ⟨rfl, rfl⟩
        obtain ⟨M, hM⟩ : ∃ M, a + 1 = M := ⟨_, rfl⟩
        rw [hM] at HL hc2
        have hw1 : IntKind.i64.wrap ((a : Int) + 1) = (M : Int) := by rw [IntWalk.i64_in _ (by omega)]; omega
        have d4 : ((M : Int) != (M : Int)) = false := by simp
        rw [hM]
        have hM3 : M ≤ 3001 := by omega
        clear hM HC
        go_wp2_with fail
        clear hw1 d4
        go_loop [8, 52] (fun _ v => ∃ i : Nat, i ≤ M ∧ v = .int .i64 (i : Int)) (fun _ v => M - (intOf v).toNat)
        case atStart => exact ⟨0, Nat.zero_le _, rfl⟩
        case round =>
          obtain ⟨i, hi, rfl⟩ := hrel
          by_cases hlt : i < M
          · have hlti : (i : Int) < (M : Int) := by omega
            go_wp2_with fail
            go_loop [8, 57] (fun s8 v => ∃ j q : Nat, j ≤ n ∧ q ≤ j ∧ v = .int .i64 (j : Int) ∧ s8 = .int .i64 (q : Int) ∧ Hid (q = belowI V j (i : Int))) (fun _ v => n - (intOf v).toNat)
            case atStart => exact ⟨0, 0, Nat.zero_le _, Nat.le_refl _, rfl, rfl, Lib.hid rfl⟩
            case round =>
              obtain ⟨j, q, hj, hq, rfl, rfl, HQ⟩ := hrel
              by_cases hjn : j < n
              · have hjni : (j : Int) < (n : Int) := by omega
                obtain ⟨ad, rfl, _, hc, _, _⟩ := (HO.out.2.2.2.below hB1) j hjn
                have HS := Lib.hid (belowI_succ V j (i : Int))
                rw [← HQ.out] at HS
                generalize V j = x at hc HS
                by_cases hx : x < (i : Int)
                · have d5 : decide (x < (i : Int)) = true := decide_eq_true hx
                  have HN : Hid (q + 1 = belowI V (j + 1) (i : Int)) := Lib.hid (by rw [HS.out, if_pos hx])
                  clear HQ HS
                  go_wp2_with fail
                  go_round
                  case rel => exact ⟨j + 1, q + 1, by omega, by omega, by go_num, by go_num, HN⟩
                  case measure => simp [intOf]; omega
                · have d5 : decide (x < (i : Int)) = false := decide_eq_false hx
                  have HN : Hid (q = belowI V (j + 1) (i : Int)) := Lib.hid (by rw [HS.out, if_neg hx]; rfl)
                  clear HQ HS
                  go_wp2_with fail
                  go_round
                  case rel => exact ⟨j + 1, q, by omega, by omega, by go_num, rfl, HN⟩
                  case measure => simp [intOf]; omega
              · obtain rfl : j = n := by omega
                obtain ⟨ad2, rfl, _, hc2', _, _⟩ := HL.out.2.2.2 i hlt
                replace hc2' : w1.cell? (ad2.add i) = some (.int .i64 ((belowI V j (i : Int) : Nat) : Int)) := hc2'
                rw [← HQ.out] at hc2'
                have d6 : ((q : Int) != (q : Int)) = false := by simp
                clear HQ
                go_wp2_with fail
                go_round
                case rel => exact ⟨i + 1, by omega, by go_num⟩
                case measure => simp [intOf]; omega
          · obtain rfl : i = M := by omega
            go_wp2_with fail
            go_ret
            exact ⟨rfl, hB1⟩
      · have HR := Lib.hid hr
        have hcond : (decide ((3000 : Int) < al) = false ∨ (decide ((3000 : Int) < al) = true ∧ decide (al ≤ 4194304) = false)) := by
          by_cases h1 : 3000 < al
          · exact .inr ⟨decide_eq_true h1, decide_eq_false (by omega)⟩
          · exact .inl (decide_eq_false h1)
        clear hr hmid
        rcases hcond with d2 | ⟨d2, d3⟩
        all_goals
          go_wp2_with fail
          refine H1.out.mono ?_
          rintro e w1 ⟨_, h1, hb1⟩
          obtain ⟨A2, c2, rfl⟩ := h1 HR.out
          have hB1 := hb0.trans (hb1.mono hb0.size)
          have HC := HRt.out false ⟨fun e => (by cases e), fun h => absurd h HR.out⟩ w1 hB1
          clear h1 hb1
          go_wp2_with fail
          refine HC.out.mono ?_
          rintro e w2 ⟨rfl, rfl⟩
          go_wp2_with fail
          go_ret
          exact ⟨rfl, hB1⟩
  · have d1 : decide ((500 : Int) < (n : Int)) = true := decide_eq_true (by omega)
    go_wp2_with fail
    go_ret
    exact ⟨rfl, hb0⟩
end Go.Proofs.Ytjloepepnjcpiaa
