/- The document's functions of layer 12: Back, Ahead, Count by looking. -/
import Derived.Test.YtfhflmojcfnhnaaDocMath
import Derived.Test.YtfhflmojcfnhnaaSufTurn
import Derived.Test.YtfhflmojcfnhnaaListR
import Derived.Test.YtfhflmojcfnhnaaIntPut
import Derived.Deep.QuietTactic
import Derived.BigQuiet
namespace Go.Proofs.Ytfhflmojcfnhnaa
open Go.RowKit

set_option maxRecDepth 100000 in
set_option maxHeartbeats 1600000 in
theorem refCountD_any (A : Option Addr) (n c : Nat) (V : Nat → Int) (d a b : Int) (B : Nat) (w : World) (hn : n ≤ 4194304) (ho : Its w B A n V) :
    Calls Try.prog 20 #[.slice A n c, .int .i64 d, .int .i64 a, .int .i64 b] w fun e w' => e = .returned (.int .i64 ((cntR V d a b n : Nat) : Int)) ∧ w = w' := by
  have HO := Lib.hid ho
  clear ho
  obtain ⟨r, hr⟩ : ∃ r, cntR V d a b n = r := ⟨_, rfl⟩
  rw [hr]
  have HR := Lib.hid hr
  clear hr
  go_enter Try.func20, Try.ntmps20
  go_wp2_with fail
  go_loop [9, 14] (fun u v => ∃ i m : Nat, i ≤ n ∧ m ≤ i ∧ u = .int .i64 (m : Int) ∧ v = .int .i64 (i : Int) ∧ Hid (m = cntR V d a b i)) (fun _ v => n - (intOf v).toNat)
  case atStart => exact ⟨0, 0, Nat.zero_le _, Nat.le_refl _, rfl, rfl, Lib.hid rfl⟩
  case round =>
    obtain ⟨i, m, hi, hmi, rfl, rfl, hm⟩ := hrel
    by_cases hlt : i < n
    · have hlti : (i : Int) < (n : Int) := by omega
      obtain ⟨ad, rfl, _, c1, _⟩ := HO.out i hlt
      by_cases hh : V i = d ∧ a ≤ (i : Int) ∧ (i : Int) < b
      · obtain ⟨h1, h2, h3⟩ := hh
        have HM : Hid (m + 1 = cntR V d a b (i + 1)) := Lib.hid (by rw [cntR_hit ⟨h1, h2, h3⟩, hm.out])
        rw [h1] at c1
        have g1 : (d == d) = true := by rw [beq_iff_eq]
        have g2 : decide (a ≤ (i : Int)) = true := decide_eq_true h2
        have g3 : decide ((i : Int) < b) = true := decide_eq_true h3
        clear hm h1
        go_wp2_with fail
        go_round
        case rel => exact ⟨i + 1, m + 1, by omega, by omega, by go_num, by go_num, HM⟩
        case measure => simp [intOf]; omega
      · have HM : Hid (m = cntR V d a b (i + 1)) := Lib.hid (by rw [cntR_miss hh, hm.out])
        by_cases h1 : V i = d
        · rw [h1] at c1
          have g1 : (d == d) = true := by rw [beq_iff_eq]
          by_cases h2 : a ≤ (i : Int)
          · have h3 : ¬ (i : Int) < b := fun h3 => hh ⟨h1, h2, h3⟩
            have g2 : decide (a ≤ (i : Int)) = true := decide_eq_true h2
            have g3 : decide ((i : Int) < b) = false := decide_eq_false h3
            clear hm h1 hh
            go_wp2_with fail
            go_round
            case rel => exact ⟨i + 1, m, by omega, by omega, rfl, by go_num, HM⟩
            case measure => simp [intOf]; omega
          · have g2 : decide (a ≤ (i : Int)) = false := decide_eq_false h2
            clear hm h1 hh
            go_wp2_with fail
            go_round
            case rel => exact ⟨i + 1, m, by omega, by omega, rfl, by go_num, HM⟩
            case measure => simp [intOf]; omega
        · have g1 : (V i == d) = false := by rw [beq_eq_false_iff_ne]; exact h1
          generalize V i = x at c1 h1 g1
          clear hm hh
          go_wp2_with fail
          go_round
          case rel => exact ⟨i + 1, m, by omega, by omega, rfl, by go_num, HM⟩
          case measure => simp [intOf]; omega
    · obtain rfl : i = n := by omega
      have hge : ¬ (i : Int) < (i : Int) := by omega
      obtain rfl : m = r := by rw [hm.out, HR.out]
      clear hm
      go_wp2_with fail
      go_ret
      exact ⟨rfl, rfl⟩
end Go.Proofs.Ytfhflmojcfnhnaa
