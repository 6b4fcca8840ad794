/- Contracts of the document's own answers for layer 3. -/
import Derived.Test.YtmcoehimjfgakaaInts
import Derived.Test.YtmcoehimjfgakaaRefWords
import Derived.Test.YtmcoehimjfgakaaRd
namespace Go.Proofs.Ytmcoehimjfgakaa
open Go.RowKit

/-- places that rise below a bound that may be. -/
def rightS (n : Int) (V : Nat → Int) (m : Nat) : Bool := decide (0 ≤ n ∧ n ≤ 4194304) && riseB n V m

set_option maxHeartbeats 800000 in
theorem sright_any (n : Int) (A : Option Addr) (m c : Nat) (V : Nat → Int) (B : Nat) (w : World) (hm : m ≤ 4194304) (ho : Its w B A m V) :
    Calls Try.prog 10 #[.int .i64 n, .slice A m c] w fun e w' => e = .returned (.bool (rightS n V m)) ∧ w = w' := by
  have HR : Hid (rightS n V m = (decide (0 ≤ n ∧ n ≤ 4194304) && riseB n V m)) := Lib.hid rfl
  have HO := Lib.hid ho
  clear ho
  by_cases hb : 0 ≤ n ∧ n ≤ 4194304
  · have HR2 : Hid (rightS n V m = riseB n V m) := Lib.hid (by rw [HR.out]; simp [hb])
    obtain ⟨hb1, hb2⟩ := hb
    clear HR
    go_enter Try.func10, Try.ntmps10
    go_wp2_with fail
    go_loop [5, 16] (fun u v => ∃ k : Nat, k ≤ m ∧ v = .int .i64 (k : Int) ∧ u = .int .i64 (lastI V k) ∧ Hid (riseB n V k = true)) (fun _ v => m - (intOf v).toNat)
    case atStart => exact ⟨0, Nat.zero_le _, rfl, rfl, Lib.hid rfl⟩
    case round =>
      obtain ⟨k, hk, rfl, rfl, hr⟩ := hrel
      by_cases hlt : k < m
      · obtain ⟨ad, rfl, had, hV, hv1, hv2⟩ := HO.out k hlt
        have HS : Hid (riseB n V (k + 1) = (riseB n V k && (decide (lastI V k < V k) && decide (V k < n)))) := Lib.hid rfl
        have HL : Hid (lastI V (k + 1) = V k) := Lib.hid rfl
        generalize lastI V k = u at HS ⊢
        by_cases h1 : u < V k
        · by_cases h2 : V k < n
          · have HT : Hid (riseB n V (k + 1) = true) := Lib.hid (by rw [HS.out, hr.out]; simp [h1, h2])
            generalize V k = x at hV hv1 hv2 h1 h2 HL
            clear HS
            go_wp2_with fail
            go_round
            case rel => exact ⟨k + 1, by omega, by go_num, by rw [HL.out], HT⟩
            case measure => simp [intOf]; omega
          · have HT : Hid (riseB n V m = false) := Lib.hid (riseB_mono (k := k + 1) (by omega) (by rw [HS.out]; simp [h2]))
            generalize V k = x at hV hv1 hv2 h1 h2 HL
            clear HS
            go_wp2_with fail
            go_ret
            rw [HR2.out, HT.out]
            exact ⟨rfl, rfl⟩
        · have HT : Hid (riseB n V m = false) := Lib.hid (riseB_mono (k := k + 1) (by omega) (by rw [HS.out]; simp [h1]))
          generalize V k = x at hV hv1 hv2 h1 HL
          clear HS
          go_wp2_with fail
          go_ret
          rw [HR2.out, HT.out]
          exact ⟨rfl, rfl⟩
      · obtain rfl : k = m := by omega
        go_wp2_with fail
        go_ret
        rw [HR2.out, hr.out]
        exact ⟨rfl, rfl⟩
  · have HR2 : Hid (rightS n V m = false) := Lib.hid (by rw [HR.out]; simp [hb])
    clear HR
    by_cases h0 : 0 ≤ n
    all_goals
      have h1 : n < 0 ∨ 4194304 < n := by omega
      first | (have h2 : n < 0 := by omega) | (have h2 : 4194304 < n := by omega)
      clear h1 hb
      go_enter Try.func10, Try.ntmps10
      go_wp2_with fail
      go_ret
      rw [HR2.out]
      exact ⟨rfl, rfl⟩

set_option maxHeartbeats 800000 in
theorem below_any (A : Option Addr) (m c : Nat) (V : Nat → Int) (x : Int) (B : Nat) (w : World) (hm : m ≤ 4194304) (ho : Its w B A m V) :
    Calls Try.prog 14 #[.slice A m c, .int .i64 x] w fun e w' => e = .returned (.int .i64 ((Pl.cnt (fun i => decide (V i < x)) m : Nat) : Int)) ∧ w = w' := by
  have HO := Lib.hid ho
  clear ho
  go_enter Try.func14, Try.ntmps14
  go_wp2_with fail
  go_loop [5, 10] (fun u v => ∃ k : Nat, k ≤ m ∧ v = .int .i64 (k : Int) ∧ u = .int .i64 ((Pl.cnt (fun i => decide (V i < x)) k : Nat) : Int)) (fun _ v => m - (intOf v).toNat)
  case atStart => exact ⟨0, Nat.zero_le _, rfl, rfl⟩
  case round =>
    obtain ⟨k, hk, rfl, rfl⟩ := hrel
    have hc := Pl.cnt_le (fun i => decide (V i < x)) k
    have HS := Lib.hid (Pl.cnt_succ (fun i => decide (V i < x)) k)
    by_cases hlt : k < m
    · obtain ⟨ad, rfl, had, hV, hv1, hv2⟩ := HO.out k hlt
      generalize Pl.cnt (fun i => decide (V i < x)) k = u at HS hc ⊢
      by_cases h1 : V k < x
      · have HT : Hid (Pl.cnt (fun i => decide (V i < x)) (k + 1) = u + 1) := Lib.hid (by rw [HS.out]; simp [h1])
        generalize V k = y at hV hv1 hv2 h1
        clear HS
        go_wp2_with fail
        go_round
        case rel => exact ⟨k + 1, by omega, by go_num, by rw [HT.out]; go_num⟩
        case measure => simp [intOf]; omega
      · have HT : Hid (Pl.cnt (fun i => decide (V i < x)) (k + 1) = u) := Lib.hid (by rw [HS.out]; simp [h1])
        generalize V k = y at hV hv1 hv2 h1
        clear HS
        go_wp2_with fail
        go_round
        case rel => exact ⟨k + 1, by omega, by go_num, by rw [HT.out]⟩
        case measure => simp [intOf]; omega
    · obtain rfl : k = m := by omega
      go_wp2_with fail
      go_ret
      exact ⟨rfl, rfl⟩

set_option maxHeartbeats 800000 in
theorem swidth_any (n m : Nat) (hn : n ≤ 4194304) (hm : 1 ≤ m) (hmn : m ≤ 4194304) (w : World) :
    Calls Try.prog 40 #[.int .i64 (n : Int), .int .i64 (m : Int)] w fun e w' => e = .returned (.int .i64 (Pl.lw n m : Nat)) ∧ w = w' := by
  have hq : n / m ≤ n := Nat.div_le_self _ _
  have eq : (n : Int) / (m : Int) = ((n / m : Nat) : Int) := (Int.natCast_ediv n m).symm
  have hl := Pl.blen_le (k := 23) (n := n / m) (by omega)
  have HW : Hid (Pl.lw n m = Pl.blen (n / m) - 1) := Lib.hid rfl
  obtain ⟨q, hq0⟩ : ∃ q, n / m = q := ⟨_, rfl⟩
  rw [hq0] at hq eq hl HW
  clear hq0
  obtain ⟨b, hb⟩ : ∃ b, Pl.blen q = b := ⟨_, rfl⟩
  rw [hb] at hl HW
  have HB := Lib.hid hb
  clear hb
  go_enter Try.func40, Try.ntmps40
  go_wp2_with fail
  go_loop [5, 6] (fun u v => ∃ y k : Nat, y ≤ q ∧ v = .int .i64 (y : Int) ∧ u = .int .i64 ((k : Int) - 1) ∧ k ≤ 23 ∧ Hid (k + Pl.blen y = b)) (fun _ v => (intOf v).toNat)
  case atStart => exact ⟨q, 0, Nat.le_refl _, rfl, by simp, by omega, Lib.hid (by rw [HB.out]; omega)⟩
  case round =>
    obtain ⟨y, k, hy, rfl, rfl, hk, hI⟩ := hrel
    by_cases h0 : 0 < y
    · have HI : Hid (k + 1 + Pl.blen (y / 2) = b) := Lib.hid (by have := Pl.blen_pos h0; have := hI.out; omega)
      have hk1 : k + 1 ≤ 23 := by have := HI.out; omega
      clear hI
      go_wp2_with fail
      go_round
      case rel => exact ⟨y / 2, k + 1, by omega, by go_num, by go_num, hk1, HI⟩
      case measure => simp [intOf]; omega
    · obtain rfl : y = 0 := by omega
      have HK : Hid (k = b) := Lib.hid (by have := hI.out; rw [Pl.blen_zero] at this; omega)
      clear hI
      by_cases h1 : 0 < (k : Int) - 1
      all_goals
        go_wp2_with fail
        go_ret
        exact ⟨ret_i64 (by rw [HW.out, ← HK.out]; omega), rfl⟩
end Go.Proofs.Ytmcoehimjfgakaa
