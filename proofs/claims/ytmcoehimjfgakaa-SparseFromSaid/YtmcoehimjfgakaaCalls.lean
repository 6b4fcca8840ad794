/- Contracts of the functions of package pack: what each call returns and what it does to memory. -/
import Derived.Test.YtmcoehimjfgakaaMem
import Derived.Deep.QuietTactic
import Derived.BigQuiet
import Derived.BigRegion
namespace Go.Proofs.Ytmcoehimjfgakaa
open Go.RowKit

theorem ret_i64 {a b : Int} (h : a = b) : Ending.returned (.int .i64 a) = .returned (.int .i64 b) := by rw [h]
theorem ret_u64 {a b : Int} (h : a = b) : Ending.returned (.int .u64 a) = .returned (.int .u64 b) := by rw [h]

theorem ret2_i64 {a b c d : Int} (h : a = b) (k : c = d) : Ending.returned (.tuple #[.int .i64 a, .int .i64 c]) = .returned (.tuple #[.int .i64 b, .int .i64 d]) := by rw [h, k]

/-- u64 arithmetic over natural numbers. -/
theorem wrap_u (x : Nat) : IntKind.u64.wrap (x : Int) = ((x % 2 ^ 64 : Nat) : Int) := by
  rw [IntKind.wrap_u64]; omega
theorem shl_u (x s : Nat) : IntKind.u64.wrap ((x : Int) * 2 ^ s) = ((x * 2 ^ s % 2 ^ 64 : Nat) : Int) := by
  rw [← wrap_u]
  simp [Int.natCast_mul, Int.natCast_pow]
theorem shr_u (x s : Nat) : (x : Int) / 2 ^ s = ((x / 2 ^ s : Nat) : Int) := by
  simp [Int.natCast_ediv, Int.natCast_pow]
theorem or_u {x y : Nat} (hx : x < 2 ^ 64) (hy : y < 2 ^ 64) : bits .or .u64 (x : Int) (y : Int) = ((x ||| y : Nat) : Int) := u64_or_nat x y (by omega) (by omega)
theorem and_u {x y : Nat} (hx : x < 2 ^ 64) (hy : y < 2 ^ 64) : bits .and .u64 (x : Int) (y : Int) = ((x &&& y : Nat) : Int) := u64_and_nat x y (by omega) (by omega)
theorem andNot_u {x y : Nat} (hx : x < 2 ^ 64) (hy : y < 2 ^ 64) : bits .andNot .u64 (x : Int) (y : Int) = ((x &&& (2 ^ 64 - 1 - y) : Nat) : Int) := u64_andNot_nat x y (by omega) (by omega)

theorem ones_num (k : Nat) (hk : k ≤ 64) : IntKind.u64.wrap (IntKind.u64.wrap (2 ^ k) - 1) = ((2 ^ k - 1 : Nat) : Int) := by
  rw [IntKind.wrap_u64, IntKind.wrap_u64]
  have h1 := Nat.two_pow_pos k
  have h2 : 2 ^ k ≤ 2 ^ 64 := Nat.pow_le_pow_right (by omega) hk
  have e : (2 : Int) ^ k = ((2 ^ k : Nat) : Int) := by simp [Int.natCast_pow]
  rw [e]
  omega

set_option maxHeartbeats 400000 in
theorem ones_any (k : Nat) (hk : k ≤ 64) (w : World) :
    Calls Try.prog 50 #[.int .i64 k] w fun e w' => e = .returned (.int .u64 ((2 ^ k - 1 : Nat) : Int)) ∧ w = w' := by
  have HN := Lib.hid (ones_num k hk)
  go_enter Try.func50, Try.ntmps50
  go_wp2
  go_ret
  exact ⟨ret_u64 HN.out, rfl⟩

set_option maxHeartbeats 400000 in
theorem wordsOf_any (k : Nat) (hk : k ≤ 268435456) (w : World) :
    Calls Try.prog 48 #[.int .i64 k] w fun e w' => e = .returned (.int .i64 ((k + 63) / 64 : Nat)) ∧ w = w' := by
  go_enter Try.func48, Try.ntmps48
  go_wp2
  go_ret
  exact ⟨ret_i64 (by omega), rfl⟩

/-- width and n may be. -/
def rightB (width n : Int) : Bool := decide (1 ≤ width ∧ width ≤ 64 ∧ 0 ≤ n ∧ n ≤ 4194304)

set_option maxHeartbeats 400000 in
theorem mayBe_any (width n : Int) (w : World) :
    Calls Try.prog 47 #[.int .i64 width, .int .i64 n] w fun e w' => e = .returned (.bool (rightB width n)) ∧ w = w' := by
  unfold rightB
  by_cases h1 : 1 ≤ width <;> by_cases h2 : width ≤ 64 <;> by_cases h3 : 0 ≤ n <;> by_cases h4 : n ≤ 4194304
  all_goals
    go_enter Try.func47, Try.ntmps47
    go_wp2
    go_ret
    simp [h1, h2, h3, h4]

section
variable {w : World} {g gs width n : Nat} {ws : List Nat}

set_option maxHeartbeats 400000 in
theorem has_yes (h : Pk w g gs width n ws) (i : Nat) (hi : i < n) :
    Calls Try.prog 49 #[.pointer (some ⟨g, 0, none⟩), .int .i64 i] w fun e w' => e = .returned (.bool true) ∧ w = w' := by
  have h1 := h.c1
  clear h
  go_enter Try.func49, Try.ntmps49
  go_wp2
  go_ret
  simp

set_option maxHeartbeats 400000 in
theorem has_no (h : Pk w g gs width n ws) (i : Int) (hi : i < 0 ∨ (n : Int) ≤ i) :
    Calls Try.prog 49 #[.pointer (some ⟨g, 0, none⟩), .int .i64 i] w fun e w' => e = .returned (.bool false) ∧ w = w' := by
  have h1 := h.c1
  clear h
  by_cases h0 : 0 ≤ i
  all_goals
    go_enter Try.func49, Try.ntmps49
    go_wp2
    go_ret
    simp
    try omega

set_option maxHeartbeats 400000 in
theorem has_nil (i : Int) (w : World) :
    Calls Try.prog 49 #[.pointer none, .int .i64 i] w fun e w' => e = .returned (.bool false) ∧ w = w' := by
  go_enter Try.func49, Try.ntmps49
  go_wp2
  go_ret
  simp

set_option maxHeartbeats 400000 in
theorem place_any (h : Pk w g gs width n ws) (i q r : Nat) (hw : width ≤ 64) (hi : i < 4194304) (hq : i * width / 64 = q) (hr : i * width % 64 = r) :
    Calls Try.prog 51 #[.pointer (some ⟨g, 0, none⟩), .int .i64 i] w fun e w' => e = .returned (.tuple #[.int .i64 q, .int .i64 r]) ∧ w = w' := by
  have h1 := h.c0
  have hb : i * width ≤ 4194304 * 64 := Nat.mul_le_mul (by omega) hw
  have hb1 : 0 ≤ (i : Int) * (width : Int) := by rw [← Int.natCast_mul]; omega
  have hb2 : (i : Int) * (width : Int) ≤ 268435456 := by rw [← Int.natCast_mul]; omega
  have hq' : (i : Int) * (width : Int) / 64 = q := by rw [← hq, ← Int.natCast_mul]; exact (Int.natCast_ediv _ _).symm
  have hr' : (i : Int) * (width : Int) % 64 = r := by rw [← hr, ← Int.natCast_mul]; exact (Int.natCast_emod _ _).symm
  have HQ := Lib.hid hq'
  have HR := Lib.hid hr'
  clear h hq hr hq' hr'
  go_enter Try.func51, Try.ntmps51
  go_wp2
  go_ret2
  exact ⟨ret2_i64 HQ.out HR.out, rfl⟩

/-- the bounds that every place of a list keeps. -/
theorem q_small {i width n q L : Nat} (hw : width ≤ 64) (hi : i < n) (hn : n ≤ 4194304) (hq : i * width / 64 = q) (hL : n * width ≤ 64 * L) (h1 : 1 ≤ width) : q < 4194304 ∧ q < L := by
  have := Pl.mul_room (width := width) hi
  have hb : n * width ≤ 4194304 * 64 := Nat.mul_le_mul hn hw
  omega
theorem q_next {i width n q r L : Nat} (hi : i < n) (hq : i * width / 64 = q) (hr : i * width % 64 = r) (hL : n * width ≤ 64 * L) (hlong : 64 < r + width) : q + 1 < L := by
  have := Pl.mul_room (width := width) hi
  omega

theorem get_end {ws : List Nat} {width i q r x0 x1 : Nat} (hs : Pl.Small ws) (hw : width ≤ 64) (hq : i * width / 64 = q) (hr : i * width % 64 = r) (h0 : ws.getD q 0 = x0) (h1 : ws.getD (q + 1) 0 = x1) (hlong : 64 < r + width) :
    bits .and .u64 (bits .or .u64 ((x0 : Int) / 2 ^ r) (IntKind.u64.wrap ((x1 : Int) * 2 ^ (64 - r)))) ((2 ^ width - 1 : Nat) : Int) = ((Pl.getN ws width i : Nat) : Int) := by
  have b0 : x0 < 2 ^ 64 := by rw [← h0]; exact hs.at_ _
  have bw : 2 ^ width - 1 < 2 ^ 64 := by have := Pl.two_pow_le_64 hw; have := Nat.two_pow_pos width; omega
  have b1 : x1 * 2 ^ (64 - r) % 2 ^ 64 < 2 ^ 64 := Nat.mod_lt _ (by decide)
  rw [shr_u, shl_u, or_u (Pl.div_lt_64 b0) b1, and_u (Nat.or_lt_two_pow (Pl.div_lt_64 b0) b1) bw]
  unfold Pl.getN
  simp only [hq, hr, h0, h1, hlong, if_true]
theorem get_end' {ws : List Nat} {width i q r x0 : Nat} (hs : Pl.Small ws) (hw : width ≤ 64) (hq : i * width / 64 = q) (hr : i * width % 64 = r) (h0 : ws.getD q 0 = x0) (hshort : ¬ 64 < r + width) :
    bits .and .u64 ((x0 : Int) / 2 ^ r) ((2 ^ width - 1 : Nat) : Int) = ((Pl.getN ws width i : Nat) : Int) := by
  have b0 : x0 < 2 ^ 64 := by rw [← h0]; exact hs.at_ _
  have bw : 2 ^ width - 1 < 2 ^ 64 := by have := Pl.two_pow_le_64 hw; have := Nat.two_pow_pos width; omega
  rw [shr_u, and_u (Pl.div_lt_64 b0) bw]
  unfold Pl.getN
  simp only [hq, hr, h0, hshort, if_false]

set_option maxHeartbeats 400000 in
theorem get_any (h : Pk w g gs width n ws) (hs : Pl.Small ws) (h1 : 1 ≤ width) (hw : width ≤ 64) (hn : n ≤ 4194304) (hL : n * width ≤ 64 * ws.length) (i : Nat) (hi : i < n) :
    Calls Try.prog 35 #[.pointer (some ⟨g, 0, none⟩), .int .i64 i] w fun e w' => e = .returned (.int .u64 ((Pl.getN ws width i : Nat) : Int)) ∧ w = w' := by
  obtain ⟨q, hq⟩ : ∃ q, i * width / 64 = q := ⟨_, rfl⟩
  obtain ⟨r, hr⟩ : ∃ r, i * width % 64 = r := ⟨_, rfl⟩
  have hr64 : r < 64 := by rw [← hr]; exact Nat.mod_lt _ (by decide)
  obtain ⟨hq1, hq2⟩ := q_small hw hi hn hq hL h1
  have h0 := h.c0
  have h2 := h.c2
  have hw0 := h.word q hq2
  generalize hx0 : ws.getD q 0 = x0 at hw0
  have HX := Lib.hid hx0
  have HQ := Lib.hid hq
  have HR := Lib.hid hr
  have HP := Lib.hid (place_any h i q r hw (by omega) hq hr)
  by_cases hlong : 64 < r + width
  · have hq3 := q_next hi hq hr hL hlong
    have hw1 := h.word (q + 1) hq3
    generalize hx1 : ws.getD (q + 1) 0 = x1 at hw1
    have HX1 := Lib.hid hx1
    clear hx0 hx1 hq hr
    go_enter Try.func35, Try.ntmps35
    go_wp2_with (first
      | (go_at_call 49; refine (has_yes h i hi).mono ?_; rintro e w' ⟨rfl, rfl⟩)
      | (go_at_call 51; refine HP.out.mono ?_; rintro e w' ⟨rfl, rfl⟩)
      | (go_at_call 50; refine (ones_any width hw _).mono ?_; rintro e w' ⟨rfl, rfl⟩))
    go_ret
    exact ⟨ret_u64 (get_end hs hw HQ.out HR.out HX.out HX1.out hlong), rfl⟩
  · clear hx0 hq hr
    go_enter Try.func35, Try.ntmps35
    go_wp2_with (first
      | (go_at_call 49; refine (has_yes h i hi).mono ?_; rintro e w' ⟨rfl, rfl⟩)
      | (go_at_call 51; refine HP.out.mono ?_; rintro e w' ⟨rfl, rfl⟩)
      | (go_at_call 50; refine (ones_any width hw _).mono ?_; rintro e w' ⟨rfl, rfl⟩))
    go_ret
    exact ⟨ret_u64 (get_end' hs hw HQ.out HR.out HX.out hlong), rfl⟩

set_option maxHeartbeats 400000 in
theorem get_out (h : Pk w g gs width n ws) (i : Int) (hi : i < 0 ∨ (n : Int) ≤ i) :
    Calls Try.prog 35 #[.pointer (some ⟨g, 0, none⟩), .int .i64 i] w fun e w' => e = .returned (.int .u64 0) ∧ w = w' := by
  go_enter Try.func35, Try.ntmps35
  go_wp2_with (go_at_call 49; refine (has_no h i hi).mono ?_; rintro e w' ⟨rfl, rfl⟩)
  go_ret
  exact ⟨rfl, rfl⟩
set_option maxHeartbeats 400000 in
theorem get_nil (i : Int) (w : World) :
    Calls Try.prog 35 #[.pointer none, .int .i64 i] w fun e w' => e = .returned (.int .u64 0) ∧ w = w' := by
  go_enter Try.func35, Try.ntmps35
  go_wp2_with (go_at_call 49; refine (has_nil i _).mono ?_; rintro e w' ⟨rfl, rfl⟩)
  go_ret
  exact ⟨rfl, rfl⟩
end
end Go.Proofs.Ytmcoehimjfgakaa
