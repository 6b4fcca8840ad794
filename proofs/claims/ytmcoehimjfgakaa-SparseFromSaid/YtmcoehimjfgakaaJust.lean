/- Contracts of justHolds and From of package pack. -/
import Derived.Test.YtmcoehimjfgakaaMake
namespace Go.Proofs.Ytmcoehimjfgakaa
open Go.RowKit

/-- so many bits need all these words, and leave nothing set behind them. -/
def justB (ws : List Nat) (count : Nat) : Bool := decide (ws.length = (count + 63) / 64) && (decide (count % 64 = 0) || decide (ws.getD (ws.length - 1) 0 / 2 ^ (count % 64) = 0))

/-- the words of a list of numbers are just as many as are needed, and nothing is set behind. -/
theorem just_of_holds {ws : List Nat} {width n : Nat} {x : Nat → Nat} (h : Pl.Holds ws width n x) : justB ws (n * width) = true := by
  unfold justB
  simp only [Bool.and_eq_true, Bool.or_eq_true, decide_eq_true_eq]
  refine ⟨h.len, ?_⟩
  by_cases h0 : n * width % 64 = 0
  · exact .inl h0
  · refine .inr ?_
    apply Nat.eq_of_testBit_eq
    intro j
    rw [Pl.tb_div, Nat.zero_testBit]
    have hl := h.len
    by_cases hj : n * width % 64 + j < 64
    · have hb := h.behind (64 * (ws.length - 1) + (n * width % 64 + j)) (by omega)
      unfold Pl.bitAt at hb
      have e1 : (64 * (ws.length - 1) + (n * width % 64 + j)) / 64 = ws.length - 1 := by omega
      have e2 : (64 * (ws.length - 1) + (n * width % 64 + j)) % 64 = n * width % 64 + j := by omega
      rw [e1, e2] at hb
      exact hb
    · exact Pl.tb_big (h.small.at_ _) (by omega)

theorem zero_test (x s : Nat) : ((x : Int) / 2 ^ s == 0) = decide (x / 2 ^ s = 0) := by
  rw [shr_u]
  by_cases h : x / 2 ^ s = 0
  · rw [h]; rfl
  · simp only [h, decide_false]
    rw [beq_eq_false_iff_ne]
    omega

set_option maxHeartbeats 800000 in
theorem justHolds_any (ws : List Nat) (b c count : Nat) (w : World) (h : Src w b ws) (hc : count ≤ 268435456) (hmax : ws.length ≤ 9223372036854775807) :
    Calls Try.prog 60 #[.slice (some ⟨b, 0, none⟩) ws.length c, .int .i64 count] w fun e w' => e = .returned (.bool (justB ws count)) ∧ w = w' := by
  obtain ⟨L, hLL⟩ : ∃ L, ws.length = L := ⟨_, rfl⟩
  obtain ⟨r, hr⟩ : ∃ r, count % 64 = r := ⟨_, rfl⟩
  obtain ⟨k, hk⟩ : ∃ k, (count + 63) / 64 = k := ⟨_, rfl⟩
  have hri : (count : Int) % 64 = (r : Int) := by omega
  have hr64 : r < 64 := by omega
  have hW : ∀ W, Hid (Calls Try.prog 48 #[.int .i64 (count : Int)] W fun e w' => e = .returned (.int .i64 (k : Int)) ∧ W = w') := fun W => by rw [← hk]; exact Lib.hid (wordsOf_any _ hc W)
  by_cases h1 : L = k
  · by_cases h2 : r = 0
    · have HB := Lib.hid (show justB ws count = true by unfold justB; simp [hLL, hr, hk, h1, h2])
      rw [hLL] at hmax ⊢
      have t1 : ((L : Int) != (k : Int)) = false := by simp [h1]
      have t2 : (((count : Int) % 64) == 0) = true := by simp; omega
      clear hLL hr hk hri h1 h2
      go_enter Try.func60, Try.ntmps60
      go_wp2_with (go_at_call 48; refine (hW _).out.mono ?_; rintro e w' ⟨rfl, rfl⟩)
      go_ret
      rw [HB.out]
      exact ⟨rfl, rfl⟩
    · have hL1 : 1 ≤ L := by omega
      obtain ⟨x, hx⟩ : ∃ x, ws.getD (L - 1) 0 = x := ⟨_, rfl⟩
      have hcell := h.2 (L - 1) (by omega)
      rw [hx] at hcell
      have HB := Lib.hid (show justB ws count = decide (x / 2 ^ r = 0) by unfold justB; simp only [hLL, hr, hk, h1, h2, ← hx]; simp)
      rw [hLL] at hmax ⊢
      have t1 : ((L : Int) != (k : Int)) = false := by simp [h1]
      have t2 : ((count : Int) % 64 == 0) = false := by rw [beq_eq_false_iff_ne]; omega
      have t3 : ((L : Int) - 1) = ((L - 1 : Nat) : Int) := by omega
      have hrr := Lib.hid hr
      clear hLL hr hk hri h1 h2
      go_enter Try.func60, Try.ntmps60
      go_wp2_with (go_at_call 48; refine (hW _).out.mono ?_; rintro e w' ⟨rfl, rfl⟩)
      go_ret
      rw [HB.out, ← zero_test, ← hrr.out]
      exact ⟨rfl, rfl⟩
  · have HB := Lib.hid (show justB ws count = false by unfold justB; simp [hLL, hk, h1])
    rw [hLL] at hmax ⊢
    have t1 : ((L : Int) != (k : Int)) = true := by simp; omega
    clear hLL hr hk hri h1
    go_enter Try.func60, Try.ntmps60
    go_wp2_with (go_at_call 48; refine (hW _).out.mono ?_; rintro e w' ⟨rfl, rfl⟩)
    go_ret
    rw [HB.out]
    exact ⟨rfl, rfl⟩

theorem from_bad (width n : Int) (b L c : Nat) (hb : rightB width n = false) (w : World) :
    Calls Try.prog 44 #[.int .i64 width, .int .i64 n, .slice (some ⟨b, 0, none⟩) L c] w fun e w' => e = .returned (.tuple #[.pointer none, .int .i64 2]) ∧ w = w' := by
  go_enter Try.func44, Try.ntmps44
  go_wp2_with (go_at_call 47; refine (mayBe_any width n _).mono ?_; rintro e w' ⟨rfl, rfl⟩)
  go_ret2
  exact ⟨rfl, rfl⟩

theorem prod_facts {width n : Nat} (h64 : width ≤ 64) (hn : n ≤ 4194304) : 0 ≤ (width : Int) * (n : Int) ∧ (width : Int) * (n : Int) ≤ 268435456 ∧ width * n ≤ 268435456 := by
  have hb0 : width * n ≤ 64 * 4194304 := Nat.mul_le_mul h64 hn
  refine ⟨?_, ?_, by omega⟩
  · rw [← Int.natCast_mul]; omega
  · rw [← Int.natCast_mul]; omega

set_option maxHeartbeats 400000 in
theorem from_form (width n b c : Nat) (ws : List Nat) (h1 : 1 ≤ width) (h64 : width ≤ 64) (hn : n ≤ 4194304) (w : World) (h : Src w b ws) (hmax : ws.length ≤ 9223372036854775807) (hj : justB ws (width * n) = false) :
    Calls Try.prog 44 #[.int .i64 width, .int .i64 n, .slice (some ⟨b, 0, none⟩) ws.length c] w fun e w' => e = .returned (.tuple #[.pointer none, .int .i64 10]) ∧ w = w' := by
  have hb : rightB width n = true := by unfold rightB; simp; omega
  obtain ⟨hb1, hb2, hb3⟩ := prod_facts h64 hn
  have HJ : ∀ W, Src W b ws → Hid (Calls Try.prog 60 #[.slice (some ⟨b, 0, none⟩) ws.length c, .int .i64 ((width : Int) * (n : Int))] W fun e w' => e = .returned (.bool false) ∧ W = w') := fun W hW => by
    rw [← Int.natCast_mul, ← hj]; exact Lib.hid (justHolds_any ws b c _ W hW hb3 hmax)
  clear hj
  go_enter Try.func44, Try.ntmps44
  go_wp2_with (first
    | (go_at_call 47; refine (mayBe_any width n _).mono ?_; rintro e w' ⟨rfl, rfl⟩)
    | (go_at_call 60; refine (HJ _ h).out.mono ?_; rintro e w' ⟨rfl, rfl⟩))
  go_ret2
  exact ⟨rfl, rfl⟩

set_option maxHeartbeats 400000 in
theorem from_any (width n b c : Nat) (ws : List Nat) (h1 : 1 ≤ width) (h64 : width ≤ 64) (hn : n ≤ 4194304) (w : World) (h : Src w b ws) (hj : justB ws (width * n) = true) :
    Calls Try.prog 44 #[.int .i64 width, .int .i64 n, .slice (some ⟨b, 0, none⟩) ws.length c] w (NewPost w width n ws) := by
  have hb : rightB width n = true := by unfold rightB; simp; omega
  obtain ⟨hb1, hb2, hb3⟩ := prod_facts h64 hn
  have hL : ws.length ≤ 4194304 := by
    unfold justB at hj
    simp only [Bool.and_eq_true, decide_eq_true_eq] at hj
    omega
  have HJ : ∀ W, Src W b ws → Hid (Calls Try.prog 60 #[.slice (some ⟨b, 0, none⟩) ws.length c, .int .i64 ((width : Int) * (n : Int))] W fun e w' => e = .returned (.bool true) ∧ W = w') := fun W hW => by
    rw [← Int.natCast_mul, ← hj]; exact Lib.hid (justHolds_any ws b c _ W hW hb3 (by omega))
  have HC := Lib.hid (copyOf_any ws b c w hL h)
  clear hj
  go_enter Try.func44, Try.ntmps44
  go_wp2_with (first
    | (go_at_call 47; refine (mayBe_any width n _).mono ?_; rintro e w' ⟨rfl, rfl⟩)
    | (go_at_call 60; refine (HJ _ h).out.mono ?_; rintro e w' ⟨rfl, rfl⟩)
    | (go_at_call 59; refine HC.out.mono ?_; rintro e w1 ⟨gs, rfl, hg1, hl1, hb1⟩))
  go_ret2
  refine ⟨w1.heap.size, gs, rfl, hb1.size, hg1, ⟨?_, hl1.alloc _⟩, hb1.alloc hb1.size _⟩
  exact lies_new w1 71 [.int .i64 (width : Int), .int .i64 (n : Int), .slice (some ⟨gs, 0, none⟩) ws.length ws.length]
end Go.Proofs.Ytmcoehimjfgakaa
