/- Contracts of the small functions of package sparse. -/
import Derived.Test.YtmcoehimjfgakaaHighs
import Derived.Test.YtmcoehimjfgakaaRd
import Derived.Test.YtmcoehimjfgakaaSpMath
import Derived.Test.YtmcoehimjfgakaaLen
import Derived.Test.YtmcoehimjfgakaaLaw
namespace Go.Proofs.Ytmcoehimjfgakaa
open Go.RowKit

/-- words of which a bit is set. -/
def setb (ws : List Nat) (b : Nat) : List Nat := ws.set (b / 64) (ws.getD (b / 64) 0 ||| 2 ^ (b % 64))
theorem setb_length (ws : List Nat) (b : Nat) : (setb ws b).length = ws.length := by unfold setb; simp
theorem setb_small {ws : List Nat} (h : Pl.Small ws) (b : Nat) : Pl.Small (setb ws b) := by
  refine h.set_ _ (Nat.or_lt_two_pow (h.at_ _) ?_)
  exact Nat.pow_lt_pow_right (by decide) (Nat.mod_lt _ (by decide))
theorem setb_at {ws : List Nat} {b : Nat} (hb : b < 64 * ws.length) (j : Nat) : Pl.bitAt (setb ws b) j = (Pl.bitAt ws j || b == j) := by
  unfold setb
  rw [Pl.bitAt_set _ _ _ _ (by omega)]
  by_cases e : j / 64 = b / 64
  · rw [if_pos e, Nat.testBit_or, Nat.testBit_two_pow]
    have e1 : decide (b % 64 = j % 64) = (b == j) := by
      rw [Bool.eq_iff_iff]; simp; omega
    rw [e1]
    unfold Pl.bitAt
    rw [e]
  · rw [if_neg e]
    have e1 : (b == j) = false := by rw [beq_eq_false_iff_ne]; rintro rfl; exact e rfl
    rw [e1, Bool.or_false]

set_option maxHeartbeats 400000 in
theorem swordsOf_any (k : Nat) (hk : k ≤ 268435456) (w : World) :
    Calls Try.prog 25 #[.int .i64 k] w fun e w' => e = .returned (.int .i64 ((k + 63) / 64 : Nat)) ∧ w = w' := by
  go_enter Try.func25, Try.ntmps25
  go_wp2
  go_ret
  exact ⟨ret_i64 (by omega), rfl⟩

set_option maxRecDepth 20000 in
set_option maxHeartbeats 800000 in
theorem setBit_any (ws : List Nat) (g c b : Nat) (w : World) (h : Lies w g 43 (wcells ws)) (hs : Pl.Small ws) (hb : b < 64 * ws.length) (hL : ws.length ≤ 4194304) :
    Calls Try.prog 27 #[.slice (some ⟨g, 0, none⟩) ws.length c, .int .i64 (b : Int)] w fun e w' => e = .returned (.tuple #[]) ∧ Lies w' g 43 (wcells (setb ws b)) ∧ w.grownBy w' (some g) := by
  obtain ⟨q, hq⟩ : ∃ q, b / 64 = q := ⟨_, rfl⟩
  obtain ⟨r, hr⟩ : ∃ r, b % 64 = r := ⟨_, rfl⟩
  have hqL : q < ws.length := by omega
  have hr64 : r < 64 := by omega
  have hcell := (h.cell q).trans (wcells_at ws _ hqL)
  have hf := h.free q
  have hx := hs.at_ q
  have hp : 2 ^ r < 2 ^ 64 := Nat.pow_lt_pow_right (by decide) hr64
  have HP := h.put q
  have HS : ∀ y, ws.getD q 0 ||| 2 ^ r = y → setb ws b = ws.set q y := fun y hy => by unfold setb; rw [hq, hr, hy]
  obtain ⟨L, hL0⟩ : ∃ L, ws.length = L := ⟨_, rfl⟩
  rw [hL0] at hL hqL ⊢
  generalize ws.getD q 0 = x at hcell hx HS
  have hor : bits .or .u64 (x : Int) (IntKind.u64.wrap (2 ^ r)) = ((x ||| 2 ^ r : Nat) : Int) := by
    have e : (2 : Int) ^ r = ((2 ^ r : Nat) : Int) := by simp [Int.natCast_pow]
    rw [e, wrap_u, Nat.mod_eq_of_lt hp, or_u hx hp]
  have HO := Lib.hid hor
  have HSS := Lib.hid HS
  have HPP := Lib.hid HP
  have e1 : (b : Int) / 64 = (q : Int) := by omega
  have e2 : (b : Int) % 64 = (r : Int) := by omega
  have hbm : b ≤ 268435456 := by omega
  have w1 : IntKind.i64.wrap (q : Int) = (q : Int) := IntWalk.i64_in _ (by omega)
  have w2 : IntKind.i64.wrap (r : Int) = (r : Int) := IntWalk.i64_in _ (by omega)
  have w3 : (b : Int).tmod 64 = (r : Int) := by rw [Int.tmod_eq_emod_of_nonneg (by omega)]; exact e2
  clear hor HS HP hp hL0 hx h hq hr
  go_enter Try.func27, Try.ntmps27
  go_wp2_with fail
  go_still_tail 10, (by kernel_rfl)
  change wpList _ _ _ _ _ w.drew
  go_wp2
  go_end0
  refine ⟨rfl, ?_, ?_⟩
  · rw [HO.out, HSS.out _ rfl, wcells_set]
    exact HPP.out _
  · exact grownBy_drew (grownBy_put (grownBy_of_below (Below.refl _ _) _) q _)

theorem aux_blen : ∀ (f x : Nat), x < 2 ^ f → Lib.bitLenAux f x = Pl.blen x
  | 0, x, h => by
    have : x = 0 := by simpa using h
    rw [this, Pl.blen_zero]; rfl
  | f + 1, x, h => by
    by_cases h0 : x = 0
    · subst h0; rw [Pl.blen_zero]; simp [Lib.bitLenAux]
    · have e : Lib.bitLenAux (f + 1) x = 1 + Lib.bitLenAux f (x / 2) := by simp [Lib.bitLenAux, h0]
      rw [Pl.blen_pos (by omega), ← aux_blen f (x / 2) (by rw [Nat.pow_succ] at h; omega), e]
      omega
set_option maxHeartbeats 400000 in
theorem blen_any (x : Nat) (hx : x < 2 ^ 64) (w : World) :
    Calls Try.prog 46 #[.int .u64 (x : Int)] w fun e w' => e = .returned (.int .i64 (Pl.blen x : Nat)) ∧ w = w' := by
  have h := len64_any x hx w
  have e : Lib.bitLen x = Pl.blen x := aux_blen 64 x hx
  rw [e] at h
  have HH := Lib.hid h
  clear h e
  go_enter Try.func46, Try.ntmps46
  go_wp2_with fail
  refine HH.out.mono ?_
  rintro e w' ⟨rfl, rfl⟩
  go_wp2_with fail
  go_ret
  exact ⟨rfl, rfl⟩

set_option maxHeartbeats 400000 in
theorem lowWidth_any (n m : Nat) (hn : n ≤ 4194304) (hm : 1 ≤ m) (hmn : m ≤ 4194304) (w : World) :
    Calls Try.prog 23 #[.int .i64 (n : Int), .int .i64 (m : Int)] w fun e w' => e = .returned (.int .i64 (Pl.lw n m : Nat)) ∧ w = w' := by
  have hq : n / m ≤ n := Nat.div_le_self _ _
  have eq : (n : Int) / (m : Int) = ((n / m : Nat) : Int) := (Int.natCast_ediv n m).symm
  have hl := Pl.blen_le (k := 23) (n := n / m) (by omega)
  have HW : Hid (Pl.lw n m = Pl.blen (n / m) - 1) := Lib.hid rfl
  obtain ⟨q, hq0⟩ : ∃ q, n / m = q := ⟨_, rfl⟩
  rw [hq0] at hq eq hl HW
  have HB := Lib.hid (blen_any q (by omega) w)
  clear hq0
  generalize Pl.blen q = b at hl HW HB
  by_cases h0 : 0 < (b : Int) - 1
  all_goals
    go_enter Try.func23, Try.ntmps23
    go_wp2_with fail
    refine HB.out.mono ?_
    rintro e w' ⟨rfl, rfl⟩
    go_wp2_with fail
    go_ret
    exact ⟨ret_i64 (by rw [HW.out]; omega), rfl⟩

theorem shr_nat (x k : Nat) : (x : Int) / 2 ^ k = ((x / 2 ^ k : Nat) : Int) := shr_u x k
set_option maxHeartbeats 400000 in
theorem highCount_any (n m k : Nat) (hn : n ≤ 4194304) (hn1 : 1 ≤ n) (hm : m ≤ 4194304) (hk : k ≤ 22) (w : World) :
    Calls Try.prog 24 #[.int .i64 (n : Int), .int .i64 (m : Int), .int .i64 (k : Int)] w fun e w' => e = .returned (.int .i64 (Pl.bitsOf n m (2 ^ k) : Nat)) ∧ w = w' := by
  have hq : (n - 1) / 2 ^ k ≤ n - 1 := Nat.div_le_self _ _
  have HW : Hid (Pl.bitsOf n m (2 ^ k) = m + (n - 1) / 2 ^ k + 1) := Lib.hid rfl
  have e1 : (n : Int) - 1 = ((n - 1 : Nat) : Int) := by omega
  have eq : ((n - 1 : Nat) : Int) / 2 ^ k = (((n - 1) / 2 ^ k : Nat) : Int) := shr_u _ _
  obtain ⟨q, hq0⟩ : ∃ q, (n - 1) / 2 ^ k = q := ⟨_, rfl⟩
  rw [hq0] at hq eq HW
  clear hq0
  go_enter Try.func24, Try.ntmps24
  go_wp2_with fail
  go_ret
  exact ⟨ret_i64 (by rw [HW.out]; omega), rfl⟩

set_option maxHeartbeats 400000 in
theorem lowBits_any (x k : Nat) (hx : x < 2 ^ 62) (hk : k ≤ 22) (w : World) :
    Calls Try.prog 29 #[.int .i64 (x : Int), .int .i64 (k : Int)] w fun e w' => e = .returned (.int .u64 (x % 2 ^ k : Nat)) ∧ w = w' := by
  have hw : 2 ^ k - 1 < 2 ^ 64 := by have := Pl.two_pow_le_64 (show k ≤ 64 by omega); have := Nat.two_pow_pos k; omega
  have H1 : bits .and .u64 (IntKind.u64.wrap (x : Int)) (IntKind.u64.wrap (IntKind.u64.wrap (2 ^ k) - 1)) = ((x % 2 ^ k : Nat) : Int) := by
    rw [ones_num k (by omega), wrap_u, Nat.mod_eq_of_lt (show x < 2 ^ 64 by omega), and_u (by omega) hw, Nat.and_two_pow_sub_one_eq_mod]
  have H2 : bits .and .u64 (x : Int) (IntKind.u64.wrap (IntKind.u64.wrap (2 ^ k) - 1)) = ((x % 2 ^ k : Nat) : Int) := by
    rw [ones_num k (by omega), and_u (by omega) hw, Nat.and_two_pow_sub_one_eq_mod]
  have HH1 := Lib.hid H1
  have HH2 := Lib.hid H2
  have hx3 : (x : Int) ≤ 4611686018427387904 := by omega
  clear H1 H2 hw hx
  go_enter Try.func29, Try.ntmps29
  go_wp2_with fail
  go_ret
  exact ⟨ret_u64 (by first | exact HH1.out | exact HH2.out), rfl⟩

/-- a bound may be. -/
def bndB (n : Int) : Bool := decide (0 ≤ n ∧ n ≤ 4194304)
set_option maxHeartbeats 400000 in
theorem mayBound_any (n : Int) (w : World) :
    Calls Try.prog 21 #[.int .i64 n] w fun e w' => e = .returned (.bool (bndB n)) ∧ w = w' := by
  unfold bndB
  by_cases h1 : 0 ≤ n <;> by_cases h2 : n ≤ 4194304
  all_goals
    go_enter Try.func21, Try.ntmps21
    go_wp2
    go_ret
    simp [h1, h2]
end Go.Proofs.Ytmcoehimjfgakaa
