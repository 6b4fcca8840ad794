/- The contract of pack.Width: one more than the place of the highest one, at least 1. bits.Len64 by the library's own contract, applied to this program. -/
import Derived.Shelf.Strconv.Itoa0
import Derived.Test.YthbnojhcmfhnhaaMake
namespace Go.Proofs.Ythbnojhcmfhnhaa
open Go.RowKit

def len64_ren : Go.Shelf.Ren := ⟨fun | 129 => 32 | n => n, fun | 53 => 55 | 3 => 3 | 4 => 4 | 46 => 48 | 5 => 5 | 9 => 9 | n => n, fun | n => n⟩
theorem len64_lays : Go.Proofs.Lays.n129 Try.prog len64_ren := {
  mixed := by kernel_rfl
  f129 := Try.func32.trans (congrArg some (by kernel_rfl))
  t3 := Try.underlying3
  a3 := Try.isAgg3
  z3 := Try.sizeOf3
  v3 := Try.zeroValue3
  t4 := Try.underlying4
  a4 := Try.isAgg4
  z4 := Try.sizeOf4
  v4 := Try.zeroValue4
  t5 := Try.underlying5
  a5 := Try.isAgg5
  z5 := Try.sizeOf5
  v5 := Try.zeroValue5
  t9 := Try.underlying9
  a9 := Try.isAgg9
  z9 := Try.sizeOf9
  v9 := Try.zeroValue9
  t46 := Try.underlying48
  a46 := Try.isAgg48
  z46 := Try.sizeOf48
  v46 := Try.zeroValue48
  t53 := Try.underlying55
  a53 := Try.isAgg55
  z53 := Try.sizeOf55
  v53 := Try.zeroValue55 }

theorem len64_any (x : Nat) (hx : x < 2 ^ 64) (w : World) :
    Calls Try.prog 32 #[.int .u64 (x : Int)] w fun e w' => e = .returned (.int .i64 (Lib.bitLen x : Nat)) ∧ w = w' :=
  (Any.bits_Len64 len64_lays (x : Int) w (by omega) (by omega)).mono fun _ _ h => ⟨h.1, h.2.symm⟩

theorem aux_zero (f : Nat) : Lib.bitLenAux f 0 = 0 := by cases f <;> simp [Lib.bitLenAux]
theorem aux_spec : ∀ (f x : Nat), x < 2 ^ f → Lib.bitLenAux f x ≤ f ∧ x < 2 ^ Lib.bitLenAux f x ∧ (x ≠ 0 → 1 ≤ Lib.bitLenAux f x ∧ 2 ^ (Lib.bitLenAux f x - 1) ≤ x)
  | 0, x, h => by
    have : x = 0 := by simpa using h
    subst this
    simp [Lib.bitLenAux]
  | f + 1, x, h => by
    by_cases h0 : x = 0
    · subst h0; simp [Lib.bitLenAux]
    · have hx : x / 2 < 2 ^ f := by rw [Nat.pow_succ] at h; omega
      obtain ⟨a, b, c⟩ := aux_spec f (x / 2) hx
      have e : Lib.bitLenAux (f + 1) x = 1 + Lib.bitLenAux f (x / 2) := by simp [Lib.bitLenAux, h0]
      rw [e]
      by_cases h1 : x / 2 = 0
      · rw [h1, aux_zero]
        have : x = 1 := by omega
        subst this
        simp
      · obtain ⟨c1, c2⟩ := c h1
        generalize Lib.bitLenAux f (x / 2) = k at *
        refine ⟨by omega, by rw [Nat.add_comm, Nat.pow_succ]; omega, fun _ => ⟨by omega, ?_⟩⟩
        rw [Nat.add_sub_cancel_left]
        have : 2 ^ k = 2 ^ (k - 1) * 2 := by rw [← Nat.pow_succ]; congr 1; omega
        omega

/-- the least width of which x is a number. -/
def wdN (x : Nat) : Nat := max 1 (Lib.bitLen x)

set_option maxHeartbeats 400000 in
theorem widthOf_any (x : Nat) (hx : x < 2 ^ 64) (w : World) :
    Calls Try.prog 20 #[.int .u64 (x : Int)] w fun e w' => e = .returned (.int .i64 (wdN x : Nat)) ∧ w = w' := by
  have HL := Lib.hid (len64_any x hx w)
  go_enter Try.func20, Try.ntmps20
  go_wp2_with (go_at_call 32; refine HL.out.mono ?_; rintro e w' ⟨rfl, rfl⟩)
  go_ret
  exact ⟨ret_i64 (by unfold wdN; omega), rfl⟩

theorem wdN_spec {x : Nat} (hx : x < 2 ^ 64) : 1 ≤ wdN x ∧ wdN x ≤ 64 ∧ x < 2 ^ wdN x ∧ (wdN x ≠ 1 → 2 ^ (wdN x - 1) ≤ x) := by
  obtain ⟨a, b, c⟩ := aux_spec 64 x hx
  have e : Lib.bitLen x = Lib.bitLenAux 64 x := rfl
  unfold wdN
  rw [e]
  have hz : x = 0 → Lib.bitLenAux 64 x = 0 := by rintro rfl; exact aux_zero 64
  generalize Lib.bitLenAux 64 x = k at *
  by_cases hk : k = 0
  · subst hk
    have : x = 0 := by simpa using b
    subst this
    simp
  · have hm : max 1 k = k := by omega
    rw [hm]
    refine ⟨by omega, a, b, fun _ => ?_⟩
    by_cases h0 : x = 0
    · exact absurd (hz h0) hk
    · exact (c h0).2
end Go.Proofs.Ythbnojhcmfhnhaa
