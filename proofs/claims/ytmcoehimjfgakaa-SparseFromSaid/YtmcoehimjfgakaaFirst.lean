/- The contract of the laws' own opening: it is true, and leaves what was there as it was. -/
import Derived.Test.YtmcoehimjfgakaaFull
import Derived.Test.YtmcoehimjfgakaaJust
import Derived.Test.YtmcoehimjfgakaaLen
namespace Go.Proofs.Ytmcoehimjfgakaa
open Go.RowKit

theorem first_new (w : World) : Calls Try.prog 26 #[.int .i64 3, .int .i64 3] w (NewPost w 3 3 [0]) := new_any 3 3 (by decide) (by decide) (by decide) w
theorem first_set {w : World} {g gs : Nat} (h : Pk w g gs 3 3 [0]) : Calls Try.prog 28 #[.pointer (some ⟨g, 0, none⟩), .int .i64 1, .int .u64 5] w (SetPost w g gs 3 3 [40]) :=
  set_any h (by intro x hx; simp at hx; omega) (by decide) (by decide) (by decide) (by decide) 1 5 (by decide) (by decide)
theorem first_set8 {w : World} {g gs : Nat} (h : Pk w g gs 3 3 [40]) : Calls Try.prog 28 #[.pointer (some ⟨g, 0, none⟩), .int .i64 1, .int .u64 8] w fun e w' => e = .returned (.bool false) ∧ w = w' :=
  set_wide h (by decide) 1 8 (by decide) (by decide)
theorem first_set3 {w : World} {g gs : Nat} (h : Pk w g gs 3 3 [40]) : Calls Try.prog 28 #[.pointer (some ⟨g, 0, none⟩), .int .i64 3, .int .u64 1] w fun e w' => e = .returned (.bool false) ∧ w = w' :=
  set_out h 3 1 (by decide)
theorem first_words {w : World} {g gs : Nat} (h : Pk w g gs 3 3 [40]) : Calls Try.prog 39 #[.pointer (some ⟨g, 0, none⟩)] w (CopyPost w [40]) := words_any h (by decide)
theorem first_get {w : World} {g gs : Nat} (h : Pk w g gs 3 3 [40]) : Calls Try.prog 35 #[.pointer (some ⟨g, 0, none⟩), .int .i64 1] w fun e w' => e = .returned (.int .u64 5) ∧ w = w' :=
  get_any h (by intro x hx; simp at hx; omega) (by decide) (by decide) (by decide) (by decide) 1 (by decide)
theorem first_getm {w : World} {g gs : Nat} (h : Pk w g gs 3 3 [40]) : Calls Try.prog 35 #[.pointer (some ⟨g, 0, none⟩), .int .i64 (-1)] w fun e w' => e = .returned (.int .u64 0) ∧ w = w' :=
  get_out h (-1) (by decide)
theorem first_from {w : World} {b : Nat} (h : Src w b [512]) : Calls Try.prog 44 #[.int .i64 3, .int .i64 3, .slice (some ⟨b, 0, none⟩) 1 1] w fun e w' => e = .returned (.tuple #[.pointer none, .int .i64 10]) ∧ w = w' :=
  from_form 3 3 b 1 [512] (by decide) (by decide) (by decide) w h (by decide) (by decide)
/-- a width out of any int. -/
theorem width_num (a : Int) : ∃ k : Nat, wrap64 (1 + wrap64 ((IntKind.u64.wrap a).tmod 64)) = (k : Int) ∧ 1 ≤ k ∧ k ≤ 64 := by
  rw [IntKind.wrap_u64, tmod_of_emod]
  unfold wrap64
  refine ⟨(1 + (a % 18446744073709551616) % 64).toNat, ?_, ?_, ?_⟩ <;> omega
theorem cut_lt {V k : Nat} (hV : V < 2 ^ 64) (hk : k ≤ 64) : V / 2 ^ (64 - k) < 2 ^ k := by
  rw [Nat.div_lt_iff_lt_mul (Nat.two_pow_pos _), ← Nat.pow_add]
  have e : k + (64 - k) = 64 := by omega
  rw [e]
  exact hV

end Go.Proofs.Ytmcoehimjfgakaa
