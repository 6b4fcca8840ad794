/- math/bits.Len: how many bits a number has. -/
import Derived.Test.YtddfaidfnmpnlaaLen
import Derived.Test.YtddfaidfnmpnlaaSpMath
namespace Go.Proofs.Ytddfaidfnmpnlaa
open Go.RowKit

theorem l_aux_blen : ∀ (f x : Nat), x < 2 ^ f → Lib.bitLenAux f x = Pl.blen x
  | 0, x, h => by
    have : x = 0 := by simpa using h
    rw [this, Pl.blen_zero]; rfl
  | f + 1, x, h => by
    by_cases h0 : x = 0
    · subst h0; rw [Pl.blen_zero]; simp [Lib.bitLenAux]
    · have e : Lib.bitLenAux (f + 1) x = 1 + Lib.bitLenAux f (x / 2) := by simp [Lib.bitLenAux, h0]
      rw [Pl.blen_pos (by omega), ← l_aux_blen f (x / 2) (by rw [Nat.pow_succ] at h; omega), e]
      omega
set_option maxHeartbeats 400000 in
theorem lblen_any (x : Nat) (hx : x < 2 ^ 64) (w : World) :
    Calls Try.prog 24 #[.int .u64 (x : Int)] w fun e w' => e = .returned (.int .i64 (Pl.blen x : Nat)) ∧ w = w' := by
  have h := len64_any x hx w
  have e : Lib.bitLen x = Pl.blen x := l_aux_blen 64 x hx
  rw [e] at h
  have HH := Lib.hid h
  clear h e
  go_enter Try.func24, Try.ntmps24
  go_wp2_with fail
  refine HH.out.mono ?_
  rintro e w' ⟨rfl, rfl⟩
  go_wp2_with fail
  go_ret
  exact ⟨rfl, rfl⟩

end Go.Proofs.Ytddfaidfnmpnlaa
