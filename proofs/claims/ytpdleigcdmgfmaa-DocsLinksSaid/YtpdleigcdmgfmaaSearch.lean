/- sort.Search over any closure of two captured values that only draws. -/
import Derived.Test.YtpdleigcdmgfmaaMem
import Derived.Deep.LoopGhost
import Derived.Shelf.Abstract
namespace Go.Proofs.Ytpdleigcdmgfmaa
open Go.RowKit

set_option maxRecDepth 100000 in
set_option maxHeartbeats 800000 in
/-- sort.Search: the first place that the closure says yes to. -/
theorem search2_any (F : Nat) (eg : ∀ args w, (callFunc F args).run Try.prog w = .ok (.enter F args) w) (f : Nat → Bool) (n : Nat) (l1 l2 : Value) (w : World) (hn : n ≤ 4194304) (hm : ∀ i j, i ≤ j → f i = true → f j = true)
    (hc : ∀ q i, i < n → Calls Try.prog F #[.int .i64 ((i : Nat) : Int), l1, l2] (w.drewN q) fun e w' => e = .returned (.bool (f i)) ∧ ∃ q', w' = (w.drewN q).drewN q') :
    Calls Try.prog 30 #[.int .i64 (n : Int), .func (.func F) #[] #[l1, l2]] w fun e w' => ∃ j : Nat, j ≤ n ∧ e = .returned (.int .i64 (j : Int)) ∧ ((∀ t, t < j → f t = false) ∧ (∀ t, j ≤ t → t < n → f t = true)) ∧ ∃ q, w' = w.drewN q := by
  have HF := Lib.hid hc
  have HM := Lib.hid hm
  clear hc hm
  go_enter Try.func30, Try.ntmps30
  go_wp2
  go_loopg [5, 6] n (fun kx s5 s6 wr => ∃ (lo hi q : Nat), s5 = .int .i64 lo ∧ s6 = .int .i64 hi ∧ lo ≤ hi ∧ hi ≤ n ∧ hi - lo ≤ kx ∧ wr = w.drewN q ∧
    Hid ((∀ t, t < lo → f t = false) ∧ (∀ t, hi ≤ t → t < n → f t = true)))
  case atStart => exact ⟨0, n, 0, rfl, rfl, Nat.zero_le _, Nat.le_refl _, by omega, rfl, Lib.hid ⟨fun t ht => absurd ht (Nat.not_lt_zero _), fun t h1 h2 => by omega⟩⟩
  case round =>
    obtain ⟨lo, hi, q, rfl, rfl, hlh, hin, hg, rfl, I⟩ := hrel
    by_cases hlt : lo < hi
    · obtain ⟨md, hmd⟩ : ∃ md : Nat, md = (lo + hi) / 2 := ⟨_, rfl⟩
      have hmd1 : lo ≤ md := by omega
      have hmd2 : md < hi := by omega
      have em : ((lo : Int) + (hi : Int)) / 2 = (md : Int) := by omega
      have hc := HF.out q md (by omega)
      clear hmd
      rcases hp : f md with _ | _
      · rw [hp] at hc
        have HC := Lib.hid hc
        have HP := Lib.hid hp
        clear hc hp
        go_wp2_with (go_at_fn F; (with_reducible refine HC.out.mono ?_); rintro e w' ⟨rfl, nq, rfl⟩)
        go_roundg (hi - (md + 1))
        case measure => omega
        case rel =>
          refine ⟨md + 1, hi, q + nq, by go_num, rfl, by omega, hin, Nat.le_refl _, rfl, Lib.hid ⟨fun t ht => ?_, I.out.2⟩⟩
          rcases e : f t with _ | _
          · rfl
          · have := HM.out t md (by omega) e
            rw [HP.out] at this
            cases this
      · rw [hp] at hc
        have HC := Lib.hid hc
        have HP := Lib.hid hp
        clear hc hp
        go_wp2_with (go_at_fn F; (with_reducible refine HC.out.mono ?_); rintro e w' ⟨rfl, nq, rfl⟩)
        go_roundg (md - lo)
        case measure => omega
        case rel =>
          exact ⟨lo, md, q + nq, rfl, rfl, by omega, by omega, Nat.le_refl _, rfl, Lib.hid ⟨I.out.1, fun t ht _ => HM.out md t ht HP.out⟩⟩
    · obtain rfl : lo = hi := by omega
      go_wp2
      go_ret
      exact ⟨lo, hin, rfl, I.out, q, rfl⟩
end Go.Proofs.Ytpdleigcdmgfmaa
