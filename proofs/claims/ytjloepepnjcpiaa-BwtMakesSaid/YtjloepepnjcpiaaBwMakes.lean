/- The walk of colophonlaw11.BwtMakes, over what package bwt answers (BwtI). -/
import Derived.Test.YtjloepepnjcpiaaBwtI
namespace Go.Proofs.Ytjloepepnjcpiaa
open Go.RowKit

set_option maxRecDepth 100000 in
set_option maxHeartbeats 3200000 in
theorem bwMakes_walk (I : BwtI) (A : Option Addr) (n c : Nat) (V : Nat → Int) (A' : Option Addr) (n' c' : Nat) (S : Nat → Int) (w : World) (ho : ItsR w A n c V) (ho' : ItsR w A' n' c' S) :
    Calls Try.prog 3 #[.slice A n c, .slice A' n' c'] w fun e w' => e = .returned (.bool true) ∧ Below w.heap.size w w' := by
  have HI := Lib.hid I
  have HO := Lib.hid ho
  have HO' := Lib.hid ho'
  have HF := Lib.hid (bfirst_any I w)
  have hcl : c ≤ 9223372036854775807 := by have := ho.2.2.1; unfold maxLen at this; omega
  have hcl' : c' ≤ 9223372036854775807 := by have := ho'.2.2.1; unfold maxLen at this; omega
  have hnc := ho.2.1
  have hnc' := ho'.2.1
  clear I ho ho'
  go_enter Try.func3, Try.ntmps3
  go_wp2_with fail
  refine HF.out.mono ?_
  rintro e w0 ⟨rfl, hb0⟩
  clear HF
  obtain ⟨mx, hmx⟩ : ∃ mx : Nat, (if n < n' then (n' : Int) else (n : Int)) = (mx : Int) := by
    split
    · exact ⟨n', rfl⟩
    · exact ⟨n, rfl⟩
  by_cases hbig : (mx : Int) ≤ 1000
  · have hn4 : n ≤ 1000 ∧ n' ≤ 1000 := by split at hmx <;> omega
    obtain ⟨hn4, hn4'⟩ := hn4
    have d1 : decide ((1000 : Int) < (mx : Int)) = false := decide_eq_false (by omega)
    have HA := Lib.hid (HI.out.make A n c V A' n' c' S w0 (by omega) (by omega) (HO.out.below hb0) (HO'.out.below hb0))
    have hP : (n = n' ∧ IsPerm S n) ∨ ¬ (n = n' ∧ IsPerm S n) := Classical.em _
    have HP := Lib.hid hP
    clear hP
    go_wp2_with fail
    clear hmx hbig d1
    rcases HP.out with ⟨rfl, hP⟩ | hP
    · have HP1 := Lib.hid hP
      clear hP HP
      refine HA.out.mono ?_
      rintro e w3 ⟨h1, _, hb3⟩
      obtain ⟨A3, c3, rfl, hi3⟩ := h1 ⟨rfl, HP1.out⟩
      have HI3 := Lib.hid hi3
      have hB3 := hb0.trans (hb3.mono hb0.size)
      have HTu := Lib.hid (refTurned_any A' n c' S w3 (by omega) (HO'.out.below hB3).2.2.2)
      clear h1 hi3 HA hb3 hb0
      go_wp2_with fail
      refine HTu.out.mono ?_
      rintro e w6 ⟨h6, hb6⟩
      obtain ⟨u, R, rfl, _⟩ := h6.elim (fun h => h.2) (fun h => absurd HP1.out h.1)
      have hB6 := hB3.trans (hb6.mono hB3.size)
      have HRA := Lib.hid (refMakeB_any A A' n c n c' V S w6 (by omega) (by omega) HP1.out.1 (HO.out.below hB6).2.2.2 (HO'.out.below hB6).2.2.2)
      have HI6 := Lib.hid (HI3.out.below hb6)
      clear h6 hB3 hb6 HTu HI3
      go_wp2_with fail
      refine HRA.out.mono ?_
      rintro e w7 ⟨v7, rfl, hown7, hb7⟩
      obtain ⟨A7, c7, rfl, hi7⟩ := ItsR.of_own hown7 HI6.out.2.2.2.small
      have HI7 := Lib.hid (HI6.out.below hb7)
      have HC5 := Lib.hid (refSame8_any A3 A7 n n c3 c7 (turnI V n S) (turnI V n S) w7.heap.size w7.heap.size w7 (by unfold maxLen; omega) (Nat.le_refl _) (Nat.le_refl _) HI7.out.2.2.2 hi7.2.2.2)
      have hB7 := hB6.trans (hb7.mono hB6.size)
      clear hB6 hb7 HRA HI6 hown7 hi7
      go_wp2_with fail
      refine HC5.out.mono ?_
      rintro e w8 ⟨b, rfl, hbi, hb8⟩
      obtain rfl : b = true := hbi.2 ⟨by trivial, fun _ _ => by trivial⟩
      have hB8 := hB7.trans (hb8.mono hB7.size)
      clear hbi
      go_wp2_with fail
      go_ret
      exact ⟨rfl, hB8⟩
    · have HP1 := Lib.hid hP
      clear hP HP
      refine HA.out.mono ?_
      rintro e w3 ⟨_, h1, hb3⟩
      obtain ⟨A3, c3, rfl⟩ := h1 HP1.out
      have hB3 := hb0.trans (hb3.mono hb0.size)
      have HTu := Lib.hid (refTurned_any A' n' c' S w3 (by omega) (HO'.out.below hB3).2.2.2)
      clear h1 HA hb3 hb0
      go_wp2_with fail
      refine HTu.out.mono ?_
      rintro e w6 ⟨h6, hb6⟩
      have hB6 := hB3.trans (hb6.mono hB3.size)
      rcases h6 with ⟨hp, u, R, rfl, _⟩ | ⟨_, rfl⟩
      · have hne : n ≠ n' := fun e => HP1.out ⟨e, by rw [e]; exact hp⟩
        have d2 : ((n' : Int) != (n : Int)) = true := by simp; omega
        clear hp HTu
        go_wp2_with fail
        go_ret
        exact ⟨rfl, hB6⟩
      · clear HTu
        go_wp2_with fail
        go_ret
        exact ⟨rfl, hB6⟩
  · have d1 : decide ((1000 : Int) < (mx : Int)) = true := decide_eq_true (by omega)
    go_wp2_with fail
    go_ret
    exact ⟨rfl, hb0⟩
end Go.Proofs.Ytjloepepnjcpiaa
