/- The walk of colophonlaw10.LcpArrays, over what package lcp answers (LcpI). -/
import Derived.Test.YtlcgigiphlmjpaaLcpI
namespace Go.Proofs.Ytlcgigiphlmjpaa
open Go.RowKit

set_option maxRecDepth 100000 in
set_option maxHeartbeats 3200000 in
theorem lcArrays_walk (I : LcpI) (A : Option Addr) (n c : Nat) (V : Nat → Int) (A' : Option Addr) (n' c' : Nat) (S : Nat → Int) (w : World) (ho : ItsR w A n c V) (ho' : ItsR w A' n' c' S) :
    Calls Try.prog 3 #[.slice A n c, .slice A' n' c'] w fun e w' => e = .returned (.bool true) ∧ Below w.heap.size w w' := by
  have HI := Lib.hid I
  have HO := Lib.hid ho
  have HO' := Lib.hid ho'
  have HF := Lib.hid (lfirst_any I w)
  have hcl : c ≤ 9223372036854775807 := by have := ho.2.2.1; unfold maxLen at this; omega
  have hcl' : c' ≤ 9223372036854775807 := by have := ho'.2.2.1; unfold maxLen at this; omega
  have hnc := ho.2.1
  have hnc' := ho'.2.1
  clear I ho ho'
  go_enter Try.func3, Try.ntmps3
  go_wp2_with fail
  refine HF.out.mono ?_
  rintro e w0 ⟨rfl, hb0⟩
  clear HF
  obtain ⟨mx, hmx⟩ : ∃ mx : Nat, (if n < n' then (n' : Int) else (n : Int)) = (mx : Int) := by
    split
    · exact ⟨n', rfl⟩
    · exact ⟨n, rfl⟩
  by_cases hbig : (mx : Int) ≤ 400
  · have hn4 : n ≤ 400 ∧ n' ≤ 400 := by split at hmx <;> omega
    obtain ⟨hn4, hn4'⟩ := hn4
    have d1 : decide ((400 : Int) < (mx : Int)) = false := decide_eq_false (by omega)
    have HV := Lib.hid HO.out.2.2.2.small
    have HS := Lib.hid HO'.out.2.2.2.small
    have HO0 := Lib.hid (HO.out.below hb0)
    have HO0' := Lib.hid (HO'.out.below hb0)
    go_wp2_with (first
      | (at_builtin; refine step_append_list_far rfl (.tmp 19) (.tmp 20) rfl rfl rfl (by omega) HO0.out.1 HO0.out.2.2.2 ?_; intro g1 c1 w1 hown1 hb1; have HO1' := Lib.hid (HO0'.out.below hb1))
      | (at_builtin; refine step_append_list_far rfl (.tmp 22) (.tmp 23) rfl rfl rfl (by omega) HO1'.out.1 HO1'.out.2.2.2 ?_; intro g2 c2 w2 hown2 hb2))
    clear hmx hbig d1
    obtain ⟨_, _, e1, hi1⟩ := ItsR.of_own hown1.out HV.out
    cases e1
    obtain ⟨_, _, e2, hi2⟩ := ItsR.of_own hown2.out HS.out
    cases e2
    have HI1 := Lib.hid (hi1.below hb2)
    have HI2 := Lib.hid hi2
    have hB2 := hb0.trans ((hb1.trans (hb2.mono hb1.size)).mono hb0.size)
    have HA := Lib.hid (HI.out.array (some ⟨g1, 0, none⟩) n c1 V (some ⟨g2, 0, none⟩) n' c2 S w2 (by omega) (by omega) HI1.out HI2.out)
    clear hown1 hown2 hi1 hi2 hb0 hb1 hb2 HO0 HO0' HO1'
    have hP : (n = n' ∧ IsPerm S n) ∨ ¬ (n = n' ∧ IsPerm S n) := Classical.em _
    have HP := Lib.hid hP
    clear hP
    -- the two copies are as they were
    have HSame : Hid (∀ w3, Below w2.heap.size w2 w3 → Hid (Calls Try.prog 10 #[.slice (some ⟨g1, 0, none⟩) n c1, .slice A n c] w3 fun e w' => e = .returned (.bool true) ∧ Below w3.heap.size w3 w')) := Lib.hid fun w3 hb3 => Lib.hid (by
      refine (refSame8_any (some ⟨g1, 0, none⟩) A n n c1 c V V w3.heap.size w3.heap.size w3 (by unfold maxLen; omega) (Nat.le_refl _) (Nat.le_refl _) (HI1.out.below hb3).2.2.2 ((HO.out.below (hB2.trans (hb3.mono hB2.size))).2.2.2)).mono ?_
      rintro e w4 ⟨b, rfl, hbi, hb4⟩
      obtain rfl : b = true := hbi.2 ⟨by trivial, fun _ _ => rfl⟩
      exact ⟨rfl, hb4⟩)
    have HSame' : Hid (∀ w3, Below w2.heap.size w2 w3 → Hid (Calls Try.prog 10 #[.slice (some ⟨g2, 0, none⟩) n' c2, .slice A' n' c'] w3 fun e w' => e = .returned (.bool true) ∧ Below w3.heap.size w3 w')) := Lib.hid fun w3 hb3 => Lib.hid (by
      refine (refSame8_any (some ⟨g2, 0, none⟩) A' n' n' c2 c' S S w3.heap.size w3.heap.size w3 (by unfold maxLen; omega) (Nat.le_refl _) (Nat.le_refl _) (HI2.out.below hb3).2.2.2 ((HO'.out.below (hB2.trans (hb3.mono hB2.size))).2.2.2)).mono ?_
      rintro e w4 ⟨b, rfl, hbi, hb4⟩
      obtain rfl : b = true := hbi.2 ⟨by trivial, fun _ _ => rfl⟩
      exact ⟨rfl, hb4⟩)
    have HTu : Hid (∀ w3, Below w2.heap.size w2 w3 → Hid (Calls Try.prog 11 #[.slice A' n' c'] w3 (TurnedPost w3 n' S))) := Lib.hid fun w3 hb3 => Lib.hid (refTurned_any A' n' c' S w3 (by omega) (HO'.out.below (hB2.trans (hb3.mono hB2.size))).2.2.2)
    clear HI1 HI2
    rcases HP.out with ⟨rfl, hP⟩ | hP
    · have HP1 := Lib.hid hP
      have HRA : Hid (∀ w3, Below w.heap.size w w3 → Hid (Calls Try.prog 12 #[.slice A n c, .slice A' n c'] w3 fun e w' => ∃ u : Value, e = .returned u ∧ w'.ownsRow w3.heap.size 3 1 u n (icells (lcpI V n S) n) ∧ Below w3.heap.size w3 w')) := Lib.hid fun w3 hb3 => Lib.hid (refArrayL_any A A' n c n c' V S w3 (by omega) (by omega) (HO.out.below hb3).2.2.2 (HO'.out.below hb3).2.2.2)
      clear hP HP
      refine HA.out.mono ?_
      rintro e w3 ⟨h1, _, hb3⟩
      obtain ⟨A3, c3, rfl, hi3⟩ := h1 ⟨rfl, HP1.out⟩
      have HI3 := Lib.hid hi3
      have HC1 := HSame.out w3 hb3
      clear h1 hi3 HA
      go_wp2_with fail
      refine HC1.out.mono ?_
      rintro e w4 ⟨rfl, hb4⟩
      have hB4 := hb3.trans (hb4.mono hb3.size)
      have HC2 := HSame'.out w4 hB4
      have HI4 := Lib.hid (HI3.out.below hb4)
      clear hb3 hb4 HC1 HI3 HSame
      go_wp2_with fail
      refine HC2.out.mono ?_
      rintro e w5 ⟨rfl, hb5⟩
      have hB5 := hB4.trans (hb5.mono hB4.size)
      have HC3 := HTu.out w5 hB5
      have HI5 := Lib.hid (HI4.out.below hb5)
      clear hB4 hb5 HC2 HI4 HSame' HTu
      go_wp2_with fail
      refine HC3.out.mono ?_
      rintro e w6 ⟨h6, hb6⟩
      obtain ⟨u, R, rfl, _⟩ := h6.elim (fun h => h.2) (fun h => absurd HP1.out h.1)
      have hB6 := hB2.trans ((hB5.trans (hb6.mono hB5.size)).mono hB2.size)
      have HC4 := HRA.out w6 hB6
      have HI6 := Lib.hid (HI5.out.below hb6)
      clear h6 hB5 hb6 HC3 HI5 HRA
      go_wp2_with fail
      refine HC4.out.mono ?_
      rintro e w7 ⟨v7, rfl, hown7, hb7⟩
      obtain ⟨A7, c7, rfl, hi7⟩ := ItsR.of_own hown7 (fun i _ => by have := lcpI_room (V := V) (n := n) (S := S) (i := i); omega)
      have HI7 := Lib.hid (HI6.out.below hb7)
      have HC5 := Lib.hid (refSame8_any A3 A7 n n c3 c7 (lcpI V n S) (lcpI V n S) w7.heap.size w7.heap.size w7 (by unfold maxLen; omega) (Nat.le_refl _) (Nat.le_refl _) HI7.out.2.2.2 hi7.2.2.2)
      have hB7 := hB6.trans (hb7.mono hB6.size)
      clear hB6 hb7 HC4 HI6 hown7 hi7
      go_wp2_with fail
      refine HC5.out.mono ?_
      rintro e w8 ⟨b, rfl, hbi, hb8⟩
      obtain rfl : b = true := hbi.2 ⟨by trivial, fun _ _ => by trivial⟩
      have hB8 := hB7.trans (hb8.mono hB7.size)
      clear hbi
      go_wp2_with fail
      go_ret
      exact ⟨rfl, hB8⟩
    · have HP1 := Lib.hid hP
      clear hP HP
      refine HA.out.mono ?_
      rintro e w3 ⟨_, h1, hb3⟩
      obtain ⟨A3, c3, rfl⟩ := h1 HP1.out
      have HC1 := HSame.out w3 hb3
      clear h1 HA
      go_wp2_with fail
      refine HC1.out.mono ?_
      rintro e w4 ⟨rfl, hb4⟩
      have hB4 := hb3.trans (hb4.mono hb3.size)
      have HC2 := HSame'.out w4 hB4
      clear hb3 hb4 HC1 HSame
      go_wp2_with fail
      refine HC2.out.mono ?_
      rintro e w5 ⟨rfl, hb5⟩
      have hB5 := hB4.trans (hb5.mono hB4.size)
      have HC3 := HTu.out w5 hB5
      clear hB4 hb5 HC2 HSame' HTu
      go_wp2_with fail
      refine HC3.out.mono ?_
      rintro e w6 ⟨h6, hb6⟩
      have hB6 := hB2.trans ((hB5.trans (hb6.mono hB5.size)).mono hB2.size)
      rcases h6 with ⟨hp, u, R, rfl, _⟩ | ⟨_, rfl⟩
      · have hne : n ≠ n' := fun e => HP1.out ⟨e, by rw [e]; exact hp⟩
        have d2 : ((n' : Int) != (n : Int)) = true := by simp; omega
        clear hp HC3
        go_wp2_with fail
        go_ret
        exact ⟨rfl, hB6⟩
      · clear HC3
        go_wp2_with fail
        go_ret
        exact ⟨rfl, hB6⟩
  · have d1 : decide ((400 : Int) < (mx : Int)) = true := decide_eq_true (by omega)
    go_wp2_with fail
    go_ret
    exact ⟨rfl, hb0⟩
end Go.Proofs.Ytlcgigiphlmjpaa
