/- The walk of colophonlaw12.DocsLinks, over what packages text and docs answer (DocsI). -/
import Derived.Test.YtpdleigcdmgfmaaDocI
namespace Go.Proofs.Ytpdleigcdmgfmaa
open Go.RowKit
section
variable {At : Nat → World → Value → List Sec → Prop}

set_option maxRecDepth 100000 in
set_option maxHeartbeats 3200000 in
theorem dcLinks_walk (I : DocsI At) (A : Option Addr) (n c : Nat) (V : Nat → Int) (w : World) (ho : ItsR w A n c V) :
    Calls Try.prog 4 #[.slice A n c] w fun e w' => e = .returned (.bool true) ∧ Below w.heap.size w w' := by
  have HI := Lib.hid I
  have HO := Lib.hid ho
  have HF := Lib.hid (dfirst_any I w)
  have hnl : n ≤ 9223372036854775807 := by have := ho.2.1; have := ho.2.2.1; unfold maxLen at this; omega
  clear I ho
  by_cases hbig : 800 < n
  · have hd : decide ((800 : Int) < (n : Int)) = true := decide_eq_true (by omega)
    go_enter Try.func4, Try.ntmps4
    go_wp2_with fail
    refine HF.out.mono ?_
    rintro e w0 ⟨rfl, hb0⟩
    go_wp2_with fail
    go_ret
    exact ⟨rfl, hb0⟩
  · have hd : decide ((800 : Int) < (n : Int)) = false := decide_eq_false (by omega)
    have hn : n ≤ 800 := by omega
    have HVs := Lib.hid HO.out.2.2.2.small
    go_enter Try.func4, Try.ntmps4
    go_wp2_with fail
    refine HF.out.mono ?_
    rintro e w0 ⟨rfl, hb0⟩
    have HO0 := Lib.hid (HO.out.below hb0)
    clear HF
    go_wp2_with (at_builtin; refine step_append_list_far rfl (.tmp 12) (.tmp 13) rfl rfl rfl (by omega) HO0.out.1 HO0.out.2.2.2 ?_; intro g1 cg w1 hown1 hb1)
    have hB1 := hb0.trans (hb1.mono hb0.size)
    have HO1 := Lib.hid (HO0.out.below hb1)
    obtain ⟨T, ct, eT, hit⟩ := ItsR.of_own hown1.out (fun j hj => HVs.out _ (by omega))
    cases eT
    have HT := Lib.hid hit
    have HBk := Lib.hid (HI.out.back _ n cg V w1 (by omega) hit)
    clear hown1 hb1 hit HO0 hb0
    go_wp2_with fail
    refine HBk.out.mono ?_
    rintro e w2 ⟨⟨A2, c2, rfl, hi2⟩, hb2⟩
    have hB2 := hB1.trans (hb2.mono hB1.size)
    have HT2 := Lib.hid (HT.out.below hb2)
    have HO2 := Lib.hid (HO1.out.below hb2)
    have HX2 := Lib.hid hi2
    have HAh := Lib.hid (HI.out.ahead _ n cg V w2 (by omega) HT2.out)
    clear HBk hb2 hi2 HT HO1 hB1
    go_wp2_with fail
    refine HAh.out.mono ?_
    rintro e w3 ⟨⟨A3, c3, rfl, hi3⟩, hb3⟩
    have hB3 := hB2.trans (hb3.mono hB2.size)
    have HT3 := Lib.hid (HT2.out.below hb3)
    have HO3 := Lib.hid (HO2.out.below hb3)
    have HX3 := Lib.hid (HX2.out.below hb3)
    have HY3 := Lib.hid hi3
    have HS1 := Lib.hid (refSame8_any _ A n n cg c V V _ _ w3 (by unfold maxLen; omega) (Nat.le_refl _) (Nat.le_refl _) HT3.out.2.2.2 HO3.out.2.2.2)
    clear HAh hb3 hi3 HT2 HO2 HX2 hB2
    go_wp2_with fail
    refine HS1.out.mono ?_
    rintro e w4 ⟨b, rfl, hbi, hb4⟩
    obtain rfl : b = true := hbi.2 ⟨by trivial, fun _ _ => by trivial⟩
    have hB4 := hB3.trans (hb4.mono hB3.size)
    have HO4 := Lib.hid (HO3.out.below hb4)
    have HX4 := Lib.hid (HX3.out.below hb4)
    have HY4 := Lib.hid (HY3.out.below hb4)
    have HRb := Lib.hid (refBackD_any A n c V w4 (by omega) HO4.out.2.2.2)
    clear HS1 hbi hb4 HT3 HO3 HX3 HY3 hB3
    go_wp2_with fail
    refine HRb.out.mono ?_
    rintro e w5 ⟨u, rfl, hown5, hb5⟩
    obtain ⟨A5, c5, rfl, hi5⟩ := ItsR.of_own hown5 (fun j hj => by have := lastD_room V j; omega)
    have hB5 := hB4.trans (hb5.mono hB4.size)
    have HO5 := Lib.hid (HO4.out.below hb5)
    have HX5 := Lib.hid (HX4.out.below hb5)
    have HY5 := Lib.hid (HY4.out.below hb5)
    have HS2 := Lib.hid (refSame8_any A2 A5 n n c2 c5 (lastD V) (lastD V) _ _ w5 (by unfold maxLen; omega) (Nat.le_refl _) (Nat.le_refl _) HX5.out.2.2.2 hi5.2.2.2)
    clear HRb hown5 hb5 hi5 HO4 HX4 HY4 hB4
    go_wp2_with fail
    refine HS2.out.mono ?_
    rintro e w6 ⟨b, rfl, hbi, hb6⟩
    obtain rfl : b = true := hbi.2 ⟨by trivial, fun _ _ => by trivial⟩
    have hB6 := hB5.trans (hb6.mono hB5.size)
    have HO6 := Lib.hid (HO5.out.below hb6)
    have HX6 := Lib.hid (HX5.out.below hb6)
    have HY6 := Lib.hid (HY5.out.below hb6)
    have HRa := Lib.hid (refAheadD_any A n c V w6 (by omega) HO6.out.2.2.2)
    clear HS2 hbi hb6 HO5 HX5 HY5 hB5
    go_wp2_with fail
    refine HRa.out.mono ?_
    rintro e w7 ⟨u, rfl, hown7, hb7⟩
    obtain ⟨A7, c7, rfl, hi7⟩ := ItsR.of_own hown7 (fun j hj => by have := nextD_room (V := V) hj; omega)
    have hB7 := hB6.trans (hb7.mono hB6.size)
    have HX7 := Lib.hid (HX6.out.below hb7)
    have HY7 := Lib.hid (HY6.out.below hb7)
    have HS3 := Lib.hid (refSame8_any A3 A7 n n c3 c7 (nextD V n) (nextD V n) _ _ w7 (by unfold maxLen; omega) (Nat.le_refl _) (Nat.le_refl _) HY7.out.2.2.2 hi7.2.2.2)
    clear HRa hown7 hb7 hi7 HO6 HX6 HY6 hB6
    go_wp2_with fail
    refine HS3.out.mono ?_
    rintro e w8 ⟨b, rfl, hbi, hb8⟩
    obtain rfl : b = true := hbi.2 ⟨by trivial, fun _ _ => by trivial⟩
    have hB8 := hB7.trans (hb8.mono hB7.size)
    have HX8 := Lib.hid (HX7.out.below hb8)
    have HY8 := Lib.hid (HY7.out.below hb8)
    clear HS3 hbi hb8 HX7 HY7 hB7
    go_wp2_with fail
    go_loop [39] (fun v => ∃ i : Nat, i ≤ n ∧ v = .int .i64 (i : Int)) (fun v => n - (intOf v).toNat)
    case atStart => exact ⟨0, Nat.zero_le _, rfl⟩
    case round =>
      obtain ⟨i, hi, rfl⟩ := hrel
      by_cases hlt : i < n
      · have hlti : (i : Int) < (n : Int) := by omega
        obtain ⟨ad1, rfl, _, c1', _⟩ := HX8.out.2.2.2 i hlt
        obtain ⟨ad2, rfl, _, c2', _⟩ := HY8.out.2.2.2 i hlt
        have e1 : ((i : Int) != (i : Int)) = false := by simp
        have hb1 : (∃ x : Int, lastD V i = x ∧ decide ((0 : Int) ≤ x) = false) ∨ ∃ p : Nat, lastD V i = (p : Int) ∧ p < n ∧ nextD V n p = (i : Int) := by
          rcases lastD_is V i with ⟨h1, _⟩ | ⟨p, h1, h2, _, _⟩
          · exact .inl ⟨-1, h1, by decide⟩
          · exact .inr ⟨p, h2, by omega, next_last hlt h2⟩
        have hb2 : (∃ q : Nat, nextD V n i = (q : Int) ∧ q < n ∧ lastD V q = (i : Int)) ∨ nextD V n i = (n : Int) := by
          obtain ⟨q, h1, h2, h3, _⟩ := nextD_is (V := V) hlt
          by_cases e : q < n
          · exact .inl ⟨q, h1, e, last_next hlt h1 e⟩
          · obtain rfl : q = n := by omega
            exact .inr h1
        rcases hb1 with ⟨x, hx, g1⟩ | ⟨p, hx, hpn, hp⟩ <;> rcases hb2 with ⟨q, hy, hqn, hq⟩ | hy
        · rw [hx] at c1'
          rw [hy] at c2'
          obtain ⟨ad3, e3, _, c3', _⟩ := HX8.out.2.2.2 q hqn
          cases e3
          rw [hq] at c3'
          have g2 : decide ((q : Int) < (n : Int)) = true := decide_eq_true (by omega)
          have hqi : (q : Int) < (n : Int) := by omega
          clear hx hy hq
          go_wp2_with fail
          go_round
          case rel => exact ⟨i + 1, by omega, by go_num⟩
          case measure => simp [intOf]; omega
        · rw [hx] at c1'
          rw [hy] at c2'
          have g2 : decide ((n : Int) < (n : Int)) = false := decide_eq_false (by omega)
          clear hx hy
          go_wp2_with fail
          go_round
          case rel => exact ⟨i + 1, by omega, by go_num⟩
          case measure => simp [intOf]; omega
        · rw [hx] at c1'
          rw [hy] at c2'
          obtain ⟨ad3, e3, _, c3', _⟩ := HX8.out.2.2.2 q hqn
          cases e3
          obtain ⟨ad4, e4, _, c4', _⟩ := HY8.out.2.2.2 p hpn
          cases e4
          rw [hq] at c3'
          rw [hp] at c4'
          have g1 : decide ((0 : Int) ≤ (p : Int)) = true := by simp
          have g2 : decide ((q : Int) < (n : Int)) = true := decide_eq_true (by omega)
          have hqi : (q : Int) < (n : Int) := by omega
          have hpi : (p : Int) < (n : Int) := by omega
          clear hx hy hq hp
          go_wp2_with fail
          go_round
          case rel => exact ⟨i + 1, by omega, by go_num⟩
          case measure => simp [intOf]; omega
        · rw [hx] at c1'
          rw [hy] at c2'
          obtain ⟨ad4, e4, _, c4', _⟩ := HY8.out.2.2.2 p hpn
          cases e4
          rw [hp] at c4'
          have g1 : decide ((0 : Int) ≤ (p : Int)) = true := by simp
          have g2 : decide ((n : Int) < (n : Int)) = false := decide_eq_false (by omega)
          have hpi : (p : Int) < (n : Int) := by omega
          clear hx hy hp
          go_wp2_with fail
          go_round
          case rel => exact ⟨i + 1, by omega, by go_num⟩
          case measure => simp [intOf]; omega
      · have hge : ¬ (i : Int) < (n : Int) := by omega
        go_wp2_with fail
        go_ret
        exact ⟨rfl, hB8⟩
end
end Go.Proofs.Ytpdleigcdmgfmaa
