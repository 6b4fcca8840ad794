/- The walk of colophonlaw09.SuffixTurns, over what package suffix answers (SufI). -/
import Derived.Test.YtpcdbmkmpphhiaaSufI
namespace Go.Proofs.Ytpcdbmkmpphhiaa
open Go.RowKit

theorem turns_small {V R : Nat → Int} {n : Nat} (hp : IsPerm V n) (h : Turns V R n) (hn : n ≤ 4194304) : ∀ i, i < n → -9223372036854775808 ≤ R i ∧ R i ≤ 9223372036854775807 := fun i hi => by
  have := (h.perm hp).1 i hi
  omega
set_option maxRecDepth 100000 in
set_option maxHeartbeats 3200000 in
theorem sufTurns_walk (I : SufI) (A : Option Addr) (n c : Nat) (V : Nat → Int) (w : World) (hn : n ≤ maxLen) (hA : A = none → n = 0 ∧ c = 0) (ho : Its w w.heap.size A n V) :
    Calls Try.prog 5 #[.slice A n c] w fun e w' => e = .returned (.bool true) ∧ Below w.heap.size w w' := by
  have HI := Lib.hid I
  have HO := Lib.hid ho
  have HA := Lib.hid hA
  have HF := Lib.hid (sfirst_any I w)
  have hnl : n ≤ 9223372036854775807 := by unfold maxLen at hn; omega
  clear I ho hA hn
  go_enter Try.func5, Try.ntmps5
  go_wp2_with fail
  refine HF.out.mono ?_
  rintro e w0 ⟨rfl, hb0⟩
  clear HF
  by_cases h2k : 2000 < n
  · have d1 : decide ((2000 : Int) < (n : Int)) = true := decide_eq_true (by omega)
    go_wp2_with fail
    go_ret
    exact ⟨rfl, hb0⟩
  · have d1 : decide ((2000 : Int) < (n : Int)) = false := decide_eq_false (by omega)
    have hn4 : n ≤ 4194304 := by omega
    have HT1 := Lib.hid (HI.out.turn A n c V w0 hn4 HA.out ((HO.out.below hb0).mono_ hb0.size))
    by_cases hP : IsPerm V n
    · have HP := Lib.hid hP
      clear hP
      go_wp2_with fail
      refine HT1.out.mono ?_
      rintro e w1 ⟨h1, _, hb1⟩
      obtain ⟨A1, c1, R, rfl, hR, hi1⟩ := h1 HP.out
      have hB1 := hb0.trans (hb1.mono hb0.size)
      have HR := Lib.hid hR
      have HI1 := Lib.hid hi1
      have HRf := Lib.hid (refTurned_any A n c V w1 hn4 ((HO.out.below hB1).mono_ hB1.size))
      clear h1 hR hi1 hb1 HT1
      go_wp2_with fail
      refine HRf.out.mono ?_
      rintro e w2 ⟨h2, hb2⟩
      obtain ⟨u, R', rfl, hR', hu⟩ := h2.elim (fun h => h.2) (fun h => absurd HP.out h.1)
      obtain ⟨A2, c2, rfl, hi2⟩ := ItsR.of_own hu (turns_small HP.out hR' hn4)
      have hB2 := hB1.trans (hb2.mono hB1.size)
      have HI1b := Lib.hid (HI1.out.below hb2)
      have HI2 := Lib.hid hi2
      have HOne := Lib.hid (HR.out.one HP.out hR')
      have HT2 := Lib.hid (HI.out.turn A1 n c1 R w2 hn4 HI1b.out.1 HI1b.out.2.2.2)
      have HPR := Lib.hid (HR.out.perm HP.out)
      clear h2 hb2 hu hi2 hR' HRf HI1
      go_wp2_with fail
      refine HT2.out.mono ?_
      rintro e w3 ⟨h3, _, hb3⟩
      obtain ⟨A3, c3, Q, rfl, hQ, hi3⟩ := h3 HPR.out
      have hB3 := hB2.trans (hb3.mono hB2.size)
      have HI3 := Lib.hid hi3
      have HOne2 := Lib.hid (Turns.one HPR.out hQ (HR.out.back HP.out))
      have HS1 := Lib.hid (refSame8_any A1 A2 n n c1 c2 R R' w3.heap.size w3.heap.size w3 (by unfold maxLen; omega) (Nat.le_refl _) (Nat.le_refl _) (HI1b.out.below hb3).2.2.2 (HI2.out.below hb3).2.2.2)
      clear h3 hb3 hQ hi3 HT2 HI1b HI2
      go_wp2_with fail
      refine HS1.out.mono ?_
      rintro e w4 ⟨b, rfl, hbi, hb4⟩
      obtain rfl : b = true := hbi.2 ⟨by trivial, HOne.out⟩
      have hB4 := hB3.trans (hb4.mono hB3.size)
      have HS2 := Lib.hid (refSame8_any A3 A n n c3 c Q V w4.heap.size w4.heap.size w4 (by unfold maxLen; omega) (Nat.le_refl _) (Nat.le_refl _) (HI3.out.below hb4).2.2.2 ((HO.out.below hB4).mono_ hB4.size))
      clear hbi hb4 HS1 HI3
      go_wp2_with fail
      refine HS2.out.mono ?_
      rintro e w5 ⟨b, rfl, hbi, hb5⟩
      obtain rfl : b = true := hbi.2 ⟨by trivial, HOne2.out⟩
      have hB5 := hB4.trans (hb5.mono hB4.size)
      clear hbi
      go_wp2_with fail
      go_ret
      exact ⟨rfl, hB5⟩
    · have HP := Lib.hid hP
      clear hP
      go_wp2_with fail
      refine HT1.out.mono ?_
      rintro e w1 ⟨_, h1, hb1⟩
      obtain ⟨A1, c1, rfl⟩ := h1 HP.out
      have hB1 := hb0.trans (hb1.mono hb0.size)
      have HRf := Lib.hid (refTurned_any A n c V w1 hn4 ((HO.out.below hB1).mono_ hB1.size))
      clear h1 hb1 HT1
      go_wp2_with fail
      refine HRf.out.mono ?_
      rintro e w2 ⟨h2, hb2⟩
      obtain rfl := h2.elim (fun h => absurd h.1 HP.out) (fun h => h.2)
      have hB2 := hB1.trans (hb2.mono hB1.size)
      clear h2 hb2 HRf
      go_wp2_with fail
      go_ret
      exact ⟨rfl, hB2⟩
end Go.Proofs.Ytpcdbmkmpphhiaa
