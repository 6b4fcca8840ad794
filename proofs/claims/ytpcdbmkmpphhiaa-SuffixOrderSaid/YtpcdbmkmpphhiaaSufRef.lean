/- The document's functions of layer 9: Less, Right. -/
import Derived.Test.YtpcdbmkmpphhiaaSufMath
import Derived.Test.YtpcdbmkmpphhiaaIntPut
import Derived.Test.YtpcdbmkmpphhiaaCrcCut
import Derived.Deep.QuietTactic
import Derived.BigQuiet
import Derived.Lib.Hide
namespace Go.Proofs.Ytpcdbmkmpphhiaa
open Go.RowKit

set_option maxRecDepth 100000 in
set_option maxHeartbeats 1600000 in
theorem refLess_any (A : Option Addr) (n c : Nat) (V : Nat → Int) (a b B : Nat) (w : World) (hn : n ≤ maxLen) (ha : a ≤ n) (hb : b ≤ n) (ho : ∀ q, Its (w.drewN q) B A n V) :
    Calls Try.prog 15 #[.slice A n c, .int .i64 (a : Int), .int .i64 (b : Int)] w fun e w' => ∃ r : Bool, e = .returned (.bool r) ∧ (r = true ↔ SLess V n a b) ∧ ∃ q, w' = w.drewN q := by
  have HO := Lib.hid ho
  have hnl : n ≤ 9223372036854775807 := by unfold maxLen at hn; omega
  clear ho hn
  go_enter Try.func15, Try.ntmps15
  go_wp2_with fail
  go_loopw [1, 2] (fun s1 s2 wr => ∃ x y q : Nat, x ≤ n ∧ y ≤ n ∧ s1 = .int .i64 (x : Int) ∧ s2 = .int .i64 (y : Int) ∧ Hid (SLess V n a b ↔ SLess V n x y) ∧ wr = w.drewN q) (fun s1 _ _ => n - (intOf s1).toNat)
  case atStart => exact ⟨a, b, 0, ha, hb, rfl, rfl, Lib.hid Iff.rfl, rfl⟩
  case round =>
    obtain ⟨x, y, q, hx, hy, rfl, rfl, HS, rfl⟩ := hrel
    by_cases hxy : x < n ∧ y < n
    · obtain ⟨hx1, hy1⟩ := hxy
      have dx : decide ((x : Int) < (n : Int)) = true := decide_eq_true (by omega)
      have dy : decide ((y : Int) < (n : Int)) = true := decide_eq_true (by omega)
      have hxi : (x : Int) < (n : Int) := by omega
      have hyi : (y : Int) < (n : Int) := by omega
      have hcx : ∃ ad : Addr, A = some ad := (HO.out 0 x hx1).elim fun ad h => ⟨ad, h.1⟩
      obtain ⟨ad, rfl⟩ := hcx
      have hc1 : ∀ r, (w.drewN r).cell? (ad.add x) = some (.int .i64 (V x)) := fun r => by
        obtain ⟨ad', e, _, h, _⟩ := HO.out r x hx1
        cases e
        exact h
      have hc2 : ∀ r, (w.drewN r).cell? (ad.add y) = some (.int .i64 (V y)) := fun r => by
        obtain ⟨ad', e, _, h, _⟩ := HO.out r y hy1
        cases e
        exact h
      have hstep := Lib.hid (sless_step (V := V) hx1 hy1)
      have hnow := Lib.hid (sless_now (V := V) hx1 hy1)
      generalize V x = vx at hc1 hstep hnow
      generalize V y = vy at hc2 hstep hnow
      by_cases he : vx = vy
      · subst he
        have hne : (vx != vx) = false := by simp
        go_wp2_with fail
        go_quiet (fail)
        go_wp2_with fail
        go_roundw
        case rel => exact ⟨x + 1, y + 1, _, by omega, by omega, by go_num, by go_num, Lib.hid (HS.out.trans (hstep.out trivial)), rfl⟩
        case measure => simp [intOf]; omega
      · have hne : (vx != vy) = true := by simp [he]
        have HE := Lib.hid he
        clear he
        go_wp2_with fail
        go_quiet (fail)
        go_wp2_with fail
        go_quiet (fail)
        go_wp2_with fail
        go_ret
        exact ⟨_, rfl, by rw [decide_eq_true_iff, HS.out, hnow.out HE.out], _, (congrArg (World.drewN · _) (World.drewN_drewN _ _ _)).trans (World.drewN_drewN _ _ _)⟩
    · have HE := Lib.hid (sless_end (V := V) hx hxy)
      by_cases hx1 : x < n
      · have dx : decide ((x : Int) < (n : Int)) = true := decide_eq_true (by omega)
        have dy : decide ((y : Int) < (n : Int)) = false := decide_eq_false (by omega)
        have dz : ((x : Int) == (n : Int)) = false := by rw [beq_eq_false_iff_ne]; omega
        go_wp2_with fail
        go_ret
        exact ⟨false, rfl, by rw [HS.out, HE.out]; simp; omega, q, rfl⟩
      · have dx : decide ((x : Int) < (n : Int)) = false := decide_eq_false (by omega)
        have dz : ((x : Int) == (n : Int)) = true := by rw [beq_iff_eq]; omega
        go_wp2_with fail
        go_ret
        exact ⟨_, rfl, by rw [HS.out, HE.out]; simp; omega, q, rfl⟩
theorem refLess_is (A : Option Addr) (n c : Nat) (V : Nat → Int) (a b B : Nat) (w : World) (hn : n ≤ maxLen) (ha : a ≤ n) (hb : b ≤ n) (ho : Its w B A n V) (r : Bool) (hr : r = true ↔ SLess V n a b) :
    Calls Try.prog 15 #[.slice A n c, .int .i64 (a : Int), .int .i64 (b : Int)] w fun e w' => e = .returned (.bool r) ∧ Below w.heap.size w w' := by
  refine (refLess_any A n c V a b B w hn ha hb (fun q => ho.below (below_drewN' (Below.refl _ _) q))).mono ?_
  rintro e w' ⟨r', rfl, hr', q, rfl⟩
  refine ⟨?_, below_drewN' (Below.refl _ _) q⟩
  have : r' = r := by
    rcases r with _ | _ <;> rcases r' with _ | _
    · rfl
    · exact absurd (hr.2 (hr'.1 rfl)) (by simp)
    · exact absurd (hr'.2 (hr.1 rfl)) (by simp)
    · rfl
  rw [this]

/-- are all numbers below an alphabet? -/
def RightS (V : Nat → Int) (n : Nat) (al : Int) : Prop := (0 ≤ al ∧ al ≤ 4194304 ∧ n ≤ 4194304) ∧ ∀ i, i < n → 0 ≤ V i ∧ V i < al
set_option maxRecDepth 100000 in
set_option maxHeartbeats 1600000 in
theorem refRightS_is (A : Option Addr) (n c : Nat) (V : Nat → Int) (al : Int) (B : Nat) (w : World) (hn : n ≤ maxLen) (ho : Its w B A n V) (r : Bool) (hr : r = true ↔ RightS V n al) :
    Calls Try.prog 10 #[.slice A n c, .int .i64 al] w fun e w' => e = .returned (.bool r) ∧ w = w' := by
  have HR := Lib.hid hr
  have HO := Lib.hid ho
  have hnl : n ≤ 9223372036854775807 := by unfold maxLen at hn; omega
  clear ho hn hr
  by_cases hal : 0 ≤ al ∧ al ≤ 4194304 ∧ n ≤ 4194304
  · obtain ⟨h1, h2, h3⟩ := hal
    have d1 : decide (al < 0) = false := decide_eq_false (by omega)
    have d2 : decide ((4194304 : Int) < al) = false := decide_eq_false (by omega)
    have d3 : decide ((4194304 : Int) < (n : Int)) = false := decide_eq_false (by omega)
    go_enter Try.func10, Try.ntmps10
    go_wp2_with fail
    go_loop [20] (fun v => ∃ i : Nat, i ≤ n ∧ v = .int .i64 (i : Int) ∧ Hid (∀ j, j < i → 0 ≤ V j ∧ V j < al)) (fun v => n - (intOf v).toNat)
    case atStart => exact ⟨0, Nat.zero_le _, rfl, Lib.hid (fun j hj => absurd hj (Nat.not_lt_zero j))⟩
    case round =>
      obtain ⟨i, hi, rfl, hall⟩ := hrel
      by_cases hlt : i < n
      · have hlti : (i : Int) < (n : Int) := by omega
        obtain ⟨ad, rfl, _, hc, hv1, hv2⟩ := HO.out i hlt
        obtain ⟨v, hv⟩ : ∃ v, V i = v := ⟨_, rfl⟩
        rw [hv] at hc hv1 hv2
        have HV := Lib.hid hv
        clear hv
        by_cases hok : 0 ≤ v ∧ v < al
        · have e1 : decide (v < 0) = false := decide_eq_false (by omega)
          have e2 : decide (al ≤ v) = false := decide_eq_false (by omega)
          go_wp2_with fail
          go_round
          case rel => exact ⟨i + 1, by omega, by go_num, Lib.hid (fun j hj => by
            by_cases e : j < i
            · exact hall.out j e
            · obtain rfl : j = i := by omega
              rw [HV.out]
              exact hok)⟩
          case measure => simp [intOf]; omega
        · have hbad : Hid (¬ RightS V n al) := Lib.hid (fun h => hok (by rw [← HV.out]; exact h.2 i hlt))
          have hcond : decide (v < 0) = true ∨ (decide (v < 0) = false ∧ decide (al ≤ v) = true) := by
            by_cases h0 : v < 0
            · exact .inl (decide_eq_true h0)
            · exact .inr ⟨decide_eq_false h0, decide_eq_true (by omega)⟩
          obtain rfl : r = false := by
            rcases r with _ | _
            · rfl
            · exact absurd (HR.out.1 rfl) hbad.out
          clear hok HR
          rcases hcond with e1 | ⟨e1, e2⟩
          all_goals
            go_wp2_with fail
            go_ret
            exact ⟨rfl, rfl⟩
      · obtain rfl : i = n := by omega
        obtain rfl : r = true := HR.out.2 ⟨⟨h1, h2, h3⟩, hall.out⟩
        go_wp2_with fail
        go_ret
        exact ⟨rfl, rfl⟩
  · have hbad : Hid (¬ RightS V n al) := Lib.hid (fun h => hal h.1)
    have hcond : decide (al < 0) = true ∨ (decide (al < 0) = false ∧ decide ((4194304 : Int) < al) = true) ∨ (decide (al < 0) = false ∧ decide ((4194304 : Int) < al) = false ∧ decide ((4194304 : Int) < (n : Int)) = true) := by
      by_cases h0 : al < 0
      · exact .inl (decide_eq_true h0)
      · by_cases h1 : (4194304 : Int) < al
        · exact .inr (.inl ⟨decide_eq_false h0, decide_eq_true h1⟩)
        · exact .inr (.inr ⟨decide_eq_false h0, decide_eq_false h1, decide_eq_true (by omega)⟩)
    obtain rfl : r = false := by
      rcases r with _ | _
      · rfl
      · exact absurd (HR.out.1 rfl) hbad.out
    clear hal HR
    rcases hcond with d1 | ⟨d1, d2⟩ | ⟨d1, d2, d3⟩
    all_goals
      go_enter Try.func10, Try.ntmps10
      go_wp2_with fail
      go_ret
      exact ⟨rfl, rfl⟩
theorem refRightS_any (A : Option Addr) (n c : Nat) (V : Nat → Int) (al : Int) (B : Nat) (w : World) (hn : n ≤ maxLen) (ho : Its w B A n V) :
    ∃ r : Bool, (r = true ↔ RightS V n al) ∧ Calls Try.prog 10 #[.slice A n c, .int .i64 al] w fun e w' => e = .returned (.bool r) ∧ w = w' := by
  by_cases h : RightS V n al
  · exact ⟨true, ⟨fun _ => h, fun _ => rfl⟩, refRightS_is A n c V al B w hn ho true ⟨fun _ => h, fun _ => rfl⟩⟩
  · exact ⟨false, ⟨fun e => (by cases e), fun e => absurd e h⟩, refRightS_is A n c V al B w hn ho false ⟨fun e => (by cases e), fun e => absurd e h⟩⟩
end Go.Proofs.Ytpcdbmkmpphhiaa
