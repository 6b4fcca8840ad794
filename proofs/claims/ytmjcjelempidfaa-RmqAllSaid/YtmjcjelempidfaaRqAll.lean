/- The walk of colophonlaw14.RmqAll, over what package rmq answers (RmqI). -/
import Derived.Test.YtmjcjelempidfaaRmqI
import Derived.Test.YtmjcjelempidfaaI8
import Derived.Test.YtmjcjelempidfaaIntPut
namespace Go.Proofs.Ytmjcjelempidfaa
open Go.RowKit
section
variable {At : Nat → World → Value → Nat → (Nat → Int) → Prop}
/-- a row of small numbers of the call's own. -/
def SmRow (w : World) (B : Nat) (s : Value) (m : Nat) : Prop := ∃ X : Nat → Int, w.ownsRow B 3 1 s m (icells X m) ∧ ∀ j, j < m → -300 ≤ X j ∧ X j ≤ 300

set_option maxRecDepth 100000 in
set_option maxHeartbeats 3200000 in
theorem rqAll_walk (I : RmqI At) (A : Option Addr) (n c : Nat) (V : Nat → Int) (x0 : Int) (w : World) (ho : It8R w A n c V) :
    Calls Try.prog 4 #[.slice A n c, .int .i64 x0] w fun e w' => e = .returned (.bool true) ∧ Below w.heap.size w w' := by
  have HI := Lib.hid I
  have HF := Lib.hid (rqfirst_any I w)
  have HO := Lib.hid ho
  have hnm : n ≤ maxLen := by have := ho.2.1; have := ho.2.2.1; omega
  have hnl : n ≤ 9223372036854775807 := by unfold maxLen at hnm; omega
  obtain ⟨k, hk, hk20⟩ := turn_w x0 20 (by decide) (by decide)
  have hk3 : wrap64 ((IntKind.u64.wrap x0).tmod 20) = (k : Int) := hk
  have hk4 : IntKind.i64.wrap (1 + (k : Int)) = 1 + (k : Int) := IntWalk.i64_in _ (by omega)
  have HK := Lib.hid hk3
  clear I ho hk
  go_enter Try.func4, Try.ntmps4
  go_wp2_with fail
  refine HF.out.mono ?_
  rintro e w0 ⟨rfl, hb0⟩
  have HO0 := Lib.hid (HO.out.below hb0)
  have HB0 := Lib.hid hb0
  have H0 : Hid (SmRow w0 w0.heap.size (.slice none 0 0) 0) := Lib.hid ⟨fun _ => 0, World.ownsRow_nil w0 _ _ _, fun j hj => absurd hj (Nat.not_lt_zero j)⟩
  have H1 : Hid (Below w0.heap.size w0 w0) := Lib.hid (Below.refl _ _)
  clear hb0 HF HO
  go_wp2_with fail
  rw [HK.out]
  clear hk3
  go_loopw [5, 20] (fun s t wr => ∃ i m : Nat, i ≤ k + 1 ∧ m ≤ 30 * i ∧ t = .int .i64 (i : Int) ∧ Hid (SmRow wr w0.heap.size s m) ∧ Hid (Below w0.heap.size w0 wr)) (fun _ t _ => k + 1 - (intOf t).toNat)
  case atStart => exact ⟨0, 0, Nat.zero_le _, Nat.le_refl _, rfl, H0, H1⟩
  case round =>
    clear H0 H1
    obtain ⟨i, m, hi, hm, rfl, hrow, hb⟩ := hrel
    by_cases hlt : i < k + 1
    · have hlti : (i : Int) < 1 + (k : Int) := by omega
      go_wp2_with fail
      rename World => wl
      go_loopw [5, 7] (fun s t wr => ∃ j m : Nat, j ≤ n ∧ j ≤ 30 ∧ m ≤ 30 * i + j ∧ t = .int .i64 (j : Int) ∧ Hid (SmRow wr w0.heap.size s m) ∧ Hid (Below w0.heap.size w0 wr)) (fun _ t _ => 30 - (intOf t).toNat)
      case atStart => exact ⟨0, m, Nat.zero_le _, Nat.zero_le _, by omega, rfl, hrow, hb⟩
      case round =>
        clear hrow hb hm
        obtain ⟨j, m, hjn, hj, hm, rfl, hrow, hb⟩ := hrel
        by_cases hc : j < n ∧ j < 30
        · obtain ⟨h1, h2⟩ := hc
          have g1 : decide ((j : Int) < (n : Int)) = true := decide_eq_true (by omega)
          have g2 : decide ((j : Int) < 30) = true := decide_eq_true (by omega)
          have hjn1 : (j : Int) < (n : Int) := by omega
          obtain ⟨ad, hA, _, cx, hv1, hv2⟩ := (HO0.out.below hb.out).2.2.2 j h1
          subst hA
          obtain ⟨y, hy⟩ : ∃ y, V j = y := ⟨_, rfl⟩
          rw [hy] at cx hv1 hv2
          obtain ⟨p, hp, hp2⟩ : ∃ p : Int, (i : Int).tmod 2 = p ∧ (p = 0 ∨ p = 1) := ⟨(i : Int).tmod 2, rfl, by rw [Int.tmod_eq_emod_of_nonneg (by omega)]; omega⟩
          have e1 : IntKind.i64.wrap (1 + p) = 1 + p := IntWalk.i64_in _ (by omega)
          obtain ⟨z, hz⟩ : ∃ z, y * (1 + p) = z := ⟨_, rfl⟩
          have hzb : -300 ≤ z ∧ z ≤ 300 := by
            rw [← hz]
            rcases hp2 with rfl | rfl <;> omega
          have e2 : IntKind.i64.wrap (y * (1 + p)) = z := by rw [hz]; exact IntWalk.i64_in _ (by omega)
          have e3 : IntKind.i64.wrap y = y := IntWalk.i64_in _ (by omega)
          obtain ⟨X, hX, hXb⟩ := hrow.out
          have HX := Lib.hid hX
          have HXb := Lib.hid hXb
          have hbs := hb.out.size
          have hm4 : m ≤ 4194304 := by omega
          clear hy hX hXb hrow hz hp2
          go_wp2_with (at_builtin; refine step_append_int rfl (.tmp 33) (.tmp 43) rfl rfl HX.out _ rfl hbs hm4 ?_; intro v4 w4 hown4 hb4)
          go_roundw
          case rel => exact ⟨j + 1, m + 1, by omega, by omega, by omega, by go_num, Lib.hid ⟨fun q => if q = m then z else X q, by
            rw [icells_snoc, if_pos rfl, icells_congr (U := fun q => if q = m then z else X q) (U' := X) (fun q hq => if_neg (by omega))]
            exact hown4.out, fun q hq => by
              show -300 ≤ (if q = m then z else X q) ∧ (if q = m then z else X q) ≤ 300
              by_cases e : q = m
              · rw [if_pos e]; exact hzb
              · rw [if_neg e]; exact HXb.out q (by omega)⟩, Lib.hid (hb.out.trans hb4)⟩
          case measure => simp [intOf]; omega
        · have hcond : (decide ((j : Int) < (n : Int)) = false ∧ ¬ (j : Int) < (n : Int) ∧ ¬ j < n) ∨ (decide ((j : Int) < (n : Int)) = true ∧ (j : Int) < (n : Int) ∧ j < n ∧ decide ((j : Int) < 30) = false ∧ ¬ (j : Int) < 30 ∧ ¬ j < 30) := by
            by_cases h : j < n
            · exact .inr ⟨decide_eq_true (by omega), by omega, h, decide_eq_false (by omega), by omega, by omega⟩
            · exact .inl ⟨decide_eq_false (by omega), by omega, h⟩
          have hm30 : m ≤ 30 * (i + 1) := by omega
          clear hc
          rcases hcond with ⟨g1, g2, g3⟩ | ⟨g1, g2, g3, g4, g5, g6⟩
          all_goals
            go_wp2_with fail
            go_roundw
            case rel => exact ⟨i + 1, m, by omega, hm30, by go_num, hrow, hb⟩
            case measure => simp [intOf]; omega
    · obtain rfl : i = k + 1 := by omega
      have hge : ¬ ((k + 1 : Nat) : Int) < 1 + (k : Int) := by omega
      have hN : m ≤ 600 := by omega
      obtain ⟨X, hX, hXb⟩ := hrow.out
      obtain ⟨AX, cX, rfl, hI⟩ := ItsR.of_own hX (fun j hj => by have := hXb j hj; omega)
      have HIX := Lib.hid hI
      rename World => w1
      have HB1 := Lib.hid (HB0.out.trans (hb.out.mono HB0.out.size))
      have HNw := Lib.hid (HI.out.new AX m cX X w1 (by omega) hI)
      clear hrow hX hXb hI hb hlt hk4
      go_wp2_with fail
      refine HNw.out.mono ?_
      rintro e w2 ⟨⟨pv, rfl, hAt⟩, hb2⟩
      obtain ⟨pa, rfl⟩ := HI.out.ptr hAt
      have HB2 := Lib.hid (HB1.out.trans (hb2.mono HB1.out.size))
      have HX2 := Lib.hid (HIX.out.below hb2)
      have HA2 := Lib.hid hAt
      obtain ⟨d, hd, hd2⟩ : ∃ d : Nat, (m : Int).tdiv 40 = (d : Int) ∧ d ≤ 600 := ⟨m / 40, by rw [Int.tdiv_eq_ediv_of_nonneg (by omega)]; omega, by omega⟩
      have ed : IntKind.i64.wrap (1 + (d : Int)) = 1 + (d : Int) := IntWalk.i64_in _ (by omega)
      clear hAt hb2 HNw HB1 HIX HB0 HO0
      go_wp2_with fail
      go_loopw [10] (fun s wr => ∃ a : Nat, a ≤ 1000 ∧ s = .int .i64 (a : Int) ∧ Hid (Below w.heap.size w wr) ∧ Hid (ItsR wr AX m cX X) ∧ Hid (At w1.heap.size wr (.pointer (some pa)) m X)) (fun s _ => 1000 - (intOf s).toNat)
      case atStart => exact ⟨0, Nat.zero_le _, rfl, HB2, HX2, HA2⟩
      case round =>
        clear HB2 HX2 HA2
        obtain ⟨a, ha, rfl, hB, hX, hA⟩ := hrel
        by_cases hc : a < m ∧ a < 300
        · obtain ⟨h1, h2⟩ := hc
          have g1 : decide ((a : Int) < (m : Int)) = true := decide_eq_true (by omega)
          have g2 : decide ((a : Int) < 300) = true := decide_eq_true (by omega)
          have wa := WalkArith.wf_i64 (show -9223372036854775808 ≤ (a : Int) ∧ (a : Int) ≤ 9223372036854775807 by omega)
          have e1 : IntKind.i64.wrap ((a : Int) + (1 + (d : Int))) = (a : Int) + (1 + (d : Int)) := IntWalk.i64_in _ (by omega)
          have H0 : Hid (a ≤ m → (-1 : Int) = lstR X (a : Int) (a : Int) m) := Lib.hid fun _ => (lstR_none fun j _ g => by omega).symm
          go_wp2_with fail
          go_loopw [11, 12] (fun s t wr => ∃ (b : Nat) (x : Int), a ≤ b ∧ b ≤ m + 1 ∧ t = .int .i64 (b : Int) ∧ s = .int .i64 x ∧ Hid (b ≤ m → x = lstR X (a : Int) (b : Int) m) ∧ Hid (Below w.heap.size w wr) ∧ Hid (ItsR wr AX m cX X) ∧ Hid (At w1.heap.size wr (.pointer (some pa)) m X)) (fun _ t _ => m + 1 - (intOf t).toNat)
          case atStart => exact ⟨a, -1, Nat.le_refl _, by omega, rfl, rfl, H0, hB, hX, hA⟩
          case round =>
            clear H0 hB hX hA
            obtain ⟨b, x, hab, hbm, rfl, rfl, hx, hB, hX, hA⟩ := hrel
            by_cases hle : b ≤ m
            · have hlei : (b : Int) ≤ (m : Int) := by omega
              have f1 : decide ((b : Int) ≤ (m : Int)) = true := decide_eq_true hlei
              have wb := WalkArith.wf_i64 (show -9223372036854775808 ≤ (b : Int) ∧ (b : Int) ≤ 9223372036854775807 by omega)
              have HLs := HI.out.least _ _ _ _ (a : Int) (b : Int) _ wa wb hA.out
              rw [← hx.out hle] at HLs
              have HLs := Lib.hid HLs
              have q1 : (x != x) = false := by simp
              go_wp2_with fail
              refine HLs.out.mono ?_
              rintro e w4 ⟨rfl, hb4⟩
              have HB4 : ∀ q, Hid (Below w.heap.size w (w4.drewN q)) := fun q => Lib.hid (below_drewN' (hB.out.trans (hb4.mono hB.out.size)) q)
              have HX4 : ∀ q, Hid (ItsR (w4.drewN q) AX m cX X) := fun q => Lib.hid ((hX.out.below hb4).below (below_drewN' (Below.refl _ _) q))
              have HA4 : ∀ q, Hid (At w1.heap.size (w4.drewN q) (.pointer (some pa)) m X) := fun q => Lib.hid (HI.out.keep (HI.out.keep hA.out hb4) (below_drewN' (Below.refl _ _) q))
              clear hB hX hA hb4 HLs q1
              by_cases hbm2 : b < m
              · have f2 : decide ((b : Int) < (m : Int)) = true := decide_eq_true (by omega)
                have hbmi : (b : Int) < (m : Int) := by omega
                obtain ⟨ad, hAd, _, _, _⟩ := (HX4 0).out.2.2.2 b hbm2
                subst hAd
                have cb : ∀ q, (w4.drewN q).cell? (ad.add b) = some (.int .i64 (X b)) := fun q => by
                  obtain ⟨ad', e1, _, e2, _⟩ := (HX4 q).out.2.2.2 b hbm2
                  cases e1
                  exact e2
                have hnx := lstR_longer (V := X) (a := (a : Int)) (n := m) (b := b) (by omega) hbm2
                rw [← hx.out hle] at hnx
                rcases lstR_is X (a : Int) (b : Int) m with ⟨r1, _⟩ | ⟨p, r1, r2⟩
                · obtain rfl : x = -1 := (hx.out hle).trans r1
                  have HN : Hid (b + 1 ≤ m → (b : Int) = lstR X (a : Int) ((b + 1 : Nat) : Int) m) := Lib.hid fun _ => by
                    rw [show ((b + 1 : Nat) : Int) = (b : Int) + 1 by omega, hnx, if_pos (.inl (by decide))]
                  generalize X b = y at cb
                  clear hnx hx r1
                  go_wp2_with fail
                  go_quiet (fail)
                  go_wp2_with fail
                  go_roundw
                  case rel => exact ⟨b + 1, _, by omega, by omega, by go_num, rfl, HN, HB4 _, HX4 _, HA4 _⟩
                  case measure => simp [intOf]; omega
                · obtain rfl : x = (p : Int) := (hx.out hle).trans r1
                  have hpm := r2.lt
                  have hpmi : (p : Int) < (m : Int) := by omega
                  have f3 : decide ((p : Int) < 0) = false := decide_eq_false (by omega)
                  have cp : ∀ q, (w4.drewN q).cell? (ad.add p) = some (.int .i64 (X p)) := fun q => by
                    obtain ⟨ad', e1, _, e2, _⟩ := (HX4 q).out.2.2.2 p hpm
                    cases e1
                    exact e2
                  rw [Int.toNat_natCast] at hnx
                  by_cases hv : X b < X p
                  · have HN : Hid (b + 1 ≤ m → (b : Int) = lstR X (a : Int) ((b + 1 : Nat) : Int) m) := Lib.hid fun _ => by
                      rw [show ((b + 1 : Nat) : Int) = (b : Int) + 1 by omega, hnx, if_pos (.inr hv)]
                    have f4 : decide (X b < X p) = true := decide_eq_true hv
                    generalize X b = y at cb f4 hv
                    generalize X p = z at cp f4 hv
                    clear hnx hx r1 r2
                    go_wp2_with fail
                    go_quiet (fail)
                    go_wp2_with fail
                    go_roundw
                    case rel => exact ⟨b + 1, _, by omega, by omega, by go_num, rfl, HN, HB4 _, HX4 _, HA4 _⟩
                    case measure => simp [intOf]; omega
                  · have HN : Hid (b + 1 ≤ m → (p : Int) = lstR X (a : Int) ((b + 1 : Nat) : Int) m) := Lib.hid fun _ => by
                      rw [show ((b + 1 : Nat) : Int) = (b : Int) + 1 by omega, hnx, if_neg (by omega)]
                    have f4 : decide (X b < X p) = false := decide_eq_false hv
                    generalize X b = y at cb f4 hv
                    generalize X p = z at cp f4 hv
                    clear hnx hx r1 r2
                    go_wp2_with fail
                    go_quiet (fail)
                    go_wp2_with fail
                    go_roundw
                    case rel => exact ⟨b + 1, _, by omega, by omega, by go_num, rfl, HN, HB4 _, HX4 _, HA4 _⟩
                    case measure => simp [intOf]; omega
              · have f2 : decide ((b : Int) < (m : Int)) = false := decide_eq_false (by omega)
                have hbmi : ¬ (b : Int) < (m : Int) := by omega
                have HN : Hid (b + 1 ≤ m → x = lstR X (a : Int) ((b + 1 : Nat) : Int) m) := Lib.hid fun h => by omega
                clear hx
                go_wp2_with fail
                go_quiet (fail)
                go_wp2_with fail
                go_roundw
                case rel => exact ⟨b + 1, x, by omega, by omega, by go_num, rfl, HN, HB4 _, HX4 _, HA4 _⟩
                case measure => simp [intOf]; omega
            · have hlei : ¬ (b : Int) ≤ (m : Int) := by omega
              have f1 : decide ((b : Int) ≤ (m : Int)) = false := decide_eq_false hlei
              go_wp2_with fail
              go_roundw
              case rel => exact ⟨a + (1 + d), by omega, by go_num, hB, hX, hA⟩
              case measure => simp [intOf]; omega
        · have hcond : (decide ((a : Int) < (m : Int)) = false ∧ ¬ (a : Int) < (m : Int) ∧ ¬ a < m) ∨ (decide ((a : Int) < (m : Int)) = true ∧ (a : Int) < (m : Int) ∧ a < m ∧ decide ((a : Int) < 300) = false ∧ ¬ (a : Int) < 300 ∧ ¬ a < 300) := by
            by_cases h : a < m
            · exact .inr ⟨decide_eq_true (by omega), by omega, h, decide_eq_false (by omega), by omega, by omega⟩
            · exact .inl ⟨decide_eq_false (by omega), by omega, h⟩
          clear hc
          rcases hcond with ⟨g1, g2, g3⟩ | ⟨g1, g2, g3, g4, g5, g6⟩
          all_goals
            go_wp2_with fail
            go_ret
            exact ⟨rfl, hB.out⟩
end
end Go.Proofs.Ytmjcjelempidfaa
