/- The document's functions of layer 12: Back, Ahead, Count by looking. -/
import Derived.Test.YtpdleigcdmgfmaaDocMath
import Derived.Test.YtpdleigcdmgfmaaSufTurn
import Derived.Test.YtpdleigcdmgfmaaListR
import Derived.Test.YtpdleigcdmgfmaaIntPut
import Derived.Deep.QuietTactic
import Derived.BigQuiet
namespace Go.Proofs.Ytpdleigcdmgfmaa
open Go.RowKit

set_option maxRecDepth 100000 in
set_option maxHeartbeats 3200000 in
theorem refBackD_any (A : Option Addr) (n c : Nat) (V : Nat → Int) (w : World) (hn : n ≤ 4194304) (ho : Its w w.heap.size A n V) :
    Calls Try.prog 17 #[.slice A n c] w fun e w' => ∃ u : Value, e = .returned u ∧ w'.ownsRow w.heap.size 3 1 u n (icells (lastD V) n) ∧ Below w.heap.size w w' := by
  have HO := Lib.hid ho
  clear ho
  go_enter Try.func17, Try.ntmps17
  go_wp2_with fail
  go_loopw [3, 8] (fun u v wr => ∃ i : Nat, i ≤ n ∧ v = .int .i64 (i : Int) ∧ Hid (wr.ownsRow w.heap.size 3 1 u i (icells (lastD V) i)) ∧ Hid (Below w.heap.size w wr)) (fun _ v _ => n - (intOf v).toNat)
  case atStart => exact ⟨0, Nat.zero_le _, rfl, Lib.hid (World.ownsRow_nil w _ _ _), Lib.hid (Below.refl _ _)⟩
  case round =>
    obtain ⟨i, hi, rfl, hrow, hb⟩ := hrel
    by_cases hlt : i < n
    · have hlti : (i : Int) < (n : Int) := by omega
      obtain ⟨z0, hz0⟩ : ∃ z0 : Int, z0 + 1 = (i : Int) := ⟨(i : Int) - 1, by omega⟩
      have w0 : IntKind.i64.wrap ((i : Int) - 1) = z0 := by rw [IntWalk.i64_in _ (by omega)]; omega
      have HZ := Lib.hid hz0
      clear hz0
      go_wp2_with fail
      rename World => w9
      go_loopw [5] (fun v wr => ∃ (m : Nat) (z : Int), m ≤ i ∧ z + 1 = (m : Int) ∧ v = .int .i64 z ∧ Hid (lastD V i = lookB V (V i) m) ∧ Hid (wr.ownsRow w.heap.size 3 1 u3 i (icells (lastD V) i)) ∧ Hid (Below w.heap.size w wr)) (fun v _ => (intOf v + 1).toNat)
      case atStart => exact ⟨i, z0, Nat.le_refl _, HZ.out, rfl, Lib.hid rfl, hrow, hb⟩
      case round =>
        clear hrow hb
        obtain ⟨m, z, hm, hz, rfl, hl, hrow, hb⟩ := hrel
        have fin : lastD V i = z → ∀ q, Hid ((wr.drewN q).ownsRow w.heap.size 3 1 u3 i (icells (lastD V) i) ∧ Below w.heap.size w (wr.drewN q) ∧ z = lastD V i) := fun e q => Lib.hid ⟨hrow.out, below_drewN' hb.out q, e.symm⟩
        have HFin := Lib.hid fin
        clear fin
        rcases m with _ | q
        · have hz1 : z = -1 := by omega
          subst hz1
          have HF := HFin.out (by rw [hl.out]; rfl)
          have g1 : decide ((0 : Int) ≤ -1) = false := by decide
          clear HFin hl hrow hb
          go_wp2_with fail
          go_quiet (fail)
          have HF := HF nq
          generalize wr.drewN nq = w3 at HF ⊢
          have hbs := HF.out.2.1.size
          have him : i ≤ 4194304 := by omega
          go_wp2_with (at_builtin; refine step_append_int rfl (.tmp 28) (.tmp 30) rfl rfl HF.out.1 _ rfl hbs him ?_; intro v4 w4 hown4 hb4)
          go_roundw
          case rel => exact ⟨i + 1, by omega, by go_num, Lib.hid (by
            rw [icells_snoc, ← HF.out.2.2]
            exact hown4.out), Lib.hid (HF.out.2.1.trans hb4)⟩
          case measure => simp [intOf]; omega
        · obtain rfl : z = (q : Int) := by omega
          have hqn : q < n := by omega
          have hqi : (q : Int) < (n : Int) := by omega
          obtain ⟨ad, rfl, _, c1, _⟩ := HO.out.below hb.out q hqn
          obtain ⟨ad', e, _, c2, _⟩ := HO.out.below hb.out i hlt
          cases e
          have g1 : decide ((0 : Int) ≤ (q : Int)) = true := by simp
          have g1' : (0 : Int) ≤ (q : Int) := by omega
          by_cases hx : V q = V i
          · have HF := HFin.out (by rw [hl.out, lookB_hit hx])
            rw [hx] at c1
            have g2 : (V i != V i) = false := by simp
            generalize V i = x at c1 c2 g2
            clear HFin hl hrow hb hx
            go_wp2_with fail
            go_quiet (fail)
            have HF := HF nq
            generalize wr.drewN nq = w3 at HF ⊢
            have hbs := HF.out.2.1.size
            have him : i ≤ 4194304 := by omega
            go_wp2_with (at_builtin; refine step_append_int rfl (.tmp 28) (.tmp 30) rfl rfl HF.out.1 _ rfl hbs him ?_; intro v4 w4 hown4 hb4)
            go_roundw
            case rel => exact ⟨i + 1, by omega, by go_num, Lib.hid (by
              rw [icells_snoc, ← HF.out.2.2]
              exact hown4.out), Lib.hid (HF.out.2.1.trans hb4)⟩
            case measure => simp [intOf]; omega
          · have HL2 : Hid (lastD V i = lookB V (V i) q) := Lib.hid (by rw [hl.out, lookB_miss hx])
            have HR2 : ∀ t, Hid ((wr.drewN t).ownsRow w.heap.size 3 1 u3 i (icells (lastD V) i)) := fun t => Lib.hid hrow.out
            have HB2 : ∀ t, Hid (Below w.heap.size w (wr.drewN t)) := fun t => Lib.hid (below_drewN' hb.out t)
            have g2 : (V q != V i) = true := by rw [bne_iff_ne]; exact hx
            obtain ⟨z2, hz2⟩ : ∃ z2 : Int, z2 + 1 = (q : Int) := ⟨(q : Int) - 1, by omega⟩
            have w2 : IntKind.i64.wrap ((q : Int) - 1) = z2 := by rw [IntWalk.i64_in _ (by omega)]; omega
            have HZ2 := Lib.hid hz2
            have hz3 : z2 < (q : Int) := by omega
            have hz4 : -1 ≤ z2 := by omega
            obtain ⟨x, hxx⟩ : ∃ x, V i = x := ⟨_, rfl⟩
            obtain ⟨y, hyy⟩ : ∃ y, V q = y := ⟨_, rfl⟩
            rw [hxx] at c2 g2 hx
            rw [hyy] at c1 g2 hx
            clear HFin hl hrow hb hz2 hxx hyy
            go_wp2_with fail
            go_quiet (fail)
            go_wp2_with fail
            go_roundw
            case rel => exact ⟨q, z2, by omega, HZ2.out, rfl, HL2, HR2 _, HB2 _⟩
            case measure => simp [intOf]; omega
    · obtain rfl : i = n := by omega
      have hge : ¬ (i : Int) < (i : Int) := by omega
      go_wp2_with fail
      go_ret
      exact ⟨_, rfl, hrow.out, hb.out⟩

set_option maxRecDepth 100000 in
set_option maxHeartbeats 3200000 in
theorem refAheadD_any (A : Option Addr) (n c : Nat) (V : Nat → Int) (w : World) (hn : n ≤ 4194304) (ho : Its w w.heap.size A n V) :
    Calls Try.prog 18 #[.slice A n c] w fun e w' => ∃ u : Value, e = .returned u ∧ w'.ownsRow w.heap.size 3 1 u n (icells (nextD V n) n) ∧ Below w.heap.size w w' := by
  have HO := Lib.hid ho
  clear ho
  go_enter Try.func18, Try.ntmps18
  go_wp2_with fail
  go_loopw [3, 8] (fun u v wr => ∃ i : Nat, i ≤ n ∧ v = .int .i64 (i : Int) ∧ Hid (wr.ownsRow w.heap.size 3 1 u i (icells (nextD V n) i)) ∧ Hid (Below w.heap.size w wr)) (fun _ v _ => n - (intOf v).toNat)
  case atStart => exact ⟨0, Nat.zero_le _, rfl, Lib.hid (World.ownsRow_nil w _ _ _), Lib.hid (Below.refl _ _)⟩
  case round =>
    obtain ⟨i, hi, rfl, hrow, hb⟩ := hrel
    by_cases hlt : i < n
    · have hlti : (i : Int) < (n : Int) := by omega
      have w0 : IntKind.i64.wrap ((i : Int) + 1) = ((i + 1 : Nat) : Int) := by rw [IntWalk.i64_in _ (by omega)]; omega
      go_wp2_with fail
      rename World => w9
      go_loopw [5] (fun v wr => ∃ p : Nat, i < p ∧ p ≤ n ∧ v = .int .i64 (p : Int) ∧ Hid (∀ j, i < j → j < p → V j ≠ V i) ∧ Hid (wr.ownsRow w.heap.size 3 1 u3 i (icells (nextD V n) i)) ∧ Hid (Below w.heap.size w wr)) (fun v _ => n - (intOf v).toNat)
      case atStart => exact ⟨i + 1, by omega, by omega, by go_num, Lib.hid fun j h1 h2 => by omega, hrow, hb⟩
      case round =>
        clear hrow hb
        obtain ⟨p, hip, hpn, rfl, hl, hrow, hb⟩ := hrel
        have fin : nextD V n i = (p : Int) → ∀ q, Hid ((wr.drewN q).ownsRow w.heap.size 3 1 u3 i (icells (nextD V n) i) ∧ Below w.heap.size w (wr.drewN q) ∧ (p : Int) = nextD V n i) := fun e q => Lib.hid ⟨hrow.out, below_drewN' hb.out q, e.symm⟩
        have HFin := Lib.hid fin
        clear fin
        by_cases hpl : p < n
        · have hpi : (p : Int) < (n : Int) := by omega
          obtain ⟨ad, rfl, _, c1, _⟩ := HO.out.below hb.out p hpl
          obtain ⟨ad', e, _, c2, _⟩ := HO.out.below hb.out i hlt
          cases e
          have g1 : decide ((p : Int) < (n : Int)) = true := decide_eq_true hpi
          by_cases hx : V p = V i
          · have HF := HFin.out (nextD_at hlt hip hpn hl.out (fun _ => hx))
            rw [hx] at c1
            have g2 : (V i != V i) = false := by simp
            generalize V i = x at c1 c2 g2
            clear HFin hl hrow hb hx
            go_wp2_with fail
            go_quiet (fail)
            have HF := HF nq
            generalize wr.drewN nq = w3 at HF ⊢
            have hbs := HF.out.2.1.size
            have him : i ≤ 4194304 := by omega
            go_wp2_with (at_builtin; refine step_append_int rfl (.tmp 30) (.tmp 32) rfl rfl HF.out.1 _ rfl hbs him ?_; intro v4 w4 hown4 hb4)
            go_roundw
            case rel => exact ⟨i + 1, by omega, by go_num, Lib.hid (by
              rw [icells_snoc, ← HF.out.2.2]
              exact hown4.out), Lib.hid (HF.out.2.1.trans hb4)⟩
            case measure => simp [intOf]; omega
          · have HL2 : Hid (∀ j, i < j → j < p + 1 → V j ≠ V i) := Lib.hid fun j h1 h2 => by
              by_cases e : j = p
              · rw [e]; exact hx
              · exact hl.out j h1 (by omega)
            have HR2 : ∀ t, Hid ((wr.drewN t).ownsRow w.heap.size 3 1 u3 i (icells (nextD V n) i)) := fun t => Lib.hid hrow.out
            have HB2 : ∀ t, Hid (Below w.heap.size w (wr.drewN t)) := fun t => Lib.hid (below_drewN' hb.out t)
            have g2 : (V p != V i) = true := by rw [bne_iff_ne]; exact hx
            obtain ⟨x, hxx⟩ : ∃ x, V i = x := ⟨_, rfl⟩
            obtain ⟨y, hyy⟩ : ∃ y, V p = y := ⟨_, rfl⟩
            rw [hxx] at c2 g2 hx
            rw [hyy] at c1 g2 hx
            clear HFin hl hrow hb hxx hyy
            go_wp2_with fail
            go_quiet (fail)
            go_wp2_with fail
            go_roundw
            case rel => exact ⟨p + 1, by omega, by omega, by go_num, HL2, HR2 _, HB2 _⟩
            case measure => simp [intOf]; omega
        · have hpe : p = n := by omega
          have g1 : decide ((p : Int) < (n : Int)) = false := decide_eq_false (by omega)
          have g1' : ¬ (p : Int) < (n : Int) := by omega
          have HF := HFin.out (nextD_at hlt hip hpn hl.out (fun g => absurd g hpl))
          clear HFin hl hrow hb hpe
          go_wp2_with fail
          go_quiet (fail)
          have HF := HF nq
          generalize wr.drewN nq = w3 at HF ⊢
          have hbs := HF.out.2.1.size
          have him : i ≤ 4194304 := by omega
          go_wp2_with (at_builtin; refine step_append_int rfl (.tmp 30) (.tmp 32) rfl rfl HF.out.1 _ rfl hbs him ?_; intro v4 w4 hown4 hb4)
          go_roundw
          case rel => exact ⟨i + 1, by omega, by go_num, Lib.hid (by
            rw [icells_snoc, ← HF.out.2.2]
            exact hown4.out), Lib.hid (HF.out.2.1.trans hb4)⟩
          case measure => simp [intOf]; omega
    · obtain rfl : i = n := by omega
      have hge : ¬ (i : Int) < (i : Int) := by omega
      go_wp2_with fail
      go_ret
      exact ⟨_, rfl, hrow.out, hb.out⟩

set_option maxRecDepth 100000 in
set_option maxHeartbeats 1600000 in
theorem refCountD_any (A : Option Addr) (n c : Nat) (V : Nat → Int) (d a b : Int) (B : Nat) (w : World) (hn : n ≤ 4194304) (ho : Its w B A n V) :
    Calls Try.prog 20 #[.slice A n c, .int .i64 d, .int .i64 a, .int .i64 b] w fun e w' => e = .returned (.int .i64 ((cntR V d a b n : Nat) : Int)) ∧ w = w' := by
  have HO := Lib.hid ho
  clear ho
  obtain ⟨r, hr⟩ : ∃ r, cntR V d a b n = r := ⟨_, rfl⟩
  rw [hr]
  have HR := Lib.hid hr
  clear hr
  go_enter Try.func20, Try.ntmps20
  go_wp2_with fail
  go_loop [9, 14] (fun u v => ∃ i m : Nat, i ≤ n ∧ m ≤ i ∧ u = .int .i64 (m : Int) ∧ v = .int .i64 (i : Int) ∧ Hid (m = cntR V d a b i)) (fun _ v => n - (intOf v).toNat)
  case atStart => exact ⟨0, 0, Nat.zero_le _, Nat.le_refl _, rfl, rfl, Lib.hid rfl⟩
  case round =>
    obtain ⟨i, m, hi, hmi, rfl, rfl, hm⟩ := hrel
    by_cases hlt : i < n
    · have hlti : (i : Int) < (n : Int) := by omega
      obtain ⟨ad, rfl, _, c1, _⟩ := HO.out i hlt
      by_cases hh : V i = d ∧ a ≤ (i : Int) ∧ (i : Int) < b
      · obtain ⟨h1, h2, h3⟩ := hh
        have HM : Hid (m + 1 = cntR V d a b (i + 1)) := Lib.hid (by rw [cntR_hit ⟨h1, h2, h3⟩, hm.out])
        rw [h1] at c1
        have g1 : (d == d) = true := by rw [beq_iff_eq]
        have g2 : decide (a ≤ (i : Int)) = true := decide_eq_true h2
        have g3 : decide ((i : Int) < b) = true := decide_eq_true h3
        clear hm h1
        go_wp2_with fail
        go_round
        case rel => exact ⟨i + 1, m + 1, by omega, by omega, by go_num, by go_num, HM⟩
        case measure => simp [intOf]; omega
      · have HM : Hid (m = cntR V d a b (i + 1)) := Lib.hid (by rw [cntR_miss hh, hm.out])
        by_cases h1 : V i = d
        · rw [h1] at c1
          have g1 : (d == d) = true := by rw [beq_iff_eq]
          by_cases h2 : a ≤ (i : Int)
          · have h3 : ¬ (i : Int) < b := fun h3 => hh ⟨h1, h2, h3⟩
            have g2 : decide (a ≤ (i : Int)) = true := decide_eq_true h2
            have g3 : decide ((i : Int) < b) = false := decide_eq_false h3
            clear hm h1 hh
            go_wp2_with fail
            go_round
            case rel => exact ⟨i + 1, m, by omega, by omega, rfl, by go_num, HM⟩
            case measure => simp [intOf]; omega
          · have g2 : decide (a ≤ (i : Int)) = false := decide_eq_false h2
            clear hm h1 hh
            go_wp2_with fail
            go_round
            case rel => exact ⟨i + 1, m, by omega, by omega, rfl, by go_num, HM⟩
            case measure => simp [intOf]; omega
        · have g1 : (V i == d) = false := by rw [beq_eq_false_iff_ne]; exact h1
          generalize V i = x at c1 h1 g1
          clear hm hh
          go_wp2_with fail
          go_round
          case rel => exact ⟨i + 1, m, by omega, by omega, rfl, by go_num, HM⟩
          case measure => simp [intOf]; omega
    · obtain rfl : i = n := by omega
      have hge : ¬ (i : Int) < (i : Int) := by omega
      obtain rfl : m = r := by rw [hm.out, HR.out]
      clear hm
      go_wp2_with fail
      go_ret
      exact ⟨rfl, rfl⟩
end Go.Proofs.Ytpdleigcdmgfmaa
