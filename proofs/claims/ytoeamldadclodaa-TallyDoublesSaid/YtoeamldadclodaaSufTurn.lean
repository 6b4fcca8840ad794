/- The document's functions of layer 9: Less, Right. The document's Array of layer 9: by putting each suffix among the others. The document's Turned of layer 9. -/
import Derived.Test.YtoeamldadclodaaSufMath
import Derived.Test.YtoeamldadclodaaIntPut
import Derived.Test.YtoeamldadclodaaCrc
import Derived.Deep.QuietTactic
import Derived.BigQuiet
import Derived.Lib.Hide
namespace Go.Proofs.Ytoeamldadclodaa
open Go.RowKit

set_option maxRecDepth 100000 in
set_option maxHeartbeats 1600000 in
theorem refLess_any (A : Option Addr) (n c : Nat) (V : Nat → Int) (a b B : Nat) (w : World) (hn : n ≤ maxLen) (ha : a ≤ n) (hb : b ≤ n) (ho : ∀ q, Its (w.drewN q) B A n V) :
    Calls Try.prog 38 #[.slice A n c, .int .i64 (a : Int), .int .i64 (b : Int)] w fun e w' => ∃ r : Bool, e = .returned (.bool r) ∧ (r = true ↔ SLess V n a b) ∧ ∃ q, w' = w.drewN q := by
  have HO := Lib.hid ho
  have hnl : n ≤ 9223372036854775807 := by unfold maxLen at hn; omega
  clear ho hn
  go_enter Try.func38, Try.ntmps38
  go_wp2_with fail
  go_loopw [1, 2] (fun s1 s2 wr => ∃ x y q : Nat, x ≤ n ∧ y ≤ n ∧ s1 = .int .i64 (x : Int) ∧ s2 = .int .i64 (y : Int) ∧ Hid (SLess V n a b ↔ SLess V n x y) ∧ wr = w.drewN q) (fun s1 _ _ => n - (intOf s1).toNat)
  case atStart => exact ⟨a, b, 0, ha, hb, rfl, rfl, Lib.hid Iff.rfl, rfl⟩
  case round =>
    obtain ⟨x, y, q, hx, hy, rfl, rfl, HS, rfl⟩ := hrel
    by_cases hxy : x < n ∧ y < n
    · obtain ⟨hx1, hy1⟩ := hxy
      have dx : decide ((x : Int) < (n : Int)) = true := decide_eq_true (by omega)
      have dy : decide ((y : Int) < (n : Int)) = true := decide_eq_true (by omega)
      have hxi : (x : Int) < (n : Int) := by omega
      have hyi : (y : Int) < (n : Int) := by omega
      have hcx : ∃ ad : Addr, A = some ad := (HO.out 0 x hx1).elim fun ad h => ⟨ad, h.1⟩
      obtain ⟨ad, rfl⟩ := hcx
      have hc1 : ∀ r, (w.drewN r).cell? (ad.add x) = some (.int .i64 (V x)) := fun r => by
        obtain ⟨ad', e, _, h, _⟩ := HO.out r x hx1
        cases e
        exact h
      have hc2 : ∀ r, (w.drewN r).cell? (ad.add y) = some (.int .i64 (V y)) := fun r => by
        obtain ⟨ad', e, _, h, _⟩ := HO.out r y hy1
        cases e
        exact h
      have hstep := Lib.hid (sless_step (V := V) hx1 hy1)
      have hnow := Lib.hid (sless_now (V := V) hx1 hy1)
      generalize V x = vx at hc1 hstep hnow
      generalize V y = vy at hc2 hstep hnow
      by_cases he : vx = vy
      · subst he
        have hne : (vx != vx) = false := by simp
        go_wp2_with fail
        go_quiet (fail)
        go_wp2_with fail
        go_roundw
        case rel => exact ⟨x + 1, y + 1, _, by omega, by omega, by go_num, by go_num, Lib.hid (HS.out.trans (hstep.out trivial)), rfl⟩
        case measure => simp [intOf]; omega
      · have hne : (vx != vy) = true := by simp [he]
        have HE := Lib.hid he
        clear he
        go_wp2_with fail
        go_quiet (fail)
        go_wp2_with fail
        go_quiet (fail)
        go_wp2_with fail
        go_ret
        exact ⟨_, rfl, by rw [decide_eq_true_iff, HS.out, hnow.out HE.out], _, (congrArg (World.drewN · _) (World.drewN_drewN _ _ _)).trans (World.drewN_drewN _ _ _)⟩
    · have HE := Lib.hid (sless_end (V := V) hx hxy)
      by_cases hx1 : x < n
      · have dx : decide ((x : Int) < (n : Int)) = true := decide_eq_true (by omega)
        have dy : decide ((y : Int) < (n : Int)) = false := decide_eq_false (by omega)
        have dz : ((x : Int) == (n : Int)) = false := by rw [beq_eq_false_iff_ne]; omega
        go_wp2_with fail
        go_ret
        exact ⟨false, rfl, by rw [HS.out, HE.out]; simp; omega, q, rfl⟩
      · have dx : decide ((x : Int) < (n : Int)) = false := decide_eq_false (by omega)
        have dz : ((x : Int) == (n : Int)) = true := by rw [beq_iff_eq]; omega
        go_wp2_with fail
        go_ret
        exact ⟨_, rfl, by rw [HS.out, HE.out]; simp; omega, q, rfl⟩
theorem refLess_is (A : Option Addr) (n c : Nat) (V : Nat → Int) (a b B : Nat) (w : World) (hn : n ≤ maxLen) (ha : a ≤ n) (hb : b ≤ n) (ho : Its w B A n V) (r : Bool) (hr : r = true ↔ SLess V n a b) :
    Calls Try.prog 38 #[.slice A n c, .int .i64 (a : Int), .int .i64 (b : Int)] w fun e w' => e = .returned (.bool r) ∧ Below w.heap.size w w' := by
  refine (refLess_any A n c V a b B w hn ha hb (fun q => ho.below (below_drewN' (Below.refl _ _) q))).mono ?_
  rintro e w' ⟨r', rfl, hr', q, rfl⟩
  refine ⟨?_, below_drewN' (Below.refl _ _) q⟩
  have : r' = r := by
    rcases r with _ | _ <;> rcases r' with _ | _
    · rfl
    · exact absurd (hr.2 (hr'.1 rfl)) (by simp)
    · exact absurd (hr'.2 (hr.1 rfl)) (by simp)
    · rfl
  rw [this]

/-- are all numbers below an alphabet? -/
def RightS (V : Nat → Int) (n : Nat) (al : Int) : Prop := (0 ≤ al ∧ al ≤ 4194304 ∧ n ≤ 4194304) ∧ ∀ i, i < n → 0 ≤ V i ∧ V i < al
end Go.Proofs.Ytoeamldadclodaa

namespace Go.Proofs.Ytoeamldadclodaa
open Go.RowKit

/-- s: the places below p, the least suffix's first. -/
def IsOrd (V : Nat → Int) (n p : Nat) (s : Nat → Nat) : Prop := (∀ i, i < p → s i < p) ∧ ∀ i j, i < j → j < p → SLess V n (s i) (s j)
/-- p put at the place at. -/
def putAt (s : Nat → Nat) (p at_ : Nat) : Nat → Nat := fun j => if at_ < j then s (j - 1) else if j = at_ then p else s j
theorem IsOrd.put {V : Nat → Int} {n p at_ : Nat} {s : Nat → Nat} (h : IsOrd V n p s) (hp : p < n) (hat : at_ ≤ p) (h1 : ∀ j, j < at_ → SLess V n (s j) p) (h2 : at_ < p → ¬ SLess V n (s at_) p) : IsOrd V n (p + 1) (putAt s p at_) := by
  have h3 : ∀ j, at_ ≤ j → j < p → SLess V n p (s j) := fun j hj hjp => by
    have hsa := h.1 at_ (by omega)
    have h4 : SLess V n p (s at_) := (sless_or (by omega) (by omega) (by omega)).resolve_right (h2 (by omega))
    by_cases e : j = at_
    · rw [e]; exact h4
    · exact sless_trans h4 (h.2 at_ j (by omega) hjp)
  refine ⟨fun i hi => ?_, fun i j hij hj => ?_⟩
  · unfold putAt
    split
    · have := h.1 (i - 1) (by omega)
      omega
    · split
      · omega
      · have := h.1 i (by omega)
        omega
  · unfold putAt
    split
    · rw [if_pos (by omega)]
      exact h.2 _ _ (by omega) (by omega)
    · split
      · rw [if_pos (by omega)]
        exact h3 _ (by omega) (by omega)
      · split
        · by_cases e : i < j - 1
          · exact h.2 _ _ e (by omega)
          · have hji : j - 1 = i := by omega
            omega
        · split
          · exact h1 _ (by omega)
          · exact h.2 _ _ hij (by omega)
/-- the row while numbers are moved up. -/
def insF (s : Nat → Nat) (p i : Nat) : Nat → Int := fun j => if i < j then ((s (j - 1) : Nat) : Int) else if j = p then 0 else ((s j : Nat) : Int)
theorem insF_start (s : Nat → Nat) (p : Nat) : icells (fun i => ((s i : Nat) : Int)) p ++ [.int .i64 0] = icells (insF s p p) (p + 1) := by
  rw [icells_snoc]
  congr 1
  · refine icells_congr fun j hj => ?_
    unfold insF
    rw [if_neg (by omega), if_neg (by omega)]
  · unfold insF
    rw [if_neg (by omega), if_pos rfl]
theorem insF_step (s : Nat → Nat) {p i : Nat} (_hi : i < p) : icells (fun j => if j = i + 1 then ((s i : Nat) : Int) else insF s p (i + 1) j) (p + 1) = icells (insF s p i) (p + 1) := by
  refine icells_congr fun j hj => ?_
  show (if j = i + 1 then ((s i : Nat) : Int) else insF s p (i + 1) j) = insF s p i j
  unfold insF
  by_cases e : j = i + 1
  · rw [if_pos e, if_pos (by omega), show j - 1 = i by omega]
  · rw [if_neg e]
    by_cases h1 : i + 1 < j
    · rw [if_pos h1, if_pos (by omega)]
    · rw [if_neg h1, if_neg (show ¬ i < j by omega)]
theorem insF_at (s : Nat → Nat) {p i : Nat} (hi : i < p) : insF s p (i + 1) i = ((s i : Nat) : Int) := by
  unfold insF
  rw [if_neg (by omega), if_neg (by omega)]
theorem insF_end (s : Nat → Nat) {p at_ : Nat} (hat : at_ ≤ p) : icells (fun j => if j = at_ then (p : Int) else insF s p at_ j) (p + 1) = icells (fun j => ((putAt s p at_ j : Nat) : Int)) (p + 1) := by
  refine icells_congr fun j hj => ?_
  show (if j = at_ then (p : Int) else insF s p at_ j) = ((putAt s p at_ j : Nat) : Int)
  unfold insF putAt
  by_cases e : j = at_
  · rw [if_pos e, if_neg (by omega), if_pos e]
  · rw [if_neg e]
    by_cases h1 : at_ < j
    · rw [if_pos h1, if_pos h1]
    · rw [if_neg h1, if_neg h1, if_neg (by omega), if_neg e]

set_option maxRecDepth 100000 in
set_option maxHeartbeats 3200000 in
theorem refArrayS_any (A : Option Addr) (n c : Nat) (V : Nat → Int) (w : World) (hn : n ≤ 4194303) (ho : Its w w.heap.size A n V) :
    Calls Try.prog 22 #[.slice A n c] w fun e w' => ∃ (u : Value) (s : Nat → Nat), e = .returned u ∧ IsSA V n s ∧ w'.ownsRow w.heap.size 3 1 u n (icells (fun i => ((s i : Nat) : Int)) n) ∧ Below w.heap.size w w' := by
  have HO := Lib.hid ho
  have HLs : Hid (∀ (W : World) (a b : Nat) (r : Bool), Below w.heap.size w W → a ≤ n → b ≤ n → (r = true ↔ SLess V n a b) → Hid (Calls Try.prog 38 #[.slice A n c, .int .i64 (a : Int), .int .i64 (b : Int)] W fun e w' => e = .returned (.bool r) ∧ Below W.heap.size W w')) := Lib.hid fun W a b r hW ha hb hr => Lib.hid (refLess_is A n c V a b w.heap.size W (by unfold maxLen; omega) ha hb (ho.below hW) r hr)
  clear ho
  go_enter Try.func22, Try.ntmps22
  go_wp2_with fail
  go_loopw [3, 9] (fun u v wr => ∃ (p : Nat) (s : Nat → Nat), p ≤ n ∧ v = .int .i64 (p : Int) ∧ Hid (IsOrd V n p s) ∧ Hid (wr.ownsRow w.heap.size 3 1 u p (icells (fun i => ((s i : Nat) : Int)) p)) ∧ Below w.heap.size w wr) (fun _ v _ => n - (intOf v).toNat)
  case atStart => exact ⟨0, fun _ => 0, Nat.zero_le _, rfl, Lib.hid ⟨fun i hi => absurd hi (Nat.not_lt_zero i), fun i j _ hj => absurd hj (Nat.not_lt_zero j)⟩, Lib.hid (World.ownsRow_nil w _ _ _), Below.refl _ _⟩
  case round =>
    obtain ⟨p, s, hp, rfl, HOrd, hrow, hb⟩ := hrel
    have hbs := hb.size
    by_cases hlt : p < n
    · have hlti : (p : Int) < (n : Int) := by omega
      obtain ⟨O, co, hO⟩ : ∃ O co, u3 = .slice O p co := by
        rcases hrow.out.2 with ⟨e, h0⟩ | ⟨g', cap, cur, e, _⟩
        · exact ⟨none, 0, by rw [e, h0]⟩
        · exact ⟨_, cap, e⟩
      subst hO
      have hco := owns_room hrow.out
      have hcol := hco.1
      have hcom : co ≤ 9223372036854775807 := by have := hco.2; unfold maxLen at this; omega
      clear hco
      go_wp2_with fail
      go_loopw [5] (fun v wy => ∃ at_ : Nat, at_ ≤ p ∧ v = .int .i64 (at_ : Int) ∧ Hid (∀ j, j < at_ → SLess V n (s j) p) ∧ Below wr.heap.size wr wy) (fun v _ => p - (intOf v).toNat)
      case atStart => exact ⟨0, Nat.zero_le _, rfl, Lib.hid (fun j hj => absurd hj (Nat.not_lt_zero j)), Below.refl _ _⟩
      case round =>
        rename World => wy
        obtain ⟨at_, hat, rfl, hall, hby⟩ := hrel
        have hBy := hb.trans (hby.mono hbs)
        have hrowy := Lib.hid (ownsRow_keep hrow.out hby)
        by_cases hls : at_ < p ∧ SLess V n (s at_) p
        · obtain ⟨hap, hls⟩ := hls
          have hapi : (at_ : Int) < (p : Int) := by omega
          have dap : decide ((at_ : Int) < (p : Int)) = true := decide_eq_true hapi
          obtain ⟨g, c', e, _, _, _, _⟩ := owns_some hrow.out (by omega)
          cases e
          have hsa := HOrd.out.1 at_ hap
          have hcell : wy.cell? ⟨g, at_, none⟩ = some (.int .i64 ((s at_ : Nat) : Int)) := (hrowy.out.cellAt at_ (by omega)).trans (icells_at _ _ _ hap)
          have HL := HLs.out wy (s at_) p true hBy (by omega) (by omega) ⟨fun _ => hls, fun _ => rfl⟩
          have HS := Lib.hid hls
          clear hls hsa
          generalize s at_ = sv at hcell HL
          go_wp2_with (go_at_call 38; (with_reducible refine HL.out.mono ?_); rintro e wz ⟨rfl, hbz⟩)
          go_roundw
          case rel => exact ⟨at_ + 1, by omega, by go_num, Lib.hid (fun j hj => by
            by_cases e : j < at_
            · exact hall.out j e
            · obtain rfl : j = at_ := by omega
              exact HS.out), hby.trans (hbz.mono hby.size)⟩
          case measure => simp [intOf]; omega
        · have hdone : Hid (at_ < p → ¬ SLess V n (s at_) p) := Lib.hid (fun h1 h2 => hls ⟨h1, h2⟩)
          have hpm : p ≤ 4194304 := by omega
          rcases Nat.lt_or_eq_of_le hat with hap | hap
          · have hapi : (at_ : Int) < (p : Int) := by omega
            have dap : decide ((at_ : Int) < (p : Int)) = true := decide_eq_true hapi
            obtain ⟨g, c', e, _, _, _, _⟩ := owns_some hrow.out (by omega)
            cases e
            have hsa := HOrd.out.1 at_ hap
            have hcell : wy.cell? ⟨g, at_, none⟩ = some (.int .i64 ((s at_ : Nat) : Int)) := (hrowy.out.cellAt at_ (by omega)).trans (icells_at _ _ _ hap)
            have HL := HLs.out wy (s at_) p false hBy (by omega) (by omega) ⟨fun e => (by cases e), fun h => absurd h (hdone.out hap)⟩
            clear hls hsa
            generalize s at_ = sv at hcell HL
            go_wp2_with (first
              | (go_at_call 38; (with_reducible refine HL.out.mono ?_); rintro e wz ⟨rfl, hbz⟩; have hBz := hBy.trans (hbz.mono hBy.size); have hrowz := Lib.hid (ownsRow_keep hrowy.out hbz); have hsz := hBz.size)
              | (at_builtin; refine step_append_int rfl (.tmp 27) (.tmp 28) rfl rfl hrowz.out 0 rfl hsz hpm ?_; intro v4 w4 hown4 hb4; rw [insF_start] at hown4; obtain ⟨g4, c4, rfl, hg4, hl4, hc4, hm4⟩ := owns_some hown4.out (Nat.succ_pos p)))
            clear hbz HL hcell dap hapi
            have hB4 := hBz.trans hb4
            have hcm4 : c4 ≤ 9223372036854775807 := by unfold maxLen at hm4; omega
            have HOwn4 := hown4
            clear hm4 hrowz hBz hb4 hsz hown4
            rename World => w4
            go_loopw [6] (fun v wz => ∃ i : Nat, at_ ≤ i ∧ i ≤ p ∧ v = .int .i64 (i : Int) ∧ Hid (wz.ownsRow w.heap.size 3 1 (.slice (some ⟨g4, 0, none⟩) (p + 1) c4) (p + 1) (icells (insF s p i) (p + 1))) ∧ Below w.heap.size w wz) (fun v _ => (intOf v).toNat)
            case atStart => exact ⟨p, hat, Nat.le_refl _, rfl, HOwn4, hB4⟩
            case round =>
              rename World => wz
              obtain ⟨i, hi1, hi2, rfl, hrz, hbz⟩ := hrel
              by_cases hia : at_ < i
              · obtain ⟨i', rfl⟩ : ∃ i', i = i' + 1 := ⟨i - 1, by omega⟩
                have hia2 : (at_ : Int) < ((i' : Int) + 1) := by omega
                have hc1 : wz.cell? ⟨g4, i', none⟩ = some (.int .i64 ((s i' : Nat) : Int)) := (hrz.out.cellAt i' (by omega)).trans ((icells_at _ _ _ (by omega)).trans (by rw [insF_at s (by omega)]))
                have hc2 : wz.cell? ⟨g4, i' + 1, none⟩ = some (.int .i64 (insF s p (i' + 1) (i' + 1))) := (hrz.out.cellAt (i' + 1) (by omega)).trans (icells_at _ _ _ (by omega))
                have hf2 := owns_free hrz.out (i' + 1)
                have hlt1 : (i' : Int) < (p : Int) + 1 := by omega
                have hlt2 : (i' : Int) + 1 < (p : Int) + 1 := by omega
                have hput := owns_put hrz.out (i' + 1) (.int .i64 ((s i' : Nat) : Int))
                rw [icells_put, insF_step s (show i' < p by omega)] at hput
                have HPut := Lib.hid hput
                have hbp : Below w.heap.size w (wz.setCell ⟨g4, i' + 1, none⟩ (.int .i64 ((s i' : Nat) : Int))) := hbz.setCell (p := ⟨g4, i' + 1, none⟩) hg4 _
                have HBp := Lib.hid hbp
                clear hput hbp
                go_wp2_with fail
                go_roundw
                case rel => exact ⟨i', by omega, by omega, by trivial, HPut, HBp.out⟩
                case measure => simp [intOf]
              · obtain rfl : i = at_ := by omega
                have hia2 : decide ((i : Int) < (i : Int)) = false := decide_eq_false (by omega)
                have hc2 : wz.cell? ⟨g4, i, none⟩ = some (.int .i64 (insF s p i i)) := (hrz.out.cellAt i (by omega)).trans (icells_at _ _ _ (by omega))
                have hf2 := owns_free hrz.out i
                have hlt2 : (i : Int) < (p : Int) + 1 := by omega
                have hput := owns_put hrz.out i (.int .i64 (p : Int))
                rw [icells_put, insF_end s hi2] at hput
                have HPut := Lib.hid hput
                have hbp : Below w.heap.size w (wz.setCell ⟨g4, i, none⟩ (.int .i64 (p : Int))) := hbz.setCell (p := ⟨g4, i, none⟩) hg4 _
                have HBp := Lib.hid hbp
                clear hput hbp
                go_wp2_with fail
                go_roundw
                case rel => exact ⟨p + 1, putAt s p i, by omega, by go_num, Lib.hid (HOrd.out.put hlt hi2 hall.out hdone.out), HPut, HBp.out⟩
                case measure => simp [intOf]; omega
          · have dap : decide ((at_ : Int) < (p : Int)) = false := decide_eq_false (by omega)
            have hnl : ¬ (at_ : Int) < (p : Int) := by omega
            have hnl2 : ¬ at_ < p := by omega
            have dap2 : decide (at_ < p) = false := decide_eq_false hnl2
            have hBz := hBy
            have hrowz := hrowy
            have hsz := hBz.size
            clear hls hap
            go_wp2_with (at_builtin; refine step_append_int rfl (.tmp 27) (.tmp 28) rfl rfl hrowz.out 0 rfl hsz hpm ?_; intro v4 w4 hown4 hb4; rw [insF_start] at hown4; obtain ⟨g4, c4, rfl, hg4, hl4, hc4, hm4⟩ := owns_some hown4.out (Nat.succ_pos p))
            clear dap dap2 hnl hnl2
            have hB4 := hBz.trans hb4
            have hcm4 : c4 ≤ 9223372036854775807 := by unfold maxLen at hm4; omega
            have HOwn4 := hown4
            clear hm4 hrowz hBz hb4 hsz hown4
            rename World => w4
            go_loopw [6] (fun v wz => ∃ i : Nat, at_ ≤ i ∧ i ≤ p ∧ v = .int .i64 (i : Int) ∧ Hid (wz.ownsRow w.heap.size 3 1 (.slice (some ⟨g4, 0, none⟩) (p + 1) c4) (p + 1) (icells (insF s p i) (p + 1))) ∧ Below w.heap.size w wz) (fun v _ => (intOf v).toNat)
            case atStart => exact ⟨p, hat, Nat.le_refl _, rfl, HOwn4, hB4⟩
            case round =>
              rename World => wz
              obtain ⟨i, hi1, hi2, rfl, hrz, hbz⟩ := hrel
              by_cases hia : at_ < i
              · obtain ⟨i', rfl⟩ : ∃ i', i = i' + 1 := ⟨i - 1, by omega⟩
                have hia2 : (at_ : Int) < ((i' : Int) + 1) := by omega
                have hc1 : wz.cell? ⟨g4, i', none⟩ = some (.int .i64 ((s i' : Nat) : Int)) := (hrz.out.cellAt i' (by omega)).trans ((icells_at _ _ _ (by omega)).trans (by rw [insF_at s (by omega)]))
                have hc2 : wz.cell? ⟨g4, i' + 1, none⟩ = some (.int .i64 (insF s p (i' + 1) (i' + 1))) := (hrz.out.cellAt (i' + 1) (by omega)).trans (icells_at _ _ _ (by omega))
                have hf2 := owns_free hrz.out (i' + 1)
                have hlt1 : (i' : Int) < (p : Int) + 1 := by omega
                have hlt2 : (i' : Int) + 1 < (p : Int) + 1 := by omega
                have hput := owns_put hrz.out (i' + 1) (.int .i64 ((s i' : Nat) : Int))
                rw [icells_put, insF_step s (show i' < p by omega)] at hput
                have HPut := Lib.hid hput
                have hbp : Below w.heap.size w (wz.setCell ⟨g4, i' + 1, none⟩ (.int .i64 ((s i' : Nat) : Int))) := hbz.setCell (p := ⟨g4, i' + 1, none⟩) hg4 _
                have HBp := Lib.hid hbp
                clear hput hbp
                go_wp2_with fail
                go_roundw
                case rel => exact ⟨i', by omega, by omega, by trivial, HPut, HBp.out⟩
                case measure => simp [intOf]
              · obtain rfl : i = at_ := by omega
                have hia2 : decide ((i : Int) < (i : Int)) = false := decide_eq_false (by omega)
                have hc2 : wz.cell? ⟨g4, i, none⟩ = some (.int .i64 (insF s p i i)) := (hrz.out.cellAt i (by omega)).trans (icells_at _ _ _ (by omega))
                have hf2 := owns_free hrz.out i
                have hlt2 : (i : Int) < (p : Int) + 1 := by omega
                have hput := owns_put hrz.out i (.int .i64 (p : Int))
                rw [icells_put, insF_end s hi2] at hput
                have HPut := Lib.hid hput
                have hbp : Below w.heap.size w (wz.setCell ⟨g4, i, none⟩ (.int .i64 (p : Int))) := hbz.setCell (p := ⟨g4, i, none⟩) hg4 _
                have HBp := Lib.hid hbp
                clear hput hbp
                go_wp2_with fail
                go_roundw
                case rel => exact ⟨p + 1, putAt s p i, by omega, by go_num, Lib.hid (HOrd.out.put hlt hi2 hall.out hdone.out), HPut, HBp.out⟩
                case measure => simp [intOf]; omega
    · obtain rfl : p = n := by omega
      go_wp2_with fail
      go_ret
      exact ⟨_, s, rfl, HOrd.out, hrow.out, hb⟩
end Go.Proofs.Ytoeamldadclodaa

namespace Go.Proofs.Ytoeamldadclodaa
open Go.RowKit

/-- what Turned leaves. -/
def TurnedPost (w : World) (n : Nat) (V : Nat → Int) (e : Ending) (w' : World) : Prop :=
  ((IsPerm V n ∧ ∃ (u : Value) (R : Nat → Int), e = .returned (.tuple #[u, .bool true]) ∧ Turns V R n ∧ w'.ownsRow w.heap.size 3 1 u n (icells R n)) ∨ (¬ IsPerm V n ∧ e = .returned (.tuple #[.slice none 0 0, .bool false]))) ∧ Below w.heap.size w w'

/-- the first i numbers turned: R the row, Z what has been seen. -/
structure TurnIn (V : Nat → Int) (n i : Nat) (R : Nat → Int) (Z : Nat → Nat) : Prop where
  lt : ∀ j, j < i → 0 ≤ V j ∧ V j < (n : Int)
  apart : ∀ a b, a < b → b < i → V a ≠ V b
  at_ : ∀ j, j < i → R (V j).toNat = (j : Int)
  seen : ∀ q, q < n → (Z q = 1 ↔ ∃ j, j < i ∧ V j = (q : Int))
  bit : ∀ q, Z q = 0 ∨ Z q = 1
theorem TurnIn.start (V : Nat → Int) (n : Nat) : TurnIn V n 0 (fun _ => 0) (fun _ => 0) :=
  ⟨fun j hj => absurd hj (Nat.not_lt_zero j), fun a b _ hb => absurd hb (Nat.not_lt_zero b), fun j hj => absurd hj (Nat.not_lt_zero j), fun q _ => ⟨fun h => absurd h (by decide), fun ⟨j, hj, _⟩ => absurd hj (Nat.not_lt_zero j)⟩, fun _ => .inl rfl⟩
theorem TurnIn.next {V : Nat → Int} {n i p : Nat} {R : Nat → Int} {Z : Nat → Nat} (h : TurnIn V n i R Z) (hp : V i = (p : Int)) (hpn : p < n) (hz : Z p = 0) : TurnIn V n (i + 1) (fun j => if j = p then (i : Int) else R j) (fun j => if j = p then 1 else Z j) := by
  have hno : ∀ j, j < i → V j ≠ (p : Int) := fun j hj e => by
    have := (h.seen p hpn).2 ⟨j, hj, e⟩
    omega
  refine ⟨fun j hj => ?_, fun a b hab hb => ?_, fun j hj => ?_, fun q hq => ?_, fun q => ?_⟩
  · by_cases e : j = i
    · subst e; omega
    · exact h.lt j (by omega)
  · by_cases e : b = i
    · subst e
      rw [hp]
      exact hno a hab
    · exact h.apart a b hab (by omega)
  · show (if (V j).toNat = p then (i : Int) else R (V j).toNat) = (j : Int)
    by_cases e : j = i
    · subst e
      rw [hp, Int.toNat_natCast, if_pos rfl]
    · have h1 := hno j (by omega)
      have h2 := h.lt j (by omega)
      rw [if_neg (by omega)]
      exact h.at_ j (by omega)
  · show (if q = p then 1 else Z q) = 1 ↔ _
    by_cases e : q = p
    · subst e
      rw [if_pos rfl]
      exact ⟨fun _ => ⟨i, by omega, hp⟩, fun _ => rfl⟩
    · rw [if_neg e, h.seen q hq]
      constructor
      · rintro ⟨j, hj, hv⟩
        exact ⟨j, by omega, hv⟩
      · rintro ⟨j, hj, hv⟩
        refine ⟨j, ?_, hv⟩
        apply Nat.lt_of_le_of_ne (by omega)
        rintro rfl
        rw [hp] at hv
        omega
  · show (if q = p then 1 else Z q) = 0 ∨ (if q = p then 1 else Z q) = 1
    split
    · exact .inr rfl
    · exact h.bit q
theorem TurnIn.bad {V : Nat → Int} {n i : Nat} {R : Nat → Int} {Z : Nat → Nat} (h : TurnIn V n i R Z) (hi : i < n) (hb : V i < 0 ∨ (n : Int) ≤ V i ∨ ∃ p : Nat, p < n ∧ V i = (p : Int) ∧ Z p = 1) : ¬ IsPerm V n := by
  intro hP
  have h1 := hP.1 i hi
  rcases hb with hb | hb | ⟨p, h2, h3, h4⟩
  · omega
  · omega
  · obtain ⟨j, hj, he⟩ := (h.seen p h2).1 h4
    exact hP.2 j i hj hi (by rw [he, h3])
theorem TurnIn.good {V : Nat → Int} {n : Nat} {R : Nat → Int} {Z : Nat → Nat} (h : TurnIn V n n R Z) : IsPerm V n ∧ Turns V R n := ⟨⟨h.lt, h.apart⟩, h.at_⟩

end Go.Proofs.Ytoeamldadclodaa
