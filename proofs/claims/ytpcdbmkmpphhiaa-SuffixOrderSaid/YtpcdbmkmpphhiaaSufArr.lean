/- The document's Array of layer 9: by putting each suffix among the others. -/
import Derived.Test.YtpcdbmkmpphhiaaSufRef
import Derived.Test.YtpcdbmkmpphhiaaCrcCut
namespace Go.Proofs.Ytpcdbmkmpphhiaa
open Go.RowKit

/-- s: the places below p, the least suffix's first. -/
def IsOrd (V : Nat → Int) (n p : Nat) (s : Nat → Nat) : Prop := (∀ i, i < p → s i < p) ∧ ∀ i j, i < j → j < p → SLess V n (s i) (s j)
/-- p put at the place at. -/
def putAt (s : Nat → Nat) (p at_ : Nat) : Nat → Nat := fun j => if at_ < j then s (j - 1) else if j = at_ then p else s j
theorem IsOrd.put {V : Nat → Int} {n p at_ : Nat} {s : Nat → Nat} (h : IsOrd V n p s) (hp : p < n) (hat : at_ ≤ p) (h1 : ∀ j, j < at_ → SLess V n (s j) p) (h2 : at_ < p → ¬ SLess V n (s at_) p) : IsOrd V n (p + 1) (putAt s p at_) := by
  have h3 : ∀ j, at_ ≤ j → j < p → SLess V n p (s j) := fun j hj hjp => by
    have hsa := h.1 at_ (by omega)
    have h4 : SLess V n p (s at_) := (sless_or (by omega) (by omega) (by omega)).resolve_right (h2 (by omega))
    by_cases e : j = at_
    · rw [e]; exact h4
    · exact sless_trans h4 (h.2 at_ j (by omega) hjp)
  refine ⟨fun i hi => ?_, fun i j hij hj => ?_⟩
  · unfold putAt
    split
    · have := h.1 (i - 1) (by omega)
      omega
    · split
      · omega
      · have := h.1 i (by omega)
        omega
  · unfold putAt
    split
    · rw [if_pos (by omega)]
      exact h.2 _ _ (by omega) (by omega)
    · split
      · rw [if_pos (by omega)]
        exact h3 _ (by omega) (by omega)
      · split
        · by_cases e : i < j - 1
          · exact h.2 _ _ e (by omega)
          · have hji : j - 1 = i := by omega
            omega
        · split
          · exact h1 _ (by omega)
          · exact h.2 _ _ hij (by omega)
/-- the row while numbers are moved up. -/
def insF (s : Nat → Nat) (p i : Nat) : Nat → Int := fun j => if i < j then ((s (j - 1) : Nat) : Int) else if j = p then 0 else ((s j : Nat) : Int)
theorem insF_start (s : Nat → Nat) (p : Nat) : icells (fun i => ((s i : Nat) : Int)) p ++ [.int .i64 0] = icells (insF s p p) (p + 1) := by
  rw [icells_snoc]
  congr 1
  · refine icells_congr fun j hj => ?_
    unfold insF
    rw [if_neg (by omega), if_neg (by omega)]
  · unfold insF
    rw [if_neg (by omega), if_pos rfl]
theorem insF_step (s : Nat → Nat) {p i : Nat} (_hi : i < p) : icells (fun j => if j = i + 1 then ((s i : Nat) : Int) else insF s p (i + 1) j) (p + 1) = icells (insF s p i) (p + 1) := by
  refine icells_congr fun j hj => ?_
  show (if j = i + 1 then ((s i : Nat) : Int) else insF s p (i + 1) j) = insF s p i j
  unfold insF
  by_cases e : j = i + 1
  · rw [if_pos e, if_pos (by omega), show j - 1 = i by omega]
  · rw [if_neg e]
    by_cases h1 : i + 1 < j
    · rw [if_pos h1, if_pos (by omega)]
    · rw [if_neg h1, if_neg (show ¬ i < j by omega)]
theorem insF_at (s : Nat → Nat) {p i : Nat} (hi : i < p) : insF s p (i + 1) i = ((s i : Nat) : Int) := by
  unfold insF
  rw [if_neg (by omega), if_neg (by omega)]
theorem insF_end (s : Nat → Nat) {p at_ : Nat} (hat : at_ ≤ p) : icells (fun j => if j = at_ then (p : Int) else insF s p at_ j) (p + 1) = icells (fun j => ((putAt s p at_ j : Nat) : Int)) (p + 1) := by
  refine icells_congr fun j hj => ?_
  show (if j = at_ then (p : Int) else insF s p at_ j) = ((putAt s p at_ j : Nat) : Int)
  unfold insF putAt
  by_cases e : j = at_
  · rw [if_pos e, if_neg (by omega), if_pos e]
  · rw [if_neg e]
    by_cases h1 : at_ < j
    · rw [if_pos h1, if_pos h1]
    · rw [if_neg h1, if_neg h1, if_neg (by omega), if_neg e]

set_option maxRecDepth 100000 in
set_option maxHeartbeats 3200000 in
theorem refArrayS_any (A : Option Addr) (n c : Nat) (V : Nat → Int) (w : World) (hn : n ≤ 4194303) (ho : Its w w.heap.size A n V) :
    Calls Try.prog 13 #[.slice A n c] w fun e w' => ∃ (u : Value) (s : Nat → Nat), e = .returned u ∧ IsSA V n s ∧ w'.ownsRow w.heap.size 3 1 u n (icells (fun i => ((s i : Nat) : Int)) n) ∧ Below w.heap.size w w' := by
  have HO := Lib.hid ho
  have HLs : Hid (∀ (W : World) (a b : Nat) (r : Bool), Below w.heap.size w W → a ≤ n → b ≤ n → (r = true ↔ SLess V n a b) → Hid (Calls Try.prog 15 #[.slice A n c, .int .i64 (a : Int), .int .i64 (b : Int)] W fun e w' => e = .returned (.bool r) ∧ Below W.heap.size W w')) := Lib.hid fun W a b r hW ha hb hr => Lib.hid (refLess_is A n c V a b w.heap.size W (by unfold maxLen; omega) ha hb (ho.below hW) r hr)
  clear ho
  go_enter Try.func13, Try.ntmps13
  go_wp2_with fail
  go_loopw [3, 9] (fun u v wr => ∃ (p : Nat) (s : Nat → Nat), p ≤ n ∧ v = .int .i64 (p : Int) ∧ Hid (IsOrd V n p s) ∧ Hid (wr.ownsRow w.heap.size 3 1 u p (icells (fun i => ((s i : Nat) : Int)) p)) ∧ Below w.heap.size w wr) (fun _ v _ => n - (intOf v).toNat)
  case atStart => exact ⟨0, fun _ => 0, Nat.zero_le _, rfl, Lib.hid ⟨fun i hi => absurd hi (Nat.not_lt_zero i), fun i j _ hj => absurd hj (Nat.not_lt_zero j)⟩, Lib.hid (World.ownsRow_nil w _ _ _), Below.refl _ _⟩
  case round =>
    obtain ⟨p, s, hp, rfl, HOrd, hrow, hb⟩ := hrel
    have hbs := hb.size
    by_cases hlt : p < n
    · have hlti : (p : Int) < (n : Int) := by omega
      obtain ⟨O, co, hO⟩ : ∃ O co, u3 = .slice O p co := by
        rcases hrow.out.2 with ⟨e, h0⟩ | ⟨g', cap, cur, e, _⟩
        · exact ⟨none, 0, by rw [e, h0]⟩
        · exact ⟨_, cap, e⟩
      subst hO
      have hco := owns_room hrow.out
      have hcol := hco.1
      have hcom : co ≤ 9223372036854775807 := by have := hco.2; unfold maxLen at this; omega
      clear hco
      go_wp2_with fail
      go_loopw [5] (fun v wy => ∃ at_ : Nat, at_ ≤ p ∧ v = .int .i64 (at_ : Int) ∧ Hid (∀ j, j < at_ → SLess V n (s j) p) ∧ Below wr.heap.size wr wy) (fun v _ => p - (intOf v).toNat)
      case atStart => exact ⟨0, Nat.zero_le _, rfl, Lib.hid (fun j hj => absurd hj (Nat.not_lt_zero j)), Below.refl _ _⟩
      case round =>
        rename World => wy
        obtain ⟨at_, hat, rfl, hall, hby⟩ := hrel
        have hBy := hb.trans (hby.mono hbs)
        have hrowy := Lib.hid (ownsRow_keep hrow.out hby)
        by_cases hls : at_ < p ∧ SLess V n (s at_) p
        · obtain ⟨hap, hls⟩ := hls
          have hapi : (at_ : Int) < (p : Int) := by omega
          have dap : decide ((at_ : Int) < (p : Int)) = true := decide_eq_true hapi
          obtain ⟨g, c', e, _, _, _, _⟩ := owns_some hrow.out (by omega)
          cases e
          have hsa := HOrd.out.1 at_ hap
          have hcell : wy.cell? ⟨g, at_, none⟩ = some (.int .i64 ((s at_ : Nat) : Int)) := (hrowy.out.cellAt at_ (by omega)).trans (icells_at _ _ _ hap)
          have HL := HLs.out wy (s at_) p true hBy (by omega) (by omega) ⟨fun _ => hls, fun _ => rfl⟩
          have HS := Lib.hid hls
          clear hls hsa
          generalize s at_ = sv at hcell HL
          go_wp2_with (go_at_call 15; (with_reducible refine HL.out.mono ?_); rintro e wz ⟨rfl, hbz⟩)
          go_roundw
          case rel => exact ⟨at_ + 1, by omega, by go_num, Lib.hid (fun j hj => by
            by_cases e : j < at_
            · exact hall.out j e
            · obtain rfl : j = at_ := by omega
              exact HS.out), hby.trans (hbz.mono hby.size)⟩
          case measure => simp [intOf]; omega
        · have hdone : Hid (at_ < p → ¬ SLess V n (s at_) p) := Lib.hid (fun h1 h2 => hls ⟨h1, h2⟩)
          have hpm : p ≤ 4194304 := by omega
          rcases Nat.lt_or_eq_of_le hat with hap | hap
          · have hapi : (at_ : Int) < (p : Int) := by omega
            have dap : decide ((at_ : Int) < (p : Int)) = true := decide_eq_true hapi
            obtain ⟨g, c', e, _, _, _, _⟩ := owns_some hrow.out (by omega)
            cases e
            have hsa := HOrd.out.1 at_ hap
            have hcell : wy.cell? ⟨g, at_, none⟩ = some (.int .i64 ((s at_ : Nat) : Int)) := (hrowy.out.cellAt at_ (by omega)).trans (icells_at _ _ _ hap)
            have HL := HLs.out wy (s at_) p false hBy (by omega) (by omega) ⟨fun e => (by cases e), fun h => absurd h (hdone.out hap)⟩
            clear hls hsa
            generalize s at_ = sv at hcell HL
            go_wp2_with (first
              | (go_at_call 15; (with_reducible refine HL.out.mono ?_); rintro e wz ⟨rfl, hbz⟩; have hBz := hBy.trans (hbz.mono hBy.size); have hrowz := Lib.hid (ownsRow_keep hrowy.out hbz); have hsz := hBz.size)
              | (at_builtin; refine step_append_int rfl (.tmp 27) (.tmp 28) rfl rfl hrowz.out 0 rfl hsz hpm ?_; intro v4 w4 hown4 hb4; rw [insF_start] at hown4; obtain ⟨g4, c4, rfl, hg4, hl4, hc4, hm4⟩ := owns_some hown4.out (Nat.succ_pos p)))
            clear hbz HL hcell dap hapi
            have hB4 := hBz.trans hb4
            have hcm4 : c4 ≤ 9223372036854775807 := by unfold maxLen at hm4; omega
            have HOwn4 := hown4
            clear hm4 hrowz hBz hb4 hsz hown4
            rename World => w4
            go_loopw [6] (fun v wz => ∃ i : Nat, at_ ≤ i ∧ i ≤ p ∧ v = .int .i64 (i : Int) ∧ Hid (wz.ownsRow w.heap.size 3 1 (.slice (some ⟨g4, 0, none⟩) (p + 1) c4) (p + 1) (icells (insF s p i) (p + 1))) ∧ Below w.heap.size w wz) (fun v _ => (intOf v).toNat)
            case atStart => exact ⟨p, hat, Nat.le_refl _, rfl, HOwn4, hB4⟩
            case round =>
              rename World => wz
              obtain ⟨i, hi1, hi2, rfl, hrz, hbz⟩ := hrel
              by_cases hia : at_ < i
              · obtain ⟨i', rfl⟩ : ∃ i', i = i' + 1 := ⟨i - 1, by omega⟩
                have hia2 : (at_ : Int) < ((i' : Int) + 1) := by omega
                have hc1 : wz.cell? ⟨g4, i', none⟩ = some (.int .i64 ((s i' : Nat) : Int)) := (hrz.out.cellAt i' (by omega)).trans ((icells_at _ _ _ (by omega)).trans (by rw [insF_at s (by omega)]))
                have hc2 : wz.cell? ⟨g4, i' + 1, none⟩ = some (.int .i64 (insF s p (i' + 1) (i' + 1))) := (hrz.out.cellAt (i' + 1) (by omega)).trans (icells_at _ _ _ (by omega))
                have hf2 := owns_free hrz.out (i' + 1)
                have hlt1 : (i' : Int) < (p : Int) + 1 := by omega
                have hlt2 : (i' : Int) + 1 < (p : Int) + 1 := by omega
                have hput := owns_put hrz.out (i' + 1) (.int .i64 ((s i' : Nat) : Int))
                rw [icells_put, insF_step s (show i' < p by omega)] at hput
                have HPut := Lib.hid hput
                have hbp : Below w.heap.size w (wz.setCell ⟨g4, i' + 1, none⟩ (.int .i64 ((s i' : Nat) : Int))) := hbz.setCell (p := ⟨g4, i' + 1, none⟩) hg4 _
                have HBp := Lib.hid hbp
                clear hput hbp
                go_wp2_with fail
                go_roundw
                case rel => exact ⟨i', by omega, by omega, by trivial, HPut, HBp.out⟩
                case measure => simp [intOf]
              · obtain rfl : i = at_ := by omega
                have hia2 : decide ((i : Int) < (i : Int)) = false := decide_eq_false (by omega)
                have hc2 : wz.cell? ⟨g4, i, none⟩ = some (.int .i64 (insF s p i i)) := (hrz.out.cellAt i (by omega)).trans (icells_at _ _ _ (by omega))
                have hf2 := owns_free hrz.out i
                have hlt2 : (i : Int) < (p : Int) + 1 := by omega
                have hput := owns_put hrz.out i (.int .i64 (p : Int))
                rw [icells_put, insF_end s hi2] at hput
                have HPut := Lib.hid hput
                have hbp : Below w.heap.size w (wz.setCell ⟨g4, i, none⟩ (.int .i64 (p : Int))) := hbz.setCell (p := ⟨g4, i, none⟩) hg4 _
                have HBp := Lib.hid hbp
                clear hput hbp
                go_wp2_with fail
                go_roundw
                case rel => exact ⟨p + 1, putAt s p i, by omega, by go_num, Lib.hid (HOrd.out.put hlt hi2 hall.out hdone.out), HPut, HBp.out⟩
                case measure => simp [intOf]; omega
          · have dap : decide ((at_ : Int) < (p : Int)) = false := decide_eq_false (by omega)
            have hnl : ¬ (at_ : Int) < (p : Int) := by omega
            have hnl2 : ¬ at_ < p := by omega
            have dap2 : decide (at_ < p) = false := decide_eq_false hnl2
            have hBz := hBy
            have hrowz := hrowy
            have hsz := hBz.size
            clear hls hap
            go_wp2_with (at_builtin; refine step_append_int rfl (.tmp 27) (.tmp 28) rfl rfl hrowz.out 0 rfl hsz hpm ?_; intro v4 w4 hown4 hb4; rw [insF_start] at hown4; obtain ⟨g4, c4, rfl, hg4, hl4, hc4, hm4⟩ := owns_some hown4.out (Nat.succ_pos p))
            clear dap dap2 hnl hnl2
            have hB4 := hBz.trans hb4
            have hcm4 : c4 ≤ 9223372036854775807 := by unfold maxLen at hm4; omega
            have HOwn4 := hown4
            clear hm4 hrowz hBz hb4 hsz hown4
            rename World => w4
            go_loopw [6] (fun v wz => ∃ i : Nat, at_ ≤ i ∧ i ≤ p ∧ v = .int .i64 (i : Int) ∧ Hid (wz.ownsRow w.heap.size 3 1 (.slice (some ⟨g4, 0, none⟩) (p + 1) c4) (p + 1) (icells (insF s p i) (p + 1))) ∧ Below w.heap.size w wz) (fun v _ => (intOf v).toNat)
            case atStart => exact ⟨p, hat, Nat.le_refl _, rfl, HOwn4, hB4⟩
            case round =>
              rename World => wz
              obtain ⟨i, hi1, hi2, rfl, hrz, hbz⟩ := hrel
              by_cases hia : at_ < i
              · obtain ⟨i', rfl⟩ : ∃ i', i = i' + 1 := ⟨i - 1, by omega⟩
                have hia2 : (at_ : Int) < ((i' : Int) + 1) := by omega
                have hc1 : wz.cell? ⟨g4, i', none⟩ = some (.int .i64 ((s i' : Nat) : Int)) := (hrz.out.cellAt i' (by omega)).trans ((icells_at _ _ _ (by omega)).trans (by rw [insF_at s (by omega)]))
                have hc2 : wz.cell? ⟨g4, i' + 1, none⟩ = some (.int .i64 (insF s p (i' + 1) (i' + 1))) := (hrz.out.cellAt (i' + 1) (by omega)).trans (icells_at _ _ _ (by omega))
                have hf2 := owns_free hrz.out (i' + 1)
                have hlt1 : (i' : Int) < (p : Int) + 1 := by omega
                have hlt2 : (i' : Int) + 1 < (p : Int) + 1 := by omega
                have hput := owns_put hrz.out (i' + 1) (.int .i64 ((s i' : Nat) : Int))
                rw [icells_put, insF_step s (show i' < p by omega)] at hput
                have HPut := Lib.hid hput
                have hbp : Below w.heap.size w (wz.setCell ⟨g4, i' + 1, none⟩ (.int .i64 ((s i' : Nat) : Int))) := hbz.setCell (p := ⟨g4, i' + 1, none⟩) hg4 _
                have HBp := Lib.hid hbp
                clear hput hbp
                go_wp2_with fail
                go_roundw
                case rel => exact ⟨i', by omega, by omega, by trivial, HPut, HBp.out⟩
                case measure => simp [intOf]
              · obtain rfl : i = at_ := by omega
                have hia2 : decide ((i : Int) < (i : Int)) = false := decide_eq_false (by omega)
                have hc2 : wz.cell? ⟨g4, i, none⟩ = some (.int .i64 (insF s p i i)) := (hrz.out.cellAt i (by omega)).trans (icells_at _ _ _ (by omega))
                have hf2 := owns_free hrz.out i
                have hlt2 : (i : Int) < (p : Int) + 1 := by omega
                have hput := owns_put hrz.out i (.int .i64 (p : Int))
                rw [icells_put, insF_end s hi2] at hput
                have HPut := Lib.hid hput
                have hbp : Below w.heap.size w (wz.setCell ⟨g4, i, none⟩ (.int .i64 (p : Int))) := hbz.setCell (p := ⟨g4, i, none⟩) hg4 _
                have HBp := Lib.hid hbp
                clear hput hbp
                go_wp2_with fail
                go_roundw
                case rel => exact ⟨p + 1, putAt s p i, by omega, by go_num, Lib.hid (HOrd.out.put hlt hi2 hall.out hdone.out), HPut, HBp.out⟩
                case measure => simp [intOf]; omega
    · obtain rfl : p = n := by omega
      go_wp2_with fail
      go_ret
      exact ⟨_, s, rfl, HOrd.out, hrow.out, hb⟩
end Go.Proofs.Ytpcdbmkmpphhiaa
