/- The developers' package bwt: fit, below, few, endsAt, round. slices.SortStableFunc, plainly: numbers exchanged, ranges exchanged, blocks turned about (rotate); one number put in; merging by halves (symMerge); blocks of a size, sorted each. No program is named here. slices.SortStableFunc over ints, at any cmp that tells which of two numbers has the lesser key: numbers exchanged, ranges, rotate. slices.SortStableFunc over ints: insertionSortCmpFunc. slices.SortStableFunc over ints: symMergeCmpFunc, where one of the two parts is one number. slices.SortStableFunc over ints: symMergeCmpFunc, any two parts. cmp.Compare over ints; slices.SortStableFunc over ints: stableCmpFunc, SortStableFunc. The developers' package bwt: followers, endsAt, round. The developers' package bwt: endsAt, round, Make, Counts, Back; all that the laws ask of package bwt (bwt_any). The developers' suffix.rowOf: what lies while the row of numbers is made; the row of numbers. -/
import Derived.Test.YtbkdloebbbmkaaaGreatB10
import Derived.Test.YtbkdloebbbmkaaaGreatB04
import Derived.Test.YtbkdloebbbmkaaaGreatB08
import Derived.BigQuiet
import Derived.BigRegion
import Derived.Test.YtbkdloebbbmkaaaGreatB02
import Derived.Deep.QuietTactic
import Derived.Shelf.Abstract
import Derived.Deep.DeepCutAuto
import Derived.Deep.CutRange
import Derived.Test.YtbkdloebbbmkaaaGreatB09
namespace Go.Proofs.YtbkdloebbbmkaaaGreat
open Go.RowKit

set_option maxRecDepth 100000 in
set_option maxHeartbeats 1600000 in
theorem bwFit_is (A : Option Addr) (n c : Nat) (V : Nat → Int) (al : Int) (B : Nat) (w : World) (hn : n ≤ 4194304) (ho : Its w B A n V) (r : Bool) (hr : r = true ↔ RightS V n al) :
    Calls Tryz.prog 74 #[.slice A n c, .int .i64 al] w fun e w' => e = .returned (.bool r) ∧ w = w' := by
  have HR := Lib.hid hr
  have HO := Lib.hid ho
  clear ho hr
  by_cases hal : 0 ≤ al ∧ al ≤ 4194304
  · obtain ⟨h1, h2⟩ := hal
    have d1 : decide (al < 0) = false := decide_eq_false (by omega)
    have d2 : decide ((4194304 : Int) < al) = false := decide_eq_false (by omega)
    go_enter Tryz.func74, Tryz.ntmps74
    go_wp2_with fail
    go_loop [15] (fun v => ∃ i : Nat, i ≤ n ∧ v = .int .i64 (i : Int) ∧ Hid (∀ j, j < i → 0 ≤ V j ∧ V j < al)) (fun v => n - (intOf v).toNat)
    case atStart => exact ⟨0, Nat.zero_le _, rfl, Lib.hid (fun j hj => absurd hj (Nat.not_lt_zero j))⟩
    case round =>
      obtain ⟨i, hi, rfl, hall⟩ := hrel
      by_cases hlt : i < n
      · have hlti : (i : Int) < (n : Int) := by omega
        obtain ⟨ad, rfl, _, hc, hv1, hv2⟩ := HO.out i hlt
        obtain ⟨v, hv⟩ : ∃ v, V i = v := ⟨_, rfl⟩
        rw [hv] at hc hv1 hv2
        have HV := Lib.hid hv
        clear hv
        by_cases hok : 0 ≤ v ∧ v < al
        · have e1 : decide (v < 0) = false := decide_eq_false (by omega)
          have e2 : decide (al ≤ v) = false := decide_eq_false (by omega)
          go_wp2_with fail
          go_round
          case rel => exact ⟨i + 1, by omega, by go_num, Lib.hid (fun j hj => by
            by_cases e : j < i
            · exact hall.out j e
            · obtain rfl : j = i := by omega
              rw [HV.out]
              exact hok)⟩
          case measure => simp [intOf]; omega
        · have hbad : Hid (¬ RightS V n al) := Lib.hid (fun h => hok (by rw [← HV.out]; exact h.2 i hlt))
          have hcond : decide (v < 0) = true ∨ (decide (v < 0) = false ∧ decide (al ≤ v) = true) := by
            by_cases h0 : v < 0
            · exact .inl (decide_eq_true h0)
            · exact .inr ⟨decide_eq_false h0, decide_eq_true (by omega)⟩
          obtain rfl : r = false := by
            rcases r with _ | _
            · rfl
            · exact absurd (HR.out.1 rfl) hbad.out
          clear hok HR
          rcases hcond with e1 | ⟨e1, e2⟩
          all_goals
            go_wp2_with fail
            go_ret
            exact ⟨rfl, rfl⟩
      · obtain rfl : i = n := by omega
        obtain rfl : r = true := HR.out.2 ⟨⟨h1, h2, hn⟩, hall.out⟩
        go_wp2_with fail
        go_ret
        exact ⟨rfl, rfl⟩
  · have hbad : Hid (¬ RightS V n al) := Lib.hid (fun h => hal ⟨h.1.1, h.1.2.1⟩)
    have hcond : decide (al < 0) = true ∨ (decide (al < 0) = false ∧ decide ((4194304 : Int) < al) = true) := by
      by_cases h0 : al < 0
      · exact .inl (decide_eq_true h0)
      · exact .inr ⟨decide_eq_false h0, decide_eq_true (by omega)⟩
    obtain rfl : r = false := by
      rcases r with _ | _
      · rfl
      · exact absurd (HR.out.1 rfl) hbad.out
    clear hal HR
    rcases hcond with d1 | ⟨d1, d2⟩
    all_goals
      go_enter Tryz.func74, Tryz.ntmps74
      go_wp2_with fail
      go_ret
      exact ⟨rfl, rfl⟩

theorem aheadI_none {V : Nat → Int} {c : Int} : ∀ {n : Nat}, (∀ i, i < n → V i ≠ c) → aheadI V n c = 0
  | 0, _ => rfl
  | n + 1, h => by
    rw [aheadI_succ, aheadI_none (fun i hi => h i (by omega)), if_neg (h n (by omega))]
theorem belowI_next (V : Nat → Int) (c : Int) : ∀ n, belowI V n (c + 1) = belowI V n c + aheadI V n c
  | 0 => rfl
  | n + 1 => by
    rw [belowI_succ, belowI_succ, aheadI_succ, belowI_next V c n]
    by_cases h1 : V n < c
    · rw [if_pos h1, if_pos (by omega), if_neg (by omega)]
      omega
    · rw [if_neg h1]
      by_cases h2 : V n = c
      · rw [if_pos h2, if_pos (by omega)]
        omega
      · rw [if_neg h2, if_neg (by omega)]
        omega
theorem belowI_none {V : Nat → Int} {c : Int} : ∀ {n : Nat}, (∀ i, i < n → c ≤ V i) → belowI V n c = 0
  | 0, _ => rfl
  | n + 1, h => by
    rw [belowI_succ, belowI_none (fun i hi => h i (by omega)), if_neg (by have := h n (by omega); omega)]

set_option maxRecDepth 100000 in
set_option maxHeartbeats 1600000 in
theorem below_any (A : Option Addr) (n c : Nat) (V : Nat → Int) (al : Nat) (w : World) (hn : n ≤ 4194304) (hal : al ≤ 4194303) (ho : Its w w.heap.size A n V) (hV : ∀ i, i < n → 0 ≤ V i ∧ V i < (al : Int)) :
    Calls Tryz.prog 75 #[.slice A n c, .int .i64 (al : Int)] w fun e w' => e = .returned (.slice (some ⟨w.heap.size, 0, none⟩) (al + 1) (al + 1)) ∧ Lies w' w.heap.size 3 (icells (fun x => ((belowI V n (x : Int) : Nat) : Int)) (al + 1)) ∧ Below w.heap.size w w' := by
  have HO := Lib.hid ho
  have HV := Lib.hid hV
  obtain ⟨a, za⟩ : ∃ a, w.heap.size = a := ⟨_, rfl⟩
  have w1 : IntKind.i64.wrap ((al : Int) + 1) = ((al + 1 : Nat) : Int) := by rw [IntWalk.i64_in _ (by omega)]; omega
  have hMk := make_ints0 w (al + 1) (by omega)
  rw [za] at hMk HO ⊢
  obtain ⟨m, hm⟩ : ∃ m, al + 1 = m := ⟨_, rfl⟩
  rw [hm] at w1 hMk ⊢
  have HM := Lib.hid hm
  obtain ⟨wa, hwa⟩ : ∃ wa, w.alloc (.cells (icells (fun _ => 0) m).toArray 3) = wa := ⟨_, rfl⟩
  have k1 : Below a w wa := by rw [← hwa, ← za]; exact (Below.refl _ _).alloc (Nat.le_refl _) _
  have l1 : Lies wa a 3 (icells (fun _ => 0) m) := by rw [← hwa, ← za]; exact lies_new w _ _
  rw [hwa] at hMk
  clear ho hV hm hwa za
  go_enter Tryz.func75, Tryz.ntmps75
  go_wp2_with fail
  go_loopw [14] (fun v wr => ∃ i : Nat, i ≤ n ∧ v = .int .i64 (i : Int) ∧ Hid (∃ U, Lies wr a 3 (icells U m) ∧ ∀ x, x < m → U x = ((aheadI V i ((x : Int) - 1) : Nat) : Int)) ∧ Hid (Below a w wr)) (fun v _ => n - (intOf v).toNat)
  case atStart => exact ⟨0, Nat.zero_le _, rfl, Lib.hid ⟨_, l1, fun x _ => rfl⟩, Lib.hid k1⟩
  case round =>
    clear l1 k1 hMk
    obtain ⟨i, hi, rfl, hU, hb⟩ := hrel
    by_cases hlt : i < n
    · have hlti : (i : Int) < (n : Int) := by omega
      obtain ⟨ad, rfl, _, hc, _⟩ := HO.out.below hb.out i hlt
      obtain ⟨hv1, hv2⟩ := HV.out i hlt
      obtain ⟨p, hp⟩ : ∃ p : Nat, V i = (p : Int) := ⟨(V i).toNat, by omega⟩
      rw [hp] at hc hv2
      obtain ⟨U, hL, hU⟩ := hU.out
      have hm := HM.out
      have w2 : IntKind.i64.wrap ((p : Int) + 1) = ((p + 1 : Nat) : Int) := by rw [IntWalk.i64_in _ (by omega)]; omega
      have hp1 : p + 1 < m := by omega
      have hc2 : wr.cell? ⟨a, p + 1, none⟩ = some (.int .i64 ((aheadI V i (p : Int) : Nat) : Int)) := by
        rw [hL.cell, icells_at _ _ _ hp1, hU _ hp1, show (((p + 1 : Nat) : Int) - 1) = (p : Int) by omega]
      have hf2 := hL.free (p + 1)
      have hle := aheadI_le V i (p : Int)
      obtain ⟨y, hy⟩ : ∃ y, aheadI V i (p : Int) = y := ⟨_, rfl⟩
      rw [hy] at hc2 hle
      have w3 : IntKind.i64.wrap ((y : Int) + 1) = ((y + 1 : Nat) : Int) := by rw [IntWalk.i64_in _ (by omega)]; omega
      have HU2 : Hid (∃ U', Lies (wr.setCell ⟨a, p + 1, none⟩ (.int .i64 ((y + 1 : Nat) : Int))) a 3 (icells U' m) ∧ ∀ x, x < m → U' x = ((aheadI V (i + 1) ((x : Int) - 1) : Nat) : Int)) := Lib.hid ⟨_, by
        have := hL.put (p + 1) (.int .i64 ((y + 1 : Nat) : Int))
        rw [icells_put] at this
        exact this, fun x hx => by
        rw [aheadI_succ, hp]
        by_cases e : x = p + 1
        · rw [if_pos e, if_pos (by omega), show ((x : Int) - 1) = (p : Int) by omega, hy]
        · rw [if_neg e, if_neg (by omega), hU x hx, Nat.add_zero]⟩
      have HB2 : Hid (Below a w (wr.setCell ⟨a, p + 1, none⟩ (.int .i64 ((y + 1 : Nat) : Int)))) := Lib.hid (hb.out.setCell (p := ⟨a, p + 1, none⟩) (Nat.le_refl _) _)
      generalize p + 1 = p1 at w2 hp1 hc2 hf2 HU2 HB2
      generalize y + 1 = y1 at w3 HU2 HB2
      have bp : (p1 : Int) < (m : Int) := by omega
      clear hU hL hp hy hm hb hle
      go_wp2_with fail
      go_roundw
      case rel => exact ⟨i + 1, by omega, by go_num, HU2, HB2⟩
      case measure => simp [intOf]; omega
    · have hin : i = n := by omega
      have hge : ¬ (i : Int) < (n : Int) := by omega
      rw [hin] at hU
      have HU1 : Hid (∃ U, Lies wr a 3 (icells U m) ∧ ∀ x, x < m → U x = if x ≤ 0 then ((belowI V n (x : Int) : Nat) : Int) else ((aheadI V n ((x : Int) - 1) : Nat) : Int)) := Lib.hid (by
        obtain ⟨U, h1, h2⟩ := hU.out
        refine ⟨U, h1, fun x hx => ?_⟩
        by_cases e : x ≤ 0
        · rw [if_pos e, h2 x hx, aheadI_none (fun i hi => by have := HV.out i hi; omega), belowI_none (fun i hi => by have := HV.out i hi; omega)]
        · rw [if_neg e, h2 x hx])
      clear hU hin
      go_wp2_with fail
      go_loopw [27] (fun v wr => ∃ q : Nat, q ≤ al ∧ v = .int .i64 (q : Int) ∧ Hid (∃ U, Lies wr a 3 (icells U m) ∧ ∀ x, x < m → U x = if x ≤ q then ((belowI V n (x : Int) : Nat) : Int) else ((aheadI V n ((x : Int) - 1) : Nat) : Int)) ∧ Hid (Below a w wr)) (fun v _ => al - (intOf v).toNat)
      case atStart => exact ⟨0, Nat.zero_le _, rfl, HU1, hb⟩
      case round =>
        clear HU1 hb
        obtain ⟨q, hq, rfl, hU, hb⟩ := hrel
        by_cases hlq : q < al
        · have hlqi : (q : Int) < (al : Int) := by omega
          obtain ⟨U, hL, hU⟩ := hU.out
          have hm := HM.out
          have hq1 : q + 1 < m := by omega
          have hq0 : q < m := by omega
          have w2 : IntKind.i64.wrap ((q : Int) + 1) = ((q + 1 : Nat) : Int) := by rw [IntWalk.i64_in _ (by omega)]; omega
          have hc1 : wr.cell? ⟨a, q, none⟩ = some (.int .i64 ((belowI V n (q : Int) : Nat) : Int)) := by
            rw [hL.cell, icells_at _ _ _ hq0, hU _ hq0, if_pos (Nat.le_refl _)]
          have hc2 : wr.cell? ⟨a, q + 1, none⟩ = some (.int .i64 ((aheadI V n (q : Int) : Nat) : Int)) := by
            rw [hL.cell, icells_at _ _ _ hq1, hU _ hq1, if_neg (by omega), show (((q + 1 : Nat) : Int) - 1) = (q : Int) by omega]
          have hf2 := hL.free (q + 1)
          have hl1 := belowI_le V n (q : Int)
          have hl2 := aheadI_le V n (q : Int)
          have hsum : ((belowI V n ((q + 1 : Nat) : Int) : Nat) : Int) = ((aheadI V n (q : Int) + belowI V n (q : Int) : Nat) : Int) := by
            rw [show ((q + 1 : Nat) : Int) = (q : Int) + 1 by omega, belowI_next, Nat.add_comm]
          obtain ⟨y, hy⟩ : ∃ y, belowI V n (q : Int) = y := ⟨_, rfl⟩
          obtain ⟨z, hz⟩ : ∃ z, aheadI V n (q : Int) = z := ⟨_, rfl⟩
          rw [hy] at hc1 hl1 hsum
          rw [hz] at hc2 hl2 hsum
          have w3 : IntKind.i64.wrap ((z : Int) + (y : Int)) = ((z + y : Nat) : Int) := by rw [IntWalk.i64_in _ (by omega)]; omega
          have HU2 : Hid (∃ U', Lies (wr.setCell ⟨a, q + 1, none⟩ (.int .i64 ((z + y : Nat) : Int))) a 3 (icells U' m) ∧ ∀ x, x < m → U' x = if x ≤ q + 1 then ((belowI V n (x : Int) : Nat) : Int) else ((aheadI V n ((x : Int) - 1) : Nat) : Int)) := Lib.hid ⟨_, by
            have := hL.put (q + 1) (.int .i64 ((z + y : Nat) : Int))
            rw [icells_put] at this
            exact this, fun x hx => by
            by_cases e : x = q + 1
            · rw [if_pos e, if_pos (by omega), e, hsum]
            · rw [if_neg e, hU x hx]
              by_cases e2 : x ≤ q
              · rw [if_pos e2, if_pos (by omega)]
              · rw [if_neg e2, if_neg (by omega)]⟩
          have HB2 : Hid (Below a w (wr.setCell ⟨a, q + 1, none⟩ (.int .i64 ((z + y : Nat) : Int)))) := Lib.hid (hb.out.setCell (p := ⟨a, q + 1, none⟩) (Nat.le_refl _) _)
          have HM2 := Lib.hid (Nat.succ_le_of_lt hlq)
          generalize hq2 : q + 1 = q2 at w2 hq1 hc2 hf2 HU2 HB2
          have HQ2 := Lib.hid hq2
          generalize z + y = zy at w3 HU2 HB2
          have lne : q < q2 := by omega
          have bq : (q : Int) < (m : Int) := by omega
          have bq2 : (q2 : Int) < (m : Int) := by omega
          have hq2al : q2 ≤ al := by omega
          clear hU hL hm hb hy hz hsum hq2
          go_wp2_with fail
          go_big_region
          all_goals go_wp2_with fail
          all_goals go_roundw
          case rel => exact ⟨q2, hq2al, rfl, Lib.hid (by
            obtain ⟨U', h1, h2⟩ := HU2.out
            exact ⟨U', h1.drew, h2⟩), Lib.hid (below_drewN' HB2.out 1)⟩
          case measure => simp [intOf]; omega
        · have hqa : q = al := by omega
          have hge2 : ¬ (q : Int) < (al : Int) := by omega
          have HF : Hid (Lies wr a 3 (icells (fun x => ((belowI V n (x : Int) : Nat) : Int)) m)) := Lib.hid (by
            obtain ⟨U, h1, h2⟩ := hU.out
            have hm := HM.out
            rw [← icells_congr (U := U) fun x hx => by rw [h2 x hx, if_pos (by omega)]]
            exact h1)
          clear hU hqa
          go_wp2_with fail
          go_ret
          exact ⟨rfl, HF.out, hb.out⟩

end Go.Proofs.YtbkdloebbbmkaaaGreat

namespace Go.Proofs.YtbkdloebbbmkaaaGreat

/-- two places exchanged. -/
def swN (D : Nat → Nat) (i j : Nat) : Nat → Nat := fun k => if k = i then D j else if k = j then D i else D k
/-- two ranges of m places exchanged. -/
def swR (D : Nat → Nat) (a b m : Nat) : Nat → Nat := fun x => if a ≤ x ∧ x < a + m then D (x - a + b) else if b ≤ x ∧ x < b + m then D (x - b + a) else D x
/-- what is from a on, and what is from m on up to b, turned about. -/
def rotN (D : Nat → Nat) (a m b : Nat) : Nat → Nat := fun x => if a ≤ x ∧ x < a + (b - m) then D (x - a + m) else if a + (b - m) ≤ x ∧ x < b then D (x - (a + (b - m)) + a) else D x
/-- the number at a is put at place e - 1, those between move down. -/
def shL (D : Nat → Nat) (a e : Nat) : Nat → Nat := fun x => if a ≤ x ∧ x + 1 < e then D (x + 1) else if a ≤ x ∧ x + 1 = e then D a else D x
/-- the number at m is put at place k, those between move up. -/
def shR (D : Nat → Nat) (m k : Nat) : Nat → Nat := fun x => if x = k then D m else if k < x ∧ x ≤ m then D (x - 1) else D x
theorem at_eq (D : Nat → Nat) {x y : Nat} (h : x = y) : D x = D y := by rw [h]
theorem swR_zero (D : Nat → Nat) (a b : Nat) : swR D a b 0 = D := by
  funext x
  unfold swR
  rw [if_neg (by omega), if_neg (by omega)]
theorem swR_step (D : Nat → Nat) {a b m i : Nat} (h : a + m ≤ b) (hi : i < m) : swN (swR D a b i) (a + i) (b + i) = swR D a b (i + 1) := by
  funext x
  simp only [swN, swR]
  (repeat' split) <;> first | (exfalso; omega) | exact at_eq D (by omega)
theorem rot_more (D : Nat → Nat) {p i j : Nat} (h : j < i) : rotN (swR D p (p + i) j) (p + j) (p + i) (p + i + j) = rotN D p (p + i) (p + i + j) := by
  funext x
  simp only [rotN, swR]
  (repeat' split) <;> first | (exfalso; omega) | exact at_eq D (by omega)
theorem rot_less (D : Nat → Nat) {p i j : Nat} (h : i < j) : rotN (swR D p (p + j) i) p (p + i) (p + j) = rotN D p (p + i) (p + i + j) := by
  funext x
  simp only [rotN, swR]
  (repeat' split) <;> first | (exfalso; omega) | exact at_eq D (by omega)
theorem rot_same (D : Nat → Nat) (p i : Nat) : swR D p (p + i) i = rotN D p (p + i) (p + i + i) := by
  funext x
  simp only [rotN, swR]
  (repeat' split) <;> first | (exfalso; omega) | exact at_eq D (by omega)
theorem rot_none (D : Nat → Nat) (m b : Nat) : rotN D m m b = D := by
  funext x
  simp only [rotN]
  (repeat' split) <;> first | (exfalso; omega) | exact at_eq D (by omega)
theorem rot_none' (D : Nat → Nat) (a m : Nat) : rotN D a m m = D := by
  funext x
  simp only [rotN]
  (repeat' split) <;> first | (exfalso; omega) | exact at_eq D (by omega)
theorem shL_one (D : Nat → Nat) (a : Nat) : shL D a (a + 1) = D := by
  funext x
  unfold shL
  rw [if_neg (by omega)]
  split
  · exact at_eq D (by omega)
  · rfl
theorem shL_step (D : Nat → Nat) {a k : Nat} (h : a ≤ k) : swN (shL D a (k + 1)) k (k + 1) = shL D a (k + 2) := by
  have l : ∀ e x, a ≤ x → x + 1 < e → shL D a e x = D (x + 1) := fun e x h1 h2 => if_pos ⟨h1, h2⟩
  have c : ∀ e x, a ≤ x → x + 1 = e → shL D a e x = D a := fun e x h1 h2 => by
    unfold shL
    rw [if_neg (by omega), if_pos ⟨h1, h2⟩]
  have r : ∀ e x, x < a ∨ e ≤ x → shL D a e x = D x := fun e x h1 => by
    unfold shL
    rw [if_neg (by omega), if_neg (by omega)]
  funext x
  unfold swN
  by_cases h1 : x = k
  · rw [if_pos h1, r _ _ (by omega), l _ _ (by omega) (by omega), h1]
  · rw [if_neg h1]
    by_cases h2 : x = k + 1
    · rw [if_pos h2, c _ _ h rfl, c _ _ (by omega) (by omega)]
    · rw [if_neg h2]
      by_cases h3 : a ≤ x ∧ x < k
      · rw [l _ _ h3.1 (by omega), l _ _ h3.1 (by omega)]
      · rw [r _ _ (by omega), r _ _ (by omega)]
theorem shR_one (D : Nat → Nat) (m : Nat) : shR D m m = D := by
  funext x
  unfold shR
  split
  · rename_i e; rw [e]
  · rw [if_neg (by omega)]
theorem shR_at (D : Nat → Nat) (m k : Nat) : shR D m k k = D m := if_pos rfl
theorem shR_low (D : Nat → Nat) {m k x : Nat} (h : x < k) : shR D m k x = D x := by
  unfold shR
  rw [if_neg (by omega), if_neg (by omega)]
theorem shR_step (D : Nat → Nat) {m k : Nat} (h : k + 1 ≤ m) : swN (shR D m (k + 1)) (k + 1) k = shR D m k := by
  have l : ∀ k x, x < k ∨ m < x ∧ k ≤ m → shR D m k x = D x := fun k x h1 => by
    unfold shR
    by_cases e : x = k
    · rw [if_pos e]
      exact at_eq D (by omega)
    · rw [if_neg e, if_neg (by omega)]
  have r : ∀ k x, k < x → x ≤ m → shR D m k x = D (x - 1) := fun k x h1 h2 => by
    unfold shR
    rw [if_neg (by omega), if_pos ⟨h1, h2⟩]
  funext x
  unfold swN
  by_cases h1 : x = k + 1
  · rw [if_pos h1, l _ _ (by omega), r _ _ (by omega) (by omega), h1]
    rfl
  · rw [if_neg h1]
    by_cases h2 : x = k
    · rw [if_pos h2, h2, shR_at, shR_at]
    · rw [if_neg h2]
      by_cases h3 : k + 1 < x ∧ x ≤ m
      · rw [r _ _ h3.1 h3.2, r _ _ (by omega) h3.2]
      · rw [l _ _ (by omega), l _ _ (by omega)]
/-- from a up to b the same numbers, in whatever order; elsewhere as it was. -/
def SameIn (D D' : Nat → Nat) (a b : Nat) : Prop := (∀ i, ¬ (a ≤ i ∧ i < b) → D' i = D i) ∧ ∀ i, a ≤ i → i < b → ∃ j, a ≤ j ∧ j < b ∧ D' i = D j
theorem SameIn.refl (D : Nat → Nat) (a b : Nat) : SameIn D D a b := ⟨fun _ _ => rfl, fun i h1 h2 => ⟨i, h1, h2, rfl⟩⟩
theorem SameIn.trans {D D' D'' : Nat → Nat} {a b : Nat} (h : SameIn D D' a b) (h' : SameIn D' D'' a b) : SameIn D D'' a b := ⟨fun i hi => (h'.1 i hi).trans (h.1 i hi), fun i h1 h2 => by
  obtain ⟨j, g1, g2, g3⟩ := h'.2 i h1 h2
  obtain ⟨k, q1, q2, q3⟩ := h.2 j g1 g2
  exact ⟨k, q1, q2, g3.trans q3⟩⟩
theorem SameIn.mono {D D' : Nat → Nat} {a b a' b' : Nat} (h : SameIn D D' a b) (h1 : a' ≤ a) (h2 : b ≤ b') : SameIn D D' a' b' := ⟨fun i hi => h.1 i (by omega), fun i g1 g2 => by
  by_cases e : a ≤ i ∧ i < b
  · obtain ⟨j, q1, q2, q3⟩ := h.2 i e.1 e.2
    exact ⟨j, by omega, by omega, q3⟩
  · exact ⟨i, g1, g2, h.1 i e⟩⟩
theorem SameIn.lt {D D' : Nat → Nat} {a b n : Nat} (h : SameIn D D' a b) (hb : b ≤ n) (hD : ∀ i, i < n → D i < n) : ∀ i, i < n → D' i < n := fun i hi => by
  by_cases e : a ≤ i ∧ i < b
  · obtain ⟨j, q1, q2, q3⟩ := h.2 i e.1 e.2
    rw [q3]
    exact hD j (by omega)
  · rw [h.1 i e]
    exact hD i hi
theorem same_rot {D : Nat → Nat} {a m b : Nat} (h : a ≤ m) (h' : m ≤ b) : SameIn D (rotN D a m b) a b := ⟨fun i hi => by
  unfold rotN
  rw [if_neg (by omega), if_neg (by omega)], fun i h1 h2 => by
  unfold rotN
  by_cases e : i < a + (b - m)
  · exact ⟨i - a + m, by omega, by omega, if_pos ⟨h1, e⟩⟩
  · exact ⟨i - (a + (b - m)) + a, by omega, by omega, by rw [if_neg (by omega), if_pos (by omega)]⟩⟩
theorem same_shL {D : Nat → Nat} {a e b : Nat} (h : a < e) (hb : e ≤ b) : SameIn D (shL D a e) a b := ⟨fun i hi => by
  unfold shL
  rw [if_neg (by omega), if_neg (by omega)], fun i h1 h2 => by
  unfold shL
  by_cases g : i + 1 < e
  · exact ⟨i + 1, by omega, by omega, if_pos ⟨h1, g⟩⟩
  · by_cases g' : i + 1 = e
    · exact ⟨a, by omega, by omega, by rw [if_neg (by omega), if_pos (by omega)]⟩
    · exact ⟨i, h1, h2, by rw [if_neg (by omega), if_neg (by omega)]⟩⟩
theorem same_shR {D : Nat → Nat} {a m k b : Nat} (h : a ≤ k) (hk : k ≤ m) (hb : m < b) : SameIn D (shR D m k) a b := ⟨fun i hi => by
  unfold shR
  rw [if_neg (by omega), if_neg (by omega)], fun i h1 h2 => by
  unfold shR
  by_cases g : i = k
  · exact ⟨m, by omega, by omega, if_pos g⟩
  · by_cases g' : k < i ∧ i ≤ m
    · exact ⟨i - 1, by omega, by omega, by rw [if_neg g, if_pos g']⟩
    · exact ⟨i, h1, h2, by rw [if_neg g, if_neg g']⟩⟩
section
variable {K : Nat → Int} {D : Nat → Nat}
/-- from a up to b: in order. -/
def SortedN (K : Nat → Int) (D : Nat → Nat) (a b : Nat) : Prop := ∀ i j, a ≤ i → i < j → j < b → AheadOf K (D i) (D j)
theorem SortedN.sub {a b a' b' : Nat} (h : SortedN K D a b) (h1 : a ≤ a') (h2 : b' ≤ b) : SortedN K D a' b' := fun i j g1 g2 g3 => h i j (by omega) g2 (by omega)
theorem SortedN.far {D' : Nat → Nat} {a b : Nat} (h : SortedN K D a b) (h' : ∀ i, a ≤ i → i < b → D' i = D i) : SortedN K D' a b := fun i j g1 g2 g3 => by
  rw [h' i g1 (by omega), h' j (by omega) g3]
  exact h i j g1 g2 g3
/-- the first numbers are less than the second ones. -/
def Cross (D : Nat → Nat) (a m b : Nat) : Prop := ∀ i j, a ≤ i → i < m → m ≤ j → j < b → D i < D j
theorem cross_ahead {x y : Nat} (h : x < y) : AheadOf K y x ↔ K y < K x := ⟨fun g => by
  rcases g with g | ⟨_, g⟩
  · exact g
  · omega, fun g => .inl g⟩
theorem not_cross_ahead {x y : Nat} (h : x < y) (hn : ¬ K y < K x) : AheadOf K x y := by
  rcases aheadOf_or (V := K) (show x ≠ y by omega) with g | g
  · exact g
  · exact absurd ((cross_ahead h).1 g) hn
/-- one number put in from the right. -/
theorem shR_sorted {a m k : Nat} (hak : a ≤ k) (hkm : k ≤ m) (hs : SortedN K D a m) (h1 : ∀ x, a ≤ x → x < k → AheadOf K (D x) (D m)) (h2 : ∀ x, k ≤ x → x < m → AheadOf K (D m) (D x)) : SortedN K (shR D m k) a (m + 1) := fun i j g1 g2 g3 => by
  unfold shR
  by_cases e1 : i = k
  · rw [if_pos e1, if_neg (by omega), if_pos (by omega)]
    exact h2 _ (by omega) (by omega)
  · rw [if_neg e1]
    by_cases e2 : j = k
    · rw [if_pos e2, if_neg (by omega)]
      exact h1 i g1 (by omega)
    · rw [if_neg e2]
      by_cases e3 : k < i ∧ i ≤ m
      · rw [if_pos e3, if_pos (by omega)]
        exact hs _ _ (by omega) (by omega) (by omega)
      · rw [if_neg e3]
        by_cases e4 : k < j ∧ j ≤ m
        · rw [if_pos e4]
          exact hs i (j - 1) g1 (by omega) (by omega)
        · rw [if_neg e4]
          exact hs i j g1 g2 (by omega)
/-- one number put in from the left. -/
theorem shL_sorted {a e b : Nat} (hae : a < e) (heb : e ≤ b) (hs : SortedN K D (a + 1) b) (h1 : ∀ x, a < x → x < e → AheadOf K (D x) (D a)) (h2 : ∀ x, e ≤ x → x < b → AheadOf K (D a) (D x)) : SortedN K (shL D a e) a b := fun i j g1 g2 g3 => by
  unfold shL
  by_cases e1 : a ≤ i ∧ i + 1 < e
  · rw [if_pos e1]
    by_cases e2 : a ≤ j ∧ j + 1 < e
    · rw [if_pos e2]
      exact hs _ _ (by omega) (by omega) (by omega)
    · rw [if_neg e2]
      by_cases e3 : a ≤ j ∧ j + 1 = e
      · rw [if_pos e3]
        exact h1 _ (by omega) (by omega)
      · rw [if_neg e3]
        exact hs _ _ (by omega) (by omega) g3
  · rw [if_neg e1, if_neg (show ¬ (a ≤ j ∧ j + 1 < e) by omega), if_neg (show ¬ (a ≤ j ∧ j + 1 = e) by omega)]
    by_cases e3 : a ≤ i ∧ i + 1 = e
    · rw [if_pos e3]
      exact h2 j (by omega) g3
    · rw [if_neg e3]
      exact hs i j (by omega) g2 g3
/-- where the halves are parted. -/
def symLo (a m b mid : Nat) : Nat := if mid < m then mid + m - b else a
def symHi (m mid : Nat) : Nat := if mid < m then mid else m
/-- what is known behind a search for it. -/
structure SymAt (K : Nat → Int) (D : Nat → Nat) (a m b mid st : Nat) : Prop where
  lo : symLo a m b mid ≤ st
  hi : st ≤ symHi m mid
  one : ∀ c, symLo a m b mid ≤ c → c < st → AheadOf K (D c) (D (mid + m - 1 - c))
  two : ∀ c, st ≤ c → c < symHi m mid → AheadOf K (D (mid + m - 1 - c)) (D c)
structure SymParts (K : Nat → Int) (D D1 : Nat → Nat) (a m b mid st en : Nat) : Prop where
  ord : a ≤ st ∧ st ≤ mid ∧ st ≤ m ∧ m ≤ en ∧ en ≤ b ∧ mid ≤ en
  s1 : SortedN K D1 a st
  s2 : SortedN K D1 st mid
  s3 : SortedN K D1 mid en
  s4 : SortedN K D1 en b
  c1 : Cross D1 a st mid
  c2 : Cross D1 mid en b
  all : ∀ i j, a ≤ i → i < mid → mid ≤ j → j < b → AheadOf K (D1 i) (D1 j)
  same : SameIn D D1 a b
theorem SortedN.le {a b i j : Nat} {x : Nat} (h : SortedN K D a b) (h1 : a ≤ i) (h2 : i ≤ j) (h3 : j < b) (hx : AheadOf K (D j) x) : AheadOf K (D i) x := by
  by_cases e : i = j
  · rw [e]; exact hx
  · exact aheadOf_trans (h i j h1 (by omega) h3) hx
theorem SortedN.ge {a b i j : Nat} {x : Nat} (h : SortedN K D a b) (h1 : a ≤ i) (h2 : i ≤ j) (h3 : j < b) (hx : AheadOf K x (D i)) : AheadOf K x (D j) := by
  by_cases e : i = j
  · rw [← e]; exact hx
  · exact aheadOf_trans hx (h i j h1 (by omega) h3)
theorem sym_parts {a m b mid st : Nat} (_ham : a < m) (hmb : m < b) (hm1 : 2 * mid ≤ a + b) (hm2 : a + b ≤ 2 * mid + 1) (hs1 : SortedN K D a m) (hs2 : SortedN K D m b) (hc : Cross D a m b) (hS : SymAt K D a m b mid st) :
    SymParts K D (rotN D st m (mid + m - st)) a m b mid st (mid + m - st) := by
  have hlo := hS.lo
  have hhi := hS.hi
  have bl : a ≤ symLo a m b mid := by unfold symLo; split <;> omega
  have bh : symHi m mid ≤ mid ∧ symHi m mid ≤ m := by unfold symHi; split <;> omega
  have hen : mid + m - st ≤ b := by
    unfold symLo at hlo
    split at hlo
    · omega
    · unfold symHi at hhi
      split at hhi <;> omega
  have ord : a ≤ st ∧ st ≤ mid ∧ st ≤ m ∧ m ≤ mid + m - st ∧ mid + m - st ≤ b ∧ mid ≤ mid + m - st := by omega
  obtain ⟨en, he⟩ : ∃ en, mid + m - st = en := ⟨_, rfl⟩
  rw [he] at ord hen ⊢
  have r1 : ∀ x, x < st → rotN D st m en x = D x := fun x hx => by
    unfold rotN
    rw [if_neg (by omega), if_neg (by omega)]
  have r2 : ∀ x, st ≤ x → x < mid → rotN D st m en x = D (x - st + m) := fun x h1 h2 => by
    unfold rotN
    rw [if_pos (by omega)]
  have r3 : ∀ x, mid ≤ x → x < en → rotN D st m en x = D (x - mid + st) := fun x h1 h2 => by
    unfold rotN
    rw [if_neg (by omega), if_pos (by omega)]
    exact at_eq D (by omega)
  have r4 : ∀ x, en ≤ x → rotN D st m en x = D x := fun x hx => by
    unfold rotN
    rw [if_neg (by omega), if_neg (by omega)]
  refine ⟨ord, fun i j g1 g2 g3 => ?_, fun i j g1 g2 g3 => ?_, fun i j g1 g2 g3 => ?_, fun i j g1 g2 g3 => ?_, fun i j g1 g2 g3 g4 => ?_, fun i j g1 g2 g3 g4 => ?_, fun i j g1 g2 g3 g4 => ?_, (same_rot ord.2.2.1 ord.2.2.2.1).mono ord.1 ord.2.2.2.2.1⟩
  · rw [r1 i (by omega), r1 j g3]
    exact hs1 i j g1 g2 (by omega)
  · rw [r2 i g1 (by omega), r2 j (by omega) g3]
    exact hs2 _ _ (by omega) (by omega) (by omega)
  · rw [r3 i g1 (by omega), r3 j (by omega) g3]
    exact hs1 _ _ (by omega) (by omega) (by omega)
  · rw [r4 i g1, r4 j (by omega)]
    exact hs2 i j (by omega) g2 g3
  · rw [r1 i g2, r2 j g3 g4]
    exact hc _ _ g1 (by omega) (by omega) (by omega)
  · rw [r3 i g1 g2, r4 j g3]
    exact hc _ _ (by omega) (by omega) (by omega) g4
  · by_cases e1 : i < st
    · rw [r1 i e1]
      by_cases e2 : j < en
      · rw [r3 j g3 e2]
        exact hs1 _ _ g1 (by omega) (by omega)
      · rw [r4 j (by omega)]
        have hst : symLo a m b mid < st := by
          apply Nat.lt_of_le_of_ne hlo
          intro e
          unfold symLo at e
          split at e <;> omega
        have h1 := hS.one (st - 1) (by omega) (by omega)
        rw [show mid + m - 1 - (st - 1) = en by omega] at h1
        exact hs1.le g1 (show i ≤ st - 1 by omega) (by omega) (hs2.ge (by omega) (show en ≤ j by omega) g4 h1)
    · rw [r2 i (by omega) g2]
      by_cases e2 : j < en
      · rw [r3 j g3 e2]
        have hst : st < symHi m mid := by
          unfold symHi
          split <;> omega
        have h1 := hS.two st (Nat.le_refl _) hst
        exact hs2.le (show m ≤ i - st + m by omega) (show i - st + m ≤ mid + m - 1 - st by omega) (by omega) (hs1.ge (by omega) (show st ≤ j - mid + st by omega) (by omega) h1)
      · rw [r4 j (by omega)]
        exact hs2 _ _ (by omega) (by omega) g4
/-- what merging leaves. -/
def Merged (K : Nat → Int) (D D' : Nat → Nat) (a b : Nat) : Prop := SameIn D D' a b ∧ SortedN K D' a b
theorem SymParts.done {D1 D2 D3 : Nat → Nat} {a m b mid st en : Nat} (h : SymParts K D D1 a m b mid st en) (hm : a ≤ mid ∧ mid ≤ b) (h2 : Merged K D1 D2 a mid) (h3 : Merged K D2 D3 mid b) : Merged K D D3 a b := by
  refine ⟨(h.same.trans (h2.1.mono (Nat.le_refl _) hm.2)).trans (h3.1.mono hm.1 (Nat.le_refl _)), fun i j g1 g2 g3 => ?_⟩
  by_cases e1 : i < mid
  · by_cases e2 : j < mid
    · rw [h3.1.1 i (by omega), h3.1.1 j (by omega)]
      exact h2.2 i j g1 g2 e2
    · obtain ⟨i', q1, q2, q3⟩ := h2.1.2 i g1 e1
      obtain ⟨j', p1, p2, p3⟩ := h3.1.2 j (by omega) g3
      rw [h3.1.1 i (by omega), q3, p3, h2.1.1 j' (by omega)]
      exact h.all i' j' q1 q2 p1 p2
  · exact h3.2 i j (by omega) g2 g3
theorem SymParts.left {D1 : Nat → Nat} {a m b mid st en : Nat} (h : SymParts K D D1 a m b mid st en) (hn : ¬ (a < st ∧ st < mid)) : Merged K D1 D1 a mid := ⟨SameIn.refl _ _ _, by
  have := h.ord
  by_cases e : st = a
  · rw [← e]; exact h.s2
  · have e2 : st = mid := by omega
    rw [← e2]; exact h.s1⟩
theorem SymParts.right {D1 D2 : Nat → Nat} {a m b mid st en : Nat} (h : SymParts K D D1 a m b mid st en) (h2 : SameIn D1 D2 a mid) (hn : ¬ (mid < en ∧ en < b)) : Merged K D2 D2 mid b := ⟨SameIn.refl _ _ _, by
  have := h.ord
  refine SortedN.far ?_ fun i h1 _ => h2.1 i (by omega)
  by_cases e : en = mid
  · rw [← e]; exact h.s4
  · have e2 : en = b := by omega
    rw [← e2]; exact h.s3⟩

/-- blocks of B places from lo up to hi, each in order, each with its own numbers. -/
def Blk (K : Nat → Int) (D : Nat → Nat) (B lo hi : Nat) : Prop := ∀ q, lo ≤ q * B → q * B < hi → SortedN K D (q * B) (min (q * B + B) hi) ∧ ∀ i, q * B ≤ i → i < min (q * B + B) hi → q * B ≤ D i ∧ D i < min (q * B + B) hi
theorem mul_next {q r B : Nat} (h : q * B < r * B) : q * B + B ≤ r * B := by
  have h1 : q < r := Nat.lt_of_mul_lt_mul_right h
  have h2 : (q + 1) * B ≤ r * B := Nat.mul_le_mul_right B h1
  rw [Nat.succ_mul] at h2
  exact h2
theorem Blk.none (B : Nat) : Blk K D B 0 0 := fun _ _ h => absurd h (Nat.not_lt_zero _)
/-- one block more, up to hi. -/
theorem Blk.snoc {D' : Nat → Nat} {B r hi : Nat} (h : Blk K D B 0 (r * B)) (h1 : r * B ≤ hi) (h2 : hi ≤ r * B + B) (hS : SameIn D D' (r * B) hi) (hs : SortedN K D' (r * B) hi) (hin : ∀ i, r * B ≤ i → i < hi → r * B ≤ D i ∧ D i < hi) : Blk K D' B 0 hi := fun q _ hq => by
  by_cases e : q * B < r * B
  · have := mul_next e
    obtain ⟨g1, g2⟩ := h q (Nat.zero_le _) e
    rw [Nat.min_eq_left (by omega)] at g1 g2 ⊢
    refine ⟨g1.far fun i _ hi => hS.1 i (by omega), fun i h3 h4 => ?_⟩
    rw [hS.1 i (by omega)]
    exact g2 i h3 h4
  · by_cases e' : r * B < q * B
    · have := mul_next e'
      omega
    · have e2 : q * B = r * B := by omega
      rw [e2, Nat.min_eq_right (by omega)]
      refine ⟨hs, fun i h3 h4 => ?_⟩
      obtain ⟨j, g1, g2, g3⟩ := hS.2 i h3 h4
      rw [g3]
      exact hin j g1 g2
theorem Blk.rest {D' : Nat → Nat} {B a b hi : Nat} (h : Blk K D B a hi) (hab : a ≤ b) (hS : SameIn D D' a b) : Blk K D' B b hi := fun q h1 h2 => by
  obtain ⟨g1, g2⟩ := h q (by omega) h2
  refine ⟨g1.far fun i hi _ => hS.1 i (by omega), fun i h3 h4 => ?_⟩
  rw [hS.1 i (by omega)]
  exact g2 i h3 h4
theorem Blk.one {B r a n : Nat} (ha : a = r * (2 * B)) (h : Blk K D B a n) (h1 : a ≤ n) (hn : n ≤ a + B) : SortedN K D a n ∧ ∀ i, a ≤ i → i < n → a ≤ D i ∧ D i < n := by
  by_cases e : a = n
  · exact ⟨fun i j _ _ _ => by omega, fun i _ _ => by omega⟩
  · have e1 : 2 * r * B = a := by rw [ha, Nat.mul_comm 2 r, Nat.mul_assoc]
    have := h (2 * r) (by omega) (by omega)
    rw [e1, Nat.min_eq_right (by omega)] at this
    exact this
theorem Blk.two {B r a n : Nat} (ha : a = r * (2 * B)) (h : Blk K D B a n) (hB : 0 < B) (hn : a + B < n) {hi : Nat} (hhi : hi = min (a + 2 * B) n) : SortedN K D a (a + B) ∧ SortedN K D (a + B) hi ∧ Cross D a (a + B) hi ∧ ∀ i, a ≤ i → i < hi → a ≤ D i ∧ D i < hi := by
  have e1 : 2 * r * B = a := by rw [ha, Nat.mul_comm 2 r, Nat.mul_assoc]
  have e2 : (2 * r + 1) * B = a + B := by rw [Nat.succ_mul, e1]
  have h1 := h (2 * r) (by omega) (by omega)
  rw [e1, Nat.min_eq_left (by omega)] at h1
  have h2 := h (2 * r + 1) (by omega) (by omega)
  rw [e2, show min (a + B + B) n = hi by omega] at h2
  refine ⟨h1.1, h2.1, fun i j g1 g2 g3 g4 => ?_, fun i g1 g2 => ?_⟩
  · have q1 := h1.2 i g1 g2
    have q2 := h2.2 j g3 g4
    omega
  · by_cases e : i < a + B
    · have := h1.2 i g1 e
      omega
    · have := h2.2 i (by omega) g2
      omega
theorem Blk.done {B n : Nat} (h : Blk K D B 0 n) (hn : n ≤ B) : SortedN K D 0 n ∧ ∀ i, i < n → D i < n := by
  by_cases h0 : n = 0
  · subst h0
    exact ⟨fun i j _ _ hj => absurd hj (Nat.not_lt_zero _), fun i hi => absurd hi (Nat.not_lt_zero _)⟩
  · have := h 0 (by omega) (by omega)
    rw [Nat.zero_mul, Nat.min_eq_right (by omega)] at this
    exact ⟨this.1, fun i hi => (this.2 i (Nat.zero_le _) hi).2⟩
end
end Go.Proofs.YtbkdloebbbmkaaaGreat

namespace Go.Proofs.YtbkdloebbbmkaaaGreat
open Go.RowKit

/-- what is asked of cmp: which of two numbers below n has the lesser key. -/
structure CmpAt (w0 : World) (s n g : Nat) (cb : Array Value) (K : Nat → Int) : Prop where
  eg : ∀ args w, (callFunc g args).run Tryz.prog w = .ok (.enter g args) w
  cmp : ∀ W : World, Below s w0 W → ∀ x y, x < n → y < n → ∃ v : Int, (v < 0 ↔ K x < K y) ∧ ∀ t, Calls Tryz.prog g (#[.int .i64 (x : Int), .int .i64 (y : Int)] ++ cb) (W.drewN t) fun e w' => e = .returned (.int .i64 v) ∧ ∃ q, w' = (W.drewN t).drewN q
/-- a row of numbers below n, as it lies in block s. -/
structure StAt (w0 w : World) (s n : Nat) (D : Nat → Nat) : Prop where
  lies : Lies w s 3 (icells (xi D) n)
  lt : ∀ i, i < n → D i < n
  below : Below s w0 w
section
variable {w0 w : World} {s n : Nat} {D : Nat → Nat}
theorem StAt.cell (h : StAt w0 w s n D) {i : Nat} (hi : i < n) : w.cell? ⟨s, i, none⟩ = some (.int .i64 ((D i : Nat) : Int)) := by
  rw [h.lies.cell]
  exact icells_at _ _ _ hi
theorem StAt.free (h : StAt w0 w s n D) (i : Nat) : w.frozen? ⟨s, i, none⟩ = false := h.lies.free i
theorem StAt.drewN (h : StAt w0 w s n D) (q : Nat) : StAt w0 (w.drewN q) s n D := ⟨h.lies.drewN q, h.lt, below_drewN' h.below q⟩
theorem StAt.swap (h : StAt w0 w s n D) {i j : Nat} (hi : i < n) (hj : j < n) : StAt w0 ((w.setCell ⟨s, i, none⟩ (.int .i64 ((D j : Nat) : Int))).setCell ⟨s, j, none⟩ (.int .i64 ((D i : Nat) : Int))) s n (swN D i j) := by
  refine ⟨?_, fun k hk => ?_, (h.below.setCell (p := ⟨s, i, none⟩) (Nat.le_refl _) _).setCell (p := ⟨s, j, none⟩) (Nat.le_refl _) _⟩
  · have h1 := (h.lies.put i (.int .i64 ((D j : Nat) : Int))).put j (.int .i64 ((D i : Nat) : Int))
    rw [icells_put, icells_put] at h1
    rw [icells_congr (U' := fun k => if k = j then ((D i : Nat) : Int) else if k = i then ((D j : Nat) : Int) else xi D k) (fun k _ => ?_)]
    · exact h1
    · unfold xi swN
      by_cases e1 : k = i
      · rw [if_pos e1]
        by_cases e2 : k = j
        · rw [if_pos e2, ← e1, e2]
        · rw [if_neg e2, if_pos e1]
      · rw [if_neg e1, if_neg e1]
        split <;> rfl
  · unfold swN
    split
    · exact h.lt j hj
    · split
      · exact h.lt i hi
      · exact h.lt k hk

end
end Go.Proofs.YtbkdloebbbmkaaaGreat

namespace Go.Proofs.YtbkdloebbbmkaaaGreat
open Go.RowKit
section
variable {w0 w : World} {s n g : Nat} {cb : Array Value} {K : Nat → Int} {D : Nat → Nat}

end
end Go.Proofs.YtbkdloebbbmkaaaGreat

namespace Go.Proofs.YtbkdloebbbmkaaaGreat
open Go.RowKit
section
variable {w0 w : World} {s n g : Nat} {cb : Array Value} {K : Nat → Int} {D : Nat → Nat}

end
end Go.Proofs.YtbkdloebbbmkaaaGreat

namespace Go.Proofs.YtbkdloebbbmkaaaGreat
open Go.RowKit
section
variable {w0 w : World} {s n g : Nat} {cb : Array Value} {K : Nat → Int} {D : Nat → Nat}

end
end Go.Proofs.YtbkdloebbbmkaaaGreat

namespace Go.Proofs.YtbkdloebbbmkaaaGreat
open Go.RowKit

/-- what cmp.Compare tells of two ints. -/
def cmpI (x y : Int) : Int := if x < y then -1 else if y < x then 1 else 0
theorem cmpI_neg (x y : Int) : cmpI x y < 0 ↔ x < y := by
  unfold cmpI
  split
  · omega
  · split <;> omega
set_option maxRecDepth 100000 in
theorem notNaN_any (x : Int) (w : World) : Calls Tryz.prog 113 #[.int .i64 x] w fun e w' => e = .returned (.bool false) ∧ w = w' := by
  have h : (x != x) = false := by simp
  go_enter Tryz.func113, Tryz.ntmps113
  go_wp2_with fail
  go_ret
  exact ⟨rfl, rfl⟩
section
variable {w0 w : World} {s n g : Nat} {cb : Array Value} {K : Nat → Int} {D : Nat → Nat}

end
end Go.Proofs.YtbkdloebbbmkaaaGreat

namespace Go.Proofs.YtbkdloebbbmkaaaGreat
open Go.RowKit

/-- what followers leaves. -/
def FollowPost (w : World) (n : Nat) (V : Nat → Int) (e : Ending) (w' : World) : Prop := ∃ (g : Nat) (X : Nat → Int), e = .returned (.slice (some ⟨g, 0, none⟩) n n) ∧ Lies w' g 3 (icells X n) ∧ NextOf V n X ∧ Below w.heap.size w w'

end Go.Proofs.YtbkdloebbbmkaaaGreat

namespace Go.Proofs.YtbkdloebbbmkaaaGreat
open Go.RowKit

/-- what round leaves. -/
def RoundPost (w : World) (n wh : Nat) (V X : Nat → Int) (e : Ending) (w' : World) : Prop :=
  (FullR X n wh → ∃ s, e = .returned (.tuple #[.slice (some ⟨s, 0, none⟩) n n, .int .i64 0]) ∧ Lies w' s 3 (icells (fun k => V (nxs X wh (k + 1))) n)) ∧
  (¬ FullR X n wh → e = .returned (.tuple #[.slice none 0 0, .int .i64 10])) ∧ Below w.heap.size w w'
theorem itsR_lies {w : World} {s n : Nat} {U : Nat → Int} (hn : n ≤ 4194304) (h : Lies w s 3 (icells U n)) (hU : ∀ i, i < n → -9223372036854775808 ≤ U i ∧ U i ≤ 9223372036854775807) : ItsR w (some ⟨s, 0, none⟩) n n U := ⟨(fun e => by cases e), Nat.le_refl _, by unfold maxLen; omega, fun k hk => ⟨_, rfl, h.lt, by
  rw [Addr.add_mid, Nat.zero_add, h.cell]
  exact icells_at _ _ _ hk, hU k hk⟩⟩

set_option maxRecDepth 100000 in
set_option maxHeartbeats 1600000 in
theorem bwMake_any (A : Option Addr) (n c : Nat) (V : Nat → Int) (A' : Option Addr) (n' c' : Nat) (S : Nat → Int) (w : World) (hn : n ≤ 4194303) (hn' : n' ≤ 4194303) (ho : ItsR w A n c V) (ho' : ItsR w A' n' c' S) :
    Calls Tryz.prog 46 #[.slice A n c, .slice A' n' c'] w (BMakePost w n n' V S) := by
  unfold BMakePost
  have HO := Lib.hid ho.2.2.2
  have HTurn := Lib.hid (turn_any A' n' c' S w (by omega) ho'.2.2.2)
  by_cases hnn : n = n'
  · subst hnn
    have e1 : ((n : Int) != (n : Int)) = false := by simp
    clear ho ho'
    go_enter Tryz.func46, Tryz.ntmps46
    go_wp2_with fail
    refine HTurn.out.mono ?_
    rintro e w1 ⟨h1, h2, k1⟩
    by_cases hP : IsPerm S n
    · obtain ⟨AR, cR, R, rfl, hT, hR⟩ := h1 hP
      have HP := Lib.hid hP
      have HT := Lib.hid hT
      have HR := Lib.hid hR.2.2.2
      have HK1 := Lib.hid k1
      have HO1 : Hid (Its w1 w1.heap.size A n V) := Lib.hid ((HO.out.below k1).mono_ k1.size)
      obtain ⟨s, za⟩ : ∃ s, w1.heap.size = s := ⟨_, rfl⟩
      have hMk := make_ints0 w1 n (by omega)
      have hsz := k1.size
      rw [za] at hMk HO1 HR hsz
      obtain ⟨wa, hwa⟩ : ∃ wa, w1.alloc (.cells (icells (fun _ => 0) n).toArray 3) = wa := ⟨_, rfl⟩
      have ka : Below s w1 wa := by rw [← hwa, ← za]; exact (Below.refl _ _).alloc (Nat.le_refl _) _
      have l1 : Lies wa s 3 (icells (fun _ => 0) n) := by rw [← hwa, ← za]; exact lies_new w1 _ _
      rw [hwa] at hMk
      have HKa : Hid (Below w.heap.size w wa) := Lib.hid (k1.trans (ka.mono hsz))
      have HOa : Hid (Its wa s A n V) := Lib.hid (HO1.out.below ka)
      have HRa : Hid (Its wa s AR n R) := Lib.hid (HR.out.below ka)
      have HLa := Lib.hid l1
      have HSz := Lib.hid hsz
      clear h1 h2 hP hT hR k1 za hwa ka l1 HO1 HR HK1 HTurn hsz
      go_wp2_with fail
      go_loopw [28] (fun v wr => ∃ p : Nat, p ≤ n ∧ v = .int .i64 (p : Int) ∧ Hid (∃ U, Lies wr s 3 (icells U n) ∧ ∀ i, i < n → aheadN n (S i).toNat < p → U i = V (aheadN n (S i).toNat)) ∧ Hid (Below s wa wr)) (fun v _ => n - (intOf v).toNat)
      case atStart => exact ⟨0, Nat.zero_le _, rfl, Lib.hid ⟨_, HLa.out, fun i _ h => absurd h (Nat.not_lt_zero _)⟩, Lib.hid (Below.refl _ _)⟩
      case round =>
        clear HLa hMk
        obtain ⟨p, hp, rfl, hU, hb⟩ := hrel
        by_cases hlt : p < n
        · have hlti : (p : Int) < (n : Int) := by omega
          obtain ⟨ad, rfl, _, hc, _⟩ := HOa.out.below hb.out p hlt
          obtain ⟨q, hq⟩ : ∃ q, (p + 1) % n = q := ⟨_, rfl⟩
          have hqn : q < n := by rw [← hq]; exact Nat.mod_lt _ (by omega)
          have hqp : aheadN n q = p := by
            unfold aheadN
            by_cases e : p + 1 = n
            · have : q = 0 := by rw [← hq, e, Nat.mod_self]
              rw [if_pos this]
              omega
            · have : q = p + 1 := by rw [← hq, Nat.mod_eq_of_lt (by omega)]
              rw [if_neg (by omega)]
              omega
          obtain ⟨i, hi, hSi⟩ := HP.out.onto hqn
          have hRq : R q = (i : Int) := by
            have := HT.out i hi
            rwa [hSi, Int.toNat_natCast] at this
          obtain ⟨adR, rfl, _, hcR, _⟩ := HRa.out.below hb.out q hqn
          rw [hRq] at hcR
          obtain ⟨U, hL, hU⟩ := hU.out
          have hci : wr.cell? ⟨s, i, none⟩ = some (.int .i64 (U i)) := by
            rw [hL.cell, icells_at _ _ _ hi]
          have hfi := hL.free i
          have HU2 : Hid (∃ U', Lies (wr.setCell ⟨s, i, none⟩ (.int .i64 (V p))) s 3 (icells U' n) ∧ ∀ i, i < n → aheadN n (S i).toNat < p + 1 → U' i = V (aheadN n (S i).toNat)) := Lib.hid ⟨_, by
            have := hL.put i (.int .i64 (V p))
            rw [icells_put] at this
            exact this, fun j hj hlt2 => by
            by_cases e : j = i
            · rw [if_pos e, e, hSi, Int.toNat_natCast, hqp]
            · rw [if_neg e]
              refine hU j hj (Nat.lt_of_le_of_ne (Nat.le_of_lt_succ hlt2) fun e2 => e ?_)
              have hr := HP.out.1 j hj
              have := aheadN_inj (n := n) (p := (S j).toNat) (q := q) (by omega) hqn (by rw [e2, hqp])
              exact HP.out.inj hj hi (by rw [hSi]; omega)⟩
          have HB2 : Hid (Below s wa (wr.setCell ⟨s, i, none⟩ (.int .i64 (V p)))) := Lib.hid (hb.out.setCell (p := ⟨s, i, none⟩) (Nat.le_refl _) _)
          have bqn : (q : Int) < (n : Int) := by omega
          have bin : (i : Int) < (n : Int) := by omega
          have w2 : IntKind.i64.wrap ((p : Int) + 1) = ((p + 1 : Nat) : Int) := by rw [IntWalk.i64_in _ (by omega)]; omega
          have hmod : (((p + 1 : Nat) : Int)).tmod (n : Int) = (q : Int) := by rw [← hq]; rfl
          have w3 : IntKind.i64.wrap (q : Int) = (q : Int) := IntWalk.i64_in _ (by omega)
          have n0 : ¬ n = 0 := by omega
          have n1 : ¬ (n : Int) = 0 := by omega
          have n2 : ((n : Int) == 0) = false := by rw [beq_eq_false_iff_ne]; omega
          have HP1 : Hid (p + 1 ≤ n) := Lib.hid hlt
          generalize V p = vp at hc HU2 HB2
          generalize U i = ui at hci
          generalize hp1 : p + 1 = p1 at w2 hmod HU2 HP1
          have hpp : p < p1 := by omega
          have hpn : p1 ≤ n := HP1.out
          clear hU hL hb hq hqp hSi hRq hp1
          go_wp2_with fail
          go_roundw
          case rel => exact ⟨p1, HP1.out, rfl, HU2, HB2⟩
          case measure => simp [intOf]; omega
        · have hin : p = n := by omega
          have hge : ¬ (p : Int) < (n : Int) := by omega
          rw [hin] at hU
          have HF : Hid (ItsR wr (some ⟨s, 0, none⟩) n n (turnI V n S)) := Lib.hid (by
            obtain ⟨U, h1, h2⟩ := hU.out
            have e : ∀ i, i < n → U i = turnI V n S i := fun i hi => by
              have hr := HP.out.1 i hi
              rw [h2 i hi (aheadN_lt (by omega)), turnI_at (p := (S i).toNat) (by omega)]
            refine itsR_lies (by omega) (by rw [← icells_congr e]; exact h1) fun i hi => ?_
            have hr := HP.out.1 i hi
            rw [turnI_at (p := (S i).toNat) (by omega)]
            exact HOa.out.small _ (aheadN_lt (by omega)))
          have HKr : Hid (Below w.heap.size w wr) := Lib.hid (HKa.out.trans (hb.out.mono HSz.out))
          clear hU hin hb
          go_wp2_with fail
          go_ret2
          exact ⟨fun _ => ⟨_, n, rfl, HF.out⟩, fun h => absurd HP.out h, HKr.out⟩
    · obtain ⟨AR, cR, rfl⟩ := h2 hP
      have HP := Lib.hid hP
      clear h1 h2 hP HTurn
      go_wp2_with fail
      go_ret2
      exact ⟨fun h => absurd h.2 HP.out, fun _ => ⟨none, 0, rfl⟩, k1⟩
  · have e1 : ((n' : Int) != (n : Int)) = true := by rw [bne_iff_ne]; omega
    have e2 : ¬ (n' : Int) = (n : Int) := by omega
    clear ho ho' HTurn
    go_enter Tryz.func46, Tryz.ntmps46
    go_wp2_with fail
    go_ret2
    exact ⟨fun h => absurd h.1 hnn, fun _ => ⟨none, 0, rfl⟩, Below.refl _ _⟩

set_option maxRecDepth 100000 in
set_option maxHeartbeats 1600000 in
theorem bwCounts_any (A : Option Addr) (n c : Nat) (V : Nat → Int) (al : Int) (w : World) (hn : n ≤ 4194303) (hal : al ≤ 4194303 ∨ 4194304 < al) (ho : ItsR w A n c V) :
    Calls Tryz.prog 49 #[.slice A n c, .int .i64 al] w (BCountsPost w n V al) := by
  unfold BCountsPost
  obtain ⟨r, hr⟩ : ∃ r : Bool, r = true ↔ RightS V n al := ⟨@decide _ (Classical.propDecidable _), @decide_eq_true_iff _ (Classical.propDecidable _)⟩
  have HFit := Lib.hid (bwFit_is A n c V al _ w (by omega) ho.2.2.2 r hr)
  have HR := Lib.hid hr
  rcases r with _ | _
  · clear hr ho
    go_enter Tryz.func49, Tryz.ntmps49
    go_wp2_with fail
    refine HFit.out.mono ?_
    rintro e w1 ⟨rfl, rfl⟩
    go_wp2_with fail
    go_ret2
    exact ⟨fun h => (by have := HR.out.2 h; cases this), fun _ => ⟨none, 0, rfl⟩, Below.refl _ _⟩
  · have hR := hr.1 rfl
    obtain ⟨m, rfl⟩ : ∃ m : Nat, al = (m : Int) := ⟨al.toNat, by have := hR.1.1; omega⟩
    have hm : m ≤ 4194303 := by have := hR.1.2.1; omega
    have hbe := below_any A n c V m w (by omega) hm ho.2.2.2 hR.2
    obtain ⟨m1, hm1⟩ : ∃ m1, m + 1 = m1 := ⟨_, rfl⟩
    rw [hm1] at hbe
    have HBe := Lib.hid hbe
    have HM := Lib.hid hm1
    clear hr ho hR hbe hm1
    go_enter Tryz.func49, Tryz.ntmps49
    go_wp2_with fail
    refine HFit.out.mono ?_
    rintro e w1 ⟨rfl, rfl⟩
    go_wp2_with fail
    refine HBe.out.mono ?_
    rintro e w1 ⟨rfl, h1, h2⟩
    have HF := Lib.hid (And.intro h1 h2)
    clear h1 h2 HBe HFit
    go_wp2_with fail
    go_ret2
    refine ⟨fun _ => ⟨some ⟨w.heap.size, 0, none⟩, m1, ?_, ?_⟩, fun h => absurd (HR.out.1 (by trivial)) h, HF.out.2⟩
    · rw [Int.toNat_natCast, HM.out]
      rfl
    · rw [Int.toNat_natCast, HM.out]
      exact itsR_lies (by have := HM.out; omega) HF.out.1 fun i hi => by
        have := belowI_le V n (i : Int)
        omega

end Go.Proofs.YtbkdloebbbmkaaaGreat

namespace Go.Proofs.YtbkdloebbbmkaaaGreat
open Go.RowKit Go.Shelf

attribute [local go_sem] Oper.semAt_some

theorem four_allocs {w1 : World} {s : Nat} (z1 : w1.heap.size = s) (o1 o2 o3 o4 : Obj) :
    ((((w1.alloc o1).alloc o2).alloc o3).alloc o4).drew.heap[s]? = some o1 ∧ ((((w1.alloc o1).alloc o2).alloc o3).alloc o4).drew.heap[s + 1]? = some o2 ∧ ((((w1.alloc o1).alloc o2).alloc o3).alloc o4).drew.heap[s + 1 + 1]? = some o3 ∧
      ((((w1.alloc o1).alloc o2).alloc o3).alloc o4).drew.heap[s + 1 + 1 + 1]? = some o4 ∧ Below s w1 ((((w1.alloc o1).alloc o2).alloc o3).alloc o4).drew ∧ ((((w1.alloc o1).alloc o2).alloc o3).alloc o4).drew.heap.size = s + 4 := by
  have y1 : (w1.alloc o1).heap.size = s + 1 := by rw [size_alloc, z1]
  have y2 : ((w1.alloc o1).alloc o2).heap.size = s + 1 + 1 := by rw [size_alloc, y1]
  have y3 : (((w1.alloc o1).alloc o2).alloc o3).heap.size = s + 1 + 1 + 1 := by rw [size_alloc, y2]
  have y4 : ((((w1.alloc o1).alloc o2).alloc o3).alloc o4).heap.size = s + 4 := by rw [size_alloc, y3]
  have n1 := World.alloc_heap_new w1 o1
  have n2 := World.alloc_heap_new (w1.alloc o1) o2
  have n3 := World.alloc_heap_new ((w1.alloc o1).alloc o2) o3
  have n4 := World.alloc_heap_new (((w1.alloc o1).alloc o2).alloc o3) o4
  rw [z1] at n1
  rw [y1] at n2
  rw [y2] at n3
  rw [y3] at n4
  have h2 : ∀ k, k < s + 1 → ((w1.alloc o1).alloc o2).heap[k]? = (w1.alloc o1).heap[k]? := fun k hk => Below.heap_alloc _ _ _ (by omega)
  have h3 : ∀ k, k < s + 1 + 1 → (((w1.alloc o1).alloc o2).alloc o3).heap[k]? = ((w1.alloc o1).alloc o2).heap[k]? := fun k hk => Below.heap_alloc _ _ _ (by omega)
  have h4 : ∀ k, k < s + 1 + 1 + 1 → ((((w1.alloc o1).alloc o2).alloc o3).alloc o4).heap[k]? = (((w1.alloc o1).alloc o2).alloc o3).heap[k]? := fun k hk => Below.heap_alloc _ _ _ (by omega)
  refine ⟨(h4 s (by omega)).trans ((h3 s (by omega)).trans ((h2 s (by omega)).trans n1)), (h4 _ (by omega)).trans ((h3 _ (by omega)).trans n2), (h4 _ (by omega)).trans n3, n4, ?_, y4⟩
  exact (((((Below.refl s w1).alloc (by omega) _).alloc (by omega) _).alloc (by omega) _).alloc (by omega) _).drew
theorem info_bool0 : (Tryz.prog.info? 4).map (fun i => (i.zero, i.size, i.bytes)) = some (some (Value.bool false), 1, 1) := by kernel_rfl
theorem zero_bools (n : Nat) : madeCells (Value.bool false).cells (n * 1) = (blcells (fun _ => false) n).toArray := by
  apply Array.ext'
  simp [madeCells, blcells, Value.cells, Array.toList_range]
  intro i h1
  simp [Nat.mod_one]
/-- make of ints: all 0. -/
theorem make_ints1 (w : World) (n : Nat) (hn : n ≤ 70000000) : (Instr.makeSlice 22 (.int .i64 (n : Int)) (.int .i64 (n : Int))).run Tryz.prog w = .ok (.slice (some ⟨w.heap.size, 0, none⟩) n n) (w.alloc (.cells (icells (fun _ => 0) n).toArray 3)) := by
  obtain ⟨i0, hi0, hz0, hs0, hb0⟩ := info_parts info_i64
  have h := run_make (P := Tryz.prog) w 22 3 i0 _ Tryz.underlying22 hi0 hz0 .i64 .i64 (n : Int) (n : Int) (by omega) (Int.le_refl _) (by rw [hb0]; omega) (by omega)
  rw [hs0, Int.toNat_natCast, zero_ints] at h
  exact h
/-- make of bools: all false. -/
theorem make_bools0 (w : World) (n : Nat) (hn : n ≤ 4194304) : (Instr.makeSlice 132 (.int .i64 (n : Int)) (.int .i64 (n : Int))).run Tryz.prog w = .ok (.slice (some ⟨w.heap.size, 0, none⟩) n n) (w.alloc (.cells (blcells (fun _ => false) n).toArray 4)) := by
  obtain ⟨i0, hi0, hz0, hs0, hb0⟩ := info_parts info_bool0
  have h := run_make (P := Tryz.prog) w 132 4 i0 _ Tryz.underlying132 hi0 hz0 .i64 .i64 (n : Int) (n : Int) (by omega) (Int.le_refl _) (by rw [hb0]; omega) (by omega)
  rw [hs0, Int.toNat_natCast, zero_bools] at h
  exact h
/-- how many of the numbers from place k on are y - 1. -/
def cI (X : Nat → Nat) (n k y : Nat) : Int := if y = 0 then 0 else ((Pl.cnt (fun p => decide (X p = y - 1)) n - Pl.cnt (fun p => decide (X p = y - 1)) k : Nat) : Int)
/-- as far as place k: the rising suffixes. -/
def upFrom (X : Nat → Nat) (n k q : Nat) : Bool := decide (k ≤ q) && up X n q
theorem cI_off {X : Nat → Nat} {n k y : Nat} (h : y ≠ X k + 1) : cI X n k y = cI X n (k + 1) y := by
  unfold cI
  by_cases h0 : y = 0
  · rw [if_pos h0, if_pos h0]
  · rw [if_neg h0, if_neg h0, Pl.cnt_succ, if_neg (by simp; omega)]
    rfl
theorem cI_at {X : Nat → Nat} {n k : Nat} (hk : k < n) : cI X n k (X k + 1) = cI X n (k + 1) (X k + 1) + 1 ∧ 0 ≤ cI X n (k + 1) (X k + 1) ∧ cI X n (k + 1) (X k + 1) ≤ (n : Int) := by
  have h1 := Pl.cnt_mono (fun p => decide (X p = X k + 1 - 1)) (show k + 1 ≤ n from hk)
  have h2 : Pl.cnt (fun p => decide (X p = X k + 1 - 1)) (k + 1) = Pl.cnt (fun p => decide (X p = X k + 1 - 1)) k + 1 := by rw [Pl.cnt_succ, if_pos (by simp)]
  have h3 := cnt_to (fun p => decide (X p = X k + 1 - 1)) n
  unfold cI
  rw [if_neg (by omega), if_neg (by omega)]
  omega
theorem cI_none (X : Nat → Nat) (n y : Nat) : cI X n n y = 0 := by
  unfold cI
  split
  · rfl
  · rw [Nat.sub_self]; rfl
theorem blcells_set (F : Nat → Bool) (n j : Nat) (x : Bool) : (blcells F n).set j (.bool x) = blcells (fun i => if i = j then x else F i) n := by
  apply List.ext_getElem?
  intro k
  rw [List.getElem?_set]
  by_cases hk : k < n
  · by_cases h : j = k
    · subst h
      rw [if_pos rfl, if_pos (by rw [blcells_length]; omega), blcells_at (fun i => if i = j then x else F i) n j hk]
      simp
    · have h' : k ≠ j := fun e => h e.symm
      simp [blcells_at _ _ _ hk, h, h']
  · rw [List.getElem?_eq_none (l := blcells (fun i => if i = j then x else F i) n) (by rw [blcells_length]; omega)]
    split
    · rw [if_neg (by rw [blcells_length]; omega)]
    · rw [List.getElem?_eq_none (by rw [blcells_length]; omega)]

/-- as far as x: the heads; behind them: how many of each. -/
def hI2 (X : Nat → Nat) (n x y : Nat) : Int := if y ≤ x then ((hd X n y : Nat) : Int) else cI X n 0 y
theorem hI2_zero {X : Nat → Nat} {n : Nat} (y : Nat) : cI X n 0 y = hI2 X n 0 y := by
  unfold hI2
  split
  · obtain rfl : y = 0 := by omega
    rw [hd_zero]
    rfl
  · rfl
theorem hI2_step {X : Nat → Nat} {n x : Nat} : hI2 X n x (x + 1) + hI2 X n x x = hI2 X n (x + 1) (x + 1) ∧ 0 ≤ hI2 X n x (x + 1) ∧ hI2 X n x (x + 1) ≤ (n : Int) ∧ 0 ≤ hI2 X n x x ∧ hI2 X n x x ≤ (n : Int) := by
  have h1 := cnt_below X x n
  have h2 := cnt_to (fun p => decide (X p = x)) n
  have h3 := hd_to (X := X) (n := n) x
  unfold hI2 cI
  rw [if_neg (by omega), if_neg (by omega), if_pos (Nat.le_refl _), if_pos (Nat.le_refl _), Nat.add_sub_cancel]
  have h4 : Pl.cnt (fun p => decide (X p = x)) 0 = 0 := rfl
  rw [h4]
  unfold hd at h3 ⊢
  omega
theorem hI2_off {X : Nat → Nat} {n x y : Nat} (h : y ≠ x + 1) : hI2 X n x y = hI2 X n (x + 1) y := by
  unfold hI2
  by_cases h1 : y ≤ x
  · rw [if_pos h1, if_pos (by omega)]
  · rw [if_neg h1, if_neg (by omega)]
/-- what lies while the row is made. -/
structure RIn (w : World) (lo : Nat) (A : Option Addr) (n c b : Nat) (X : Nat → Nat) (g e h v : Nat) (ms : List Nat) (F : Nat → Bool) (H : Nat → Int) (W : World) : Prop where
  t0 : W.cell? ⟨lo, 0, none⟩ = some (.slice A n c)
  head : Lies W g 134 [.slice A n c, .slice (some ⟨e, 0, none⟩) n n, .slice (some ⟨h, 0, none⟩) (b + 1) (b + 1)]
  less : Lies W e 4 (blcells F n)
  heads : Lies W h 3 (icells H (b + 1))
  var : Lies W v 114 [.pointer (some ⟨g, 0, none⟩)]
  its : Its W lo A n (xi X)
  below : Below lo w W
  size : lo + 5 ≤ W.heap.size
  marks : ∀ d ∈ ms, W.heap[d]? = some (.deferred (some []))
section
variable {w W W' : World} {lo n c b g e h v : Nat} {A : Option Addr} {X : Nat → Nat} {ms : List Nat} {F : Nat → Bool} {H : Nat → Int}
theorem RIn.off {p : Nat → Prop} (r : RIn w lo A n c b X g e h v ms F H W) (hO : Off p W W') (hp : ∀ k, k < lo + 5 → p k) (hm : ∀ d ∈ ms, p d) (hlt : e < lo + 5 ∧ h < lo + 5 ∧ g < lo + 5 ∧ v < lo + 5) : RIn w lo A n c b X g e h v ms F H W' := by
  have hb : Below lo W W' := hO.below (by have := r.size; omega) (fun k hk => hp k (by omega))
  exact ⟨hO.cell r.t0 (hp _ (by show lo < lo + 5; omega)), r.head.same (hO.block _ r.head.lt (hp _ hlt.2.2.1)), r.less.same (hO.block _ r.less.lt (hp _ hlt.1)), r.heads.same (hO.block _ r.heads.lt (hp _ hlt.2.1)), r.var.same (hO.block _ r.var.lt (hp _ hlt.2.2.2)),
    r.its.below hb, r.below.trans hb, Nat.le_trans r.size hO.size, fun d hd => (hO.block d (Array.getElem?_eq_some_iff.1 (r.marks d hd)).1 (hm d hd)).trans (r.marks d hd)⟩
theorem RIn.grown {r0 : Nat} (r : RIn w lo A n c b X g e h v ms F H W) (hg : W.grownBy W' (some r0)) (hr : lo + 5 ≤ r0) (hm : ∀ d ∈ ms, d ≠ r0) (hlt : e < lo + 5 ∧ h < lo + 5 ∧ g < lo + 5 ∧ v < lo + 5) : RIn w lo A n c b X g e h v ms F H W' :=
  r.off (p := fun k => k ≠ r0) (Off.grown hg (fun k e' => by cases e'; exact fun hh => hh rfl)) (fun k hk => by omega) hm hlt
theorem RIn.drew (r : RIn w lo A n c b X g e h v ms F H W) : RIn w lo A n c b X g e h v ms F H W.drew :=
  ⟨r.t0, r.head.drew, r.less.drew, r.heads.drew, r.var.drew, fun k hk => r.its k hk, r.below.drew, r.size, r.marks⟩
theorem RIn.put_h (r : RIn w lo A n c b X g e h v ms F H W) (hm : ∀ d ∈ ms, d ≠ h) (hlo : lo + 1 ≤ h) (j : Nat) (x : Int) : RIn w lo A n c b X g e h v ms F (putI H j x) (W.setCell ⟨h, j, none⟩ (.int .i64 x)) := by
  have n1 : g ≠ h := r.head.unlike r.heads (by decide)
  have n2 : e ≠ h := r.less.unlike r.heads (by decide)
  have n3 : v ≠ h := r.var.unlike r.heads (by decide)
  have hb : Below lo W (W.setCell ⟨h, j, none⟩ (.int .i64 x)) := (Below.refl lo W).setCell (p := ⟨h, j, none⟩) (by show lo ≤ h; omega) _
  refine ⟨(World.cell?_of_block (Below.heap_setCell W ⟨h, j, none⟩ _ lo (by show lo ≠ h; omega))).trans r.t0, r.head.far (p := ⟨h, j, none⟩) n1 _, r.less.far (p := ⟨h, j, none⟩) n2 _, ?_, r.var.far (p := ⟨h, j, none⟩) n3 _, r.its.below hb, r.below.trans hb, Nat.le_trans r.size hb.size, fun d hd => (Below.heap_setCell W ⟨h, j, none⟩ _ d (hm d hd)).trans (r.marks d hd)⟩
  have := r.heads.put j (.int .i64 x)
  rw [icells_put] at this
  exact this
theorem RIn.put_e (r : RIn w lo A n c b X g e h v ms F H W) (hm : ∀ d ∈ ms, d ≠ e) (hlo : lo + 1 ≤ e) (j : Nat) (x : Bool) : RIn w lo A n c b X g e h v ms (fun i => if i = j then x else F i) H (W.setCell ⟨e, j, none⟩ (.bool x)) := by
  have n1 : g ≠ e := r.head.unlike r.less (by decide)
  have n2 : h ≠ e := r.heads.unlike r.less (by decide)
  have n3 : v ≠ e := r.var.unlike r.less (by decide)
  have hb : Below lo W (W.setCell ⟨e, j, none⟩ (.bool x)) := (Below.refl lo W).setCell (p := ⟨e, j, none⟩) (by show lo ≤ e; omega) _
  refine ⟨(World.cell?_of_block (Below.heap_setCell W ⟨e, j, none⟩ _ lo (by show lo ≠ e; omega))).trans r.t0, r.head.far (p := ⟨e, j, none⟩) n1 _, ?_, r.heads.far (p := ⟨e, j, none⟩) n2 _, r.var.far (p := ⟨e, j, none⟩) n3 _, r.its.below hb, r.below.trans hb, Nat.le_trans r.size hb.size, fun d hd => (Below.heap_setCell W ⟨e, j, none⟩ _ d (hm d hd)).trans (r.marks d hd)⟩
  have := r.less.put j (.bool x)
  rw [blcells_set] at this
  exact this
theorem RIn.congr {F' : Nat → Bool} {H' : Nat → Int} (r : RIn w lo A n c b X g e h v ms F H W) (hF : ∀ q, q < n → F q = F' q) (hH : ∀ y, y < b + 1 → H y = H' y) : RIn w lo A n c b X g e h v ms F' H' W :=
  ⟨r.t0, r.head, by rw [← blcells_congr hF]; exact r.less, by rw [← icells_congr hH]; exact r.heads, r.var, r.its, r.below, r.size, r.marks⟩
end
end Go.Proofs.YtbkdloebbbmkaaaGreat

namespace Go.Proofs.YtbkdloebbbmkaaaGreat
open Go.RowKit Go.Shelf

attribute [local go_sem] Oper.semAt_some

set_option maxRecDepth 100000 in
set_option maxHeartbeats 3200000 in
theorem rowOf_any (A : Option Addr) (n c b : Nat) (X : Nat → Nat) (w : World) (hn0 : 0 < n) (hn : n ≤ 4194304) (hb : b ≤ 4194304) (hnc : n ≤ c) (hc : c ≤ maxLen) (hX : ∀ p, p < n → X p < b) (ht : Its w w.heap.size A n (xi X)) :
    Calls Tryz.prog 96 #[.slice A n c, .int .i64 (b : Int)] w fun e' w' => ∃ g e h T, e' = .returned (.pointer (some ⟨g, 0, none⟩)) ∧ Rw w' T A n c X b g e h ∧ T ≤ w'.heap.size ∧ Below w.heap.size w w' := by
  obtain ⟨ad0, hA0, _⟩ := ht 0 hn0
  subst hA0
  have htA := Lib.hid ht
  obtain ⟨lo, hlo⟩ : ∃ lo, w.heap.size = lo := ⟨_, rfl⟩
  rw [hlo] at htA ⊢
  obtain ⟨w1, hw1⟩ : ∃ w1, w.alloc (.cells #[.slice (some ad0) n c] 22) = w1 := ⟨_, rfl⟩
  have z1 : w1.heap.size = lo + 1 := by rw [← hw1, size_alloc, hlo]
  have l1 : Lies w1 lo 22 [.slice (some ad0) n c] := by rw [← hw1, ← hlo]; exact lies_new w _ _
  have k1 : Below lo w w1 := by rw [← hw1, ← hlo]; exact (Below.refl _ _).alloc (Nat.le_refl _) _
  have v1 := l1.cell 0
  have hmix : Tryz.prog.follows .mixedOrders = true := by kernel_rfl
  have e1 : IntKind.i64.wrap ((b : Int) + 1) = (b : Int) + 1 := IntWalk.i64_in _ (by omega)
  have hMi : ∀ W : World, (Instr.makeSlice 22 (.int .i64 ((b : Int) + 1)) (.int .i64 ((b : Int) + 1))).run Tryz.prog W = .ok (.slice (some ⟨W.heap.size, 0, none⟩) (b + 1) (b + 1)) (W.alloc (.cells (icells (fun _ => 0) (b + 1)).toArray 3)) := fun W => by
    have h := make_ints1 W (b + 1) (by omega)
    rw [show ((b + 1 : Nat) : Int) = (b : Int) + 1 by omega] at h
    exact h
  have hMb := fun W => make_bools0 W n (by omega)
  clear ht
  refine (callsIn_wide (n := 0)).1 ?_
  refine callsIn_of_wp_marks Tryz.func96 rfl trivial ?_ rfl
  simp only [Tryz.ntmps96, List.size_toArray, List.length_cons, List.length_nil, Nat.reduceAdd, Nat.reduceSub, Array.replicate_succ, Array.replicate_zero, List.push_toArray, List.append_toArray, List.nil_append, List.cons_append]
  gi_wp2
  rename_i Q' K hK
  have hrest : ∀ (e h g v : Nat) (W : World), Lies W g 134 [.slice (some ad0) n c, .slice (some ⟨e, 0, none⟩) n n, .slice (some ⟨h, 0, none⟩) (b + 1) (b + 1)] → Lies W e 4 (blcells (fun _ => false) n) → Lies W h 3 (icells (fun _ => 0) (b + 1)) →
      Lies W v 114 [.pointer (some ⟨g, 0, none⟩)] → Below (lo + 1) w1 W → W.heap.size = lo + 5 → (lo + 1 ≤ e ∧ e < lo + 5 ∧ lo + 1 ≤ h ∧ h < lo + 5 ∧ lo + 1 ≤ g ∧ g < lo + 5 ∧ lo + 1 ≤ v ∧ v < lo + 5) →
      K { tmps := #[.slice (some ad0) n c, .int .i64 (b : Int), .pointer (some ⟨lo, 0, none⟩), undef, .pointer none, .pointer (some ⟨v, 0, none⟩), undef, undef, undef, .slice (some ad0) n c, .slice (some ad0) n c, .int .i64 (n : Int), .slice (some ⟨e, 0, none⟩) n n, .int .i64 (b : Int), .int .i64 ((b : Int) + 1), .slice (some ⟨h, 0, none⟩) (b + 1) (b + 1), .agg #[.slice (some ad0) n c, .slice (some ⟨e, 0, none⟩) n n, .slice (some ⟨h, 0, none⟩) (b + 1) (b + 1)], .pointer (some ⟨g, 0, none⟩), undef, undef, undef, undef, undef, undef, undef, undef, undef, undef, undef, undef, undef, undef, undef, undef, undef, undef, undef, undef, undef, undef, undef, undef, undef, undef, undef, undef, undef, undef, undef, undef, undef, undef, undef, undef, undef, undef, undef, undef, undef, undef, undef, undef, undef, undef, undef, undef, undef, undef, undef, undef, undef, undef, undef, undef, undef, undef, undef, undef, undef, undef, undef, undef, undef, undef, undef, undef, undef, undef, undef, undef, undef, undef], defers := [] } W := by
    intro e h g v W lg le lh lv kW zW hlt
    refine hK _ _ ?_
    have HB : Below lo w W := k1.trans (kW.mono (by omega))
    have c0 := (l1.below kW (by omega)).cell 0
    have HBk := Lib.hid (backward_any (some ad0) n c W)
    gi_wp2
    refine ⟨trivial, rfl, (callsIn_wide.2 HBk.out).mono ?_⟩
    rintro e' W1 ⟨rfl, hW1⟩
    rw [zW]
    have zW1 : W1.heap.size = lo + 6 := by rw [hW1, size_alloc, zW]
    have kW1 : Below (lo + 5) W W1 := by rw [hW1, ← zW]; exact (Below.refl _ _).alloc (Nat.le_refl _) _
    have lb : Lies W1 (lo + 5) 22 [.slice (some ad0) n c] := by rw [hW1, ← zW]; exact lies_new W _ _
    gi_wp2
    rw [← hW1]
    have hl2 : e < lo + 5 ∧ h < lo + 5 ∧ g < lo + 5 ∧ v < lo + 5 := by omega
    have R0 : RIn w lo (some ad0) n c b X g e h v [] (upFrom X n n) (cI X n n) W1 := by
      have k2 : Below (lo + 5) W W1 := kW1
      refine ⟨((l1.below kW (by omega)).below k2 (by omega)).cell 0, lg.below k2 hl2.2.2.1, ?_, ?_, lv.below k2 hl2.2.2.2, (htA.out.below (HB.trans (k2.mono (by omega)))), HB.trans (k2.mono (by omega)), by omega, fun d hd => by cases hd⟩
      · rw [blcells_congr (f := upFrom X n n) (f' := fun _ => false) (fun j hj => by unfold upFrom; rw [decide_eq_false (by omega)]; rfl)]
        exact le.below k2 hl2.1
      · rw [icells_congr (U := cI X n n) (U' := fun _ => 0) (fun j _ => cI_none X n j)]
        exact lh.below k2 hl2.2.1
    clear HBk lg le lh lv kW c0
    refine back_law (some ad0) n c (lo + 5) zW1 (by omega) (by omega) (lb.cell 0) (ints_of_its R0.its) rfl rfl
      (fun i W => Hid (RIn w lo (some ad0) n c b X g e h v [] (upFrom X n (n - i)) (cI X n (n - i)) W)) ?inv (Lib.hid (by rw [Nat.sub_zero]; exact R0)) (fun x => { tmps := #[.slice (some ad0) n c, .int .i64 (b : Int), .pointer (some ⟨lo, 0, none⟩), undef, .pointer none, .pointer (some ⟨v, 0, none⟩), .int .i64 (x.1 : Int), .int .i64 x.2, undef, .slice (some ad0) n c, .slice (some ad0) n c, .int .i64 (n : Int), .slice (some ⟨e, 0, none⟩) n n, .int .i64 (b : Int), .int .i64 ((b : Int) + 1), .slice (some ⟨h, 0, none⟩) (b + 1) (b + 1), .agg #[.slice (some ad0) n c, .slice (some ⟨e, 0, none⟩) n n, .slice (some ⟨h, 0, none⟩) (b + 1) (b + 1)], .pointer (some ⟨g, 0, none⟩), .slice (some ad0) n c, .func (.func 52) #[] #[.pointer (some ⟨lo + 5, 0, none⟩)], .int .i64 (x.1 : Int), .int .i64 x.2, undef, undef, undef, undef, undef, undef, undef, undef, undef, undef, undef, undef, undef, undef, undef, undef, undef, undef, undef, undef, undef, undef, undef, undef, undef, undef, undef, undef, undef, undef, undef, undef, undef, undef, undef, undef, undef, undef, undef, undef, undef, undef, undef, undef, undef, undef, undef, undef, undef, undef, undef, undef, undef, undef, undef, undef, undef, undef, undef, undef, undef, undef, undef, undef, undef, undef, undef, undef, undef, undef], defers := [] }) ?assign ?body ?done
    case inv =>
      intro i A1 A2 hi hg
      exact Lib.hid (hi.out.grown hg (by omega) (fun d hd => by cases hd) hl2)
    case assign =>
      intro l x W K hK
      gi_wp2
      exact hK
    case body =>
      rintro l i ⟨k, vx⟩ W hs hi ⟨hx1, ad, hA, hc⟩ hR
      cases hA
      have hx1 : k + i + 1 = n := hx1
      have hkn : k < n := by omega
      have hc : W.cell? (ad0.add k) = some (.int .i64 vx) := hc
      rw [show n - i = k + 1 by omega] at hR
      rw [show n - (i + 1) = k by omega]
      obtain ⟨ad', e', _, hc', _⟩ := hR.out.its k hkn
      have hvx : vx = ((X k : Nat) : Int) := by
        cases e'
        rw [hc'] at hc
        injection hc with hc
        injection hc with _ hc
        exact hc.symm
      subst hvx
      clear hc hc' e'
      have hxb := hX k hkn
      obtain ⟨hc1, hc2, hc3⟩ := cI_at (X := X) hkn
      obtain ⟨y, hy⟩ : ∃ y, X k + 1 = y := ⟨_, rfl⟩
      rw [hy] at hc1 hc2 hc3
      obtain ⟨u, hu⟩ : ∃ u, cI X n (k + 1) y = u := ⟨_, rfl⟩
      rw [hu] at hc1 hc2 hc3
      have hyx : IntKind.i64.wrap (((X k : Nat) : Int) + 1) = (y : Int) := by rw [IntWalk.i64_in _ (by omega)]; omega
      have hu1 : IntKind.i64.wrap (u + 1) = u + 1 := IntWalk.i64_in _ (by omega)
      have hyb : (y : Int) < (b : Int) + 1 := by omega
      have v1 := hR.out.var.cell 0
      have g2 := hR.out.head.cell 2
      have hy2 : W.cell? ⟨h, y, none⟩ = some (.int .i64 u) := by
        rw [hR.out.heads.cell, ← hu]
        exact icells_at _ _ _ (by omega)
      have fy := hR.out.heads.free y
      -- behind the first store
      obtain ⟨W2, hW2⟩ : ∃ W2, W.setCell ⟨h, y, none⟩ (.int .i64 (u + 1)) = W2 := ⟨_, rfl⟩
      have R2 : RIn w lo (some ad0) n c b X g e h v [] (upFrom X n (k + 1)) (cI X n k) W2 := by
        rw [← hW2]
        refine (hR.out.put_h (fun d hd => by cases hd) (by omega) y (u + 1)).congr (fun _ _ => rfl) (fun z _ => ?_)
        by_cases hz : z = y
        · rw [hz, putI_at, hc1]
        · rw [putI_off _ hz]
          exact (cI_off (by omega)).symm
      have hO2 : Off (fun q => q ≠ h) W W2 := by rw [← hW2]; exact Off.setCell (fun hh => hh rfl) _
      obtain ⟨k1, hk1e⟩ : ∃ k1, k + 1 = k1 := ⟨_, rfl⟩
      have hkw : IntKind.i64.wrap ((k : Int) + 1) = (k1 : Int) := by rw [IntWalk.i64_in _ (by omega)]; omega
      have t2 := R2.t0
      clear hR hu hc1 hc2 hc3 hs hi hx1
      by_cases hlast : k + 1 = n
      · have hcond : ¬ ((k1 : Int) < (n : Int)) := by omega
        have HR3 : Hid (RIn w lo (some ad0) n c b X g e h v [] (upFrom X n k) (cI X n k) W2) := Lib.hid (R2.congr (fun q hq => by
          unfold upFrom
          by_cases hqk : q = k
          · subst hqk
            rw [show q = n - 1 by omega, up_last, Bool.and_false, Bool.and_false]
          · by_cases hq2 : k ≤ q
            · omega
            · rw [decide_eq_false hq2, decide_eq_false (by omega)]) (fun _ _ => rfl))
        have HI3 := Lib.hid (ints_of_its R2.its)
        clear R2
        gi_wp2
        exact ⟨⟨hO2.less (fun q hq => by rcases hq with rfl | rfl | rfl <;> omega), HI3.out⟩, HR3⟩
      · have hcond : (k1 : Int) < (n : Int) := by omega
        have hk1 : k + 1 < n := by omega
        have v2 := R2.drew.var.cell 0
        have g1 := R2.drew.head.cell 1
        have t3 := R2.drew.t0
        obtain ⟨ad2, hA2, _, hcx, _⟩ := R2.its (k + 1) hk1
        cases hA2
        have hcx : W2.drew.cell? (ad0.add k1) = some (.int .i64 ((X (k + 1) : Nat) : Int)) := by rw [← hk1e]; exact hcx
        have hce : W2.drew.cell? ⟨e, k, none⟩ = some (.bool (upFrom X n (k + 1) k)) := by
          rw [R2.drew.less.cell]
          exact blcells_at _ _ _ hkn
        have hce1 : W2.drew.cell? ⟨e, k1, none⟩ = some (.bool (up X n (k + 1))) := by
          rw [← hk1e, R2.drew.less.cell, blcells_at _ _ _ hk1]
          unfold upFrom
          rw [decide_eq_true (Nat.le_refl _)]
          rfl
        have fe := R2.drew.less.free k
        have hks : (k : Int) < (n : Int) := by omega
        have hup := up_at (X := X) hk1
        obtain ⟨W3, hW3⟩ : ∃ W3, W2.drew.setCell ⟨e, k, none⟩ (.bool (up X n k)) = W3 := ⟨_, rfl⟩
        have R3 : RIn w lo (some ad0) n c b X g e h v [] (upFrom X n k) (cI X n k) W3 := by
          rw [← hW3]
          refine (R2.drew.put_e (fun d hd => by cases hd) (by omega) k (up X n k)).congr (fun q _ => ?_) (fun _ _ => rfl)
          show (if q = k then up X n k else upFrom X n (k + 1) q) = upFrom X n k q
          unfold upFrom
          by_cases hqk : q = k
          · rw [if_pos hqk, hqk, decide_eq_true (Nat.le_refl _)]
            rfl
          · rw [if_neg hqk]
            by_cases hq2 : k ≤ q
            · rw [decide_eq_true hq2, decide_eq_true (show k + 1 ≤ q by omega)]
            · rw [decide_eq_false hq2, decide_eq_false (by omega)]
        have hO3 : Off (fun q => q ≠ h ∧ q ≠ e) W W3 := by
          rw [← hW3]
          exact (hO2.less (fun q hq => hq.1)).trans ((off_drew _ _).trans (Off.setCell (fun hh => hh.2 rfl) _))
        have HR3 := Lib.hid R3
        have HI3 := Lib.hid (ints_of_its R3.its)
        have HO3 := Lib.hid hO3
        clear R2 R3 hO3 hO2
        by_cases hlt : X k < X (k + 1)
        · have hu3 : up X n k = true := by rw [hup, decide_eq_true hlt]; rfl
          rw [hu3] at hW3
          have d1 : decide (((X k : Nat) : Int) < ((X (k + 1) : Nat) : Int)) = true := decide_eq_true (by omega)
          have d2 : decide (X k < X (k + 1)) = true := decide_eq_true hlt
          generalize X (k + 1) = x1 at *
          generalize X k = x0 at *
          clear hup hu3 hk1 hlast hk1e
          gi_wp2
          refine still_in_round 32 hmix (by kernel_rfl) (by kernel_rfl) (fun ⟨_, _, hh⟩ => hh) fun ops hops => ?_
          have hd12 : dstOf ops 12 = some 49 := by rw [← hops]; kernel_rfl
          have hd20 : dstOf ops 20 = some 57 := by rw [← hops]; kernel_rfl
          clear hops
          simp only [List.take_succ_cons, List.take_zero, List.drop_succ_cons, List.drop_zero]
          iterate 13
            refine wpStill_step (fun K hK => ?_)
            have HK := Lib.hid hK
            clear hK
            go_simp
            refine HK.out _ ?_
            clear HK K
          iterate 8
            refine still_passed (g := 12) (d := 49) (b := false) (u := .bool true) rfl hd12 rfl (by simp) fun K hK => ?_
            have HK := Lib.hid hK
            clear hK
            go_simp
            refine HK.out _ ?_
            clear HK K
          iterate 8
            refine still_passed (g := 20) (d := 57) (b := true) (u := undef) rfl hd20 rfl (by simp [undef]) fun K hK => ?_
            have HK := Lib.hid hK
            clear hK
            go_simp
            refine HK.out _ ?_
            clear HK K
          iterate 1
            refine still_passed (g := 12) (d := 49) (b := false) (u := .bool true) rfl hd12 rfl (by simp) fun K hK => ?_
            have HK := Lib.hid hK
            clear hK
            go_simp
            refine HK.out _ ?_
            clear HK K
          iterate 2
            refine wpStill_step (fun K hK => ?_)
            have HK := Lib.hid hK
            clear hK
            go_simp
            refine HK.out _ ?_
            clear HK K
          refine wpStill_nil ?_
          go_wp2
          exact ⟨⟨HO3.out.less (fun q hq => by rcases hq with rfl | rfl | rfl <;> exact ⟨by omega, by omega⟩), HI3.out⟩, HR3⟩
        · by_cases heq : X k = X (k + 1)
          · have hu3 : up X n k = up X n (k + 1) := by rw [hup, decide_eq_false hlt, decide_eq_true heq]; rfl
            rw [hu3] at hW3
            rw [← heq] at hcx
            clear hup hu3 hk1 hlast hk1e hlt heq
            generalize up X n (k + 1) = ub at *
            generalize X k = x0 at *
            gi_wp2
            refine still_in_round 32 hmix (by kernel_rfl) (by kernel_rfl) (fun ⟨_, _, hh⟩ => hh) fun ops hops => ?_
            have hd12 : dstOf ops 12 = some 49 := by rw [← hops]; kernel_rfl
            have hd20 : dstOf ops 20 = some 57 := by rw [← hops]; kernel_rfl
            clear hops
            simp only [List.take_succ_cons, List.take_zero, List.drop_succ_cons, List.drop_zero]
            iterate 13
              refine wpStill_step (fun K hK => ?_)
              have HK := Lib.hid hK
              clear hK
              go_simp
              refine HK.out _ ?_
              clear HK K
            iterate 8
              refine still_wanted (g := 12) (d := 49) (b := false) rfl hd12 rfl fun K hK => ?_
              have HK := Lib.hid hK
              clear hK
              go_simp
              refine HK.out _ ?_
              clear HK K
            iterate 8
              refine still_wanted (g := 20) (d := 57) (b := true) rfl hd20 rfl fun K hK => ?_
              have HK := Lib.hid hK
              clear hK
              go_simp
              refine HK.out _ ?_
              clear HK K
            iterate 1
              refine still_wanted (g := 12) (d := 49) (b := false) rfl hd12 rfl fun K hK => ?_
              have HK := Lib.hid hK
              clear hK
              go_simp
              refine HK.out _ ?_
              clear HK K
            iterate 2
              refine wpStill_step (fun K hK => ?_)
              have HK := Lib.hid hK
              clear hK
              go_simp
              refine HK.out _ ?_
              clear HK K
            refine wpStill_nil ?_
            go_wp2
            exact ⟨⟨HO3.out.less (fun q hq => by rcases hq with rfl | rfl | rfl <;> exact ⟨by omega, by omega⟩), HI3.out⟩, HR3⟩
          · have hu3 : up X n k = false := by rw [hup, decide_eq_false hlt, decide_eq_false heq]; rfl
            rw [hu3] at hW3
            have d1 : decide (((X k : Nat) : Int) < ((X (k + 1) : Nat) : Int)) = false := decide_eq_false (by omega)
            have d2 : decide (X k < X (k + 1)) = false := decide_eq_false hlt
            have d4 : (((X k : Nat) : Int) == ((X (k + 1) : Nat) : Int)) = false := by rw [beq_eq_false_iff_ne]; omega
            generalize X (k + 1) = x1 at *
            generalize X k = x0 at *
            clear hup hu3 hk1 hlast hk1e
            gi_wp2
            refine still_in_round 32 hmix (by kernel_rfl) (by kernel_rfl) (fun ⟨_, _, hh⟩ => hh) fun ops hops => ?_
            have hd12 : dstOf ops 12 = some 49 := by rw [← hops]; kernel_rfl
            have hd20 : dstOf ops 20 = some 57 := by rw [← hops]; kernel_rfl
            clear hops
            simp only [List.take_succ_cons, List.take_zero, List.drop_succ_cons, List.drop_zero]
            iterate 13
              refine wpStill_step (fun K hK => ?_)
              have HK := Lib.hid hK
              clear hK
              go_simp
              refine HK.out _ ?_
              clear HK K
            iterate 8
              refine still_wanted (g := 12) (d := 49) (b := false) rfl hd12 rfl fun K hK => ?_
              have HK := Lib.hid hK
              clear hK
              go_simp
              refine HK.out _ ?_
              clear HK K
            iterate 8
              refine still_passed (g := 20) (d := 57) (b := true) (u := .bool false) rfl hd20 rfl (by simp) fun K hK => ?_
              have HK := Lib.hid hK
              clear hK
              go_simp
              refine HK.out _ ?_
              clear HK K
            iterate 1
              refine still_wanted (g := 12) (d := 49) (b := false) rfl hd12 rfl fun K hK => ?_
              have HK := Lib.hid hK
              clear hK
              go_simp
              refine HK.out _ ?_
              clear HK K
            iterate 2
              refine wpStill_step (fun K hK => ?_)
              have HK := Lib.hid hK
              clear hK
              go_simp
              refine HK.out _ ?_
              clear HK K
            refine wpStill_nil ?_
            go_wp2
            exact ⟨⟨HO3.out.less (fun q hq => by rcases hq with rfl | rfl | rfl <;> exact ⟨by omega, by omega⟩), HI3.out⟩, HR3⟩
    case done =>
      rintro D1 W hD1 hR hk1
      rw [Nat.sub_self] at hR
      have hD1l := (Array.getElem?_eq_some_iff.1 hk1).1
      have R1 : RIn w lo (some ad0) n c b X g e h v [D1] (upFrom X n 0) (hI2 X n 0) W :=
        ⟨hR.out.t0, hR.out.head, hR.out.less, by rw [icells_congr (U := hI2 X n 0) (U' := cI X n 0) (fun j _ => (hI2_zero j).symm)]; exact hR.out.heads, hR.out.var, hR.out.its, hR.out.below, hR.out.size, fun d hd => by
          obtain rfl : d = D1 := by simpa using hd
          exact hk1⟩
      have HR1 := Lib.hid R1
      clear hR R1 hk1
      gi_wp2
      gi_loopw [70] (fun s wr => ∃ x : Nat, x ≤ b ∧ s = .int .i64 (x : Int) ∧ Hid (RIn w lo (some ad0) n c b X g e h v [D1] (upFrom X n 0) (hI2 X n x) wr)) (fun s _ => b - (intOf s).toNat)
      case atStart => exact ⟨0, Nat.zero_le _, rfl, HR1⟩
      case round =>
        clear HR1
        obtain ⟨x, hx, rfl, hR⟩ := hrel
        by_cases hlt : x < b
        · have hltx : (x : Int) < (b : Int) := by omega
          have hltb : (x : Int) < (b : Int) + 1 := by omega
          obtain ⟨s1, s2, s3, s4, s5⟩ := hI2_step (X := X) (n := n) (x := x)
          have hRd := hR.out.drew
          have v1 := hRd.var.cell 0
          have g2 := hRd.head.cell 2
          have cx : wr.drew.cell? ⟨h, x, none⟩ = some (.int .i64 (hI2 X n x x)) := by
            rw [hRd.heads.cell]
            exact icells_at _ _ _ (by omega)
          have cy : wr.drew.cell? ⟨h, x + 1, none⟩ = some (.int .i64 (hI2 X n x (x + 1))) := by
            rw [hRd.heads.cell]
            exact icells_at _ _ _ (by omega)
          have fy := hRd.heads.free (x + 1)
          have hne : D1 ≠ h := by omega
          have HR2 : Hid (RIn w lo (some ad0) n c b X g e h v [D1] (upFrom X n 0) (hI2 X n (x + 1)) (wr.drew.setCell ⟨h, x + 1, none⟩ (.int .i64 (hI2 X n x (x + 1) + hI2 X n x x)))) :=
            Lib.hid ((hRd.put_h (fun d hd => by
              obtain rfl : d = D1 := by simpa using hd
              exact hne) (by omega) (x + 1) (hI2 X n x (x + 1) + hI2 X n x x)).congr (fun _ _ => rfl) (fun z _ => by
                by_cases hz : z = x + 1
                · rw [hz, putI_at, s1]
                · rw [putI_off _ hz]
                  exact hI2_off hz))
          have hsum : IntKind.i64.wrap (hI2 X n x (x + 1) + hI2 X n x x) = hI2 X n x (x + 1) + hI2 X n x x := IntWalk.i64_in _ (by omega)
          obtain ⟨y, hy⟩ : ∃ y, x + 1 = y := ⟨_, rfl⟩
          have hxy : IntKind.i64.wrap ((x : Int) + 1) = (y : Int) := by rw [IntWalk.i64_in _ (by omega)]; omega
          have hyb : (y : Int) < (b : Int) + 1 := by omega
          rw [hy] at cy fy HR2 hsum
          generalize hI2 X n x y = a1 at *
          generalize hI2 X n x x = a2 at *
          clear s1 s2 s3 s4 s5 hRd hR
          gi_wp2
          refine wpIn_wide.2 ?_
          go_still_tail 17, (by kernel_rfl)
          change wpList _ _ _ _ _ wr.drew
          go_wp2
          gi_wp2
          go_roundw
          case rel => exact ⟨x + 1, by omega, by go_num, by rw [hy]; exact HR2⟩
          case measure => simp [intOf]; omega
        · have hxb : x = b := by omega
          have hge : ¬ ((x : Int) < (b : Int)) := by omega
          rw [hxb] at hR
          have hk1 := hR.out.marks D1 (List.mem_singleton.2 rfl)
          have hDl := (Array.getElem?_eq_some_iff.1 hk1).1
          have v1 := hR.out.var.cell 0
          have hMM : Marks (lo + 5) wr.heap.size ({ target := .collected D1, args := #[] } :: []) wr := ⟨D1, rfl, by omega, hDl, hk1, trivial⟩
          have HRw : Hid (Rw wr (lo + 5) (some ad0) n c X b g e h) := Lib.hid ⟨hR.out.head, hR.out.its.mono_ (by omega), by
            rw [← blcells_congr (f := upFrom X n 0) (f' := up X n) (fun j _ => by unfold upFrom; rw [decide_eq_true (Nat.zero_le _)]; rfl)]
            exact hR.out.less, by
            rw [← icells_congr (U := hI2 X n b) (U' := hdI X n) (fun j hj => by unfold hI2; rw [if_pos (by omega)]; rfl)]
            exact hR.out.heads, by omega, ⟨hn0, hn, hb, hnc, hc⟩, hX⟩
          have HB4 := Lib.hid hR.out.below
          have hsz := hR.out.size
          clear hR
          gi_wp2
          exact hMM.out (by omega) fun w' hw' => ⟨.pointer (some ⟨g, 0, none⟩), by simp [results, Tryz.results96, go_sem], g, rfl, e, h, lo + 5, HRw.out.below hw' (Nat.le_refl _), Nat.le_trans hsz hw'.size, HB4.out.trans (hw'.mono (by omega))⟩
  gi_region
  all_goals
    refine hrest _ _ _ _ _ ?_ ?_ ?_ ?_ ?_ ?_ ?_
  all_goals first
    | exact (four_allocs z1 _ _ _ _).1
    | exact (four_allocs z1 _ _ _ _).2.1
    | exact (four_allocs z1 _ _ _ _).2.2.1
    | exact (four_allocs z1 _ _ _ _).2.2.2.1
    | exact (four_allocs z1 _ _ _ _).2.2.2.2.1
    | exact (four_allocs z1 _ _ _ _).2.2.2.2.2
    | omega
end Go.Proofs.YtbkdloebbbmkaaaGreat
