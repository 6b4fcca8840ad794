/- The developers' package bwt: fit, below, few, endsAt, round. -/
import Derived.Test.YtjloepepnjcpiaaBwtI
import Derived.Test.YtjloepepnjcpiaaBwDevM
import Derived.Test.YtjloepepnjcpiaaSaMath
import Derived.Test.YtjloepepnjcpiaaBlen
import Derived.BigQuiet
import Derived.BigRegion
namespace Go.Proofs.Ytjloepepnjcpiaa
open Go.RowKit

set_option maxRecDepth 100000 in
set_option maxHeartbeats 1600000 in
theorem bwFit_is (A : Option Addr) (n c : Nat) (V : Nat → Int) (al : Int) (B : Nat) (w : World) (hn : n ≤ 4194304) (ho : Its w B A n V) (r : Bool) (hr : r = true ↔ RightS V n al) :
    Calls Try.prog 20 #[.slice A n c, .int .i64 al] w fun e w' => e = .returned (.bool r) ∧ w = w' := by
  have HR := Lib.hid hr
  have HO := Lib.hid ho
  clear ho hr
  by_cases hal : 0 ≤ al ∧ al ≤ 4194304
  · obtain ⟨h1, h2⟩ := hal
    have d1 : decide (al < 0) = false := decide_eq_false (by omega)
    have d2 : decide ((4194304 : Int) < al) = false := decide_eq_false (by omega)
    go_enter Try.func20, Try.ntmps20
    go_wp2_with fail
    go_loop [15] (fun v => ∃ i : Nat, i ≤ n ∧ v = .int .i64 (i : Int) ∧ Hid (∀ j, j < i → 0 ≤ V j ∧ V j < al)) (fun v => n - (intOf v).toNat)
    case atStart => exact ⟨0, Nat.zero_le _, rfl, Lib.hid (fun j hj => absurd hj (Nat.not_lt_zero j))⟩
    case round =>
      obtain ⟨i, hi, rfl, hall⟩ := hrel
      by_cases hlt : i < n
      · have hlti : (i : Int) < (n : Int) := by omega
        obtain ⟨ad, rfl, _, hc, hv1, hv2⟩ := HO.out i hlt
        obtain ⟨v, hv⟩ : ∃ v, V i = v := ⟨_, rfl⟩
        rw [hv] at hc hv1 hv2
        have HV := Lib.hid hv
        clear hv
        by_cases hok : 0 ≤ v ∧ v < al
        · have e1 : decide (v < 0) = false := decide_eq_false (by omega)
          have e2 : decide (al ≤ v) = false := decide_eq_false (by omega)
          go_wp2_with fail
          go_round
          case rel => exact ⟨i + 1, by omega, by go_num, Lib.hid (fun j hj => by
            by_cases e : j < i
            · exact hall.out j e
            · obtain rfl : j = i := by omega
              rw [HV.out]
              exact hok)⟩
          case measure => simp [intOf]; omega
        · have hbad : Hid (¬ RightS V n al) := Lib.hid (fun h => hok (by rw [← HV.out]; exact h.2 i hlt))
          have hcond : decide (v < 0) = true ∨ (decide (v < 0) = false ∧ decide (al ≤ v) = true) := by
            by_cases h0 : v < 0
            · exact .inl (decide_eq_true h0)
            · exact .inr ⟨decide_eq_false h0, decide_eq_true (by omega)⟩
          obtain rfl : r = false := by
            rcases r with _ | _
            · rfl
            · exact absurd (HR.out.1 rfl) hbad.out
          clear hok HR
          rcases hcond with e1 | ⟨e1, e2⟩
          all_goals
            go_wp2_with fail
            go_ret
            exact ⟨rfl, rfl⟩
      · obtain rfl : i = n := by omega
        obtain rfl : r = true := HR.out.2 ⟨⟨h1, h2, hn⟩, hall.out⟩
        go_wp2_with fail
        go_ret
        exact ⟨rfl, rfl⟩
  · have hbad : Hid (¬ RightS V n al) := Lib.hid (fun h => hal ⟨h.1.1, h.1.2.1⟩)
    have hcond : decide (al < 0) = true ∨ (decide (al < 0) = false ∧ decide ((4194304 : Int) < al) = true) := by
      by_cases h0 : al < 0
      · exact .inl (decide_eq_true h0)
      · exact .inr ⟨decide_eq_false h0, decide_eq_true (by omega)⟩
    obtain rfl : r = false := by
      rcases r with _ | _
      · rfl
      · exact absurd (HR.out.1 rfl) hbad.out
    clear hal HR
    rcases hcond with d1 | ⟨d1, d2⟩
    all_goals
      go_enter Try.func20, Try.ntmps20
      go_wp2_with fail
      go_ret
      exact ⟨rfl, rfl⟩

theorem aheadI_none {V : Nat → Int} {c : Int} : ∀ {n : Nat}, (∀ i, i < n → V i ≠ c) → aheadI V n c = 0
  | 0, _ => rfl
  | n + 1, h => by
    rw [aheadI_succ, aheadI_none (fun i hi => h i (by omega)), if_neg (h n (by omega))]
theorem belowI_next (V : Nat → Int) (c : Int) : ∀ n, belowI V n (c + 1) = belowI V n c + aheadI V n c
  | 0 => rfl
  | n + 1 => by
    rw [belowI_succ, belowI_succ, aheadI_succ, belowI_next V c n]
    by_cases h1 : V n < c
    · rw [if_pos h1, if_pos (by omega), if_neg (by omega)]
      omega
    · rw [if_neg h1]
      by_cases h2 : V n = c
      · rw [if_pos h2, if_pos (by omega)]
        omega
      · rw [if_neg h2, if_neg (by omega)]
        omega
theorem belowI_none {V : Nat → Int} {c : Int} : ∀ {n : Nat}, (∀ i, i < n → c ≤ V i) → belowI V n c = 0
  | 0, _ => rfl
  | n + 1, h => by
    rw [belowI_succ, belowI_none (fun i hi => h i (by omega)), if_neg (by have := h n (by omega); omega)]

set_option maxRecDepth 100000 in
set_option maxHeartbeats 1600000 in
theorem below_any (A : Option Addr) (n c : Nat) (V : Nat → Int) (al : Nat) (w : World) (hn : n ≤ 4194304) (hal : al ≤ 4194303) (ho : Its w w.heap.size A n V) (hV : ∀ i, i < n → 0 ≤ V i ∧ V i < (al : Int)) :
    Calls Try.prog 21 #[.slice A n c, .int .i64 (al : Int)] w fun e w' => e = .returned (.slice (some ⟨w.heap.size, 0, none⟩) (al + 1) (al + 1)) ∧ Lies w' w.heap.size 3 (icells (fun x => ((belowI V n (x : Int) : Nat) : Int)) (al + 1)) ∧ Below w.heap.size w w' := by
  have HO := Lib.hid ho
  have HV := Lib.hid hV
  obtain ⟨a, za⟩ : ∃ a, w.heap.size = a := ⟨_, rfl⟩
  have w1 : IntKind.i64.wrap ((al : Int) + 1) = ((al + 1 : Nat) : Int) := by rw [IntWalk.i64_in _ (by omega)]; omega
  have hMk := make_ints0 w (al + 1) (by omega)
  rw [za] at hMk HO ⊢
  obtain ⟨m, hm⟩ : ∃ m, al + 1 = m := ⟨_, rfl⟩
  rw [hm] at w1 hMk ⊢
  have HM := Lib.hid hm
  obtain ⟨wa, hwa⟩ : ∃ wa, w.alloc (.cells (icells (fun _ => 0) m).toArray 3) = wa := ⟨_, rfl⟩
  have k1 : Below a w wa := by rw [← hwa, ← za]; exact (Below.refl _ _).alloc (Nat.le_refl _) _
  have l1 : Lies wa a 3 (icells (fun _ => 0) m) := by rw [← hwa, ← za]; exact lies_new w _ _
  rw [hwa] at hMk
  clear ho hV hm hwa za
  go_enter Try.func21, Try.ntmps21
  go_wp2_with fail
  go_loopw [14] (fun v wr => ∃ i : Nat, i ≤ n ∧ v = .int .i64 (i : Int) ∧ Hid (∃ U, Lies wr a 3 (icells U m) ∧ ∀ x, x < m → U x = ((aheadI V i ((x : Int) - 1) : Nat) : Int)) ∧ Hid (Below a w wr)) (fun v _ => n - (intOf v).toNat)
  case atStart => exact ⟨0, Nat.zero_le _, rfl, Lib.hid ⟨_, l1, fun x _ => rfl⟩, Lib.hid k1⟩
  case round =>
    clear l1 k1 hMk
    obtain ⟨i, hi, rfl, hU, hb⟩ := hrel
    by_cases hlt : i < n
    · have hlti : (i : Int) < (n : Int) := by omega
      obtain ⟨ad, rfl, _, hc, _⟩ := HO.out.below hb.out i hlt
      obtain ⟨hv1, hv2⟩ := HV.out i hlt
      obtain ⟨p, hp⟩ : ∃ p : Nat, V i = (p : Int) := ⟨(V i).toNat, by omega⟩
      rw [hp] at hc hv2
      obtain ⟨U, hL, hU⟩ := hU.out
      have hm := HM.out
      have w2 : IntKind.i64.wrap ((p : Int) + 1) = ((p + 1 : Nat) : Int) := by rw [IntWalk.i64_in _ (by omega)]; omega
      have hp1 : p + 1 < m := by omega
      have hc2 : wr.cell? ⟨a, p + 1, none⟩ = some (.int .i64 ((aheadI V i (p : Int) : Nat) : Int)) := by
        rw [hL.cell, icells_at _ _ _ hp1, hU _ hp1, show (((p + 1 : Nat) : Int) - 1) = (p : Int) by omega]
      have hf2 := hL.free (p + 1)
      have hle := aheadI_le V i (p : Int)
      obtain ⟨y, hy⟩ : ∃ y, aheadI V i (p : Int) = y := ⟨_, rfl⟩
      rw [hy] at hc2 hle
      have w3 : IntKind.i64.wrap ((y : Int) + 1) = ((y + 1 : Nat) : Int) := by rw [IntWalk.i64_in _ (by omega)]; omega
      have HU2 : Hid (∃ U', Lies (wr.setCell ⟨a, p + 1, none⟩ (.int .i64 ((y + 1 : Nat) : Int))) a 3 (icells U' m) ∧ ∀ x, x < m → U' x = ((aheadI V (i + 1) ((x : Int) - 1) : Nat) : Int)) := Lib.hid ⟨_, by
        have := hL.put (p + 1) (.int .i64 ((y + 1 : Nat) : Int))
        rw [icells_put] at this
        exact this, fun x hx => by
        rw [aheadI_succ, hp]
        by_cases e : x = p + 1
        · rw [if_pos e, if_pos (by omega), show ((x : Int) - 1) = (p : Int) by omega, hy]
        · rw [if_neg e, if_neg (by omega), hU x hx, Nat.add_zero]⟩
      have HB2 : Hid (Below a w (wr.setCell ⟨a, p + 1, none⟩ (.int .i64 ((y + 1 : Nat) : Int)))) := Lib.hid (hb.out.setCell (p := ⟨a, p + 1, none⟩) (Nat.le_refl _) _)
      generalize p + 1 = p1 at w2 hp1 hc2 hf2 HU2 HB2
      generalize y + 1 = y1 at w3 HU2 HB2
      have bp : (p1 : Int) < (m : Int) := by omega
      clear hU hL hp hy hm hb hle
      go_wp2_with fail
      go_roundw
      case rel => exact ⟨i + 1, by omega, by go_num, HU2, HB2⟩
      case measure => simp [intOf]; omega
    · have hin : i = n := by omega
      have hge : ¬ (i : Int) < (n : Int) := by omega
      rw [hin] at hU
      have HU1 : Hid (∃ U, Lies wr a 3 (icells U m) ∧ ∀ x, x < m → U x = if x ≤ 0 then ((belowI V n (x : Int) : Nat) : Int) else ((aheadI V n ((x : Int) - 1) : Nat) : Int)) := Lib.hid (by
        obtain ⟨U, h1, h2⟩ := hU.out
        refine ⟨U, h1, fun x hx => ?_⟩
        by_cases e : x ≤ 0
        · rw [if_pos e, h2 x hx, aheadI_none (fun i hi => by have := HV.out i hi; omega), belowI_none (fun i hi => by have := HV.out i hi; omega)]
        · rw [if_neg e, h2 x hx])
      clear hU hin
      go_wp2_with fail
      go_loopw [27] (fun v wr => ∃ q : Nat, q ≤ al ∧ v = .int .i64 (q : Int) ∧ Hid (∃ U, Lies wr a 3 (icells U m) ∧ ∀ x, x < m → U x = if x ≤ q then ((belowI V n (x : Int) : Nat) : Int) else ((aheadI V n ((x : Int) - 1) : Nat) : Int)) ∧ Hid (Below a w wr)) (fun v _ => al - (intOf v).toNat)
      case atStart => exact ⟨0, Nat.zero_le _, rfl, HU1, hb⟩
      case round =>
        clear HU1 hb
        obtain ⟨q, hq, rfl, hU, hb⟩ := hrel
        by_cases hlq : q < al
        · have hlqi : (q : Int) < (al : Int) := by omega
          obtain ⟨U, hL, hU⟩ := hU.out
          have hm := HM.out
          have hq1 : q + 1 < m := by omega
          have hq0 : q < m := by omega
          have w2 : IntKind.i64.wrap ((q : Int) + 1) = ((q + 1 : Nat) : Int) := by rw [IntWalk.i64_in _ (by omega)]; omega
          have hc1 : wr.cell? ⟨a, q, none⟩ = some (.int .i64 ((belowI V n (q : Int) : Nat) : Int)) := by
            rw [hL.cell, icells_at _ _ _ hq0, hU _ hq0, if_pos (Nat.le_refl _)]
          have hc2 : wr.cell? ⟨a, q + 1, none⟩ = some (.int .i64 ((aheadI V n (q : Int) : Nat) : Int)) := by
            rw [hL.cell, icells_at _ _ _ hq1, hU _ hq1, if_neg (by omega), show (((q + 1 : Nat) : Int) - 1) = (q : Int) by omega]
          have hf2 := hL.free (q + 1)
          have hl1 := belowI_le V n (q : Int)
          have hl2 := aheadI_le V n (q : Int)
          have hsum : ((belowI V n ((q + 1 : Nat) : Int) : Nat) : Int) = ((aheadI V n (q : Int) + belowI V n (q : Int) : Nat) : Int) := by
            rw [show ((q + 1 : Nat) : Int) = (q : Int) + 1 by omega, belowI_next, Nat.add_comm]
          obtain ⟨y, hy⟩ : ∃ y, belowI V n (q : Int) = y := ⟨_, rfl⟩
          obtain ⟨z, hz⟩ : ∃ z, aheadI V n (q : Int) = z := ⟨_, rfl⟩
          rw [hy] at hc1 hl1 hsum
          rw [hz] at hc2 hl2 hsum
          have w3 : IntKind.i64.wrap ((z : Int) + (y : Int)) = ((z + y : Nat) : Int) := by rw [IntWalk.i64_in _ (by omega)]; omega
          have HU2 : Hid (∃ U', Lies (wr.setCell ⟨a, q + 1, none⟩ (.int .i64 ((z + y : Nat) : Int))) a 3 (icells U' m) ∧ ∀ x, x < m → U' x = if x ≤ q + 1 then ((belowI V n (x : Int) : Nat) : Int) else ((aheadI V n ((x : Int) - 1) : Nat) : Int)) := Lib.hid ⟨_, by
            have := hL.put (q + 1) (.int .i64 ((z + y : Nat) : Int))
            rw [icells_put] at this
            exact this, fun x hx => by
            by_cases e : x = q + 1
            · rw [if_pos e, if_pos (by omega), e, hsum]
            · rw [if_neg e, hU x hx]
              by_cases e2 : x ≤ q
              · rw [if_pos e2, if_pos (by omega)]
              · rw [if_neg e2, if_neg (by omega)]⟩
          have HB2 : Hid (Below a w (wr.setCell ⟨a, q + 1, none⟩ (.int .i64 ((z + y : Nat) : Int)))) := Lib.hid (hb.out.setCell (p := ⟨a, q + 1, none⟩) (Nat.le_refl _) _)
          have HM2 := Lib.hid (Nat.succ_le_of_lt hlq)
          generalize hq2 : q + 1 = q2 at w2 hq1 hc2 hf2 HU2 HB2
          have HQ2 := Lib.hid hq2
          generalize z + y = zy at w3 HU2 HB2
          have lne : q < q2 := by omega
          have bq : (q : Int) < (m : Int) := by omega
          have bq2 : (q2 : Int) < (m : Int) := by omega
          have hq2al : q2 ≤ al := by omega
          clear hU hL hm hb hy hz hsum hq2
          go_wp2_with fail
          go_big_region
          all_goals go_wp2_with fail
          all_goals go_roundw
          case rel => exact ⟨q2, hq2al, rfl, Lib.hid (by
            obtain ⟨U', h1, h2⟩ := HU2.out
            exact ⟨U', h1.drew, h2⟩), Lib.hid (below_drewN' HB2.out 1)⟩
          case measure => simp [intOf]; omega
        · have hqa : q = al := by omega
          have hge2 : ¬ (q : Int) < (al : Int) := by omega
          have HF : Hid (Lies wr a 3 (icells (fun x => ((belowI V n (x : Int) : Nat) : Int)) m)) := Lib.hid (by
            obtain ⟨U, h1, h2⟩ := hU.out
            have hm := HM.out
            rw [← icells_congr (U := U) fun x hx => by rw [h2 x hx, if_pos (by omega)]]
            exact h1)
          clear hU hqa
          go_wp2_with fail
          go_ret
          exact ⟨rfl, HF.out, hb.out⟩

set_option maxRecDepth 100000 in
set_option maxHeartbeats 800000 in
theorem few_any (A : Option Addr) (n c al : Nat) (w : World) (hn : n ≤ 4194304) (h0 : 0 < n) (hal : al ≤ 4194304) :
    ∃ r : Bool, Calls Try.prog 29 #[.slice A n c, .int .i64 (al : Int)] w fun e w' => e = .returned (.bool r) ∧ ∃ j, w' = w.drewN j := by
  have HB : ∀ z, Hid (Calls Try.prog 34 #[.int .u64 (n : Int)] (w.drewN z) fun e w' => e = .returned (.int .i64 ((Pl.blen n : Nat) : Int)) ∧ ∃ j, w' = w.drewN j) := fun z => Lib.hid ((lblen_any n (by omega) (w.drewN z)).mono fun e w' h => ⟨h.1, z, h.2.symm⟩)
  obtain ⟨v, hv⟩ : ∃ v, Pl.blen n = v := ⟨_, rfl⟩
  rw [hv] at HB
  have w4 : IntKind.u64.wrap (n : Int) = (n : Int) := IntWalk.u64_in _ (by omega)
  obtain ⟨q, hq⟩ : ∃ q : Nat, ((al : Int)).tdiv (n : Int) = (q : Int) ∧ q ≤ al := ⟨al / n, rfl, Nat.div_le_self _ _⟩
  obtain ⟨hq, hqa⟩ := hq
  have w5 : IntKind.i64.wrap (q : Int) = (q : Int) := IntWalk.i64_in _ (by omega)
  have n0 : ¬ n = 0 := by omega
  have n1 : ¬ (n : Int) = 0 := by omega
  have n2 : ((n : Int) == 0) = false := by rw [beq_eq_false_iff_ne]; omega
  refine ⟨decide (v < q), ?_⟩
  clear hv
  go_enter Try.func29, Try.ntmps29
  go_wp2_with fail
  go_quiet ((go_at_call 34; with_reducible exact (HB _).out))
  go_wp2_with fail
  go_ret
  exact ⟨rfl, _, rfl⟩
end Go.Proofs.Ytjloepepnjcpiaa
