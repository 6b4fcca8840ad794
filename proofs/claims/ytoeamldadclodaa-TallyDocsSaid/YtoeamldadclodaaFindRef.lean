/- The document's functions of layer 15: does a pattern stand at a place, all places, the range of suffixes; is the last number there once; the laws' own lists. -/
import Derived.Test.YtoeamldadclodaaFindMath
import Derived.Test.YtoeamldadclodaaSufTurn
import Derived.Test.YtoeamldadclodaaListR
import Derived.Test.YtoeamldadclodaaIntApp
import Derived.Deep.QuietTactic
import Derived.BigQuiet
namespace Go.Proofs.Ytoeamldadclodaa
open Go.RowKit

set_option maxRecDepth 100000 in
set_option maxHeartbeats 1600000 in
theorem refStands_is (A A' : Option Addr) (n c m c' : Nat) (V P : Nat → Int) (a : Nat) (w : World) (hn : n ≤ 4194304) (hm : m ≤ maxLen) (ha : a ≤ n) (ho : Its w w.heap.size A n V) (ho' : Its w w.heap.size A' m P) :
    Calls Try.prog 25 #[.slice A n c, .slice A' m c', .int .i64 (a : Int)] w fun e w' => e = .returned (.bool (stB V n P m a)) ∧ Below w.heap.size w w' := by
  have HO := Lib.hid ho
  have HP := Lib.hid ho'
  obtain ⟨r, hr⟩ : ∃ r, stB V n P m a = r := ⟨_, rfl⟩
  rw [hr]
  have HR : Hid (r = true ↔ StN V n P m a) := Lib.hid (by rw [← hr]; exact stB_iff)
  have hml : m ≤ 9223372036854775807 := by unfold maxLen at hm; omega
  have e1 : IntKind.i64.wrap ((n : Int) - (a : Int)) = (n : Int) - (a : Int) := IntWalk.i64_in _ (by omega)
  clear ho ho' hr hm
  by_cases hlt : a + m ≤ n
  · have d1 : decide ((n : Int) - (a : Int) < (m : Int)) = false := decide_eq_false (by omega)
    go_enter Try.func25, Try.ntmps25
    go_wp2_with fail
    go_loopw [17] (fun v wr => ∃ i : Nat, i ≤ m ∧ v = .int .i64 (i : Int) ∧ Hid (∀ j, j < i → V (a + j) = P j) ∧ Hid (Below w.heap.size w wr)) (fun v _ => m - (intOf v).toNat)
    case atStart => exact ⟨0, Nat.zero_le _, rfl, Lib.hid (fun j hj => absurd hj (Nat.not_lt_zero j)), Lib.hid (Below.refl _ _)⟩
    case round =>
      obtain ⟨i, hi, rfl, hall, hb⟩ := hrel
      by_cases him : i < m
      · have himi : (i : Int) < (m : Int) := by omega
        obtain ⟨q, hq⟩ : ∃ q, a + i = q := ⟨_, rfl⟩
        have e2 : IntKind.i64.wrap ((a : Int) + (i : Int)) = (q : Int) := by rw [IntWalk.i64_in _ (by omega)]; omega
        have hqn : (q : Int) < (n : Int) := by omega
        obtain ⟨ad, hA, _, _, _⟩ := HO.out q (by omega)
        subst hA
        obtain ⟨ad', hA', _, _, _⟩ := HP.out i him
        subst hA'
        have c1 : ∀ k, (wr.drewN k).cell? (ad.add q) = some (.int .i64 (V q)) := fun k => by
          obtain ⟨_, e, _, h, _⟩ := (HO.out.below (below_drewN' hb.out k)) q (by omega)
          cases e
          exact h
        have c2 : ∀ k, (wr.drewN k).cell? (ad'.add i) = some (.int .i64 (P i)) := fun k => by
          obtain ⟨_, e, _, h, _⟩ := (HP.out.below (below_drewN' hb.out k)) i him
          cases e
          exact h
        have HB2 : ∀ k, Hid (Below w.heap.size w (wr.drewN k)) := fun k => Lib.hid (below_drewN' hb.out k)
        by_cases hv : V q = P i
        · have HN : Hid (∀ j, j < i + 1 → V (a + j) = P j) := Lib.hid fun j hj => by
            by_cases e : j = i
            · rw [e, hq]; exact hv
            · exact hall.out j (by omega)
          rw [hv] at c1
          have g1 : (P i != P i) = false := by simp
          generalize P i = y at c1 c2 g1
          clear hall hb hv hq
          go_wp2_with fail
          go_quiet (fail)
          go_wp2_with fail
          go_roundw
          case rel => exact ⟨i + 1, by omega, by go_num, HN, HB2 _⟩
          case measure => simp [intOf]; omega
        · obtain rfl : r = false := Bool.eq_false_iff.2 fun h => hv (by
            have := (HR.out.1 h).2 i him
            rwa [hq] at this)
          have g1 : (V q != P i) = true := by rw [bne_iff_ne]; exact hv
          generalize V q = x at c1 g1 hv
          generalize P i = y at c2 g1 hv
          clear hall hb hq
          go_wp2_with fail
          go_quiet (fail)
          go_wp2_with fail
          go_ret
          exact ⟨rfl, (HB2 _).out⟩
      · have hge : ¬ (i : Int) < (m : Int) := by omega
        obtain rfl : r = true := HR.out.2 ⟨hlt, fun j hj => hall.out j (by omega)⟩
        go_wp2_with fail
        go_ret
        exact ⟨rfl, hb.out⟩
  · have d1 : decide ((n : Int) - (a : Int) < (m : Int)) = true := decide_eq_true (by omega)
    have d2 : (n : Int) - (a : Int) < (m : Int) := by omega
    obtain rfl : r = false := Bool.eq_false_iff.2 fun h => hlt (HR.out.1 h).1
    go_enter Try.func25, Try.ntmps25
    go_wp2_with fail
    go_ret
    exact ⟨rfl, Below.refl _ _⟩

/-- a list as a row. -/
def lstI (l : List Int) : Nat → Int := fun k => l.getD k 0
theorem icells_lstI_snoc (l : List Int) (x : Int) : icells (lstI (l ++ [x])) (l.length + 1) = icells (lstI l) l.length ++ [.int .i64 x] := by
  rw [icells_snoc]
  congr 1
  · refine icells_congr fun j hj => ?_
    unfold lstI
    rw [List.getD_eq_getElem?_getD, List.getD_eq_getElem?_getD, List.getElem?_append_left hj]
  · unfold lstI
    rw [List.getD_eq_getElem?_getD, List.getElem?_append_right (Nat.le_refl _), Nat.sub_self]
    rfl
set_option maxRecDepth 100000 in
set_option maxHeartbeats 1600000 in
theorem refRange15_any (A AS A' : Option Addr) (n c k cs m c' : Nat) (V P : Nat → Int) (s : Nat → Nat) (w : World) (hn : n ≤ 4194303) (hk : k ≤ 4194303) (hm : m ≤ maxLen) (hs : ∀ i, i < k → s i ≤ n) (ho : Its w w.heap.size A n V) (hS : Its w w.heap.size AS k (fun i => ((s i : Nat) : Int))) (ho' : Its w w.heap.size A' m P) :
    Calls Try.prog 14 #[.slice A n c, .slice AS k cs, .slice A' m c'] w fun e w' => e = .returned (.tuple #[.int .i64 (((rngF (fun i => stB V n P m (s i)) k).1 : Nat) : Int), .int .i64 (((rngF (fun i => stB V n P m (s i)) k).2 : Nat) : Int)]) ∧ Below w.heap.size w w' := by
  have HO := Lib.hid ho
  have HS := Lib.hid hS
  have HP := Lib.hid ho'
  have HSn := Lib.hid hs
  clear ho hS ho' hs
  go_enter Try.func14, Try.ntmps14
  go_wp2_with fail
  go_loopw [8, 9, 14] (fun u t v wr => ∃ i x y : Nat, i ≤ k ∧ y ≤ i ∧ v = .int .i64 (i : Int) ∧ u = .int .i64 (x : Int) ∧ t = .int .i64 (y : Int) ∧ Hid (rngF (fun i => stB V n P m (s i)) i = (x, y)) ∧ Hid (Below w.heap.size w wr)) (fun _ _ v _ => k - (intOf v).toNat)
  case atStart => exact ⟨0, 0, 0, Nat.zero_le _, Nat.le_refl _, rfl, rfl, rfl, Lib.hid rfl, Lib.hid (Below.refl _ _)⟩
  case round =>
    obtain ⟨i, x, y, hi, hyi, rfl, rfl, rfl, hx, hb⟩ := hrel
    by_cases hlt : i < k
    · have hlti : (i : Int) < (k : Int) := by omega
      obtain ⟨ad, hA, _, cx, _⟩ := HS.out.below hb.out i hlt
      subst hA
      have HSt := refStands_is A A' n c m c' V P (s i) _ (by omega) hm (HSn.out i hlt) ((HO.out.below hb.out).mono_ hb.out.size) ((HP.out.below hb.out).mono_ hb.out.size)
      obtain ⟨r, hr⟩ : ∃ r, stB V n P m (s i) = r := ⟨_, rfl⟩
      rw [hr] at HSt
      have HSt := Lib.hid HSt
      obtain ⟨z, hz⟩ : ∃ z, s i = z := ⟨_, rfl⟩
      replace cx : World.cell? _ (ad.add i) = some (.int .i64 ((s i : Nat) : Int)) := cx
      rw [hz] at cx HSt
      rename World => wl
      cases r with
      | true =>
        by_cases hy0 : y = 0
        · subst hy0
          have HN : Hid (rngF (fun i => stB V n P m (s i)) (i + 1) = (i, i + 1)) := Lib.hid (rngF_first (f := fun i => stB V n P m (s i)) hr (by rw [hx.out]))
          clear hr hz hx
          go_wp2_with fail
          refine HSt.out.mono ?_
          rintro e w4 ⟨rfl, hb4⟩
          have hB4 := Lib.hid (hb.out.trans (hb4.mono hb.out.size))
          clear hb hb4 HSt cx
          go_wp2_with fail
          go_roundw
          case rel => exact ⟨i + 1, i, i + 1, by omega, by omega, by go_num, rfl, by go_num, HN, hB4⟩
          case measure => simp [intOf]; omega
        · have HN : Hid (rngF (fun i => stB V n P m (s i)) (i + 1) = (x, i + 1)) := Lib.hid (by rw [rngF_more (f := fun i => stB V n P m (s i)) hr (by rw [hx.out]; exact hy0), hx.out])
          have g1 : ((y : Int) == 0) = false := by rw [beq_eq_false_iff_ne]; omega
          have g2 : ¬ (y : Int) = 0 := by omega
          clear hr hz hx
          go_wp2_with fail
          refine HSt.out.mono ?_
          rintro e w4 ⟨rfl, hb4⟩
          have hB4 := Lib.hid (hb.out.trans (hb4.mono hb.out.size))
          clear hb hb4 HSt cx
          go_wp2_with fail
          go_roundw
          case rel => exact ⟨i + 1, x, i + 1, by omega, by omega, by go_num, rfl, by go_num, HN, hB4⟩
          case measure => simp [intOf]; omega
      | false =>
        have HN : Hid (rngF (fun i => stB V n P m (s i)) (i + 1) = (x, y)) := Lib.hid (by rw [rngF_miss (f := fun i => stB V n P m (s i)) hr]; exact hx.out)
        clear hr hz hx
        go_wp2_with fail
        refine HSt.out.mono ?_
        rintro e w4 ⟨rfl, hb4⟩
        have hB4 := Lib.hid (hb.out.trans (hb4.mono hb.out.size))
        clear hb hb4 HSt cx
        go_wp2_with fail
        go_roundw
        case rel => exact ⟨i + 1, x, y, by omega, by omega, by go_num, rfl, rfl, HN, hB4⟩
        case measure => simp [intOf]; omega
    · obtain rfl : i = k := by omega
      have hge : ¬ (i : Int) < (i : Int) := by omega
      go_wp2_with fail
      go_ret2
      exact ⟨by rw [hx.out]; rfl, hb.out⟩

end Go.Proofs.Ytoeamldadclodaa
