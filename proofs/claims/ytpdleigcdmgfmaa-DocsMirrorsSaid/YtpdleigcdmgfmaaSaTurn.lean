/- slices.Repeat over ints; the developers' suffix.Turn: the list turned round. -/
import Derived.Test.YtpdleigcdmgfmaaRange
import Derived.Test.YtpdleigcdmgfmaaSufTurn
import Derived.Test.YtpdleigcdmgfmaaSufI
import Derived.Test.YtpdleigcdmgfmaaIntPut
import Derived.Test.YtpdleigcdmgfmaaSaMath
import Derived.Shelf.Bits.Mul64
import Derived.Laws.CopyOwn
namespace Go.Proofs.Ytpdleigcdmgfmaa
open Go.RowKit
open Go.Shelf

theorem off_drew (p : Nat → Prop) (w : World) : Off p w w.drew := ⟨rfl, rfl, rfl, Nat.le_refl _, fun _ _ _ => rfl⟩
def mulLays_ren : Go.Shelf.Ren := ⟨fun | 212 => 34 | 263 => 35 | 264 => 36 | n => n, fun | 46 => 63 | 51 => 66 | 146 => 67 | 53 => 69 | 148 => 70 | n => n, fun | n => n⟩
theorem mulLays : Go.Proofs.Lays.n212 Try.prog mulLays_ren := {
  mixed := by kernel_rfl
  f212 := Try.func34.trans (congrArg some (by kernel_rfl))
  f263 := Try.func35.trans (congrArg some (by kernel_rfl))
  f264 := Try.func36.trans (congrArg some (by kernel_rfl))
  t46 := Try.underlying63
  a46 := Try.isAgg63
  z46 := Try.sizeOf63
  v46 := Try.zeroValue63
  t51 := Try.underlying66
  a51 := Try.isAgg66
  z51 := Try.sizeOf66
  v51 := Try.zeroValue66
  t53 := Try.underlying69
  a53 := Try.isAgg69
  z53 := Try.sizeOf69
  v53 := Try.zeroValue69
  t146 := Try.underlying67
  a146 := Try.isAgg67
  z146 := Try.sizeOf67
  v146 := Try.zeroValue67
  t148 := Try.underlying70
  a148 := Try.isAgg70
  z148 := Try.sizeOf70
  v148 := Try.zeroValue70 }
def overI (U : Nat → Int) (o m : Nat) (V : Nat → Int) : Nat → Int := fun k => if o ≤ k ∧ k < o + m then V (k - o) else U k
theorem overI_cells (U V : Nat → Int) (n o m : Nat) (h : o + m ≤ n) : (icells U n).take o ++ (icells V m ++ (icells U n).drop (o + m)) = icells (overI U o m V) n := by
  apply List.ext_getElem?
  intro k
  by_cases hk : k < n
  · rw [icells_at _ _ _ hk]
    unfold overI
    by_cases h1 : k < o
    · rw [List.getElem?_append_left (by rw [List.length_take, icells_length]; omega), List.getElem?_take, if_pos h1, icells_at _ _ _ hk, if_neg (by omega)]
    · have hl : (List.take o (icells U n)).length = o := by rw [List.length_take, icells_length]; omega
      rw [List.getElem?_append_right (by omega), hl]
      by_cases h2 : k < o + m
      · rw [List.getElem?_append_left (by rw [icells_length]; omega), icells_at _ _ _ (by omega), if_pos ⟨by omega, h2⟩]
      · rw [List.getElem?_append_right (by rw [icells_length]; omega), icells_length, List.getElem?_drop, show o + m + (k - o - m) = k by omega, icells_at _ _ _ hk, if_neg (by omega)]
  · rw [List.getElem?_eq_none (by simp [icells_length]; omega), List.getElem?_eq_none (by rw [icells_length]; omega)]
theorem size_i64b : (Try.prog.info? 3).map (·.size) = some 1 := by kernel_rfl
theorem off_setRow (g : Nat) (w : World) (cs : Array Value) : Off (fun q => q ≠ g) w (w.setRow g cs) := by
  refine ⟨rfl, rfl, rfl, by simp [World.setRow], fun k hk hne => ?_⟩
  simp only [World.setRow, Array.getElem?_modify]
  rw [if_neg (fun e => hne e.symm)]
/-- a copy of ints into a block that is known whole. -/
theorem int_copy {w : World} {g n o dm dc m c k : Nat} {U V : Nat → Int} {ad : Addr} (h : Lies w g 3 (icells U n)) (hk : k = Nat.min m dm) (ho : o + k ≤ n) (hs : ∀ j, j < k → w.cell? (ad.add j) = some (.int .i64 (V j))) :
    ∃ w2, (Builtin.copy_ #[23, 23] 3 #[.slice (some ⟨g, o, none⟩) dm dc, .slice (some ad) m c]).run Try.prog w = .ok (.int .i64 (k : Int)) w2 ∧ Lies w2 g 3 (icells (overI U o k V) n) ∧ Off (fun q => q ≠ g) w w2 := by
  have hrun := run_copy_row (P := Try.prog) w 23 23 3 3 g o dm dc ad m c (icells U n).toArray 3 (icells V k) Try.underlying23 size_i64b h (by rw [icells_length]; exact hk) (fun j v hj => by
    have hjm : j < k := by
      have := (List.getElem?_eq_some_iff.1 hj).1
      rw [icells_length] at this
      exact this
    rw [icells_at V k j hjm] at hj
    rw [← hj]
    exact hs j hjm) (by rw [icells_length]; simp [icells_length]; omega) (icells_one V k)
  rw [icells_length] at hrun
  refine ⟨_, hrun, ?_, off_setRow _ _ _⟩
  have := setRow_heap w g _ (List.take o (icells U n).toArray.toList ++ icells V k ++ List.drop (o + k) (icells U n).toArray.toList).toArray 3 (0, 0) h
  unfold Lies
  rw [this, ← overI_cells U V n o k ho, List.append_assoc]

set_option maxRecDepth 100000 in
set_option maxHeartbeats 800000 in
/-- slices.Repeat of one number. -/
theorem repeat_any (xb n cx : Nat) (x : Int) (w : World) (hn : n ≤ 4194304) (hx : Lies w xb 3 [.int .i64 x]) :
    Calls Try.prog 33 #[.slice (some ⟨xb, 0, none⟩) 1 cx, .int .i64 (n : Int)] w fun e w' => e = .returned (.slice (some ⟨w.heap.size, 0, none⟩) n n) ∧ Lies w' w.heap.size 3 (icells (fun _ => x) n) ∧ Off (fun q => q ≠ w.heap.size) w w' := by
  have hM := Any.bits_Mul mulLays 1 n (by decide) (by omega) w
  have e1 : 1 * n / 18446744073709551616 = 0 := by rw [Nat.one_mul]; exact Nat.div_eq_of_lt (by omega)
  have e2 : 1 * n % 18446744073709551616 = n := by rw [Nat.one_mul]; exact Nat.mod_eq_of_lt (by omega)
  rw [e1, e2] at hM
  have hM : Calls Try.prog 34 #[.int .u64 1, .int .u64 (n : Int)] w fun e w' => e = .returned (.tuple #[.int .u64 0, .int .u64 (n : Int)]) ∧ w' = w := hM
  have hMk := make_ints0 w n hn
  obtain ⟨w1, hw1⟩ : ∃ w1, w.alloc (.cells (icells (fun _ => 0) n).toArray 3) = w1 := ⟨_, rfl⟩
  have l0 : Lies w1 w.heap.size 3 (icells (fun _ => 0) n) := by rw [← hw1]; exact lies_new w 3 _
  have hO1 : Off (fun q => q ≠ w.heap.size) w w1 := by rw [← hw1]; exact Off.grown (World.grownBy_alloc w _ none) (fun k e => by cases e)
  have hxl := hx.lt
  have lx : Lies w1 xb 3 [.int .i64 x] := by rw [← hw1]; exact hx.alloc _
  obtain ⟨g, hg⟩ : ∃ g, w.heap.size = g := ⟨_, rfl⟩
  rw [hw1, hg] at hMk
  rw [hg] at l0 hO1 hxl ⊢
  obtain ⟨w2, hC, l2, hO2⟩ := int_copy (w := w1) (g := g) (n := n) (o := 0) (dm := n) (dc := n) (m := 1) (c := cx) (k := Nat.min 1 n) (V := fun _ => x) (ad := ⟨xb, 0, none⟩) l0 rfl (by rw [Nat.zero_add]; exact Nat.min_le_right _ _) (fun j hj => by
    have hj : j < 1 := Nat.lt_of_lt_of_le hj (Nat.min_le_left _ _)
    obtain rfl : j = 0 := by omega
    exact lx.cell 0)
  obtain ⟨k, hk⟩ : ∃ k, Nat.min 1 n = k := ⟨_, rfl⟩
  rw [hk] at hC l2
  have hk1 : k ≤ 1 ∧ k ≤ n ∧ (0 < n → k = 1) := by
    have h1 := Nat.min_le_left 1 n
    have h2 := Nat.min_le_right 1 n
    have h3 : 0 < n → Nat.min 1 n = 1 := fun h => Nat.min_eq_left h
    rw [hk] at h3
    have h1 : Nat.min 1 n ≤ 1 := h1
    have h2 : Nat.min 1 n ≤ n := h2
    omega
  have HO2 := Lib.hid (hO1.trans hO2)
  have HL2 : Hid (∃ U, Lies w2 g 3 (icells U n) ∧ ∀ j, j < k → U j = x) := Lib.hid ⟨_, l2, fun j hj => by unfold overI; rw [if_pos (by omega)]⟩
  have c1 : IntKind.u64.wrap (1 : Int) = 1 := by decide
  have c2 : IntKind.u64.wrap (n : Int) = (n : Int) := IntWalk.u64_in _ (by omega)
  have c3 : IntKind.i64.wrap (n : Int) = (n : Int) := IntWalk.i64_in _ (by omega)
  have d1 : ¬ (9223372036854775807 : Int) < (n : Int) := by omega
  clear hx l0 hO1 lx l2 hO2 hw1 e1 e2 hk
  go_enter Try.func33, Try.ntmps33
  go_wp2_with (go_at_call 34; (with_reducible refine hM.mono ?_); rintro e w' ⟨rfl, rfl⟩)
  go_loopw [8] (fun v wr => ∃ k : Nat, k ≤ n ∧ (0 < n → 0 < k) ∧ v = .int .i64 (k : Int) ∧ Hid (∃ U, Lies wr g 3 (icells U n) ∧ ∀ j, j < k → U j = x) ∧ Hid (Off (fun q => q ≠ g) w' wr)) (fun v _ => n - (intOf v).toNat)
  case atStart => exact ⟨k, hk1.2.1, fun h => by have := hk1.2.2 h; omega, rfl, HL2, HO2⟩
  case round =>
    obtain ⟨k, hk, h0, rfl, hL, hO⟩ := hrel
    by_cases hlt : k < n
    · have hltk : (k : Int) < (n : Int) := by omega
      have hk0 := h0 (by omega)
      have hne : n ≠ k := by omega
      have hle : (k : Int) ≤ (n : Int) := by omega
      obtain ⟨U, hU, hx⟩ := hL.out
      obtain ⟨q, hq⟩ : ∃ q, Nat.min k (n - k) = q := ⟨_, rfl⟩
      have hq1 : q ≤ k ∧ q ≤ n - k ∧ 0 < q := by
        have h1 : Nat.min k (n - k) ≤ k := Nat.min_le_left _ _
        have h2 : Nat.min k (n - k) ≤ n - k := Nat.min_le_right _ _
        have h3 : 0 < Nat.min k (n - k) := Nat.lt_min.2 ⟨hk0, by omega⟩
        omega
      obtain ⟨w3, hC3, l3, hO3⟩ := int_copy (w := wr.drew) (g := g) (n := n) (o := k) (dm := n - k) (dc := n - k) (m := k) (c := n) (k := q) (V := U) (ad := ⟨g, 0, none⟩) hU.drew hq.symm (by omega) (fun j hj => by
        rw [Addr.add_mid, Nat.zero_add, hU.drew.cell]
        exact icells_at U n j (by omega))
      have HL3 : Hid (∃ U', Lies w3 g 3 (icells U' n) ∧ ∀ j, j < k + q → U' j = x) := Lib.hid ⟨_, l3, fun j hj => by
        unfold overI
        split
        · exact hx _ (by omega)
        · exact hx _ (by omega)⟩
      have HO3 := Lib.hid ((hO.out.trans (off_drew _ _)).trans hO3)
      have hw : IntKind.i64.wrap ((k : Int) + (q : Int)) = ((k + q : Nat) : Int) := by rw [IntWalk.i64_in _ (by omega)]; omega
      clear hU hx hL hO l3 hO3 hq HL2 HO2
      go_wp2_with fail
      go_region
      go_wp2_with fail
      go_roundw
      case rel => exact ⟨k + q, by omega, fun _ => by omega, rfl, HL3, HO3⟩
      case measure => simp [intOf]; omega
    · obtain rfl : k = n := by omega
      obtain ⟨U, hU, hx⟩ := hL.out
      go_wp2_with fail
      go_ret
      refine ⟨rfl, ?_, hO.out⟩
      rw [icells_congr (U := fun _ => x) (U' := U) (fun j hj => (hx j hj).symm)]
      exact hU
end Go.Proofs.Ytpdleigcdmgfmaa

namespace Go.Proofs.Ytpdleigcdmgfmaa
open Go.RowKit
/-- as far as i: turned. -/
structure Turned2 (V : Nat → Int) (n i : Nat) (U : Nat → Int) : Prop where
  right : ∀ j, j < i → 0 ≤ V j ∧ V j < (n : Int)
  one : ∀ j k, j < k → k < i → V j ≠ V k
  at_ : ∀ j, j < i → U (V j).toNat = (j : Int)
  rest : ∀ q, q < n → U q = -1 ∨ ∃ j, j < i ∧ V j = (q : Int)
theorem Turned2.step {V : Nat → Int} {n i : Nat} {U : Nat → Int} (h : Turned2 V n i U) {p : Nat} (hp : p < n) (hV : V i = (p : Int)) (hU : U p = -1) : Turned2 V n (i + 1) (putI U p (i : Int)) := by
  have hne : ∀ j, j < i → V j ≠ V i := fun j hj e => by
    have := h.at_ j hj
    rw [e, hV, Int.toNat_natCast, hU] at this
    omega
  refine ⟨fun j hj => ?_, fun j k hjk hk => ?_, fun j hj => ?_, fun q hq => ?_⟩
  · by_cases e : j = i
    · rw [e, hV]; omega
    · exact h.right j (by omega)
  · by_cases e : k = i
    · rw [e]; exact hne j (by omega)
    · exact h.one j k hjk (by omega)
  · by_cases e : j = i
    · rw [e, hV, Int.toNat_natCast, putI_at]
    · have h1 := h.right j (by omega)
      have h2 := hne j (by omega)
      rw [putI_off _ (by rw [hV] at h2; omega)]
      exact h.at_ j (by omega)
  · by_cases e : q = p
    · exact .inr ⟨i, Nat.lt_succ_self i, by rw [hV, e]⟩
    · rw [putI_off _ e]
      rcases h.rest q hq with g | ⟨j, g1, g2⟩
      · exact .inl g
      · exact .inr ⟨j, by omega, g2⟩
set_option maxRecDepth 100000 in
set_option maxHeartbeats 3200000 in
theorem turn_any (A : Option Addr) (n c : Nat) (V : Nat → Int) (w : World) (hn : n ≤ 4194304) (ho : Its w w.heap.size A n V) : Calls Try.prog 28 #[.slice A n c] w (TurnPost w n V) := by
  have HO := Lib.hid ho
  unfold TurnPost
  obtain ⟨B, hB⟩ : ∃ B, w.heap.size = B := ⟨_, rfl⟩
  rw [hB] at HO ⊢
  obtain ⟨w1, hw1⟩ : ∃ w1, w.alloc (.cells #[.int .i64 (-1)] 3) = w1 := ⟨_, rfl⟩
  have z1 : w1.heap.size = B + 1 := by rw [← hw1, size_alloc, hB]
  have k1 : Below B w w1 := by rw [← hw1, ← hB]; exact (Below.refl _ _).alloc (Nat.le_refl _) _
  have l1 : Lies w1 B 3 [.int .i64 (-1)] := by rw [← hw1, ← hB]; exact lies_new w _ _
  have HRep := Lib.hid (repeat_any B n 1 (-1) w1 hn l1)
  rw [z1] at HRep
  clear ho l1
  go_enter Try.func28, Try.ntmps28
  go_wp2_with fail
  refine HRep.out.mono ?_
  rintro e w2 ⟨rfl, l2, o2⟩
  have k2 : Below B w w2 := k1.trans (o2.below (by omega) (fun q hq => by omega))
  clear HRep o2
  go_wp2_with fail
  go_loopw [13] (fun s wr => ∃ i : Nat, i ≤ n ∧ s = .int .i64 (i : Int) ∧ Hid (∃ U, Lies wr (B + 1) 3 (icells U n) ∧ Turned2 V n i U) ∧ Below B w wr) (fun s _ => n - (intOf s).toNat)
  case atStart => exact ⟨0, Nat.zero_le _, rfl, Lib.hid ⟨_, l2, ⟨fun j hj => absurd hj (Nat.not_lt_zero j), fun j k _ hk => absurd hk (Nat.not_lt_zero k), fun j hj => absurd hj (Nat.not_lt_zero j), fun _ _ => .inl rfl⟩⟩, k2⟩
  case round =>
    clear l2 k2
    obtain ⟨i, hi, rfl, hU, hb⟩ := hrel
    by_cases hlt : i < n
    · have hlti : (i : Int) < (n : Int) := by omega
      obtain ⟨U, hL, hT⟩ := hU.out
      obtain ⟨ad, rfl, _, hc, _⟩ := HO.out.below hb i hlt
      obtain ⟨v, hv⟩ : ∃ v, V i = v := ⟨_, rfl⟩
      rw [hv] at hc
      by_cases hin : 0 ≤ v ∧ v < (n : Int)
      · obtain ⟨p, rfl⟩ : ∃ p : Nat, v = (p : Int) := ⟨v.toNat, by omega⟩
        have hpn : p < n := by omega
        have hpn1 : (p : Int) < (n : Int) := by omega
        have hpn2 : ¬ (n : Int) ≤ (p : Int) := by omega
        have hcell : wr.cell? ⟨B + 1, p, none⟩ = some (.int .i64 (U p)) := by
          rw [hL.cell]
          exact icells_at _ _ _ hpn
        have hfree := hL.free p
        by_cases hU1 : U p = -1
        · have HU2 : Hid (∃ U', Lies (wr.setCell ⟨B + 1, p, none⟩ (.int .i64 (i : Int))) (B + 1) 3 (icells U' n) ∧ Turned2 V n (i + 1) U') := Lib.hid ⟨putI U p (i : Int), by
            have := hL.put p (.int .i64 (i : Int))
            rw [icells_put] at this
            exact this, hT.step hpn hv hU1⟩
          have HB2 : Below B w (wr.setCell ⟨B + 1, p, none⟩ (.int .i64 (i : Int))) := hb.setCell (p := ⟨B + 1, p, none⟩) (by show B ≤ B + 1; omega) _
          rw [hU1] at hcell
          clear hU hL hT hv hU1
          go_wp2_with fail
          go_roundw
          case rel => exact ⟨i + 1, by omega, by go_num, HU2, HB2⟩
          case measure => simp [intOf]; omega
        · have HN : Hid (¬ IsPerm V n) := Lib.hid fun hP => by
            rcases hT.rest p hpn with g | ⟨j, g1, g2⟩
            · exact hU1 g
            · exact hP.2 j i g1 hlt (by rw [g2, hv])
          have hb1 : (U p != -1) = true := by rw [bne_iff_ne]; exact hU1
          obtain ⟨x, hx⟩ : ∃ x, U p = x := ⟨_, rfl⟩
          rw [hx] at hcell hb1 hU1
          clear hU hL hT hv hx
          go_wp2_with fail
          go_ret2
          exact ⟨fun h => absurd h HN.out, fun _ => ⟨none, 0, rfl⟩, hb⟩
      · have HN : Hid (¬ IsPerm V n) := Lib.hid fun hP => hin (by rw [← hv]; exact hP.1 i hlt)
        clear hU hL hT hv
        by_cases h0 : v < 0
        · have d0 : decide (v < 0) = true := decide_eq_true h0
          go_wp2_with fail
          go_ret2
          exact ⟨fun h => absurd h HN.out, fun _ => ⟨none, 0, rfl⟩, hb⟩
        · have d0 : decide (v < 0) = false := decide_eq_false h0
          have d1 : decide ((n : Int) ≤ v) = true := decide_eq_true (by omega)
          have d2 : (n : Int) ≤ v := by omega
          have d3 : 0 ≤ v := by omega
          go_wp2_with fail
          go_ret2
          exact ⟨fun h => absurd h HN.out, fun _ => ⟨none, 0, rfl⟩, hb⟩
    · have hin : i = n := by omega
      have hge : ¬ (i : Int) < (n : Int) := by omega
      rw [hin] at hU
      obtain ⟨U, hL, hT⟩ := hU.out
      have HP : Hid (IsPerm V n) := Lib.hid ⟨hT.right, hT.one⟩
      have HF : Hid (Turns V U n ∧ ItsR wr (some ⟨B + 1, 0, none⟩) n n U) := Lib.hid ⟨hT.at_, (fun e => by cases e), Nat.le_refl _, by unfold maxLen; omega, fun k hk => ⟨_, rfl, hL.lt, by
        rw [Addr.add_mid, Nat.zero_add, hL.cell]
        exact icells_at _ _ _ hk, by
        rcases hT.rest k hk with g | ⟨j, g1, g2⟩
        · rw [g]; omega
        · have := hT.at_ j g1
          rw [g2, Int.toNat_natCast] at this
          rw [this]
          omega⟩⟩
      clear hin hU hL hT
      go_wp2_with fail
      go_ret2
      exact ⟨fun _ => ⟨_, n, rfl, U, HF.out.1, HF.out.2⟩, fun h => absurd HP.out h, hb⟩
end Go.Proofs.Ytpdleigcdmgfmaa
