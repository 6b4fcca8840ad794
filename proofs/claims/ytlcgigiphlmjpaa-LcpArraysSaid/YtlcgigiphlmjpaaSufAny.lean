/- The developers' suffix: Turn; Least. The developers' suffix: ranked, Array; all that the laws ask of package suffix (suffix_any). -/
import Derived.Test.YtlcgigiphlmjpaaSaParts
import Derived.Test.YtlcgigiphlmjpaaSaGround
import Derived.Test.YtlcgigiphlmjpaaSaRank
import Derived.Test.YtlcgigiphlmjpaaSaOrd
namespace Go.Proofs.Ytlcgigiphlmjpaa
open Go.RowKit

/-- as far as i: turned. -/
structure Turned2 (V : Nat → Int) (n i : Nat) (U : Nat → Int) : Prop where
  right : ∀ j, j < i → 0 ≤ V j ∧ V j < (n : Int)
  one : ∀ j k, j < k → k < i → V j ≠ V k
  at_ : ∀ j, j < i → U (V j).toNat = (j : Int)
  rest : ∀ q, q < n → U q = -1 ∨ ∃ j, j < i ∧ V j = (q : Int)
theorem Turned2.step {V : Nat → Int} {n i : Nat} {U : Nat → Int} (h : Turned2 V n i U) {p : Nat} (hp : p < n) (hV : V i = (p : Int)) (hU : U p = -1) : Turned2 V n (i + 1) (putI U p (i : Int)) := by
  have hne : ∀ j, j < i → V j ≠ V i := fun j hj e => by
    have := h.at_ j hj
    rw [e, hV, Int.toNat_natCast, hU] at this
    omega
  refine ⟨fun j hj => ?_, fun j k hjk hk => ?_, fun j hj => ?_, fun q hq => ?_⟩
  · by_cases e : j = i
    · rw [e, hV]; omega
    · exact h.right j (by omega)
  · by_cases e : k = i
    · rw [e]; exact hne j (by omega)
    · exact h.one j k hjk (by omega)
  · by_cases e : j = i
    · rw [e, hV, Int.toNat_natCast, putI_at]
    · have h1 := h.right j (by omega)
      have h2 := hne j (by omega)
      rw [putI_off _ (by rw [hV] at h2; omega)]
      exact h.at_ j (by omega)
  · by_cases e : q = p
    · exact .inr ⟨i, Nat.lt_succ_self i, by rw [hV, e]⟩
    · rw [putI_off _ e]
      rcases h.rest q hq with g | ⟨j, g1, g2⟩
      · exact .inl g
      · exact .inr ⟨j, by omega, g2⟩
set_option maxRecDepth 100000 in
set_option maxHeartbeats 3200000 in
theorem turn_any (A : Option Addr) (n c : Nat) (V : Nat → Int) (w : World) (hn : n ≤ 4194304) (ho : Its w w.heap.size A n V) : Calls Try.prog 17 #[.slice A n c] w (TurnPost w n V) := by
  have HO := Lib.hid ho
  unfold TurnPost
  obtain ⟨B, hB⟩ : ∃ B, w.heap.size = B := ⟨_, rfl⟩
  rw [hB] at HO ⊢
  obtain ⟨w1, hw1⟩ : ∃ w1, w.alloc (.cells #[.int .i64 (-1)] 3) = w1 := ⟨_, rfl⟩
  have z1 : w1.heap.size = B + 1 := by rw [← hw1, size_alloc, hB]
  have k1 : Below B w w1 := by rw [← hw1, ← hB]; exact (Below.refl _ _).alloc (Nat.le_refl _) _
  have l1 : Lies w1 B 3 [.int .i64 (-1)] := by rw [← hw1, ← hB]; exact lies_new w _ _
  have HRep := Lib.hid (repeat_any B n 1 (-1) w1 hn l1)
  rw [z1] at HRep
  clear ho l1
  go_enter Try.func17, Try.ntmps17
  go_wp2_with fail
  refine HRep.out.mono ?_
  rintro e w2 ⟨rfl, l2, o2⟩
  have k2 : Below B w w2 := k1.trans (o2.below (by omega) (fun q hq => by omega))
  clear HRep o2
  go_wp2_with fail
  go_loopw [13] (fun s wr => ∃ i : Nat, i ≤ n ∧ s = .int .i64 (i : Int) ∧ Hid (∃ U, Lies wr (B + 1) 3 (icells U n) ∧ Turned2 V n i U) ∧ Below B w wr) (fun s _ => n - (intOf s).toNat)
  case atStart => exact ⟨0, Nat.zero_le _, rfl, Lib.hid ⟨_, l2, ⟨fun j hj => absurd hj (Nat.not_lt_zero j), fun j k _ hk => absurd hk (Nat.not_lt_zero k), fun j hj => absurd hj (Nat.not_lt_zero j), fun _ _ => .inl rfl⟩⟩, k2⟩
  case round =>
    clear l2 k2
    obtain ⟨i, hi, rfl, hU, hb⟩ := hrel
    by_cases hlt : i < n
    · have hlti : (i : Int) < (n : Int) := by omega
      obtain ⟨U, hL, hT⟩ := hU.out
      obtain ⟨ad, rfl, _, hc, _⟩ := HO.out.below hb i hlt
      obtain ⟨v, hv⟩ : ∃ v, V i = v := ⟨_, rfl⟩
      rw [hv] at hc
      by_cases hin : 0 ≤ v ∧ v < (n : Int)
      · obtain ⟨p, rfl⟩ : ∃ p : Nat, v = (p : Int) := ⟨v.toNat, by omega⟩
        have hpn : p < n := by omega
        have hpn1 : (p : Int) < (n : Int) := by omega
        have hpn2 : ¬ (n : Int) ≤ (p : Int) := by omega
        have hcell : wr.cell? ⟨B + 1, p, none⟩ = some (.int .i64 (U p)) := by
          rw [hL.cell]
          exact icells_at _ _ _ hpn
        have hfree := hL.free p
        by_cases hU1 : U p = -1
        · have HU2 : Hid (∃ U', Lies (wr.setCell ⟨B + 1, p, none⟩ (.int .i64 (i : Int))) (B + 1) 3 (icells U' n) ∧ Turned2 V n (i + 1) U') := Lib.hid ⟨putI U p (i : Int), by
            have := hL.put p (.int .i64 (i : Int))
            rw [icells_put] at this
            exact this, hT.step hpn hv hU1⟩
          have HB2 : Below B w (wr.setCell ⟨B + 1, p, none⟩ (.int .i64 (i : Int))) := hb.setCell (p := ⟨B + 1, p, none⟩) (by show B ≤ B + 1; omega) _
          rw [hU1] at hcell
          clear hU hL hT hv hU1
          go_wp2_with fail
          go_roundw
          case rel => exact ⟨i + 1, by omega, by go_num, HU2, HB2⟩
          case measure => simp [intOf]; omega
        · have HN : Hid (¬ IsPerm V n) := Lib.hid fun hP => by
            rcases hT.rest p hpn with g | ⟨j, g1, g2⟩
            · exact hU1 g
            · exact hP.2 j i g1 hlt (by rw [g2, hv])
          have hb1 : (U p != -1) = true := by rw [bne_iff_ne]; exact hU1
          obtain ⟨x, hx⟩ : ∃ x, U p = x := ⟨_, rfl⟩
          rw [hx] at hcell hb1 hU1
          clear hU hL hT hv hx
          go_wp2_with fail
          go_ret2
          exact ⟨fun h => absurd h HN.out, fun _ => ⟨none, 0, rfl⟩, hb⟩
      · have HN : Hid (¬ IsPerm V n) := Lib.hid fun hP => hin (by rw [← hv]; exact hP.1 i hlt)
        clear hU hL hT hv
        by_cases h0 : v < 0
        · have d0 : decide (v < 0) = true := decide_eq_true h0
          go_wp2_with fail
          go_ret2
          exact ⟨fun h => absurd h HN.out, fun _ => ⟨none, 0, rfl⟩, hb⟩
        · have d0 : decide (v < 0) = false := decide_eq_false h0
          have d1 : decide ((n : Int) ≤ v) = true := decide_eq_true (by omega)
          have d2 : (n : Int) ≤ v := by omega
          have d3 : 0 ≤ v := by omega
          go_wp2_with fail
          go_ret2
          exact ⟨fun h => absurd h HN.out, fun _ => ⟨none, 0, rfl⟩, hb⟩
    · have hin : i = n := by omega
      have hge : ¬ (i : Int) < (n : Int) := by omega
      rw [hin] at hU
      obtain ⟨U, hL, hT⟩ := hU.out
      have HP : Hid (IsPerm V n) := Lib.hid ⟨hT.right, hT.one⟩
      have HF : Hid (Turns V U n ∧ ItsR wr (some ⟨B + 1, 0, none⟩) n n U) := Lib.hid ⟨hT.at_, (fun e => by cases e), Nat.le_refl _, by unfold maxLen; omega, fun k hk => ⟨_, rfl, hL.lt, by
        rw [Addr.add_mid, Nat.zero_add, hL.cell]
        exact icells_at _ _ _ hk, by
        rcases hT.rest k hk with g | ⟨j, g1, g2⟩
        · rw [g]; omega
        · have := hT.at_ j g1
          rw [g2, Int.toNat_natCast] at this
          rw [this]
          omega⟩⟩
      clear hin hU hL hT
      go_wp2_with fail
      go_ret2
      exact ⟨fun _ => ⟨_, n, rfl, U, HF.out.1, HF.out.2⟩, fun h => absurd HP.out h, hb⟩
end Go.Proofs.Ytlcgigiphlmjpaa

namespace Go.Proofs.Ytlcgigiphlmjpaa
open Go.RowKit Go.Shelf

set_option maxRecDepth 100000 in
set_option maxHeartbeats 3200000 in
theorem ranked_any (A : Option Addr) (n c : Nat) (V : Nat → Int) (w : World) (hn : n ≤ 4194304) (ho : Its w w.heap.size A n V) :
    Calls Try.prog 33 #[.slice A n c] w fun e w' => ∃ g, e = .returned (.slice (some ⟨g, 0, none⟩) n n) ∧ w.heap.size ≤ g ∧ Lies w' g 3 (icells (xi (rkN V n)) n) ∧ Below w.heap.size w w' := by
  have HO := Lib.hid ho
  obtain ⟨lo, hlo⟩ : ∃ lo, w.heap.size = lo := ⟨_, rfl⟩
  rw [hlo] at HO ⊢
  have HVa := Lib.hid (values_any A n c w)
  obtain ⟨w1, hw1⟩ : ∃ w1, w.alloc (.cells #[.slice A n c] 22) = w1 := ⟨_, rfl⟩
  have z1 : w1.heap.size = lo + 1 := by rw [← hw1, size_alloc, hlo]
  have k1 : Below lo w w1 := by rw [← hw1, ← hlo]; exact (Below.refl _ _).alloc (Nat.le_refl _) _
  have l1 : Lies w1 lo 22 [.slice A n c] := by rw [← hw1, ← hlo]; exact lies_new w _ _
  have HSo := Lib.hid (sorted_any A n c lo V w1 hn (by omega) (l1.cell 0) ((HO.out.below k1).mono_ (by omega)))
  rw [hlo, hw1] at HVa
  rw [z1] at HSo
  clear ho l1 hw1
  go_enter Try.func33, Try.ntmps33
  go_wp2_with fail
  refine HVa.out.mono ?_
  rintro e w2 ⟨rfl, rfl⟩
  clear HVa
  go_wp2_with fail
  refine HSo.out.mono ?_
  rintro e w3 ⟨v3, rfl, h3, k3⟩
  have K3 : Below lo w w3 := k1.trans (k3.mono (by omega))
  have HS3 := Lib.hid h3
  obtain ⟨a, za⟩ : ∃ a, w3.heap.size = a := ⟨_, rfl⟩
  have hal : lo + 1 ≤ a := by have := k3.size; omega
  have hMk := make_ints0 w3 n hn
  rw [za] at hMk
  obtain ⟨w4, hw4⟩ : ∃ w4, w3.alloc (.cells (icells (fun _ => 0) n).toArray 3) = w4 := ⟨_, rfl⟩
  have k4 : Below a w3 w4 := by rw [← hw4, ← za]; exact (Below.refl _ _).alloc (Nat.le_refl _) _
  have l4 : Lies w4 a 3 (icells (fun _ => 0) n) := by rw [← hw4, ← za]; exact lies_new w3 _ _
  rw [hw4] at hMk
  have K4 : Below lo w w4 := K3.trans (k4.mono (by omega))
  clear HSo h3 hw4
  go_wp2_with fail
  go_loopw [15] (fun s wr => ∃ i : Nat, i ≤ n ∧ s = .int .i64 (i : Int) ∧ Hid (∃ U, Lies wr a 3 (icells U n) ∧ ∀ j, j < i → U j = ((rkN V n j : Nat) : Int)) ∧ Hid (Below a w3 wr) ∧ Hid (Below lo w wr)) (fun s _ => n - (intOf s).toNat)
  case atStart => exact ⟨0, Nat.zero_le _, rfl, Lib.hid ⟨_, l4, fun j hj => absurd hj (Nat.not_lt_zero j)⟩, Lib.hid k4, Lib.hid K4⟩
  case round =>
    clear l4 k4 K4 hMk
    obtain ⟨i, hi, rfl, hU, hb, hB⟩ := hrel
    by_cases hlt : i < n
    · have hlti : (i : Int) < (n : Int) := by omega
      obtain ⟨U, hL, hUj⟩ := hU.out
      obtain ⟨ad, rfl, _, hc, _⟩ := HO.out.below hB.out i hlt
      obtain ⟨g, cg, ys, rfl, hg1, hg2, hyl, hyp, hys, hyc⟩ := HS3.out.2 (by omega)
      rw [za] at hg2
      have hS : ∀ x : Int, Calls Try.prog 36 #[.slice (some ⟨g, 0, none⟩) n cg, .int .i64 x] wr fun e w' => ∃ bx, e = .returned (.tuple #[.int .i64 ((Pl.cnt (fun q => decide (V q < x)) n : Nat) : Int), .bool bx]) ∧ ∃ q, w' = wr.drewN q := fun x => by
        have h := Any.slices_BinarySearch_int searchLays g 0 n cg ys x wr (by omega) (by omega) (fun j hj => by
          rw [Nat.zero_add]
          exact (hb.out.cell (p := ⟨g, j, none⟩) hg2).trans (hyc j (by omega))) (by rw [List.take_of_length_le (by omega)]; exact hys)
        refine Calls.mono h ?_
        rintro e w' ⟨rfl, q, rfl⟩
        refine ⟨(List.take n ys).contains x, ?_, q, rfl⟩
        rw [List.take_of_length_le (by omega), hyp.countP_eq, countP_cnt]
      have hcell : ∀ q, (wr.drewN q).cell? ⟨a, i, none⟩ = some (.int .i64 (U i)) := fun q => by
        have := hL.cell i
        rw [icells_at _ _ _ hlt] at this
        exact this
      have hfree : ∀ q, (wr.drewN q).frozen? ⟨a, i, none⟩ = false := fun q => hL.free i
      have HU2 : ∀ q, Hid (∃ U', Lies ((wr.drewN q).setCell ⟨a, i, none⟩ (.int .i64 ((rkN V n i : Nat) : Int))) a 3 (icells U' n) ∧ ∀ j, j < i + 1 → U' j = ((rkN V n j : Nat) : Int)) := fun q => Lib.hid ⟨putI U i ((rkN V n i : Nat) : Int), by
        have := (hL.drewN q).put i (.int .i64 ((rkN V n i : Nat) : Int))
        rw [icells_put] at this
        exact this, fun j hj => by
        by_cases e : j = i
        · rw [e, putI_at]
        · rw [putI_off _ e]
          exact hUj j (by omega)⟩
      have HB2 : ∀ q, Hid (Below a w3 ((wr.drewN q).setCell ⟨a, i, none⟩ (.int .i64 ((rkN V n i : Nat) : Int)))) := fun q => Lib.hid ((below_drewN' hb.out q).setCell (p := ⟨a, i, none⟩) (Nat.le_refl _) _)
      have HB3 : ∀ q, Hid (Below lo w ((wr.drewN q).setCell ⟨a, i, none⟩ (.int .i64 ((rkN V n i : Nat) : Int)))) := fun q => Lib.hid ((below_drewN' hB.out q).setCell (p := ⟨a, i, none⟩) (by show lo ≤ a; omega) _)
      have hSi := Lib.hid (hS (V i))
      have hrk : Pl.cnt (fun q => decide (V q < V i)) n = rkN V n i := rfl
      rw [hrk] at hSi
      clear hU hb hB hL hUj hyp hys hyc hS hrk
      generalize rkN V n i = rk at *
      generalize V i = vi at *
      generalize U i = ui at *
      go_wp2_with fail
      refine hSi.out.mono ?_
      rintro e w' ⟨bx, rfl, q, rfl⟩
      go_wp2_with fail
      go_roundw
      case rel => exact ⟨i + 1, by omega, by go_num, HU2 _, HB2 _, HB3 _⟩
      case measure => simp [intOf]; omega
    · have hin : i = n := by omega
      have hge : ¬ (i : Int) < (n : Int) := by omega
      rw [hin] at hU
      have HF : Hid (Lies wr a 3 (icells (xi (rkN V n)) n) ∧ Below lo w wr) := Lib.hid (by
        obtain ⟨U, hL, hUj⟩ := hU.out
        refine ⟨?_, hB.out⟩
        rw [← icells_congr (U := U) (U' := xi (rkN V n)) hUj]
        exact hL)
      clear hin hU hb hB
      go_wp2_with fail
      go_ret
      exact ⟨a, rfl, by omega, HF.out.1, HF.out.2⟩

set_option maxRecDepth 100000 in
set_option maxHeartbeats 3200000 in
theorem array_any (A : Option Addr) (n c : Nat) (V : Nat → Int) (al : Int) (w : World) (hn : n ≤ maxLen) (hA : A = none → n = 0 ∧ c = 0) (hnc : n ≤ c) (hcm : c ≤ maxLen) (ho : Its w w.heap.size A n V) :
    Calls Try.prog 27 #[.slice A n c, .int .i64 al] w (ArrayPost w n V al) := by
  unfold ArrayPost
  have HO := Lib.hid ho
  by_cases hR : RightS V n al
  · obtain ⟨⟨h0, h1, h2⟩, hV⟩ := hR
    obtain ⟨b, rfl⟩ : ∃ b : Nat, al = (b : Int) := ⟨al.toNat, by omega⟩
    have HR := Lib.hid (show RightS V n (b : Int) from ⟨⟨h0, h1, h2⟩, hV⟩)
    have HFt := Lib.hid (sufFit_is A n c V (b : Int) w.heap.size w hn ho true ⟨fun _ => ⟨⟨h0, h1, h2⟩, hV⟩, fun _ => rfl⟩)
    have fin : ∀ (w9 : World) (v : Value) (s : Nat → Nat), IsSA V n s → w.heap.size ≤ w9.heap.size → w9.ownsRow w.heap.size 3 1 v n (icells (fun i => ((s i : Nat) : Int)) n) → ∃ (A' : Option Addr) (c' : Nat), v = .slice A' n c' ∧ Fresh w A' n ∧ ItsR w9 A' n c' (fun i => ((s i : Nat) : Int)) := fun w9 v s hs _ hown => by
      obtain ⟨A', c', rfl, hI⟩ := ItsR.of_own hown (fun i hi => by
        have := hs.1 i hi
        show -9223372036854775808 ≤ ((s i : Nat) : Int) ∧ ((s i : Nat) : Int) ≤ 9223372036854775807
        omega)
      refine ⟨A', c', rfl, fun hn0 ad e => ?_, hI⟩
      subst e
      exact (hown.lt ad.block (by
        obtain ⟨g, c2, e2, _⟩ := owns_some hown hn0
        cases e2
        rfl)).1
    have HFin := Lib.hid fin
    by_cases hb : n < b
    · have hbn : (n : Int) < (b : Int) := by omega
      have HRk := Lib.hid (ranked_any A n c V w h2 ho)
      clear ho fin
      go_enter Try.func27, Try.ntmps27
      go_wp2_with fail
      refine HFt.out.mono ?_
      rintro e w1 ⟨rfl, rfl⟩
      clear HFt
      go_wp2_with fail
      refine HRk.out.mono ?_
      rintro e w2 ⟨g, rfl, hg, l2, k2⟩
      have i2 : Its w2 w2.heap.size (some ⟨g, 0, none⟩) n (xi (rkN V n)) := fun k hk => ⟨_, rfl, l2.lt, by
        rw [Addr.add_mid, Nat.zero_add, l2.cell]
        exact icells_at _ _ _ hk, by
        have := rkN_lt (V := V) hk
        show -9223372036854775808 ≤ ((rkN V n k : Nat) : Int) ∧ ((rkN V n k : Nat) : Int) ≤ 9223372036854775807
        omega⟩
      have HOr := Lib.hid (ordered_any n (some ⟨g, 0, none⟩) n n (rkN V n) w2 h2 h2 (fun e => by cases e) (Nat.le_refl _) hn (fun p hp => rkN_lt hp) i2)
      clear HRk l2 i2
      go_wp2_with fail
      refine HOr.out.mono ?_
      rintro e w3 ⟨v, s, rfl, hs, hown, k3⟩
      have hs' : IsSA V n s := hs.mapped (fun i j hi hj => (rkN_iff hi hj).symm)
      have hK : Below w.heap.size w w3 := k2.trans (k3.mono k2.size)
      obtain ⟨A', c', rfl, hF, hI⟩ := HFin.out w3 v s hs' hK.size (own_less hown k2.size)
      have HFI := Lib.hid (And.intro hF hI)
      have HS := Lib.hid hs'
      clear HOr hs hs' hown hF hI
      go_wp2_with fail
      go_ret2
      exact ⟨fun _ => ⟨A', c', s, rfl, HS.out, HFI.out.1, HFI.out.2⟩, fun h => absurd HR.out h, hK⟩
    · have hbn : ¬ (n : Int) < (b : Int) := by omega
      have hVx : ∀ k, k < n → V k = xi (fun p => (V p).toNat) k := fun k hk => by
        have := (hV k hk).1
        show V k = (((V k).toNat : Nat) : Int)
        omega
      have HOr := Lib.hid (ordered_any n A c b (fun p => (V p).toNat) w h2 (by omega) hA hnc hcm (fun p hp => by have := hV p hp; show (V p).toNat < b; omega) (ho.congr_ hVx))
      have HVx := Lib.hid hVx
      clear ho fin hVx
      go_enter Try.func27, Try.ntmps27
      go_wp2_with fail
      refine HFt.out.mono ?_
      rintro e w1 ⟨rfl, rfl⟩
      clear HFt
      go_wp2_with fail
      refine HOr.out.mono ?_
      rintro e w3 ⟨v, s, rfl, hs, hown, k3⟩
      have hs' : IsSA V n s := hs.mapped (fun i j hi hj => by rw [HVx.out i hi, HVx.out j hj])
      obtain ⟨A', c', rfl, hF, hI⟩ := HFin.out w3 v s hs' k3.size hown
      have HFI := Lib.hid (And.intro hF hI)
      have HS := Lib.hid hs'
      clear HOr hs hs' hown hF hI
      go_wp2_with fail
      go_ret2
      exact ⟨fun _ => ⟨A', c', s, rfl, HS.out, HFI.out.1, HFI.out.2⟩, fun h => absurd HR.out h, k3⟩
  · have HR := Lib.hid hR
    have HFt := Lib.hid (sufFit_is A n c V al w.heap.size w hn ho false ⟨fun e => (by cases e), fun h => absurd h hR⟩)
    clear ho hR
    go_enter Try.func27, Try.ntmps27
    go_wp2_with fail
    refine HFt.out.mono ?_
    rintro e w1 ⟨rfl, rfl⟩
    go_wp2_with fail
    go_ret2
    exact ⟨fun h => absurd h HR.out, fun _ => ⟨none, 0, rfl⟩, Below.refl _ _⟩
end Go.Proofs.Ytlcgigiphlmjpaa
