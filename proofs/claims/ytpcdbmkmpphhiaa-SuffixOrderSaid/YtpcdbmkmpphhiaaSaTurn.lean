/- The developers' suffix: Turn; Least. -/
import Derived.Test.YtpcdbmkmpphhiaaSaParts
import Derived.Test.YtpcdbmkmpphhiaaSaGround
namespace Go.Proofs.Ytpcdbmkmpphhiaa
open Go.RowKit

/-- as far as i: turned. -/
structure Turned2 (V : Nat → Int) (n i : Nat) (U : Nat → Int) : Prop where
  right : ∀ j, j < i → 0 ≤ V j ∧ V j < (n : Int)
  one : ∀ j k, j < k → k < i → V j ≠ V k
  at_ : ∀ j, j < i → U (V j).toNat = (j : Int)
  rest : ∀ q, q < n → U q = -1 ∨ ∃ j, j < i ∧ V j = (q : Int)
theorem Turned2.step {V : Nat → Int} {n i : Nat} {U : Nat → Int} (h : Turned2 V n i U) {p : Nat} (hp : p < n) (hV : V i = (p : Int)) (hU : U p = -1) : Turned2 V n (i + 1) (putI U p (i : Int)) := by
  have hne : ∀ j, j < i → V j ≠ V i := fun j hj e => by
    have := h.at_ j hj
    rw [e, hV, Int.toNat_natCast, hU] at this
    omega
  refine ⟨fun j hj => ?_, fun j k hjk hk => ?_, fun j hj => ?_, fun q hq => ?_⟩
  · by_cases e : j = i
    · rw [e, hV]; omega
    · exact h.right j (by omega)
  · by_cases e : k = i
    · rw [e]; exact hne j (by omega)
    · exact h.one j k hjk (by omega)
  · by_cases e : j = i
    · rw [e, hV, Int.toNat_natCast, putI_at]
    · have h1 := h.right j (by omega)
      have h2 := hne j (by omega)
      rw [putI_off _ (by rw [hV] at h2; omega)]
      exact h.at_ j (by omega)
  · by_cases e : q = p
    · exact .inr ⟨i, Nat.lt_succ_self i, by rw [hV, e]⟩
    · rw [putI_off _ e]
      rcases h.rest q hq with g | ⟨j, g1, g2⟩
      · exact .inl g
      · exact .inr ⟨j, by omega, g2⟩
set_option maxRecDepth 100000 in
set_option maxHeartbeats 3200000 in
theorem turn_any (A : Option Addr) (n c : Nat) (V : Nat → Int) (w : World) (hn : n ≤ 4194304) (ho : Its w w.heap.size A n V) : Calls Try.prog 14 #[.slice A n c] w (TurnPost w n V) := by
  have HO := Lib.hid ho
  unfold TurnPost
  obtain ⟨B, hB⟩ : ∃ B, w.heap.size = B := ⟨_, rfl⟩
  rw [hB] at HO ⊢
  obtain ⟨w1, hw1⟩ : ∃ w1, w.alloc (.cells #[.int .i64 (-1)] 3) = w1 := ⟨_, rfl⟩
  have z1 : w1.heap.size = B + 1 := by rw [← hw1, size_alloc, hB]
  have k1 : Below B w w1 := by rw [← hw1, ← hB]; exact (Below.refl _ _).alloc (Nat.le_refl _) _
  have l1 : Lies w1 B 3 [.int .i64 (-1)] := by rw [← hw1, ← hB]; exact lies_new w _ _
  have HRep := Lib.hid (repeat_any B n 1 (-1) w1 hn l1)
  rw [z1] at HRep
  clear ho l1
  go_enter Try.func14, Try.ntmps14
  go_wp2_with fail
  refine HRep.out.mono ?_
  rintro e w2 ⟨rfl, l2, o2⟩
  have k2 : Below B w w2 := k1.trans (o2.below (by omega) (fun q hq => by omega))
  clear HRep o2
  go_wp2_with fail
  go_loopw [13] (fun s wr => ∃ i : Nat, i ≤ n ∧ s = .int .i64 (i : Int) ∧ Hid (∃ U, Lies wr (B + 1) 3 (icells U n) ∧ Turned2 V n i U) ∧ Below B w wr) (fun s _ => n - (intOf s).toNat)
  case atStart => exact ⟨0, Nat.zero_le _, rfl, Lib.hid ⟨_, l2, ⟨fun j hj => absurd hj (Nat.not_lt_zero j), fun j k _ hk => absurd hk (Nat.not_lt_zero k), fun j hj => absurd hj (Nat.not_lt_zero j), fun _ _ => .inl rfl⟩⟩, k2⟩
  case round =>
    clear l2 k2
    obtain ⟨i, hi, rfl, hU, hb⟩ := hrel
    by_cases hlt : i < n
    · have hlti : (i : Int) < (n : Int) := by omega
      obtain ⟨U, hL, hT⟩ := hU.out
      obtain ⟨ad, rfl, _, hc, _⟩ := HO.out.below hb i hlt
      obtain ⟨v, hv⟩ : ∃ v, V i = v := ⟨_, rfl⟩
      rw [hv] at hc
      by_cases hin : 0 ≤ v ∧ v < (n : Int)
      · obtain ⟨p, rfl⟩ : ∃ p : Nat, v = (p : Int) := ⟨v.toNat, by omega⟩
        have hpn : p < n := by omega
        have hpn1 : (p : Int) < (n : Int) := by omega
        have hpn2 : ¬ (n : Int) ≤ (p : Int) := by omega
        have hcell : wr.cell? ⟨B + 1, p, none⟩ = some (.int .i64 (U p)) := by
          rw [hL.cell]
          exact icells_at _ _ _ hpn
        have hfree := hL.free p
        by_cases hU1 : U p = -1
        · have HU2 : Hid (∃ U', Lies (wr.setCell ⟨B + 1, p, none⟩ (.int .i64 (i : Int))) (B + 1) 3 (icells U' n) ∧ Turned2 V n (i + 1) U') := Lib.hid ⟨putI U p (i : Int), by
            have := hL.put p (.int .i64 (i : Int))
            rw [icells_put] at this
            exact this, hT.step hpn hv hU1⟩
          have HB2 : Below B w (wr.setCell ⟨B + 1, p, none⟩ (.int .i64 (i : Int))) := hb.setCell (p := ⟨B + 1, p, none⟩) (by show B ≤ B + 1; omega) _
          rw [hU1] at hcell
          clear hU hL hT hv hU1
          go_wp2_with fail
          go_roundw
          case rel => exact ⟨i + 1, by omega, by go_num, HU2, HB2⟩
          case measure => simp [intOf]; omega
        · have HN : Hid (¬ IsPerm V n) := Lib.hid fun hP => by
            rcases hT.rest p hpn with g | ⟨j, g1, g2⟩
            · exact hU1 g
            · exact hP.2 j i g1 hlt (by rw [g2, hv])
          have hb1 : (U p != -1) = true := by rw [bne_iff_ne]; exact hU1
          obtain ⟨x, hx⟩ : ∃ x, U p = x := ⟨_, rfl⟩
          rw [hx] at hcell hb1 hU1
          clear hU hL hT hv hx
          go_wp2_with fail
          go_ret2
          exact ⟨fun h => absurd h HN.out, fun _ => ⟨none, 0, rfl⟩, hb⟩
      · have HN : Hid (¬ IsPerm V n) := Lib.hid fun hP => hin (by rw [← hv]; exact hP.1 i hlt)
        clear hU hL hT hv
        by_cases h0 : v < 0
        · have d0 : decide (v < 0) = true := decide_eq_true h0
          go_wp2_with fail
          go_ret2
          exact ⟨fun h => absurd h HN.out, fun _ => ⟨none, 0, rfl⟩, hb⟩
        · have d0 : decide (v < 0) = false := decide_eq_false h0
          have d1 : decide ((n : Int) ≤ v) = true := decide_eq_true (by omega)
          have d2 : (n : Int) ≤ v := by omega
          have d3 : 0 ≤ v := by omega
          go_wp2_with fail
          go_ret2
          exact ⟨fun h => absurd h HN.out, fun _ => ⟨none, 0, rfl⟩, hb⟩
    · have hin : i = n := by omega
      have hge : ¬ (i : Int) < (n : Int) := by omega
      rw [hin] at hU
      obtain ⟨U, hL, hT⟩ := hU.out
      have HP : Hid (IsPerm V n) := Lib.hid ⟨hT.right, hT.one⟩
      have HF : Hid (Turns V U n ∧ ItsR wr (some ⟨B + 1, 0, none⟩) n n U) := Lib.hid ⟨hT.at_, (fun e => by cases e), Nat.le_refl _, by unfold maxLen; omega, fun k hk => ⟨_, rfl, hL.lt, by
        rw [Addr.add_mid, Nat.zero_add, hL.cell]
        exact icells_at _ _ _ hk, by
        rcases hT.rest k hk with g | ⟨j, g1, g2⟩
        · rw [g]; omega
        · have := hT.at_ j g1
          rw [g2, Int.toNat_natCast] at this
          rw [this]
          omega⟩⟩
      clear hin hU hL hT
      go_wp2_with fail
      go_ret2
      exact ⟨fun _ => ⟨_, n, rfl, U, HF.out.1, HF.out.2⟩, fun h => absurd HP.out h, hb⟩
set_option maxRecDepth 100000 in
set_option maxHeartbeats 3200000 in
theorem least_any (A : Option Addr) (n c : Nat) (V : Nat → Int) (a b : Int) (w : World) (hn : n ≤ 4194304) (hnc : n ≤ c) (ho : Its w w.heap.size A n V) :
    Calls Try.prog 16 #[.slice A n c, .int .i64 a, .int .i64 b] w fun e w' => e = .returned (.int .i64 (leastI V n a b)) ∧ Below w.heap.size w w' := by
  by_cases hin : 0 ≤ a ∧ a < (n : Int) ∧ 0 ≤ b ∧ b < (n : Int)
  · obtain ⟨x, rfl⟩ : ∃ x : Nat, a = (x : Int) := ⟨a.toNat, by omega⟩
    obtain ⟨y, rfl⟩ : ∃ y : Nat, b = (y : Int) := ⟨b.toNat, by omega⟩
    have hx : x < n := by omega
    have hy : y < n := by omega
    obtain ⟨ad, rfl, _⟩ := ho x hx
    have hC := fun q => compare_any (some (ad.add x)) (some (ad.add y)) (n - x) (n - y) (c - x) (c - y) (fun j => V (x + j)) (fun j => V (y + j)) w.heap.size (w.drewN q) (by omega) (Its.cut_ (n := n) (fun k hk => ho k hk) (by omega)) (Its.cut_ (n := n) (fun k hk => ho k hk) (by omega))
    have HC : ∀ q, Hid (Calls Try.prog 22 #[.slice (some (ad.add x)) (n - x) (c - x), .slice (some (ad.add y)) (n - y) (c - y)] (w.drewN q) fun e w' => e = .returned (.int .i64 (leastI V n (x : Int) (y : Int))) ∧ ∃ j, w' = w.drewN j) :=
      fun q => Lib.hid ((hC q).mono fun _ _ hh => by
        obtain ⟨r, h1, h2, h3⟩ := hh
        rw [cmp_least hx hy h2] at h1
        exact ⟨h1, q, h3.symm⟩)
    have a1 : (x : Int) < (n : Int) := by omega
    have a2 : (y : Int) < (n : Int) := by omega
    have a3 : ¬ (n : Int) ≤ (x : Int) := by omega
    have a4 : ¬ (n : Int) ≤ (y : Int) := by omega
    have a5 : (x : Int) ≤ (n : Int) := by omega
    have a6 : (y : Int) ≤ (n : Int) := by omega
    generalize leastI V n (x : Int) (y : Int) = res at *
    clear hC hin ho
    by_cases hcx : c = x
    · omega
    · by_cases hcy : c = y
      · omega
      · go_enter Try.func16, Try.ntmps16
        go_wp2_with fail
        go_quiet ((go_at_call 22; with_reducible exact (HC _).out))
        go_wp2_with fail
        go_ret
        exact ⟨rfl, below_drewN' (Below.refl _ _) _⟩
  · rw [leastI_out (fun h => hin ⟨h.1, h.2.1, h.2.2.1, h.2.2.2.1⟩)]
    have hcond : decide (a < 0) = true ∨ (decide (a < 0) = false ∧ decide (b < 0) = true) ∨ (decide (a < 0) = false ∧ decide (b < 0) = false ∧ decide ((n : Int) ≤ a) = true) ∨ (decide (a < 0) = false ∧ decide (b < 0) = false ∧ decide ((n : Int) ≤ a) = false ∧ decide ((n : Int) ≤ b) = true) := by
      by_cases h1 : a < 0
      · exact .inl (decide_eq_true h1)
      · by_cases h2 : b < 0
        · exact .inr (.inl ⟨decide_eq_false h1, decide_eq_true h2⟩)
        · by_cases h3 : (n : Int) ≤ a
          · exact .inr (.inr (.inl ⟨decide_eq_false h1, decide_eq_false h2, decide_eq_true h3⟩))
          · exact .inr (.inr (.inr ⟨decide_eq_false h1, decide_eq_false h2, decide_eq_false h3, decide_eq_true (by omega)⟩))
    clear hin ho
    rcases hcond with d1 | ⟨d1, d2⟩ | ⟨d1, d2, d3⟩ | ⟨d1, d2, d3, d4⟩
    all_goals
      go_enter Try.func16, Try.ntmps16
      go_wp2_with fail
      go_ret
      exact ⟨rfl, Below.refl _ _⟩
end Go.Proofs.Ytpcdbmkmpphhiaa
