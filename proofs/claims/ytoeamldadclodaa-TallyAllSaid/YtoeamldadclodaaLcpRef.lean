/- The document's functions of layer 10: Common, Array. -/
import Derived.Test.YtoeamldadclodaaLcpMath
import Derived.Test.YtoeamldadclodaaSufTurn
import Derived.Test.YtoeamldadclodaaListR
namespace Go.Proofs.Ytoeamldadclodaa
open Go.RowKit

theorem addr_zero (ad : Addr) : ad.add 0 = ad := by unfold Addr.add; split <;> simp_all
set_option maxRecDepth 100000 in
set_option maxHeartbeats 1600000 in
theorem refCommon_in (A : Option Addr) (n c : Nat) (V : Nat → Int) (a b B : Nat) (w : World) (hn : n ≤ 4194304) (ha : a < n) (hb : b < n) (r : Int) (hr : r = ((com V n a b : Nat) : Int)) (ho : ∀ q, Its (w.drewN q) B A n V) :
    Calls Try.prog 39 #[.slice A n c, .int .i64 (a : Int), .int .i64 (b : Int)] w fun e w' => e = .returned (.int .i64 r) ∧ ∃ q, w' = w.drewN q := by
  have HO := Lib.hid ho
  have HR := Lib.hid hr
  clear ho hr
  have d1 : decide ((a : Int) < 0) = false := decide_eq_false (by omega)
  have d2 : decide ((b : Int) < 0) = false := decide_eq_false (by omega)
  have d3 : decide ((n : Int) ≤ (a : Int)) = false := decide_eq_false (by omega)
  have d4 : decide ((n : Int) ≤ (b : Int)) = false := decide_eq_false (by omega)
  have d5 : decide (n ≤ a) = false := decide_eq_false (by omega)
  have d6 : decide (n ≤ b) = false := decide_eq_false (by omega)
  have hai : (a : Int) < (n : Int) := by omega
  have hbi : (b : Int) < (n : Int) := by omega
  obtain ⟨ad, rfl⟩ : ∃ ad : Addr, A = some ad := (HO.out 0 a ha).elim fun ad h => ⟨ad, h.1⟩
  have hc : ∀ r x, x < n → (w.drewN r).cell? (ad.add x) = some (.int .i64 (V x)) := fun r x hx => by
    obtain ⟨ad', e, _, h, _⟩ := HO.out r x hx
    cases e
    exact h
  have HC := Lib.hid hc
  have hc1 := fun r => hc r a ha
  have hc2 := fun r => hc r b hb
  have HS0 := Lib.hid (fun h3 : V a = V b => (Shares.zero (V := V) (n := n) (a := a) (b := b)).more ha hb h3)
  have HN0 := Lib.hid (fun h3 : V a ≠ V b => com_is (Shares.zero (V := V) (n := n) (a := a) (b := b)) (fun h => h3 h.2.2))
  clear hc
  generalize V a = va at hc1 HS0 HN0
  generalize V b = vb at hc2 HS0 HN0
  by_cases he : va = vb
  · subst he
    have hne : (va != va) = false := by simp
    have HS := Lib.hid (HS0.out rfl)
    clear HS0 HN0
    go_enter Try.func39, Try.ntmps39
    go_wp2_with fail
    go_quiet (fail)
    go_wp2_with fail
    go_loopw [7, 8] (fun s1 s2 wr => ∃ m q : Nat, 0 < m ∧ a + m ≤ n ∧ b + m ≤ n ∧ s1 = .int .i64 (m : Int) ∧ s2 = .int .i64 ((a + m : Nat) : Int) ∧ Hid (Shares V n a b m) ∧ wr = w.drewN q) (fun s1 _ _ => n - (intOf s1).toNat)
    case atStart => exact ⟨1, _, by omega, by omega, by omega, rfl, by go_num, HS, rfl⟩
    case round =>
      clear hc1 hc2 HS
      obtain ⟨m, q, hm, ham, hbm, rfl, rfl, HM, rfl⟩ := hrel
      have hw : IntKind.i64.wrap ((b : Int) + (m : Int)) = ((b + m : Nat) : Int) := by rw [IntWalk.i64_in _ (by omega)]; omega
      by_cases hxy : a + m < n ∧ b + m < n
      · obtain ⟨hx1, hy1⟩ := hxy
        have dx : decide (((a + m : Nat) : Int) < (n : Int)) = true := decide_eq_true (by omega)
        have dy : decide (((b + m : Nat) : Int) < (n : Int)) = true := decide_eq_true (by omega)
        have hxi : ((a + m : Nat) : Int) < (n : Int) := by omega
        have hyi : ((b + m : Nat) : Int) < (n : Int) := by omega
        have hmi : (m : Int) < (n : Int) := by omega
        have hc1 : ∀ r, (w.drewN r).cell? (ad.add (a + m)) = some (.int .i64 (V (a + m))) := fun r => HC.out r _ hx1
        have hc2 : ∀ r, (w.drewN r).cell? (ad.add (b + m)) = some (.int .i64 (V (b + m))) := fun r => HC.out r _ hy1
        have HS1 := Lib.hid (fun h3 : V (a + m) = V (b + m) => HM.out.more hx1 hy1 h3)
        have HN1 := Lib.hid (fun h3 : V (a + m) ≠ V (b + m) => HR.out.trans (congrArg Nat.cast (com_is HM.out (fun h => h3 h.2.2))))
        generalize V (a + m) = vx at hc1 HS1 HN1
        generalize V (b + m) = vy at hc2 HS1 HN1
        generalize hX : a + m = x at *
        generalize hY : b + m = y at *
        by_cases he : vx = vy
        · subst he
          have hne : (vx != vx) = false := by simp
          have HS2 := Lib.hid (HS1.out rfl)
          have HX := Lib.hid hX
          have HY := Lib.hid hY
          clear hX hY
          go_wp2_with fail
          go_quiet (fail)
          go_wp2_with fail
          go_roundw
          case rel => exact ⟨m + 1, _, by omega, by have := HX.out; omega, by have := HY.out; omega, by go_num, by have := HX.out; subst this; go_num, HS2, rfl⟩
          case measure =>
            have := HX.out
            simp [intOf]; omega
        · have hne : (vx != vy) = true := by simp [he]
          obtain rfl := HN1.out he
          clear he HR
          go_wp2_with fail
          go_quiet (fail)
          go_wp2_with fail
          go_ret
          exact ⟨rfl, _, World.drewN_drewN _ _ _⟩
      · obtain rfl := HR.out.trans (congrArg Nat.cast (com_is HM.out (fun h => hxy ⟨h.1, h.2.1⟩)))
        clear HR
        by_cases hx1 : a + m < n
        · have dx : decide (((a + m : Nat) : Int) < (n : Int)) = true := decide_eq_true (by omega)
          have dy : decide (((b + m : Nat) : Int) < (n : Int)) = false := decide_eq_false (by omega)
          generalize hX : a + m = x at *
          go_wp2_with fail
          go_ret
          exact ⟨rfl, _, rfl⟩
        · have dx : decide (((a + m : Nat) : Int) < (n : Int)) = false := decide_eq_false (by omega)
          generalize hX : a + m = x at *
          go_wp2_with fail
          go_ret
          exact ⟨rfl, _, rfl⟩
  · have hne : (va != vb) = true := by simp [he]
    obtain rfl := HR.out.trans (congrArg Nat.cast (HN0.out he))
    clear he HS0 HN0 HR
    go_enter Try.func39, Try.ntmps39
    go_wp2_with fail
    go_quiet (fail)
    go_wp2_with fail
    go_ret
    exact ⟨rfl, _, rfl⟩
set_option maxRecDepth 100000 in
set_option maxHeartbeats 1600000 in
theorem refCommon_any (A : Option Addr) (n c : Nat) (V : Nat → Int) (a b : Int) (B : Nat) (w : World) (hn : n ≤ 4194304) (ha : (Lit.int .i64 a).wf = true) (hb : (Lit.int .i64 b).wf = true) (ho : Its w B A n V) :
    Calls Try.prog 39 #[.slice A n c, .int .i64 a, .int .i64 b] w fun e w' => e = .returned (.int .i64 (comI V n a b)) ∧ Below w.heap.size w w' := by
  by_cases h : 0 ≤ a ∧ a < (n : Int) ∧ 0 ≤ b ∧ b < (n : Int)
  · obtain ⟨x, rfl⟩ : ∃ x : Nat, a = (x : Int) := ⟨a.toNat, by omega⟩
    obtain ⟨y, rfl⟩ : ∃ y : Nat, b = (y : Int) := ⟨b.toNat, by omega⟩
    refine (refCommon_in A n c V x y B w hn (by omega) (by omega) _ (comI_in (by omega) (by omega)) (fun q => ho.below (below_drewN' (Below.refl _ _) q))).mono ?_
    rintro e w' ⟨rfl, q, rfl⟩
    exact ⟨rfl, below_drewN' (Below.refl _ _) q⟩
  · obtain ⟨r, hr⟩ : ∃ r, comI V n a b = r := ⟨_, rfl⟩
    have h0 := comI_out (V := V) h
    rw [hr] at h0 ⊢
    subst h0
    have hai := i64_in ha
    have hbi := i64_in hb
    clear hr ho ha hb
    have hcond : decide (a < 0) = true ∨ (decide (a < 0) = false ∧ decide (b < 0) = true) ∨ (decide (a < 0) = false ∧ decide (b < 0) = false ∧ decide ((n : Int) ≤ a) = true) ∨ (decide (a < 0) = false ∧ decide (b < 0) = false ∧ decide ((n : Int) ≤ a) = false ∧ decide ((n : Int) ≤ b) = true) := by
      by_cases h0 : a < 0
      · exact .inl (decide_eq_true h0)
      · by_cases h1 : b < 0
        · exact .inr (.inl ⟨decide_eq_false h0, decide_eq_true h1⟩)
        · by_cases h2 : (n : Int) ≤ a
          · exact .inr (.inr (.inl ⟨decide_eq_false h0, decide_eq_false h1, decide_eq_true h2⟩))
          · exact .inr (.inr (.inr ⟨decide_eq_false h0, decide_eq_false h1, decide_eq_false h2, decide_eq_true (by omega)⟩))
    clear h
    rcases hcond with d1 | ⟨d1, d2⟩ | ⟨d1, d2, d3⟩ | ⟨d1, d2, d3, d4⟩
    all_goals
      go_enter Try.func39, Try.ntmps39
      go_wp2_with fail
      go_ret
      exact ⟨rfl, Below.refl _ _⟩
set_option maxRecDepth 100000 in
set_option maxHeartbeats 3200000 in
theorem refArrayL_any (A A' : Option Addr) (n c n' c' : Nat) (V S : Nat → Int) (w : World) (hn : n ≤ 4194304) (hn' : n' ≤ 4194304) (ho : Its w w.heap.size A n V) (ho' : Its w w.heap.size A' n' S) :
    Calls Try.prog 24 #[.slice A n c, .slice A' n' c'] w fun e w' => ∃ u : Value, e = .returned u ∧ w'.ownsRow w.heap.size 3 1 u n' (icells (lcpI V n S) n') ∧ Below w.heap.size w w' := by
  have HO := Lib.hid ho'
  have HCs : Hid (∀ (W : World) (i j : Nat), Below w.heap.size w W → i < n' → j < n' → Hid (Calls Try.prog 39 #[.slice A n c, .int .i64 (S i), .int .i64 (S j)] W fun e w' => e = .returned (.int .i64 (comI V n (S i) (S j))) ∧ Below W.heap.size W w')) := Lib.hid fun W i j hW hi hj => Lib.hid (refCommon_any A n c V (S i) (S j) w.heap.size W hn (ho'.wf hi) (ho'.wf hj) (ho.below hW))
  clear ho ho'
  go_enter Try.func24, Try.ntmps24
  go_wp2_with fail
  go_loopw [5, 10] (fun u v wr => ∃ i : Nat, i ≤ n' ∧ v = .int .i64 (i : Int) ∧ Hid (wr.ownsRow w.heap.size 3 1 u i (icells (lcpI V n S) i)) ∧ Below w.heap.size w wr) (fun _ v _ => n' - (intOf v).toNat)
  case atStart => exact ⟨0, Nat.zero_le _, rfl, Lib.hid (World.ownsRow_nil w _ _ _), Below.refl _ _⟩
  case round =>
    obtain ⟨i, hi, rfl, hrow, hb⟩ := hrel
    have hbs := hb.size
    by_cases hlt : i < n'
    · have hlti : (i : Int) < (n' : Int) := by omega
      obtain ⟨ad, hA, _, hc1, _, _⟩ := (HO.out.below hb) i hlt
      have him : i ≤ 4194304 := by omega
      rcases Nat.eq_zero_or_pos i with rfl | hpos
      · subst hA
        have HL : Hid (lcpI V n S 0 = 0) := Lib.hid lcpI_zero
        rw [addr_zero] at hc1
        generalize S 0 = s0 at hc1
        go_wp2_with (at_builtin; refine step_append_int rfl (.tmp 17) (.tmp 18) rfl rfl hrow.out 0 rfl hbs him ?_; intro v4 w4 hown4 hb4; rw [← HL.out, ← icells_snoc] at hown4)
        go_roundw
        case rel => exact ⟨1, by omega, by go_num, hown4, hb.trans hb4⟩
        case measure => simp [intOf]; omega
      · obtain ⟨i', hi'⟩ : ∃ i', i = i' + 1 := ⟨i - 1, by omega⟩
        obtain ⟨ad', hA', _, hc0, _, _⟩ := (HO.out.below hb) i' (by omega)
        subst hA
        cases hA'
        have d0 : ((i : Int) == 0) = false := by rw [beq_eq_false_iff_ne]; omega
        have hw1 : IntKind.i64.wrap ((i : Int) - 1) = (i' : Int) := by rw [IntWalk.i64_in _ (by omega)]; omega
        have hlti' : (i' : Int) < (n' : Int) := by omega
        have HL : Hid (lcpI V n S i = comI V n (S i') (S i)) := Lib.hid (by rw [hi']; exact lcpI_succ)
        have HC := HCs.out wr i' i hb (by omega) hlt
        have hne : i' ≠ i := by omega
        clear hi'
        generalize S i' = s0 at hc0 HL HC
        generalize S i = s1 at hc1 HL HC
        generalize comI V n s0 s1 = r at HL HC
        go_wp2_with (first
          | (go_at_call 39; (with_reducible refine HC.out.mono ?_); rintro e wz ⟨rfl, hbz⟩; have hBz := hb.trans (hbz.mono hbs); have hrowz := Lib.hid (ownsRow_keep hrow.out hbz); have hsz := hBz.size)
          | (at_builtin; refine step_append_int rfl (.tmp 20) (.tmp 29) rfl rfl hrowz.out _ rfl hsz him ?_; intro v4 w4 hown4 hb4; rw [← HL.out, ← icells_snoc] at hown4))
        go_roundw
        case rel => exact ⟨i + 1, by omega, by go_num, hown4, hBz.trans hb4⟩
        case measure => simp [intOf]; omega
    · obtain rfl : i = n' := by omega
      go_wp2_with fail
      go_ret
      exact ⟨_, rfl, hrow.out, hb⟩
end Go.Proofs.Ytoeamldadclodaa
