/- The document's functions of layer 11: Make, Ends, Is, Back. -/
import Derived.Test.YtjloepepnjcpiaaBwtMath
import Derived.Test.YtjloepepnjcpiaaSufTurn
import Derived.Test.YtjloepepnjcpiaaListR
namespace Go.Proofs.Ytjloepepnjcpiaa
open Go.RowKit

set_option maxRecDepth 100000 in
set_option maxHeartbeats 3200000 in
theorem refMakeB_any (A A' : Option Addr) (n c n' c' : Nat) (V S : Nat → Int) (w : World) (hn : n ≤ 4194304) (hn' : n' ≤ 4194304) (hS : ∀ i, i < n' → 0 ≤ S i ∧ S i < (n : Int)) (ho : Its w w.heap.size A n V) (ho' : Its w w.heap.size A' n' S) :
    Calls Try.prog 12 #[.slice A n c, .slice A' n' c'] w fun e w' => ∃ u : Value, e = .returned u ∧ w'.ownsRow w.heap.size 3 1 u n' (icells (turnI V n S) n') ∧ Below w.heap.size w w' := by
  have HO := Lib.hid ho'
  have HT := Lib.hid ho
  have HS := Lib.hid hS
  clear ho ho' hS
  go_enter Try.func12, Try.ntmps12
  go_wp2_with fail
  go_loopw [5, 10] (fun u v wr => ∃ i : Nat, i ≤ n' ∧ v = .int .i64 (i : Int) ∧ Hid (wr.ownsRow w.heap.size 3 1 u i (icells (turnI V n S) i)) ∧ Below w.heap.size w wr) (fun _ v _ => n' - (intOf v).toNat)
  case atStart => exact ⟨0, Nat.zero_le _, rfl, Lib.hid (World.ownsRow_nil w _ _ _), Below.refl _ _⟩
  case round =>
    obtain ⟨i, hi, rfl, hrow, hb⟩ := hrel
    have hbs := hb.size
    by_cases hlt : i < n'
    · have hlti : (i : Int) < (n' : Int) := by omega
      obtain ⟨ad, rfl, _, hc, _, _⟩ := (HO.out.below hb) i hlt
      have him : i ≤ 4194304 := by omega
      have hsi := HS.out i hlt
      obtain ⟨p, hp⟩ : ∃ p : Nat, S i = (p : Int) := ⟨(S i).toNat, by omega⟩
      rw [hp] at hc hsi
      have hpn : p < n := by omega
      have HU := Lib.hid (turnI_at (T := V) (n := n) hp)
      obtain ⟨q, hq⟩ : ∃ q, aheadN n p = q := ⟨_, rfl⟩
      have hqn : q < n := by rw [← hq]; exact aheadN_lt hpn
      rw [hq] at HU
      have hqi : (q : Int) < (n : Int) := by omega
      obtain ⟨adt, rfl, _, hct, _, _⟩ := (HT.out.below hb) q hqn
      clear hp hsi
      generalize V q = y at hct HU
      by_cases h0 : p = 0
      · subst h0
        have hw1 : IntKind.i64.wrap ((n : Int) - 1) = (q : Int) := by
          rw [IntWalk.i64_in _ (by omega), ← hq]
          unfold aheadN
          rw [if_pos rfl]
          omega
        clear hq
        go_wp2_with (at_builtin; refine step_append_int rfl (.tmp 16) (.tmp 23) rfl rfl hrow.out _ rfl hbs him ?_; intro v4 w4 hown4 hb4; rw [← HU.out, ← icells_snoc] at hown4)
        go_roundw
        case rel => exact ⟨i + 1, by omega, by go_num, hown4, hb.trans hb4⟩
        case measure => simp [intOf]; omega
      · have d0 : ((p : Int) == 0) = false := by rw [beq_eq_false_iff_ne]; omega
        have hw1 : IntKind.i64.wrap ((p : Int) - 1) = (q : Int) := by
          rw [IntWalk.i64_in _ (by omega), ← hq]
          unfold aheadN
          rw [if_neg h0]
          omega
        clear hq
        go_wp2_with (at_builtin; refine step_append_int rfl (.tmp 25) (.tmp 31) rfl rfl hrow.out _ rfl hbs him ?_; intro v4 w4 hown4 hb4; rw [← HU.out, ← icells_snoc] at hown4)
        go_roundw
        case rel => exact ⟨i + 1, by omega, by go_num, hown4, hb.trans hb4⟩
        case measure => simp [intOf]; omega
    · obtain rfl : i = n' := by omega
      go_wp2_with fail
      go_ret
      exact ⟨_, rfl, hrow.out, hb⟩

set_option maxRecDepth 100000 in
set_option maxHeartbeats 1600000 in
theorem refEnds_is (A : Option Addr) (n c : Nat) (V : Nat → Int) (w : World) (hn : n ≤ 4194304) (ho : Its w w.heap.size A n V) (r : Bool) (hr : r = true ↔ EndsT V n) :
    Calls Try.prog 25 #[.slice A n c] w fun e w' => e = .returned (.bool r) ∧ Below w.heap.size w w' := by
  have HO := Lib.hid ho
  have HR := Lib.hid hr
  clear ho hr
  go_enter Try.func25, Try.ntmps25
  go_wp2_with fail
  go_loopw [3] (fun v wr => ∃ i : Nat, (i = 0 ∨ i + 1 ≤ n) ∧ v = .int .i64 (i : Int) ∧ Hid (∀ j, j < i → V (n - 1) < V j) ∧ Below w.heap.size w wr) (fun v _ => n - (intOf v).toNat)
  case atStart => exact ⟨0, .inl rfl, rfl, Lib.hid (fun j hj => absurd hj (Nat.not_lt_zero j)), Below.refl _ _⟩
  case round =>
    obtain ⟨i, hi, rfl, hall, hb⟩ := hrel
    have hw0 : IntKind.i64.wrap ((i : Int) + 1) = ((i + 1 : Nat) : Int) := by rw [IntWalk.i64_in _ (by omega)]; omega
    by_cases hlt : i + 1 < n
    · have hlti : ((i + 1 : Nat) : Int) < (n : Int) := by omega
      have d1 : decide (((i + 1 : Nat) : Int) < (n : Int)) = true := decide_eq_true hlti
      have hii : (i : Int) < (n : Int) := by omega
      obtain ⟨q, hq⟩ : ∃ q, n - 1 = q := ⟨_, rfl⟩
      have hqi : (q : Int) < (n : Int) := by omega
      have hw1 : IntKind.i64.wrap ((n : Int) - 1) = (q : Int) := by rw [IntWalk.i64_in _ (by omega)]; omega
      obtain ⟨ad, hA, _, _, _, _⟩ := HO.out i (by omega)
      subst hA
      have hc1 : ∀ k, (wr.drewN k).cell? (ad.add i) = some (.int .i64 (V i)) := fun k => by
        obtain ⟨_, e, _, h, _⟩ := (HO.out.below (below_drewN' hb k)) i (by omega)
        cases e
        exact h
      have hc2 : ∀ k, (wr.drewN k).cell? (ad.add q) = some (.int .i64 (V q)) := fun k => by
        obtain ⟨_, e, _, h, _⟩ := (HO.out.below (below_drewN' hb k)) q (by omega)
        cases e
        exact h
      rw [hq] at hall
      have HB := Lib.hid (fun h : ¬ V q < V i => show ¬ EndsT V n from fun g => by
        have := g.2 i hlt
        rw [hq] at this
        exact h this)
      have HG := Lib.hid (fun h : V q < V i => show ∀ j, j < i + 1 → V q < V j from fun j hj => by
        by_cases e : j < i
        · exact hall.out j e
        · obtain rfl : j = i := by omega
          exact h)
      have HQ := Lib.hid hq
      clear hall hq
      by_cases hle : V i ≤ V q
      · have dl : decide (V i ≤ V q) = true := decide_eq_true hle
        obtain rfl : r = false := by
          rcases r with _ | _
          · rfl
          · exact absurd (HR.out.1 rfl) (HB.out (by omega))
        clear HB HG HR
        generalize V i = x at hc1 hle dl
        generalize V q = y at hc2 hle dl
        go_wp2_with fail
        go_quiet (fail)
        go_wp2_with fail
        go_ret
        exact ⟨rfl, below_drewN' hb _⟩
      · have dl : decide (V i ≤ V q) = false := decide_eq_false hle
        have HG1 := Lib.hid (HG.out (by omega))
        clear HB HG
        generalize V i = x at hc1 hle dl
        go_wp2_with fail
        go_quiet (fail)
        go_wp2_with fail
        go_roundw
        case rel => exact ⟨i + 1, .inr (by omega), by go_num, by rw [HQ.out]; exact HG1, below_drewN' hb _⟩
        case measure => simp [intOf]; omega
    · have d1 : decide (((i + 1 : Nat) : Int) < (n : Int)) = false := decide_eq_false (by omega)
      obtain rfl : r = decide (0 < (n : Int)) := by
        rw [Bool.eq_iff_iff, HR.out, decide_eq_true_iff]
        constructor
        · intro h
          have := h.1
          omega
        · intro h
          exact ⟨by omega, fun j hj => hall.out j (by omega)⟩
      clear HR
      go_wp2_with fail
      go_ret
      exact ⟨by first | rfl | simp, hb⟩
theorem turnedOf_one {V T : Nat → Int} {n wh : Nat} {s : Nat → Nat} (hs : IsSA T n s) (hw : wh < n) : TurnedOf V n wh T ↔ s wh = 0 ∧ ∀ i, i < n → turnI T n (fun j => ((s j : Nat) : Int)) i = V i := by
  constructor
  · rintro ⟨s', hs', h0, hV⟩
    have e := hs.one hs'
    refine ⟨by rw [e wh hw, h0], fun i hi => ?_⟩
    rw [turnI_nat, e i hi, hV i hi]
  · rintro ⟨h0, hV⟩
    exact ⟨s, hs, h0, fun i hi => by rw [← hV i hi, turnI_nat]⟩
set_option maxRecDepth 100000 in
set_option maxHeartbeats 3200000 in
theorem refIs_is (A A' : Option Addr) (n c c' wh : Nat) (T V : Nat → Int) (w : World) (hn : n ≤ 4194303) (hwh : wh < n) (ho : Its w w.heap.size A n T) (ho' : Its w w.heap.size A' n V) (r : Bool) (hr : r = true ↔ TurnedOf V n wh T) :
    Calls Try.prog 26 #[.slice A n c, .slice A' n c', .int .i64 (wh : Int)] w fun e w' => e = .returned (.bool r) ∧ Below w.heap.size w w' := by
  have HO := Lib.hid ho
  have HO' := Lib.hid ho'
  have HR := Lib.hid hr
  have H1 := Lib.hid (refArrayS_any A n c T w hn ho)
  clear ho ho' hr
  go_enter Try.func26, Try.ntmps26
  go_wp2_with fail
  refine H1.out.mono ?_
  rintro e w1 ⟨u, s, rfl, hs, hown, hb1⟩
  have HS := Lib.hid hs
  have hown0 := hown
  obtain ⟨A1, c1, rfl, hi1⟩ := ItsR.of_own hown (fun j hj => by have := hs.1 j hj; omega)
  have HI1 := Lib.hid hi1
  have hc1 := hi1.2.1
  have hc1m : c1 ≤ 9223372036854775807 := by have := hi1.2.2.1; unfold maxLen at this; omega
  have H2 := Lib.hid (refMakeB_any A A1 n c n c1 T (fun j => ((s j : Nat) : Int)) w1 (by omega) (by omega) (fun i hi => by have := hs.1 i hi; show 0 ≤ ((s i : Nat) : Int) ∧ ((s i : Nat) : Int) < (n : Int); omega) ((HO.out.below hb1).mono_ hb1.size) hi1.2.2.2)
  clear H1 hs hown hown0 hi1
  go_wp2_with fail
  refine H2.out.mono ?_
  rintro e w2 ⟨u2, rfl, hown2, hb2⟩
  have hB2 := hb1.trans (hb2.mono hb1.size)
  obtain ⟨A2, c2, rfl, hi2⟩ := ItsR.of_own hown2 (fun j hj => by
    rw [turnI_nat]
    exact HO.out.small _ (aheadN_lt (HS.out.1 j hj)))
  have HI2 := Lib.hid hi2
  have HI1' := Lib.hid (HI1.out.below hb2)
  have hc2 := hi2.2.1
  have hc2m : c2 ≤ 9223372036854775807 := by have := hi2.2.2.1; unfold maxLen at this; omega
  have HR2 := Lib.hid (HR.out.trans (turnedOf_one (V := V) HS.out hwh))
  obtain ⟨ad1, rfl, _, hcw, _, _⟩ := HI1'.out.2.2.2 wh hwh
  have hwi : (wh : Int) < (n : Int) := by omega
  clear hown2 hi2 H2 hb1 hb2 HI1 HR HI1'
  generalize turnI T n (fun j => ((s j : Nat) : Int)) = X at *
  replace hcw : w2.cell? (ad1.add wh) = some (.int .i64 ((s wh : Nat) : Int)) := hcw
  obtain ⟨sw, hsw⟩ : ∃ x, s wh = x := ⟨_, rfl⟩
  rw [hsw] at hcw HR2
  clear hsw
  by_cases h0 : sw = 0
  · subst h0
    go_wp2_with fail
    go_loopw [29] (fun v wr => ∃ i : Nat, i ≤ n ∧ v = .int .i64 (i : Int) ∧ Hid (∀ j, j < i → X j = V j) ∧ Below w2.heap.size w2 wr) (fun v _ => n - (intOf v).toNat)
    case atStart => exact ⟨0, Nat.zero_le _, rfl, Lib.hid (fun j hj => absurd hj (Nat.not_lt_zero j)), Below.refl _ _⟩
    case round =>
      clear hcw
      obtain ⟨i, hi, rfl, hall, hb⟩ := hrel
      by_cases hlt : i < n
      · have hlti : (i : Int) < (n : Int) := by omega
        obtain ⟨ad2, e2, _, _, _, _⟩ := HI2.out.2.2.2 i hlt
        obtain ⟨ad3, e3, _, _, _, _⟩ := HO'.out i hlt
        subst e2 e3
        have hx : ∀ k, (wr.drewN k).cell? (ad2.add i) = some (.int .i64 (X i)) := fun k => by
          obtain ⟨_, e, _, h, _⟩ := (HI2.out.2.2.2.below (below_drewN' hb k)) i hlt
          cases e
          exact h
        have hv : ∀ k, (wr.drewN k).cell? (ad3.add i) = some (.int .i64 (V i)) := fun k => by
          obtain ⟨_, e, _, h, _⟩ := (HO'.out.below (hB2.trans ((below_drewN' hb k).mono hB2.size))) i hlt
          cases e
          exact h
        have HB := Lib.hid (fun h : X i ≠ V i => show r = false from by
          rcases r with _ | _
          · rfl
          · exact absurd ((HR2.out.1 rfl).2 i hlt) h)
        have HG := Lib.hid (fun h : X i = V i => show ∀ j, j < i + 1 → X j = V j from fun j hj => by
          by_cases e : j < i
          · exact hall.out j e
          · obtain rfl : j = i := by omega
            exact h)
        generalize X i = x at hx HB HG
        generalize V i = y at hv HB HG
        by_cases he : x = y
        · subst he
          have hne : (x != x) = false := by simp
          have HG1 := Lib.hid (HG.out rfl)
          clear HB HG hall
          go_wp2_with fail
          go_quiet (fail)
          go_wp2_with fail
          go_roundw
          case rel => exact ⟨i + 1, by omega, by go_num, HG1, below_drewN' hb _⟩
          case measure => simp [intOf]; omega
        · have hne : (x != y) = true := by simp [he]
          obtain rfl := HB.out he
          clear HB HG he HR2
          go_wp2_with fail
          go_quiet (fail)
          go_wp2_with fail
          go_ret
          exact ⟨rfl, hB2.trans ((below_drewN' hb _).mono hB2.size)⟩
      · obtain rfl : i = n := by omega
        obtain rfl : r = true := HR2.out.2 ⟨by trivial, hall.out⟩
        clear HR2
        go_wp2_with fail
        go_ret
        exact ⟨rfl, hB2.trans (hb.mono hB2.size)⟩
  · have d0 : ((sw : Int) != 0) = true := by simp; omega
    obtain rfl : r = false := by
      rcases r with _ | _
      · rfl
      · exact absurd (HR2.out.1 rfl).1 h0
    clear HR2
    go_wp2_with fail
    go_ret
    exact ⟨rfl, hB2⟩
/-- of the first j, those like number i and ahead of it. -/
def aheadU (V : Nat → Int) (i j : Nat) : Nat := Pl.cnt (fun l => decide (V l = V i) && decide (l < i)) j
theorem aheadU_succ (V : Nat → Int) (i j : Nat) : aheadU V i (j + 1) = aheadU V i j + (if V j = V i ∧ j < i then 1 else 0) := by
  unfold aheadU
  rw [Pl.cnt_succ]
  by_cases h1 : V j = V i <;> by_cases h2 : j < i <;> simp [h1, h2]
theorem aheadU_all (V : Nat → Int) {i n : Nat} (h : i ≤ n) : aheadU V i n = aheadI V i (V i) := cnt_upto (fun l => decide (V l = V i)) i n h
/-- the list while it is found. -/
def foundB (V : Nat → Int) (n wh m : Nat) : Nat → Int := fun j => if n - m ≤ j then backT V n wh j else 0
theorem foundB_step (V : Nat → Int) (n wh m : Nat) (hm : m < n) : icells (fun j => if j = n - 1 - m then V (backAt V n wh m) else foundB V n wh m j) n = icells (foundB V n wh (m + 1)) n := icells_congr fun j hj => by
  show (if j = n - 1 - m then V (backAt V n wh m) else foundB V n wh m j) = foundB V n wh (m + 1) j
  unfold foundB
  by_cases e : j = n - 1 - m
  · rw [if_pos e, if_pos (by omega)]
    unfold backT
    rw [show n - 1 - j = m by omega]
  · rw [if_neg e]
    by_cases h : n - m ≤ j
    · rw [if_pos h, if_pos (by omega)]
    · rw [if_neg h, if_neg (by omega)]
set_option maxRecDepth 100000 in
set_option maxHeartbeats 3200000 in
theorem refBack_is (A : Option Addr) (n c wh : Nat) (V : Nat → Int) (w : World) (hn : n ≤ 4194303) (hwh : wh < n) (ho : Its w w.heap.size A n V) (r : Bool) (hr : r = true ↔ BackOK V n wh) :
    Calls Try.prog 16 #[.slice A n c, .int .i64 (wh : Int)] w fun e w' => ∃ (A2 : Option Addr) (c2 : Nat), e = .returned (.tuple #[.slice A2 n c2, .bool r]) ∧ ItsR w' A2 n c2 (backT V n wh) ∧ Below w.heap.size w w' := by
  have HO := Lib.hid ho
  have HR := Lib.hid hr
  have HSm := Lib.hid ho.small
  clear ho hr
  have hmk1 := make_ints0 w n (by omega)
  have l1 := lies_new w 3 (icells (fun _ => 0) n)
  obtain ⟨W1, hW1⟩ : ∃ W, w.alloc (.cells (icells (fun _ => 0) n).toArray 3) = W := ⟨_, rfl⟩
  have hb1 : Below w.heap.size w W1 := by rw [← hW1]; exact (Below.refl _ _).alloc (Nat.le_refl _) _
  have hs1 : W1.heap.size = w.heap.size + 1 := by rw [← hW1, size_alloc]
  rw [hW1] at hmk1 l1
  obtain ⟨g, hg⟩ : ∃ g, w.heap.size = g := ⟨_, rfl⟩
  rw [hg] at hmk1 l1
  have HG := Lib.hid hg
  have HB1 := Lib.hid hb1
  have L1 : Hid (Lies W1 g 3 (icells (foundB V n wh 0) n)) := Lib.hid (by
    have e : icells (foundB V n wh 0) n = icells (fun _ => 0) n := icells_congr fun j hj => by
      unfold foundB
      rw [if_neg (by omega)]
    rw [e]
    exact l1)
  have hb0 : backAt V n wh 0 = wh := rfl
  have HLt := Lib.hid (backAt_lt (V := V) hwh)
  clear hW1 l1 hb1 hg hs1
  go_enter Try.func16, Try.ntmps16
  go_wp2_with fail
  go_loopw [8, 9] (fun s8 s9 wr => ∃ m i : Nat, m ≤ n ∧ s8 = .int .i64 (i : Int) ∧ s9 = .int .i64 ((n : Int) - 1 - (m : Int)) ∧ Hid (i = backAt V n wh m) ∧ Hid (Lies wr g 3 (icells (foundB V n wh m) n)) ∧ Below w.heap.size w wr) (fun _ s9 _ => (intOf s9 + 1).toNat)
  case atStart => exact ⟨0, wh, Nat.zero_le _, rfl, by first | go_num | (simp; omega), Lib.hid hb0.symm, L1, HB1.out⟩
  case round =>
    clear L1 HB1 hmk1 hb0
    obtain ⟨m, i, hm, rfl, rfl, HI, HLi, hb⟩ := hrel
    by_cases hlt : m < n
    · obtain ⟨k, hk⟩ : ∃ k, n - 1 - m = k := ⟨_, rfl⟩
      have hkn : k < n := by omega
      have hki : (n : Int) - 1 - (m : Int) = (k : Int) := by omega
      rw [hki]
      have hin : i < n := by rw [HI.out]; exact HLt.out m
      have hini : (i : Int) < (n : Int) := by omega
      have hkni : (k : Int) < (n : Int) := by omega
      have HSt := Lib.hid (foundB_step V n wh m hlt)
      have HNx : Hid (backAt V n wh (m + 1) = belowI V n (V i) + aheadI V i (V i)) := Lib.hid (by rw [HI.out]; rfl)
      have hsl := HLt.out (m + 1)
      rw [HNx.out] at hsl
      rw [hk, ← HI.out] at HSt
      obtain ⟨ad, rfl, _, hci, _, _⟩ := (HO.out.below hb) i hin
      have HAll := Lib.hid (aheadU_all V (Nat.le_of_lt hin))
      have hfr := HLi.out.free k
      have hcr : wr.cell? ⟨g, k, none⟩ = some (.int .i64 (foundB V n wh m k)) := (HLi.out.cell k).trans (icells_at _ n k hkn)
      have HL2 : Hid (Lies (wr.setCell ⟨g, k, none⟩ (.int .i64 (V i))) g 3 (icells (foundB V n wh (m + 1)) n)) := Lib.hid (by
        have h := HLi.out.put k (.int .i64 (V i))
        rwa [icells_put, HSt.out] at h)
      have hbs : Below w.heap.size w (wr.setCell ⟨g, k, none⟩ (.int .i64 (V i))) := hb.setCell (p := ⟨g, k, none⟩) (by show w.heap.size ≤ g; rw [HG.out]; exact Nat.le_refl _) _
      have hci2 : (wr.setCell ⟨g, k, none⟩ (.int .i64 (V i))).cell? (ad.add i) = some (.int .i64 (V i)) := by
        obtain ⟨_, e, _, h, _⟩ := (HO.out.below hbs) i hin
        cases e
        exact h
      obtain ⟨W2, hW2⟩ : ∃ W, wr.setCell ⟨g, k, none⟩ (.int .i64 (V i)) = W := ⟨_, rfl⟩
      have HBs := Lib.hid hbs
      rw [hW2] at HL2 HBs hci2
      obtain ⟨y, hy⟩ : ∃ y, V i = y := ⟨_, rfl⟩
      rw [hy] at hci hci2 hW2 HNx HAll
      clear hbs HLi HSt
      go_wp2_with fail
      have HY := Lib.hid hy
      clear hy hcr hfr hci hb hW2
      go_loop [10, 11, 34] (fun s10 s11 v => ∃ j p q : Nat, j ≤ n ∧ v = .int .i64 (j : Int) ∧ s10 = .int .i64 (p : Int) ∧ s11 = .int .i64 (q : Int) ∧ p ≤ j ∧ q ≤ j ∧ Hid (p = belowI V j y) ∧ Hid (q = aheadU V i j)) (fun _ _ v => n - (intOf v).toNat)
      case atStart => exact ⟨0, 0, 0, Nat.zero_le _, rfl, rfl, rfl, Nat.le_refl _, Nat.le_refl _, Lib.hid rfl, Lib.hid rfl⟩
      case round =>
        obtain ⟨j, p, q, hj, rfl, rfl, rfl, hp1, hq1, HP, HQ⟩ := hrel
        by_cases hjn : j < n
        · have hji : (j : Int) < (n : Int) := by omega
          obtain ⟨_, e1, _, hcj, _, _⟩ := (HO.out.below HBs.out) j hjn
          cases e1
          have HPs := Lib.hid (belowI_succ V j y)
          have HQs := Lib.hid (aheadU_succ V i j)
          rw [HY.out, ← HQ.out] at HQs
          rw [← HP.out] at HPs
          generalize V j = x at hcj HPs HQs
          by_cases hxy : x < y
          · have d1 : decide (x < y) = true := decide_eq_true hxy
            have d2 : (x == y) = false := by rw [beq_eq_false_iff_ne]; omega
            have HPn : Hid (p + 1 = belowI V (j + 1) y) := Lib.hid (by rw [HPs.out, if_pos hxy])
            have HQn : Hid (q = aheadU V i (j + 1)) := Lib.hid (by rw [HQs.out, if_neg (by omega)]; rfl)
            clear HP HQ HPs HQs
            go_wp2_with fail
            go_round
            case rel => exact ⟨j + 1, p + 1, q, by omega, by go_num, by go_num, rfl, by omega, by omega, HPn, HQn⟩
            case measure => simp [intOf]; omega
          · have d1 : decide (x < y) = false := decide_eq_false hxy
            have HPn : Hid (p = belowI V (j + 1) y) := Lib.hid (by rw [HPs.out, if_neg hxy]; rfl)
            by_cases hq : x = y ∧ j < i
            · obtain ⟨rfl, hji2⟩ := hq
              have d3 : decide ((j : Int) < (i : Int)) = true := decide_eq_true (by omega)
              have HQn : Hid (q + 1 = aheadU V i (j + 1)) := Lib.hid (by rw [HQs.out, if_pos ⟨rfl, hji2⟩])
              clear HP HQ HPs HQs
              go_wp2_with fail
              go_round
              case rel => exact ⟨j + 1, p, q + 1, by omega, by go_num, rfl, by go_num, by omega, by omega, HPn, HQn⟩
              case measure => simp [intOf]; omega
            · have HQn : Hid (q = aheadU V i (j + 1)) := Lib.hid (by rw [HQs.out, if_neg hq]; rfl)
              clear HP HQ HPs HQs
              by_cases hxe : x = y
              · subst hxe
                have d3 : decide ((j : Int) < (i : Int)) = false := decide_eq_false (by omega)
                go_wp2_with fail
                go_round
                case rel => exact ⟨j + 1, p, q, by omega, by go_num, rfl, rfl, by omega, by omega, HPn, HQn⟩
                case measure => simp [intOf]; omega
              · have d2 : (x == y) = false := by rw [beq_eq_false_iff_ne]; exact hxe
                clear hxe
                go_wp2_with fail
                go_round
                case rel => exact ⟨j + 1, p, q, by omega, by go_num, rfl, rfl, by omega, by omega, HPn, HQn⟩
                case measure => simp [intOf]; omega
        · obtain rfl : j = n := by omega
          have HNn : Hid (p + q = backAt V j wh (m + 1)) := Lib.hid (by rw [HNx.out, HP.out, HQ.out, HAll.out])
          clear HP HQ HNx HAll
          go_wp2_with fail
          go_roundw
          case rel => exact ⟨m + 1, p + q, by omega, by go_num, by go_num, HNn, HL2, HBs.out⟩
          case measure => simp [intOf] <;> omega
    · obtain rfl : m = n := by omega
      rw [show (m : Int) - 1 - (m : Int) = -1 by omega]
      have e1 : icells (foundB V m wh m) m = icells (backT V m wh) m := icells_congr fun j hj => by
        unfold foundB
        rw [if_pos (by omega)]
      have hrow := owns_lies (B := w.heap.size) HLi.out (by rw [HG.out]; exact Nat.le_refl _) (icells_length _ m) (by unfold maxLen; omega)
      rw [e1] at hrow
      obtain ⟨_, _, e2, hi⟩ := ItsR.of_own hrow (fun j hj => HSm.out _ (HLt.out _))
      cases e2
      have HT := Lib.hid hi
      clear e1 hrow hi HLi HSm HLt HI
      by_cases hE : EndsT (backT V m wh) m
      · have H1 := Lib.hid (refEnds_is _ m m _ wr (by omega) HT.out.2.2.2 true ⟨fun _ => hE, fun _ => rfl⟩)
        have HR1 : Hid (r = true ↔ TurnedOf V m wh (backT V m wh)) := Lib.hid (HR.out.trans ⟨fun h => h.2, fun h => ⟨hE, h⟩⟩)
        clear hE HR
        go_wp2_with fail
        refine H1.out.mono ?_
        rintro e w1 ⟨rfl, hb1⟩
        have hB1 := hb.trans (hb1.mono hb.size)
        have HT1 := Lib.hid (HT.out.below hb1)
        have H2 := Lib.hid (refIs_is _ A m m c wh _ V w1 hn hwh HT1.out.2.2.2 ((HO.out.below hB1).mono_ hB1.size) r HR1.out)
        clear HT H1 hb1
        go_wp2_with fail
        refine H2.out.mono ?_
        rintro e w2 ⟨rfl, hb2⟩
        have hB2 := hB1.trans (hb2.mono hB1.size)
        have HT2 := Lib.hid (HT1.out.below hb2)
        go_wp2_with fail
        go_ret2
        exact ⟨_, _, rfl, HT2.out, hB2⟩
      · obtain rfl : r = false := by
          rcases r with _ | _
          · rfl
          · exact absurd (HR.out.1 rfl).1 hE
        have H1 := Lib.hid (refEnds_is _ m m _ wr (by omega) HT.out.2.2.2 false ⟨fun e => (by cases e), fun h => absurd h hE⟩)
        clear hE HR
        go_wp2_with fail
        refine H1.out.mono ?_
        rintro e w1 ⟨rfl, hb1⟩
        have hB1 := hb.trans (hb1.mono hb.size)
        have HT1 := Lib.hid (HT.out.below hb1)
        go_wp2_with fail
        go_ret2
        exact ⟨_, _, rfl, HT1.out, hB1⟩
end Go.Proofs.Ytjloepepnjcpiaa
