/- The developers' package suffix: a row as it lies; fit, isDip, dips, onlyDips. slices.Equal and slices.Compare over ints, wherever they lie. The developers' suffix: alike; named. The dips picked out of a list of places; in the order of their parts, by their numbers. slices.Repeat over ints; the developers' suffix.Turn: the list turned round. slices.Backward over ints: what it hands over, told by number, read when it is come to. A range over slices.Backward whose rounds all end as they should: the law. A region that draws its order, by facts on its slots: what each operation leaves is told once, whatever the order; an operation is walked once, out of what those have left that it waits for. (For regions in which memory is made beside calls: of such there are too many orders to go through.) No program is named here. A region by facts (Region): steps for operations that stand behind a guard. No program is named here. A region that draws its order, walked by hand where the library's word tells of an operation that it can't take first: the slot that an operation writes is told apart from the operation, so that the frame is laid out behind each step. A region that draws its order, inside a round of a range over a function: what is proved of it outside of one holds there, too; where all its operations but the last few only read; walked by hand over cells that stand (held_in_round). No program is named here. -/
import Derived.Test.YtbkdloebbbmkaaaGreatB08
import Derived.Test.YtbkdloebbbmkaaaGreatB03
import Derived.Test.YtbkdloebbbmkaaaGreatB02
import Derived.Deep.QuietTactic
import Derived.Test.YtbkdloebbbmkaaaGreatB06
import Derived.Shelf.Bits.Mul64
import Derived.Laws.CopyOwn
import Derived.StillTailTactics
import Derived.Test.YtbkdloebbbmkaaaGreatRows
import Derived.RegionTactic
import Derived.Below
import Derived.Deep.RegionHeld3
namespace Go.Proofs.YtbkdloebbbmkaaaGreat
open Go.RowKit

/-- bools as they lie. -/
def blcells (f : Nat → Bool) (n : Nat) : List Value := (List.range n).map fun t => Value.bool (f t)
theorem blcells_length (f : Nat → Bool) (n : Nat) : (blcells f n).length = n := by unfold blcells; simp
theorem blcells_at (f : Nat → Bool) (n k : Nat) (h : k < n) : (blcells f n)[k]? = some (.bool (f k)) := by
  unfold blcells
  rw [List.getElem?_map, List.getElem?_range h]
  rfl
theorem blcells_congr {f f' : Nat → Bool} {n : Nat} (h : ∀ j, j < n → f j = f' j) : blcells f n = blcells f' n := by
  unfold blcells
  exact List.map_congr_left fun j hj => by rw [h j (List.mem_range.1 hj)]
/-- the heads, as ints. -/
def hdI (X : Nat → Nat) (n : Nat) (x : Nat) : Int := ((hd X n x : Nat) : Int)

/-- a row as it lies, all below T. -/
structure Rw (w : World) (T : Nat) (A : Option Addr) (n c : Nat) (X : Nat → Nat) (b g e h : Nat) : Prop where
  head : Lies w g 134 [.slice A n c, .slice (some ⟨e, 0, none⟩) n n, .slice (some ⟨h, 0, none⟩) (b + 1) (b + 1)]
  t : Its w T A n (xi X)
  less : Lies w e 4 (blcells (up X n) n)
  heads : Lies w h 3 (icells (hdI X n) (b + 1))
  lt : g < T ∧ e < T ∧ h < T
  small : 0 < n ∧ n ≤ 4194304 ∧ b ≤ 4194304 ∧ n ≤ c ∧ c ≤ maxLen
  right : ∀ p, p < n → X p < b
section
variable {w w' : World} {T n c b g e h : Nat} {A : Option Addr} {X : Nat → Nat}
theorem Rw.below {T' : Nat} (r : Rw w T A n c X b g e h) (hb : Below T' w w') (hT : T ≤ T') : Rw w' T A n c X b g e h :=
  ⟨r.head.below hb (by have := r.lt; omega), fun k hk => (r.t.below (hb.mono hT)) k hk, r.less.below hb (by have := r.lt; omega), r.heads.below hb (by have := r.lt; omega), r.lt, r.small, r.right⟩
theorem Rw.c0 (r : Rw w T A n c X b g e h) : w.cell? ⟨g, 0, none⟩ = some (.slice A n c) := r.head.cell 0
theorem Rw.c1 (r : Rw w T A n c X b g e h) : w.cell? ⟨g, 1, none⟩ = some (.slice (some ⟨e, 0, none⟩) n n) := r.head.cell 1
theorem Rw.c2 (r : Rw w T A n c X b g e h) : w.cell? ⟨g, 2, none⟩ = some (.slice (some ⟨h, 0, none⟩) (b + 1) (b + 1)) := r.head.cell 2
theorem Rw.up_ (r : Rw w T A n c X b g e h) {p : Nat} (hp : p < n) : w.cell? ⟨e, p, none⟩ = some (.bool (up X n p)) := by
  rw [r.less.cell]
  exact blcells_at _ _ _ hp
theorem Rw.hd_ (r : Rw w T A n c X b g e h) {x : Nat} (hx : x ≤ b) : w.cell? ⟨h, x, none⟩ = some (.int .i64 ((hd X n x : Nat) : Int)) := by
  rw [r.heads.cell]
  exact icells_at _ _ _ (by omega)

set_option maxRecDepth 100000 in
set_option maxHeartbeats 800000 in
theorem isDip_any (r : Rw w T A n c X b g e h) {p : Nat} (hp : p < n) : Calls Tryz.prog 116 #[.pointer (some ⟨g, 0, none⟩), .int .i64 (p : Int)] w fun e' w' => e' = .returned (.bool (dip X n p)) ∧ w = w' := by
  have c1 := r.c1
  have hn := r.small.2.1
  rcases Nat.eq_zero_or_pos p with rfl | h0
  · have hd : dip X n 0 = false := rfl
    rw [hd]
    clear r
    go_enter Tryz.func116, Tryz.ntmps116
    go_wp2_with fail
    go_ret
    exact ⟨rfl, rfl⟩
  · have u1 := r.up_ hp
    have u2 := r.up_ (p := p - 1) (by omega)
    have hd : dip X n p = (up X n p && !up X n (p - 1)) := by unfold dip; rw [decide_eq_true h0]; rfl
    rw [hd]
    obtain ⟨q, rfl⟩ : ∃ q, p = q + 1 := ⟨p - 1, by omega⟩
    rw [Nat.add_sub_cancel] at u2 ⊢
    have hw : IntKind.i64.wrap (((q + 1 : Nat) : Int) - 1) = (q : Int) := by rw [IntWalk.i64_in _ (by omega)]; omega
    generalize up X n (q + 1) = a1 at u1 ⊢
    generalize up X n q = a2 at u2 ⊢
    obtain ⟨m, hm⟩ : ∃ m, q + 1 = m := ⟨_, rfl⟩
    rw [hm] at hw u1 hp ⊢
    have d0 : (0 : Int) < (m : Int) := by omega
    have hq : q < n := by omega
    clear r hd h0 hm
    go_enter Tryz.func116, Tryz.ntmps116
    cases a1
    · go_wp2_with fail
      go_ret
      exact ⟨rfl, rfl⟩
    · go_wp2_with fail
      go_ret
      exact ⟨rfl, rfl⟩
end

set_option maxRecDepth 100000 in
set_option maxHeartbeats 1600000 in
theorem sufFit_is (A : Option Addr) (n c : Nat) (V : Nat → Int) (al : Int) (B : Nat) (w : World) (hn : n ≤ maxLen) (ho : Its w B A n V) (r : Bool) (hr : r = true ↔ RightS V n al) :
    Calls Tryz.prog 65 #[.slice A n c, .int .i64 al] w fun e w' => e = .returned (.bool r) ∧ w = w' := by
  have HR := Lib.hid hr
  have HO := Lib.hid ho
  have hnl : n ≤ 9223372036854775807 := by unfold maxLen at hn; omega
  clear ho hn hr
  by_cases hal : 0 ≤ al ∧ al ≤ 4194304 ∧ n ≤ 4194304
  · obtain ⟨h1, h2, h3⟩ := hal
    have d1 : decide (al < 0) = false := decide_eq_false (by omega)
    have d2 : decide ((4194304 : Int) < al) = false := decide_eq_false (by omega)
    have d3 : decide ((4194304 : Int) < (n : Int)) = false := decide_eq_false (by omega)
    go_enter Tryz.func65, Tryz.ntmps65
    go_wp2_with fail
    go_loop [20] (fun v => ∃ i : Nat, i ≤ n ∧ v = .int .i64 (i : Int) ∧ Hid (∀ j, j < i → 0 ≤ V j ∧ V j < al)) (fun v => n - (intOf v).toNat)
    case atStart => exact ⟨0, Nat.zero_le _, rfl, Lib.hid (fun j hj => absurd hj (Nat.not_lt_zero j))⟩
    case round =>
      obtain ⟨i, hi, rfl, hall⟩ := hrel
      by_cases hlt : i < n
      · have hlti : (i : Int) < (n : Int) := by omega
        obtain ⟨ad, rfl, _, hc, hv1, hv2⟩ := HO.out i hlt
        obtain ⟨v, hv⟩ : ∃ v, V i = v := ⟨_, rfl⟩
        rw [hv] at hc hv1 hv2
        have HV := Lib.hid hv
        clear hv
        by_cases hok : 0 ≤ v ∧ v < al
        · have e1 : decide (v < 0) = false := decide_eq_false (by omega)
          have e2 : decide (al ≤ v) = false := decide_eq_false (by omega)
          go_wp2_with fail
          go_round
          case rel => exact ⟨i + 1, by omega, by go_num, Lib.hid (fun j hj => by
            by_cases e : j < i
            · exact hall.out j e
            · obtain rfl : j = i := by omega
              rw [HV.out]
              exact hok)⟩
          case measure => simp [intOf]; omega
        · have hbad : Hid (¬ RightS V n al) := Lib.hid (fun h => hok (by rw [← HV.out]; exact h.2 i hlt))
          have hcond : decide (v < 0) = true ∨ (decide (v < 0) = false ∧ decide (al ≤ v) = true) := by
            by_cases h0 : v < 0
            · exact .inl (decide_eq_true h0)
            · exact .inr ⟨decide_eq_false h0, decide_eq_true (by omega)⟩
          obtain rfl : r = false := by
            rcases r with _ | _
            · rfl
            · exact absurd (HR.out.1 rfl) hbad.out
          clear hok HR
          rcases hcond with e1 | ⟨e1, e2⟩
          all_goals
            go_wp2_with fail
            go_ret
            exact ⟨rfl, rfl⟩
      · obtain rfl : i = n := by omega
        obtain rfl : r = true := HR.out.2 ⟨⟨h1, h2, h3⟩, hall.out⟩
        go_wp2_with fail
        go_ret
        exact ⟨rfl, rfl⟩
  · have hbad : Hid (¬ RightS V n al) := Lib.hid (fun h => hal h.1)
    have hcond : decide (al < 0) = true ∨ (decide (al < 0) = false ∧ decide ((4194304 : Int) < al) = true) ∨ (decide (al < 0) = false ∧ decide ((4194304 : Int) < al) = false ∧ decide ((4194304 : Int) < (n : Int)) = true) := by
      by_cases h0 : al < 0
      · exact .inl (decide_eq_true h0)
      · by_cases h1 : (4194304 : Int) < al
        · exact .inr (.inl ⟨decide_eq_false h0, decide_eq_true h1⟩)
        · exact .inr (.inr ⟨decide_eq_false h0, decide_eq_false h1, decide_eq_true (by omega)⟩)
    obtain rfl : r = false := by
      rcases r with _ | _
      · rfl
      · exact absurd (HR.out.1 rfl) hbad.out
    clear hal HR
    rcases hcond with d1 | ⟨d1, d2⟩ | ⟨d1, d2, d3⟩
    all_goals
      go_enter Tryz.func65, Tryz.ntmps65
      go_wp2_with fail
      go_ret
      exact ⟨rfl, rfl⟩

/-- the numbers picked out among the first i, in their order. -/
def Picks (f : Nat → Bool) (s : Nat → Nat) (i : Nat) (U : Nat → Int) : Prop := ∀ j, j < i → f j = true → U (Pl.cnt f j) = ((s j : Nat) : Int)
theorem Picks.skip {f : Nat → Bool} {s : Nat → Nat} {i : Nat} {U : Nat → Int} (h : Picks f s i U) (hf : f i = false) : Picks f s (i + 1) U := fun j hj hfj => by
  by_cases e : j = i
  · subst e
    rw [hf] at hfj
    cases hfj
  · exact h j (by omega) hfj
theorem Picks.take {f : Nat → Bool} {s : Nat → Nat} {i : Nat} {U : Nat → Int} (h : Picks f s i U) : Picks f s (i + 1) (putI U (Pl.cnt f i) ((s i : Nat) : Int)) := fun j hj hfj => by
  by_cases e : j = i
  · subst e
    exact putI_at _ _ _
  · have := Pl.cnt_at_lt (f := f) (show j < i by omega) hfj
    rw [putI_off _ (by omega)]
    exact h j (by omega) hfj
theorem icells_putI (U : Nat → Int) (n : Nat) (x : Int) : icells U n ++ [.int .i64 x] = icells (putI U n x) (n + 1) := by
  rw [icells_snoc, putI_at]
  congr 1
  exact icells_congr fun j hj => (putI_off _ (by omega)).symm
theorem cnt_true {f : Nat → Bool} {i : Nat} (h : f i = true) : Pl.cnt f (i + 1) = Pl.cnt f i + 1 := by rw [Pl.cnt_succ, if_pos h]
theorem cnt_false {f : Nat → Bool} {i : Nat} (h : f i = false) : Pl.cnt f (i + 1) = Pl.cnt f i := by rw [Pl.cnt_succ, h]; rfl

section
variable {w : World} {T n c b g e h : Nat} {A : Option Addr} {X : Nat → Nat}
set_option maxRecDepth 100000 in
set_option maxHeartbeats 800000 in
theorem dips_any (r : Rw w T A n c X b g e h) (hT : T ≤ w.heap.size) : Calls Tryz.prog 97 #[.pointer (some ⟨g, 0, none⟩)] w fun e' w' => ∃ (v : Value) (U : Nat → Int), e' = .returned v ∧ Picks (dip X n) (fun p => p) n U ∧
    w'.ownsRow w.heap.size 3 1 v (Pl.cnt (dip X n) n) (icells U (Pl.cnt (dip X n) n)) ∧ Below w.heap.size w w' := by
  have hn := r.small.2.1
  have HR := Lib.hid r
  have c0 := r.c0
  obtain ⟨B, hB⟩ : ∃ B, w.heap.size = B := ⟨_, rfl⟩
  rw [hB] at hT ⊢
  clear r
  go_enter Tryz.func97, Tryz.ntmps97
  go_wp2_with fail
  go_loopw [3, 10] (fun s v wr => ∃ i : Nat, i ≤ n ∧ v = .int .i64 (i : Int) ∧ Hid (∃ U, Picks (dip X n) (fun p => p) i U ∧ wr.ownsRow B 3 1 s (Pl.cnt (dip X n) i) (icells U (Pl.cnt (dip X n) i))) ∧ Below B w wr) (fun _ v _ => n - (intOf v).toNat)
  case atStart => exact ⟨0, Nat.zero_le _, rfl, Lib.hid ⟨fun _ => 0, fun j hj => absurd hj (Nat.not_lt_zero j), World.ownsRow_nil _ _ _ _⟩, Below.refl _ _⟩
  case round =>
    obtain ⟨i, hi, rfl, hrow, hb⟩ := hrel
    have hbs := hb.size
    by_cases hlt : i < n
    · have hlti : (i : Int) < (n : Int) := by omega
      have hD := isDip_any (HR.out.below hb hT) hlt
      have hm := cnt_to (dip X n) i
      obtain ⟨U, hU, hown⟩ := hrow.out
      have HU := Lib.hid hU
      have HO := Lib.hid hown
      obtain ⟨m, hmm⟩ : ∃ m, Pl.cnt (dip X n) i = m := ⟨_, rfl⟩
      rw [hmm] at HO hm
      have HM := Lib.hid hmm
      have hBs : B ≤ wr.heap.size := by omega
      have hm4 : m ≤ 4194304 := by omega
      cases hdp : dip X n i
      · rw [hdp] at hD
        have HDp := Lib.hid hdp
        clear hU hown hmm hrow hdp
        go_wp2_with (go_at_call 116; (with_reducible refine hD.mono ?_); rintro e w' ⟨rfl, rfl⟩)
        go_roundw
        case rel => exact ⟨i + 1, by omega, by go_num, Lib.hid ⟨U, HU.out.skip HDp.out, by rw [cnt_false HDp.out, HM.out]; exact HO.out⟩, hb⟩
        case measure => simp [intOf]; omega
      · rw [hdp] at hD
        have HDp := Lib.hid hdp
        clear hU hown hmm hrow hdp
        go_wp2_with (first
          | (go_at_call 116; (with_reducible refine hD.mono ?_); rintro e w' ⟨rfl, rfl⟩)
          | (at_builtin; refine step_append_int rfl (.tmp 16) (.tmp 18) rfl rfl HO.out (i : Int) rfl hBs hm4 ?_; intro v3 w3 hown3 hb3))
        go_roundw
        case rel => exact ⟨i + 1, by omega, by go_num, Lib.hid ⟨_, HU.out.take, by
          rw [cnt_true HDp.out, HM.out, ← icells_putI]
          exact hown3.out⟩, hb.trans hb3⟩
        case measure => simp [intOf]; omega
    · obtain rfl : i = n := by omega
      obtain ⟨U, hU, hown⟩ := hrow.out
      go_wp2_with fail
      go_ret
      exact ⟨_, U, rfl, hU, hown, hb⟩
end
end Go.Proofs.YtbkdloebbbmkaaaGreat

namespace Go.Proofs.YtbkdloebbbmkaaaGreat
open Go.RowKit

theorem Its.cut_ {w : World} {B n o m : Nat} {ad : Addr} {V : Nat → Int} (h : Its w B (some ad) n V) (ho : o + m ≤ n) : Its w B (some (ad.add o)) m (fun j => V (o + j)) := fun j hj => by
  obtain ⟨ad', e, h1, h2, h3⟩ := h (o + j) (by omega)
  cases e
  refine ⟨_, rfl, by rw [add_block]; exact h1, ?_, h3⟩
  rw [Addr.add_add]
  exact h2
set_option maxRecDepth 100000 in
set_option maxHeartbeats 1600000 in
theorem equal_any (A A' : Option Addr) (n m c c' : Nat) (V V' : Nat → Int) (B : Nat) (w : World) (hn : n ≤ 4194304) (ho : Its w B A n V) (ho' : Its w B A' m V') (r : Bool) (hr : r = true ↔ (n = m ∧ ∀ i, i < n → V i = V' i)) :
    Calls Tryz.prog 45 #[.slice A n c, .slice A' m c'] w fun e w' => e = .returned (.bool r) ∧ ∃ j, w' = w.drewN j := by
  have HO := Lib.hid ho
  have HO' := Lib.hid ho'
  have HR := Lib.hid hr
  clear ho ho' hr
  by_cases hnm : n = m
  · subst hnm
    go_enter Tryz.func45, Tryz.ntmps45
    go_wp2_with fail
    go_loopw [13] (fun v wr => ∃ i q : Nat, i ≤ n ∧ v = .int .i64 (i : Int) ∧ wr = w.drewN q ∧ Hid (∀ j, j < i → V j = V' j)) (fun v _ => n - (intOf v).toNat)
    case atStart => exact ⟨0, 0, Nat.zero_le _, rfl, rfl, Lib.hid fun j hj => absurd hj (Nat.not_lt_zero j)⟩
    case round =>
      obtain ⟨i, q, hi, rfl, rfl, hall⟩ := hrel
      by_cases hlt : i < n
      · have hlti : (i : Int) < (n : Int) := by omega
        obtain ⟨ad, rfl, _, hc0, _⟩ := HO.out i hlt
        obtain ⟨ad', rfl, _, hc0', _⟩ := HO'.out i hlt
        have hc : ∀ t, (w.drewN t).cell? (ad.add i) = some (.int .i64 (V i)) := fun _ => hc0
        have hc' : ∀ t, (w.drewN t).cell? (ad'.add i) = some (.int .i64 (V' i)) := fun _ => hc0'
        clear hc0 hc0'
        by_cases he : V i = V' i
        · have HE := Lib.hid he
          rw [he] at hc
          clear he
          go_wp2_with fail
          go_quiet (fail)
          go_wp2_with fail
          go_roundw
          case rel => exact ⟨i + 1, _, by omega, by go_num, rfl, Lib.hid fun j hj => by
            by_cases e : j < i
            · exact hall.out j e
            · obtain rfl : j = i := by omega
              exact HE.out⟩
          case measure => simp [intOf]; omega
        · have hne : (V i != V' i) = true := by rw [bne_iff_ne]; exact he
          have hne2 : ¬ V i = V' i := he
          have HNe := Lib.hid he
          obtain rfl : r = false := by
            rcases r with _ | _
            · rfl
            · exact absurd ((HR.out.1 rfl).2 i hlt) he
          generalize V i = v1 at *
          generalize V' i = v2 at *
          go_wp2_with fail
          go_quiet (fail)
          go_wp2_with fail
          go_ret
          exact ⟨rfl, _, World.drewN_drewN _ _ _⟩
      · obtain rfl : i = n := by omega
        obtain rfl : r = true := HR.out.2 ⟨by trivial, hall.out⟩
        go_wp2_with fail
        go_ret
        exact ⟨rfl, q, rfl⟩
  · obtain rfl : r = false := by
      rcases r with _ | _
      · rfl
      · exact absurd (HR.out.1 rfl).1 hnm
    have hne : ((n : Int) != (m : Int)) = true := by rw [bne_iff_ne]; omega
    have hne2 : ¬ (n : Int) = (m : Int) := by omega
    go_enter Tryz.func45, Tryz.ntmps45
    go_wp2_with fail
    go_ret
    exact ⟨rfl, 0, rfl⟩
/-- where two lists of numbers part. -/
def Cmp (V : Nat → Int) (n : Nat) (V' : Nat → Int) (m : Nat) (r : Int) : Prop :=
  ∃ k, (∀ j, j < k → V j = V' j) ∧ k ≤ n ∧ k ≤ m ∧ ((k = n ∧ k < m ∧ r = -1) ∨ (k < n ∧ k = m ∧ r = 1) ∨ (k = n ∧ k = m ∧ r = 0) ∨ (k < n ∧ k < m ∧ V k < V' k ∧ r = -1) ∨ (k < n ∧ k < m ∧ V' k < V k ∧ r = 1))
theorem cmp_least {V : Nat → Int} {n a b : Nat} {r : Int} (ha : a < n) (hb : b < n) (h : Cmp (fun j => V (a + j)) (n - a) (fun j => V (b + j)) (n - b) r) : r = leastI V n (a : Int) (b : Int) := by
  obtain ⟨k, h1, h2, h3, h4⟩ := h
  have h1 : ∀ j, j < k → V (a + j) = V (b + j) := h1
  rcases h4 with ⟨e1, e2, rfl⟩ | ⟨e1, e2, rfl⟩ | ⟨e1, e2, rfl⟩ | ⟨e1, e2, e3, rfl⟩ | ⟨e1, e2, e3, rfl⟩
  · exact (leastI_less ha hb ⟨k, h1, by omega, by omega, .inl (by omega)⟩).symm
  · exact (leastI_more ha hb ⟨k, fun j hj => (h1 j hj).symm, by omega, by omega, .inl (by omega)⟩).symm
  · exact (leastI_out (by omega)).symm
  · exact (leastI_less ha hb ⟨k, h1, by omega, by omega, .inr e3⟩).symm
  · exact (leastI_more ha hb ⟨k, fun j hj => (h1 j hj).symm, by omega, by omega, .inr e3⟩).symm
end Go.Proofs.YtbkdloebbbmkaaaGreat

namespace Go.Proofs.YtbkdloebbbmkaaaGreat
open Go.RowKit

theorem xi_at {X : Nat → Nat} {p q : Nat} (h : X p = X q) : xi X p = xi X q := xi_eq h
section
variable {w : World} {T n c b g e h : Nat} {A : Option Addr} {X : Nat → Nat}
set_option maxRecDepth 100000 in
set_option maxHeartbeats 1600000 in
theorem alike_any (r : Rw w T A n c X b g e h) {m : Nat} {d : Nat → Nat} (hd : DipsUp X n m d) (B : Nat) (P : Option Addr) (cp : Nat) (hP : Its w B P m (fun k => ((d k : Nat) : Int))) {k l : Nat} (hk : k < m) (hl : l < m) :
    Calls Tryz.prog 119 #[.pointer (some ⟨g, 0, none⟩), .slice P m cp, .int .i64 (k : Int), .int .i64 (l : Int)] w fun e' w' => e' = .returned (.bool (decide (Alike X m d k l))) ∧ ∃ j, w' = w.drewN j := by
  have hn := r.small.2.1
  have hmn : m ≤ n := by
    have := pigeon n m (fun _ => true) d (fun i hi => ⟨(hd.is i hi).1, rfl⟩) hd.inj
    exact Nat.le_trans this (cnt_to _ _)
  have hw : IntKind.i64.wrap ((m : Int) - 1) = ((m - 1 : Nat) : Int) := by rw [IntWalk.i64_in _ (by omega)]; omega
  by_cases hlast : k = m - 1 ∨ l = m - 1
  · have hD : decide (Alike X m d k l) = false := decide_eq_false fun ha => by
      have := ha.1
      have := ha.2.1
      omega
    rw [hD]
    obtain ⟨m1, hm1⟩ : ∃ m1, m - 1 = m1 := ⟨_, rfl⟩
    rw [hm1] at hw hlast
    clear hD r hd hP
    by_cases hk1 : k = m1
    · subst hk1
      go_enter Tryz.func119, Tryz.ntmps119
      go_wp2_with fail
      go_ret
      exact ⟨rfl, 0, rfl⟩
    · obtain rfl : l = m1 := by omega
      have e1 : ((k : Int) == (l : Int)) = false := by rw [beq_eq_false_iff_ne]; omega
      have e2 : ¬ (k : Int) = (l : Int) := by omega
      go_enter Tryz.func119, Tryz.ntmps119
      go_wp2_with fail
      go_ret
      exact ⟨rfl, 0, rfl⟩
  · have hk1 : k + 1 < m := by omega
    have hl1 : l + 1 < m := by omega
    have m1 := hd.mono k (k + 1) (by omega) hk1
    have m2 := hd.mono l (l + 1) (by omega) hl1
    have n1 := (hd.is (k + 1) hk1).1
    have n2 := (hd.is (l + 1) hl1).1
    obtain ⟨ad, rfl, _⟩ := r.t 0 r.small.1
    have c0 := r.c0
    have hcap := r.small.2.2.2.1
    have hcm := r.small.2.2.2.2
    obtain ⟨pd, rfl, _⟩ := hP k hk
    have dk : w.cell? (pd.add k) = some (.int .i64 ((d k : Nat) : Int)) := by
      obtain ⟨p, ep, _, hc, _⟩ := hP k hk
      cases ep
      exact hc
    have dk1 : w.cell? (pd.add (k + 1)) = some (.int .i64 ((d (k + 1) : Nat) : Int)) := by
      obtain ⟨p, ep, _, hc, _⟩ := hP (k + 1) hk1
      cases ep
      exact hc
    have dl : w.cell? (pd.add l) = some (.int .i64 ((d l : Nat) : Int)) := by
      obtain ⟨p, ep, _, hc, _⟩ := hP l hl
      cases ep
      exact hc
    have dl1 : w.cell? (pd.add (l + 1)) = some (.int .i64 ((d (l + 1) : Nat) : Int)) := by
      obtain ⟨p, ep, _, hc, _⟩ := hP (l + 1) hl1
      cases ep
      exact hc
    have hE := fun q => equal_any (some (ad.add (d k))) (some (ad.add (d l))) (d (k + 1) + 1 - d k) (d (l + 1) + 1 - d l) (c - d k) (c - d l) (fun j => xi X (d k + j)) (fun j => xi X (d l + j)) T (w.drewN q) (by omega)
      (Its.cut_ (n := n) (fun k hk => r.t k hk) (by omega)) (Its.cut_ (n := n) (fun k hk => r.t k hk) (by omega)) (decide (Alike X m d k l)) (by
        rw [decide_eq_true_iff]
        constructor
        · intro ha
          have := ha.2.2.1
          refine ⟨by omega, fun i hi => xi_at (ha.2.2.2 i (by omega))⟩
        · rintro ⟨e1, e2⟩
          refine ⟨hk1, hl1, by omega, fun i hi => ?_⟩
          have h2 : ((X (d k + i) : Nat) : Int) = ((X (d l + i) : Nat) : Int) := e2 i (by omega)
          omega)
    generalize decide (Alike X m d k l) = res at hE ⊢
    obtain ⟨x0, hx0⟩ : ∃ x0, d k = x0 := ⟨_, rfl⟩
    obtain ⟨x1, hx1⟩ : ∃ x1, d (k + 1) = x1 := ⟨_, rfl⟩
    obtain ⟨y0, hy0⟩ : ∃ y0, d l = y0 := ⟨_, rfl⟩
    obtain ⟨y1, hy1⟩ : ∃ y1, d (l + 1) = y1 := ⟨_, rfl⟩
    obtain ⟨k1, hke⟩ : ∃ k1, k + 1 = k1 := ⟨_, rfl⟩
    obtain ⟨l1, hle⟩ : ∃ l1, l + 1 = l1 := ⟨_, rfl⟩
    rw [hx0, hx1, hy0, hy1] at hE
    rw [hx0] at dk m1
    rw [hx1] at dk1 m1 n1
    rw [hy0] at dl m2
    rw [hy1] at dl1 m2 n2
    rw [hke] at dk1
    rw [hle] at dl1
    obtain ⟨x2, hx2⟩ : ∃ x2, x1 + 1 = x2 := ⟨_, rfl⟩
    obtain ⟨y2, hy2⟩ : ∃ y2, y1 + 1 = y2 := ⟨_, rfl⟩
    rw [hx2, hy2] at hE
    have w1 : IntKind.i64.wrap ((k : Int) + 1) = (k1 : Int) := by rw [IntWalk.i64_in _ (by omega)]; omega
    have w2 : IntKind.i64.wrap ((l : Int) + 1) = (l1 : Int) := by rw [IntWalk.i64_in _ (by omega)]; omega
    have w3 : IntKind.i64.wrap ((x1 : Int) + 1) = (x2 : Int) := by rw [IntWalk.i64_in _ (by omega)]; omega
    have w4 : IntKind.i64.wrap ((y1 : Int) + 1) = (y2 : Int) := by rw [IntWalk.i64_in _ (by omega)]; omega
    have b1 : (k : Int) < (m : Int) := by omega
    have b2 : (k1 : Int) < (m : Int) := by omega
    have b3 : (l : Int) < (m : Int) := by omega
    have b4 : (l1 : Int) < (m : Int) := by omega
    have b5 : (x0 : Int) ≤ (x2 : Int) := by omega
    have b6 : (y0 : Int) ≤ (y2 : Int) := by omega
    have b7 : (x2 : Int) ≤ (c : Int) := by omega
    have b8 : (y2 : Int) ≤ (c : Int) := by omega
    have b9 : c ≠ x0 := by omega
    have b10 : c ≠ y0 := by omega
    have e1 : ((k : Int) == ((m - 1 : Nat) : Int)) = false := by rw [beq_eq_false_iff_ne]; omega
    have e2 : ((l : Int) == ((m - 1 : Nat) : Int)) = false := by rw [beq_eq_false_iff_ne]; omega
    have e3 : ¬ (k : Int) = ((m - 1 : Nat) : Int) := by omega
    have e4 : ¬ (l : Int) = ((m - 1 : Nat) : Int) := by omega
    have HE : ∀ q, Hid (Calls Tryz.prog 45 #[.slice (some (ad.add x0)) (x2 - x0) (c - x0), .slice (some (ad.add y0)) (y2 - y0) (c - y0)] (w.drewN q) fun e w' => e = .returned (.bool res) ∧ ∃ j, w' = w.drewN j) :=
      fun q => Lib.hid ((hE q).mono fun _ _ hh => by
        obtain ⟨h1, j, h2⟩ := hh
        exact ⟨h1, q + j, h2.trans (World.drewN_drewN _ _ _)⟩)
    obtain ⟨m0, hm0⟩ : ∃ m0, m - 1 = m0 := ⟨_, rfl⟩
    rw [hm0] at e1 e2 e3 e4 hw
    have c0' : ∀ t, (w.drewN t).cell? ⟨g, 0, none⟩ = some (.slice (some ad) n c) := fun _ => c0
    have dk' : ∀ t, (w.drewN t).cell? (pd.add k) = some (.int .i64 (x0 : Int)) := fun _ => dk
    have dk1' : ∀ t, (w.drewN t).cell? (pd.add k1) = some (.int .i64 (x1 : Int)) := fun _ => dk1
    have dl' : ∀ t, (w.drewN t).cell? (pd.add l) = some (.int .i64 (y0 : Int)) := fun _ => dl
    have dl1' : ∀ t, (w.drewN t).cell? (pd.add l1) = some (.int .i64 (y1 : Int)) := fun _ => dl1
    clear c0 dk dk1 dl dl1
    clear hE r hd hP hx0 hx1 hy0 hy1 hke hle hx2 hy2 hm0 hlast
    go_enter Tryz.func119, Tryz.ntmps119
    go_wp2_with fail
    go_quiet ((go_at_call 45; with_reducible exact (HE _).out))
    go_wp2_with fail
    go_ret
    exact ⟨rfl, _, rfl⟩
/-- what named leaves. -/
def NamedPost (w : World) (X : Nat → Nat) (m : Nat) (d σ : Nat → Nat) (e' : Ending) (w' : World) : Prop :=
  ∃ (g1 : Nat) (Y : Nat → Nat), e' = .returned (.tuple #[.slice (some ⟨g1, 0, none⟩) m m, .int .i64 ((unl X m d σ m : Nat) : Int)]) ∧ Names X m d σ Y ∧ w'.ownsRow w.heap.size 3 1 (.slice (some ⟨g1, 0, none⟩) m m) m (icells (xi Y) m) ∧ Below w.heap.size w w'
set_option maxRecDepth 100000 in
set_option maxHeartbeats 3200000 in
theorem named_any (r : Rw w T A n c X b g e h) (hT : T ≤ w.heap.size) {m : Nat} {d σ : Nat → Nat} (hO : DipOrd X n m d σ) (P Qs : Option Addr) (cp cq : Nat) (hP : Its w w.heap.size P m (fun k => ((d k : Nat) : Int))) (hQ : Its w w.heap.size Qs m (fun j => ((d (σ j) : Nat) : Int))) :
    Calls Tryz.prog 100 #[.pointer (some ⟨g, 0, none⟩), .slice P m cp, .slice Qs m cq] w (NamedPost w X m d σ) := by
  have hd := hO.dips
  have hn := r.small.2.1
  have hmn : m ≤ n := by
    have := pigeon n m (fun _ => true) d (fun i hi => ⟨(hd.is i hi).1, rfl⟩) hd.inj
    exact Nat.le_trans this (cnt_to _ _)
  have c0 := r.c0
  have HR := Lib.hid r
  have HO := Lib.hid hO
  unfold NamedPost
  obtain ⟨B, hB⟩ : ∃ B, w.heap.size = B := ⟨_, rfl⟩
  rw [hB] at hT hP hQ ⊢
  have HP := Lib.hid hP
  have HQ := Lib.hid hQ
  have hMk := make_ints0 w n hn
  rw [hB] at hMk
  obtain ⟨w1, hw1⟩ : ∃ w1, w.alloc (.cells (icells (fun _ => 0) n).toArray 3) = w1 := ⟨_, rfl⟩
  have z1 : w1.heap.size = B + 1 := by rw [← hw1, size_alloc, hB]
  have k1 : Below B w w1 := by rw [← hw1, ← hB]; exact (Below.refl _ _).alloc (Nat.le_refl _) _
  have l1 : Lies w1 B 3 (icells (fun _ => 0) n) := by rw [← hw1, ← hB]; exact lies_new w _ _
  rw [hw1] at hMk
  clear r hO hP hQ hd hw1
  go_enter Tryz.func100, Tryz.ntmps100
  go_wp2_with fail
  go_loopw [23] (fun s wr => ∃ k : Nat, k ≤ m ∧ s = .int .i64 (k : Int) ∧ Hid (∃ U, Lies wr B 3 (icells U n) ∧ ∀ j, j < k → U (d j) = ((j : Nat) : Int)) ∧ Below B w wr ∧ wr.heap.size = B + 1) (fun s _ => m - (intOf s).toNat)
  case atStart => exact ⟨0, Nat.zero_le _, rfl, Lib.hid ⟨_, l1, fun j hj => absurd hj (Nat.not_lt_zero j)⟩, k1, z1⟩
  case round =>
    clear l1 k1 z1 hMk
    obtain ⟨k, hk, rfl, hU, hb, hz⟩ := hrel
    by_cases hlt : k < m
    · have hltk : (k : Int) < (m : Int) := by omega
      obtain ⟨U, hL, hj⟩ := hU.out
      obtain ⟨ad, rfl, _, hc0, _⟩ := HP.out.below hb k hlt
      have hc : wr.cell? (ad.add k) = some (.int .i64 ((d k : Nat) : Int)) := hc0
      clear hc0
      have hdn := (HO.out.dips.is k hlt).1
      have hcell : wr.cell? ⟨B, d k, none⟩ = some (.int .i64 (U (d k))) := by
        rw [hL.cell]
        exact icells_at _ _ _ hdn
      have hfree := hL.free (d k)
      have HL2 : Hid (∃ U', Lies (wr.setCell ⟨B, d k, none⟩ (.int .i64 (k : Int))) B 3 (icells U' n) ∧ ∀ j, j < k + 1 → U' (d j) = ((j : Nat) : Int)) := Lib.hid ⟨putI U (d k) (k : Int), by
        have := hL.put (d k) (.int .i64 (k : Int))
        rw [icells_put] at this
        exact this, fun j hjk => by
        by_cases e : j = k
        · rw [e, putI_at]
        · rw [putI_off _ (fun e' => e (HO.out.dips.inj j k (by omega) hlt e'))]
          exact hj j (by omega)⟩
      have HB2 : Below B w (wr.setCell ⟨B, d k, none⟩ (.int .i64 (k : Int))) := hb.setCell (p := ⟨B, d k, none⟩) (Nat.le_refl _) _
      have hz2 : (wr.setCell ⟨B, d k, none⟩ (.int .i64 (k : Int))).heap.size = B + 1 := by simp [World.setCell]; exact hz
      have hdi : ((d k : Nat) : Int) < (n : Int) := by omega
      generalize d k = dk at hc hcell hfree HL2 HB2 hdi hz2
      generalize U dk = uk at hcell
      clear hL hj hU hdn
      go_wp2_with fail
      go_roundw
      case rel => exact ⟨k + 1, by omega, by go_num, HL2, HB2, hz2⟩
      case measure => simp [intOf]; omega
    · have hkm : k = m := by omega
      have hge : ¬ (k : Int) < (m : Int) := by omega
      rw [hkm] at hU
      clear hkm
      have hMk := make_ints0 wr m (by omega)
      rw [hz] at hMk
      obtain ⟨w2, hw2⟩ : ∃ w2, wr.alloc (.cells (icells (fun _ => 0) m).toArray 3) = w2 := ⟨_, rfl⟩
      have k2 : Below (B + 1) wr w2 := by rw [← hw2, ← hz]; exact (Below.refl _ _).alloc (Nat.le_refl _) _
      have l2 : Lies w2 (B + 1) 3 (icells (fun _ => 0) m) := by rw [← hw2, ← hz]; exact lies_new wr _ _
      rw [hw2] at hMk
      obtain ⟨U, hL0, hj⟩ := hU.out
      have hL := hL0.below k2 (by omega)
      have HJ := Lib.hid hj
      have hb2 : Below B w w2 := hb.trans (k2.mono (by omega))
      have z2 : w2.heap.size = B + 2 := by rw [← hw2, size_alloc, hz]
      clear hw2 hL0 hj hU hb hz
      go_wp2_with fail
      go_loopw [12, 38] (fun su s wq => ∃ i : Nat, i ≤ m ∧ s = .int .i64 (i : Int) ∧ su = .int .i64 ((unl X m d σ i : Nat) : Int) ∧ Hid (∃ Yc, Lies wq (B + 1) 3 (icells Yc m) ∧ ∀ j, j < i → Yc (σ j) = ((unl X m d σ (j + 1) - 1 : Nat) : Int)) ∧ Hid (Lies wq B 3 (icells U n)) ∧ Below B w wq ∧ wq.heap.size = B + 2) (fun _ s _ => m - (intOf s).toNat)
      case atStart => exact ⟨0, Nat.zero_le _, rfl, rfl, Lib.hid ⟨_, l2, fun j hj => absurd hj (Nat.not_lt_zero j)⟩, Lib.hid hL, hb2, z2⟩
      case round =>
        clear l2 hL hb2 z2 hMk k2
        rename World => wq
        obtain ⟨i, hi, rfl, rfl, hY, hLq, hbq, hzq⟩ := hrel
        by_cases hlt2 : i < m
        · have hlti : (i : Int) < (m : Int) := by omega
          obtain ⟨Yc, hLY, hYj⟩ := hY.out
          have hσ := HO.out.lt i hlt2
          have hdi := (HO.out.dips.is (σ i) hσ).1
          obtain ⟨qd, rfl, _, hc0, _⟩ := HQ.out.below hbq i hlt2
          have hcp : wq.cell? (qd.add i) = some (.int .i64 ((d (σ i) : Nat) : Int)) := hc0
          have hc : ∀ t, (wq.drewN t).cell? (qd.add i) = some (.int .i64 ((d (σ i) : Nat) : Int)) := fun _ => hc0
          clear hc0
          have hat : ∀ t, (wq.drewN t).cell? ⟨B, d (σ i), none⟩ = some (.int .i64 ((σ i : Nat) : Int)) := fun t => by
            have := hLq.out.cell (d (σ i))
            rw [icells_at _ _ _ hdi, HJ.out (σ i) hσ] at this
            exact this
          have hdn : ((d (σ i) : Nat) : Int) < (n : Int) := by omega
          have hσi : ((σ i : Nat) : Int) < (m : Int) := by omega
          have hcell : ∀ t, (wq.drewN t).cell? ⟨B + 1, σ i, none⟩ = some (.int .i64 (Yc (σ i))) := fun t => by
            have := hLY.cell (σ i)
            rw [icells_at _ _ _ hσ] at this
            exact this
          have hfree : ∀ t, (wq.drewN t).frozen? ⟨B + 1, σ i, none⟩ = false := fun t => hLY.free (σ i)
          have hup := unl_pos (X := X) (m := m) (d := d) (σ := σ) (show 0 < i + 1 by omega)
          have hto := unl_to (X := X) (m := m) (d := d) (σ := σ) (i + 1)
          have hto0 := unl_to (X := X) (m := m) (d := d) (σ := σ) i
          obtain ⟨u, hu⟩ : ∃ u, unl X m d σ i = u := ⟨_, rfl⟩
          obtain ⟨u1, hu1⟩ : ∃ u1, unl X m d σ (i + 1) = u1 := ⟨_, rfl⟩
          have e0 : unl X m d σ (i + 1) = unl X m d σ i + (if i = 0 ∨ ¬ Alike X m d (σ (i - 1)) (σ i) then 1 else 0) := rfl
          rw [hu] at e0 hto0
          rw [hu1] at e0 hup hto
          obtain ⟨y1, hy1⟩ : ∃ y1, u1 - 1 = y1 := ⟨_, rfl⟩
          have hwy : IntKind.i64.wrap ((u1 : Int) - 1) = (y1 : Int) := by rw [IntWalk.i64_in _ (by omega)]; omega
          have HY2 : ∀ t, Hid (∃ Yc', Lies ((wq.drewN t).setCell ⟨B + 1, σ i, none⟩ (.int .i64 (y1 : Int))) (B + 1) 3 (icells Yc' m) ∧ ∀ j, j < i + 1 → Yc' (σ j) = ((unl X m d σ (j + 1) - 1 : Nat) : Int)) := fun t => Lib.hid ⟨putI Yc (σ i) (y1 : Int), by
            have := (hLY.drewN t).put (σ i) (.int .i64 (y1 : Int))
            rw [icells_put] at this
            exact this, fun j hji => by
            by_cases e : j = i
            · rw [e, putI_at, hu1, hy1]
            · rw [putI_off _ (fun e' => e (HO.out.inj j i (by omega) hlt2 e'))]
              exact hYj j (by omega)⟩
          have HL2 : ∀ t, Hid (Lies ((wq.drewN t).setCell ⟨B + 1, σ i, none⟩ (.int .i64 (y1 : Int))) B 3 (icells U n)) := fun t => Lib.hid ((hLq.out.drewN t).far (p := ⟨B + 1, σ i, none⟩) (by show B ≠ B + 1; omega) _)
          have HB2 : ∀ t, Below B w ((wq.drewN t).setCell ⟨B + 1, σ i, none⟩ (.int .i64 (y1 : Int))) := fun t => (below_drewN' hbq t).setCell (p := ⟨B + 1, σ i, none⟩) (by show B ≤ B + 1; omega) _
          have hz2 : ∀ t, ((wq.drewN t).setCell ⟨B + 1, σ i, none⟩ (.int .i64 (y1 : Int))).heap.size = B + 2 := fun t => by simp [World.setCell]; exact hzq
          rcases Nat.eq_zero_or_pos i with h0 | h0
          · subst h0
            rw [if_pos (.inl rfl)] at e0
            have hu0 : u = 0 := hu.symm
            subst hu0
            obtain rfl : u1 = 1 := by omega
            obtain rfl : y1 = 0 := by omega
            rw [addr_add0] at hcp
            have hc' : ∀ t, (wq.drewN t).cell? qd = some (.int .i64 ((d (σ 0) : Nat) : Int)) := fun t => by
              have := hc t
              rw [addr_add0] at this
              exact this
            have HU1 := Lib.hid hu1
            rw [hu]
            clear hup hto hto0 e0 hu hu1 hy1 hc
            generalize Yc (σ 0) = yc at hcell
            generalize d (σ 0) = di at *
            generalize σ 0 = si at *
            go_wp2_with fail
            go_quiet (fail)
            go_wp2_with fail
            go_roundw
            case rel => exact ⟨1, by omega, rfl, by rw [HU1.out]; rfl, HY2 _, HL2 _, HB2 _, hz2 _⟩
            case measure => simp [intOf]; omega
          · obtain ⟨i0, rfl⟩ : ∃ i0, i = i0 + 1 := ⟨i - 1, by omega⟩
            rw [Nat.add_sub_cancel] at e0
            have hσ0 := HO.out.lt i0 (by omega)
            obtain ⟨qd', eq', _, hcq, _⟩ := HQ.out.below hbq i0 (by omega)
            cases eq'
            have hcq' : ∀ t, (wq.drewN t).cell? (qd.add i0) = some (.int .i64 ((d (σ i0) : Nat) : Int)) := fun _ => hcq
            have hdi0 := (HO.out.dips.is (σ i0) hσ0).1
            have hat0 : ∀ t, (wq.drewN t).cell? ⟨B, d (σ i0), none⟩ = some (.int .i64 ((σ i0 : Nat) : Int)) := fun t => by
              have := hLq.out.cell (d (σ i0))
              rw [icells_at _ _ _ hdi0, HJ.out (σ i0) hσ0] at this
              exact this
            have hdn0 : ((d (σ i0) : Nat) : Int) < (n : Int) := by omega
            have hA := fun q => alike_any (HR.out.below (hbq.trans (below_drewN' (Below.refl _ _) q)) hT) HO.out.dips B P cp (HP.out.below (hbq.trans (below_drewN' (Below.refl _ _) q))) hσ0 hσ
            have HA : ∀ q, Hid (Calls Tryz.prog 119 #[.pointer (some ⟨g, 0, none⟩), .slice P m cp, .int .i64 ((σ i0 : Nat) : Int), .int .i64 ((σ (i0 + 1) : Nat) : Int)] (wq.drewN q) fun e w' => e = .returned (.bool (decide (Alike X m d (σ i0) (σ (i0 + 1))))) ∧ ∃ j, w' = wq.drewN j) :=
              fun q => Lib.hid ((hA q).mono fun _ _ hh => by
                obtain ⟨h1, j, h2⟩ := hh
                exact ⟨h1, q + j, h2.trans (World.drewN_drewN _ _ _)⟩)
            obtain ⟨i1, hi1⟩ : ∃ i1, i0 + 1 = i1 := ⟨_, rfl⟩
            have hwi : IntKind.i64.wrap ((i1 : Int) - 1) = (i0 : Int) := by rw [IntWalk.i64_in _ (by omega)]; omega
            have hi0m : (i0 : Int) < (m : Int) := by omega
            have hne0 : ((i1 : Int) == 0) = false := by rw [beq_eq_false_iff_ne]; omega
            have hne1 : ¬ (i1 : Int) = 0 := by omega
            have hne2 : ¬ i1 = 0 := by omega
            have HU1 := Lib.hid hu1
            rw [hi1] at hc hcp hat hdn hσi hcell hfree hlti HY2 HL2 HB2 hz2 HA HU1 hlt2
            have HI1 := Lib.hid hi1
            by_cases hal : Alike X m d (σ i0) (σ (i0 + 1))
            · rw [hi1] at hal
              have HA2 : ∀ q, Hid (Calls Tryz.prog 119 #[.pointer (some ⟨g, 0, none⟩), .slice P m cp, .int .i64 ((σ i0 : Nat) : Int), .int .i64 ((σ i1 : Nat) : Int)] (wq.drewN q) fun e w' => e = .returned (.bool true) ∧ ∃ j, w' = wq.drewN j) := fun q => by
                have := (HA q).out
                rw [decide_eq_true hal] at this
                exact Lib.hid this
              obtain rfl : u1 = u := by
                rw [hi1, if_neg (by rintro (e | e); exact absurd e hne2; exact e hal)] at e0
                exact e0
              rw [hi1] at hu ⊢
              rw [hu]
              clear hup hto hto0 e0 hu hu1 hy1 hA HA hal hcq hi1 hσ hσ0 hdi hdi0 hY hLq hLY hYj
              generalize Yc (σ i1) = yc at hcell
              generalize d (σ i1) = di at *
              generalize d (σ i0) = dj at *
              generalize σ i1 = si at *
              generalize σ i0 = sj at *
              go_wp2_with fail
              go_quiet ((go_at_call 119; with_reducible exact (HA2 _).out))
              go_wp2_with fail
              go_roundw
              case rel => exact ⟨i1 + 1, by omega, by go_num, by rw [HU1.out], HY2 _, HL2 _, HB2 _, hz2 _⟩
              case measure => simp [intOf]; omega
            · rw [hi1] at hal
              have HA2 : ∀ q, Hid (Calls Tryz.prog 119 #[.pointer (some ⟨g, 0, none⟩), .slice P m cp, .int .i64 ((σ i0 : Nat) : Int), .int .i64 ((σ i1 : Nat) : Int)] (wq.drewN q) fun e w' => e = .returned (.bool false) ∧ ∃ j, w' = wq.drewN j) := fun q => by
                have := (HA q).out
                rw [decide_eq_false hal] at this
                exact Lib.hid this
              have e1 : u1 = u + 1 := by
                rw [hi1, if_pos (.inr hal)] at e0
                exact e0
              have hwu : IntKind.i64.wrap ((u : Int) + 1) = (u1 : Int) := by rw [IntWalk.i64_in _ (by omega)]; omega
              rw [hi1] at hu ⊢
              rw [hu]
              clear hup hto hto0 e0 hu hu1 hy1 hA HA hal hcq hi1 hσ hσ0 hdi hdi0 hY hLq hLY hYj e1
              generalize Yc (σ i1) = yc at hcell
              generalize d (σ i1) = di at *
              generalize d (σ i0) = dj at *
              generalize σ i1 = si at *
              generalize σ i0 = sj at *
              go_wp2_with fail
              go_quiet ((go_at_call 119; with_reducible exact (HA2 _).out))
              go_wp2_with fail
              go_roundw
              case rel => exact ⟨i1 + 1, by omega, by go_num, by rw [HU1.out], HY2 _, HL2 _, HB2 _, hz2 _⟩
              case measure => simp [intOf]; omega
        · have him : i = m := by omega
          have hge2 : ¬ (i : Int) < (m : Int) := by omega
          have HF : Hid (∃ Y, Names X m d σ Y ∧ wq.ownsRow B 3 1 (.slice (some ⟨B + 1, 0, none⟩) m m) m (icells (xi Y) m) ∧ Below B w wq) := Lib.hid (by
            obtain ⟨Yc, hLY, hYj⟩ := hY.out
            rw [him] at hYj
            have hYn : ∀ k, k < m → Yc k = (((Yc k).toNat : Nat) : Int) := fun k hk => by
              obtain ⟨j, hj, rfl⟩ := HO.out.onto hk
              rw [hYj j hj]
              rfl
            refine ⟨fun k => (Yc k).toNat, fun j hj => ?_, ?_, hbq⟩
            · show (Yc (σ j)).toNat = _
              rw [hYj j hj, Int.toNat_natCast]
            · rw [← icells_congr (U := Yc) (U' := xi fun k => (Yc k).toNat) hYn]
              exact owns_lies hLY (by omega) (by rw [icells_length]) (by unfold maxLen; omega))
          have HU := Lib.hid (show unl X m d σ i = unl X m d σ m by rw [him])
          clear him hY hLq
          generalize unl X m d σ i = ui at *
          go_wp2_with fail
          go_ret2
          obtain ⟨Y, a1, a2, a3⟩ := HF.out
          refine ⟨B + 1, ?_, Y, a1, a2, a3⟩
          rw [← HU.out]
          rfl
end
end Go.Proofs.YtbkdloebbbmkaaaGreat

namespace Go.Proofs.YtbkdloebbbmkaaaGreat

theorem cnt_onto (f : Nat → Bool) : ∀ n c, c < Pl.cnt f n → ∃ j, j < n ∧ f j = true ∧ Pl.cnt f j = c
  | 0, c, h => absurd h (Nat.not_lt_zero c)
  | n + 1, c, h => by
    by_cases hf : f n = true
    · rw [cnt_true hf] at h
      by_cases hc : c = Pl.cnt f n
      · exact ⟨n, Nat.lt_succ_self n, hf, hc.symm⟩
      · obtain ⟨j, h1, h2⟩ := cnt_onto f n c (by omega)
        exact ⟨j, by omega, h2⟩
    · rw [cnt_false (by simpa using hf)] at h
      obtain ⟨j, h1, h2⟩ := cnt_onto f n c h
      exact ⟨j, by omega, h2⟩
section
variable {X : Nat → Nat} {n m : Nat} {D : Nat → Nat}
theorem Dips.many (h : Dips X n m D) : m = Pl.cnt (dip X n) n := by
  have h1 := pigeon n m (dip X n) D h.is h.inj
  have h2 := covered n m (dip X n) D h.all
  omega
/-- picked out of all places in some order: the dips, in that order. -/
theorem picks_dips {Q : Nat → Nat → Prop} {S : Nat → Int} {s : Nat → Nat} {U : Nat → Int} (hs : InOrder n Q S s) (hU : Picks (fun j => dip X n (s j)) s n U) :
    Dips X n (Pl.cnt (fun j => dip X n (s j)) n) (fun c => (U c).toNat) ∧ (∀ c, c < Pl.cnt (fun j => dip X n (s j)) n → U c = (((U c).toNat : Nat) : Int)) ∧
      ∀ i j, i < j → j < Pl.cnt (fun j => dip X n (s j)) n → ¬ Q (U j).toNat (U i).toNat := by
  obtain ⟨_, h1, h2, h3⟩ := hs
  have at_ : ∀ c, c < Pl.cnt (fun j => dip X n (s j)) n → ∃ j, j < n ∧ dip X n (s j) = true ∧ Pl.cnt (fun j => dip X n (s j)) j = c ∧ U c = ((s j : Nat) : Int) := fun c hc => by
    obtain ⟨j, g1, g2, g3⟩ := cnt_onto _ n c hc
    refine ⟨j, g1, g2, g3, ?_⟩
    have := hU j g1 g2
    rw [g3] at this
    exact this
  refine ⟨⟨fun c hc => ?_, fun c c' hc hc' he => ?_, fun p hp hd => ?_⟩, fun c hc => ?_, fun i j hij hj => ?_⟩
  · obtain ⟨j, g1, g2, _, g4⟩ := at_ c hc
    show (U c).toNat < n ∧ dip X n (U c).toNat = true
    rw [g4, Int.toNat_natCast]
    exact ⟨h1 j g1, g2⟩
  · obtain ⟨j, g1, _, g3, g4⟩ := at_ c hc
    obtain ⟨j', g1', _, g3', g4'⟩ := at_ c' hc'
    have he : (U c).toNat = (U c').toNat := he
    rw [g4, g4', Int.toNat_natCast, Int.toNat_natCast] at he
    rw [← g3, ← g3', h2 j j' g1 g1' he]
  · obtain ⟨j, hj, rfl⟩ := inj_onto n s h1 (fun _ _ a b c => h2 _ _ a b c) p hp
    refine ⟨Pl.cnt (fun j => dip X n (s j)) j, Pl.cnt_at_lt (f := fun j => dip X n (s j)) hj hd, ?_⟩
    show (U _).toNat = _
    rw [hU j hj hd, Int.toNat_natCast]
  · obtain ⟨j, _, _, _, g4⟩ := at_ c hc
    rw [g4, Int.toNat_natCast]
  · obtain ⟨a, a1, a2, a3, a4⟩ := at_ i (by omega)
    obtain ⟨b, b1, b2, b3, b4⟩ := at_ j hj
    rw [a4, b4, Int.toNat_natCast, Int.toNat_natCast]
    refine h3 a b ?_ b1
    rcases Nat.lt_or_ge a b with g | g
    · exact g
    · have := Pl.cnt_mono (fun j => dip X n (s j)) g
      omega
/-- the dips as they stand: rising. -/
theorem picks_up {U : Nat → Int} (hU : Picks (dip X n) (fun p => p) n U) : DipsUp X n (Pl.cnt (dip X n) n) (fun c => (U c).toNat) ∧ ∀ c, c < Pl.cnt (dip X n) n → U c = (((U c).toNat : Nat) : Int) := by
  have h := picks_dips (X := X) (n := n) (Q := fun p q => p < q) (S := fun j => ((j : Nat) : Int)) (s := fun j => j) (U := U) ⟨fun _ _ => rfl, fun _ h => h, fun _ _ _ _ e => e, fun i j hij _ h => by
    have h : j < i := h
    omega⟩ hU
  refine ⟨⟨h.1, fun k l hkl hl => ?_⟩, h.2.1⟩
  have h1 : ¬ (U l).toNat < (U k).toNat := h.2.2 k l hkl hl
  have h2 : (U k).toNat ≠ (U l).toNat := fun e => by
    have := h.1.inj k l (Nat.lt_trans hkl hl) hl e
    omega
  show (U k).toNat < (U l).toNat
  omega
/-- the numbers of the dips, in the order of their parts. -/
theorem dipOrd_of {d : Nat → Nat} (hd : DipsUp X n m d) (hD : Dips X n m D) (ho : ∀ i j, i < j → j < m → ¬ Ahead X n 1 (D j) (D i)) : ∃ σ, (∀ j, j < m → D j = d (σ j)) ∧ DipOrd X n m d σ := by
  have hx : ∀ j, ∃ k, j < m → k < m ∧ d k = D j := fun j => by
    by_cases hj : j < m
    · obtain ⟨k, hk, e⟩ := hd.all (D j) (hD.is j hj).1 (hD.is j hj).2
      exact ⟨k, fun _ => ⟨hk, e⟩⟩
    · exact ⟨0, fun h => absurd h hj⟩
  obtain ⟨σ, hσ⟩ := Classical.axiomOfChoice hx
  refine ⟨σ, fun j hj => (hσ j hj).2.symm, hd, fun j hj => (hσ j hj).1, fun i j hi hj he => ?_, fun i j hij hj => ?_⟩
  · refine hD.inj i j hi hj ?_
    rw [← (hσ i hi).2, ← (hσ j hj).2, he]
  · rw [(hσ j hj).2, (hσ i (by omega)).2]
    exact ho i j hij hj
/-- the dips in the order of a list of their numbers. -/
theorem dips_of {d y : Nat → Nat} (hd : Dips X n m d) (hy : ∀ j, j < m → y j < m) (hi : ∀ i j, i < m → j < m → y i = y j → i = j) : Dips X n m (fun j => d (y j)) :=
  ⟨fun k hk => hd.is _ (hy k hk), fun k l hk hl he => hi k l hk hl (hd.inj _ _ (hy k hk) (hy l hl) he), fun p hp hdp => by
    obtain ⟨k, hk, rfl⟩ := hd.all p hp hdp
    obtain ⟨j, hj, rfl⟩ := inj_onto m y hy (fun _ _ a b c => hi _ _ a b c) k hk
    exact ⟨j, hj, rfl⟩⟩
end
end Go.Proofs.YtbkdloebbbmkaaaGreat

namespace Go.Proofs.YtbkdloebbbmkaaaGreat
open Go.RowKit
open Go.Shelf

theorem off_drew (p : Nat → Prop) (w : World) : Off p w w.drew := ⟨rfl, rfl, rfl, Nat.le_refl _, fun _ _ _ => rfl⟩
def mulLays_ren : Go.Shelf.Ren := ⟨fun | 212 => 123 | 263 => 126 | 264 => 127 | n => n, fun | 46 => 38 | 51 => 111 | 146 => 141 | 53 => 70 | 148 => 143 | n => n, fun | n => n⟩
theorem mulLays : Go.Proofs.Lays.n212 Tryz.prog mulLays_ren := {
  mixed := by kernel_rfl
  f212 := Tryz.func123.trans (congrArg some (by kernel_rfl))
  f263 := Tryz.func126.trans (congrArg some (by kernel_rfl))
  f264 := Tryz.func127.trans (congrArg some (by kernel_rfl))
  t46 := Tryz.underlying38
  a46 := Tryz.isAgg38
  z46 := Tryz.sizeOf38
  v46 := Tryz.zeroValue38
  t51 := Tryz.underlying111
  a51 := Tryz.isAgg111
  z51 := Tryz.sizeOf111
  v51 := Tryz.zeroValue111
  t53 := Tryz.underlying70
  a53 := Tryz.isAgg70
  z53 := Tryz.sizeOf70
  v53 := Tryz.zeroValue70
  t146 := Tryz.underlying141
  a146 := Tryz.isAgg141
  z146 := Tryz.sizeOf141
  v146 := Tryz.zeroValue141
  t148 := Tryz.underlying143
  a148 := Tryz.isAgg143
  z148 := Tryz.sizeOf143
  v148 := Tryz.zeroValue143 }
set_option maxRecDepth 100000 in
set_option maxHeartbeats 800000 in
/-- slices.Repeat of one number. -/
theorem repeat_any (xb n cx : Nat) (x : Int) (w : World) (hn : n ≤ 4194304) (hx : Lies w xb 3 [.int .i64 x]) :
    Calls Tryz.prog 104 #[.slice (some ⟨xb, 0, none⟩) 1 cx, .int .i64 (n : Int)] w fun e w' => e = .returned (.slice (some ⟨w.heap.size, 0, none⟩) n n) ∧ Lies w' w.heap.size 3 (icells (fun _ => x) n) ∧ Off (fun q => q ≠ w.heap.size) w w' := by
  have hM := Any.bits_Mul mulLays 1 n (by decide) (by omega) w
  have e1 : 1 * n / 18446744073709551616 = 0 := by rw [Nat.one_mul]; exact Nat.div_eq_of_lt (by omega)
  have e2 : 1 * n % 18446744073709551616 = n := by rw [Nat.one_mul]; exact Nat.mod_eq_of_lt (by omega)
  rw [e1, e2] at hM
  have hM : Calls Tryz.prog 123 #[.int .u64 1, .int .u64 (n : Int)] w fun e w' => e = .returned (.tuple #[.int .u64 0, .int .u64 (n : Int)]) ∧ w' = w := hM
  have hMk := make_ints0 w n hn
  obtain ⟨w1, hw1⟩ : ∃ w1, w.alloc (.cells (icells (fun _ => 0) n).toArray 3) = w1 := ⟨_, rfl⟩
  have l0 : Lies w1 w.heap.size 3 (icells (fun _ => 0) n) := by rw [← hw1]; exact lies_new w 3 _
  have hO1 : Off (fun q => q ≠ w.heap.size) w w1 := by rw [← hw1]; exact Off.grown (World.grownBy_alloc w _ none) (fun k e => by cases e)
  have hxl := hx.lt
  have lx : Lies w1 xb 3 [.int .i64 x] := by rw [← hw1]; exact hx.alloc _
  obtain ⟨g, hg⟩ : ∃ g, w.heap.size = g := ⟨_, rfl⟩
  rw [hw1, hg] at hMk
  rw [hg] at l0 hO1 hxl ⊢
  obtain ⟨w2, hC, l2, hO2⟩ := int_copy (w := w1) (g := g) (n := n) (o := 0) (dm := n) (dc := n) (m := 1) (c := cx) (k := Nat.min 1 n) (V := fun _ => x) (ad := ⟨xb, 0, none⟩) l0 rfl (by rw [Nat.zero_add]; exact Nat.min_le_right _ _) (fun j hj => by
    have hj : j < 1 := Nat.lt_of_lt_of_le hj (Nat.min_le_left _ _)
    obtain rfl : j = 0 := by omega
    exact lx.cell 0)
  obtain ⟨k, hk⟩ : ∃ k, Nat.min 1 n = k := ⟨_, rfl⟩
  rw [hk] at hC l2
  have hk1 : k ≤ 1 ∧ k ≤ n ∧ (0 < n → k = 1) := by
    have h1 := Nat.min_le_left 1 n
    have h2 := Nat.min_le_right 1 n
    have h3 : 0 < n → Nat.min 1 n = 1 := fun h => Nat.min_eq_left h
    rw [hk] at h3
    have h1 : Nat.min 1 n ≤ 1 := h1
    have h2 : Nat.min 1 n ≤ n := h2
    omega
  have HO2 := Lib.hid (hO1.trans hO2)
  have HL2 : Hid (∃ U, Lies w2 g 3 (icells U n) ∧ ∀ j, j < k → U j = x) := Lib.hid ⟨_, l2, fun j hj => by unfold overI; rw [if_pos (by omega)]⟩
  have c1 : IntKind.u64.wrap (1 : Int) = 1 := by decide
  have c2 : IntKind.u64.wrap (n : Int) = (n : Int) := IntWalk.u64_in _ (by omega)
  have c3 : IntKind.i64.wrap (n : Int) = (n : Int) := IntWalk.i64_in _ (by omega)
  have d1 : ¬ (9223372036854775807 : Int) < (n : Int) := by omega
  clear hx l0 hO1 lx l2 hO2 hw1 e1 e2 hk
  go_enter Tryz.func104, Tryz.ntmps104
  go_wp2_with (go_at_call 123; (with_reducible refine hM.mono ?_); rintro e w' ⟨rfl, rfl⟩)
  go_loopw [8] (fun v wr => ∃ k : Nat, k ≤ n ∧ (0 < n → 0 < k) ∧ v = .int .i64 (k : Int) ∧ Hid (∃ U, Lies wr g 3 (icells U n) ∧ ∀ j, j < k → U j = x) ∧ Hid (Off (fun q => q ≠ g) w' wr)) (fun v _ => n - (intOf v).toNat)
  case atStart => exact ⟨k, hk1.2.1, fun h => by have := hk1.2.2 h; omega, rfl, HL2, HO2⟩
  case round =>
    obtain ⟨k, hk, h0, rfl, hL, hO⟩ := hrel
    by_cases hlt : k < n
    · have hltk : (k : Int) < (n : Int) := by omega
      have hk0 := h0 (by omega)
      have hne : n ≠ k := by omega
      have hle : (k : Int) ≤ (n : Int) := by omega
      obtain ⟨U, hU, hx⟩ := hL.out
      obtain ⟨q, hq⟩ : ∃ q, Nat.min k (n - k) = q := ⟨_, rfl⟩
      have hq1 : q ≤ k ∧ q ≤ n - k ∧ 0 < q := by
        have h1 : Nat.min k (n - k) ≤ k := Nat.min_le_left _ _
        have h2 : Nat.min k (n - k) ≤ n - k := Nat.min_le_right _ _
        have h3 : 0 < Nat.min k (n - k) := Nat.lt_min.2 ⟨hk0, by omega⟩
        omega
      obtain ⟨w3, hC3, l3, hO3⟩ := int_copy (w := wr.drew) (g := g) (n := n) (o := k) (dm := n - k) (dc := n - k) (m := k) (c := n) (k := q) (V := U) (ad := ⟨g, 0, none⟩) hU.drew hq.symm (by omega) (fun j hj => by
        rw [Addr.add_mid, Nat.zero_add, hU.drew.cell]
        exact icells_at U n j (by omega))
      have HL3 : Hid (∃ U', Lies w3 g 3 (icells U' n) ∧ ∀ j, j < k + q → U' j = x) := Lib.hid ⟨_, l3, fun j hj => by
        unfold overI
        split
        · exact hx _ (by omega)
        · exact hx _ (by omega)⟩
      have HO3 := Lib.hid ((hO.out.trans (off_drew _ _)).trans hO3)
      have hw : IntKind.i64.wrap ((k : Int) + (q : Int)) = ((k + q : Nat) : Int) := by rw [IntWalk.i64_in _ (by omega)]; omega
      clear hU hx hL hO l3 hO3 hq HL2 HO2
      go_wp2_with fail
      go_region
      go_wp2_with fail
      go_roundw
      case rel => exact ⟨k + q, by omega, fun _ => by omega, rfl, HL3, HO3⟩
      case measure => simp [intOf]; omega
    · obtain rfl : k = n := by omega
      obtain ⟨U, hU, hx⟩ := hL.out
      go_wp2_with fail
      go_ret
      refine ⟨rfl, ?_, hO.out⟩
      rw [icells_congr (U := fun _ => x) (U' := U) (fun j hj => (hx j hj).symm)]
      exact hU
end Go.Proofs.YtbkdloebbbmkaaaGreat

namespace Go.Proofs.YtbkdloebbbmkaaaGreat
open Go.RowKit
/-- as far as i: turned. -/
structure Turned2 (V : Nat → Int) (n i : Nat) (U : Nat → Int) : Prop where
  right : ∀ j, j < i → 0 ≤ V j ∧ V j < (n : Int)
  one : ∀ j k, j < k → k < i → V j ≠ V k
  at_ : ∀ j, j < i → U (V j).toNat = (j : Int)
  rest : ∀ q, q < n → U q = -1 ∨ ∃ j, j < i ∧ V j = (q : Int)
theorem Turned2.step {V : Nat → Int} {n i : Nat} {U : Nat → Int} (h : Turned2 V n i U) {p : Nat} (hp : p < n) (hV : V i = (p : Int)) (hU : U p = -1) : Turned2 V n (i + 1) (putI U p (i : Int)) := by
  have hne : ∀ j, j < i → V j ≠ V i := fun j hj e => by
    have := h.at_ j hj
    rw [e, hV, Int.toNat_natCast, hU] at this
    omega
  refine ⟨fun j hj => ?_, fun j k hjk hk => ?_, fun j hj => ?_, fun q hq => ?_⟩
  · by_cases e : j = i
    · rw [e, hV]; omega
    · exact h.right j (by omega)
  · by_cases e : k = i
    · rw [e]; exact hne j (by omega)
    · exact h.one j k hjk (by omega)
  · by_cases e : j = i
    · rw [e, hV, Int.toNat_natCast, putI_at]
    · have h1 := h.right j (by omega)
      have h2 := hne j (by omega)
      rw [putI_off _ (by rw [hV] at h2; omega)]
      exact h.at_ j (by omega)
  · by_cases e : q = p
    · exact .inr ⟨i, Nat.lt_succ_self i, by rw [hV, e]⟩
    · rw [putI_off _ e]
      rcases h.rest q hq with g | ⟨j, g1, g2⟩
      · exact .inl g
      · exact .inr ⟨j, by omega, g2⟩
set_option maxRecDepth 100000 in
set_option maxHeartbeats 3200000 in
theorem turn_any (A : Option Addr) (n c : Nat) (V : Nat → Int) (w : World) (hn : n ≤ 4194304) (ho : Its w w.heap.size A n V) : Calls Tryz.prog 68 #[.slice A n c] w (TurnPost w n V) := by
  have HO := Lib.hid ho
  unfold TurnPost
  obtain ⟨B, hB⟩ : ∃ B, w.heap.size = B := ⟨_, rfl⟩
  rw [hB] at HO ⊢
  obtain ⟨w1, hw1⟩ : ∃ w1, w.alloc (.cells #[.int .i64 (-1)] 3) = w1 := ⟨_, rfl⟩
  have z1 : w1.heap.size = B + 1 := by rw [← hw1, size_alloc, hB]
  have k1 : Below B w w1 := by rw [← hw1, ← hB]; exact (Below.refl _ _).alloc (Nat.le_refl _) _
  have l1 : Lies w1 B 3 [.int .i64 (-1)] := by rw [← hw1, ← hB]; exact lies_new w _ _
  have HRep := Lib.hid (repeat_any B n 1 (-1) w1 hn l1)
  rw [z1] at HRep
  clear ho l1
  go_enter Tryz.func68, Tryz.ntmps68
  go_wp2_with fail
  refine HRep.out.mono ?_
  rintro e w2 ⟨rfl, l2, o2⟩
  have k2 : Below B w w2 := k1.trans (o2.below (by omega) (fun q hq => by omega))
  clear HRep o2
  go_wp2_with fail
  go_loopw [13] (fun s wr => ∃ i : Nat, i ≤ n ∧ s = .int .i64 (i : Int) ∧ Hid (∃ U, Lies wr (B + 1) 3 (icells U n) ∧ Turned2 V n i U) ∧ Below B w wr) (fun s _ => n - (intOf s).toNat)
  case atStart => exact ⟨0, Nat.zero_le _, rfl, Lib.hid ⟨_, l2, ⟨fun j hj => absurd hj (Nat.not_lt_zero j), fun j k _ hk => absurd hk (Nat.not_lt_zero k), fun j hj => absurd hj (Nat.not_lt_zero j), fun _ _ => .inl rfl⟩⟩, k2⟩
  case round =>
    clear l2 k2
    obtain ⟨i, hi, rfl, hU, hb⟩ := hrel
    by_cases hlt : i < n
    · have hlti : (i : Int) < (n : Int) := by omega
      obtain ⟨U, hL, hT⟩ := hU.out
      obtain ⟨ad, rfl, _, hc, _⟩ := HO.out.below hb i hlt
      obtain ⟨v, hv⟩ : ∃ v, V i = v := ⟨_, rfl⟩
      rw [hv] at hc
      by_cases hin : 0 ≤ v ∧ v < (n : Int)
      · obtain ⟨p, rfl⟩ : ∃ p : Nat, v = (p : Int) := ⟨v.toNat, by omega⟩
        have hpn : p < n := by omega
        have hpn1 : (p : Int) < (n : Int) := by omega
        have hpn2 : ¬ (n : Int) ≤ (p : Int) := by omega
        have hcell : wr.cell? ⟨B + 1, p, none⟩ = some (.int .i64 (U p)) := by
          rw [hL.cell]
          exact icells_at _ _ _ hpn
        have hfree := hL.free p
        by_cases hU1 : U p = -1
        · have HU2 : Hid (∃ U', Lies (wr.setCell ⟨B + 1, p, none⟩ (.int .i64 (i : Int))) (B + 1) 3 (icells U' n) ∧ Turned2 V n (i + 1) U') := Lib.hid ⟨putI U p (i : Int), by
            have := hL.put p (.int .i64 (i : Int))
            rw [icells_put] at this
            exact this, hT.step hpn hv hU1⟩
          have HB2 : Below B w (wr.setCell ⟨B + 1, p, none⟩ (.int .i64 (i : Int))) := hb.setCell (p := ⟨B + 1, p, none⟩) (by show B ≤ B + 1; omega) _
          rw [hU1] at hcell
          clear hU hL hT hv hU1
          go_wp2_with fail
          go_roundw
          case rel => exact ⟨i + 1, by omega, by go_num, HU2, HB2⟩
          case measure => simp [intOf]; omega
        · have HN : Hid (¬ IsPerm V n) := Lib.hid fun hP => by
            rcases hT.rest p hpn with g | ⟨j, g1, g2⟩
            · exact hU1 g
            · exact hP.2 j i g1 hlt (by rw [g2, hv])
          have hb1 : (U p != -1) = true := by rw [bne_iff_ne]; exact hU1
          obtain ⟨x, hx⟩ : ∃ x, U p = x := ⟨_, rfl⟩
          rw [hx] at hcell hb1 hU1
          clear hU hL hT hv hx
          go_wp2_with fail
          go_ret2
          exact ⟨fun h => absurd h HN.out, fun _ => ⟨none, 0, rfl⟩, hb⟩
      · have HN : Hid (¬ IsPerm V n) := Lib.hid fun hP => hin (by rw [← hv]; exact hP.1 i hlt)
        clear hU hL hT hv
        by_cases h0 : v < 0
        · have d0 : decide (v < 0) = true := decide_eq_true h0
          go_wp2_with fail
          go_ret2
          exact ⟨fun h => absurd h HN.out, fun _ => ⟨none, 0, rfl⟩, hb⟩
        · have d0 : decide (v < 0) = false := decide_eq_false h0
          have d1 : decide ((n : Int) ≤ v) = true := decide_eq_true (by omega)
          have d2 : (n : Int) ≤ v := by omega
          have d3 : 0 ≤ v := by omega
          go_wp2_with fail
          go_ret2
          exact ⟨fun h => absurd h HN.out, fun _ => ⟨none, 0, rfl⟩, hb⟩
    · have hin : i = n := by omega
      have hge : ¬ (i : Int) < (n : Int) := by omega
      rw [hin] at hU
      obtain ⟨U, hL, hT⟩ := hU.out
      have HP : Hid (IsPerm V n) := Lib.hid ⟨hT.right, hT.one⟩
      have HF : Hid (Turns V U n ∧ ItsR wr (some ⟨B + 1, 0, none⟩) n n U) := Lib.hid ⟨hT.at_, (fun e => by cases e), Nat.le_refl _, by unfold maxLen; omega, fun k hk => ⟨_, rfl, hL.lt, by
        rw [Addr.add_mid, Nat.zero_add, hL.cell]
        exact icells_at _ _ _ hk, by
        rcases hT.rest k hk with g | ⟨j, g1, g2⟩
        · rw [g]; omega
        · have := hT.at_ j g1
          rw [g2, Int.toNat_natCast] at this
          rw [this]
          omega⟩⟩
      clear hin hU hL hT
      go_wp2_with fail
      go_ret2
      exact ⟨fun _ => ⟨_, n, rfl, U, HF.out.1, HF.out.2⟩, fun h => absurd HP.out h, hb⟩
end Go.Proofs.YtbkdloebbbmkaaaGreat

namespace Go.Proofs.YtbkdloebbbmkaaaGreat
open Go.RowKit Go.Shelf

attribute [local go_sem] Oper.semAt_some

/-- nothing has turned but the count of draws. -/
structure Still (A A' : World) : Prop where
  heap : A'.heap = A.heap
  os : A'.os = A.os
  tape : A'.tape = A.tape
  output : A'.output = A.output
theorem Still.below {A A' : World} (h : Still A A') (B : Nat) : Below B A A' := ⟨h.os, h.tape, h.output, by rw [h.heap]; exact Nat.le_refl _, fun k _ => by rw [h.heap]⟩
theorem Still.cell {A A' : World} (h : Still A A') (p : Addr) : A'.cell? p = A.cell? p := World.cell?_of_block (by rw [h.heap])
theorem still_drew (w : World) : Still w w.drew := ⟨rfl, rfl, rfl, rfl⟩
/-- all cells of a slice hold ints. -/
def IntsAt (w : World) (A : Option Addr) (n : Nat) : Prop := ∀ j, j < n → ∃ (ad : Addr) (v : Int), A = some ad ∧ w.cell? (ad.add j) = some (.int .i64 v)
/-- the i-th one from behind: its place, what lies there. -/
def BackOk (A : Option Addr) (n i : Nat) (x : Nat × Int) (w : World) : Prop := x.1 + i + 1 = n ∧ ∃ ad : Addr, A = some ad ∧ w.cell? (ad.add x.1) = some (.int .i64 x.2)

set_option maxRecDepth 100000 in
theorem backward_any (A : Option Addr) (n c : Nat) (w : World) :
    Calls Tryz.prog 33 #[.slice A n c] w fun e w' => e = .returned (.func (.func 52) #[] #[.pointer (some ⟨w.heap.size, 0, none⟩)]) ∧ w' = w.alloc (.cells #[.slice A n c] 22) := by
  go_enter Tryz.func33, Tryz.ntmps33
  go_wp2_with fail
  go_ret
  exact ⟨rfl, rfl⟩

set_option maxRecDepth 100000 in
set_option maxHeartbeats 1600000 in
theorem backward_gives (A : Option Addr) (n c b1 : Nat) (w : World) (hn : n ≤ 9223372036854775807) (h1 : b1 < w.heap.size) (c1 : w.cell? ⟨b1, 0, none⟩ = some (.slice A n c)) (hI : IntsAt w A n) :
    Gives Tryz.prog 52 #[.pointer (some ⟨b1, 0, none⟩)] (fun x : Nat × Int => #[.int .i64 (x.1 : Int), .int .i64 x.2]) (BackOk A n) n Still
      (fun A1 A2 => A2.heap[b1]? = A1.heap[b1]? ∧ (IntsAt A1 A n → IntsAt A2 A n)) w := by
  intro l J Jx W hW _ hJ hJx hY h0
  have C1 := (hW.cell (p := ⟨b1, 0, none⟩) h1).trans c1
  have HI : Hid (IntsAt W A n) := Lib.hid fun j hj => by
    obtain ⟨ad, v, e, hc⟩ := hI j hj
    have hlt := cell_in hc
    exact ⟨ad, v, e, (hW.cell hlt).trans hc⟩
  have HY := Lib.hid hY
  have HJ := Lib.hid hJ
  have HJx := Lib.hid hJx
  have hz : IntKind.i64.wrap ((n : Int) - 1) = (n : Int) - 1 := IntWalk.i64_in _ (by omega)
  clear hY hJ hJx c1 hW h1 hI
  refine (callsIn_wide (n := 0)).1 ?_
  refine callsIn_of_wp Tryz.func52 rfl trivial ?_ rfl
  simp only [Tryz.ntmps52, List.size_toArray, List.length_cons, List.length_nil, Nat.reduceAdd, Nat.reduceSub, Array.replicate_succ, Array.replicate_zero, List.push_toArray, List.append_toArray, List.nil_append, List.cons_append]
  gi_wp2
  gi_loopw [3] (fun i wr => ∃ (m : Nat) (z : Int), m ≤ n ∧ z + 1 = (m : Int) ∧ i = .int .i64 z ∧ Hid (J (n - m) wr) ∧ wr.cell? ⟨b1, 0, none⟩ = some (.slice A n c) ∧ Hid (IntsAt wr A n)) (fun i _ => (intOf i + 1).toNat)
  case atStart => exact ⟨n, (n : Int) - 1, Nat.le_refl _, by omega, rfl, Lib.hid (by rw [Nat.sub_self]; exact h0), C1, HI⟩
  case round =>
    clear C1 HI
    obtain ⟨m, z, hm, hzm, rfl, hJs, C1, HIs⟩ := hrel
    rcases m with _ | q
    · obtain rfl : z = -1 := by omega
      gi_wp2
      go_end0
      exact ⟨⟨_, rfl⟩, .inl hJs.out⟩
    · obtain rfl : z = (q : Int) := by omega
      have hge : decide ((0 : Int) ≤ (q : Int)) = true := by simp
      have hqn : (q : Int) < (n : Int) := by omega
      obtain ⟨ad, v, rfl, hc⟩ := HIs.out q (by omega)
      have hw : IntKind.i64.wrap ((q : Int) - 1) = (q : Int) - 1 := IntWalk.i64_in _ (by omega)
      have hy0 := HY.out (n - (q + 1)) (q, v) wr (by omega) ⟨by show q + (n - (q + 1)) + 1 = n; omega, ad, rfl, hc⟩ hJs.out
      rw [show n - (q + 1) + 1 = n - q by omega] at hy0
      obtain ⟨fn, tmps, assign, body, hy, hR⟩ := hy0
      clear hzm hJs
      gi_wp2
      refine ⟨rfl, hR.mono ?_⟩
      rintro e W3 (⟨rfl, hJ3, hk1, hk2⟩ | ⟨rfl, hJx3, _⟩)
      · have C13 : W3.cell? ⟨b1, 0, none⟩ = some (.slice (some ad) n c) := (World.cell?_of_block (w := wr) (a := ⟨b1, 0, none⟩) hk1).trans C1
        have HJ3 := Lib.hid hJ3
        have HI3 := Lib.hid (hk2 HIs.out)
        clear hk1 hk2 hJ3 hy hR HIs
        gi_wp2
        go_roundw
        case rel => exact ⟨q, (q : Int) - 1, by omega, by omega, rfl, HJ3, C13, HI3⟩
        case measure => simp [intOf]
      · gi_wp2
        refine bodyPost_ret (results_none rfl _ _ _) rfl ?_
        exact ⟨⟨_, rfl⟩, .inr hJx3⟩
end Go.Proofs.YtbkdloebbbmkaaaGreat

namespace Go.Proofs.YtbkdloebbbmkaaaGreat
open Go.RowKit

attribute [local go_sem] Oper.semAt_some

/-- what a round must leave as it was: the slice's cell, the loop's own two blocks; and the row's cells are ints still. -/
def RoundKeeps (A : Option Addr) (n b1 z : Nat) (W W' : World) : Prop := Off (fun k => k = b1 ∨ k = z ∨ k = z + 1) W W' ∧ IntsAt W' A n
theorem back_law {g : Operand} {ps : Array Tmp} {assign body : Code} {Q : Exit → Act → World → Prop} {a : Act} {w : World} {nn z : Nat}
    (A : Option Addr) (n c b1 : Nat) (hz : w.heap.size = z) (hn : n ≤ 9223372036854775807) (h1 : b1 < z) (c1 : w.cell? ⟨b1, 0, none⟩ = some (.slice A n c)) (hI0 : IntsAt w A n)
    (hg : a.eval g = .func (.func 52) #[] #[.pointer (some ⟨b1, 0, none⟩)]) (hps : ps.size = 2)
    (I : Nat → World → Prop) (hI : ∀ i A1 A2, I i A1 → A1.grownBy A2 (some (z + 1)) → I i A2) (h0 : I 0 w) (a₁ : Nat × Int → Act)
    (hassign : ∀ (l : Nat) (x : Nat × Int) (W : World) (K : Act → World → Prop), K (a₁ x) W →
      assign.wpIn (Fence.wide.inRound l) 0 Tryz.prog (Exit.then K (fun _ _ _ => False)) { tmps := (ps.zip #[.int .i64 (x.1 : Int), .int .i64 x.2]).foldl (fun t (p, v) => t.setIfInBounds p v) a.tmps, defers := [] } W)
    (hbody : ∀ (l i : Nat) (x : Nat × Int) (W : World), z + 2 ≤ W.heap.size → i < n → BackOk A n i x W → I i W →
      body.wpIn (Fence.wide.inRound l) 0 Tryz.prog (roundOut (RoundKeeps A n b1 z) (I (i + 1)) (fun _ _ => False) W) (a₁ x) W)
    (hdone : ∀ (D : Nat) (W : World), z ≤ D → I n W → W.heap[D]? = some (.deferred (some [])) → Q .normal { a with defers := { target := .collected D, args := #[] } :: a.defers } W) :
    (Code.rangeFunc g ps assign body).wpIn Fence.wide nn Tryz.prog Q a w := by
  have hG := backward_gives A n c b1 w hn (by omega) c1 hI0
  have hlo : ∀ ad, A = some ad → 0 < n → ad.block < z := fun ad e hn0 => by
    obtain ⟨ad', v, e', hc⟩ := hI0 0 hn0
    rw [e] at e'
    cases e'
    have := cell_in hc
    rw [add_block] at this
    omega
  refine range_law (gf := 52) (lb := #[.pointer (some ⟨b1, 0, none⟩)]) hg (enters_of Tryz.func52 (by kernel_rfl) rfl) hG (fun _ => hps.symm)
    (RoundKeeps A n b1 z) I (fun _ _ => False) (fun A1 A2 h k _ _ _ => by rw [h.heap]) (fun A1 A2 h k h2 h3 h4 => h.1.block k h4 (by omega)) ?kp ?inv (fun _ _ _ h _ => h.elim) ?ok h0 a₁ hassign ?body ?done (fun _ _ _ _ h _ => h.elim)
  case kp =>
    intro A1 B1 C1 D1 hs g1 g2 g3
    rw [hz] at g1 g3 hs
    have s1 := g1.size
    have s2 := g2.1.size
    refine ⟨(g3.block b1 (by omega) (fun e => by injection e with e; omega)).trans ((g2.1.block b1 (by omega) (.inl rfl)).trans (g1.block b1 (by omega) (fun e => by injection e with e; omega))), fun _ j hj => ?_⟩
    obtain ⟨ad, v, e, hc⟩ := g2.2 j hj
    refine ⟨ad, v, e, (World.cell?_of_block (g3.block _ (cell_in hc) (fun e' => ?_))).trans hc⟩
    injection e' with e'
    have := hlo ad e (by omega)
    rw [add_block] at e'
    omega
  case inv =>
    intro i A1 A2 h g
    rcases g with g | g
    · rw [hz] at g
      exact hI i A1 A2 h g
    · exact hI i A1 A2 h ⟨g.os, g.tape, g.output, by rw [g.heap]; exact Nat.le_refl _, fun k _ _ => by rw [g.heap]⟩
  case ok =>
    rintro i x A1 A2 r ⟨e1, ad, e2, hc⟩ hr h
    refine ⟨e1, ad, e2, (World.cell?_of_block (h.block _ (cell_in hc) (fun e' => ?_))).trans hc⟩
    injection e' with e'
    have := hlo ad e2 (by omega)
    rw [add_block] at e'
    omega
  case body =>
    intro l i x W hs hi hx hIi
    rw [hz] at hs
    exact hbody l i x W hs hi hx hIi
  case done =>
    intro D W hD hIn hk
    rw [hz] at hD
    exact hdone D W hD hIn hk
theorem ints_of_own {w : World} {B n c g : Nat} {U : Nat → Int} (h : w.ownsRow B 3 1 (.slice (some ⟨g, 0, none⟩) n c) n (icells U n)) : IntsAt w (some ⟨g, 0, none⟩) n := fun j hj =>
  ⟨_, U j, rfl, by rw [Addr.add_mid, Nat.zero_add, h.cellAt j (by omega)]; exact icells_at U n j hj⟩
theorem ints_of_its {w : World} {B n : Nat} {A : Option Addr} {U : Nat → Int} (h : Its w B A n U) : IntsAt w A n := fun j hj => by
  obtain ⟨ad, e, _, hc, _⟩ := h j hj
  exact ⟨ad, U j, e, hc⟩
end Go.Proofs.YtbkdloebbbmkaaaGreat

namespace Go.Proofs.YtbkdloebbbmkaaaGreat
open Go.RowKit

/-- the slot that operation i writes. -/
def dstOf (ops : Array Oper) (i : Nat) : Option Tmp := (ops[i]?).bind (·.dst)
/-- those that operation i waits for. -/
def predsOf (ops : Array Oper) (i : Nat) : List Nat :=
  match ops[i]? with
  | some o => (o.after.toList.filter (Region.binds .any)).map (·.on)
  | none => []
/-- each waits for earlier ones alone. -/
def orderedB (ops : Array Oper) : Bool := (List.range ops.size).all fun i => (predsOf ops i).all fun j => decide (j < i)
/-- each writes a slot below size, no two the same. -/
def slotsB (ops : Array Oper) (size : Nat) : Bool :=
  (List.range ops.size).all fun i => ((dstOf ops i).map fun d => decide (d < size)).getD false && (List.range ops.size).all fun j => i == j || dstOf ops i != dstOf ops j
/-- those that have not come up. -/
def leftOf (ops : Array Oper) (listed : Array Bool) : List Nat := (List.range ops.size).filter fun i => !listed.getD i true

theorem ordered_lt {ops : Array Oper} (h : orderedB ops = true) {i j : Nat} (hi : i < ops.size) (hj : j ∈ predsOf ops i) : j < i := by
  unfold orderedB at h
  rw [List.all_eq_true] at h
  have h1 := h i (List.mem_range.2 hi)
  rw [List.all_eq_true] at h1
  simpa using h1 j hj
theorem slots_some {ops : Array Oper} {size : Nat} (h : slotsB ops size = true) {i : Nat} (hi : i < ops.size) : ∃ d, dstOf ops i = some d ∧ d < size := by
  unfold slotsB at h
  rw [List.all_eq_true] at h
  have h1 := h i (List.mem_range.2 hi)
  rw [Bool.and_eq_true] at h1
  cases e : dstOf ops i with
  | none => rw [e] at h1; simp at h1
  | some d => rw [e] at h1; exact ⟨d, rfl, by simpa using h1.1⟩
theorem slots_unlike {ops : Array Oper} {size : Nat} (h : slotsB ops size = true) {i j : Nat} (hi : i < ops.size) (hj : j < ops.size) (hne : i ≠ j) : dstOf ops i ≠ dstOf ops j := by
  unfold slotsB at h
  rw [List.all_eq_true] at h
  have h1 := h i (List.mem_range.2 hi)
  rw [Bool.and_eq_true, List.all_eq_true] at h1
  have h2 := h1.2 j (List.mem_range.2 hj)
  simp only [Bool.or_eq_true, beq_iff_eq, bne_iff_ne] at h2
  exact h2.resolve_left hne
theorem dst_lt {ops : Array Oper} {j d : Nat} (h : dstOf ops j = some d) : j < ops.size := by
  apply Nat.lt_of_not_le
  intro hge
  unfold dstOf at h
  rw [Array.getElem?_eq_none hge] at h
  cases h

theorem not_dst {ops : Array Oper} {d : Nat} (h : ((List.range ops.size).all fun i => dstOf ops i != some d) = true) : ∀ i, dstOf ops i ≠ some d := fun i hi => by
  rw [List.all_eq_true] at h
  have h1 := h i (List.mem_range.2 (dst_lt hi))
  rw [hi] at h1
  simp at h1

theorem mem_preds {ops : Array Oper} {i : Nat} {listed : Array Bool} (hi : i ∈ Region.ready .any ops listed) : ∀ j ∈ predsOf ops i, listed.getD j false = true := by
  intro j hj
  obtain ⟨_, o, ho, hall⟩ := mem_ready.1 hi
  unfold predsOf at hj
  rw [ho] at hj
  obtain ⟨e, he, rfl⟩ := List.mem_map.1 hj
  obtain ⟨he1, he2⟩ := List.mem_filter.1 he
  exact hall e (by simpa using he1) he2
theorem ready_lt {ops : Array Oper} {i : Nat} {listed : Array Bool} (hi : i ∈ Region.ready .any ops listed) : i < ops.size := by
  obtain ⟨_, o, ho, _⟩ := mem_ready.1 hi
  exact (Array.getElem?_eq_some_iff.1 ho).1
/-- where none may come up, all have come up. -/
theorem all_listed {ops : Array Oper} {listed : Array Bool} (hord : orderedB ops = true) (hs : listed.size = ops.size) (hr : Region.ready .any ops listed = []) : ∀ j, j < ops.size → listed.getD j false = true := by
  intro j
  induction j using Nat.strongRecOn with
  | ind j ih =>
    intro hj
    apply Classical.byContradiction
    intro hno
    have hun : listed.getD j true = false := by
      simp only [Array.getD_eq_getD_getElem?, Array.getElem?_eq_getElem (show j < listed.size by omega), Option.getD_some] at hno ⊢
      simpa using hno
    have hmem : j ∈ Region.ready .any ops listed := by
      refine mem_ready.2 ⟨hun, ops[j], Array.getElem?_eq_getElem hj, fun e he hb => ?_⟩
      have hp : e.on ∈ predsOf ops j := by
        unfold predsOf
        rw [Array.getElem?_eq_getElem hj]
        exact List.mem_map.2 ⟨e, List.mem_filter.2 ⟨by simpa using he, hb⟩, rfl⟩
      have hlt := ordered_lt hord hj hp
      exact ih e.on hlt (by omega)
    rw [hr] at hmem
    cases hmem
theorem left_less {ops : Array Oper} {listed : Array Bool} {i : Nat} (hi : i ∈ Region.ready .any ops listed) (hs : listed.size = ops.size) : (leftOf ops (listed.setIfInBounds i true)).length < (leftOf ops listed).length := by
  have hlt := ready_lt hi
  have hun := (mem_ready.1 hi).1
  have e : leftOf ops (listed.setIfInBounds i true) = (leftOf ops listed).filter (fun k => decide (k ≠ i)) := by
    unfold leftOf
    rw [List.filter_filter]
    apply List.filter_congr
    intro k _
    by_cases hk : k = i
    · subst hk
      have : (listed.setIfInBounds k true).getD k true = true := by
        simp [Array.getD_eq_getD_getElem?, show k < listed.size by omega]
      simp [this]
    · rw [getD_set_ne true (fun h => hk h.symm)]
      simp [hk]
  rw [e]
  refine List.length_filter_lt_length_iff_exists.2 ⟨i, ?_, by simp⟩
  unfold leftOf
  exact List.mem_filter.2 ⟨List.mem_range.2 hlt, by simp [hun]⟩

theorem getD_put (t : Array Value) (d k : Nat) (v : Value) (hd : d < t.size) : (t.setIfInBounds d v).getD k undef = if d = k then v else t.getD k undef := by
  simp only [Array.getD_eq_getD_getElem?, Array.getElem?_setIfInBounds]
  by_cases h : d = k
  · subst h; simp [hd]
  · simp [h]

/-- a fact: this value. -/
def Is (u : Value) : Value → World → Prop := fun v _ => v = u
/-- a fact: a new slice of one element, which holds this value. -/
def RowOne (u : Value) : Value → World → Prop := fun v w => ∃ g, v = .slice (some ⟨g, 0, none⟩) 1 1 ∧ w.cell? ⟨g, 0, none⟩ = some u
theorem Is.mono {u v : Value} {w w' : World} (h : Is u v w) (_ : Below w.heap.size w w') : Is u v w' := h
theorem RowOne.mono {u v : Value} {w w' : World} (h : RowOne u v w) (hb : Below w.heap.size w w') : RowOne u v w' := by
  obtain ⟨g, e, hc⟩ := h
  refine ⟨g, e, (hb.cell (p := ⟨g, 0, none⟩) ?_).trans hc⟩
  apply Nat.lt_of_not_le
  intro hge
  simp [World.cell?, Array.getElem?_eq_none hge] at hc

section
variable {P : Program} {ops : Array Oper} {Q : Exit → Act → World → Prop} {Ψ : Nat → Value → World → Prop} {a0 : Act} {w0 : World}

/-- a state of the region. -/
structure At (ops : Array Oper) (Ψ : Nat → Value → World → Prop) (a0 : Act) (w0 : World) (listed : Array Bool) (a : Act) (w : World) : Prop where
  defers : a.defers = a0.defers
  size : a.tmps.size = a0.tmps.size
  old : ∀ d, (∀ i, dstOf ops i ≠ some d) → a.tmps.getD d undef = a0.tmps.getD d undef
  below : Below w0.heap.size w0 w
  facts : ∀ j d, listed.getD j false = true → dstOf ops j = some d → Ψ j (a.tmps.getD d undef) w

theorem At.step {listed : Array Bool} {a : Act} {w w' : World} {i d : Nat} {v : Value} (h : At ops Ψ a0 w0 listed a w) (hslots : slotsB ops a0.tmps.size = true) (hmono : ∀ j v w w', Ψ j v w → Below w.heap.size w w' → Ψ j v w')
    (hi : dstOf ops i = some d) (hb : Below w.heap.size w w') (hv : Ψ i v w') : At ops Ψ a0 w0 (listed.setIfInBounds i true) (a.put (some d) v) w' := by
  have hil := dst_lt hi
  have hds : d < a.tmps.size := by
    obtain ⟨d', e, hd'⟩ := slots_some hslots hil
    rw [hi] at e
    cases e
    rw [h.size]
    exact hd'
  refine ⟨h.defers, by simp [Act.put, h.size], fun k hk => ?_, h.below.trans (hb.mono h.below.size), fun j k hj hjd => ?_⟩
  · show (a.tmps.setIfInBounds d v).getD k undef = _
    rw [getD_put _ _ _ _ hds, if_neg (fun e => hk i (by rw [hi, e]))]
    exact h.old k hk
  · show Ψ j ((a.tmps.setIfInBounds d v).getD k undef) w'
    rw [getD_put _ _ _ _ hds]
    by_cases hji : j = i
    · subst hji
      rw [hi] at hjd
      cases hjd
      rw [if_pos rfl]
      exact hv
    · have hne := slots_unlike hslots (dst_lt hjd) hil hji
      rw [hjd, hi] at hne
      rw [if_neg (fun e => hne (by rw [e]))]
      refine hmono _ _ _ _ (h.facts j k ?_ hjd) hb
      rw [getD_set_ne false (fun e => hji e.symm)] at hj
      exact hj

theorem any_by_facts (hord : orderedB ops = true) (hslots : slotsB ops a0.tmps.size = true) (hmono : ∀ j v w w', Ψ j v w → Below w.heap.size w w' → Ψ j v w')
    (hstep : ∀ i, i < ops.size → ∀ a w, (∀ d, (∀ i, dstOf ops i ≠ some d) → a.tmps.getD d undef = a0.tmps.getD d undef) → Below w0.heap.size w0 w →
      (∀ j d, (predsOf ops i).contains j = true → dstOf ops j = some d → Ψ j (a.tmps.getD d undef) w) → wpOp P ops Q i (fun a' w' => ∃ d v, dstOf ops i = some d ∧ a' = a.put (some d) v ∧ Below w.heap.size w w' ∧ Ψ i v w') a w)
    (hdone : ∀ a w, a.defers = a0.defers → (∀ d, (∀ i, dstOf ops i ≠ some d) → a.tmps.getD d undef = a0.tmps.getD d undef) → Below w0.heap.size w0 w → (∀ j d, dstOf ops j = some d → Ψ j (a.tmps.getD d undef) w) → Q .normal a w) :
    ∀ fuel listed a w, listed.size = ops.size → (leftOf ops listed).length ≤ fuel → At ops Ψ a0 w0 listed a w → wpAny P .any ops Q fuel listed a w := by
  have fin : ∀ listed a w, listed.size = ops.size → At ops Ψ a0 w0 listed a w → Region.ready .any ops listed = [] → Q .normal a w := fun listed a w hs h hr =>
    hdone a w h.defers h.old h.below fun j d hj => h.facts j d (all_listed hord hs hr j (dst_lt hj)) hj
  intro fuel
  induction fuel with
  | zero =>
    intro listed a w hs hl h
    have hr : Region.ready .any ops listed = [] := by
      cases e : Region.ready .any ops listed with
      | nil => rfl
      | cons x xs =>
        have := left_less (ops := ops) (listed := listed) (i := x) (by rw [e]; exact List.mem_cons_self ..) hs
        omega
    exact ⟨hr, fin listed a w hs h hr⟩
  | succ fuel ih =>
    intro listed a w hs hl h
    refine ⟨fun hr => fin listed a w hs h hr, fun i hi => ?_⟩
    refine wpOp_mono (fun a' w' hK => ?_) (hstep i (ready_lt hi) a w h.old h.below fun j d hj hd => h.facts j d (mem_preds hi j (by simpa using hj)) hd)
    obtain ⟨d, v, hd, rfl, hb, hv⟩ := hK
    have hless := left_less hi hs
    exact ih _ _ _ (by simpa using hs) (by omega) (h.step hslots hmono hd hb hv)

theorem any_then (hord : orderedB ops = true) (hslots : slotsB ops a0.tmps.size = true) (hmono : ∀ j v w w', Ψ j v w → Below w.heap.size w w' → Ψ j v w')
    (hstep : ∀ i, i < ops.size → ∀ a w, (∀ d, (∀ i, dstOf ops i ≠ some d) → a.tmps.getD d undef = a0.tmps.getD d undef) → Below w0.heap.size w0 w →
      (∀ j d, (predsOf ops i).contains j = true → dstOf ops j = some d → Ψ j (a.tmps.getD d undef) w) → wpOp P ops Q i (fun a' w' => ∃ d v, dstOf ops i = some d ∧ a' = a.put (some d) v ∧ Below w.heap.size w w' ∧ Ψ i v w') a w)
    (hdone : ∀ a w, a.defers = a0.defers → a.tmps.size = a0.tmps.size → (∀ d, (∀ i, dstOf ops i ≠ some d) → a.tmps.getD d undef = a0.tmps.getD d undef) → Below w0.heap.size w0 w → (∀ j d, dstOf ops j = some d → Ψ j (a.tmps.getD d undef) w) → Q .normal a w) :
    ∀ fuel listed a w, listed.size = ops.size → (leftOf ops listed).length ≤ fuel → At ops Ψ a0 w0 listed a w → wpAny P .any ops Q fuel listed a w := by
  have fin : ∀ listed a w, listed.size = ops.size → At ops Ψ a0 w0 listed a w → Region.ready .any ops listed = [] → Q .normal a w := fun listed a w hs h hr =>
    hdone a w h.defers h.size h.old h.below fun j d hj => h.facts j d (all_listed hord hs hr j (dst_lt hj)) hj
  intro fuel
  induction fuel with
  | zero =>
    intro listed a w hs hl h
    have hr : Region.ready .any ops listed = [] := by
      cases e : Region.ready .any ops listed with
      | nil => rfl
      | cons x xs =>
        have := left_less (ops := ops) (listed := listed) (i := x) (by rw [e]; exact List.mem_cons_self ..) hs
        omega
    exact ⟨hr, fin listed a w hs h hr⟩
  | succ fuel ih =>
    intro listed a w hs hl h
    refine ⟨fun hr => fin listed a w hs h hr, fun i hi => ?_⟩
    refine wpOp_mono (fun a' w' hK => ?_) (hstep i (ready_lt hi) a w h.old h.below fun j d hj hd => h.facts j d (mem_preds hi j (by simpa using hj)) hd)
    obtain ⟨d, v, hd, rfl, hb, hv⟩ := hK
    have hless := left_less hi hs
    exact ih _ _ _ (by simpa using hs) (by omega) (h.step hslots hmono hd hb hv)

/-- THE REGION, BY FACTS. -/
theorem region_by_facts {id : Nat} {w : World} (hm : P.follows .mixedOrders = true) (hord : orderedB ops = true) (hslots : slotsB ops a0.tmps.size = true) (hmono : ∀ j v w w', Ψ j v w → Below w.heap.size w w' → Ψ j v w')
    (hstep : ∀ i, i < ops.size → ∀ a wx, (∀ d, (∀ i, dstOf ops i ≠ some d) → a.tmps.getD d undef = a0.tmps.getD d undef) → Below w.heap.size w wx →
      (∀ j d, (predsOf ops i).contains j = true → dstOf ops j = some d → Ψ j (a.tmps.getD d undef) wx) → wpOp P ops Q i (fun a' w' => ∃ d v, dstOf ops i = some d ∧ a' = a.put (some d) v ∧ Below wx.heap.size wx w' ∧ Ψ i v w') a wx)
    (hdone : ∀ a wx, a.defers = a0.defers → (∀ d, (∀ i, dstOf ops i ≠ some d) → a.tmps.getD d undef = a0.tmps.getD d undef) → Below w.heap.size w wx → (∀ j d, dstOf ops j = some d → Ψ j (a.tmps.getD d undef) wx) → Q .normal a wx) :
    (Code.region id ops true).wp P Q a0 w := by
  refine wp_region_any hm ?_
  have hb0 : Below w.heap.size w w.drew := ⟨rfl, rfl, rfl, Nat.le_refl _, fun _ _ => rfl⟩
  refine any_by_facts (w0 := w.drew) hord hslots hmono (fun i hi a wx h1 h2 h3 => hstep i hi a wx h1 (hb0.trans (h2.mono hb0.size)) h3) (fun a wx h0 h1 h2 h3 => hdone a wx h0 h1 (hb0.trans (h2.mono hb0.size)) h3) _ _ _ _ (by simp) ?_ ⟨rfl, rfl, fun _ _ => rfl, Below.refl _ _, fun j d hj _ => ?_⟩
  · unfold leftOf
    exact Nat.le_trans (List.length_filter_le _ _) (by simp)
  · exfalso
    revert hj
    simp only [Array.getD_eq_getD_getElem?, Array.getElem?_replicate]
    split <;> simp
/-- The same, where the function goes on: behind the region the slots are told one by one (frame_lit lays the frame out). -/
theorem region_then {id : Nat} {w : World} (hm : P.follows .mixedOrders = true) (hord : orderedB ops = true) (hslots : slotsB ops a0.tmps.size = true) (hmono : ∀ j v w w', Ψ j v w → Below w.heap.size w w' → Ψ j v w')
    (hstep : ∀ i, i < ops.size → ∀ a wx, (∀ d, (∀ i, dstOf ops i ≠ some d) → a.tmps.getD d undef = a0.tmps.getD d undef) → Below w.heap.size w wx →
      (∀ j d, (predsOf ops i).contains j = true → dstOf ops j = some d → Ψ j (a.tmps.getD d undef) wx) → wpOp P ops Q i (fun a' w' => ∃ d v, dstOf ops i = some d ∧ a' = a.put (some d) v ∧ Below wx.heap.size wx w' ∧ Ψ i v w') a wx)
    (hdone : ∀ (t : Array Value) wx, t.size = a0.tmps.size → (∀ d, (∀ i, dstOf ops i ≠ some d) → t.getD d undef = a0.tmps.getD d undef) → Below w.heap.size w wx → (∀ j d, dstOf ops j = some d → Ψ j (t.getD d undef) wx) → Q .normal { tmps := t, defers := a0.defers } wx) :
    (Code.region id ops true).wp P Q a0 w := by
  refine wp_region_any hm ?_
  have hb0 : Below w.heap.size w w.drew := ⟨rfl, rfl, rfl, Nat.le_refl _, fun _ _ => rfl⟩
  exact any_then (w0 := w.drew) hord hslots hmono (fun i hi a wx h1 h2 h3 => hstep i hi a wx h1 (hb0.trans (h2.mono hb0.size)) h3) (fun a wx h0 hs h1 h2 h3 => by
    have h := hdone a.tmps wx hs h1 (hb0.trans (h2.mono hb0.size)) h3
    rw [← h0] at h
    exact h) _ _ _ _ (by simp) (by
      unfold leftOf
      exact Nat.le_trans (List.length_filter_le _ _) (by simp)) ⟨rfl, rfl, fun _ _ => rfl, Below.refl _ _, fun j d hj _ => by
        exfalso
        revert hj
        simp only [Array.getD_eq_getD_getElem?, Array.getElem?_replicate]
        split <;> simp⟩
/-- a frame, slot by slot. -/
theorem frame_lit {t : Array Value} {N : Nat} (h : t.size = N) : t = ((List.range N).map fun k => t.getD k undef).toArray := by
  subst h
  apply Array.ext
  · simp
  · intro i h1 h2
    simp [Array.getD_eq_getD_getElem?, Array.getElem?_eq_getElem h1]
end
end Go.Proofs.YtbkdloebbbmkaaaGreat

namespace Go.Proofs.YtbkdloebbbmkaaaGreat
open Go.RowKit

section
variable {P : Program} {ops : Array Oper} {Q : Exit → Act → World → Prop}
theorem yielded_at {g d : Nat} {t : Array Value} {u : Value} (hd : dstOf ops g = some d) (hv : t.getD d undef = u) : ∀ b, (yielded ops t g = some b ↔ u = .bool b) := by
  intro b
  unfold dstOf at hd
  unfold yielded
  rw [hd]
  subst hv
  show (match t[d]? with | some (.bool b) => some b | _ => none) = some b ↔ _
  rw [Array.getD_eq_getD_getElem?]
  rcases h : t[d]? with _ | u
  · simp [undef]
  · cases u <;> simp
/-- an operation behind a guard that lets it run. -/
theorem wpOp_wanted {i g d : Nat} {b : Bool} {o : Oper} {K : Act → World → Prop} {a : Act} {w : World} (ho : ops[i]? = some o) (hg : o.guard = some (g, b)) (hd : dstOf ops g = some d) (hv : a.tmps.getD d undef = .bool b)
    (h : ∀ K' : Act → World → Prop, (∀ a w, K a w → K' a w) → Oper.wp P o a w K' Q) : wpOp P ops Q i K a w := by
  refine wpOp_step ho fun K' hK => ?_
  rw [if_pos (by
    unfold Region.wanted
    rw [hg]
    show (yielded ops a.tmps g == some b) = true
    rw [(yielded_at hd hv b).2 rfl]
    simp)]
  exact h K' hK
/-- an operation behind a guard that lets it out. -/
theorem wpOp_passed {i g d : Nat} {b : Bool} {o : Oper} {u : Value} {K : Act → World → Prop} {a : Act} {w : World} (ho : ops[i]? = some o) (hg : o.guard = some (g, b)) (hd : dstOf ops g = some d) (hv : a.tmps.getD d undef = u) (hu : u ≠ .bool b)
    (h : K (a.put o.dst undef) w) : wpOp P ops Q i K a w := by
  refine wpOp_step ho fun K' hK => ?_
  rw [if_neg (by
    unfold Region.wanted
    rw [hg]
    show ¬ (yielded ops a.tmps g == some b) = true
    intro e
    rw [beq_iff_eq] at e
    exact hu ((yielded_at hd hv b).1 e))]
  exact hK _ _ h
end

/-- all slots that a region writes. -/
def inB (ops : Array Oper) (ds : List Nat) : Bool := (List.range ops.size).all fun i => match dstOf ops i with | some d => ds.contains d | none => true
theorem not_in {ops : Array Oper} {ds : List Nat} (h : inB ops ds = true) {d : Nat} (hd : d ∉ ds) : ∀ i, dstOf ops i ≠ some d := fun i e => by
  unfold inB at h
  rw [List.all_eq_true] at h
  have h1 := h i (List.mem_range.2 (dst_lt e))
  rw [e] at h1
  exact hd (by simpa using h1)
/-- the frame behind a region: as it was, but for those slots. -/
theorem frame_sets {t a : Array Value} (hs : t.size = a.size) (ds : List Nat) (hold : ∀ d, d ∉ ds → t.getD d undef = a.getD d undef) : ∃ f : Nat → Value, (∀ d, t.getD d undef = f d) ∧ t = ds.foldl (fun acc d => acc.setIfInBounds d (f d)) a := by
  refine ⟨fun d => t.getD d undef, fun _ => rfl, ?_⟩
  have size : ∀ (ds : List Nat) (b : Array Value), (ds.foldl (fun acc d => acc.setIfInBounds d (t.getD d undef)) b).size = b.size := by
    intro ds
    induction ds with
    | nil => intro b; rfl
    | cons d ds ih => intro b; rw [List.foldl_cons, ih]; simp
  have get : ∀ (ds : List Nat) (b : Array Value) (k : Nat), k < b.size → (ds.foldl (fun acc d => acc.setIfInBounds d (t.getD d undef)) b).getD k undef = if k ∈ ds then t.getD k undef else b.getD k undef := by
    intro ds
    induction ds with
    | nil => intro b k _; simp
    | cons d ds ih =>
      intro b k hk
      rw [List.foldl_cons, ih _ _ (by simpa using hk)]
      by_cases h1 : k ∈ ds
      · rw [if_pos h1, if_pos (List.mem_cons_of_mem _ h1)]
      · rw [if_neg h1]
        by_cases h2 : k = d
        · subst h2
          rw [if_pos (List.mem_cons_self ..), getD_put _ _ _ _ hk, if_pos rfl]
        · rw [if_neg (by
            rw [List.mem_cons]
            exact fun h => h.elim h2 h1)]
          simp only [Array.getD_eq_getD_getElem?, Array.getElem?_setIfInBounds]
          rw [if_neg (fun e => h2 e.symm)]
  apply Array.ext
  · rw [size, hs]
  · intro k h1 h2
    have h3 := get ds a k (by omega)
    have h4 : (ds.foldl (fun acc d => acc.setIfInBounds d (t.getD d undef)) a).getD k undef = t.getD k undef := by
      rw [h3]
      by_cases h : k ∈ ds
      · rw [if_pos h]
      · rw [if_neg h, hold k h]
    rw [Array.getD_eq_getD_getElem?, Array.getD_eq_getD_getElem?, Array.getElem?_eq_getElem h1, Array.getElem?_eq_getElem h2] at h4
    exact h4.symm

/-- a region writes the slots from lo on, below hi. -/
def rangeB (ops : Array Oper) (lo hi : Nat) : Bool := (List.range ops.size).all fun i => match dstOf ops i with | some d => decide (lo ≤ d) && decide (d < hi) | none => true
theorem not_range {ops : Array Oper} {lo hi : Nat} (h : rangeB ops lo hi = true) {d : Nat} (hd : ¬ (lo ≤ d ∧ d < hi)) : ∀ i, dstOf ops i ≠ some d := fun i e => by
  unfold rangeB at h
  rw [List.all_eq_true] at h
  have h1 := h i (List.mem_range.2 (dst_lt e))
  rw [e] at h1
  simp at h1
  exact hd h1
/-- the frame behind a region: as it was, but for those slots. -/
theorem frame_part {t a : Array Value} (hs : t.size = a.size) (lo n hi : Nat) (hn : lo + n = hi) (h2 : hi ≤ a.size) (hold : ∀ d, ¬ (lo ≤ d ∧ d < hi) → t.getD d undef = a.getD d undef) :
    ∃ f : Nat → Value, (∀ d, t.getD d undef = f d) ∧ t = (a.toList.take lo ++ ((List.range' lo n).map f ++ a.toList.drop hi)).toArray := by
  refine ⟨fun d => t.getD d undef, fun _ => rfl, ?_⟩
  subst hn
  apply Array.ext
  · simp
    omega
  · intro k h1 h3
    have hk : t[k]? = (a.toList.take lo ++ ((List.range' lo n).map (fun d => t.getD d undef) ++ a.toList.drop (lo + n)))[k]? := by
      by_cases hlo : k < lo
      · have h := hold k (by omega)
        rw [Array.getD_eq_getD_getElem?, Array.getD_eq_getD_getElem?, Array.getElem?_eq_getElem h1, Array.getElem?_eq_getElem (show k < a.size by omega)] at h
        rw [List.getElem?_append_left (by simp; omega), List.getElem?_take, if_pos hlo, Array.getElem?_toList, Array.getElem?_eq_getElem h1, Array.getElem?_eq_getElem (show k < a.size by omega)]
        exact congrArg some h
      · rw [List.getElem?_append_right (by simp; omega)]
        have hl : (a.toList.take lo).length = lo := by simp; omega
        rw [hl]
        by_cases hhi : k < lo + n
        · rw [List.getElem?_append_left (by simp; omega), List.getElem?_map, List.getElem?_range' (by omega), Array.getElem?_eq_getElem h1]
          show _ = some (t.getD (lo + 1 * (k - lo)) undef)
          rw [show lo + 1 * (k - lo) = k by omega, Array.getD_eq_getD_getElem?, Array.getElem?_eq_getElem h1]
          rfl
        · have h := hold k (by omega)
          rw [Array.getD_eq_getD_getElem?, Array.getD_eq_getD_getElem?, Array.getElem?_eq_getElem h1, Array.getElem?_eq_getElem (show k < a.size by omega)] at h
          rw [List.getElem?_append_right (by simp; omega), List.getElem?_drop]
          have hr : ((List.range' lo n).map (fun d => t.getD d undef)).length = n := by simp
          rw [hr, show lo + n + (k - lo - n) = k by omega, Array.getElem?_toList, Array.getElem?_eq_getElem h1, Array.getElem?_eq_getElem (show k < a.size by omega)]
          exact congrArg some h
    rw [Array.getElem?_eq_getElem h1] at hk
    have h4 := hk.symm
    rw [List.getElem?_eq_getElem (by simpa using h3)] at h4
    have h5 := Option.some.inj h4
    simpa using h5.symm
end Go.Proofs.YtbkdloebbbmkaaaGreat

namespace Go.Proofs.YtbkdloebbbmkaaaGreat

theorem take_at {P : Program} {md : Region.Mode} {ops : Array Oper} {Q : Exit → Act → World → Prop} {S : World → Prop} {i d : Nat} {oi : Oper} {v : Value} {fuel : Nat} {listed : Array Bool} {a : Act} {w : World} (hi : ops[i]? = some oi) (hd : oi.dst = some d)
    (hs : Region.noSelect ops = true) (hf : Region.free md ops listed i = true) (hr : (Region.ready md ops listed).contains i = true)
    (hQ : ∀ c a w, Q (.panic c) (a.put oi.dst v) w → Q (.panic c) a w) (hy : YieldsIf P ops S oi v a) (hS : S w)
    (h : wpAnyH P md ops Q S fuel (listed.setIfInBounds i true) (a.put (some d) v) w) : wpAnyH P md ops Q S (fuel + 1) listed a w :=
  wpAnyH_take hi hs hf hr hQ hy hS (by rw [hd]; exact h)
end Go.Proofs.YtbkdloebbbmkaaaGreat

namespace Go.Proofs.YtbkdloebbbmkaaaGreat
open Go.RowKit

section
variable {P : Program} {ops : Array Oper} {Q : Exit → Act → World → Prop} {r : Nat}
/-- no operation defers. -/
def noDeferB (ops : Array Oper) : Bool := ops.all fun o => match o.op with
  | .defer _ => false
  | _ => true
theorem noDefer {i : Nat} {o : Oper} (h : noDeferB ops = true) (ho : ops[i]? = some o) : ∀ c, o.op ≠ .defer c := fun c e => by
  unfold noDeferB at h
  rw [Array.all_eq_true] at h
  obtain ⟨hi, rfl⟩ := Array.getElem?_eq_some_iff.1 ho
  have := h i hi
  rw [e] at this
  cases this
theorem op_in_round {o : Oper} {K : Act → World → Prop} {a : Act} {w : World} (hd : ∀ c, o.op ≠ .defer c) (h : o.wp P a w K Q) : o.wpIn (Fence.wide.inRound r) 0 P a w K Q := by
  refine ⟨fun _ _ => trivial, ?_⟩
  rw [Oper.semAt_eq _ _ _ hd]
  unfold Oper.wp at h
  revert h
  cases (execOp a.eval o).run P w with
  | ok x w' =>
    cases x with
    | value v => exact fun h => h
    | skip => exact fun h => h
    | defer d => exact fun h => h
    | enter f args =>
      intro h
      exact ⟨fun e => (by cases e), CallsIn.inRound r (callsIn_wide.2 h)⟩
    | row s args =>
      intro h
      refine ⟨fun e => (by cases e), fun c cs _ => ?_⟩
      obtain ⟨v, w'', hR, hs⟩ := h c cs
      exact ⟨v, w'', hR, stepsIn_wide.2 hs⟩
    | _ => exact fun h => h.elim
  | halt x w' =>
    cases x <;> first | exact fun h => h | exact fun h => h.elim
theorem any_in_round (hd : noDeferB ops = true) (hQ : ¬ LetsOut Q) : ∀ fuel listed a w, wpAny P .any ops Q fuel listed a w → wpAnyIn (Fence.wide.inRound r) 0 P .any ops Q fuel listed a w := by
  intro fuel
  induction fuel with
  | zero => intro listed a w h; exact h
  | succ fuel ih =>
    intro listed a w h
    refine ⟨h.1, fun i hi => ?_⟩
    have h2 := h.2 i hi
    unfold wpOp at h2
    unfold wpOpIn
    rcases ho : ops[i]? with _ | o
    · rw [ho] at h2
      exact ih _ _ _ h2
    · rw [ho] at h2
      have h2 : if Region.wanted o (yielded ops a.tmps) then o.wp P a w (wpAny P .any ops Q fuel (listed.setIfInBounds i true)) Q ∨ (o.asks P a w ∧ LetsOut Q) else wpAny P .any ops Q fuel (listed.setIfInBounds i true) (a.put o.dst undef) w := h2
      show if Region.wanted o (yielded ops a.tmps) then o.wpIn (Fence.wide.inRound r) 0 P a w (wpAnyIn (Fence.wide.inRound r) 0 P .any ops Q fuel (listed.setIfInBounds i true)) Q else (∀ f, o.about P w a.eval = some f → (Fence.wide.inRound r).fn f) ∧ wpAnyIn (Fence.wide.inRound r) 0 P .any ops Q fuel (listed.setIfInBounds i true) (a.put o.dst undef) w
      by_cases hw : Region.wanted o (yielded ops a.tmps) = true
      · rw [if_pos hw] at h2 ⊢
        rcases h2 with h2 | h2
        · exact op_in_round (noDefer hd ho) (Oper.wp_mono (fun a w h => ih _ _ _ h) h2)
        · exact absurd h2.2 hQ
      · rw [if_neg hw] at h2 ⊢
        exact ⟨fun _ _ => trivial, ih _ _ _ h2⟩
/-- all but the last few only read: the region as a list. -/
theorem still_any {a : Act} {w : World} {l : List Oper} (n : Nat) (hB : Region.lexTailB .any l.toArray n = true) (h : wpStill P l.toArray w (fun a' => wpList P l.toArray Q (l.drop n) a' w) (l.take n) a) :
    wpAny P .any l.toArray Q l.toArray.size (Array.replicate l.toArray.size false) a w := by
  unfold Region.lexTailB at hB
  rw [Bool.and_eq_true, Bool.and_eq_true, Bool.and_eq_true, Bool.and_eq_true, decide_eq_true_eq] at hB
  obtain ⟨⟨⟨⟨b1, b2⟩, b3⟩, b4⟩, b5⟩ := hB
  have e1 : (l.take n).length = n := by
    have : n < l.length := by simpa using b2
    simp; omega
  have e2 : (l.drop n).length = l.toArray.size - n := by simp
  have inv : HeadInv .any l.toArray n (Array.replicate l.toArray.size false) := by
    refine ⟨by simp, fun j oj _ hl => ?_, fun t _ ht => getD_in (by simpa using ht) (getD_replicate_false _ _)⟩
    rw [getD_replicate_false] at hl
    cases hl
  have h1 := wpAnyL_lex (md := .any) (g := l.toArray.size - n) b1 b3 b4 b2 (l.take n) 0 _ a (fun j hj => by
    rw [e1] at hj
    simp [hj]) (by rw [e1, Nat.zero_add]) inv (by rw [e1]; exact b5) h
  have h2 := wpAny_of_head (Q' := Q) (g := l.toArray.size - n) (fun listed a' hL => by
    have := wpAny_of_seq (md := .any) (Q' := Q) (l.drop n) n listed a' w (fun j => by simp [List.getElem?_drop]) (by rw [e2]; exact hL.1) hL.2
    rw [e2] at this
    exact this) _ _ _ h1
  rw [e1, show n + (l.toArray.size - n) = l.toArray.size by omega] at h2
  exact h2
theorem still_in_round {id : Nat} {a : Act} {w : World} {l : List Oper} (n : Nat) (hm : P.follows .mixedOrders = true) (hB : Region.lexTailB .any l.toArray n = true) (hd : noDeferB l.toArray = true) (hQ : ¬ LetsOut Q)
    (h : ∀ ops, l.toArray = ops → wpStill P ops w.drew (fun a' => wpList P ops Q (l.drop n) a' w.drew) (l.take n) a) : (Code.region id l.toArray true).wpIn (Fence.wide.inRound r) 0 P Q a w :=
  wpIn_region_any hm (any_in_round hd hQ _ _ _ _ (still_any n hB (h _ rfl)))
/-- an operation that only reads, behind a guard that lets it out. -/
theorem still_passed {o : Oper} {rest : List Oper} {a : Act} {w : World} {Qs : Act → Prop} {g d : Nat} {b : Bool} {u : Value} (hg : o.guard = some (g, b)) (hd : dstOf ops g = some d) (hv : a.tmps.getD d undef = u) (hu : u ≠ .bool b)
    (h : ∀ K : Act → Prop, (∀ a, wpStill P ops w Qs rest a → K a) → K (a.put o.dst undef)) : wpStill P ops w Qs (o :: rest) a := by
  refine wpStill_step fun K hK => ?_
  rw [if_neg (by
    unfold Region.wanted
    rw [hg]
    show ¬ (yielded ops a.tmps g == some b) = true
    intro e
    rw [beq_iff_eq] at e
    exact hu ((yielded_at hd hv b).1 e))]
  exact h K hK
/-- behind a guard that lets it run. -/
theorem still_wanted {o : Oper} {rest : List Oper} {a : Act} {w : World} {Qs : Act → Prop} {g d : Nat} {b : Bool} (hg : o.guard = some (g, b)) (hd : dstOf ops g = some d) (hv : a.tmps.getD d undef = .bool b)
    (h : ∀ K : Act → Prop, (∀ a, wpStill P ops w Qs rest a → K a) → o.still P a w K) : wpStill P ops w Qs (o :: rest) a := by
  refine wpStill_step fun K hK => ?_
  rw [if_pos (by
    unfold Region.wanted
    rw [hg]
    show (yielded ops a.tmps g == some b) = true
    rw [(yielded_at hd hv b).2 rfl]
    simp)]
  exact h K hK
/-- walked by hand over what S says of the world. -/
theorem held_in_round {S : World → Prop} {id : Nat} {a : Act} {w : World} (hm : P.follows .mixedOrders = true) (hd : noDeferB ops = true) (hQ : ¬ LetsOut Q) (hS : S w.drew)
    (h : S w.drew → wpAnyH P .any ops Q S ops.size (Array.replicate ops.size false) a w.drew) : (Code.region id ops true).wpIn (Fence.wide.inRound r) 0 P Q a w :=
  wpIn_region_any hm (any_in_round hd hQ _ _ _ _ (wpAny_of_held _ _ _ _ (h hS)))
end
end Go.Proofs.YtbkdloebbbmkaaaGreat
