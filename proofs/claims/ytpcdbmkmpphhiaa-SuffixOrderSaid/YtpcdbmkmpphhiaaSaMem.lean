/- The developers' package suffix: a row as it lies; fit, isDip, dips, onlyDips. -/
import Derived.Test.YtpcdbmkmpphhiaaSaMath
import Derived.Test.YtpcdbmkmpphhiaaSufI
import Derived.Test.YtpcdbmkmpphhiaaIntPut
import Derived.Deep.QuietTactic
namespace Go.Proofs.Ytpcdbmkmpphhiaa
open Go.RowKit

/-- bools as they lie. -/
def blcells (f : Nat → Bool) (n : Nat) : List Value := (List.range n).map fun t => Value.bool (f t)
theorem blcells_length (f : Nat → Bool) (n : Nat) : (blcells f n).length = n := by unfold blcells; simp
theorem blcells_at (f : Nat → Bool) (n k : Nat) (h : k < n) : (blcells f n)[k]? = some (.bool (f k)) := by
  unfold blcells
  rw [List.getElem?_map, List.getElem?_range h]
  rfl
theorem blcells_congr {f f' : Nat → Bool} {n : Nat} (h : ∀ j, j < n → f j = f' j) : blcells f n = blcells f' n := by
  unfold blcells
  exact List.map_congr_left fun j hj => by rw [h j (List.mem_range.1 hj)]
/-- the heads, as ints. -/
def hdI (X : Nat → Nat) (n : Nat) (x : Nat) : Int := ((hd X n x : Nat) : Int)

/-- a row as it lies, all below T. -/
structure Rw (w : World) (T : Nat) (A : Option Addr) (n c : Nat) (X : Nat → Nat) (b g e h : Nat) : Prop where
  head : Lies w g 58 [.slice A n c, .slice (some ⟨e, 0, none⟩) n n, .slice (some ⟨h, 0, none⟩) (b + 1) (b + 1)]
  t : Its w T A n (xi X)
  less : Lies w e 4 (blcells (up X n) n)
  heads : Lies w h 3 (icells (hdI X n) (b + 1))
  lt : g < T ∧ e < T ∧ h < T
  small : 0 < n ∧ n ≤ 4194304 ∧ b ≤ 4194304 ∧ n ≤ c ∧ c ≤ maxLen
  right : ∀ p, p < n → X p < b
section
variable {w w' : World} {T n c b g e h : Nat} {A : Option Addr} {X : Nat → Nat}
theorem Rw.below {T' : Nat} (r : Rw w T A n c X b g e h) (hb : Below T' w w') (hT : T ≤ T') : Rw w' T A n c X b g e h :=
  ⟨r.head.below hb (by have := r.lt; omega), fun k hk => (r.t.below (hb.mono hT)) k hk, r.less.below hb (by have := r.lt; omega), r.heads.below hb (by have := r.lt; omega), r.lt, r.small, r.right⟩
theorem Rw.c0 (r : Rw w T A n c X b g e h) : w.cell? ⟨g, 0, none⟩ = some (.slice A n c) := r.head.cell 0
theorem Rw.c1 (r : Rw w T A n c X b g e h) : w.cell? ⟨g, 1, none⟩ = some (.slice (some ⟨e, 0, none⟩) n n) := r.head.cell 1
theorem Rw.c2 (r : Rw w T A n c X b g e h) : w.cell? ⟨g, 2, none⟩ = some (.slice (some ⟨h, 0, none⟩) (b + 1) (b + 1)) := r.head.cell 2
theorem Rw.up_ (r : Rw w T A n c X b g e h) {p : Nat} (hp : p < n) : w.cell? ⟨e, p, none⟩ = some (.bool (up X n p)) := by
  rw [r.less.cell]
  exact blcells_at _ _ _ hp
theorem Rw.hd_ (r : Rw w T A n c X b g e h) {x : Nat} (hx : x ≤ b) : w.cell? ⟨h, x, none⟩ = some (.int .i64 ((hd X n x : Nat) : Int)) := by
  rw [r.heads.cell]
  exact icells_at _ _ _ (by omega)

set_option maxRecDepth 100000 in
set_option maxHeartbeats 800000 in
theorem isDip_any (r : Rw w T A n c X b g e h) {p : Nat} (hp : p < n) : Calls Try.prog 34 #[.pointer (some ⟨g, 0, none⟩), .int .i64 (p : Int)] w fun e' w' => e' = .returned (.bool (dip X n p)) ∧ w = w' := by
  have c1 := r.c1
  have hn := r.small.2.1
  rcases Nat.eq_zero_or_pos p with rfl | h0
  · have hd : dip X n 0 = false := rfl
    rw [hd]
    clear r
    go_enter Try.func34, Try.ntmps34
    go_wp2_with fail
    go_ret
    exact ⟨rfl, rfl⟩
  · have u1 := r.up_ hp
    have u2 := r.up_ (p := p - 1) (by omega)
    have hd : dip X n p = (up X n p && !up X n (p - 1)) := by unfold dip; rw [decide_eq_true h0]; rfl
    rw [hd]
    obtain ⟨q, rfl⟩ : ∃ q, p = q + 1 := ⟨p - 1, by omega⟩
    rw [Nat.add_sub_cancel] at u2 ⊢
    have hw : IntKind.i64.wrap (((q + 1 : Nat) : Int) - 1) = (q : Int) := by rw [IntWalk.i64_in _ (by omega)]; omega
    generalize up X n (q + 1) = a1 at u1 ⊢
    generalize up X n q = a2 at u2 ⊢
    obtain ⟨m, hm⟩ : ∃ m, q + 1 = m := ⟨_, rfl⟩
    rw [hm] at hw u1 hp ⊢
    have d0 : (0 : Int) < (m : Int) := by omega
    have hq : q < n := by omega
    clear r hd h0 hm
    go_enter Try.func34, Try.ntmps34
    cases a1
    · go_wp2_with fail
      go_ret
      exact ⟨rfl, rfl⟩
    · go_wp2_with fail
      go_ret
      exact ⟨rfl, rfl⟩
end

set_option maxRecDepth 100000 in
set_option maxHeartbeats 1600000 in
theorem sufFit_is (A : Option Addr) (n c : Nat) (V : Nat → Int) (al : Int) (B : Nat) (w : World) (hn : n ≤ maxLen) (ho : Its w B A n V) (r : Bool) (hr : r = true ↔ RightS V n al) :
    Calls Try.prog 18 #[.slice A n c, .int .i64 al] w fun e w' => e = .returned (.bool r) ∧ w = w' := by
  have HR := Lib.hid hr
  have HO := Lib.hid ho
  have hnl : n ≤ 9223372036854775807 := by unfold maxLen at hn; omega
  clear ho hn hr
  by_cases hal : 0 ≤ al ∧ al ≤ 4194304 ∧ n ≤ 4194304
  · obtain ⟨h1, h2, h3⟩ := hal
    have d1 : decide (al < 0) = false := decide_eq_false (by omega)
    have d2 : decide ((4194304 : Int) < al) = false := decide_eq_false (by omega)
    have d3 : decide ((4194304 : Int) < (n : Int)) = false := decide_eq_false (by omega)
    go_enter Try.func18, Try.ntmps18
    go_wp2_with fail
    go_loop [20] (fun v => ∃ i : Nat, i ≤ n ∧ v = .int .i64 (i : Int) ∧ Hid (∀ j, j < i → 0 ≤ V j ∧ V j < al)) (fun v => n - (intOf v).toNat)
    case atStart => exact ⟨0, Nat.zero_le _, rfl, Lib.hid (fun j hj => absurd hj (Nat.not_lt_zero j))⟩
    case round =>
      obtain ⟨i, hi, rfl, hall⟩ := hrel
      by_cases hlt : i < n
      · have hlti : (i : Int) < (n : Int) := by omega
        obtain ⟨ad, rfl, _, hc, hv1, hv2⟩ := HO.out i hlt
        obtain ⟨v, hv⟩ : ∃ v, V i = v := ⟨_, rfl⟩
        rw [hv] at hc hv1 hv2
        have HV := Lib.hid hv
        clear hv
        by_cases hok : 0 ≤ v ∧ v < al
        · have e1 : decide (v < 0) = false := decide_eq_false (by omega)
          have e2 : decide (al ≤ v) = false := decide_eq_false (by omega)
          go_wp2_with fail
          go_round
          case rel => exact ⟨i + 1, by omega, by go_num, Lib.hid (fun j hj => by
            by_cases e : j < i
            · exact hall.out j e
            · obtain rfl : j = i := by omega
              rw [HV.out]
              exact hok)⟩
          case measure => simp [intOf]; omega
        · have hbad : Hid (¬ RightS V n al) := Lib.hid (fun h => hok (by rw [← HV.out]; exact h.2 i hlt))
          have hcond : decide (v < 0) = true ∨ (decide (v < 0) = false ∧ decide (al ≤ v) = true) := by
            by_cases h0 : v < 0
            · exact .inl (decide_eq_true h0)
            · exact .inr ⟨decide_eq_false h0, decide_eq_true (by omega)⟩
          obtain rfl : r = false := by
            rcases r with _ | _
            · rfl
            · exact absurd (HR.out.1 rfl) hbad.out
          clear hok HR
          rcases hcond with e1 | ⟨e1, e2⟩
          all_goals
            go_wp2_with fail
            go_ret
            exact ⟨rfl, rfl⟩
      · obtain rfl : i = n := by omega
        obtain rfl : r = true := HR.out.2 ⟨⟨h1, h2, h3⟩, hall.out⟩
        go_wp2_with fail
        go_ret
        exact ⟨rfl, rfl⟩
  · have hbad : Hid (¬ RightS V n al) := Lib.hid (fun h => hal h.1)
    have hcond : decide (al < 0) = true ∨ (decide (al < 0) = false ∧ decide ((4194304 : Int) < al) = true) ∨ (decide (al < 0) = false ∧ decide ((4194304 : Int) < al) = false ∧ decide ((4194304 : Int) < (n : Int)) = true) := by
      by_cases h0 : al < 0
      · exact .inl (decide_eq_true h0)
      · by_cases h1 : (4194304 : Int) < al
        · exact .inr (.inl ⟨decide_eq_false h0, decide_eq_true h1⟩)
        · exact .inr (.inr ⟨decide_eq_false h0, decide_eq_false h1, decide_eq_true (by omega)⟩)
    obtain rfl : r = false := by
      rcases r with _ | _
      · rfl
      · exact absurd (HR.out.1 rfl) hbad.out
    clear hal HR
    rcases hcond with d1 | ⟨d1, d2⟩ | ⟨d1, d2, d3⟩
    all_goals
      go_enter Try.func18, Try.ntmps18
      go_wp2_with fail
      go_ret
      exact ⟨rfl, rfl⟩

/-- the numbers picked out among the first i, in their order. -/
def Picks (f : Nat → Bool) (s : Nat → Nat) (i : Nat) (U : Nat → Int) : Prop := ∀ j, j < i → f j = true → U (Pl.cnt f j) = ((s j : Nat) : Int)
theorem Picks.skip {f : Nat → Bool} {s : Nat → Nat} {i : Nat} {U : Nat → Int} (h : Picks f s i U) (hf : f i = false) : Picks f s (i + 1) U := fun j hj hfj => by
  by_cases e : j = i
  · subst e
    rw [hf] at hfj
    cases hfj
  · exact h j (by omega) hfj
theorem Picks.take {f : Nat → Bool} {s : Nat → Nat} {i : Nat} {U : Nat → Int} (h : Picks f s i U) : Picks f s (i + 1) (putI U (Pl.cnt f i) ((s i : Nat) : Int)) := fun j hj hfj => by
  by_cases e : j = i
  · subst e
    exact putI_at _ _ _
  · have := Pl.cnt_at_lt (f := f) (show j < i by omega) hfj
    rw [putI_off _ (by omega)]
    exact h j (by omega) hfj
theorem icells_putI (U : Nat → Int) (n : Nat) (x : Int) : icells U n ++ [.int .i64 x] = icells (putI U n x) (n + 1) := by
  rw [icells_snoc, putI_at]
  congr 1
  exact icells_congr fun j hj => (putI_off _ (by omega)).symm
theorem cnt_true {f : Nat → Bool} {i : Nat} (h : f i = true) : Pl.cnt f (i + 1) = Pl.cnt f i + 1 := by rw [Pl.cnt_succ, if_pos h]
theorem cnt_false {f : Nat → Bool} {i : Nat} (h : f i = false) : Pl.cnt f (i + 1) = Pl.cnt f i := by rw [Pl.cnt_succ, h]; rfl

section
variable {w : World} {T n c b g e h : Nat} {A : Option Addr} {X : Nat → Nat}
set_option maxRecDepth 100000 in
set_option maxHeartbeats 800000 in
theorem dips_any (r : Rw w T A n c X b g e h) (hT : T ≤ w.heap.size) : Calls Try.prog 24 #[.pointer (some ⟨g, 0, none⟩)] w fun e' w' => ∃ (v : Value) (U : Nat → Int), e' = .returned v ∧ Picks (dip X n) (fun p => p) n U ∧
    w'.ownsRow w.heap.size 3 1 v (Pl.cnt (dip X n) n) (icells U (Pl.cnt (dip X n) n)) ∧ Below w.heap.size w w' := by
  have hn := r.small.2.1
  have HR := Lib.hid r
  have c0 := r.c0
  obtain ⟨B, hB⟩ : ∃ B, w.heap.size = B := ⟨_, rfl⟩
  rw [hB] at hT ⊢
  clear r
  go_enter Try.func24, Try.ntmps24
  go_wp2_with fail
  go_loopw [3, 10] (fun s v wr => ∃ i : Nat, i ≤ n ∧ v = .int .i64 (i : Int) ∧ Hid (∃ U, Picks (dip X n) (fun p => p) i U ∧ wr.ownsRow B 3 1 s (Pl.cnt (dip X n) i) (icells U (Pl.cnt (dip X n) i))) ∧ Below B w wr) (fun _ v _ => n - (intOf v).toNat)
  case atStart => exact ⟨0, Nat.zero_le _, rfl, Lib.hid ⟨fun _ => 0, fun j hj => absurd hj (Nat.not_lt_zero j), World.ownsRow_nil _ _ _ _⟩, Below.refl _ _⟩
  case round =>
    obtain ⟨i, hi, rfl, hrow, hb⟩ := hrel
    have hbs := hb.size
    by_cases hlt : i < n
    · have hlti : (i : Int) < (n : Int) := by omega
      have hD := isDip_any (HR.out.below hb hT) hlt
      have hm := cnt_to (dip X n) i
      obtain ⟨U, hU, hown⟩ := hrow.out
      have HU := Lib.hid hU
      have HO := Lib.hid hown
      obtain ⟨m, hmm⟩ : ∃ m, Pl.cnt (dip X n) i = m := ⟨_, rfl⟩
      rw [hmm] at HO hm
      have HM := Lib.hid hmm
      have hBs : B ≤ wr.heap.size := by omega
      have hm4 : m ≤ 4194304 := by omega
      cases hdp : dip X n i
      · rw [hdp] at hD
        have HDp := Lib.hid hdp
        clear hU hown hmm hrow hdp
        go_wp2_with (go_at_call 34; (with_reducible refine hD.mono ?_); rintro e w' ⟨rfl, rfl⟩)
        go_roundw
        case rel => exact ⟨i + 1, by omega, by go_num, Lib.hid ⟨U, HU.out.skip HDp.out, by rw [cnt_false HDp.out, HM.out]; exact HO.out⟩, hb⟩
        case measure => simp [intOf]; omega
      · rw [hdp] at hD
        have HDp := Lib.hid hdp
        clear hU hown hmm hrow hdp
        go_wp2_with (first
          | (go_at_call 34; (with_reducible refine hD.mono ?_); rintro e w' ⟨rfl, rfl⟩)
          | (at_builtin; refine step_append_int rfl (.tmp 16) (.tmp 18) rfl rfl HO.out (i : Int) rfl hBs hm4 ?_; intro v3 w3 hown3 hb3))
        go_roundw
        case rel => exact ⟨i + 1, by omega, by go_num, Lib.hid ⟨_, HU.out.take, by
          rw [cnt_true HDp.out, HM.out, ← icells_putI]
          exact hown3.out⟩, hb.trans hb3⟩
        case measure => simp [intOf]; omega
    · obtain rfl : i = n := by omega
      obtain ⟨U, hU, hown⟩ := hrow.out
      go_wp2_with fail
      go_ret
      exact ⟨_, U, rfl, hU, hown, hb⟩
end
end Go.Proofs.Ytpcdbmkmpphhiaa
