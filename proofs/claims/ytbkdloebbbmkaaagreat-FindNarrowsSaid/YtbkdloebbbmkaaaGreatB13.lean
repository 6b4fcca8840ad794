/- The developers' find.New and what it calls: slices.Max, slices.Index, endsOnce, isOrder, packed, turn, mark. All that the laws ask of the developers' package find (find_any). The walk of colophonlaw15.FindMakes, over what package find answers (FindI). A finder of a list that layer 15's laws make; the walk of colophonlaw15.FindNone, over what package find answers (FindI). The walk of colophonlaw15.FindRanges, over what package find answers (FindI). The walk of colophonlaw15.FindPlaces, over what package find answers (FindI). The walk of colophonlaw15.FindNarrows, over what package find answers (FindI). -/
import Derived.Test.YtbkdloebbbmkaaaGreatB07
import Derived.Test.YtbkdloebbbmkaaaGreatB11
import Derived.Test.YtbkdloebbbmkaaaGreatB12
import Derived.Test.YtbkdloebbbmkaaaGreatB10
import Derived.Test.YtbkdloebbbmkaaaGreatB03
import Derived.Deep.QuietTactic
import Derived.BigQuiet
namespace Go.Proofs.YtbkdloebbbmkaaaGreat
open Go.RowKit
open Pl (cnt cnt_succ cnt_congr)

set_option maxRecDepth 100000 in
set_option maxHeartbeats 1600000 in
theorem smax_any (A : Option Addr) (d c : Nat) (V f : Nat → Int) (B : Nat) (w : World) (hd : d ≤ 4194304) (h0 : f 0 = V 0) (hs : ∀ i, f (i + 1) = max (f i) (V (i + 1))) (ho : Its w B A (d + 1) V) :
    Calls Tryz.prog 47 #[.slice A (d + 1) c] w fun e w' => e = .returned (.int .i64 (f d)) ∧ w = w' := by
  have HO := Lib.hid ho
  have HF := Lib.hid h0
  have HS := Lib.hid hs
  obtain ⟨ad, rfl, _, hc, _⟩ := ho 0 (by omega)
  rw [← h0] at hc
  obtain ⟨n, hn⟩ : ∃ n, d + 1 = n := ⟨_, rfl⟩
  rw [hn] at HO ⊢
  have HN := Lib.hid hn
  have d0 : decide ((n : Int) < 1) = false := decide_eq_false (by omega)
  have d1 : 0 < n := by omega
  have d2 : n ≤ 4194305 := by omega
  rw [addr_add0] at hc
  clear ho h0 hs hn
  obtain ⟨f0, hf0⟩ : ∃ f0, f 0 = f0 := ⟨_, rfl⟩
  rw [hf0] at hc
  have HF0 := Lib.hid hf0
  clear hf0
  go_enter Tryz.func47, Tryz.ntmps47
  go_wp2_with fail
  go_loop [3, 4] (fun u v => ∃ i : Nat, i + 1 ≤ n ∧ v = .int .i64 ((i + 1 : Nat) : Int) ∧ ∃ x, u = .int .i64 x ∧ Hid (f i = x)) (fun _ v => n - (intOf v).toNat)
  case atStart => exact ⟨0, d1, rfl, f0, rfl, HF0⟩
  case round =>
    obtain ⟨i, hi, rfl, x, rfl, hx⟩ := hrel
    by_cases hlt : i + 1 < n
    · obtain ⟨_, e, _, hc1, hv1⟩ := HO.out (i + 1) hlt
      cases e
      have HX : Hid (f (i + 1) = max x (V (i + 1))) := Lib.hid (by rw [HS.out, hx.out])
      obtain ⟨j, hj⟩ : ∃ j, i + 1 = j := ⟨_, rfl⟩
      rw [hj] at hc1 HX hlt ⊢
      have hlti : (j : Int) < (n : Int) := by omega
      obtain ⟨v, hv⟩ : ∃ v, V j = v := ⟨_, rfl⟩
      rw [hv] at hc1 HX
      have HJ := Lib.hid hj
      clear hx hv hv1 hj hc
      go_wp2_with fail
      go_round
      case rel => exact ⟨j, by omega, by go_num, _, rfl, HX⟩
      case measure => simp [intOf]; omega
    · have hin : i + 1 = n := by omega
      have hge : ¬ ((i + 1 : Nat) : Int) < (n : Int) := by omega
      have HX : Hid (f d = x) := Lib.hid (by
        rw [← hx.out]
        congr 1
        have := HN.out
        omega)
      obtain ⟨j, hj⟩ : ∃ j, i + 1 = j := ⟨_, rfl⟩
      rw [hj] at hge ⊢
      clear hin hx hj
      go_wp2_with fail
      go_ret
      exact ⟨by rw [HX.out]; rfl, rfl⟩
/-- the greatest of the first d + 1. -/
def topI (V : Nat → Int) : Nat → Int
  | 0 => V 0
  | d + 1 => max (topI V d) (V (d + 1))
theorem topI_le (V : Nat → Int) : ∀ d i, i ≤ d → V i ≤ topI V d
  | 0, i, h => by
    obtain rfl : i = 0 := by omega
    exact Int.le_refl _
  | d + 1, i, h => by
    have e : topI V (d + 1) = max (topI V d) (V (d + 1)) := rfl
    by_cases g : i = d + 1
    · subst g
      omega
    · have := topI_le V d i (by omega)
      omega
theorem topI_at (V : Nat → Int) : ∀ d, ∃ i, i ≤ d ∧ topI V d = V i
  | 0 => ⟨0, Nat.le_refl _, rfl⟩
  | d + 1 => by
    obtain ⟨i, h1, h2⟩ := topI_at V d
    have e : topI V (d + 1) = max (topI V d) (V (d + 1)) := rfl
    by_cases g : topI V d ≤ V (d + 1)
    · exact ⟨d + 1, Nat.le_refl _, by omega⟩
    · exact ⟨i, by omega, by omega⟩

set_option maxRecDepth 100000 in
set_option maxHeartbeats 1600000 in
/-- slices.Index of what is there: where it stands first. -/
theorem sindex_any (A : Option Addr) (n c : Nat) (V : Nat → Int) (x : Int) (j B : Nat) (w : World) (hn : n ≤ 4194304) (hj : j < n) (hx : V j = x) (hf : ∀ i, i < j → V i ≠ x) (ho : Its w B A n V) :
    Calls Tryz.prog 43 #[.slice A n c, .int .i64 x] w fun e w' => e = .returned (.int .i64 (j : Int)) ∧ w = w' := by
  have HO := Lib.hid ho
  have HF := Lib.hid (And.intro hx hf)
  clear hx hf ho
  go_enter Tryz.func43, Tryz.ntmps43
  go_wp2_with fail
  go_loop [8] (fun v => ∃ i : Nat, i ≤ j ∧ v = .int .i64 (i : Int)) (fun v => n - (intOf v).toNat)
  case atStart => exact ⟨0, Nat.zero_le _, rfl⟩
  case round =>
    obtain ⟨i, hi, rfl⟩ := hrel
    have hlt : i < n := by omega
    have hlti : (i : Int) < (n : Int) := by omega
    obtain ⟨ad, rfl, _, hc, _⟩ := HO.out i hlt
    by_cases e : i = j
    · subst e
      rw [HF.out.1] at hc
      have e1 : (x == x) = true := by simp
      go_wp2_with fail
      go_ret
      exact ⟨rfl, rfl⟩
    · have hne := HF.out.2 i (by omega)
      obtain ⟨v, hv⟩ : ∃ v, V i = v := ⟨_, rfl⟩
      rw [hv] at hc hne
      have e1 : (x == v) = false := by rw [beq_eq_false_iff_ne]; exact fun g => hne g.symm
      have e2 : ¬ x = v := fun g => hne g.symm
      clear hv
      go_wp2_with fail
      go_round
      case rel => exact ⟨i + 1, by omega, by go_num⟩
      case measure => simp [intOf]; omega
theorem first_at {V : Nat → Int} {x : Int} : ∀ {n : Nat}, V n = x → ∃ j, j ≤ n ∧ V j = x ∧ ∀ i, i < j → V i ≠ x := by
  intro n
  induction n using Nat.strongRecOn with
  | ind n ih =>
    intro h
    by_cases g : ∃ i, i < n ∧ V i = x
    · obtain ⟨i, h1, h2⟩ := g
      obtain ⟨j, h3, h4⟩ := ih i h1 h2
      exact ⟨j, by omega, h4⟩
    · exact ⟨n, Nat.le_refl _, h, fun i hi e => g ⟨i, hi, e⟩⟩
set_option maxHeartbeats 800000 in
theorem endsOnce_is (A : Option Addr) (n c : Nat) (V : Nat → Int) (w : World) (hn : n ≤ 4194304) (hnc : n ≤ c) (ho : Its w w.heap.size A n V) (r : Bool) (hr : r = true ↔ OnceT V n) :
    Calls Tryz.prog 27 #[.slice A n c] w fun e w' => e = .returned (.bool r) ∧ w = w' := by
  rcases Nat.eq_zero_or_pos n with rfl | h0
  · obtain rfl : r = false := Bool.eq_false_iff.2 fun e => by have := (hr.1 e).1; omega
    clear hr ho
    go_enter Tryz.func27, Tryz.ntmps27
    go_wp2_with fail
    go_ret
    exact ⟨rfl, rfl⟩
  · obtain ⟨l, hl⟩ : ∃ l, n - 1 = l := ⟨_, rfl⟩
    obtain ⟨j, hj1, hj2, hj3⟩ := first_at (V := V) (x := V l) (n := l) rfl
    obtain ⟨ad, rfl, _, hc, _⟩ := ho l (by omega)
    have HI := Lib.hid (sindex_any (some ad) n c V (V l) j w.heap.size w hn (by omega) hj2 hj3 ho)
    have hrj : decide (j = l) = r := by
      rw [Bool.eq_iff_iff, hr, decide_eq_true_iff]
      unfold OnceT
      rw [hl]
      constructor
      · rintro rfl
        exact ⟨h0, fun i hi => hj3 i (by omega)⟩
      · rintro ⟨_, h⟩
        by_cases e : j = l
        · exact e
        · exact absurd hj2 (h j (by omega))
    have e0 : ((j : Int) == (l : Int)) = r := by
      rw [← hrj, Bool.eq_iff_iff, beq_iff_eq, decide_eq_true_iff]
      omega
    have e1 : IntKind.i64.wrap ((n : Int) - 1) = (l : Int) := by rw [IntWalk.i64_in _ (by omega)]; omega
    have e2 : (l : Int) < (n : Int) := by omega
    have e3 : l < n := by omega
    obtain ⟨x, hx⟩ : ∃ x, V l = x := ⟨_, rfl⟩
    rw [hx] at hc HI
    have e4 : (0 : Int) < (n : Int) := by omega
    have e5 : decide ((0 : Int) < (n : Int)) = true := decide_eq_true e4
    clear hr ho hl hj1 hj2 hj3 hrj hx
    go_enter Tryz.func27, Tryz.ntmps27
    go_wp2_with (go_at_call 43; (with_reducible refine HI.out.mono ?_); rintro e w' ⟨rfl, rfl⟩)
    go_ret
    exact ⟨rfl, rfl⟩

set_option maxHeartbeats 800000 in
theorem isOrder_is (A : Option Addr) (n c : Nat) (T : Nat → Int) (A' : Option Addr) (n' c' : Nat) (S : Nat → Int) (al : Int) (w : World) (hn : n ≤ 4194303) (hn' : n' ≤ 4194303) (ho : ItsR w A n c T) (ho' : ItsR w A' n' c' S) (r : Bool) (hr : r = true ↔ RightS T n al ∧ n' = n ∧ ∃ s, IsSA T n s ∧ ∀ i, i < n → S i = ((s i : Nat) : Int)) :
    Calls Tryz.prog 28 #[.slice A' n' c', .slice A n c, .int .i64 al] w fun e w' => e = .returned (.bool r) ∧ Below w.heap.size w w' := by
  have hA := array_any A n c T al w (by unfold maxLen; omega) ho.1 ho.2.1 ho.2.2.1 ho.2.2.2
  unfold ArrayPost at hA
  have HO' := Lib.hid ho'
  by_cases hR : RightS T n al
  · have HA : Hid (Calls Tryz.prog 44 #[.slice A n c, .int .i64 al] w fun e w' => (∃ (A' : Option Addr) (c' : Nat) (s : Nat → Nat), e = .returned (.tuple #[.slice A' n c', .int .i64 0]) ∧ IsSA T n s ∧ ItsR w' A' n c' (fun i => ((s i : Nat) : Int))) ∧ Below w.heap.size w w') := Lib.hid (hA.mono fun e w' h => by
      obtain ⟨A2, c2, s, h1, h2, _, h3⟩ := h.1 hR
      exact ⟨⟨A2, c2, s, h1, h2, h3⟩, h.2.2⟩)
    have HR := Lib.hid (And.intro hR hr)
    clear hA hr ho ho' hR
    go_enter Tryz.func28, Tryz.ntmps28
    go_wp2_with (go_at_call 44; (with_reducible refine HA.out.mono ?_); rintro e w1 ⟨⟨A2, c2, s, rfl, hs, hi⟩, hb⟩; have HE := Lib.hid (equal_any A' A2 n' n c' c2 S (fun i => ((s i : Nat) : Int)) w1.heap.size w1 (by omega) ((HO'.out.below hb).2.2.2) hi.2.2.2 r (by
      rw [HR.out.2]
      constructor
      · rintro ⟨_, h1, s', h2, h3⟩
        refine ⟨h1, fun i hi => ?_⟩
        rw [h1] at hi
        rw [h3 i hi, h2.one hs i hi]
      · rintro ⟨h1, h2⟩
        exact ⟨HR.out.1, h1, s, hs, fun i hi => h2 i (by omega)⟩)); have HB := Lib.hid hb; clear hs hi hb)
    refine HE.out.mono ?_
    rintro e w2 ⟨rfl, j, rfl⟩
    go_wp2_with fail
    go_ret
    exact ⟨rfl, below_drewN' HB.out j⟩
  · obtain rfl : r = false := Bool.eq_false_iff.2 fun e => hR (hr.1 e).1
    have HA : Hid (Calls Tryz.prog 44 #[.slice A n c, .int .i64 al] w fun e w' => (∃ (A' : Option Addr) (c' : Nat), e = .returned (.tuple #[.slice A' 0 c', .int .i64 2])) ∧ Below w.heap.size w w') := Lib.hid (hA.mono fun e w' h => ⟨h.2.1 hR, h.2.2⟩)
    clear hA hr ho ho' hR
    go_enter Tryz.func28, Tryz.ntmps28
    go_wp2_with (go_at_call 44; (with_reducible refine HA.out.mono ?_); rintro e w1 ⟨⟨A2, c2, rfl⟩, hb⟩; have HB := Lib.hid hb; clear hb)
    go_ret
    exact ⟨rfl, HB.out⟩

theorem full_alike {w : World} {g gs width n : Nat} {ws : List Nat} {x y : Nat → Nat} (h : Full w g gs width n ws x) (e : ∀ i, i < n → x i = y i) : Full w g gs width n ws y :=
  ⟨h.pk, ⟨h.holds.w1, h.holds.w64, h.holds.len, h.holds.small, fun i hi => by rw [← e i hi]; exact h.holds.fits i hi, fun i j hi hj => by rw [← e i hi]; exact h.holds.bits i j hi hj, h.holds.behind⟩, h.few⟩
/-- what packed leaves. -/
def PackedPost (w : World) (n most : Nat) (V : Nat → Int) (e : Ending) (w' : World) : Prop :=
  ∃ (g gs : Nat) (ws : List Nat), e = .returned (.tuple #[.pointer (some ⟨g, 0, none⟩), .int .i64 0]) ∧ w.heap.size ≤ g ∧ w.heap.size ≤ gs ∧ Full w' g gs (wdN most) n ws (fun i => (V i).toNat) ∧ Below w.heap.size w w'
set_option maxRecDepth 100000 in
set_option maxHeartbeats 1600000 in
theorem packed_any (A : Option Addr) (n c : Nat) (V : Nat → Int) (most : Nat) (w : World) (hn : n ≤ 4194304) (hm : most ≤ 4194304) (hV : ∀ i, i < n → 0 ≤ V i ∧ V i ≤ (most : Int)) (ho : ItsR w A n c V) :
    Calls Tryz.prog 50 #[.slice A n c, .int .i64 (most : Int)] w (PackedPost w n most V) := by
  have HO := Lib.hid ho
  obtain ⟨h1, h64, hlt, _⟩ := wdN_spec (x := most) (by omega)
  have HW := Lib.hid (widthOf_any most (by omega) w)
  obtain ⟨wd, hwd⟩ : ∃ wd, wdN most = wd := ⟨_, rfl⟩
  rw [hwd] at h1 h64 hlt HW
  have HD := Lib.hid hwd
  have HV : Hid (∀ i, i < n → ∃ x : Nat, V i = (x : Int) ∧ x ≤ most ∧ x < 2 ^ wd) := Lib.hid fun i hi => ⟨(V i).toNat, by have := hV i hi; omega, by have := hV i hi; omega, by have := hV i hi; omega⟩
  have HN := Lib.hid (new_full wd n h1 h64 hn w)
  have e0 : IntKind.u64.wrap (most : Int) = (most : Int) := IntWalk.u64_in _ (by omega)
  clear ho hV h1 h64 hlt hwd
  go_enter Tryz.func50, Tryz.ntmps50
  go_wp2_with (first
    | (go_at_call 71; (with_reducible refine HW.out.mono ?_); rintro e w' ⟨rfl, rfl⟩)
    | (go_at_call 76; (with_reducible refine HN.out.mono ?_); rintro e w1 ⟨gp, gps, rfl, hg1, hg2, hb1, ws0, hF0⟩; have H0 := Lib.hid hF0; have HB1 := Lib.hid hb1; have HG := Lib.hid (And.intro hg1 hg2); clear hF0 hb1 hg1 hg2))
  go_loopw [24] (fun v wr => ∃ i : Nat, i ≤ n ∧ v = .int .i64 (i : Int) ∧ Hid (∃ (ws : List Nat) (x : Nat → Nat), Full wr gp gps wd n ws x ∧ ∀ j, j < i → x j = (V j).toNat) ∧ Hid (Below w.heap.size w wr)) (fun v _ => n - (intOf v).toNat)
  case atStart => exact ⟨0, Nat.zero_le _, rfl, Lib.hid ⟨ws0, _, H0.out, fun j h => absurd h (Nat.not_lt_zero j)⟩, HB1⟩
  case round =>
    clear H0 HB1
    obtain ⟨i, hi, rfl, hF, hB⟩ := hrel
    by_cases hlt : i < n
    · have hlti : (i : Int) < (n : Int) := by omega
      obtain ⟨ad, rfl, _, hc, _⟩ := HO.out.2.2.2.below hB.out i hlt
      obtain ⟨y, hy, hym, hyw⟩ := HV.out i hlt
      rw [hy] at hc
      obtain ⟨ws, x, hFu, hx⟩ := hF.out
      have HS := Lib.hid (hFu.set_ i y hlt hyw)
      have hsz := hB.out.size
      have e1 : IntKind.u64.wrap (y : Int) = (y : Int) := IntWalk.u64_in _ (by omega)
      have HX : Hid (∀ j, j < i + 1 → (fun k => if k = i then y else x k) j = (V j).toNat) := Lib.hid fun j hj => by
        by_cases e : j = i
        · show (if j = i then y else x j) = _
          rw [if_pos e, e, hy, Int.toNat_natCast]
        · show (if j = i then y else x j) = _
          rw [if_neg e]
          exact hx j (by omega)
      clear hFu hx hF hy hyw
      go_wp2_with (go_at_call 77; (with_reducible refine HS.out.mono ?_); rintro e w2 ⟨rfl, ws2, hF2, hg2⟩; have HF2 := Lib.hid hF2; have HG2 := Lib.hid hg2; clear hF2 hg2)
      go_roundw
      case rel => exact ⟨i + 1, by omega, by go_num, Lib.hid ⟨ws2, _, HF2.out, HX.out⟩, Lib.hid (hB.out.trans (below_of_grownBy HG2.out HG.out.2 hsz))⟩
      case measure => simp [intOf]; omega
    · obtain rfl : i = n := by omega
      have hge : ¬ (i : Int) < (i : Int) := by omega
      go_wp2_with fail
      go_ret2
      obtain ⟨ws, x, hFu, hx⟩ := hF.out
      exact ⟨gp, gps, ws, rfl, HG.out.1, HG.out.2, by rw [HD.out]; exact full_alike hFu hx, hB.out⟩

theorem its_unlike {w : World} {B n : Nat} {A : Option Addr} {V : Nat → Int} {p : Addr} {u v : Value} (h : Its w B A n V) (hp : w.cell? p = some v) (hv : ∀ x, v ≠ .int .i64 x) : Its (w.setCell p u) B A n V := fun k hk => by
  obtain ⟨ad, e, h1, h2, h3⟩ := h k hk
  refine ⟨ad, e, h1, (World.cell?_setCell_other _ _ _ _ ?_).trans h2, h3⟩
  rintro rfl
  rw [hp] at h2
  exact hv _ (Option.some.inj h2)
theorem itsR_unlike {w : World} {n c : Nat} {A : Option Addr} {V : Nat → Int} {p : Addr} {u v : Value} (h : ItsR w A n c V) (hp : w.cell? p = some v) (hv : ∀ x, v ≠ .int .i64 x) : ItsR (w.setCell p u) A n c V :=
  ⟨h.1, h.2.1, h.2.2.1, (its_unlike h.2.2.2 hp hv).mono_ (by simp [World.setCell])⟩
theorem Mx.lowB {w : World} {B B' g gl cl n m : Nat} {V : Nat → Int} (h : Mx w B g gl cl n V m) (hB : B' ≤ B) : Mx w B' g gl cl n V m :=
  ⟨h.head, h.cap, fun k hk => by
    obtain ⟨gv, gw, av, ws, h1, h2⟩ := h.row k hk
    exact ⟨gv, gw, av, ws, h1, h2.lowB hB⟩, ⟨Nat.le_trans hB h.lo.1, Nat.le_trans hB h.lo.2.1, h.lo.2.2⟩, h.right, h.sl⟩
theorem vptr_ne (a : Option Addr) (x : Int) : Value.pointer a ≠ .int .i64 x := fun e => by cases e
/-- what turn leaves. -/
structure TurnedAt (w w' : World) (g n k : Nat) (V : Nat → Int) (last : Int) (m gm gl cl gb gbs wb : Nat) (wsb : List Nat) : Prop where
  head : Lies w' g 60 [.int .i64 last, .int .i64 (k : Int), .pointer (some ⟨gm, 0, none⟩), .pointer (some ⟨gb, 0, none⟩), .pointer none, .pointer none]
  row : Mx w' w.heap.size gm gl cl n V m
  below : Full w' gb gbs wb (m + 2) wsb (fun x => belowI V n (x : Int))
  lo : w.heap.size ≤ gb ∧ w.heap.size ≤ gbs
  off : Off (fun q => q ≠ g) w w'

set_option maxRecDepth 100000 in
set_option maxHeartbeats 3200000 in
theorem fdTurn_any (A : Option Addr) (n c : Nat) (T : Nat → Int) (A' : Option Addr) (n' c' : Nat) (S : Nat → Int) (last : Int) (k g m : Nat) (w : World) (h0 : 0 < n) (hn : n ≤ 4194303) (hnn : n' = n) (hS : IsPerm S n) (hm : topI T (n - 1) = (m : Int)) (hm2 : m ≤ 4194302) (hT : ∀ i, i < n → 0 ≤ T i)
    (hl : Lies w g 60 [.int .i64 last, .int .i64 (k : Int), .pointer none, .pointer none, .pointer none, .pointer none]) (ho : ItsR w A n c T) (ho' : ItsR w A' n' c' S) :
    Calls Tryz.prog 29 #[.pointer (some ⟨g, 0, none⟩), .slice A n c, .slice A' n' c'] w fun e w' => e = .returned (.int .i64 0) ∧ ∃ gm gl cl gb gbs wb wsb, TurnedAt w w' g n k (turnI T n S) last m gm gl cl gb gbs wb wsb := by
  obtain rfl := hnn.symm
  obtain ⟨d, hd⟩ : ∃ d, n - 1 = d := ⟨_, rfl⟩
  have hnd : n = d + 1 := by omega
  rw [hd] at hm
  have hV : ∀ i, i < n → 0 ≤ turnI T n S i ∧ turnI T n S i ≤ (m : Int) := fun i hi => by
    have hp := hS.1 i hi
    rw [turnI_at (p := (S i).toNat) (by omega)]
    have hl := aheadN_lt (show (S i).toNat < n by omega)
    have := topI_le T d (aheadN n (S i).toNat) (by omega)
    exact ⟨hT _ hl, by omega⟩
  obtain ⟨V, hVe⟩ : ∃ V, turnI T n S = V := ⟨_, rfl⟩
  have hMk := bwMake_any A n c T A' n c' S w hn hn ho ho'
  unfold BMakePost at hMk
  rw [hVe] at hMk hV ⊢
  have HMk : Hid (Calls Tryz.prog 46 #[.slice A n c, .slice A' n c'] w fun e w' => (∃ (A2 : Option Addr) (c2 : Nat), e = .returned (.tuple #[.slice A2 n c2, .int .i64 0]) ∧ ItsR w' A2 n c2 V) ∧ Below w.heap.size w w') := Lib.hid (hMk.mono fun e w' h => ⟨h.1 ⟨rfl, hS⟩, h.2.2⟩)
  have HMx : ∀ W, Below w.heap.size w W → Hid (Calls Tryz.prog 47 #[.slice A n c] W fun e w' => e = .returned (.int .i64 (m : Int)) ∧ W = w') := fun W hW => Lib.hid (by
    have := smax_any A d c T (topI T) W.heap.size W (by omega) rfl (fun i => rfl) (by rw [← hnd]; exact (ho.below hW).2.2.2)
    rwa [← hnd, hm] at this)
  have HV := Lib.hid (show RightW V n (m : Int) ∧ RightS V n ((m + 1 : Nat) : Int) from ⟨⟨by omega, by omega, by omega, hV⟩, ⟨by omega, by omega, by omega⟩, fun i hi => by have := hV i hi; omega⟩)
  have HL := Lib.hid hl
  have hg := hl.lt
  have e1 : IntKind.i64.wrap ((m : Int) + 1) = ((m + 1 : Nat) : Int) := by rw [IntWalk.i64_in _ (by omega)]; omega
  obtain ⟨m1, hm1⟩ : ∃ m1, m + 1 = m1 := ⟨_, rfl⟩
  rw [hm1] at e1 HV
  have HM1 := Lib.hid hm1
  clear ho ho' hMk hV hVe hm hT hd hnd hS hl hm1
  go_enter Tryz.func29, Tryz.ntmps29
  go_wp2_with fail
  refine HMk.out.mono ?_
  rintro e w1 ⟨⟨A2, c2, rfl, hi⟩, hb1⟩
  have HX := HMx w1 hb1
  have HNw := Lib.hid (wvNew_yes A2 n c2 V m w1 hn hi HV.out.1)
  have HI := Lib.hid hi
  have HB1 := Lib.hid hb1
  clear hi hb1 HMk HMx
  go_wp2_with fail
  refine HX.out.mono ?_
  rintro e w1' ⟨rfl, rfl⟩
  clear HX
  go_wp2_with fail
  refine HNw.out.mono ?_
  rintro e w2 ⟨⟨gm, gl, cl, rfl, hMx⟩, hb2⟩
  have hB2 : Below w.heap.size w w2 := HB1.out.trans (hb2.mono HB1.out.size)
  have hl2 := HL.out.below hB2 hg
  have c2' : w2.cell? ⟨g, 2, none⟩ = some (.pointer none) := hl2.cell 2
  have f2 := hl2.free 2
  obtain ⟨w3, hw3⟩ : ∃ w3, w2.setCell ⟨g, 2, none⟩ (.pointer (some ⟨gm, 0, none⟩)) = w3 := ⟨_, rfl⟩
  have hl3 : Lies w3 g 60 [.int .i64 last, .int .i64 (k : Int), .pointer (some ⟨gm, 0, none⟩), .pointer none, .pointer none, .pointer none] := by rw [← hw3]; exact hl2.put 2 _
  have hi3 : ItsR w3 A2 n c2 V := by rw [← hw3]; exact itsR_unlike (HI.out.below hb2) c2' (vptr_ne _)
  have o23 : Off (fun q => q ≠ g) w2 w3 := by rw [← hw3]; exact Off.setCell (fun h => h rfl) _
  have o3 : Off (fun q => q ≠ g) w w3 := (Off.call hB2).trans o23
  have hMx3 : Mx w3 w.heap.size gm gl cl n V m := (hMx.keepB o23.size fun q hq hq2 => o23.block q hq2 (by have := HB1.out.size; omega)).lowB HB1.out.size
  have hCo := bwCounts_any A2 n c2 V (m1 : Int) w3 hn (by have := HM1.out; omega) hi3
  unfold BCountsPost at hCo
  have HCo : Hid (Calls Tryz.prog 49 #[.slice A2 n c2, .int .i64 (m1 : Int)] w3 fun e w' => (∃ (A3 : Option Addr) (c3 : Nat), e = .returned (.tuple #[.slice A3 (m + 2) c3, .int .i64 0]) ∧ ItsR w' A3 (m + 2) c3 (fun x => ((belowI V n (x : Int) : Nat) : Int))) ∧ Below w3.heap.size w3 w') := Lib.hid (hCo.mono fun e w' h => by
    obtain ⟨A3, c3, h1, h2⟩ := h.1 HV.out.2
    rw [Int.toNat_natCast, ← HM1.out] at h1 h2
    exact ⟨⟨A3, c3, h1, h2⟩, h.2.2⟩)
  have HL3 := Lib.hid hl3
  have HO3 := Lib.hid o3
  have HMx3 := Lib.hid hMx3
  clear hMx hb2 hB2 hl2 hl3 hi3 o23 o3 hMx3 hCo HNw HI HB1
  go_wp2_with fail
  clear hw3
  refine HCo.out.mono ?_
  rintro e w4 ⟨⟨A3, c3, rfl, hi4⟩, hb4⟩
  have HPk := Lib.hid (packed_any A3 (m + 2) c3 _ n w4 (by omega) (by omega) (fun x _ => by
    have := belowI_le V n (x : Int)
    show 0 ≤ ((belowI V n (x : Int) : Nat) : Int) ∧ ((belowI V n (x : Int) : Nat) : Int) ≤ (n : Int)
    omega) hi4)
  have HB4 := Lib.hid hb4
  clear hb4 hi4 HCo
  go_wp2_with fail
  refine HPk.out.mono ?_
  rintro e w5 ⟨gb, gbs, wsb, rfl, hg1, hg2, hF, hb5⟩
  have hb45 : Below w3.heap.size w3 w5 := HB4.out.trans (hb5.mono HB4.out.size)
  have hl5 := HL3.out.below hb45 HL3.out.lt
  have c5 : w5.cell? ⟨g, 3, none⟩ = some (.pointer none) := hl5.cell 3
  have f5 := hl5.free 3
  have hlt3 := HL3.out.lt
  have hs4 := HB4.out.size
  have hs3 := HO3.out.size
  have HEnd : Hid (TurnedAt w (w5.setCell ⟨g, 3, none⟩ (.pointer (some ⟨gb, 0, none⟩))) g n k V last m gm gl cl gb gbs (wdN n) wsb) := Lib.hid (by
    have o56 : Off (fun q => q ≠ g) w5 (w5.setCell ⟨g, 3, none⟩ (.pointer (some ⟨gb, 0, none⟩))) := Off.setCell (fun h => h rfl) _
    refine ⟨hl5.put 3 _, (HMx3.out.keep hb45).keepB o56.size fun q hq hq2 => o56.block q hq2 (by omega), full_alike (hF.far (p := ⟨g, 3, none⟩) (by show gb ≠ g; omega) (by show gbs ≠ g; omega) _) (fun i _ => Int.toNat_natCast _), ⟨by omega, by omega⟩, ?_⟩
    exact HO3.out.trans ((Off.call hb45).trans o56))
  clear hb45 hl5 hF hb5 HPk HB4 HL3 HO3 HMx3 HV
  go_wp2_with fail
  go_ret
  exact ⟨rfl, _, _, _, _, _, _, _, HEnd.out⟩

theorem itsR_row {w : World} {B n c : Nat} {A : Option Addr} {V : Nat → Int} (h : w.ownsRow B 3 1 (.slice A n c) n (icells V n)) (hV : ∀ i, i < n → -9223372036854775808 ≤ V i ∧ V i ≤ 9223372036854775807) : ItsR w A n c V := by
  obtain ⟨A', c', e, hI⟩ := ItsR.of_own h hV
  cases e
  exact hI
theorem wdN_one : wdN 1 = 1 := by decide
/-- the suffixes ahead of number i are gone through. -/
structure MkIn (w W : World) (G n k : Nat) (s : Nat → Nat) (i : Nat) (v : Value) : Prop where
  marks : ∃ U, Lies W G 3 (icells U n) ∧ ∀ j, j < n → U j = if j < i ∧ s j % k = 0 then 1 else 0
  mult : ∃ X : Nat → Nat, W.ownsRow (G + 1) 3 1 v (cnt (mkB s k) i) (icells (fun p => ((X p : Nat) : Int)) (cnt (mkB s k) i)) ∧ (∀ j, j < i → s j % k = 0 → X (cnt (mkB s k) j) = s j / k) ∧ ∀ p, p < cnt (mkB s k) i → X p ≤ (n - 1) / k
  below : Below G w W
theorem MkIn.miss {w W : World} {G n k i : Nat} {s : Nat → Nat} {v : Value} (h : MkIn w W G n k s i v) (hm : s i % k ≠ 0) : MkIn w W G n k s (i + 1) v := by
  obtain ⟨U, h1, h2⟩ := h.marks
  obtain ⟨X, h3, h4, h5⟩ := h.mult
  have e : cnt (mkB s k) (i + 1) = cnt (mkB s k) i := by rw [cnt_succ]; unfold mkB; rw [decide_eq_false hm]; rfl
  refine ⟨⟨U, h1, fun j hj => ?_⟩, ⟨X, by rw [e]; exact h3, fun j hj hz => h4 j ?_ hz, by rw [e]; exact h5⟩, h.below⟩
  · rw [h2 j hj]
    by_cases g : j = i
    · subst g
      rw [if_neg (fun g => hm g.2), if_neg (fun g => hm g.2)]
    · by_cases g2 : j < i ∧ s j % k = 0
      · rw [if_pos g2, if_pos ⟨by omega, g2.2⟩]
      · rw [if_neg g2, if_neg (fun g3 => g2 ⟨by omega, g3.2⟩)]
  · by_cases g : j = i
    · subst g
      exact absurd hz hm
    · omega
theorem MkIn.hit {w W W2 : World} {G n k i c gx : Nat} {s : Nat → Nat} {v : Value} {U : Nat → Int} {X : Nat → Nat} (hi : i < n) (hs : s i < n) (hm : s i % k = 0)
    (h1 : Lies W G 3 (icells U n)) (h2 : ∀ j, j < n → U j = if j < i ∧ s j % k = 0 then 1 else 0) (h4 : ∀ j, j < i → s j % k = 0 → X (cnt (mkB s k) j) = s j / k) (h5 : ∀ p, p < cnt (mkB s k) i → X p ≤ (n - 1) / k)
    (hb : Below G w W) (hG : G ≤ w.heap.size) (hv : ∀ x, v.ownBlock = some x → G + 1 ≤ x)
    (ho : W2.ownsRow (G + 1) 3 1 (.slice (some ⟨gx, 0, none⟩) (cnt (mkB s k) i + 1) c) (cnt (mkB s k) i + 1) (icells (fun p => ((X p : Nat) : Int)) (cnt (mkB s k) i) ++ [.int .i64 ((s i / k : Nat) : Int)]))
    (hg : (W.setCell ⟨G, i, none⟩ (.int .i64 1)).grownBy W2 v.ownBlock) : MkIn w W2 G n k s (i + 1) (.slice (some ⟨gx, 0, none⟩) (cnt (mkB s k) i + 1) c) := by
  have e : cnt (mkB s k) (i + 1) = cnt (mkB s k) i + 1 := by rw [cnt_succ]; unfold mkB; rw [decide_eq_true hm]; rfl
  obtain ⟨q, hq⟩ : ∃ q, cnt (mkB s k) i = q := ⟨_, rfl⟩
  rw [hq] at ho h5 e ⊢
  refine ⟨⟨putI U i 1, ?_, fun j hj => ?_⟩, ⟨fun p => if p = q then s i / k else X p, ?_, fun j hj hz => ?_, fun p hp => ?_⟩, ?_⟩
  · have := h1.put i (.int .i64 1)
    rw [icells_put] at this
    exact Lies.grown this hg (fun e' => by have := hv G e'.symm; omega)
  · by_cases g : j = i
    · subst g
      rw [putI_at, if_pos ⟨by omega, hm⟩]
    · rw [putI_off _ g, h2 j hj]
      by_cases g2 : j < i ∧ s j % k = 0
      · rw [if_pos g2, if_pos ⟨by omega, g2.2⟩]
      · rw [if_neg g2, if_neg (fun g3 => g2 ⟨by omega, g3.2⟩)]
  · rw [e]
    have : icells (fun p => ((if p = q then s i / k else X p : Nat) : Int)) (q + 1) = icells (fun p => ((X p : Nat) : Int)) q ++ [.int .i64 ((s i / k : Nat) : Int)] := by
      rw [icells_snoc]
      congr 1
      · exact icells_congr fun j hj => by rw [if_neg (by omega)]
      · rw [if_pos rfl]
    rw [this]
    exact ho
  · by_cases g : j = i
    · subst g
      show (if cnt (mkB s k) j = q then s j / k else _) = _
      rw [if_pos hq]
    · have hj2 : cnt (mkB s k) j < q := by
        have h1 := cnt_mono_ (f := mkB s k) (show j + 1 ≤ i by omega)
        rw [cnt_succ, hq] at h1
        unfold mkB at h1
        rw [decide_eq_true hz, if_pos rfl] at h1
        unfold mkB
        omega
      show (if cnt (mkB s k) j = q then s i / k else X (cnt (mkB s k) j)) = _
      rw [if_neg (by omega)]
      exact h4 j (by omega) hz
  · show (if p = q then s i / k else X p) ≤ _
    by_cases g : p = q
    · rw [if_pos g]
      exact Nat.div_le_div_right (by omega)
    · rw [if_neg g]
      exact h5 p (by omega)
  · refine (hb.setCell (p := ⟨G, i, none⟩) (Nat.le_refl _) _).grown hg ?_ (fun x hx => by have := hv x hx; omega)
    have := hb.size
    simp [World.setCell]
    omega
/-- what mark leaves. -/
structure MarkedAt (w w' : World) (g n k : Nat) (s : Nat → Nat) (last : Int) (pm pb : Value) (gk gw gp gps wp : Nat) (av : Value) (wsk wsp : List Nat) (X : Nat → Nat) : Prop where
  head : Lies w' g 60 [.int .i64 last, .int .i64 (k : Int), pm, pb, .pointer (some ⟨gk, 0, none⟩), .pointer (some ⟨gp, 0, none⟩)]
  marked : Vc w' w.heap.size gk gw av n wsk (mkB s k)
  places : Full w' gp gps wp (cnt (mkB s k) n) wsp X
  mult : ∀ i, i < n → s i % k = 0 → X (cnt (mkB s k) i) = s i / k
  lo : w.heap.size ≤ gp ∧ w.heap.size ≤ gps
  off : Off (fun q => q ≠ g) w w'

set_option maxRecDepth 100000 in
set_option maxHeartbeats 3200000 in
theorem fdMark_any (A : Option Addr) (n c : Nat) (S : Nat → Int) (s : Nat → Nat) (last : Int) (pm pb : Value) (k g : Nat) (w : World) (h0 : 0 < n) (hn : n ≤ 4194303) (hk : 1 ≤ k) (hk4 : k ≤ 4194304) (hS : ∀ i, i < n → S i = ((s i : Nat) : Int)) (hs : ∀ i, i < n → s i < n)
    (hl : Lies w g 60 [.int .i64 last, .int .i64 (k : Int), pm, pb, .pointer none, .pointer none]) (ho : ItsR w A n c S) :
    Calls Tryz.prog 30 #[.pointer (some ⟨g, 0, none⟩), .slice A n c] w fun e w' => e = .returned (.int .i64 0) ∧ ∃ gk gw gp gps wp av wsk wsp X, MarkedAt w w' g n k s last pm pb gk gw gp gps wp av wsk wsp X := by
  have HO := Lib.hid ho
  have HL := Lib.hid hl
  have HS := Lib.hid (And.intro hS hs)
  have hg := hl.lt
  obtain ⟨G, hG⟩ : ∃ G, w.heap.size = G := ⟨_, rfl⟩
  have hMk := make_ints0 w n (by omega)
  have l2 := lies_new w 3 (icells (fun _ => 0) n)
  have b2 : Below w.heap.size w (w.alloc (.cells (icells (fun _ => 0) n).toArray 3)) := (Below.refl _ _).alloc (Nat.le_refl _) _
  have z2 : (w.alloc (.cells (icells (fun _ => 0) n).toArray 3)).heap.size = G + 1 := by rw [size_alloc, hG]
  obtain ⟨w2, hw2⟩ : ∃ w2, w.alloc (.cells (icells (fun _ => 0) n).toArray 3) = w2 := ⟨_, rfl⟩
  rw [hw2] at hMk l2 b2 z2
  rw [hG] at hMk l2 b2 hg
  have H0 : Hid (MkIn w w2 G n k s 0 (.slice none 0 0)) := Lib.hid ⟨⟨_, l2, fun j hj => by rw [if_neg (fun h => absurd h.1 (Nat.not_lt_zero j))]⟩, ⟨fun _ => 0, World.ownsRow_nil _ _ _ _, fun j hj => absurd hj (Nat.not_lt_zero j), fun p hp => absurd hp (Nat.not_lt_zero p)⟩, b2⟩
  have HG := Lib.hid hG
  clear ho hl hS hs l2 b2 hw2 hG
  go_enter Tryz.func30, Tryz.ntmps30
  go_wp2_with fail
  go_loopw [6, 16] (fun v u wr => ∃ i : Nat, i ≤ n ∧ u = .int .i64 (i : Int) ∧ Hid (MkIn w wr G n k s i v) ∧ G + 1 ≤ wr.heap.size) (fun _ u _ => n - (intOf u).toNat)
  case atStart => exact ⟨0, Nat.zero_le _, rfl, H0, by omega⟩
  case round =>
    clear H0 hMk
    obtain ⟨i, hi, rfl, H, hsz⟩ := hrel
    have hB := H.out.below
    have hlr := HL.out.below hB hg
    have c1 : wr.cell? ⟨g, 1, none⟩ = some (.int .i64 (k : Int)) := hlr.cell 1
    by_cases hlt : i < n
    · have hlti : (i : Int) < (n : Int) := by omega
      obtain ⟨ad, rfl, _, hc, _⟩ := (HO.out.below (by rw [HG.out]; exact hB)).2.2.2 i hlt
      have hsi := HS.out.2 i hlt
      rw [HS.out.1 i hlt] at hc
      obtain ⟨p, hp⟩ : ∃ p, s i = p := ⟨_, rfl⟩
      rw [hp] at hc
      have hpn : p < n := by omega
      obtain ⟨r, hr⟩ : ∃ r, p % k = r := ⟨_, rfl⟩
      have e1 : (p : Int).tmod (k : Int) = (r : Int) := by rw [Int.tmod_eq_emod_of_nonneg (by omega), ← hr, Int.natCast_emod]
      have e2 : (p : Int) % (k : Int) = (r : Int) := by rw [← hr, Int.natCast_emod]
      have e3 : ¬ (k : Int) = 0 := by omega
      by_cases hr0 : r = 0
      · have e4 : ((r : Int) == 0) = true := by rw [hr0]; rfl
        obtain ⟨y, hy⟩ : ∃ y, p / k = y := ⟨_, rfl⟩
        have e5 : (p : Int).tdiv (k : Int) = (y : Int) := by rw [Int.tdiv_eq_ediv_of_nonneg (by omega), ← hy, Int.natCast_ediv]
        have e6 : (p : Int) / (k : Int) = (y : Int) := by rw [← hy, Int.natCast_ediv]
        have hyp : y ≤ p := by rw [← hy]; exact Nat.div_le_self _ _
        obtain ⟨U, hU1, hU2⟩ := H.out.marks
        obtain ⟨X, hX1, hX2, hX3⟩ := H.out.mult
        have cm : wr.cell? ⟨G, i, none⟩ = some (.int .i64 (U i)) := by rw [hU1.cell]; exact icells_at _ _ _ hlt
        have fm := hU1.free i
        have hvlo : ∀ x, u6.ownBlock = some x → G + 1 ≤ x := fun x hx => (hX1.lt x hx).1
        obtain ⟨q, hq⟩ : ∃ q, cnt (mkB s k) i = q := ⟨_, rfl⟩
        have hqi : q ≤ i := by rw [← hq]; exact cnt_le _ _
        have hX1' : (wr.setCell ⟨G, i, none⟩ (.int .i64 1)).ownsRow (G + 1) 3 1 u6 q (icells (fun p => ((X p : Nat) : Int)) q) := by
          rw [hq] at hX1
          exact owns_far hX1 (a := ⟨G, i, none⟩) (fun e => by have := hvlo G e; omega) _
        have c1' : (wr.setCell ⟨G, i, none⟩ (.int .i64 1)).cell? ⟨g, 1, none⟩ = some (.int .i64 (k : Int)) := (hlr.far (p := ⟨G, i, none⟩) (by show g ≠ G; omega) _).cell 1
        have z3 : (wr.setCell ⟨G, i, none⟩ (.int .i64 1)).heap.size = wr.heap.size := by simp [World.setCell]
        have HH : Hid (∀ (gx c : Nat) (W2 : World), W2.ownsRow (G + 1) 3 1 (.slice (some ⟨gx, 0, none⟩) (q + 1) c) (q + 1) (icells (fun p => ((X p : Nat) : Int)) q ++ [.int .i64 (y : Int)]) → (wr.setCell ⟨G, i, none⟩ (.int .i64 1)).grownBy W2 u6.ownBlock → MkIn w W2 G n k s (i + 1) (.slice (some ⟨gx, 0, none⟩) (q + 1) c) ∧ G + 1 ≤ W2.heap.size) := Lib.hid fun gx c W2 h1 h2 => ⟨by
          have := MkIn.hit (w := w) (W := wr) (W2 := W2) (G := G) (n := n) (k := k) (i := i) (c := c) (gx := gx) (s := s) (v := u6) hlt hsi (by rw [hp, hr, hr0]) hU1 hU2 hX2 hX3 hB (by rw [HG.out]; exact Nat.le_refl _) hvlo (by rw [hq, hp, hy]; exact h1) h2
          rwa [hq] at this, by have := h2.size; omega⟩
        obtain ⟨w3, hw3⟩ : ∃ w3, wr.setCell ⟨G, i, none⟩ (.int .i64 1) = w3 := ⟨_, rfl⟩
        rw [hw3] at hX1' c1' z3 HH
        subst hr0
        have HX1 := Lib.hid hX1'
        have hs3 : G + 1 ≤ w3.heap.size := by omega
        clear z3 hX1 hX2 hX3 hU1 hU2 hq hp hr hy hvlo hX1' hsi hlr
        go_wp2_with (at_builtin; refine step_append_int_own rfl (.tmp 31) (.tmp 38) rfl rfl HX1.out (y : Int) rfl (by omega) (by omega) ?_; intro gx cap w4 hown4 hg4 _; have HI := Lib.hid (HH.out gx cap w4 hown4.out hg4.out.1); clear hown4 hg4)
        go_roundw
        case rel => exact ⟨i + 1, by omega, by go_num, Lib.hid HI.out.1, HI.out.2⟩
        case measure => simp [intOf]; omega
      · have e4 : ((r : Int) == 0) = false := by rw [beq_eq_false_iff_ne]; omega
        have HI := Lib.hid (H.out.miss (by rw [hp, hr]; exact hr0))
        clear H hp hr hlr
        go_wp2_with fail
        go_roundw
        case rel => exact ⟨i + 1, by omega, by go_num, HI, hsz⟩
        case measure => simp [intOf]; omega
    · obtain rfl : i = n := by omega
      have hge : ¬ (i : Int) < (i : Int) := by omega
      obtain ⟨U, hU1, hU2⟩ := H.out.marks
      obtain ⟨X, hX1, hX2, hX3⟩ := H.out.mult
      have hUr : ∀ j, j < i → 0 ≤ U j ∧ U j ≤ ((1 : Nat) : Int) := fun j hj => by
        rw [hU2 j hj]
        split <;> omega
      have hP1 := packed_any (some ⟨G, 0, none⟩) i i U 1 wr (by omega) (by omega) hUr (itsR_lies (by omega) hU1 fun j hj => by have := hUr j hj; omega)
      rw [show ((1 : Nat) : Int) = 1 from rfl] at hP1
      have HP1 := Lib.hid hP1
      obtain ⟨q, hq⟩ : ∃ q, cnt (mkB s k) i = q := ⟨_, rfl⟩
      have hqi : q ≤ i := by rw [← hq]; exact cnt_le _ _
      rw [hq] at hX1 hX3
      have hXr : ∀ p, p < q → -9223372036854775808 ≤ ((X p : Nat) : Int) ∧ ((X p : Nat) : Int) ≤ 9223372036854775807 := fun p hp => by
        have h1 := hX3 p hp
        have h2 := Nat.div_le_self (i - 1) k
        omega
      obtain ⟨A2, c2, rfl, _⟩ := ItsR.of_own hX1 hXr
      obtain ⟨y, hy⟩ : ∃ y, (i - 1) / k = y := ⟨_, rfl⟩
      rw [hy] at hX3
      have hyi : y ≤ i := by rw [← hy]; exact Nat.le_trans (Nat.div_le_self _ _) (Nat.sub_le _ _)
      have e0 : IntKind.i64.wrap ((i : Int) - 1) = ((i - 1 : Nat) : Int) := by rw [IntWalk.i64_in _ (by omega)]; omega
      obtain ⟨i1, hi1⟩ : ∃ i1, i - 1 = i1 := ⟨_, rfl⟩
      rw [hi1] at e0 hy
      have e1 : (i1 : Int).tdiv (k : Int) = (y : Int) := by rw [Int.tdiv_eq_ediv_of_nonneg (by omega), ← hy, Int.natCast_ediv]
      have e2 : (i1 : Int) / (k : Int) = (y : Int) := by rw [← hy, Int.natCast_ediv]
      have e3 : ¬ (k : Int) = 0 := by omega
      have hGw := HG.out
      have hXlo : ∀ x, (Value.slice A2 q c2).ownBlock = some x → G + 1 ≤ x := fun x hx => (hX1.lt x hx).1
      have HU := Lib.hid (And.intro hU1 hU2)
      have HX := Lib.hid (And.intro hX1 (And.intro hX2 (And.intro hX3 (And.intro hq (And.intro hXr hXlo)))))
      clear hU1 hU2 hX1 hX2 hX3 hXr hXlo hUr hP1 hy hi1 hq
      go_wp2_with fail
      refine HP1.out.mono ?_
      rintro e w3 ⟨gb1, gbs1, ws1, rfl, hg1, hg2, hF1, hb3⟩
      rw [wdN_one] at hF1
      have HV := Lib.hid (vnew_any hF1)
      have HB3 := Lib.hid hb3
      clear hF1 hb3 HP1
      go_wp2_with fail
      refine HV.out.mono ?_
      rintro e w4 ⟨gk, gw, av, wsk, rfl, hV4, hb4⟩
      have hbr4 : Below wr.heap.size wr w4 := HB3.out.trans (hb4.mono HB3.out.size)
      have hl4 := hlr.below hbr4 hlr.lt
      have c4 : w4.cell? ⟨g, 4, none⟩ = some (.pointer none) := hl4.cell 4
      have f4 := hl4.free 4
      have hX4 := ownsRow_keep HX.out.1 hbr4
      have hX5 := owns_far hX4 (a := ⟨g, 4, none⟩) (fun e => by have := HX.out.2.2.2.2.2 g e; omega) (.pointer (some ⟨gk, 0, none⟩))
      have o45 : Off (fun q => q ≠ g) w4 (w4.setCell ⟨g, 4, none⟩ (.pointer (some ⟨gk, 0, none⟩))) := Off.setCell (fun h => h rfl) _
      have hl5 := hl4.put 4 (.pointer (some ⟨gk, 0, none⟩))
      obtain ⟨w5, hw5⟩ : ∃ w5, w4.setCell ⟨g, 4, none⟩ (.pointer (some ⟨gk, 0, none⟩)) = w5 := ⟨_, rfl⟩
      rw [hw5] at hX5 o45 hl5
      have hs3 := HB3.out.size
      have hs4 := hb4.size
      have hs5 := o45.size
      have c51 : w5.cell? ⟨g, 1, none⟩ = some (.int .i64 (k : Int)) := hl5.cell 1
      have HP2 := Lib.hid (packed_any A2 q c2 (fun p => ((X p : Nat) : Int)) y w5 (by omega) (by omega) (fun p hp => by
        have := HX.out.2.2.1 p hp
        show 0 ≤ ((X p : Nat) : Int) ∧ ((X p : Nat) : Int) ≤ (y : Int)
        omega) (itsR_row hX5 HX.out.2.2.2.2.1))
      have HV5 : Hid (Vc w5 w3.heap.size gk gw av i wsk (mkB s k)) := Lib.hid ((hV4.alikeF fun j hj => by
        have h1 := HU.out.2 j hj
        show ((U j).toNat).testBit 0 = mkB s k j
        unfold mkB
        by_cases g3 : s j % k = 0
        · rw [if_pos ⟨hj, g3⟩] at h1
          rw [h1, decide_eq_true g3]
          rfl
        · rw [if_neg (fun h => g3 h.2)] at h1
          rw [h1, decide_eq_false g3]
          rfl).keepB o45.size fun x hx hx2 => o45.block x hx2 (by omega))
      have HL5 := Lib.hid hl5
      have HO5 : Hid (Off (fun q => q ≠ g) w w5) := Lib.hid ((Off.call (by rw [hGw]; exact hB)).trans ((Off.call hbr4).trans o45))
      have hg5 := hl5.lt
      clear hV4 hb4 hbr4 hl4 hX4 hX5 o45 hl5 HV HB3 hlr HU H
      go_wp2_with fail
      clear hw5
      refine HP2.out.mono ?_
      rintro e w6 ⟨gp, gps, wsp, rfl, hg3, hg4, hF6, hb6⟩
      have hl6 := HL5.out.below hb6 hg5
      have c6 : w6.cell? ⟨g, 5, none⟩ = some (.pointer none) := hl6.cell 5
      have f6 := hl6.free 5
      have HEnd : Hid (MarkedAt w (w6.setCell ⟨g, 5, none⟩ (.pointer (some ⟨gp, 0, none⟩))) g i k s last pm pb gk gw gp gps (wdN y) av wsk wsp X) := Lib.hid (by
        have o67 : Off (fun q => q ≠ g) w6 (w6.setCell ⟨g, 5, none⟩ (.pointer (some ⟨gp, 0, none⟩))) := Off.setCell (fun h => h rfl) _
        have hs6 := hb6.size
        refine ⟨hl6.put 5 _, (((HV5.out.keep (hb6.mono (Nat.le_refl _))).keepB o67.size fun x hx hx2 => o67.block x hx2 (by omega))).lowB (by have := hB.size; omega), ?_, HX.out.2.1, ⟨by have := hB.size; omega, by have := hB.size; omega⟩, HO5.out.trans ((Off.call hb6).trans o67)⟩
        rw [HX.out.2.2.2.1]
        exact full_alike (hF6.far (p := ⟨g, 5, none⟩) (by show gp ≠ g; have := hB.size; omega) (by show gps ≠ g; have := hB.size; omega) _) (fun p _ => Int.toNat_natCast _))
      clear hl6 hF6 hb6 HP2 HV5 HL5 HO5 HX
      go_wp2_with fail
      go_ret
      exact ⟨rfl, _, _, _, _, _, _, _, _, _, HEnd.out⟩

theorem trnF_congr {T : Nat → Int} {n : Nat} {s s' : Nat → Nat} (h : ∀ i, i < n → s i = s' i) {i : Nat} (hi : i < n) : trnF T n s i = trnF T n s' i := by unfold trnF; rw [h i hi]
theorem trnB_congr {T : Nat → Int} {n : Nat} {s s' : Nat → Nat} (h : ∀ i, i < n → s i = s' i) (c : Int) : trnB T n s c = trnB T n s' c := cnt_congr fun i hi => by rw [trnF_congr h hi]
theorem mkB_congr {n k : Nat} {s s' : Nat → Nat} (h : ∀ i, i < n → s i = s' i) {i : Nat} (hi : i < n) : mkB s k i = mkB s' k i := by unfold mkB; rw [h i hi]
theorem Fd.other {w : World} {B g n al k : Nat} {T : Nat → Int} {s s' : Nat → Nat} {a : FdA} (h : Fd w B g n T s al k a) (he : ∀ i, i < n → s i = s' i) : Fd w B g n T s' al k a := by
  have hc : ∀ i, i ≤ n → cnt (mkB s k) i = cnt (mkB s' k) i := fun i hi => cnt_congr fun j hj => mkB_congr he (by omega)
  refine ⟨h.head, h.row, fun i hi => (h.alike i hi).trans (trnF_congr he hi), ?_, h.marked.alikeF fun i hi => mkB_congr he hi, by rw [← hc n (Nat.le_refl _)]; exact h.places, fun i hi hz => ?_, h.lo, h.once, h.sa.congr he, h.most, h.right, h.few, h.step⟩
  · have : (fun x : Nat => trnB T n s' (x : Int)) = fun x : Nat => trnB T n s (x : Int) := funext fun x => (trnB_congr he _).symm
    rw [this]
    exact h.below
  · rw [← hc i (by omega), ← he i hi]
    exact h.mult i hi (by rw [he i hi]; exact hz)
set_option maxRecDepth 100000 in
set_option maxHeartbeats 3200000 in
theorem fdNew_any (A : Option Addr) (n c : Nat) (T : Nat → Int) (A' : Option Addr) (n' c' : Nat) (S : Nat → Int) (al k : Int) (w : World) (hn : n ≤ 4194303) (hn' : n' ≤ 4194303) (hal : al ≤ 4194303 ∨ 4194304 < al) (ho : ItsR w A n c T) (ho' : ItsR w A' n' c' S) :
    Calls Tryz.prog 11 #[.slice A n c, .slice A' n' c', .int .i64 al, .int .i64 k] w fun e w' =>
      (∀ s, FindOk T n n' S al k s → ∃ g a, e = .returned (.tuple #[.pointer (some ⟨g, 0, none⟩), .int .i64 0]) ∧ Fd w' w.heap.size g n T s al.toNat k.toNat a) ∧ ((¬ ∃ s, FindOk T n n' S al k s) → e = .returned (.tuple #[.pointer none, .int .i64 2])) ∧ Below w.heap.size w w' := by
  have HO := Lib.hid ho
  have HO' := Lib.hid ho'
  by_cases h1 : k < 1
  · have HNo : Hid (¬ ∃ s, FindOk T n n' S al k s) := Lib.hid fun ⟨s, h⟩ => by have := h.one; omega
    have d1 : decide (k < 1) = true := decide_eq_true h1
    clear ho ho'
    go_enter Tryz.func11, Tryz.ntmps11
    go_wp2_with fail
    go_ret2
    exact ⟨fun s h => absurd ⟨s, h⟩ HNo.out, fun _ => rfl, Below.refl _ _⟩
  have d1 : decide (k < 1) = false := decide_eq_false h1
  by_cases h2 : 4194304 < k
  · have HNo : Hid (¬ ∃ s, FindOk T n n' S al k s) := Lib.hid fun ⟨s, h⟩ => by have := h.most; omega
    have d2 : decide (4194304 < k) = true := decide_eq_true h2
    clear ho ho'
    go_enter Tryz.func11, Tryz.ntmps11
    go_wp2_with fail
    go_ret2
    exact ⟨fun s h => absurd ⟨s, h⟩ HNo.out, fun _ => rfl, Below.refl _ _⟩
  have d2 : decide (4194304 < k) = false := decide_eq_false h2
  have d3 : (al == 4194304) = false := by rw [beq_eq_false_iff_ne]; omega
  have d3' : ¬ al = 4194304 := by omega
  obtain ⟨r1, hr1⟩ : ∃ r : Bool, r = true ↔ OnceT T n := ⟨@decide _ (Classical.propDecidable _), @decide_eq_true_iff _ (Classical.propDecidable _)⟩
  have HEn := Lib.hid (endsOnce_is A n c T w (by omega) ho.2.1 ho.2.2.2 r1 hr1)
  rcases r1 with _ | _
  · have HNo : Hid (¬ ∃ s, FindOk T n n' S al k s) := Lib.hid fun ⟨s, h⟩ => by have := hr1.2 h.once; cases this
    clear ho ho' hr1
    go_enter Tryz.func11, Tryz.ntmps11
    go_wp2_with (go_at_call 27; (with_reducible refine HEn.out.mono ?_); rintro e w' ⟨rfl, rfl⟩)
    go_ret2
    exact ⟨fun s h => absurd ⟨s, h⟩ HNo.out, fun _ => rfl, Below.refl _ _⟩
  have hOn := hr1.1 rfl
  obtain ⟨r2, hr2⟩ : ∃ r : Bool, r = true ↔ RightS T n al ∧ n' = n ∧ ∃ s, IsSA T n s ∧ ∀ i, i < n → S i = ((s i : Nat) : Int) := ⟨@decide _ (Classical.propDecidable _), @decide_eq_true_iff _ (Classical.propDecidable _)⟩
  have HIs := Lib.hid (isOrder_is A n c T A' n' c' S al w hn hn' ho ho' r2 hr2)
  rcases r2 with _ | _
  · have HNo : Hid (¬ ∃ s, FindOk T n n' S al k s) := Lib.hid fun ⟨s, h⟩ => by have := hr2.2 ⟨h.right, h.len, s, h.sa, h.list⟩; cases this
    clear ho ho' hr1 hr2 hOn
    go_enter Tryz.func11, Tryz.ntmps11
    go_wp2_with (first
      | (go_at_call 27; (with_reducible refine HEn.out.mono ?_); rintro e w' ⟨rfl, rfl⟩)
      | (go_at_call 28; (with_reducible refine HIs.out.mono ?_); rintro e w1 ⟨rfl, hb⟩; have HB := Lib.hid hb; clear hb))
    go_ret2
    exact ⟨fun s h => absurd ⟨s, h⟩ HNo.out, fun _ => rfl, HB.out⟩
  obtain ⟨hRS, hnn, s, hsa, hlist⟩ := hr2.1 rfl
  obtain rfl := hnn.symm
  obtain ⟨kn, rfl⟩ : ∃ kn : Nat, k = (kn : Int) := ⟨k.toNat, by omega⟩
  obtain ⟨an, rfl⟩ : ∃ an : Nat, al = (an : Int) := ⟨al.toNat, by have := hRS.1.1; omega⟩
  have h0 := hOn.1
  have hans : an ≤ 4194303 := by have := hRS.1.2.1; omega
  obtain ⟨m, hm⟩ : ∃ m : Nat, topI T (n - 1) = (m : Int) := by
    obtain ⟨i, hi, e⟩ := topI_at T (n - 1)
    have := hRS.2 i (by omega)
    exact ⟨(topI T (n - 1)).toNat, by omega⟩
  have hmal : m < an := by
    obtain ⟨i, hi, e⟩ := topI_at T (n - 1)
    have := hRS.2 i (by omega)
    omega
  have hPerm : IsPerm S n := ⟨fun i hi => by have := hsa.1 i hi; rw [hlist i hi]; omega, fun i j hij hj e => by
    rw [hlist i (by omega), hlist j hj] at e
    have := hsa.inj (show i < n by omega) hj (by omega)
    omega⟩
  obtain ⟨l, hl⟩ : ∃ l, n - 1 = l := ⟨_, rfl⟩
  have hln : l < n := by omega
  have hll : (l : Int) < (n : Int) := by omega
  have e1 : IntKind.i64.wrap ((n : Int) - 1) = (l : Int) := by rw [IntWalk.i64_in _ (by omega)]; omega
  have HP := Lib.hid (And.intro hRS (And.intro hsa (And.intro hlist (And.intro hOn (And.intro hm (And.intro hPerm hl))))))
  have hTn : T (n - 1) = T l := by rw [hl]
  clear ho ho' hr1 hr2 hOn hRS hsa hlist hnn hm hPerm hl h0
  go_enter Tryz.func11, Tryz.ntmps11
  go_wp2_with fail
  refine HEn.out.mono ?_
  rintro e w' ⟨rfl, rfl⟩
  go_wp2_with fail
  refine HIs.out.mono ?_
  rintro e w1 ⟨rfl, hb1⟩
  obtain ⟨ad, rfl, _, hc, _⟩ := (HO.out.below hb1).2.2.2 l hln
  obtain ⟨x, hx⟩ : ∃ x, T l = x := ⟨_, rfl⟩
  rw [hx] at hc
  obtain ⟨w2, hw2⟩ : ∃ w2, w1.alloc (.cells #[.int .i64 x, .int .i64 (kn : Int), .pointer none, .pointer none, .pointer none, .pointer none] 60) = w2 := ⟨_, rfl⟩
  obtain ⟨g, hg⟩ : ∃ g, w1.heap.size = g := ⟨_, rfl⟩
  have l2 : Lies w2 g 60 [.int .i64 x, .int .i64 (kn : Int), .pointer none, .pointer none, .pointer none, .pointer none] := by rw [← hw2, ← hg]; exact lies_new w1 _ _
  have b2 : Below w1.heap.size w1 w2 := by rw [← hw2]; exact (Below.refl _ _).alloc (Nat.le_refl _) _
  have hwg : w.heap.size ≤ g := by rw [← hg]; exact hb1.size
  have B2 : Below w.heap.size w w2 := hb1.trans (b2.mono hb1.size)
  have HTu := Lib.hid (fdTurn_any (some ad) n c T A' n c' S x kn g m w2 HP.out.2.2.2.1.1 hn rfl HP.out.2.2.2.2.2.1 HP.out.2.2.2.2.1 (by omega) (fun i hi => (HP.out.1.2 i hi).1) l2 (HO.out.below B2) (HO'.out.below B2))
  have HB2 := Lib.hid B2
  have z2 : g < w2.heap.size := l2.lt
  have HX := Lib.hid (hTn.trans hx)
  clear hx hTn hb1 b2 B2 l2 HEn HIs
  go_wp2_with fail
  clear hw2 hg
  refine HTu.out.mono ?_
  rintro e w3 ⟨rfl, gm, gl, cl, gb, gbs, wb, wsb, hTu⟩
  have B3 : Below w.heap.size w w3 := HB2.out.trans (hTu.off.below HB2.out.size (fun q hq => by omega))
  have HMa := Lib.hid (fdMark_any A' n c' S s x (.pointer (some ⟨gm, 0, none⟩)) (.pointer (some ⟨gb, 0, none⟩)) kn g w3 HP.out.2.2.2.1.1 hn (by omega) (by omega) HP.out.2.2.1 (fun i hi => HP.out.2.1.1 i hi) hTu.head (HO'.out.below B3))
  have HT := Lib.hid hTu
  have HB3 := Lib.hid B3
  clear hTu B3 HTu
  go_wp2_with fail
  refine HMa.out.mono ?_
  rintro e w4 ⟨rfl, gk, gw, gp, gps, wp, av, wsk, wsp, X, hMa⟩
  have HFin : Hid (Below w.heap.size w w4 ∧ Fd w4 w.heap.size g n T s an kn ⟨gm, gl, cl, m, gb, gbs, wb, gk, gw, gp, gps, wp, wsb, wsk, wsp, av, X, turnI T n S⟩) := Lib.hid (by
    obtain ⟨hRS, hsa, hlist, hOn, hm, hPerm, hl⟩ := HP.out
    have hs2 := HB2.out.size
    have hs3 := HB3.out.size
    have hst := HT.out.off.size
    have hV : ∀ i, i < n → turnI T n S i = trnF T n s i := fun i hi => by rw [turnI_at (hlist i hi), trnF_at hsa hi]
    refine ⟨HB3.out.trans (hMa.off.below HB3.out.size (fun q hq => by omega)), ⟨by rw [HX.out]; exact hMa.head, ((HT.out.row.keepB hMa.off.size fun q hq hq2 => hMa.off.block q hq2 (by omega))).lowB hs2, hV, ?_, hMa.marked.lowB hs3, hMa.places, hMa.mult, ⟨hwg, Nat.le_trans hs2 HT.out.lo.1, Nat.le_trans hs2 HT.out.lo.2, Nat.le_trans hs3 hMa.lo.1, Nat.le_trans hs3 hMa.lo.2⟩, hOn, hsa, fun i hi => ⟨(hRS.2 i hi).1, by rw [← hm]; exact topI_le T (n - 1) i (by omega)⟩, fun i hi => (hRS.2 i hi).2, hn, ⟨by omega, by omega⟩⟩⟩
    have h1 := HT.out.below
    have h2 := h1.keep (hMa.off.block gb h1.pk.head.lt (by have := HT.out.lo.1; show gb ≠ g; omega)) (hMa.off.block gbs h1.pk.body.lt (by have := HT.out.lo.2; show gbs ≠ g; omega))
    have : (fun x : Nat => trnB T n s (x : Int)) = fun x : Nat => belowI (turnI T n S) n (x : Int) := funext fun x => cnt_congr fun i hi => by rw [hV i hi]
    show Full w4 gb gbs wb (m + 2) wsb fun x => trnB T n s (x : Int)
    rw [this]
    exact h2)
  obtain ⟨fa, hfa⟩ : ∃ a, Fd w4 w.heap.size g n T s an kn a := ⟨_, HFin.out.2⟩
  have HFa := Lib.hid hfa
  clear hMa HMa HT HB3 HB2 hfa
  go_wp2_with fail
  go_ret2
  refine ⟨fun s' h => ⟨g, fa, rfl, ?_⟩, fun h => ?_, HFin.out.1⟩
  · rw [Int.toNat_natCast, Int.toNat_natCast]
    exact HFa.out.other (HP.out.2.1.one h.sa)
  · obtain ⟨hRS, hsa, hlist, hOn, hm, hPerm, hl⟩ := HP.out
    exact absurd ⟨s, ⟨hRS, by omega, hOn, rfl, hsa, hlist, by omega, by omega⟩⟩ h
end Go.Proofs.YtbkdloebbbmkaaaGreat

namespace Go.Proofs.YtbkdloebbbmkaaaGreat
open Go.RowKit

attribute [local go_sem] Oper.semAt_some

set_option maxRecDepth 100000 in
set_option maxHeartbeats 1600000 in
theorem fdRange_nil (A : Option Addr) (m c : Nat) (w : World) : Calls Tryz.prog 18 #[.pointer none, .slice A m c] w fun e w' => e = .returned (.tuple #[.int .i64 0, .int .i64 0]) ∧ Below w.heap.size w w' := by
  obtain ⟨lo, hlo⟩ : ∃ lo, w.heap.size = lo := ⟨_, rfl⟩
  rw [hlo]
  obtain ⟨w1, hw1⟩ : ∃ w1, w.alloc (.cells #[.pointer none] 25) = w1 := ⟨_, rfl⟩
  have z1 : w1.heap.size = lo + 1 := by rw [← hw1, size_alloc, hlo]
  have l1 : Lies w1 lo 25 [.pointer none] := by rw [← hw1, ← hlo]; exact lies_new w _ _
  have k1 : Below lo w w1 := by rw [← hw1, ← hlo]; exact (Below.refl _ _).alloc (Nat.le_refl _) _
  obtain ⟨w2, hw2⟩ : ∃ w2, w1.alloc (.cells #[.slice A m c] 22) = w2 := ⟨_, rfl⟩
  have z2 : w2.heap.size = lo + 2 := by rw [← hw2, size_alloc, z1]
  have k2 : Below (lo + 1) w1 w2 := by rw [← hw2, ← z1]; exact (Below.refl _ _).alloc (Nat.le_refl _) _
  obtain ⟨w3, hw3⟩ : ∃ w3, w2.alloc (.cells #[.int .i64 0] 3) = w3 := ⟨_, rfl⟩
  have z3 : w3.heap.size = lo + 3 := by rw [← hw3, size_alloc, z2]
  have l3 : Lies w3 (lo + 2) 3 [.int .i64 0] := by rw [← hw3, ← z2]; exact lies_new w2 _ _
  have k3 : Below (lo + 2) w2 w3 := by rw [← hw3, ← z2]; exact (Below.refl _ _).alloc (Nat.le_refl _) _
  obtain ⟨w4, hw4⟩ : ∃ w4, w3.alloc (.cells #[.int .i64 0] 3) = w4 := ⟨_, rfl⟩
  have z4 : w4.heap.size = lo + 4 := by rw [← hw4, size_alloc, z3]
  have l4 : Lies w4 (lo + 3) 3 [.int .i64 0] := by rw [← hw4, ← z3]; exact lies_new w3 _ _
  have k4 : Below (lo + 3) w3 w4 := by rw [← hw4, ← z3]; exact (Below.refl _ _).alloc (Nat.le_refl _) _
  have K4 : Below lo w w4 := ((k1.trans (k2.mono (by omega))).trans (k3.mono (by omega))).trans (k4.mono (by omega))
  have v1 := (((l1.below k2 (by omega)).below k3 (by omega)).below k4 (by omega)).cell 0
  have l3' := l3.below k4 (by omega)
  have v2 := l3'.cell 0
  have f2 := l3'.free 0
  have v3 := l4.cell 0
  have f3 := l4.free 0
  clear l1 k1 k2 k3 k4
  refine (callsIn_wide (n := 0)).1 ?_
  refine callsIn_of_wp_marks Tryz.func18 rfl trivial ?_ rfl
  simp only [Tryz.ntmps18, List.size_toArray, List.length_cons, List.length_nil, Nat.reduceAdd, Nat.reduceSub, Array.replicate_succ, Array.replicate_zero, List.push_toArray, List.append_toArray, List.nil_append, List.cons_append]
  gi_wp2
  obtain ⟨W2, hW2⟩ : ∃ W2, (w4.setCell ⟨lo + 2, 0, none⟩ (.int .i64 0)).setCell ⟨lo + 3, 0, none⟩ (.int .i64 0) = W2 := ⟨_, rfl⟩
  have g2 : W2.cell? ⟨lo + 2, 0, none⟩ = some (.int .i64 0) := by rw [← hW2]; exact ((l3'.put 0 _).far (p := ⟨lo + 3, 0, none⟩) (by show lo + 2 ≠ lo + 3; omega) _).cell 0
  have g3 : W2.cell? ⟨lo + 3, 0, none⟩ = some (.int .i64 0) := by rw [← hW2]; exact ((l4.far (p := ⟨lo + 2, 0, none⟩) (by show lo + 3 ≠ lo + 2; omega) _).put 0 _).cell 0
  have gz : W2.heap.size = lo + 4 := by rw [← hW2]; simp [World.setCell]; exact z4
  have gb : Below lo w W2 := by
    rw [← hW2]
    exact (K4.setCell (p := ⟨lo + 2, 0, none⟩) (by show lo ≤ lo + 2; omega) _).setCell (p := ⟨lo + 3, 0, none⟩) (by show lo ≤ lo + 3; omega) _
  have hMM : Marks (lo + 4) W2.heap.size [] W2 := trivial
  rw [hW2]
  exact hMM.out (by omega) fun w' hw' => by
    have q2 : w'.cell? ⟨lo + 2, 0, none⟩ = some (.int .i64 0) := (hw'.cell (p := ⟨lo + 2, 0, none⟩) (by show lo + 2 < lo + 4; omega)).trans g2
    have q3 : w'.cell? ⟨lo + 3, 0, none⟩ = some (.int .i64 0) := (hw'.cell (p := ⟨lo + 3, 0, none⟩) (by show lo + 3 < lo + 4; omega)).trans g3
    exact ⟨.tuple #[.int .i64 0, .int .i64 0], by simp [results, Tryz.results18, go_sem, q2, q3], rfl, gb.trans (hw'.mono (by omega))⟩
theorem fdPlaces_nil (A : Option Addr) (m c : Nat) (w : World) (hm : m ≤ 9223372036854775807) : Calls Tryz.prog 20 #[.pointer none, .slice A m c] w fun e w' => (∃ (A2 : Option Addr) (c2 : Nat), e = .returned (.slice A2 0 c2)) ∧ Below w.heap.size w w' := by
  have HR := Lib.hid (fdRange_nil A m c w)
  by_cases h0 : m = 0
  · subst h0
    go_enter Tryz.func20, Tryz.ntmps20
    go_wp2_with fail
    go_ret
    exact ⟨⟨none, 0, rfl⟩, Below.refl _ _⟩
  · have g0 : ((m : Int) == 0) = false := by rw [beq_eq_false_iff_ne]; omega
    go_enter Tryz.func20, Tryz.ntmps20
    go_wp2_with fail
    refine HR.out.mono ?_
    rintro e w1 ⟨rfl, hb⟩
    have HB := Lib.hid hb
    clear hb
    go_wp2_with fail
    go_ret
    exact ⟨⟨none, 0, rfl⟩, HB.out⟩

/-- a finder, as the laws see it. -/
def FndAt (B : Nat) (w : World) (v : Value) (n : Nat) (T : Nat → Int) (s : Nat → Nat) (al k : Nat) : Prop := ∃ g a, v = .pointer (some ⟨g, 0, none⟩) ∧ Fd w B g n T s al k a
theorem below_sameF {w w' : World} (h : w = w') : Below w.heap.size w w' := by
  subst h
  exact Below.refl _ _
theorem below_drewF {w w' : World} (h : ∃ q, w' = w.drewN q) : Below w.heap.size w w' := by
  obtain ⟨q, rfl⟩ := h
  exact below_drewN' (Below.refl _ _) q
theorem find_any : FindI FndAt where
  keep_ := by
    rintro B w w' v n T s al k ⟨g, a, rfl, h⟩ hs hb
    exact ⟨g, a, rfl, h.keepB hs hb⟩
  ptr := by
    rintro B w v n T s al k ⟨g, a, rfl, h⟩
    exact ⟨_, rfl⟩
  new := fun A n c T A' n' c' S al k w hn hn' _ _ hal ho ho' => (fdNew_any A n c T A' n' c' S al k w hn hn' hal ho ho').mono fun e w' h => by
    obtain ⟨h1, h2, h3⟩ := h
    exact ⟨fun s hs => by
      obtain ⟨g, a, e1, e2⟩ := h1 s hs
      exact ⟨_, e1, g, a, rfl, e2⟩, h2, h3⟩
  len_ := by
    rintro B v n T s al k w ⟨g, a, rfl, h⟩
    exact (fdLen_any h).mono fun e w' ⟨h1, h2⟩ => ⟨h1, below_sameF h2⟩
  range_ := by
    rintro B v n T s al k A m c P w ⟨g, a, rfl, h⟩ ho
    exact fdRange_any h A m c P ho
  places := by
    rintro B v n T s al k A m c P w ⟨g, a, rfl, h⟩ ho
    exact fdPlaces_any h A m c P ho
  narrow := by
    rintro B v n T s al k x y c w _ _ _ ⟨g, a, rfl, h⟩
    exact (fdNarrow_any h x y c).mono fun e w' ⟨h1, h2⟩ => ⟨h1, below_drewF h2⟩
  before := by
    rintro B v n T s al k i w _ ⟨g, a, rfl, h⟩
    by_cases hi : 0 ≤ i ∧ i < (n : Int)
    · obtain ⟨j, rfl⟩ : ∃ j : Nat, i = (j : Int) := ⟨i.toNat, by omega⟩
      refine (fdBefore_in h j (by omega)).mono fun e w' ⟨h1, h2⟩ => ⟨fun j' r e' hj hr hs => ?_, fun hh => absurd hi hh, below_drewF h2⟩
      obtain rfl : j = j' := by omega
      have h3 := lfF_at h.once h.sa hj
      rw [← ahead_mod (h.sa.1 j hj)] at h3
      rw [h1, h.sa.inj (lfF_lt hj) hr (by rw [h3, hs])]
    · exact (fdBefore_out _ i hi (fdLen_any h)).mono fun e w' ⟨h1, h2⟩ => ⟨fun j' r e' hj hr hs => absurd ⟨by omega, by omega⟩ hi, fun _ => h1, below_sameF h2⟩
  place := by
    rintro B v n T s al k i w _ ⟨g, a, rfl, h⟩
    by_cases hi : 0 ≤ i ∧ i < (n : Int)
    · obtain ⟨j, rfl⟩ : ∃ j : Nat, i = (j : Int) := ⟨i.toNat, by omega⟩
      refine (fdPlace_in h j (by omega)).mono fun e w' ⟨h1, h2⟩ => ⟨fun j' e' hj => ?_, fun hh => absurd hi hh, below_drewF h2⟩
      obtain rfl : j = j' := by omega
      exact h1
    · exact (fdPlace_out _ i hi (fdLen_any h)).mono fun e w' ⟨h1, h2⟩ => ⟨fun j' e' hj => absurd ⟨by omega, by omega⟩ hi, fun _ => h1, below_sameF h2⟩
  nilLen := fun w => (fdLen_nil w).mono fun e w' ⟨h1, h2⟩ => ⟨h1, below_sameF h2⟩
  nilRange := fun A m c P w _ => fdRange_nil A m c w
  nilNarrow := fun x y c w _ _ _ => (fdNarrow_nil x y c w).mono fun e w' ⟨h1, h2⟩ => ⟨h1, below_sameF h2⟩
  nilBefore := fun i w _ => (fdBefore_out (n := 0) _ i (by omega) (fdLen_nil w)).mono fun e w' ⟨h1, h2⟩ => ⟨h1, below_sameF h2⟩
  nilPlace := fun i w _ => (fdPlace_out (n := 0) _ i (by omega) (fdLen_nil w)).mono fun e w' ⟨h1, h2⟩ => ⟨h1, below_sameF h2⟩
  nilPlaces := fun A m c P w ho => fdPlaces_nil A m c w (by
    have h1 := ho.2.1
    have h2 := ho.2.2.1
    unfold maxLen at h2
    omega)
end Go.Proofs.YtbkdloebbbmkaaaGreat

namespace Go.Proofs.YtbkdloebbbmkaaaGreat
open Go.RowKit
section
variable {At : Nat → World → Value → Nat → (Nat → Int) → (Nat → Nat) → Nat → Nat → Prop}

set_option maxRecDepth 100000 in
set_option maxHeartbeats 3200000 in
theorem fdMakes_walk (I : FindI At) (A : Option Addr) (n c : Nat) (T : Nat → Int) (A' : Option Addr) (n' c' : Nat) (S : Nat → Int) (al k : Int) (w : World) (hal : (Lit.int .i64 al).wf = true) (hk : (Lit.int .i64 k).wf = true) (ho : ItsR w A n c T) (ho' : ItsR w A' n' c' S) :
    Calls Tryz.prog 3 #[.slice A n c, .slice A' n' c', .agg #[.int .i64 al, .int .i64 k]] w fun e w' => e = .returned (.bool true) ∧ Below w.heap.size w w' := by
  have HI := Lib.hid I
  have hbx : Below w.heap.size w (w.alloc (.cells #[.int .i64 al, .int .i64 k] 23)) := (Below.refl _ _).alloc (Nat.le_refl _) _
  have HL := Lib.hid (lies_new w 23 [.int .i64 al, .int .i64 k])
  have HSz := Lib.hid (size_alloc w (.cells #[.int .i64 al, .int .i64 k] 23))
  have HO := Lib.hid (ho.below hbx)
  have HO' := Lib.hid (ho'.below hbx)
  have HF := Lib.hid (ffirst_any I (w.alloc (.cells #[.int .i64 al, .int .i64 k] 23)))
  have HW := Lib.hid (And.intro hal hk)
  have hcl : c ≤ 9223372036854775807 := by have := ho.2.2.1; unfold maxLen at this; omega
  have hcl' : c' ≤ 9223372036854775807 := by have := ho'.2.2.1; unfold maxLen at this; omega
  have hnc := ho.2.1
  have hnc' := ho'.2.1
  clear I ho ho' hal hk
  go_enter Tryz.func3, Tryz.ntmps3
  go_wp2_with fail
  refine HF.out.mono ?_
  rintro e w0 ⟨rfl, hb0⟩
  have HB0 := Lib.hid (hbx.trans (hb0.mono hbx.size))
  have HL0 := Lib.hid (HL.out.below hb0 (by rw [HSz.out]; omega))
  have HO0 := Lib.hid (HO.out.below hb0)
  have HO0' := Lib.hid (HO'.out.below hb0)
  have hz0 : w.heap.size < w0.heap.size := by have := hb0.size; have := HSz.out; omega
  have hc0 : w0.cell? ⟨w.heap.size, 0, none⟩ = some (.int .i64 al) := HL0.out.cell 0
  have hc1 : w0.cell? ⟨w.heap.size, 1, none⟩ = some (.int .i64 k) := HL0.out.cell 1
  clear HF hb0 HO HO' HL hbx
  obtain ⟨mx, hmx⟩ : ∃ mx : Nat, (if n < n' then (n' : Int) else (n : Int)) = (mx : Int) := by
    split
    · exact ⟨n', rfl⟩
    · exact ⟨n, rfl⟩
  by_cases hbig : (mx : Int) ≤ 200
  · have hn4 : n ≤ 200 ∧ n' ≤ 200 := by split at hmx <;> omega
    obtain ⟨hn4, hn4'⟩ := hn4
    have d1 : decide ((200 : Int) < (mx : Int)) = false := decide_eq_false (by omega)
    by_cases h3 : al ≤ 3000
    · have d2 : decide ((3000 : Int) < al) = false := decide_eq_false (by omega)
      have HN := Lib.hid (HI.out.new A n c T A' n' c' S al k w0 (by omega) (by omega) HW.out.1 HW.out.2 (.inl (by omega)) HO0.out HO0'.out)
      go_wp2_with fail
      clear hmx hbig d1
      have d4 : decide (al < (4194304 : Int)) = true := decide_eq_true (by omega)
      have d5 : al < (4194304 : Int) := by omega
      refine HN.out.mono ?_
      rintro e w1 ⟨h0, h1, hb1⟩
      have HB1 := Lib.hid (HB0.out.trans (hb1.mono HB0.out.size))
      have HL1 := Lib.hid (HL0.out.below hb1 hz0)
      have HO1 := Lib.hid (HO0.out.below hb1)
      have HO1' := Lib.hid (HO0'.out.below hb1)
      have hz1 : w.heap.size < w1.heap.size := by have := hb1.size; omega
      have hc2 : w1.cell? ⟨w.heap.size, 0, none⟩ = some (.int .i64 al) := HL1.out.cell 0
      clear HN hb1 HB0 HL0 HO0 HO0' hc0 hc1 hz0
      by_cases hok : ∃ s, FindOk T n n' S al k s
      · obtain ⟨s, hok⟩ := hok
        obtain ⟨v, rfl, hAt⟩ := h0 s hok
        obtain ⟨p, rfl⟩ := HI.out.ptr hAt
        have HA1 := Lib.hid hAt
        have HOk := Lib.hid hok
        obtain rfl := hok.len
        have HRt := Lib.hid (refRightS_is A n' c T al w1.heap.size w1 (by unfold maxLen; omega) HO1.out.2.2.2 true ⟨fun _ => HOk.out.right, fun _ => rfl⟩)
        have hk1 := hok.one
        have hk2 := hok.most
        clear h0 h1 hAt hok
        go_wp2_with fail
        refine HRt.out.mono ?_
        rintro e w2 ⟨rfl, rfl⟩
        have HEn := Lib.hid (refEnds15_is A n' c T w1 (by omega) HO1.out.2.2.2 true ⟨fun _ => HOk.out.once, fun _ => rfl⟩)
        clear HRt
        go_wp2_with fail
        refine HEn.out.mono ?_
        rintro e w3 ⟨rfl, hb3⟩
        have HB3 := Lib.hid (HB1.out.trans (hb3.mono HB1.out.size))
        have HL3 := Lib.hid (HL1.out.below hb3 hz1)
        have HO3 := Lib.hid (HO1.out.below hb3)
        have HO3' := Lib.hid (HO1'.out.below hb3)
        have HA3 := Lib.hid (HI.out.keep HA1.out hb3)
        have hz3 : w.heap.size < w3.heap.size := by have := hb3.size; omega
        have HAr := Lib.hid (refArrayS_any A n' c T w3 (by omega) HO3.out.2.2.2)
        clear HEn hb3 HB1 HL1 HO1 HO1' HA1 hc2 hz1
        go_wp2_with fail
        refine HAr.out.mono ?_
        rintro e w4 ⟨u, s', rfl, hsa, hown, hb4⟩
        have HB4 := Lib.hid (HB3.out.trans (hb4.mono HB3.out.size))
        have HL4 := Lib.hid (HL3.out.below hb4 hz3)
        have HO4' := Lib.hid (HO3'.out.below hb4)
        have HA4 := Lib.hid (HI.out.keep HA3.out hb4)
        have hz4 : w.heap.size < w4.heap.size := by have := hb4.size; omega
        obtain ⟨A4, c4, rfl, hi4⟩ := ItsR.of_own hown (fun j hj => by have := hsa.1 j hj; omega)
        have HSm := Lib.hid (refSame8_any A4 A' n' n' c4 c' _ _ _ _ w4 (by unfold maxLen; omega) (Nat.le_refl _) (Nat.le_refl _) hi4.2.2.2 HO4'.out.2.2.2)
        have HSa := Lib.hid hsa
        clear HAr hb4 HB3 HL3 HO3 HO3' HA3 hz3 hown hi4 hsa
        go_wp2_with fail
        refine HSm.out.mono ?_
        rintro e w5 ⟨b, rfl, hbi, hb5⟩
        obtain rfl : b = true := hbi.2 ⟨by trivial, fun i hi => by rw [HOk.out.list i hi, HSa.out.one HOk.out.sa i hi]⟩
        have HB5 := Lib.hid (HB4.out.trans (hb5.mono HB4.out.size))
        have HL5 := Lib.hid (HL4.out.below hb5 hz4)
        have HA5 := Lib.hid (HI.out.keep HA4.out hb5)
        have hc5 : w5.cell? ⟨w.heap.size, 1, none⟩ = some (.int .i64 k) := HL5.out.cell 1
        have g1 : decide ((1 : Int) ≤ k) = true := decide_eq_true hk1
        have g2 : decide (k ≤ (4194304 : Int)) = true := decide_eq_true hk2
        have HLn := Lib.hid (HI.out.len_ _ _ _ _ _ _ _ w5 HA5.out)
        clear HSm hb5 hbi HB4 HL4 HO4' HA4 hz4
        go_wp2_with fail
        refine HLn.out.mono ?_
        rintro e w6 ⟨rfl, hb6⟩
        have HB6 := Lib.hid (HB5.out.trans (hb6.mono HB5.out.size))
        clear HLn hb6 HB5 HL5 HA5 hc5
        go_wp2_with fail
        go_ret
        exact ⟨rfl, HB6.out⟩
      · obtain rfl := h1 hok
        have HOk := Lib.hid hok
        obtain ⟨r, hr, HRt⟩ := refRightS_any A n c T al w1.heap.size w1 (by unfold maxLen; omega) HO1.out.2.2.2
        have HR := Lib.hid hr
        have HRt := Lib.hid HRt
        clear h0 h1 hok hr
        go_wp2_with fail
        refine HRt.out.mono ?_
        rintro e w2 ⟨rfl, rfl⟩
        clear HRt
        rcases r with _ | _
        · go_wp2_with fail
          go_ret
          exact ⟨rfl, HB1.out⟩
        · have HRi := Lib.hid (HR.out.1 rfl)
          obtain ⟨r2, hr2⟩ : ∃ r : Bool, r = true ↔ OnceT T n := ⟨@decide _ (Classical.propDecidable _), @decide_eq_true_iff _ (Classical.propDecidable _)⟩
          have HR2 := Lib.hid hr2
          have HEn := Lib.hid (refEnds15_is A n c T w1 (by omega) HO1.out.2.2.2 r2 hr2)
          clear HR hr2
          go_wp2_with fail
          refine HEn.out.mono ?_
          rintro e w3 ⟨rfl, hb3⟩
          have HB3 := Lib.hid (HB1.out.trans (hb3.mono HB1.out.size))
          have HL3 := Lib.hid (HL1.out.below hb3 hz1)
          have HO3 := Lib.hid (HO1.out.below hb3)
          have HO3' := Lib.hid (HO1'.out.below hb3)
          have hz3 : w.heap.size < w3.heap.size := by have := hb3.size; omega
          have HAr := Lib.hid (refArrayS_any A n c T w3 (by omega) HO3.out.2.2.2)
          clear HEn hb3 HB1 HL1 HO1 HO1' hc2 hz1
          rcases r2 with _ | _
          · go_wp2_with fail
            go_ret
            exact ⟨rfl, HB3.out⟩
          · have HOn := Lib.hid (HR2.out.1 rfl)
            clear HR2
            go_wp2_with fail
            refine HAr.out.mono ?_
            rintro e w4 ⟨u, s', rfl, hsa, hown, hb4⟩
            have HB4 := Lib.hid (HB3.out.trans (hb4.mono HB3.out.size))
            have HL4 := Lib.hid (HL3.out.below hb4 hz3)
            have HO4' := Lib.hid (HO3'.out.below hb4)
            have hz4 : w.heap.size < w4.heap.size := by have := hb4.size; omega
            obtain ⟨A4, c4, rfl, hi4⟩ := ItsR.of_own hown (fun j hj => by have := hsa.1 j hj; omega)
            have HSm := Lib.hid (refSame8_any A4 A' n n' c4 c' _ _ _ _ w4 (by unfold maxLen; omega) (Nat.le_refl _) (Nat.le_refl _) hi4.2.2.2 HO4'.out.2.2.2)
            have HSa := Lib.hid hsa
            clear HAr hb4 HB3 HL3 HO3 HO3' hz3 hown hi4 hsa
            go_wp2_with fail
            refine HSm.out.mono ?_
            rintro e w5 ⟨b, rfl, hbi, hb5⟩
            have HB5 := Lib.hid (HB4.out.trans (hb5.mono HB4.out.size))
            have HL5 := Lib.hid (HL4.out.below hb5 hz4)
            have hc5 : w5.cell? ⟨w.heap.size, 1, none⟩ = some (.int .i64 k) := HL5.out.cell 1
            have HBi := Lib.hid hbi
            clear HSm hb5 hbi HB4 HL4 HO4' hz4
            rcases b with _ | _
            · go_wp2_with fail
              go_ret
              exact ⟨rfl, HB5.out⟩
            · have HEq := Lib.hid (HBi.out.1 rfl)
              clear HBi
              by_cases hk1 : 1 ≤ k
              · have g1 : decide ((1 : Int) ≤ k) = true := decide_eq_true hk1
                have hk2 : ¬ k ≤ 4194304 := fun hk2 => HOk.out ⟨s', HRi.out, d5, HOn.out, HEq.out.1.symm, HSa.out, fun i hi => (HEq.out.2 i hi).symm, hk1, hk2⟩
                have g2 : decide (k ≤ (4194304 : Int)) = false := decide_eq_false hk2
                clear HEq HOk HSa
                go_wp2_with fail
                go_ret
                exact ⟨rfl, HB5.out⟩
              · have g1 : decide ((1 : Int) ≤ k) = false := decide_eq_false hk1
                clear HEq HOk HSa
                go_wp2_with fail
                go_ret
                exact ⟨rfl, HB5.out⟩
    · have d2 : decide ((3000 : Int) < al) = true := decide_eq_true (by omega)
      by_cases h4 : al ≤ 4194304
      · have d3 : decide (al ≤ (4194304 : Int)) = true := decide_eq_true (by omega)
        go_wp2_with fail
        go_ret
        exact ⟨rfl, HB0.out⟩
      · have d3 : decide (al ≤ (4194304 : Int)) = false := decide_eq_false (by omega)
        have HN := Lib.hid (HI.out.new A n c T A' n' c' S al k w0 (by omega) (by omega) HW.out.1 HW.out.2 (.inr (by omega)) HO0.out HO0'.out)
        go_wp2_with fail
        clear hmx hbig d1
        refine HN.out.mono ?_
        rintro e w1 ⟨_, h1, hb1⟩
        obtain rfl := h1 fun ⟨s, h⟩ => by have := h.few; omega
        have HB1 := Lib.hid (HB0.out.trans (hb1.mono HB0.out.size))
        have HL1 := Lib.hid (HL0.out.below hb1 hz0)
        have HO1 := Lib.hid (HO0.out.below hb1)
        have hc2 : w1.cell? ⟨w.heap.size, 0, none⟩ = some (.int .i64 al) := HL1.out.cell 0
        obtain ⟨r, hr, HRt⟩ := refRightS_any A n c T al w1.heap.size w1 (by unfold maxLen; omega) HO1.out.2.2.2
        obtain rfl : r = false := Bool.eq_false_iff.2 fun e => by have := (hr.1 e).1; omega
        have HRt := Lib.hid HRt
        clear HN h1 hb1 HB0 HL0 HO0 HO0' hc0 hc1 hr hz0
        go_wp2_with fail
        refine HRt.out.mono ?_
        rintro e w2 ⟨rfl, rfl⟩
        go_wp2_with fail
        go_ret
        exact ⟨rfl, HB1.out⟩
  · have d1 : decide ((200 : Int) < (mx : Int)) = true := decide_eq_true (by omega)
    go_wp2_with fail
    go_ret
    exact ⟨rfl, HB0.out⟩
end
end Go.Proofs.YtbkdloebbbmkaaaGreat

namespace Go.Proofs.YtbkdloebbbmkaaaGreat
open Go.RowKit
section
variable {At : Nat → World → Value → Nat → (Nat → Int) → (Nat → Nat) → Nat → Nat → Prop}

theorem Ended.ok {w : World} {AT AS : Option Addr} {n ct cs : Nat} {T : Nat → Int} {s : Nat → Nat} (h : Ended w AT AS n ct cs T s) {al k : Int} (ha : 21 ≤ al) (ha2 : al < 4194304) (hk : 1 ≤ k) (hk2 : k ≤ 4194304) : FindOk T n n (fun i => ((s i : Nat) : Int)) al k s :=
  ⟨⟨⟨by omega, by omega, by have := h.small; omega⟩, fun i hi => by have := h.right i hi; omega⟩, ha2, h.once, rfl, h.sa, fun _ _ => rfl, hk, hk2⟩
/-- the finder of such a list. -/
theorem fmade_any (I : FindI At) {w : World} {AT AS : Option Addr} {n ct cs : Nat} {T : Nat → Int} {s : Nat → Nat} (h : Ended w AT AS n ct cs T s) (al k : Int) (ha : 21 ≤ al) (ha2 : al < 4194304) (hk : 1 ≤ k) (hk2 : k ≤ 4194304) :
    Calls Tryz.prog 11 #[.slice AT n ct, .slice AS n cs, .int .i64 al, .int .i64 k] w fun e w' => (∃ p, e = .returned (.tuple #[.pointer (some p), .int .i64 0]) ∧ At w.heap.size w' (.pointer (some p)) n T s al.toNat k.toNat) ∧ Below w.heap.size w w' := by
  have hn := h.small
  refine (I.new AT n ct T AS n cs _ al k w (by omega) (by omega) (wf_i64 (by omega) (by omega)) (wf_i64 (by omega) (by omega)) (by omega) h.list h.order).mono ?_
  rintro e w' ⟨h1, _, hb⟩
  obtain ⟨v, rfl, hAt⟩ := h1 s (h.ok ha ha2 hk hk2)
  obtain ⟨p, rfl⟩ := I.ptr hAt
  exact ⟨⟨p, rfl, hAt⟩, hb⟩
theorem itsR_nil (w : World) (P : Nat → Int) : ItsR w none 0 0 P := ⟨fun _ => ⟨rfl, rfl⟩, Nat.le_refl _, Nat.zero_le _, fun i hi => absurd hi (Nat.not_lt_zero i)⟩
theorem rngF_empty {T : Nat → Int} {n : Nat} {s : Nat → Nat} {P : Nat → Int} (h : ∀ i, i < n → s i < n) : rngF (fun i => stB T n P 0 (s i)) n = (0, n) := rngF_all fun j hj => stB_iff.2 ⟨by have := h j hj; omega, fun i hi => absurd hi (Nat.not_lt_zero i)⟩

set_option maxRecDepth 100000 in
set_option maxHeartbeats 3200000 in
theorem fdNone_walk (I : FindI At) (A : Option Addr) (n c : Nat) (V : Nat → Nat) (x : Int) (w : World) (hn : n ≤ maxLen) (hx : (Lit.int .i64 x).wf = true) (ho : Bys w w.heap.size A n V) :
    Calls Tryz.prog 7 #[.slice A n c, .int .i64 x] w fun e w' => e = .returned (.bool true) ∧ Below w.heap.size w w' := by
  have HI := Lib.hid I
  have HF := Lib.hid (ffirst_any I w)
  have HO := Lib.hid ho
  have HX := Lib.hid hx
  have HNm := Lib.hid hn
  clear I ho hx hn
  go_enter Tryz.func7, Tryz.ntmps7
  go_wp2_with fail
  refine HF.out.mono ?_
  rintro e w0 ⟨rfl, hb0⟩
  have HE := Lib.hid (ended_any A n c V w0 HNm.out ((HO.out.below hb0).mono_ hb0.size))
  have HB0 := Lib.hid hb0
  clear HF hb0 HO
  go_wp2_with fail
  refine HE.out.mono ?_
  rintro e w1 ⟨⟨AT, AS, m, ct, cs, T, s, rfl, hend⟩, hb1⟩
  have HEnd := Lib.hid hend
  have HN := Lib.hid (fmade_any HI.out hend 21 2 (by decide) (by decide) (by decide) (by decide))
  have HB1 := Lib.hid (HB0.out.trans (hb1.mono HB0.out.size))
  have hm := hend.small
  have hct : ct ≤ 9223372036854775807 := by have := hend.list.2.2.1; unfold maxLen at this; omega
  clear HE hb1 hend HB0
  go_wp2_with fail
  refine HN.out.mono ?_
  rintro e w2 ⟨⟨p, rfl, hAt⟩, hb2⟩
  have HB2 := Lib.hid (HB1.out.trans (hb2.mono HB1.out.size))
  have HA2 := Lib.hid hAt
  have HR := HI.out.range_ _ _ _ _ _ _ _ none 0 0 (fun _ => 0) w2 hAt (itsR_nil w2 _)
  rw [rngF_empty HEnd.out.sa.1] at HR
  have HR := Lib.hid HR
  clear HN hb2 hAt HB1
  go_wp2_with fail
  refine HR.out.mono ?_
  rintro e w3 ⟨rfl, hb3⟩
  have HB3 := Lib.hid (HB2.out.trans (hb3.mono HB2.out.size))
  have HA3 := Lib.hid (HI.out.keep HA2.out hb3)
  have i3 : ItsR (w3.alloc (.cells #[.int .i64 1] 3)) (some ⟨w3.heap.size, 0, none⟩) 1 1 (litI [1]) := itsR_litF w3 [1] (by unfold maxLen; decide) (by decide)
  have hb4 : Below w3.heap.size w3 (w3.alloc (.cells #[.int .i64 1] 3)) := (Below.refl _ _).alloc (Nat.le_refl _) _
  have HA4 := Lib.hid (HI.out.keep HA3.out hb4)
  have HB4 := Lib.hid (HB3.out.trans (hb4.mono HB3.out.size))
  have HRn := Lib.hid (HI.out.nilRange _ 1 1 _ _ i3)
  clear HR hb3 HA2 HA3 HB2 HB3 i3 hb4
  go_wp2_with fail
  refine HRn.out.mono ?_
  rintro e w5 ⟨rfl, hb5⟩
  have HB5 := Lib.hid (HB4.out.trans (hb5.mono HB4.out.size))
  have HA5 := Lib.hid (HI.out.keep HA4.out hb5)
  have HNn := Lib.hid (HI.out.nilNarrow 0 0 x w5 (by decide) (by decide) HX.out)
  clear HRn hb5 HA4 HB4
  go_wp2_with fail
  refine HNn.out.mono ?_
  rintro e w6 ⟨rfl, hb6⟩
  have HB6 := Lib.hid (HB5.out.trans (hb6.mono HB5.out.size))
  have HA6 := Lib.hid (HI.out.keep HA5.out hb6)
  have HPn := Lib.hid (HI.out.nilPlace x w6 HX.out)
  clear HNn hb6 HA5 HB5
  go_wp2_with fail
  refine HPn.out.mono ?_
  rintro e w7 ⟨rfl, hb7⟩
  have HB7 := Lib.hid (HB6.out.trans (hb7.mono HB6.out.size))
  have HA7 := Lib.hid (HI.out.keep HA6.out hb7)
  have HP := HI.out.places _ _ _ _ _ _ _ none 0 0 (fun _ => 0) w7 HA7.out (itsR_nil w7 _)
  rw [plsF_none] at HP
  have HP := Lib.hid HP
  clear HPn hb7 HA6 HB6
  go_wp2_with fail
  refine HP.out.mono ?_
  rintro e w8 ⟨⟨A8, c8, rfl, _⟩, hb8⟩
  have HB8 := Lib.hid (HB7.out.trans (hb8.mono HB7.out.size))
  have HLn := Lib.hid (HI.out.nilLen w8)
  clear HP hb8 HA7 HB7
  go_wp2_with fail
  refine HLn.out.mono ?_
  rintro e w9 ⟨rfl, hb9⟩
  have HB9 := Lib.hid (HB8.out.trans (hb9.mono HB8.out.size))
  have HBn := Lib.hid (HI.out.nilBefore x w9 HX.out)
  clear HLn hb9 HB8
  go_wp2_with fail
  refine HBn.out.mono ?_
  rintro e w10 ⟨rfl, hb10⟩
  have HB10 := Lib.hid (HB9.out.trans (hb10.mono HB9.out.size))
  have i4 : ItsR (w10.alloc (.cells #[.int .i64 1] 3)) (some ⟨w10.heap.size, 0, none⟩) 1 1 (litI [1]) := itsR_litF w10 [1] (by unfold maxLen; decide) (by decide)
  have hb11 : Below w10.heap.size w10 (w10.alloc (.cells #[.int .i64 1] 3)) := (Below.refl _ _).alloc (Nat.le_refl _) _
  have HB11 := Lib.hid (HB10.out.trans (hb11.mono HB10.out.size))
  have HQ := Lib.hid (HI.out.nilPlaces _ 1 1 _ _ i4)
  clear HBn hb10 HB9 i4 hb11 HB10
  go_wp2_with fail
  refine HQ.out.mono ?_
  rintro e w12 ⟨⟨A9, c9, rfl⟩, hb12⟩
  have HB12 := Lib.hid (HB11.out.trans (hb12.mono HB11.out.size))
  clear HQ hb12 HB11
  go_wp2_with fail
  go_ret
  exact ⟨rfl, HB12.out⟩
end
end Go.Proofs.YtbkdloebbbmkaaaGreat

namespace Go.Proofs.YtbkdloebbbmkaaaGreat
open Go.RowKit
section
variable {At : Nat → World → Value → Nat → (Nat → Int) → (Nat → Nat) → Nat → Nat → Prop}

set_option maxRecDepth 100000 in
set_option maxHeartbeats 3200000 in
theorem fdRanges_walk (I : FindI At) (A : Option Addr) (n c : Nat) (V : Nat → Nat) (A' : Option Addr) (np cp : Nat) (P : Nat → Int) (x0 : Int) (w : World) (hn : n ≤ maxLen) (ho : Bys w w.heap.size A n V) (ho' : ItsR w A' np cp P) :
    Calls Tryz.prog 4 #[.slice A n c, .slice A' np cp, .int .i64 x0] w fun e w' => e = .returned (.bool true) ∧ Below w.heap.size w w' := by
  have HI := Lib.hid I
  have HO := Lib.hid ho
  have HP := Lib.hid ho'
  have HF := Lib.hid (ffirst_any I w)
  have HNm := Lib.hid hn
  have hnp := ho'.2.1
  have hcp : cp ≤ 9223372036854775807 := by have := ho'.2.2.1; unfold maxLen at this; omega
  obtain ⟨k0, hk0, hk0l⟩ := turn_w x0 9 (by decide) (by decide)
  have hk03 : wrap64 ((IntKind.u64.wrap x0).tmod 9) = (k0 : Int) := hk0
  have hk04 : IntKind.i64.wrap (1 + (k0 : Int)) = 1 + (k0 : Int) := IntWalk.i64_in _ (by omega)
  have HK0 := Lib.hid hk03
  clear I ho ho' hn hk0
  by_cases hbig : 50 < np
  · have d1 : decide ((50 : Int) < (np : Int)) = true := decide_eq_true (by omega)
    go_enter Tryz.func4, Tryz.ntmps4
    go_wp2_with fail
    refine HF.out.mono ?_
    rintro e w0 ⟨rfl, hb0⟩
    have HB0 := Lib.hid hb0
    clear HF hb0 HO
    go_wp2_with fail
    go_ret
    exact ⟨rfl, HB0.out⟩
  · have d1 : decide ((50 : Int) < (np : Int)) = false := decide_eq_false (by omega)
    go_enter Tryz.func4, Tryz.ntmps4
    go_wp2_with fail
    refine HF.out.mono ?_
    rintro e w0 ⟨rfl, hb0⟩
    have HE := Lib.hid (ended_any A n c V w0 HNm.out ((HO.out.below hb0).mono_ hb0.size))
    have HB0 := Lib.hid hb0
    have HP0 := Lib.hid (HP.out.below hb0)
    clear HF hb0 HO HP
    go_wp2_with fail
    refine HE.out.mono ?_
    rintro e w1 ⟨⟨AT, AS, m, ct, cs, T, s, rfl, hend⟩, hb1⟩
    have HEnd := Lib.hid hend
    have HN := Lib.hid (fmade_any HI.out hend 21 (1 + (k0 : Int)) (by decide) (by decide) (by omega) (by omega))
    have HB1 := Lib.hid (HB0.out.trans (hb1.mono HB0.out.size))
    have HP1 := Lib.hid (HP0.out.below hb1)
    have hm := hend.small
    clear HE hb1 hend HB0 HP0
    go_wp2_with fail
    refine HN.out.mono ?_
    rintro e w2 ⟨⟨p, rfl, hAt⟩, hb2⟩
    have HB2 := Lib.hid (HB1.out.trans (hb2.mono HB1.out.size))
    have HP2 := Lib.hid (HP1.out.below hb2)
    have HEnd2 := Lib.hid (HEnd.out.below hb2)
    have HA2 := Lib.hid hAt
    have hnp4 : np ≤ 4194304 := by omega
    clear HN hb2 hAt HB1 HP1 HEnd
    go_wp2_with (at_builtin; refine step_append_list rfl (.tmp 37) (.tmp 38) rfl rfl rfl hnp4 HP2.out.1 HP2.out.2.2.2 ?_; intro g1 cg w3 hown3 hb3)
    have hit3 : Hid (ItsR w3 (some ⟨g1, 0, none⟩) np cg P) := Lib.hid (by
      obtain ⟨_, _, e, hit⟩ := ItsR.of_own hown3.out HP2.out.2.2.2.small
      cases e
      exact hit)
    have HB3 := Lib.hid (HB2.out.trans (hb3.mono HB2.out.size))
    have HP3 := Lib.hid (HP2.out.below hb3)
    have HA3 := Lib.hid (HI.out.keep HA2.out hb3)
    have HEnd3 := Lib.hid (HEnd2.out.below hb3)
    obtain ⟨x, y, hxy⟩ : ∃ x y : Nat, rngF (fun i => stB T m P np (s i)) m = (x, y) := ⟨_, _, rfl⟩
    have HXY := Lib.hid hxy
    have HR := HI.out.range_ _ _ _ _ _ _ _ _ _ _ _ w3 HA3.out hit3.out
    rw [hxy] at HR
    have HR := Lib.hid HR
    clear hown3 hb3 HP2 HA2 HEnd2 HB2 hxy
    refine HR.out.mono ?_
    rintro e w4 ⟨rfl, hb4⟩
    have HB4 := Lib.hid (HB3.out.trans (hb4.mono HB3.out.size))
    have HP4 := Lib.hid (HP3.out.below hb4)
    have HA4 := Lib.hid (HI.out.keep HA3.out hb4)
    have HEnd4 := Lib.hid (HEnd3.out.below hb4)
    have hit4 := Lib.hid (hit3.out.below hb4)
    have HS := refRange15_any AT AS A' m ct m cs np cp T P s w4 (by omega) (by omega) (by unfold maxLen; omega) (fun i hi => Nat.le_of_lt (HEnd4.out.sa.1 i hi)) HEnd4.out.list.2.2.2 HEnd4.out.order.2.2.2 HP4.out.2.2.2
    rw [HXY.out] at HS
    have HS := Lib.hid HS
    clear HR hb4 HB3 HP3 HA3 HEnd3 hit3
    go_wp2_with fail
    refine HS.out.mono ?_
    rintro e w5 ⟨rfl, hb5⟩
    have HB5 := Lib.hid (HB4.out.trans (hb5.mono HB4.out.size))
    have HP5 := Lib.hid (HP4.out.below hb5)
    have HA5 := Lib.hid (HI.out.keep HA4.out hb5)
    have HEnd5 := Lib.hid (HEnd4.out.below hb5)
    have hit5 := Lib.hid (hit4.out.below hb5)
    have HQ := Lib.hid (HI.out.places _ _ _ _ _ _ _ _ _ _ _ w5 HA5.out hit5.out)
    clear HS hb5 HB4 HP4 HA4 HEnd4 hit4
    go_wp2_with fail
    refine HQ.out.mono ?_
    rintro e w6 ⟨⟨A6, c6, rfl, hi6⟩, hb6⟩
    have HB6 := Lib.hid (HB5.out.trans (hb6.mono HB5.out.size))
    have HP6 := Lib.hid (HP5.out.below hb6)
    have HEnd6 := Lib.hid (HEnd5.out.below hb6)
    have hit6 := Lib.hid (hit5.out.below hb6)
    have HI6 := Lib.hid hi6
    have HQ2 := Lib.hid (refPlaces15_any AT A' m ct np cp T P w6 (by omega) (by unfold maxLen; omega) HEnd6.out.list.2.2.2 HP6.out.2.2.2)
    clear HQ hi6 hb6 HB5 HP5 HA5 HEnd5 hit5
    go_wp2_with fail
    refine HQ2.out.mono ?_
    rintro e w7 ⟨u7, rfl, hown7, hb7⟩
    have hpl := plsF_len T m P np m
    obtain ⟨A7, c7, rfl, hi7⟩ := ItsR.of_own hown7 (HI6.out.2.2.2.small)
    have HB7 := Lib.hid (HB6.out.trans (hb7.mono HB6.out.size))
    have HI7 := Lib.hid (HI6.out.below hb7)
    have HP7 := Lib.hid (HP6.out.below hb7)
    have hit7 := Lib.hid (hit6.out.below hb7)
    have HSm := Lib.hid (refSame8_any A6 A7 _ _ c6 c7 _ _ _ _ w7 (by unfold maxLen; omega) (Nat.le_refl _) (Nat.le_refl _) HI7.out.2.2.2 hi7.2.2.2)
    clear HQ2 hi7 hb7 HB6 HP6 HEnd6 hit6 HI6 HI7 hown7
    go_wp2_with fail
    refine HSm.out.mono ?_
    rintro e w8 ⟨b, rfl, hbi, hb8⟩
    obtain rfl : b = true := hbi.2 ⟨by trivial, fun _ _ => by trivial⟩
    have HB8 := Lib.hid (HB7.out.trans (hb8.mono HB7.out.size))
    have HP8 := Lib.hid (HP7.out.below hb8)
    have hit8 := Lib.hid (hit7.out.below hb8)
    have HSn := Lib.hid (refSame8_any (some ⟨g1, 0, none⟩) A' np np cg cp _ _ _ _ w8 (by unfold maxLen; omega) (Nat.le_refl _) (Nat.le_refl _) hit8.out.2.2.2 HP8.out.2.2.2)
    clear HSm hbi hb8 HB7 HP7 hit7 hpl
    go_wp2_with fail
    refine HSn.out.mono ?_
    rintro e w9 ⟨b, rfl, hbi, hb9⟩
    obtain rfl : b = true := hbi.2 ⟨by trivial, fun _ _ => by trivial⟩
    have HB9 := Lib.hid (HB8.out.trans (hb9.mono HB8.out.size))
    clear HSn hbi hb9 HB8
    go_wp2_with fail
    go_ret
    exact ⟨rfl, HB9.out⟩
end
end Go.Proofs.YtbkdloebbbmkaaaGreat

namespace Go.Proofs.YtbkdloebbbmkaaaGreat
open Go.RowKit
section
variable {At : Nat → World → Value → Nat → (Nat → Int) → (Nat → Nat) → Nat → Nat → Prop}

set_option maxRecDepth 100000 in
set_option maxHeartbeats 3200000 in
theorem fdPlaces_walk (I : FindI At) (A : Option Addr) (n c : Nat) (V : Nat → Nat) (x0 x : Int) (w : World) (hn : n ≤ maxLen) (hx : (Lit.int .i64 x).wf = true) (ho : Bys w w.heap.size A n V) :
    Calls Tryz.prog 5 #[.slice A n c, .int .i64 x0, .int .i64 x] w fun e w' => e = .returned (.bool true) ∧ Below w.heap.size w w' := by
  have HI := Lib.hid I
  have HO := Lib.hid ho
  have HF := Lib.hid (ffirst_any I w)
  have HNm := Lib.hid hn
  have HX := Lib.hid hx
  obtain ⟨k0, hk0, hk0l⟩ := turn_w x0 30 (by decide) (by decide)
  have hk03 : wrap64 ((IntKind.u64.wrap x0).tmod 30) = (k0 : Int) := hk0
  have hk04 : IntKind.i64.wrap (1 + (k0 : Int)) = 1 + (k0 : Int) := IntWalk.i64_in _ (by omega)
  have HK0 := Lib.hid hk03
  clear I ho hn hk0 hx
  go_enter Tryz.func5, Tryz.ntmps5
  go_wp2_with fail
  refine HF.out.mono ?_
  rintro e w0 ⟨rfl, hb0⟩
  have HE := Lib.hid (ended_any A n c V w0 HNm.out ((HO.out.below hb0).mono_ hb0.size))
  have HB0 := Lib.hid hb0
  clear HF hb0 HO
  go_wp2_with fail
  refine HE.out.mono ?_
  rintro e w1 ⟨⟨AT, AS, m, ct, cs, T, s, rfl, hend⟩, hb1⟩
  have HEnd := Lib.hid hend
  have HN := Lib.hid (fmade_any HI.out hend 21 (1 + (k0 : Int)) (by decide) (by decide) (by omega) (by omega))
  have HB1 := Lib.hid (HB0.out.trans (hb1.mono HB0.out.size))
  have hm := hend.small
  have hm0 := hend.once.1
  clear HE hb1 hend HB0
  go_wp2_with fail
  refine HN.out.mono ?_
  rintro e w2 ⟨⟨p, rfl, hAt⟩, hb2⟩
  have HB2 := Lib.hid (HB1.out.trans (hb2.mono HB1.out.size))
  have HEnd2 := Lib.hid (HEnd.out.below hb2)
  have HA2 := Lib.hid hAt
  have HTu := Lib.hid (refTurned_any AS m cs _ w2 (by omega) HEnd2.out.order.2.2.2)
  clear HN hb2 hAt HB1 HEnd
  go_wp2_with fail
  refine HTu.out.mono ?_
  rintro e w3 ⟨h3, hb3⟩
  obtain ⟨u3, R, rfl, hR, hown3⟩ : ∃ (u : Value) (R : Nat → Int), e = .returned (.tuple #[u, .bool true]) ∧ Turns (fun i => ((s i : Nat) : Int)) R m ∧ w3.ownsRow w2.heap.size 3 1 u m (icells R m) := h3.elim (fun h => h.2) (fun h => absurd HEnd2.out.sa.perm h.1)
  have hRs : ∀ j, j < m → -9223372036854775808 ≤ R j ∧ R j ≤ 9223372036854775807 := fun j hj => by
    obtain ⟨r, hr, hrj⟩ := HEnd2.out.sa.onto hj
    have h := hR r hr
    have h : R (((s r : Nat) : Int).toNat) = (r : Int) := h
    rw [Int.toNat_natCast, hrj] at h
    omega
  obtain ⟨AR, cr, rfl, hi3⟩ := ItsR.of_own hown3 hRs
  have HB3 := Lib.hid (HB2.out.trans (hb3.mono HB2.out.size))
  have HEnd3 := Lib.hid (HEnd2.out.below hb3)
  have HA3 := Lib.hid (HI.out.keep HA2.out hb3)
  have HI3 := Lib.hid hi3
  have HRt := Lib.hid hR
  clear HTu h3 hb3 hR hown3 hRs hi3 HB2 HEnd2 HA2
  go_wp2_with fail
  go_loopw [49] (fun v wr => ∃ i : Nat, i ≤ m ∧ v = .int .i64 (i : Int) ∧ Hid (Ended wr AT AS m ct cs T s) ∧ Hid (ItsR wr AR m cr R) ∧ Hid (At w1.heap.size wr (.pointer (some p)) m T s (21 : Int).toNat (1 + (k0 : Int)).toNat) ∧ Hid (Below w.heap.size w wr)) (fun v _ => m - (intOf v).toNat)
  case atStart => exact ⟨0, Nat.zero_le _, rfl, HEnd3, HI3, HA3, HB3⟩
  case round =>
    clear HEnd3 HI3 HA3 HB3
    obtain ⟨i, hi, rfl, hend, hrow, hat, hb⟩ := hrel
    have hm0i : (m : Int) ≠ 0 := by omega
    by_cases hlt : i < m
    · have hlti : (i : Int) < (m : Int) := by omega
      obtain ⟨ad, hA, _, cx, _⟩ := hend.out.order.2.2.2 i hlt
      subst hA
      have hsi := hend.out.sa.1 i hlt
      obtain ⟨r, hr, hrs⟩ := hend.out.sa.onto (p := (s i + m - 1) % m) (Nat.mod_lt _ hm0)
      have hRr : R ((s i + m - 1) % m) = (r : Int) := by
        have h : R (((s r : Nat) : Int).toNat) = (r : Int) := HRt.out r hr
        rwa [Int.toNat_natCast, hrs] at h
      have HPl := HI.out.place _ _ _ _ _ _ _ (i : Int) wr (wf_i64 (by omega) (by omega)) hat.out
      have HPl := Lib.hid (HPl.mono fun e w' h => And.intro (h.1 i rfl hlt) h.2.2)
      have HBf := Lib.hid fun W (hW : At w1.heap.size W (.pointer (some p)) m T s (21 : Int).toNat (1 + (k0 : Int)).toNat) => Lib.hid ((HI.out.before _ _ _ _ _ _ _ (i : Int) W (wf_i64 (by omega) (by omega)) hW).mono fun e w' h => And.intro (h.1 i r rfl hlt hr hrs) h.2.2)
      obtain ⟨z, hz⟩ : ∃ z, s i = z := ⟨_, rfl⟩
      replace cx : World.cell? _ (ad.add i) = some (.int .i64 ((s i : Nat) : Int)) := cx
      rw [hz] at cx hsi hrs hRr HPl
      obtain ⟨q, hq⟩ : ∃ q, (z + m - 1) % m = q := ⟨_, rfl⟩
      have hqm : q < m := by rw [← hq]; exact Nat.mod_lt _ hm0
      rw [hq] at hrs hRr
      have hq2 : ((z : Int) + (m : Int) - 1).tmod (m : Int) = (q : Int) := by
        rw [show (z : Int) + (m : Int) - 1 = ((z + m - 1 : Nat) : Int) by omega, Int.tmod_eq_emod_of_nonneg (by omega), ← hq]
        rfl
      obtain ⟨y, hy⟩ : ∃ y, z % (1 + (k0 : Int)).toNat = y := ⟨_, rfl⟩
      rw [hy] at HPl
      have hy2 : (z : Int).tmod (1 + (k0 : Int)) = (y : Int) := by
        rw [show (1 + (k0 : Int)) = ((k0 + 1 : Nat) : Int) by omega, Int.tmod_eq_emod_of_nonneg (by omega), ← hy, show (1 + (k0 : Int)).toNat = k0 + 1 by omega]
        rfl
      have hRr2 := Lib.hid hRr
      clear hy hq hz hrs
      go_wp2_with fail
      refine HPl.out.mono ?_
      rintro e w5 ⟨rfl, hb5⟩
      have HB5 := Lib.hid (hb.out.trans (hb5.mono hb.out.size))
      have HEnd5 := Lib.hid (hend.out.below hb5)
      have HI5 := Lib.hid (hrow.out.below hb5)
      have HA5 := Lib.hid (HI.out.keep hat.out hb5)
      clear HPl hend hrow hat hb5 hb cx
      go_wp2_with fail
      obtain ⟨ar, hAR, _, hcr, _⟩ := HI5.out.2.2.2 q hqm
      subst hAR
      rw [hRr] at hcr
      have hqmi : (q : Int) < (m : Int) := by omega
      have HAd : At w1.heap.size w5.drew (.pointer (some p)) m T s (21 : Int).toNat (1 + (k0 : Int)).toNat := HI.out.keep_ HA5.out (Nat.le_refl _) (fun _ _ _ => rfl)
      have hcd : w5.drew.cell? (ar.add q) = some (.int .i64 (r : Int)) := hcr
      have hBd := below_drew' HB5.out
      have HEd := HEnd5.out.below (below_drew' (Below.refl w5.heap.size w5))
      have HId := HI5.out.below (below_drew' (Below.refl w5.heap.size w5))
      have HB6s := HBf.out _ HAd
      have HEd := Lib.hid HEd
      have HId := Lib.hid HId
      have HAd := Lib.hid HAd
      have g1 : ((z : Int) != (z : Int)) = false := by simp
      have g2 : ((y : Int) != (y : Int)) = false := by simp
      have g3 : ((r : Int) != (r : Int)) = false := by simp
      have g4 : (1 + (k0 : Int)) ≠ 0 := by omega
      clear HBf hRr HEnd5 HI5 HA5 HB5 hq2
      go_region_held3 (fun w' => w'.cell? (ar.add q) = some (.int .i64 (r : Int)) ∧ Below w.heap.size w w')
        ((first
          | exact ⟨hcd, hBd⟩
          | exact ⟨hc6, hB6⟩))
        ((first
          | (go_at_call 24; (with_reducible refine HB6s.out.mono ?_); rintro e w6 ⟨rfl, hb6⟩; have hc6 : w6.cell? (ar.add q) = some (.int .i64 (r : Int)) := (by
              obtain ⟨ar', e', _, hcr', _⟩ := (HId.out.below hb6).2.2.2 q hqm
              cases e'
              rwa [hRr2.out] at hcr'); have hB6 := hBd.trans (hb6.mono hBd.size); have HE6 := Lib.hid (HEd.out.below hb6); have HI6 := Lib.hid (HId.out.below hb6); have HA6 := Lib.hid (HI.out.keep HAd.out hb6); clear hb6)))
      all_goals
        go_wp2_with fail
        go_roundw
        case rel => exact ⟨i + 1, by omega, by go_num, HE6, HI6, HA6, Lib.hid hB6⟩
        case measure => simp [intOf]; omega
    · obtain rfl : i = m := by omega
      have hge : ¬ (i : Int) < (i : Int) := by omega
      have hw1 := i64_in HX.out
      by_cases hin : 0 ≤ x ∧ x < (i : Int)
      · have g1 : decide (0 ≤ x) = true := decide_eq_true hin.1
        have g2 : decide (x < (i : Int)) = true := decide_eq_true hin.2
        have HPl := HI.out.place _ _ _ _ _ _ _ x wr HX.out hat.out
        obtain ⟨j, hj⟩ : ∃ j : Nat, x = (j : Int) := ⟨x.toNat, by omega⟩
        have HPl := Lib.hid (HPl.mono fun e w' h => And.intro (h.1 j hj (by omega)) h.2.2)
        clear hrow hat hin hj
        go_wp2_with fail
        refine HPl.out.mono ?_
        rintro e w5 ⟨rfl, hb5⟩
        have HB5 := Lib.hid (hb.out.trans (hb5.mono hb.out.size))
        clear HPl hb5 hb
        go_wp2_with fail
        go_ret
        exact ⟨rfl, HB5.out⟩
      · have HPl := HI.out.place _ _ _ _ _ _ _ x wr HX.out hat.out
        have HPl := Lib.hid (HPl.mono fun e w' h => And.intro (h.2.1 hin) h.2.2)
        have HBf := Lib.hid fun W (hW : At w1.heap.size W (.pointer (some p)) i T s (21 : Int).toNat (1 + (k0 : Int)).toNat) => Lib.hid ((HI.out.before _ _ _ _ _ _ _ x W HX.out hW).mono fun e w' h => And.intro (h.2.1 hin) h.2.2)
        go_wp2_with fail
        refine HPl.out.mono ?_
        rintro e w5 ⟨rfl, hb5⟩
        have HB5 := Lib.hid (hb.out.trans (hb5.mono hb.out.size))
        have HB6 := HBf.out w5 (HI.out.keep hat.out hb5)
        clear HPl hb5 hb hat hrow HBf
        by_cases h0 : 0 ≤ x
        · have g1 : decide (0 ≤ x) = true := decide_eq_true h0
          have g2 : decide (x < (i : Int)) = false := decide_eq_false (by omega)
          clear hin
          go_wp2_with fail
          refine HB6.out.mono ?_
          rintro e w6 ⟨rfl, hb6⟩
          have HB7 := Lib.hid (HB5.out.trans (hb6.mono HB5.out.size))
          clear HB6 hb6 HB5
          go_wp2_with fail
          go_ret
          exact ⟨rfl, HB7.out⟩
        · have g1 : decide (0 ≤ x) = false := decide_eq_false h0
          clear hin
          go_wp2_with fail
          refine HB6.out.mono ?_
          rintro e w6 ⟨rfl, hb6⟩
          have HB7 := Lib.hid (HB5.out.trans (hb6.mono HB5.out.size))
          clear HB6 hb6 HB5
          go_wp2_with fail
          go_ret
          exact ⟨rfl, HB7.out⟩
end
end Go.Proofs.YtbkdloebbbmkaaaGreat

namespace Go.Proofs.YtbkdloebbbmkaaaGreat
open Go.RowKit
theorem cntY {f : Nat → Bool} {i : Nat} (h : f i = true) : Pl.cnt f (i + 1) = Pl.cnt f i + 1 := by rw [Pl.cnt_succ, if_pos h]
theorem cntN {f : Nat → Bool} {i : Nat} (h : f i = false) : Pl.cnt f (i + 1) = Pl.cnt f i := by rw [Pl.cnt_succ, if_neg (by rw [h]; decide)]; rfl
/-- of the first i, those that are c ahead of a. -/
def trnA (T : Nat → Int) (n : Nat) (s : Nat → Nat) (c a : Int) (i : Nat) : Nat := Pl.cnt (fun j => decide (trnF T n s j = c) && decide ((j : Int) < a)) i
/-- of the first i, those below c. -/
def trnL (T : Nat → Int) (n : Nat) (s : Nat → Nat) (c : Int) (i : Nat) : Nat := Pl.cnt (fun j => decide (trnF T n s j < c)) i
theorem trnA_min (T : Nat → Int) (n : Nat) (s : Nat → Nat) (c : Int) (a : Nat) : ∀ i, trnA T n s c (a : Int) i = trnC T n s c (min i a)
  | 0 => by rw [Nat.zero_min]; rfl
  | i + 1 => by
    have ih := trnA_min T n s c a i
    unfold trnA trnC at ih ⊢
    by_cases h : i < a
    · rw [show min (i + 1) a = i + 1 by omega]
      rw [show min i a = i by omega] at ih
      by_cases h2 : trnF T n s i = c
      · rw [cntY (by simp [h2]; omega), cntY (by simp [h2]), ih]
      · rw [cntN (by simp [h2]), cntN (by simp [h2]), ih]
    · rw [show min (i + 1) a = a by omega]
      rw [show min i a = a by omega] at ih
      rw [cntN (by simp; intro _; omega), ih]
section
variable {At : Nat → World → Value → Nat → (Nat → Int) → (Nat → Nat) → Nat → Nat → Prop}

set_option maxRecDepth 100000 in
set_option maxHeartbeats 3200000 in
theorem fdNarrows_walk (I : FindI At) (A : Option Addr) (n ca : Nat) (V : Nat → Nat) (a b c : Int) (w : World) (hn : n ≤ maxLen) (hwa : (Lit.int .i64 a).wf = true) (hwb : (Lit.int .i64 b).wf = true) (hwc : (Lit.int .i64 c).wf = true) (ho : Bys w w.heap.size A n V) :
    Calls Tryz.prog 6 #[.slice A n ca, .agg #[.int .i64 a, .int .i64 b, .int .i64 c]] w fun e w' => e = .returned (.bool true) ∧ Below w.heap.size w w' := by
  have HI := Lib.hid I
  have hbx : Below w.heap.size w (w.alloc (.cells #[.int .i64 a, .int .i64 b, .int .i64 c] 49)) := (Below.refl _ _).alloc (Nat.le_refl _) _
  have HL := Lib.hid (lies_new w 49 [.int .i64 a, .int .i64 b, .int .i64 c])
  have HSz := Lib.hid (size_alloc w (.cells #[.int .i64 a, .int .i64 b, .int .i64 c] 49))
  have HO := Lib.hid ((ho.below hbx).mono_ hbx.size)
  have HF := Lib.hid (ffirst_any I (w.alloc (.cells #[.int .i64 a, .int .i64 b, .int .i64 c] 49)))
  have HNm := Lib.hid hn
  have HW := Lib.hid (And.intro hwa (And.intro hwb hwc))
  clear I ho hn hwa hwb hwc
  go_enter Tryz.func6, Tryz.ntmps6
  go_wp2_with fail
  refine HF.out.mono ?_
  rintro e w0 ⟨rfl, hb0⟩
  have HE := Lib.hid (ended_any A n ca V w0 HNm.out ((HO.out.below hb0).mono_ hb0.size))
  have HB0 := Lib.hid (hbx.trans (hb0.mono hbx.size))
  have HL0 := Lib.hid (HL.out.below hb0 (by rw [HSz.out]; omega))
  have hz0 : w.heap.size < w0.heap.size := by have := hb0.size; have := HSz.out; omega
  clear HF hb0 HO HL hbx
  go_wp2_with fail
  refine HE.out.mono ?_
  rintro e w1 ⟨⟨AT, AS, m, ct, cs, T, s, rfl, hend⟩, hb1⟩
  have HEnd := Lib.hid hend
  have HN := Lib.hid (fmade_any HI.out hend 21 4 (by decide) (by decide) (by decide) (by decide))
  have HB1 := Lib.hid (HB0.out.trans (hb1.mono HB0.out.size))
  have HL1 := Lib.hid (HL0.out.below hb1 hz0)
  have hz1 : w.heap.size < w1.heap.size := by have := hb1.size; omega
  have hm := hend.small
  have hm0 := hend.once.1
  clear HE hb1 hend HB0 HL0 hz0
  go_wp2_with fail
  refine HN.out.mono ?_
  rintro e w2 ⟨⟨p, rfl, hAt⟩, hb2⟩
  have HB2 := Lib.hid (HB1.out.trans (hb2.mono HB1.out.size))
  have HEnd2 := Lib.hid (HEnd.out.below hb2)
  have HL2 := Lib.hid (HL1.out.below hb2 hz1)
  have hz2 : w.heap.size < w2.heap.size := by have := hb2.size; omega
  have hc0 : w2.cell? ⟨w.heap.size, 0, none⟩ = some (.int .i64 a) := HL2.out.cell 0
  have hc1 : w2.cell? ⟨w.heap.size, 1, none⟩ = some (.int .i64 b) := HL2.out.cell 1
  have hc2 : w2.cell? ⟨w.heap.size, 2, none⟩ = some (.int .i64 c) := HL2.out.cell 2
  have HNa := Lib.hid (HI.out.narrow _ _ _ _ _ _ _ a b c w2 HW.out.1 HW.out.2.1 HW.out.2.2 hAt)
  clear HN hb2 hAt HB1 HEnd HL1 hz1
  go_wp2_with fail
  obtain ⟨n1, hn1⟩ : ∃ z, (narF T m s (21 : Int).toNat a b c).1 = z := ⟨_, rfl⟩
  obtain ⟨n2, hn2⟩ : ∃ z, (narF T m s (21 : Int).toNat a b c).2 = z := ⟨_, rfl⟩
  have HN1 := Lib.hid hn1
  have HN2 := Lib.hid hn2
  rw [hn1, hn2] at HNa
  clear hn1 hn2
  refine HNa.out.mono ?_
  rintro e w3 ⟨rfl, hb3⟩
  have HB3 := Lib.hid (HB2.out.trans (hb3.mono HB2.out.size))
  have HEnd3 := Lib.hid (HEnd2.out.below hb3)
  have HL3 := Lib.hid (HL2.out.below hb3 hz2)
  have hz3 : w.heap.size < w3.heap.size := by have := hb3.size; omega
  clear HNa hb3 HB2 HEnd2 HL2 hc0 hc1 hc2 hz2
  go_wp2_with fail
  have hd0 : w3.cell? ⟨w.heap.size, 0, none⟩ = some (.int .i64 a) := HL3.out.cell 0
  have hd1 : w3.cell? ⟨w.heap.size, 1, none⟩ = some (.int .i64 b) := HL3.out.cell 1
  have hd2 : w3.cell? ⟨w.heap.size, 2, none⟩ = some (.int .i64 c) := HL3.out.cell 2
  go_loop [11, 12, 13, 43] (fun u1 u2 u3 v => ∃ i x y z : Nat, i ≤ m ∧ x ≤ i ∧ y ≤ i ∧ z ≤ i ∧ u1 = .int .i64 (x : Int) ∧ u2 = .int .i64 (y : Int) ∧ u3 = .int .i64 (z : Int) ∧ v = .int .i64 (i : Int) ∧ Hid (x = trnA T m s c a i ∧ y = trnA T m s c b i ∧ z = trnL T m s c i)) (fun _ _ _ v => m - (intOf v).toNat)
  case atStart => exact ⟨0, 0, 0, 0, Nat.zero_le _, Nat.le_refl _, Nat.le_refl _, Nat.le_refl _, rfl, rfl, rfl, rfl, Lib.hid ⟨rfl, rfl, rfl⟩⟩
  case round =>
    obtain ⟨i, x, y, z, hi, hxi, hyi, hzi, rfl, rfl, rfl, rfl, hxyz⟩ := hrel
    have hm0i : (m : Int) ≠ 0 := by omega
    by_cases hlt : i < m
    · have hlti : (i : Int) < (m : Int) := by omega
      obtain ⟨ad, hA, _, cx, _⟩ := HEnd3.out.order.2.2.2 i hlt
      subst hA
      have hsi := HEnd3.out.sa.1 i hlt
      obtain ⟨q, hq⟩ : ∃ q, (s i + m - 1) % m = q := ⟨_, rfl⟩
      have hqm : q < m := by rw [← hq]; exact Nat.mod_lt _ hm0
      have hqmi : (q : Int) < (m : Int) := by omega
      obtain ⟨ar, hAR, _, cq, _⟩ := HEnd3.out.list.2.2.2 q hqm
      subst hAR
      have htr : trnF T m s i = T q := by unfold trnF; rw [hq]
      replace cx : World.cell? _ (ad.add i) = some (.int .i64 ((s i : Nat) : Int)) := cx
      obtain ⟨g, hg⟩ : ∃ g, s i = g := ⟨_, rfl⟩
      rw [hg] at cx hsi hq
      have hq2 : ((g : Int) + (m : Int) - 1).tmod (m : Int) = (q : Int) := by
        rw [show (g : Int) + (m : Int) - 1 = ((g + m - 1 : Nat) : Int) by omega, Int.tmod_eq_emod_of_nonneg (by omega), ← hq]
        rfl
      obtain ⟨t, ht⟩ : ∃ t, T q = t := ⟨_, rfl⟩
      rw [ht] at cq htr
      clear hg hq ht
      rcases Int.lt_trichotomy t c with h1 | h1 | h1
      · have g1 : decide (t < c) = true := decide_eq_true h1
        have g2 : (t == c) = false := by rw [beq_eq_false_iff_ne]; omega
        have HN : Hid (x = trnA T m s c a (i + 1) ∧ y = trnA T m s c b (i + 1) ∧ z + 1 = trnL T m s c (i + 1)) := Lib.hid ⟨by
          unfold trnA; rw [cntN (by simp [htr]; intro h; omega)]; exact hxyz.out.1, by
          unfold trnA; rw [cntN (by simp [htr]; intro h; omega)]; exact hxyz.out.2.1, by
          unfold trnL; rw [cntY (by simp [htr]; omega)]; rw [hxyz.out.2.2]; rfl⟩
        clear htr h1 hxyz
        go_wp2_with fail
        go_round
        case rel => exact ⟨i + 1, x, y, z + 1, by omega, by omega, by omega, by omega, rfl, rfl, by go_num, by go_num, HN⟩
        case measure => simp [intOf]; omega
      · subst h1
        have g1 : decide (t < t) = false := decide_eq_false (by omega)
        have g2 : (t == t) = true := by simp
        have HZ : Hid (z = trnL T m s t (i + 1)) := Lib.hid (by
          unfold trnL; rw [cntN (by simp [htr])]; exact hxyz.out.2.2)
        by_cases h3 : (i : Int) < a
        · have g3 : decide ((i : Int) < a) = true := decide_eq_true h3
          by_cases h4 : (i : Int) < b
          · have g4 : decide ((i : Int) < b) = true := decide_eq_true h4
            have HN : Hid (x + 1 = trnA T m s t a (i + 1) ∧ y + 1 = trnA T m s t b (i + 1)) := Lib.hid ⟨by
                unfold trnA; rw [cntY (by simp [htr, h3])]; rw [hxyz.out.1]; rfl, by
                unfold trnA; rw [cntY (by simp [htr, h4])]; rw [hxyz.out.2.1]; rfl⟩
            clear htr hxyz
            go_wp2_with fail
            go_round
            case rel => exact ⟨i + 1, x + 1, y + 1, z, by omega, by omega, by omega, by omega, by go_num, by go_num, rfl, by go_num, Lib.hid ⟨HN.out.1, HN.out.2, HZ.out⟩⟩
            case measure => simp [intOf]; omega
          · have g4 : decide ((i : Int) < b) = false := decide_eq_false h4
            have HN : Hid (x + 1 = trnA T m s t a (i + 1) ∧ y = trnA T m s t b (i + 1)) := Lib.hid ⟨by
                unfold trnA; rw [cntY (by simp [htr, h3])]; rw [hxyz.out.1]; rfl, by
                unfold trnA; rw [cntN (by simp [htr]; omega)]; exact hxyz.out.2.1⟩
            clear htr hxyz
            go_wp2_with fail
            go_round
            case rel => exact ⟨i + 1, x + 1, y, z, by omega, by omega, by omega, by omega, by go_num, rfl, rfl, by go_num, Lib.hid ⟨HN.out.1, HN.out.2, HZ.out⟩⟩
            case measure => simp [intOf]; omega
        · have g3 : decide ((i : Int) < a) = false := decide_eq_false h3
          by_cases h4 : (i : Int) < b
          · have g4 : decide ((i : Int) < b) = true := decide_eq_true h4
            have HN : Hid (x = trnA T m s t a (i + 1) ∧ y + 1 = trnA T m s t b (i + 1)) := Lib.hid ⟨by
                unfold trnA; rw [cntN (by simp [htr]; omega)]; exact hxyz.out.1, by
                unfold trnA; rw [cntY (by simp [htr, h4])]; rw [hxyz.out.2.1]; rfl⟩
            clear htr hxyz
            go_wp2_with fail
            go_round
            case rel => exact ⟨i + 1, x, y + 1, z, by omega, by omega, by omega, by omega, rfl, by go_num, rfl, by go_num, Lib.hid ⟨HN.out.1, HN.out.2, HZ.out⟩⟩
            case measure => simp [intOf]; omega
          · have g4 : decide ((i : Int) < b) = false := decide_eq_false h4
            have HN : Hid (x = trnA T m s t a (i + 1) ∧ y = trnA T m s t b (i + 1)) := Lib.hid ⟨by
                unfold trnA; rw [cntN (by simp [htr]; omega)]; exact hxyz.out.1, by
                unfold trnA; rw [cntN (by simp [htr]; omega)]; exact hxyz.out.2.1⟩
            clear htr hxyz
            go_wp2_with fail
            go_round
            case rel => exact ⟨i + 1, x, y, z, by omega, by omega, by omega, by omega, rfl, rfl, rfl, by go_num, Lib.hid ⟨HN.out.1, HN.out.2, HZ.out⟩⟩
            case measure => simp [intOf]; omega
      · have g1 : decide (t < c) = false := decide_eq_false (by omega)
        have g2 : (t == c) = false := by rw [beq_eq_false_iff_ne]; omega
        have HN : Hid (x = trnA T m s c a (i + 1) ∧ y = trnA T m s c b (i + 1) ∧ z = trnL T m s c (i + 1)) := Lib.hid ⟨by
          unfold trnA; rw [cntN (by simp [htr]; intro h; omega)]; exact hxyz.out.1, by
          unfold trnA; rw [cntN (by simp [htr]; intro h; omega)]; exact hxyz.out.2.1, by
          unfold trnL; rw [cntN (by simp [htr]; omega)]; exact hxyz.out.2.2⟩
        clear htr h1 hxyz
        go_wp2_with fail
        go_round
        case rel => exact ⟨i + 1, x, y, z, by omega, by omega, by omega, by omega, rfl, rfl, rfl, by go_num, HN⟩
        case measure => simp [intOf]; omega
    · obtain rfl : i = m := by omega
      have hge : ¬ (i : Int) < (i : Int) := by omega
      have hwa := i64_in HW.out.1
      have hwb := i64_in HW.out.2.1
      have hwc := i64_in HW.out.2.2
      by_cases hr : 0 ≤ a ∧ a ≤ b ∧ b ≤ (i : Int) ∧ 0 ≤ c ∧ c < (((21 : Int).toNat : Nat) : Int)
      · obtain ⟨a', ha'⟩ : ∃ k : Nat, a = (k : Int) := ⟨a.toNat, by omega⟩
        obtain ⟨b', hb'⟩ : ∃ k : Nat, b = (k : Int) := ⟨b.toNat, by omega⟩
        have hr21 : c < 21 := hr.2.2.2.2
        have e1 : x = trnC T i s c a' := by rw [hxyz.out.1, ha', trnA_min, show min i a' = a' by omega]
        have e2 : y = trnC T i s c b' := by rw [hxyz.out.2.1, hb', trnA_min, show min i b' = b' by omega]
        have e3 : z = trnB T i s c := hxyz.out.2.2
        have d1 : decide (a < 0) = false := decide_eq_false (by omega)
        have d2 : decide (b < a) = false := decide_eq_false (by omega)
        have d3 : decide ((i : Int) < b) = false := decide_eq_false (by omega)
        have d4 : decide (c < 0) = false := decide_eq_false (by omega)
        have d5 : decide (20 < c) = false := decide_eq_false (by omega)
        by_cases hxy : x = y
        · have hv : narF T i s (21 : Int).toNat a b c = (0, 0) := by
            unfold narF
            rw [ha', hb', Int.toNat_natCast, Int.toNat_natCast, ← e1, ← e2, if_neg (fun h => h.2 hxy)]
          obtain rfl : n1 = 0 := by rw [← HN1.out, hv]
          obtain rfl : n2 = 0 := by rw [← HN2.out, hv]
          subst hxy
          have d6 : ((x : Int) == (x : Int)) = true := by simp
          clear hv e1 e2 e3 hxyz ha' hb' hr HN1 HN2
          go_wp2_with fail
          go_ret
          exact ⟨rfl, HB3.out⟩
        · have hv : narF T i s (21 : Int).toNat a b c = (((z + x : Nat) : Int), ((z + y : Nat) : Int)) := by
            unfold narF
            rw [if_pos ⟨hr, by rw [ha', hb', Int.toNat_natCast, Int.toNat_natCast, ← e1, ← e2]; exact hxy⟩, ha', hb', Int.toNat_natCast, Int.toNat_natCast, ← e1, ← e2, ← e3]
          obtain rfl : n1 = ((z + x : Nat) : Int) := by rw [← HN1.out, hv]
          obtain rfl : n2 = ((z + y : Nat) : Int) := by rw [← HN2.out, hv]
          have d6 : ((x : Int) == (y : Int)) = false := by rw [beq_eq_false_iff_ne]; omega
          have d7 : IntKind.i64.wrap ((z : Int) + (x : Int)) = ((z + x : Nat) : Int) := by rw [IntWalk.i64_in _ (by omega)]; omega
          have d8 : IntKind.i64.wrap ((z : Int) + (y : Int)) = ((z + y : Nat) : Int) := by rw [IntWalk.i64_in _ (by omega)]; omega
          have d9 : (((z + x : Nat) : Int) == ((z + x : Nat) : Int)) = true := by simp
          have d10 : (((z + y : Nat) : Int) == ((z + y : Nat) : Int)) = true := by simp
          clear hv e1 e2 e3 hxyz ha' hb' hr HN1 HN2
          go_wp2_with fail
          go_ret
          exact ⟨rfl, HB3.out⟩
      · have hv : narF T i s (21 : Int).toNat a b c = (0, 0) := if_neg fun h => hr h.1
        obtain rfl : n1 = 0 := by rw [← HN1.out, hv]
        obtain rfl : n2 = 0 := by rw [← HN2.out, hv]
        have hr2 : ¬ (0 ≤ a ∧ a ≤ b ∧ b ≤ (i : Int) ∧ 0 ≤ c ∧ c < 21) := hr
        clear hv hxyz hr HN1 HN2
        by_cases h1 : a < 0
        · have d1 : decide (a < 0) = true := decide_eq_true h1
          clear hr2
          go_wp2_with fail
          go_ret
          exact ⟨rfl, HB3.out⟩
        have d1 : decide (a < 0) = false := decide_eq_false h1
        by_cases h2 : b < a
        · have d2 : decide (b < a) = true := decide_eq_true h2
          clear hr2
          go_wp2_with fail
          go_ret
          exact ⟨rfl, HB3.out⟩
        have d2 : decide (b < a) = false := decide_eq_false h2
        by_cases h3 : (i : Int) < b
        · have d3 : decide ((i : Int) < b) = true := decide_eq_true h3
          clear hr2
          go_wp2_with fail
          go_ret
          exact ⟨rfl, HB3.out⟩
        have d3 : decide ((i : Int) < b) = false := decide_eq_false h3
        by_cases h4 : c < 0
        · have d4 : decide (c < 0) = true := decide_eq_true h4
          clear hr2
          go_wp2_with fail
          go_ret
          exact ⟨rfl, HB3.out⟩
        have d4 : decide (c < 0) = false := decide_eq_false h4
        have d5 : decide (20 < c) = true := decide_eq_true (by omega)
        clear hr2
        go_wp2_with fail
        go_ret
        exact ⟨rfl, HB3.out⟩
end
end Go.Proofs.YtbkdloebbbmkaaaGreat
