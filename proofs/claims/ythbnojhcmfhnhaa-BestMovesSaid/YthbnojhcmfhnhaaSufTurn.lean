/- The document's functions of layer 9: Less, Right. The document's Array of layer 9: by putting each suffix among the others. The document's Turned of layer 9. -/
import Derived.Test.YthbnojhcmfhnhaaSufMath
import Derived.Test.YthbnojhcmfhnhaaIntPut
import Derived.Test.YthbnojhcmfhnhaaCrc
import Derived.Deep.QuietTactic
import Derived.BigQuiet
import Derived.Lib.Hide
namespace Go.Proofs.Ythbnojhcmfhnhaa
open Go.RowKit

/-- are all numbers below an alphabet? -/
def RightS (V : Nat → Int) (n : Nat) (al : Int) : Prop := (0 ≤ al ∧ al ≤ 4194304 ∧ n ≤ 4194304) ∧ ∀ i, i < n → 0 ≤ V i ∧ V i < al
set_option maxRecDepth 100000 in
set_option maxHeartbeats 1600000 in
theorem refRightS_is (A : Option Addr) (n c : Nat) (V : Nat → Int) (al : Int) (B : Nat) (w : World) (hn : n ≤ maxLen) (ho : Its w B A n V) (r : Bool) (hr : r = true ↔ RightS V n al) :
    Calls Try.prog 8 #[.slice A n c, .int .i64 al] w fun e w' => e = .returned (.bool r) ∧ w = w' := by
  have HR := Lib.hid hr
  have HO := Lib.hid ho
  have hnl : n ≤ 9223372036854775807 := by unfold maxLen at hn; omega
  clear ho hn hr
  by_cases hal : 0 ≤ al ∧ al ≤ 4194304 ∧ n ≤ 4194304
  · obtain ⟨h1, h2, h3⟩ := hal
    have d1 : decide (al < 0) = false := decide_eq_false (by omega)
    have d2 : decide ((4194304 : Int) < al) = false := decide_eq_false (by omega)
    have d3 : decide ((4194304 : Int) < (n : Int)) = false := decide_eq_false (by omega)
    go_enter Try.func8, Try.ntmps8
    go_wp2_with fail
    go_loop [20] (fun v => ∃ i : Nat, i ≤ n ∧ v = .int .i64 (i : Int) ∧ Hid (∀ j, j < i → 0 ≤ V j ∧ V j < al)) (fun v => n - (intOf v).toNat)
    case atStart => exact ⟨0, Nat.zero_le _, rfl, Lib.hid (fun j hj => absurd hj (Nat.not_lt_zero j))⟩
    case round =>
      obtain ⟨i, hi, rfl, hall⟩ := hrel
      by_cases hlt : i < n
      · have hlti : (i : Int) < (n : Int) := by omega
        obtain ⟨ad, rfl, _, hc, hv1, hv2⟩ := HO.out i hlt
        obtain ⟨v, hv⟩ : ∃ v, V i = v := ⟨_, rfl⟩
        rw [hv] at hc hv1 hv2
        have HV := Lib.hid hv
        clear hv
        by_cases hok : 0 ≤ v ∧ v < al
        · have e1 : decide (v < 0) = false := decide_eq_false (by omega)
          have e2 : decide (al ≤ v) = false := decide_eq_false (by omega)
          go_wp2_with fail
          go_round
          case rel => exact ⟨i + 1, by omega, by go_num, Lib.hid (fun j hj => by
            by_cases e : j < i
            · exact hall.out j e
            · obtain rfl : j = i := by omega
              rw [HV.out]
              exact hok)⟩
          case measure => simp [intOf]; omega
        · have hbad : Hid (¬ RightS V n al) := Lib.hid (fun h => hok (by rw [← HV.out]; exact h.2 i hlt))
          have hcond : decide (v < 0) = true ∨ (decide (v < 0) = false ∧ decide (al ≤ v) = true) := by
            by_cases h0 : v < 0
            · exact .inl (decide_eq_true h0)
            · exact .inr ⟨decide_eq_false h0, decide_eq_true (by omega)⟩
          obtain rfl : r = false := by
            rcases r with _ | _
            · rfl
            · exact absurd (HR.out.1 rfl) hbad.out
          clear hok HR
          rcases hcond with e1 | ⟨e1, e2⟩
          all_goals
            go_wp2_with fail
            go_ret
            exact ⟨rfl, rfl⟩
      · obtain rfl : i = n := by omega
        obtain rfl : r = true := HR.out.2 ⟨⟨h1, h2, h3⟩, hall.out⟩
        go_wp2_with fail
        go_ret
        exact ⟨rfl, rfl⟩
  · have hbad : Hid (¬ RightS V n al) := Lib.hid (fun h => hal h.1)
    have hcond : decide (al < 0) = true ∨ (decide (al < 0) = false ∧ decide ((4194304 : Int) < al) = true) ∨ (decide (al < 0) = false ∧ decide ((4194304 : Int) < al) = false ∧ decide ((4194304 : Int) < (n : Int)) = true) := by
      by_cases h0 : al < 0
      · exact .inl (decide_eq_true h0)
      · by_cases h1 : (4194304 : Int) < al
        · exact .inr (.inl ⟨decide_eq_false h0, decide_eq_true h1⟩)
        · exact .inr (.inr ⟨decide_eq_false h0, decide_eq_false h1, decide_eq_true (by omega)⟩)
    obtain rfl : r = false := by
      rcases r with _ | _
      · rfl
      · exact absurd (HR.out.1 rfl) hbad.out
    clear hal HR
    rcases hcond with d1 | ⟨d1, d2⟩ | ⟨d1, d2, d3⟩
    all_goals
      go_enter Try.func8, Try.ntmps8
      go_wp2_with fail
      go_ret
      exact ⟨rfl, rfl⟩
theorem refRightS_any (A : Option Addr) (n c : Nat) (V : Nat → Int) (al : Int) (B : Nat) (w : World) (hn : n ≤ maxLen) (ho : Its w B A n V) :
    ∃ r : Bool, (r = true ↔ RightS V n al) ∧ Calls Try.prog 8 #[.slice A n c, .int .i64 al] w fun e w' => e = .returned (.bool r) ∧ w = w' := by
  by_cases h : RightS V n al
  · exact ⟨true, ⟨fun _ => h, fun _ => rfl⟩, refRightS_is A n c V al B w hn ho true ⟨fun _ => h, fun _ => rfl⟩⟩
  · exact ⟨false, ⟨fun e => (by cases e), fun e => absurd e h⟩, refRightS_is A n c V al B w hn ho false ⟨fun e => (by cases e), fun e => absurd e h⟩⟩
end Go.Proofs.Ythbnojhcmfhnhaa

namespace Go.Proofs.Ythbnojhcmfhnhaa
open Go.RowKit

/-- s: the places below p, the least suffix's first. -/
def IsOrd (V : Nat → Int) (n p : Nat) (s : Nat → Nat) : Prop := (∀ i, i < p → s i < p) ∧ ∀ i j, i < j → j < p → SLess V n (s i) (s j)
/-- p put at the place at. -/
def putAt (s : Nat → Nat) (p at_ : Nat) : Nat → Nat := fun j => if at_ < j then s (j - 1) else if j = at_ then p else s j
theorem IsOrd.put {V : Nat → Int} {n p at_ : Nat} {s : Nat → Nat} (h : IsOrd V n p s) (hp : p < n) (hat : at_ ≤ p) (h1 : ∀ j, j < at_ → SLess V n (s j) p) (h2 : at_ < p → ¬ SLess V n (s at_) p) : IsOrd V n (p + 1) (putAt s p at_) := by
  have h3 : ∀ j, at_ ≤ j → j < p → SLess V n p (s j) := fun j hj hjp => by
    have hsa := h.1 at_ (by omega)
    have h4 : SLess V n p (s at_) := (sless_or (by omega) (by omega) (by omega)).resolve_right (h2 (by omega))
    by_cases e : j = at_
    · rw [e]; exact h4
    · exact sless_trans h4 (h.2 at_ j (by omega) hjp)
  refine ⟨fun i hi => ?_, fun i j hij hj => ?_⟩
  · unfold putAt
    split
    · have := h.1 (i - 1) (by omega)
      omega
    · split
      · omega
      · have := h.1 i (by omega)
        omega
  · unfold putAt
    split
    · rw [if_pos (by omega)]
      exact h.2 _ _ (by omega) (by omega)
    · split
      · rw [if_pos (by omega)]
        exact h3 _ (by omega) (by omega)
      · split
        · by_cases e : i < j - 1
          · exact h.2 _ _ e (by omega)
          · have hji : j - 1 = i := by omega
            omega
        · split
          · exact h1 _ (by omega)
          · exact h.2 _ _ hij (by omega)
/-- the row while numbers are moved up. -/
def insF (s : Nat → Nat) (p i : Nat) : Nat → Int := fun j => if i < j then ((s (j - 1) : Nat) : Int) else if j = p then 0 else ((s j : Nat) : Int)
theorem insF_start (s : Nat → Nat) (p : Nat) : icells (fun i => ((s i : Nat) : Int)) p ++ [.int .i64 0] = icells (insF s p p) (p + 1) := by
  rw [icells_snoc]
  congr 1
  · refine icells_congr fun j hj => ?_
    unfold insF
    rw [if_neg (by omega), if_neg (by omega)]
  · unfold insF
    rw [if_neg (by omega), if_pos rfl]
theorem insF_step (s : Nat → Nat) {p i : Nat} (_hi : i < p) : icells (fun j => if j = i + 1 then ((s i : Nat) : Int) else insF s p (i + 1) j) (p + 1) = icells (insF s p i) (p + 1) := by
  refine icells_congr fun j hj => ?_
  show (if j = i + 1 then ((s i : Nat) : Int) else insF s p (i + 1) j) = insF s p i j
  unfold insF
  by_cases e : j = i + 1
  · rw [if_pos e, if_pos (by omega), show j - 1 = i by omega]
  · rw [if_neg e]
    by_cases h1 : i + 1 < j
    · rw [if_pos h1, if_pos (by omega)]
    · rw [if_neg h1, if_neg (show ¬ i < j by omega)]
theorem insF_at (s : Nat → Nat) {p i : Nat} (hi : i < p) : insF s p (i + 1) i = ((s i : Nat) : Int) := by
  unfold insF
  rw [if_neg (by omega), if_neg (by omega)]
theorem insF_end (s : Nat → Nat) {p at_ : Nat} (hat : at_ ≤ p) : icells (fun j => if j = at_ then (p : Int) else insF s p at_ j) (p + 1) = icells (fun j => ((putAt s p at_ j : Nat) : Int)) (p + 1) := by
  refine icells_congr fun j hj => ?_
  show (if j = at_ then (p : Int) else insF s p at_ j) = ((putAt s p at_ j : Nat) : Int)
  unfold insF putAt
  by_cases e : j = at_
  · rw [if_pos e, if_neg (by omega), if_pos e]
  · rw [if_neg e]
    by_cases h1 : at_ < j
    · rw [if_pos h1, if_pos h1]
    · rw [if_neg h1, if_neg h1, if_neg (by omega), if_neg e]

end Go.Proofs.Ythbnojhcmfhnhaa

namespace Go.Proofs.Ythbnojhcmfhnhaa
open Go.RowKit

/-- what Turned leaves. -/
def TurnedPost (w : World) (n : Nat) (V : Nat → Int) (e : Ending) (w' : World) : Prop :=
  ((IsPerm V n ∧ ∃ (u : Value) (R : Nat → Int), e = .returned (.tuple #[u, .bool true]) ∧ Turns V R n ∧ w'.ownsRow w.heap.size 3 1 u n (icells R n)) ∨ (¬ IsPerm V n ∧ e = .returned (.tuple #[.slice none 0 0, .bool false]))) ∧ Below w.heap.size w w'

/-- the first i numbers turned: R the row, Z what has been seen. -/
structure TurnIn (V : Nat → Int) (n i : Nat) (R : Nat → Int) (Z : Nat → Nat) : Prop where
  lt : ∀ j, j < i → 0 ≤ V j ∧ V j < (n : Int)
  apart : ∀ a b, a < b → b < i → V a ≠ V b
  at_ : ∀ j, j < i → R (V j).toNat = (j : Int)
  seen : ∀ q, q < n → (Z q = 1 ↔ ∃ j, j < i ∧ V j = (q : Int))
  bit : ∀ q, Z q = 0 ∨ Z q = 1
theorem TurnIn.start (V : Nat → Int) (n : Nat) : TurnIn V n 0 (fun _ => 0) (fun _ => 0) :=
  ⟨fun j hj => absurd hj (Nat.not_lt_zero j), fun a b _ hb => absurd hb (Nat.not_lt_zero b), fun j hj => absurd hj (Nat.not_lt_zero j), fun q _ => ⟨fun h => absurd h (by decide), fun ⟨j, hj, _⟩ => absurd hj (Nat.not_lt_zero j)⟩, fun _ => .inl rfl⟩
theorem TurnIn.next {V : Nat → Int} {n i p : Nat} {R : Nat → Int} {Z : Nat → Nat} (h : TurnIn V n i R Z) (hp : V i = (p : Int)) (hpn : p < n) (hz : Z p = 0) : TurnIn V n (i + 1) (fun j => if j = p then (i : Int) else R j) (fun j => if j = p then 1 else Z j) := by
  have hno : ∀ j, j < i → V j ≠ (p : Int) := fun j hj e => by
    have := (h.seen p hpn).2 ⟨j, hj, e⟩
    omega
  refine ⟨fun j hj => ?_, fun a b hab hb => ?_, fun j hj => ?_, fun q hq => ?_, fun q => ?_⟩
  · by_cases e : j = i
    · subst e; omega
    · exact h.lt j (by omega)
  · by_cases e : b = i
    · subst e
      rw [hp]
      exact hno a hab
    · exact h.apart a b hab (by omega)
  · show (if (V j).toNat = p then (i : Int) else R (V j).toNat) = (j : Int)
    by_cases e : j = i
    · subst e
      rw [hp, Int.toNat_natCast, if_pos rfl]
    · have h1 := hno j (by omega)
      have h2 := h.lt j (by omega)
      rw [if_neg (by omega)]
      exact h.at_ j (by omega)
  · show (if q = p then 1 else Z q) = 1 ↔ _
    by_cases e : q = p
    · subst e
      rw [if_pos rfl]
      exact ⟨fun _ => ⟨i, by omega, hp⟩, fun _ => rfl⟩
    · rw [if_neg e, h.seen q hq]
      constructor
      · rintro ⟨j, hj, hv⟩
        exact ⟨j, by omega, hv⟩
      · rintro ⟨j, hj, hv⟩
        refine ⟨j, ?_, hv⟩
        apply Nat.lt_of_le_of_ne (by omega)
        rintro rfl
        rw [hp] at hv
        omega
  · show (if q = p then 1 else Z q) = 0 ∨ (if q = p then 1 else Z q) = 1
    split
    · exact .inr rfl
    · exact h.bit q
theorem TurnIn.bad {V : Nat → Int} {n i : Nat} {R : Nat → Int} {Z : Nat → Nat} (h : TurnIn V n i R Z) (hi : i < n) (hb : V i < 0 ∨ (n : Int) ≤ V i ∨ ∃ p : Nat, p < n ∧ V i = (p : Int) ∧ Z p = 1) : ¬ IsPerm V n := by
  intro hP
  have h1 := hP.1 i hi
  rcases hb with hb | hb | ⟨p, h2, h3, h4⟩
  · omega
  · omega
  · obtain ⟨j, hj, he⟩ := (h.seen p h2).1 h4
    exact hP.2 j i hj hi (by rw [he, h3])
theorem TurnIn.good {V : Nat → Int} {n : Nat} {R : Nat → Int} {Z : Nat → Nat} (h : TurnIn V n n R Z) : IsPerm V n ∧ Turns V R n := ⟨⟨h.lt, h.apart⟩, h.at_⟩

end Go.Proofs.Ythbnojhcmfhnhaa
