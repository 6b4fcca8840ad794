/- The document's functions of layer 9: Less, Right. The document's Array of layer 9: by putting each suffix among the others. The document's Turned of layer 9. -/
import Derived.Test.YtpdleigcdmgfmaaSufMath
import Derived.Test.YtpdleigcdmgfmaaIntPut
import Derived.Test.YtpdleigcdmgfmaaCrc
import Derived.Deep.QuietTactic
import Derived.BigQuiet
import Derived.Lib.Hide
namespace Go.Proofs.Ytpdleigcdmgfmaa
open Go.RowKit

/-- are all numbers below an alphabet? -/
def RightS (V : Nat → Int) (n : Nat) (al : Int) : Prop := (0 ≤ al ∧ al ≤ 4194304 ∧ n ≤ 4194304) ∧ ∀ i, i < n → 0 ≤ V i ∧ V i < al
end Go.Proofs.Ytpdleigcdmgfmaa

namespace Go.Proofs.Ytpdleigcdmgfmaa
open Go.RowKit

/-- s: the places below p, the least suffix's first. -/
def IsOrd (V : Nat → Int) (n p : Nat) (s : Nat → Nat) : Prop := (∀ i, i < p → s i < p) ∧ ∀ i j, i < j → j < p → SLess V n (s i) (s j)
/-- p put at the place at. -/
def putAt (s : Nat → Nat) (p at_ : Nat) : Nat → Nat := fun j => if at_ < j then s (j - 1) else if j = at_ then p else s j
theorem IsOrd.put {V : Nat → Int} {n p at_ : Nat} {s : Nat → Nat} (h : IsOrd V n p s) (hp : p < n) (hat : at_ ≤ p) (h1 : ∀ j, j < at_ → SLess V n (s j) p) (h2 : at_ < p → ¬ SLess V n (s at_) p) : IsOrd V n (p + 1) (putAt s p at_) := by
  have h3 : ∀ j, at_ ≤ j → j < p → SLess V n p (s j) := fun j hj hjp => by
    have hsa := h.1 at_ (by omega)
    have h4 : SLess V n p (s at_) := (sless_or (by omega) (by omega) (by omega)).resolve_right (h2 (by omega))
    by_cases e : j = at_
    · rw [e]; exact h4
    · exact sless_trans h4 (h.2 at_ j (by omega) hjp)
  refine ⟨fun i hi => ?_, fun i j hij hj => ?_⟩
  · unfold putAt
    split
    · have := h.1 (i - 1) (by omega)
      omega
    · split
      · omega
      · have := h.1 i (by omega)
        omega
  · unfold putAt
    split
    · rw [if_pos (by omega)]
      exact h.2 _ _ (by omega) (by omega)
    · split
      · rw [if_pos (by omega)]
        exact h3 _ (by omega) (by omega)
      · split
        · by_cases e : i < j - 1
          · exact h.2 _ _ e (by omega)
          · have hji : j - 1 = i := by omega
            omega
        · split
          · exact h1 _ (by omega)
          · exact h.2 _ _ hij (by omega)
/-- the row while numbers are moved up. -/
def insF (s : Nat → Nat) (p i : Nat) : Nat → Int := fun j => if i < j then ((s (j - 1) : Nat) : Int) else if j = p then 0 else ((s j : Nat) : Int)
theorem insF_start (s : Nat → Nat) (p : Nat) : icells (fun i => ((s i : Nat) : Int)) p ++ [.int .i64 0] = icells (insF s p p) (p + 1) := by
  rw [icells_snoc]
  congr 1
  · refine icells_congr fun j hj => ?_
    unfold insF
    rw [if_neg (by omega), if_neg (by omega)]
  · unfold insF
    rw [if_neg (by omega), if_pos rfl]
theorem insF_step (s : Nat → Nat) {p i : Nat} (_hi : i < p) : icells (fun j => if j = i + 1 then ((s i : Nat) : Int) else insF s p (i + 1) j) (p + 1) = icells (insF s p i) (p + 1) := by
  refine icells_congr fun j hj => ?_
  show (if j = i + 1 then ((s i : Nat) : Int) else insF s p (i + 1) j) = insF s p i j
  unfold insF
  by_cases e : j = i + 1
  · rw [if_pos e, if_pos (by omega), show j - 1 = i by omega]
  · rw [if_neg e]
    by_cases h1 : i + 1 < j
    · rw [if_pos h1, if_pos (by omega)]
    · rw [if_neg h1, if_neg (show ¬ i < j by omega)]
theorem insF_at (s : Nat → Nat) {p i : Nat} (hi : i < p) : insF s p (i + 1) i = ((s i : Nat) : Int) := by
  unfold insF
  rw [if_neg (by omega), if_neg (by omega)]
theorem insF_end (s : Nat → Nat) {p at_ : Nat} (hat : at_ ≤ p) : icells (fun j => if j = at_ then (p : Int) else insF s p at_ j) (p + 1) = icells (fun j => ((putAt s p at_ j : Nat) : Int)) (p + 1) := by
  refine icells_congr fun j hj => ?_
  show (if j = at_ then (p : Int) else insF s p at_ j) = ((putAt s p at_ j : Nat) : Int)
  unfold insF putAt
  by_cases e : j = at_
  · rw [if_pos e, if_neg (by omega), if_pos e]
  · rw [if_neg e]
    by_cases h1 : at_ < j
    · rw [if_pos h1, if_pos h1]
    · rw [if_neg h1, if_neg h1, if_neg (by omega), if_neg e]

end Go.Proofs.Ytpdleigcdmgfmaa

namespace Go.Proofs.Ytpdleigcdmgfmaa
open Go.RowKit

/-- what Turned leaves. -/
def TurnedPost (w : World) (n : Nat) (V : Nat → Int) (e : Ending) (w' : World) : Prop :=
  ((IsPerm V n ∧ ∃ (u : Value) (R : Nat → Int), e = .returned (.tuple #[u, .bool true]) ∧ Turns V R n ∧ w'.ownsRow w.heap.size 3 1 u n (icells R n)) ∨ (¬ IsPerm V n ∧ e = .returned (.tuple #[.slice none 0 0, .bool false]))) ∧ Below w.heap.size w w'

/-- the first i numbers turned: R the row, Z what has been seen. -/
structure TurnIn (V : Nat → Int) (n i : Nat) (R : Nat → Int) (Z : Nat → Nat) : Prop where
  lt : ∀ j, j < i → 0 ≤ V j ∧ V j < (n : Int)
  apart : ∀ a b, a < b → b < i → V a ≠ V b
  at_ : ∀ j, j < i → R (V j).toNat = (j : Int)
  seen : ∀ q, q < n → (Z q = 1 ↔ ∃ j, j < i ∧ V j = (q : Int))
  bit : ∀ q, Z q = 0 ∨ Z q = 1
theorem TurnIn.start (V : Nat → Int) (n : Nat) : TurnIn V n 0 (fun _ => 0) (fun _ => 0) :=
  ⟨fun j hj => absurd hj (Nat.not_lt_zero j), fun a b _ hb => absurd hb (Nat.not_lt_zero b), fun j hj => absurd hj (Nat.not_lt_zero j), fun q _ => ⟨fun h => absurd h (by decide), fun ⟨j, hj, _⟩ => absurd hj (Nat.not_lt_zero j)⟩, fun _ => .inl rfl⟩
theorem TurnIn.next {V : Nat → Int} {n i p : Nat} {R : Nat → Int} {Z : Nat → Nat} (h : TurnIn V n i R Z) (hp : V i = (p : Int)) (hpn : p < n) (hz : Z p = 0) : TurnIn V n (i + 1) (fun j => if j = p then (i : Int) else R j) (fun j => if j = p then 1 else Z j) := by
  have hno : ∀ j, j < i → V j ≠ (p : Int) := fun j hj e => by
    have := (h.seen p hpn).2 ⟨j, hj, e⟩
    omega
  refine ⟨fun j hj => ?_, fun a b hab hb => ?_, fun j hj => ?_, fun q hq => ?_, fun q => ?_⟩
  · by_cases e : j = i
    · subst e; omega
    · exact h.lt j (by omega)
  · by_cases e : b = i
    · subst e
      rw [hp]
      exact hno a hab
    · exact h.apart a b hab (by omega)
  · show (if (V j).toNat = p then (i : Int) else R (V j).toNat) = (j : Int)
    by_cases e : j = i
    · subst e
      rw [hp, Int.toNat_natCast, if_pos rfl]
    · have h1 := hno j (by omega)
      have h2 := h.lt j (by omega)
      rw [if_neg (by omega)]
      exact h.at_ j (by omega)
  · show (if q = p then 1 else Z q) = 1 ↔ _
    by_cases e : q = p
    · subst e
      rw [if_pos rfl]
      exact ⟨fun _ => ⟨i, by omega, hp⟩, fun _ => rfl⟩
    · rw [if_neg e, h.seen q hq]
      constructor
      · rintro ⟨j, hj, hv⟩
        exact ⟨j, by omega, hv⟩
      · rintro ⟨j, hj, hv⟩
        refine ⟨j, ?_, hv⟩
        apply Nat.lt_of_le_of_ne (by omega)
        rintro rfl
        rw [hp] at hv
        omega
  · show (if q = p then 1 else Z q) = 0 ∨ (if q = p then 1 else Z q) = 1
    split
    · exact .inr rfl
    · exact h.bit q
theorem TurnIn.bad {V : Nat → Int} {n i : Nat} {R : Nat → Int} {Z : Nat → Nat} (h : TurnIn V n i R Z) (hi : i < n) (hb : V i < 0 ∨ (n : Int) ≤ V i ∨ ∃ p : Nat, p < n ∧ V i = (p : Int) ∧ Z p = 1) : ¬ IsPerm V n := by
  intro hP
  have h1 := hP.1 i hi
  rcases hb with hb | hb | ⟨p, h2, h3, h4⟩
  · omega
  · omega
  · obtain ⟨j, hj, he⟩ := (h.seen p h2).1 h4
    exact hP.2 j i hj hi (by rw [he, h3])
theorem TurnIn.good {V : Nat → Int} {n : Nat} {R : Nat → Int} {Z : Nat → Nat} (h : TurnIn V n n R Z) : IsPerm V n ∧ Turns V R n := ⟨⟨h.lt, h.apart⟩, h.at_⟩

set_option maxRecDepth 100000 in
set_option maxHeartbeats 3200000 in
theorem refTurned_any (A : Option Addr) (n c : Nat) (V : Nat → Int) (w : World) (hn : n ≤ 4194304) (ho : Its w w.heap.size A n V) :
    Calls Try.prog 11 #[.slice A n c] w (TurnedPost w n V) := by
  have HO := Lib.hid ho
  clear ho
  have hmk1 := make_ints0 w n hn
  have l1 := lies_new w 3 (icells (fun _ => 0) n)
  obtain ⟨W1, hW1⟩ : ∃ W, w.alloc (.cells (icells (fun _ => 0) n).toArray 3) = W := ⟨_, rfl⟩
  have hb1 : Below w.heap.size w W1 := by rw [← hW1]; exact (Below.refl _ _).alloc (Nat.le_refl _) _
  have hs1 : W1.heap.size = w.heap.size + 1 := by rw [← hW1, size_alloc]
  rw [hW1] at hmk1 l1
  have hmk2 := make_bytes0 W1 n hn
  have l2 := lies_new W1 5 (ycells (fun _ => 0) n)
  have l1' := l1.alloc (.cells (ycells (fun _ => 0) n).toArray 5)
  have hb2 := hb1.alloc hb1.size (.cells (ycells (fun _ => 0) n).toArray 5)
  obtain ⟨W2, hW2⟩ : ∃ W, W1.alloc (.cells (ycells (fun _ => 0) n).toArray 5) = W := ⟨_, rfl⟩
  rw [hW2] at hmk2 l2 l1' hb2
  obtain ⟨g1, hg1⟩ : ∃ g, w.heap.size = g := ⟨_, rfl⟩
  obtain ⟨g2, hg2⟩ : ∃ g, W1.heap.size = g := ⟨_, rfl⟩
  rw [hg1] at hmk1 l1'
  rw [hg2] at hmk2 l2
  have hgg : g1 ≠ g2 := by omega
  have HG1 := Lib.hid hg1
  have hB2 : g1 ≤ g2 := by omega
  have L1 := Lib.hid l1'
  have L2 := Lib.hid l2
  have HB2 := Lib.hid hb2
  clear hW1 hW2 l1 l2 l1' hb1 hb2 hs1 hg1 hg2
  go_enter Try.func11, Try.ntmps11
  go_wp2_with fail
  go_loopw [16] (fun v wr => ∃ (i : Nat) (R : Nat → Int) (Z : Nat → Nat), i ≤ n ∧ v = .int .i64 (i : Int) ∧ Hid (TurnIn V n i R Z) ∧ Hid (Lies wr g1 3 (icells R n)) ∧ Hid (Lies wr g2 5 (ycells Z n)) ∧ Below w.heap.size w wr) (fun v _ => n - (intOf v).toNat)
  case atStart => exact ⟨0, _, _, Nat.zero_le _, rfl, Lib.hid (TurnIn.start V n), L1, L2, HB2.out⟩
  case round =>
    clear L1 L2 HB2
    obtain ⟨i, R, Z, hi, rfl, HI, HR, HZ, hb⟩ := hrel
    by_cases hlt : i < n
    · have hlti : (i : Int) < (n : Int) := by omega
      obtain ⟨ad, rfl, _, hc, hv1, hv2⟩ := (HO.out.below hb) i hlt
      obtain ⟨v, hv⟩ : ∃ v, V i = v := ⟨_, rfl⟩
      rw [hv] at hc hv1 hv2
      have HV := Lib.hid hv
      clear hv
      by_cases hin : 0 ≤ v ∧ v < (n : Int)
      · obtain ⟨p, rfl⟩ : ∃ p : Nat, v = (p : Int) := ⟨v.toNat, by omega⟩
        have hpn : p < n := by omega
        have hpi : (p : Int) < (n : Int) := by omega
        have d1 : decide ((p : Int) < 0) = false := decide_eq_false (by omega)
        have d2 : decide ((n : Int) ≤ (p : Int)) = false := decide_eq_false (by omega)
        have hcz : wr.cell? ⟨g2, p, none⟩ = some (.int .u8 ((Z p : Nat) : Int)) := (HZ.out.cell p).trans (ycells_at Z n p hpn)
        rcases HI.out.bit p with hz | hz
        · rw [hz] at hcz
          have hcz : wr.cell? ⟨g2, p, none⟩ = some (.int .u8 0) := hcz
          have hfz := HZ.out.free p
          have hcr : wr.cell? ⟨g1, p, none⟩ = some (.int .i64 (R p)) := (HR.out.cell p).trans (icells_at R n p hpn)
          have hfr := HR.out.free p
          have hne := Lib.hid (HI.out.next HV.out hpn hz)
          have hR' : Hid (Lies ((wr.setCell ⟨g2, p, none⟩ (.int .u8 1)).setCell ⟨g1, p, none⟩ (.int .i64 (i : Int))) g1 3 (icells (fun j => if j = p then (i : Int) else R j) n)) := Lib.hid (by
            have h := (HR.out.far (p := ⟨g2, p, none⟩) hgg (.int .u8 1)).put p (.int .i64 (i : Int))
            rwa [icells_put] at h)
          have hZ' : Hid (Lies ((wr.setCell ⟨g2, p, none⟩ (.int .u8 1)).setCell ⟨g1, p, none⟩ (.int .i64 (i : Int))) g2 5 (ycells (fun j => if j = p then 1 else Z j) n)) := Lib.hid (by
            have h := (HZ.out.put p (.int .u8 1)).far (p := ⟨g1, p, none⟩) (Ne.symm hgg) (.int .i64 (i : Int))
            have e : (ycells Z n).set p (.int .u8 ((1 : Nat) : Int)) = ycells (fun j => if j = p then 1 else Z j) n := by
              apply List.ext_getElem?
              intro q
              rw [List.getElem?_set]
              by_cases hq : q < n
              · rw [ycells_at _ _ _ hq]
                split
                · rename_i e
                  subst e
                  rw [if_pos (by rw [ycells_length]; exact hq), ycells_at _ _ _ hq, if_pos rfl]
                · rename_i e
                  rw [ycells_at _ _ _ hq, if_neg (fun e' => e e'.symm)]
              · rw [List.getElem?_eq_none (by rw [ycells_length]; omega)]
                split
                · rename_i e
                  rw [if_neg (by rw [ycells_length]; omega), List.getElem?_eq_none (by rw [ycells_length]; omega)]
                · rw [List.getElem?_eq_none (by rw [ycells_length]; omega)]
            have h' : Lies _ g2 5 ((ycells Z n).set p (.int .u8 ((1 : Nat) : Int))) := h
            rwa [e] at h')
          have hfr2 : (wr.setCell ⟨g2, p, none⟩ (.int .u8 1)).frozen? ⟨g1, p, none⟩ = false := (HR.out.far (p := ⟨g2, p, none⟩) hgg (.int .u8 1)).free p
          have hcr2 : (wr.setCell ⟨g2, p, none⟩ (.int .u8 1)).cell? ⟨g1, p, none⟩ = some (.int .i64 (R p)) := ((HR.out.far (p := ⟨g2, p, none⟩) hgg (.int .u8 1)).cell p).trans (icells_at R n p hpn)
          have hbs : Below w.heap.size w ((wr.setCell ⟨g2, p, none⟩ (.int .u8 1)).setCell ⟨g1, p, none⟩ (.int .i64 (i : Int))) := (hb.setCell (p := ⟨g2, p, none⟩) (by show w.heap.size ≤ g2; rw [HG1.out]; exact hB2) _).setCell (p := ⟨g1, p, none⟩) (by show w.heap.size ≤ g1; rw [HG1.out]; exact Nat.le_refl _) _
          have HBs := Lib.hid hbs
          clear hz hbs
          go_wp2_with fail
          go_roundw
          case rel => exact ⟨i + 1, _, _, by omega, by go_num, hne, hR', hZ', HBs.out⟩
          case measure => simp [intOf]; omega
        · rw [hz] at hcz
          have hcz : wr.cell? ⟨g2, p, none⟩ = some (.int .u8 1) := hcz
          have hbad := Lib.hid (HI.out.bad hlt (.inr (.inr ⟨p, hpn, HV.out, hz⟩)))
          clear hz
          go_wp2_with fail
          go_ret2
          exact ⟨.inr ⟨hbad.out, rfl⟩, hb⟩
      · have hbad := Lib.hid (HI.out.bad hlt (by rw [HV.out]; omega))
        have hcond : decide (v < 0) = true ∨ (decide (v < 0) = false ∧ decide ((n : Int) ≤ v) = true) := by
          by_cases h0 : v < 0
          · exact .inl (decide_eq_true h0)
          · exact .inr ⟨decide_eq_false h0, decide_eq_true (by omega)⟩
        clear hin
        rcases hcond with d1 | ⟨d1, d2⟩
        all_goals
          go_wp2_with fail
          go_ret2
          exact ⟨.inr ⟨hbad.out, rfl⟩, hb⟩
    · obtain rfl : i = n := by omega
      have hgood := HI.out.good
      have hrow := owns_lies (B := w.heap.size) HR.out (by rw [HG1.out]; exact Nat.le_refl _) (icells_length R i) (by unfold maxLen; omega)
      go_wp2_with fail
      go_ret2
      exact ⟨.inl ⟨hgood.1, _, R, rfl, hgood.2, hrow⟩, hb⟩
end Go.Proofs.Ytpdleigcdmgfmaa
