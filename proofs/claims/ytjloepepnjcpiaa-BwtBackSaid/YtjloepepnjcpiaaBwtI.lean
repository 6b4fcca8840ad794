/- What layer 11's laws ask of package bwt, as one word (BwtI); the laws' opening. -/
import Derived.Test.YtjloepepnjcpiaaBwtRef
import Derived.Test.YtjloepepnjcpiaaTxtRef
namespace Go.Proofs.Ytjloepepnjcpiaa
open Go.RowKit

/-- what Make leaves. -/
def BMakePost (w : World) (n n' : Nat) (V S : Nat → Int) (e : Ending) (w' : World) : Prop :=
  (n = n' ∧ IsPerm S n → ∃ (A2 : Option Addr) (c2 : Nat), e = .returned (.tuple #[.slice A2 n c2, .int .i64 0]) ∧ ItsR w' A2 n c2 (turnI V n S)) ∧
  (¬ (n = n' ∧ IsPerm S n) → ∃ (A2 : Option Addr) (c2 : Nat), e = .returned (.tuple #[.slice A2 0 c2, .int .i64 2])) ∧ Below w.heap.size w w'
/-- what Counts leaves. -/
def BCountsPost (w : World) (n : Nat) (V : Nat → Int) (al : Int) (e : Ending) (w' : World) : Prop :=
  (RightS V n al → ∃ (A2 : Option Addr) (c2 : Nat), e = .returned (.tuple #[.slice A2 (al.toNat + 1) c2, .int .i64 0]) ∧ ItsR w' A2 (al.toNat + 1) c2 (fun x => ((belowI V n (x : Int) : Nat) : Int))) ∧
  (¬ RightS V n al → ∃ (A2 : Option Addr) (c2 : Nat), e = .returned (.tuple #[.slice A2 0 c2, .int .i64 2])) ∧ Below w.heap.size w w'
/-- what Back leaves. -/
def BBackPost (w : World) (n : Nat) (V : Nat → Int) (wh al : Int) (e : Ending) (w' : World) : Prop :=
  (¬ (RightS V n al ∧ 0 ≤ wh ∧ wh < ((max n 1 : Nat) : Int)) → ∃ (A2 : Option Addr) (c2 : Nat), e = .returned (.tuple #[.slice A2 0 c2, .int .i64 2])) ∧
  (RightS V n al → n = 0 → wh = 0 → ∃ (A2 : Option Addr) (c2 : Nat), e = .returned (.tuple #[.slice A2 0 c2, .int .i64 0])) ∧
  (RightS V n al → ∀ h : Nat, wh = (h : Int) → h < n → BackOK V n h → ∃ (A2 : Option Addr) (c2 : Nat), e = .returned (.tuple #[.slice A2 n c2, .int .i64 0]) ∧ ItsR w' A2 n c2 (backT V n h)) ∧
  (RightS V n al → ∀ h : Nat, wh = (h : Int) → h < n → ¬ BackOK V n h → ∃ (A2 : Option Addr) (c2 : Nat), e = .returned (.tuple #[.slice A2 0 c2, .int .i64 10])) ∧ Below w.heap.size w w'
/-- what package bwt answers. -/
structure BwtI : Prop where
  make : ∀ (A : Option Addr) (n c : Nat) (V : Nat → Int) (A' : Option Addr) (n' c' : Nat) (S : Nat → Int) (w : World), n ≤ 4194303 → n' ≤ 4194303 → ItsR w A n c V → ItsR w A' n' c' S → Calls Try.prog 9 #[.slice A n c, .slice A' n' c'] w (BMakePost w n n' V S)
  counts : ∀ (A : Option Addr) (n c : Nat) (V : Nat → Int) (al : Int) (w : World), n ≤ 4194303 → (Lit.int .i64 al).wf = true → (al ≤ 4194303 ∨ 4194304 < al) → ItsR w A n c V → Calls Try.prog 13 #[.slice A n c, .int .i64 al] w (BCountsPost w n V al)
  back : ∀ (A : Option Addr) (n c : Nat) (V : Nat → Int) (wh al : Int) (w : World), n ≤ 4194303 → (Lit.int .i64 wh).wf = true → (Lit.int .i64 al).wf = true → (al ≤ 4194303 ∨ 4194304 < al) → ItsR w A n c V → Calls Try.prog 15 #[.slice A n c, .int .i64 wh, .int .i64 al] w (BBackPost w n V wh al)

theorem itsR_lit7 (w : World) (xs : List Int) (hm : xs.length ≤ maxLen) (hx : ∀ x ∈ xs, -9223372036854775808 ≤ x ∧ x ≤ 9223372036854775807) : ItsR (w.alloc (.cells (xs.map fun x => Value.int .i64 x).toArray 3)) (some ⟨w.heap.size, 0, none⟩) xs.length xs.length (litI xs) := ⟨fun e => (by cases e), Nat.le_refl _, hm, its_lit w xs hx⟩
/-- the chapter's example. -/
def bxT : Nat → Int := litI [2, 1, 3, 1, 3, 1, 0]
def bxS : Nat → Int := litI [6, 5, 3, 1, 0, 4, 2]
def bxs : Nat → Nat := fun i => [6, 5, 3, 1, 0, 4, 2].getD i 0
def bxB : Nat → Int := litI [1, 3, 3, 2, 0, 1, 1]
theorem seven {P : Nat → Prop} (h0 : P 0) (h1 : P 1) (h2 : P 2) (h3 : P 3) (h4 : P 4) (h5 : P 5) (h6 : P 6) : ∀ i, i < 7 → P i := fun i hi => by
  have h : i = 0 ∨ i = 1 ∨ i = 2 ∨ i = 3 ∨ i = 4 ∨ i = 5 ∨ i = 6 := by omega
  rcases h with rfl | rfl | rfl | rfl | rfl | rfl | rfl <;> assumption
theorem bxPerm : IsPerm bxS 7 := ⟨seven (by decide) (by decide) (by decide) (by decide) (by decide) (by decide) (by decide), fun i j hij hj => by
  revert i
  exact seven (P := fun j => ∀ i, i < j → bxS i ≠ bxS j) (by decide) (by decide) (by decide) (by decide) (by decide) (by decide) (by decide) j hj⟩
theorem bxTurn : ∀ i, i < 7 → turnI bxT 7 bxS i = bxB i := seven (by decide) (by decide) (by decide) (by decide) (by decide) (by decide) (by decide)
theorem sless_at {V : Nat → Int} {n a b : Nat} (k : Nat) (h : (List.range k).all (fun i => decide (V (a + i) = V (b + i))) = true) (h1 : b + k < n) (h2 : a + k < n) (h3 : V (a + k) < V (b + k)) : SLess V n a b := ⟨k, fun i hi => by
  have := List.all_eq_true.1 h i (List.mem_range.2 hi)
  rwa [decide_eq_true_iff] at this, h1, Nat.le_of_lt h2, .inr h3⟩
theorem bxSA : IsSA bxT 7 bxs := by
  refine isSA_of_next (seven (by decide) (by decide) (by decide) (by decide) (by decide) (by decide) (by decide)) (fun i hi => ?_)
  have h : i = 0 ∨ i = 1 ∨ i = 2 ∨ i = 3 ∨ i = 4 ∨ i = 5 := by omega
  rcases h with rfl | rfl | rfl | rfl | rfl | rfl
  · exact sless_at 0 (by decide) (by decide) (by decide) (by decide)
  · exact sless_at 1 (by decide) (by decide) (by decide) (by decide)
  · exact sless_at 3 (by decide) (by decide) (by decide) (by decide)
  · exact sless_at 0 (by decide) (by decide) (by decide) (by decide)
  · exact sless_at 0 (by decide) (by decide) (by decide) (by decide)
  · exact sless_at 2 (by decide) (by decide) (by decide) (by decide)
theorem bxEnds : EndsT bxT 7 := ⟨by decide, fun i hi => by
  have h : i = 0 ∨ i = 1 ∨ i = 2 ∨ i = 3 ∨ i = 4 ∨ i = 5 := by omega
  rcases h with rfl | rfl | rfl | rfl | rfl | rfl <;> decide⟩
theorem bxOf {V : Nat → Int} (hV : ∀ i, i < 7 → V i = bxB i) : TurnedOf V 7 4 bxT := ⟨bxs, bxSA, by decide, fun i hi => (hV i hi).trans (seven (P := fun i => bxB i = bxT (aheadN 7 (bxs i))) (by decide) (by decide) (by decide) (by decide) (by decide) (by decide) (by decide) i hi)⟩
theorem stepI_congr {V V' : Nat → Int} {n : Nat} (h : ∀ i, i < n → V i = V' i) {i : Nat} (hi : i < n) : stepI V n i = stepI V' n i := by
  unfold stepI
  rw [h i hi, belowI_congr h, aheadI_congr (fun j hj => h j (by omega))]
theorem backAt_congr {V V' : Nat → Int} {n wh : Nat} (h : ∀ i, i < n → V i = V' i) (hw : wh < n) : ∀ m, backAt V n wh m = backAt V' n wh m
  | 0 => rfl
  | m + 1 => by
    show stepI V n (backAt V n wh m) = stepI V' n (backAt V' n wh m)
    rw [stepI_congr h (backAt_lt hw m), backAt_congr h hw m]
theorem backT_congr {V V' : Nat → Int} {n wh : Nat} (h : ∀ i, i < n → V i = V' i) (hw : wh < n) (k : Nat) : backT V n wh k = backT V' n wh k := by
  unfold backT
  rw [h _ (backAt_lt hw _), backAt_congr h hw]
theorem bxNot {V : Nat → Int} (hV : ∀ i, i < 7 → V i = bxB i) : ¬ BackOK V 7 3 := fun h => by
  have h1 := h.1.2 0 (by decide)
  rw [backT_congr hV (by decide), backT_congr hV (by decide)] at h1
  exact absurd h1 (by decide)
theorem bxRight {V : Nat → Int} (hV : ∀ i, i < 7 → V i = bxB i) : RightS V 7 4 := ⟨by decide, fun i hi => by
  rw [hV i hi]
  exact seven (P := fun i => 0 ≤ bxB i ∧ bxB i < 4) (by decide) (by decide) (by decide) (by decide) (by decide) (by decide) (by decide) i hi⟩

set_option maxRecDepth 100000 in
set_option maxHeartbeats 3200000 in
theorem bfirst_any (I : BwtI) (w : World) : Calls Try.prog 8 #[] w fun e w' => e = .returned (.bool true) ∧ Below w.heap.size w w' := by
  have HI := Lib.hid I
  have i1 := itsR_lit7 w [2, 1, 3, 1, 3, 1, 0] (by unfold maxLen; decide) (by decide)
  have hb1 : Below w.heap.size w (w.alloc (.cells #[.int .i64 2, .int .i64 1, .int .i64 3, .int .i64 1, .int .i64 3, .int .i64 1, .int .i64 0] 3)) := (Below.refl _ _).alloc (Nat.le_refl _) _
  obtain ⟨w1, hw1⟩ : ∃ W, w.alloc (.cells #[.int .i64 2, .int .i64 1, .int .i64 3, .int .i64 1, .int .i64 3, .int .i64 1, .int .i64 0] 3) = W := ⟨_, rfl⟩
  have i1' : ItsR w1 (some ⟨w.heap.size, 0, none⟩) 7 7 bxT := by rw [← hw1]; exact i1
  have i2 := itsR_lit7 w1 [6, 5, 3, 1, 0, 4, 2] (by unfold maxLen; decide) (by decide)
  have hb1' : Below w.heap.size w w1 := by rw [← hw1]; exact hb1
  have hb2 : Below w1.heap.size w1 (w1.alloc (.cells #[.int .i64 6, .int .i64 5, .int .i64 3, .int .i64 1, .int .i64 0, .int .i64 4, .int .i64 2] 3)) := (Below.refl _ _).alloc (Nat.le_refl _) _
  have hA1 := I.make (some ⟨w.heap.size, 0, none⟩) 7 7 bxT (some ⟨w1.heap.size, 0, none⟩) 7 7 bxS _ (by decide) (by decide) (i1'.below hb2) i2
  have hs1 : w1.heap.size = w.heap.size + 1 := by rw [← hw1, size_alloc]
  have HA1 := Lib.hid hA1
  have HT := Lib.hid (i1'.below hb2)
  clear hA1
  rw [hs1] at HA1
  have hB2 := hb1'.trans (hb2.mono hb1'.size)
  clear I i1 i1' i2 hb1 hb1' hb2 hs1
  subst hw1
  go_enter Try.func8, Try.ntmps8
  go_wp2_with fail
  refine HA1.out.mono ?_
  rintro e w2 ⟨h1, _, hb3⟩
  obtain ⟨A1, c1, rfl, hi1⟩ := h1 ⟨rfl, bxPerm⟩
  have hB3 := hB2.trans (hb3.mono hB2.size)
  have HI1 := Lib.hid hi1
  have HT2 := Lib.hid (HT.out.below hb3)
  have HBk := Lib.hid (HI.out.back A1 7 c1 _ 4 4 w2 (by decide) (by decide) (by decide) (.inl (by decide)) hi1)
  clear h1 hB2 hb3 hi1 HA1 HT
  go_wp2_with fail
  refine HBk.out.mono ?_
  rintro e w3 ⟨_, _, h3, _, hb4⟩
  obtain ⟨A2, c2, rfl, hi2⟩ := h3 (bxRight bxTurn) 4 rfl (by decide) (back_ok (by decide) bxEnds (bxOf bxTurn))
  have hB4 := hB3.trans (hb4.mono hB3.size)
  have HI2 := Lib.hid hi2
  have HT3 := Lib.hid (HT2.out.below hb4)
  have HI1' := Lib.hid (HI1.out.below hb4)
  have HBn := Lib.hid (HI.out.back A1 7 c1 _ 3 4 w3 (by decide) (by decide) (by decide) (.inl (by decide)) HI1'.out)
  clear h3 hB3 hb4 hi2 HBk HT2 HI1
  go_wp2_with fail
  refine HBn.out.mono ?_
  rintro e w4 ⟨_, _, _, h4, hb5⟩
  obtain ⟨A3, c3, rfl⟩ := h4 (bxRight bxTurn) 3 rfl (by decide) (bxNot bxTurn)
  have hB5 := hB4.trans (hb5.mono hB4.size)
  have HI2' := Lib.hid (HI2.out.below hb5)
  have HT4 := Lib.hid (HT3.out.below hb5)
  have HI1'' := Lib.hid (HI1'.out.below hb5)
  have i4 := its_lit w4 [1, 3, 3, 2, 0, 1, 1] (by decide)
  have hb6 : Below w4.heap.size w4 (w4.alloc (.cells #[.int .i64 1, .int .i64 3, .int .i64 3, .int .i64 2, .int .i64 0, .int .i64 1, .int .i64 1] 3)) := (Below.refl _ _).alloc (Nat.le_refl _) _
  have HSm := Lib.hid (refSame8_any A1 (some ⟨w4.heap.size, 0, none⟩) 7 7 c1 7 _ (litI [1, 3, 3, 2, 0, 1, 1]) _ _ _ (by unfold maxLen; omega) (Nat.le_refl _) (Nat.le_refl _) (HI1''.out.below hb6).2.2.2 i4)
  have HI3 := Lib.hid (HI2'.out.below hb6)
  have HT5 := Lib.hid (HT4.out.below hb6)
  have hB6 := hB5.trans (hb6.mono hB5.size)
  clear h4 hB4 hb5 HBn i4 hb6 HI1' HI1'' HI2 HI2' HT3 HT4 hB5
  go_wp2_with fail
  refine HSm.out.mono ?_
  rintro e w5 ⟨b, rfl, hbi, hb7⟩
  obtain rfl : b = true := hbi.2 ⟨by trivial, bxTurn⟩
  have hB7 := hB6.trans (hb7.mono hB6.size)
  have HSn := Lib.hid (refSame8_any A2 (some ⟨w.heap.size, 0, none⟩) 7 7 c2 7 _ bxT _ _ w5 (by unfold maxLen; omega) (Nat.le_refl _) (Nat.le_refl _) (HI3.out.below hb7).2.2.2 (HT5.out.below hb7).2.2.2)
  clear hbi hb7 HSm HI3 hB6 HT5
  go_wp2_with fail
  refine HSn.out.mono ?_
  rintro e w6 ⟨b, rfl, hbi, hb8⟩
  obtain rfl : b = true := hbi.2 ⟨by trivial, fun k hk => (back_is (by decide) bxEnds (bxOf bxTurn) k hk).symm⟩
  have hB8 := hB7.trans (hb8.mono hB7.size)
  clear hbi hb8 HSn hB7
  go_wp2_with fail
  go_ret
  exact ⟨rfl, hB8⟩
end Go.Proofs.Ytjloepepnjcpiaa
