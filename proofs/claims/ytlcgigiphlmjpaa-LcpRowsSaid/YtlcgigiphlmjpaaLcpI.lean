/- What layer 10's laws ask of package lcp, as one word (LcpI); the laws' opening. -/
import Derived.Test.YtlcgigiphlmjpaaLcpRef
import Derived.Test.YtlcgigiphlmjpaaSufI
namespace Go.Proofs.Ytlcgigiphlmjpaa
open Go.RowKit

/-- what Array leaves. -/
def LArrayPost (w : World) (n n' : Nat) (V S : Nat → Int) (e : Ending) (w' : World) : Prop :=
  (n = n' ∧ IsPerm S n → ∃ (A2 : Option Addr) (c2 : Nat), e = .returned (.tuple #[.slice A2 n c2, .int .i64 0]) ∧ ItsR w' A2 n c2 (lcpI V n S)) ∧
  (¬ (n = n' ∧ IsPerm S n) → ∃ (A2 : Option Addr) (c2 : Nat), e = .returned (.tuple #[.slice A2 0 c2, .int .i64 2])) ∧ Below w.heap.size w w'
/-- what package lcp answers. -/
structure LcpI : Prop where
  array : ∀ (A : Option Addr) (n c : Nat) (V : Nat → Int) (A' : Option Addr) (n' c' : Nat) (S : Nat → Int) (w : World), n ≤ 4194304 → n' ≤ 4194304 → ItsR w A n c V → ItsR w A' n' c' S → Calls Try.prog 9 #[.slice A n c, .slice A' n' c'] w (LArrayPost w n n' V S)
  common : ∀ (A : Option Addr) (n c : Nat) (V : Nat → Int) (a b : Int) (w : World), n ≤ 4194304 → (Lit.int .i64 a).wf = true → (Lit.int .i64 b).wf = true → ItsR w A n c V → Calls Try.prog 16 #[.slice A n c, .int .i64 a, .int .i64 b] w fun e w' => e = .returned (.int .i64 (comI V n a b)) ∧ Below w.heap.size w w'
  range_ : ∀ (A : Option Addr) (n c : Nat) (V : Nat → Int) (a b : Int) (w : World), n ≤ 4194304 → (Lit.int .i64 a).wf = true → (Lit.int .i64 b).wf = true → ItsR w A n c V → Calls Try.prog 14 #[.slice A n c, .int .i64 a, .int .i64 b] w fun e w' => e = .returned (.int .i64 (rangeI V n a b)) ∧ Below w.heap.size w w'

theorem itsR_lit (w : World) (xs : List Int) (hm : xs.length ≤ maxLen) (hx : ∀ x ∈ xs, -9223372036854775808 ≤ x ∧ x ≤ 9223372036854775807) : ItsR (w.alloc (.cells (xs.map fun x => Value.int .i64 x).toArray 3)) (some ⟨w.heap.size, 0, none⟩) xs.length xs.length (litI xs) := ⟨fun e => (by cases e), Nat.le_refl _, hm, its_lit w xs hx⟩
theorem itsR_nil (w : World) (V : Nat → Int) : ItsR w none 0 0 V := ⟨fun _ => ⟨rfl, rfl⟩, Nat.le_refl _, Nat.zero_le _, fun k hk => absurd hk (Nat.not_lt_zero k)⟩

/-- the chapter's example. -/
def exT : Nat → Int := litI [2, 1, 3, 1, 3, 1]
def exP : Nat → Int := litI [5, 3, 1, 0, 4, 2]
def exL : Nat → Int := litI [0, 1, 3, 0, 0, 2]
theorem exPerm : IsPerm exP 6 := ⟨six (by decide) (by decide) (by decide) (by decide) (by decide) (by decide), fun i j hij hj => by
  revert i
  exact six (P := fun j => ∀ i, i < j → exP i ≠ exP j) (by decide) (by decide) (by decide) (by decide) (by decide) (by decide) j hj⟩
theorem shares_dec {V : Nat → Int} {n a b : Nat} (k : Nat) (h : (List.range k).all (fun i => decide (a + i < n) && decide (b + i < n) && decide (V (a + i) = V (b + i))) = true) (h' : (decide (a + k < n) && decide (b + k < n) && decide (V (a + k) = V (b + k))) = false) : com V n a b = k := by
  refine com_is (fun i hi => ?_) (fun g => ?_)
  · have := List.all_eq_true.1 h i (List.mem_range.2 hi)
    simp only [Bool.and_eq_true, decide_eq_true_eq] at this
    exact ⟨this.1.1, this.1.2, this.2⟩
  · rw [decide_eq_true g.1, decide_eq_true g.2.1, decide_eq_true g.2.2] at h'
    cases h'
theorem exCom : ∀ i, i < 6 → lcpI exT 6 exP i = exL i := by
  refine six lcpI_zero ?_ ?_ ?_ ?_ ?_
  · exact lcpI_succ.trans ((comI_in (a := 5) (b := 3) (by decide) (by decide)).trans (congrArg Nat.cast (shares_dec 1 (by decide) (by decide))))
  · exact lcpI_succ.trans ((comI_in (a := 3) (b := 1) (by decide) (by decide)).trans (congrArg Nat.cast (shares_dec 3 (by decide) (by decide))))
  · exact lcpI_succ.trans ((comI_in (a := 1) (b := 0) (by decide) (by decide)).trans (congrArg Nat.cast (shares_dec 0 (by decide) (by decide))))
  · exact lcpI_succ.trans ((comI_in (a := 0) (b := 4) (by decide) (by decide)).trans (congrArg Nat.cast (shares_dec 0 (by decide) (by decide))))
  · exact lcpI_succ.trans ((comI_in (a := 4) (b := 2) (by decide) (by decide)).trans (congrArg Nat.cast (shares_dec 2 (by decide) (by decide))))
theorem exRange {L : Nat → Int} (h : ∀ i, i < 6 → L i = exL i) : rangeI L 6 0 2 = 1 := by
  have h1 : rangeI L 6 ((0 : Nat) : Int) ((0 + 1 + 1 : Nat) : Int) = lowR L 0 1 := rangeI_up (by decide)
  refine h1.trans ?_
  show min (L 1) (L 2) = 1
  rw [h 1 (by decide), h 2 (by decide)]
  decide
theorem exThree : comI (litI [1, 1, 1]) 3 0 1 = 2 := (comI_in (V := litI [1, 1, 1]) (n := 3) (a := 0) (b := 1) (by decide) (by decide)).trans (congrArg Nat.cast (shares_dec 2 (by decide) (by decide)))

set_option maxRecDepth 100000 in
set_option maxHeartbeats 3200000 in
theorem lfirst_any (I : LcpI) (w : World) : Calls Try.prog 8 #[] w fun e w' => e = .returned (.bool true) ∧ Below w.heap.size w w' := by
  have HI := Lib.hid I
  have i1 := itsR_lit w [2, 1, 3, 1, 3, 1] (by unfold maxLen; decide) (by decide)
  have hb1 : Below w.heap.size w (w.alloc (.cells #[.int .i64 2, .int .i64 1, .int .i64 3, .int .i64 1, .int .i64 3, .int .i64 1] 3)) := (Below.refl _ _).alloc (Nat.le_refl _) _
  obtain ⟨w1, hw1⟩ : ∃ W, w.alloc (.cells #[.int .i64 2, .int .i64 1, .int .i64 3, .int .i64 1, .int .i64 3, .int .i64 1] 3) = W := ⟨_, rfl⟩
  have i1' : ItsR w1 (some ⟨w.heap.size, 0, none⟩) 6 6 exT := by rw [← hw1]; exact i1
  have i2 := itsR_lit w1 [5, 3, 1, 0, 4, 2] (by unfold maxLen; decide) (by decide)
  have hb1' : Below w.heap.size w w1 := by rw [← hw1]; exact hb1
  have hb2 : Below w1.heap.size w1 (w1.alloc (.cells #[.int .i64 5, .int .i64 3, .int .i64 1, .int .i64 0, .int .i64 4, .int .i64 2] 3)) := (Below.refl _ _).alloc (Nat.le_refl _) _
  have hA1 := I.array (some ⟨w.heap.size, 0, none⟩) 6 6 exT (some ⟨w1.heap.size, 0, none⟩) 6 6 exP _ (by decide) (by decide) (i1'.below hb2) i2
  have hs1 : w1.heap.size = w.heap.size + 1 := by rw [← hw1, size_alloc]
  have HA1 := Lib.hid hA1
  clear hA1
  rw [hs1] at HA1
  have hB2 := hb1'.trans (hb2.mono hb1'.size)
  clear I i1 i1' i2 hb1 hb1' hb2 hs1
  subst hw1
  go_enter Try.func8, Try.ntmps8
  go_wp2_with fail
  refine HA1.out.mono ?_
  rintro e w2 ⟨h1, _, hb3⟩
  obtain ⟨A1, c1, rfl, hi1⟩ := h1 ⟨rfl, exPerm⟩
  have hB3 := hB2.trans (hb3.mono hB2.size)
  have i3 := itsR_lit w2 [1] (by unfold maxLen; decide) (by decide)
  have hb4 : Below w2.heap.size w2 (w2.alloc (.cells #[.int .i64 1] 3)) := (Below.refl _ _).alloc (Nat.le_refl _) _
  have HA2 := Lib.hid (HI.out.array (some ⟨w2.heap.size, 0, none⟩) 1 1 (litI [1]) none 0 0 (fun _ => 0) _ (by decide) (by decide) i3 (itsR_nil _ _))
  have HI1 := Lib.hid (hi1.below hb4)
  have hB4 := hB3.trans (hb4.mono hB3.size)
  clear h1 hB2 hb3 hi1 HA1 i3 hb4 hB3
  go_wp2_with fail
  refine HA2.out.mono ?_
  rintro e w3 ⟨_, h3, hb5⟩
  obtain ⟨A2, c2, rfl⟩ := h3 (fun h => absurd h.1 (by decide))
  have hB5 := hB4.trans (hb5.mono hB4.size)
  have HI2 := Lib.hid (HI1.out.below hb5)
  have i4 := its_lit w3 [0, 1, 3, 0, 0, 2] (by decide)
  have hb6 : Below w3.heap.size w3 (w3.alloc (.cells #[.int .i64 0, .int .i64 1, .int .i64 3, .int .i64 0, .int .i64 0, .int .i64 2] 3)) := (Below.refl _ _).alloc (Nat.le_refl _) _
  have HSm := Lib.hid (refSame8_any A1 (some ⟨w3.heap.size, 0, none⟩) 6 6 c1 6 _ (litI [0, 1, 3, 0, 0, 2]) _ _ _ (by unfold maxLen; omega) (Nat.le_refl _) (Nat.le_refl _) (HI2.out.below hb6).2.2.2 i4)
  have HI3 := Lib.hid (HI2.out.below hb6)
  have hB6 := hB5.trans (hb6.mono hB5.size)
  clear h3 hB4 hb5 HA2 i4 hb6 HI1 HI2 hB5
  go_wp2_with fail
  refine HSm.out.mono ?_
  rintro e w4 ⟨b, rfl, hbi, hb7⟩
  obtain rfl : b = true := hbi.2 ⟨by trivial, exCom⟩
  have hB7 := hB6.trans (hb7.mono hB6.size)
  have HI4 := Lib.hid (HI3.out.below hb7)
  have hR := HI.out.range_ A1 6 c1 _ 0 2 _ (by decide) (by decide) (by decide) HI4.out
  rw [exRange exCom] at hR
  have HR := Lib.hid hR
  clear hbi hb7 HSm HI3 hB6 hR
  go_wp2_with fail
  refine HR.out.mono ?_
  rintro e w5 ⟨rfl, hb8⟩
  have hB8 := hB7.trans (hb8.mono hB7.size)
  have i5 := itsR_lit w5 [1, 1, 1] (by unfold maxLen; decide) (by decide)
  have hb9 : Below w5.heap.size w5 (w5.alloc (.cells #[.int .i64 1, .int .i64 1, .int .i64 1] 3)) := (Below.refl _ _).alloc (Nat.le_refl _) _
  have hC := HI.out.common (some ⟨w5.heap.size, 0, none⟩) 3 3 (litI [1, 1, 1]) 0 1 _ (by decide) (by decide) (by decide) i5
  rw [exThree] at hC
  have HC := Lib.hid hC
  have hB9 := hB8.trans (hb9.mono hB8.size)
  clear hb8 HR i5 hb9 hB7 hB8 hC HI4
  go_wp2_with fail
  refine HC.out.mono ?_
  rintro e w6 ⟨rfl, hb10⟩
  have hB10 := hB9.trans (hb10.mono hB9.size)
  go_wp2_with fail
  go_ret
  exact ⟨rfl, hB10⟩
end Go.Proofs.Ytlcgigiphlmjpaa
