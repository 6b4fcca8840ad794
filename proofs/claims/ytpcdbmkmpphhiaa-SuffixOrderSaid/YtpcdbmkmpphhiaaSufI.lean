/- What layer 9's laws ask of package suffix, as one word (SufI); the laws' opening. -/
import Derived.Test.YtpcdbmkmpphhiaaSufArr
import Derived.Test.YtpcdbmkmpphhiaaSufTurn
import Derived.Test.YtpcdbmkmpphhiaaTxtRef
import Derived.Test.YtpcdbmkmpphhiaaCrcFirst
import Derived.Deep.CutBlock
import Derived.Deep.DeepCutAuto
namespace Go.Proofs.Ytpcdbmkmpphhiaa
open Go.RowKit

theorem addr_add0 (ad : Addr) : ad.add 0 = ad := by unfold Addr.add; split <;> simp_all
/-- a slice of ints that may be read. -/
def ItsR (w : World) (A : Option Addr) (n c : Nat) (V : Nat → Int) : Prop := (A = none → n = 0 ∧ c = 0) ∧ n ≤ c ∧ c ≤ maxLen ∧ Its w w.heap.size A n V
theorem ItsR.below {w w' : World} {A : Option Addr} {n c : Nat} {V : Nat → Int} (h : ItsR w A n c V) (hb : Below w.heap.size w w') : ItsR w' A n c V := ⟨h.1, h.2.1, h.2.2.1, (h.2.2.2.below hb).mono_ hb.size⟩
theorem ItsR.of_own {w : World} {B n : Nat} {v : Value} {V : Nat → Int} (h : w.ownsRow B 3 1 v n (icells V n)) (hV : ∀ i, i < n → -9223372036854775808 ≤ V i ∧ V i ≤ 9223372036854775807) : ∃ A c, v = .slice A n c ∧ ItsR w A n c V := by
  obtain ⟨A, c, rfl, hI⟩ := Its.of_own h hV
  have hr := owns_room h
  refine ⟨A, c, rfl, fun e => ?_, hr.1, hr.2, hI⟩
  subst e
  rcases h.2 with ⟨e, h0⟩ | ⟨_, _, _, e, _⟩
  · cases e
    exact ⟨rfl, rfl⟩
  · cases e
/-- in new memory. -/
def Fresh (w : World) (A : Option Addr) (n : Nat) : Prop := 0 < n → ∀ ad, A = some ad → w.heap.size ≤ ad.block
theorem Its.grown {w w' : World} {B n : Nat} {A : Option Addr} {V : Nat → Int} {row : Option Nat} (h : Its w B A n V) (hg : w.grownBy w' row) (hr : 0 < n → ∀ ad, A = some ad → row ≠ some ad.block) : Its w' B A n V := fun k hk => by
  obtain ⟨ad, e, h1, h2, h3⟩ := h k hk
  have hlt := cell_in h2
  refine ⟨ad, e, h1, (World.cell?_of_block (hg.block _ hlt ?_)).trans h2, h3⟩
  rw [add_block]
  exact fun e' => hr (by omega) ad e e'.symm
theorem ItsR.grown {w w' : World} {A : Option Addr} {n c : Nat} {V : Nat → Int} {row : Option Nat} (h : ItsR w A n c V) (hg : w.grownBy w' row) (hr : 0 < n → ∀ ad, A = some ad → row ≠ some ad.block) : ItsR w' A n c V := ⟨h.1, h.2.1, h.2.2.1, (h.2.2.2.grown hg hr).mono_ hg.size⟩
/-- what Array leaves. -/
def ArrayPost (w : World) (n : Nat) (V : Nat → Int) (al : Int) (e : Ending) (w' : World) : Prop :=
  (RightS V n al → ∃ (A' : Option Addr) (c' : Nat) (s : Nat → Nat), e = .returned (.tuple #[.slice A' n c', .int .i64 0]) ∧ IsSA V n s ∧ Fresh w A' n ∧ ItsR w' A' n c' (fun i => ((s i : Nat) : Int))) ∧
  (¬ RightS V n al → ∃ (A' : Option Addr) (c' : Nat), e = .returned (.tuple #[.slice A' 0 c', .int .i64 2])) ∧ Below w.heap.size w w'
/-- what Turn leaves. -/
def TurnPost (w : World) (n : Nat) (V : Nat → Int) (e : Ending) (w' : World) : Prop :=
  (IsPerm V n → ∃ (A' : Option Addr) (c' : Nat) (R : Nat → Int), e = .returned (.tuple #[.slice A' n c', .int .i64 0]) ∧ Turns V R n ∧ ItsR w' A' n c' R) ∧
  (¬ IsPerm V n → ∃ (A' : Option Addr) (c' : Nat), e = .returned (.tuple #[.slice A' 0 c', .int .i64 2])) ∧ Below w.heap.size w w'
/-- what package suffix answers. -/
structure SufI : Prop where
  array : ∀ (A : Option Addr) (n c : Nat) (V : Nat → Int) (al : Int) (w : World), n ≤ maxLen → n * 8 ≤ 140737488355328 → (Lit.int .i64 al).wf = true → (A = none → n = 0 ∧ c = 0) → n ≤ c → c ≤ maxLen → Its w w.heap.size A n V → Calls Try.prog 11 #[.slice A n c, .int .i64 al] w (ArrayPost w n V al)
  turn : ∀ (A : Option Addr) (n c : Nat) (V : Nat → Int) (w : World), n ≤ 4194304 → (A = none → n = 0 ∧ c = 0) → Its w w.heap.size A n V → Calls Try.prog 14 #[.slice A n c] w (TurnPost w n V)
  least : ∀ (A : Option Addr) (n c : Nat) (V : Nat → Int) (a b : Int) (w : World), n ≤ 4194304 → (Lit.int .i64 a).wf = true → (Lit.int .i64 b).wf = true → (A = none → n = 0 ∧ c = 0) → n ≤ c → Its w w.heap.size A n V → Calls Try.prog 16 #[.slice A n c, .int .i64 a, .int .i64 b] w fun e w' => e = .returned (.int .i64 (leastI V n a b)) ∧ Below w.heap.size w w'

/-- a literal of ints, as it lies. -/
def litI (xs : List Int) : Nat → Int := fun k => xs.getD k 0
theorem its_lit (w : World) (xs : List Int) (hx : ∀ x ∈ xs, -9223372036854775808 ≤ x ∧ x ≤ 9223372036854775807) : Its (w.alloc (.cells (xs.map fun x => Value.int .i64 x).toArray 3)) (w.alloc (.cells (xs.map fun x => Value.int .i64 x).toArray 3)).heap.size (some ⟨w.heap.size, 0, none⟩) xs.length (litI xs) := fun k hk => by
  have hl := lies_new w 3 (xs.map fun x => Value.int .i64 x)
  have hm : xs.getD k 0 ∈ xs := by
    rw [List.getD_eq_getElem?_getD, List.getElem?_eq_getElem hk]
    exact List.getElem_mem _
  obtain ⟨h1, h2⟩ := hx _ hm
  refine ⟨⟨w.heap.size, 0, none⟩, rfl, by rw [size_alloc]; exact Nat.lt_succ_self _, ?_, h1, h2⟩
  show _ = some (Value.int IntKind.i64 (xs.getD k 0))
  rw [Addr.add_mid, Nat.zero_add, hl.cell, List.getElem?_map, List.getD_eq_getElem?_getD, List.getElem?_eq_getElem hk]
  rfl
/-- sorted, if each is less than the next one. -/
theorem isSA_of_next {V : Nat → Int} {n : Nat} {s : Nat → Nat} (h1 : ∀ i, i < n → s i < n) (h2 : ∀ i, i + 1 < n → SLess V n (s i) (s (i + 1))) : IsSA V n s := by
  refine ⟨h1, fun i j hij hj => ?_⟩
  obtain ⟨d, rfl⟩ := Nat.le.dest (show i + 1 ≤ j from hij)
  clear hij
  induction d with
  | zero => exact h2 i hj
  | succ d ih => exact sless_trans (ih (by omega)) (h2 (i + 1 + d) (by omega))
def exS : Nat → Nat := fun i => [5, 3, 1, 0, 4, 2].getD i 0
def exR : Nat → Int := fun i => [3, 2, 5, 1, 4, 0].getD i 0
theorem six {P : Nat → Prop} (h0 : P 0) (h1 : P 1) (h2 : P 2) (h3 : P 3) (h4 : P 4) (h5 : P 5) : ∀ i, i < 6 → P i := fun i hi => by
  have h : i = 0 ∨ i = 1 ∨ i = 2 ∨ i = 3 ∨ i = 4 ∨ i = 5 := by omega
  rcases h with rfl | rfl | rfl | rfl | rfl | rfl <;> assumption
theorem exSA : IsSA (litI [2, 1, 3, 1, 3, 1]) 6 exS := by
  refine isSA_of_next (six (by decide) (by decide) (by decide) (by decide) (by decide) (by decide)) (fun i hi => ?_)
  have h : i = 0 ∨ i = 1 ∨ i = 2 ∨ i = 3 ∨ i = 4 := by omega
  rcases h with rfl | rfl | rfl | rfl | rfl
  · exact ⟨1, fun i hi => (by obtain rfl : i = 0 := by omega
                              rfl), by decide, by decide, .inl rfl⟩
  · exact ⟨3, fun i hi => (by
      have h : i = 0 ∨ i = 1 ∨ i = 2 := by omega
      rcases h with rfl | rfl | rfl <;> rfl), by decide, by decide, .inl rfl⟩
  · exact ⟨0, fun i hi => absurd hi (Nat.not_lt_zero i), by decide, by decide, .inr (by decide)⟩
  · exact ⟨0, fun i hi => absurd hi (Nat.not_lt_zero i), by decide, by decide, .inr (by decide)⟩
  · exact ⟨2, fun i hi => (by
      have h : i = 0 ∨ i = 1 := by omega
      rcases h with rfl | rfl <;> rfl), by decide, by decide, .inl rfl⟩
theorem exRight : RightS (litI [2, 1, 3, 1, 3, 1]) 6 4 := ⟨⟨by decide, by decide, by decide⟩, six (by decide) (by decide) (by decide) (by decide) (by decide) (by decide)⟩
theorem exWrong : ¬ RightS (litI [4]) 1 4 := fun h => absurd (h.2 0 (by decide)).2 (by decide)
theorem exTurned {s : Nat → Nat} {R : Nat → Int} (hs : IsSA (litI [2, 1, 3, 1, 3, 1]) 6 s) (hR : Turns (fun i => ((s i : Nat) : Int)) R 6) : ∀ i, i < 6 → R i = exR i := by
  have e := exSA.one hs
  have h : ∀ i, i < 6 → R (exS i) = (i : Int) := fun i hi => by
    have h1 := hR i hi
    rw [Int.toNat_natCast, ← e i hi] at h1
    exact h1
  refine six ?_ ?_ ?_ ?_ ?_ ?_
  · exact h 3 (by decide)
  · exact h 2 (by decide)
  · exact h 5 (by decide)
  · exact h 1 (by decide)
  · exact h 4 (by decide)
  · exact h 0 (by decide)
theorem exLeast : leastI (litI [1, 2]) 2 0 1 = -1 := leastI_less (V := litI [1, 2]) (n := 2) (a := 0) (b := 1) (by decide) (by decide) ⟨0, fun i hi => absurd hi (Nat.not_lt_zero i), by decide, by decide, .inr (by decide)⟩

set_option maxRecDepth 100000 in
set_option maxHeartbeats 3200000 in
theorem sfirst_any (I : SufI) (w : World) : Calls Try.prog 9 #[] w fun e w' => e = .returned (.bool true) ∧ Below w.heap.size w w' := by
  have HI := Lib.hid I
  have i1 := its_lit w [2, 1, 3, 1, 3, 1] (by decide)
  have hb1 : Below w.heap.size w (w.alloc (.cells #[.int .i64 2, .int .i64 1, .int .i64 3, .int .i64 1, .int .i64 3, .int .i64 1] 3)) := (Below.refl _ _).alloc (Nat.le_refl _) _
  have HA1 := Lib.hid (I.array (some ⟨w.heap.size, 0, none⟩) 6 6 (litI [2, 1, 3, 1, 3, 1]) 4 _ (by unfold maxLen; omega) (by decide) (by decide) (fun e => by cases e) (Nat.le_refl _) (by unfold maxLen; omega) i1)
  clear I i1
  go_enter Try.func9, Try.ntmps9
  go_wp2_with fail
  refine HA1.out.mono ?_
  rintro e w1 ⟨h1, _, hb2⟩
  obtain ⟨A1, c1, s, rfl, hs, _, hi1⟩ := h1 exRight
  have hB1 := hb1.trans (hb2.mono hb1.size)
  have HI1 := Lib.hid hi1
  have HSA := Lib.hid hs
  have HT := Lib.hid (HI.out.turn A1 6 c1 _ w1 (by decide) hi1.1 hi1.2.2.2)
  clear h1 hb1 hb2 HA1 hi1 hs
  go_wp2_with fail
  refine HT.out.mono ?_
  rintro e w2 ⟨h1, _, hb2⟩
  obtain ⟨A2, c2, R, rfl, hR, hi2⟩ := h1 HSA.out.perm
  have hB2 := hB1.trans (hb2.mono hB1.size)
  have HI1' := Lib.hid (HI1.out.below hb2)
  have HI2 := Lib.hid hi2
  have HRx := Lib.hid (exTurned HSA.out hR)
  have i3 := its_lit w2 [4] (by decide)
  have hb3 : Below w2.heap.size w2 (w2.alloc (.cells #[.int .i64 4] 3)) := (Below.refl _ _).alloc (Nat.le_refl _) _
  have HA3 := Lib.hid (HI.out.array (some ⟨w2.heap.size, 0, none⟩) 1 1 (litI [4]) 4 _ (by unfold maxLen; omega) (by decide) (by decide) (fun e => by cases e) (Nat.le_refl _) (by unfold maxLen; omega) i3)
  clear h1 hb2 HT hi2 hR i3 HI1
  go_wp2_with fail
  refine HA3.out.mono ?_
  rintro e w3 ⟨_, h3, hb4⟩
  obtain ⟨A3, c3, rfl⟩ := h3 exWrong
  have hb5 := hb3.trans (hb4.mono hb3.size)
  have hB3 := hB2.trans (hb5.mono hB2.size)
  have HJ1 := Lib.hid (HI1'.out.below hb5)
  have HJ2 := Lib.hid (HI2.out.below hb5)
  have i4 := its_lit w3 [5, 3, 1, 0, 4, 2] (by decide)
  have hb6 : Below w3.heap.size w3 (w3.alloc (.cells #[.int .i64 5, .int .i64 3, .int .i64 1, .int .i64 0, .int .i64 4, .int .i64 2] 3)) := (Below.refl _ _).alloc (Nat.le_refl _) _
  have HSm1 := Lib.hid (refSame8_any A1 (some ⟨w3.heap.size, 0, none⟩) 6 6 c1 6 _ (litI [5, 3, 1, 0, 4, 2]) _ _ _ (by unfold maxLen; omega) (Nat.le_refl _) (Nat.le_refl _) (HJ1.out.below hb6).2.2.2 i4)
  have hB4 := hB3.trans (hb6.mono hB3.size)
  have HK2 := Lib.hid (HJ2.out.below hb6)
  clear h3 hb3 hb4 hb5 HA3 i4 HI1' HI2 HJ2 hb6
  go_wp2_with fail
  refine HSm1.out.mono ?_
  rintro e w5 ⟨b, rfl, hbi, hb7⟩
  obtain rfl : b = true := hbi.2 ⟨by trivial, fun i hi => by
    have h := HSA.out.one exSA i hi
    show ((s i : Nat) : Int) = _
    rw [h]
    exact six (P := fun i => ((exS i : Nat) : Int) = litI [5, 3, 1, 0, 4, 2] i) rfl rfl rfl rfl rfl rfl i hi⟩
  have hB5 := hB4.trans (hb7.mono hB4.size)
  have HL2 := Lib.hid (HK2.out.below hb7)
  have i5 := its_lit w5 [3, 2, 5, 1, 4, 0] (by decide)
  have hb8 : Below w5.heap.size w5 (w5.alloc (.cells #[.int .i64 3, .int .i64 2, .int .i64 5, .int .i64 1, .int .i64 4, .int .i64 0] 3)) := (Below.refl _ _).alloc (Nat.le_refl _) _
  have HSm2 := Lib.hid (refSame8_any A2 (some ⟨w5.heap.size, 0, none⟩) 6 6 c2 6 R (litI [3, 2, 5, 1, 4, 0]) _ _ _ (by unfold maxLen; omega) (Nat.le_refl _) (Nat.le_refl _) (HL2.out.below hb8).2.2.2 i5)
  have hB6 := hB5.trans (hb8.mono hB5.size)
  clear hbi hb7 HSm1 HK2 i5 hb8 HL2
  go_wp2_with fail
  refine HSm2.out.mono ?_
  rintro e w6 ⟨b, rfl, hbi, hb9⟩
  obtain rfl : b = true := hbi.2 ⟨by trivial, fun i hi => by
    rw [HRx.out i hi]
    exact six (P := fun i => exR i = litI [3, 2, 5, 1, 4, 0] i) rfl rfl rfl rfl rfl rfl i hi⟩
  have hB7 := hB6.trans (hb9.mono hB6.size)
  have i6 := its_lit w6 [1, 2] (by decide)
  have hb10 : Below w6.heap.size w6 (w6.alloc (.cells #[.int .i64 1, .int .i64 2] 3)) := (Below.refl _ _).alloc (Nat.le_refl _) _
  have hLe := HI.out.least (some ⟨w6.heap.size, 0, none⟩) 2 2 (litI [1, 2]) 0 1 _ (by decide) (by decide) (by decide) (fun e => by cases e) (Nat.le_refl _) i6
  rw [exLeast] at hLe
  have HLe := Lib.hid hLe
  have hB8 := hB7.trans (hb10.mono hB7.size)
  clear hbi hb9 HSm2 i6 hLe hb10
  go_wp2_with fail
  refine HLe.out.mono ?_
  rintro e w7 ⟨rfl, hb11⟩
  have hB9 := hB8.trans (hb11.mono hB8.size)
  go_wp2_with fail
  go_ret
  exact ⟨rfl, hB9⟩
end Go.Proofs.Ytpcdbmkmpphhiaa
