/- What layer 9's laws ask of package suffix, as one word (SufI); the laws' opening. -/
import Derived.Test.YthbnojhcmfhnhaaSufTurn
import Derived.Test.YthbnojhcmfhnhaaTxtRef
import Derived.Test.YthbnojhcmfhnhaaCrcFirst
import Derived.Deep.CutBlock
import Derived.Deep.DeepCutAuto
namespace Go.Proofs.Ythbnojhcmfhnhaa
open Go.RowKit

theorem addr_add0 (ad : Addr) : ad.add 0 = ad := by unfold Addr.add; split <;> simp_all
/-- a slice of ints that may be read. -/
def ItsR (w : World) (A : Option Addr) (n c : Nat) (V : Nat → Int) : Prop := (A = none → n = 0 ∧ c = 0) ∧ n ≤ c ∧ c ≤ maxLen ∧ Its w w.heap.size A n V
theorem ItsR.below {w w' : World} {A : Option Addr} {n c : Nat} {V : Nat → Int} (h : ItsR w A n c V) (hb : Below w.heap.size w w') : ItsR w' A n c V := ⟨h.1, h.2.1, h.2.2.1, (h.2.2.2.below hb).mono_ hb.size⟩
theorem ItsR.of_own {w : World} {B n : Nat} {v : Value} {V : Nat → Int} (h : w.ownsRow B 3 1 v n (icells V n)) (hV : ∀ i, i < n → -9223372036854775808 ≤ V i ∧ V i ≤ 9223372036854775807) : ∃ A c, v = .slice A n c ∧ ItsR w A n c V := by
  obtain ⟨A, c, rfl, hI⟩ := Its.of_own h hV
  have hr := owns_room h
  refine ⟨A, c, rfl, fun e => ?_, hr.1, hr.2, hI⟩
  subst e
  rcases h.2 with ⟨e, h0⟩ | ⟨_, _, _, e, _⟩
  · cases e
    exact ⟨rfl, rfl⟩
  · cases e
/-- in new memory. -/
def Fresh (w : World) (A : Option Addr) (n : Nat) : Prop := 0 < n → ∀ ad, A = some ad → w.heap.size ≤ ad.block
theorem Its.grown {w w' : World} {B n : Nat} {A : Option Addr} {V : Nat → Int} {row : Option Nat} (h : Its w B A n V) (hg : w.grownBy w' row) (hr : 0 < n → ∀ ad, A = some ad → row ≠ some ad.block) : Its w' B A n V := fun k hk => by
  obtain ⟨ad, e, h1, h2, h3⟩ := h k hk
  have hlt := cell_in h2
  refine ⟨ad, e, h1, (World.cell?_of_block (hg.block _ hlt ?_)).trans h2, h3⟩
  rw [add_block]
  exact fun e' => hr (by omega) ad e e'.symm
theorem ItsR.grown {w w' : World} {A : Option Addr} {n c : Nat} {V : Nat → Int} {row : Option Nat} (h : ItsR w A n c V) (hg : w.grownBy w' row) (hr : 0 < n → ∀ ad, A = some ad → row ≠ some ad.block) : ItsR w' A n c V := ⟨h.1, h.2.1, h.2.2.1, (h.2.2.2.grown hg hr).mono_ hg.size⟩
/-- what Array leaves. -/
def ArrayPost (w : World) (n : Nat) (V : Nat → Int) (al : Int) (e : Ending) (w' : World) : Prop :=
  (RightS V n al → ∃ (A' : Option Addr) (c' : Nat) (s : Nat → Nat), e = .returned (.tuple #[.slice A' n c', .int .i64 0]) ∧ IsSA V n s ∧ Fresh w A' n ∧ ItsR w' A' n c' (fun i => ((s i : Nat) : Int))) ∧
  (¬ RightS V n al → ∃ (A' : Option Addr) (c' : Nat), e = .returned (.tuple #[.slice A' 0 c', .int .i64 2])) ∧ Below w.heap.size w w'
/-- what Turn leaves. -/
def TurnPost (w : World) (n : Nat) (V : Nat → Int) (e : Ending) (w' : World) : Prop :=
  (IsPerm V n → ∃ (A' : Option Addr) (c' : Nat) (R : Nat → Int), e = .returned (.tuple #[.slice A' n c', .int .i64 0]) ∧ Turns V R n ∧ ItsR w' A' n c' R) ∧
  (¬ IsPerm V n → ∃ (A' : Option Addr) (c' : Nat), e = .returned (.tuple #[.slice A' 0 c', .int .i64 2])) ∧ Below w.heap.size w w'
/-- a literal of ints, as it lies. -/
def litI (xs : List Int) : Nat → Int := fun k => xs.getD k 0
theorem its_lit (w : World) (xs : List Int) (hx : ∀ x ∈ xs, -9223372036854775808 ≤ x ∧ x ≤ 9223372036854775807) : Its (w.alloc (.cells (xs.map fun x => Value.int .i64 x).toArray 3)) (w.alloc (.cells (xs.map fun x => Value.int .i64 x).toArray 3)).heap.size (some ⟨w.heap.size, 0, none⟩) xs.length (litI xs) := fun k hk => by
  have hl := lies_new w 3 (xs.map fun x => Value.int .i64 x)
  have hm : xs.getD k 0 ∈ xs := by
    rw [List.getD_eq_getElem?_getD, List.getElem?_eq_getElem hk]
    exact List.getElem_mem _
  obtain ⟨h1, h2⟩ := hx _ hm
  refine ⟨⟨w.heap.size, 0, none⟩, rfl, by rw [size_alloc]; exact Nat.lt_succ_self _, ?_, h1, h2⟩
  show _ = some (Value.int IntKind.i64 (xs.getD k 0))
  rw [Addr.add_mid, Nat.zero_add, hl.cell, List.getElem?_map, List.getD_eq_getElem?_getD, List.getElem?_eq_getElem hk]
  rfl
/-- sorted, if each is less than the next one. -/
theorem isSA_of_next {V : Nat → Int} {n : Nat} {s : Nat → Nat} (h1 : ∀ i, i < n → s i < n) (h2 : ∀ i, i + 1 < n → SLess V n (s i) (s (i + 1))) : IsSA V n s := by
  refine ⟨h1, fun i j hij hj => ?_⟩
  obtain ⟨d, rfl⟩ := Nat.le.dest (show i + 1 ≤ j from hij)
  clear hij
  induction d with
  | zero => exact h2 i hj
  | succ d ih => exact sless_trans (ih (by omega)) (h2 (i + 1 + d) (by omega))
def exS : Nat → Nat := fun i => [5, 3, 1, 0, 4, 2].getD i 0
def exR : Nat → Int := fun i => [3, 2, 5, 1, 4, 0].getD i 0
theorem six {P : Nat → Prop} (h0 : P 0) (h1 : P 1) (h2 : P 2) (h3 : P 3) (h4 : P 4) (h5 : P 5) : ∀ i, i < 6 → P i := fun i hi => by
  have h : i = 0 ∨ i = 1 ∨ i = 2 ∨ i = 3 ∨ i = 4 ∨ i = 5 := by omega
  rcases h with rfl | rfl | rfl | rfl | rfl | rfl <;> assumption
theorem exSA : IsSA (litI [2, 1, 3, 1, 3, 1]) 6 exS := by
  refine isSA_of_next (six (by decide) (by decide) (by decide) (by decide) (by decide) (by decide)) (fun i hi => ?_)
  have h : i = 0 ∨ i = 1 ∨ i = 2 ∨ i = 3 ∨ i = 4 := by omega
  rcases h with rfl | rfl | rfl | rfl | rfl
  · exact ⟨1, fun i hi => (by obtain rfl : i = 0 := by omega
                              rfl), by decide, by decide, .inl rfl⟩
  · exact ⟨3, fun i hi => (by
      have h : i = 0 ∨ i = 1 ∨ i = 2 := by omega
      rcases h with rfl | rfl | rfl <;> rfl), by decide, by decide, .inl rfl⟩
  · exact ⟨0, fun i hi => absurd hi (Nat.not_lt_zero i), by decide, by decide, .inr (by decide)⟩
  · exact ⟨0, fun i hi => absurd hi (Nat.not_lt_zero i), by decide, by decide, .inr (by decide)⟩
  · exact ⟨2, fun i hi => (by
      have h : i = 0 ∨ i = 1 := by omega
      rcases h with rfl | rfl <;> rfl), by decide, by decide, .inl rfl⟩
theorem exRight : RightS (litI [2, 1, 3, 1, 3, 1]) 6 4 := ⟨⟨by decide, by decide, by decide⟩, six (by decide) (by decide) (by decide) (by decide) (by decide) (by decide)⟩
theorem exWrong : ¬ RightS (litI [4]) 1 4 := fun h => absurd (h.2 0 (by decide)).2 (by decide)
theorem exTurned {s : Nat → Nat} {R : Nat → Int} (hs : IsSA (litI [2, 1, 3, 1, 3, 1]) 6 s) (hR : Turns (fun i => ((s i : Nat) : Int)) R 6) : ∀ i, i < 6 → R i = exR i := by
  have e := exSA.one hs
  have h : ∀ i, i < 6 → R (exS i) = (i : Int) := fun i hi => by
    have h1 := hR i hi
    rw [Int.toNat_natCast, ← e i hi] at h1
    exact h1
  refine six ?_ ?_ ?_ ?_ ?_ ?_
  · exact h 3 (by decide)
  · exact h 2 (by decide)
  · exact h 5 (by decide)
  · exact h 1 (by decide)
  · exact h 4 (by decide)
  · exact h 0 (by decide)
theorem exLeast : leastI (litI [1, 2]) 2 0 1 = -1 := leastI_less (V := litI [1, 2]) (n := 2) (a := 0) (b := 1) (by decide) (by decide) ⟨0, fun i hi => absurd hi (Nat.not_lt_zero i), by decide, by decide, .inr (by decide)⟩

end Go.Proofs.Ythbnojhcmfhnhaa
