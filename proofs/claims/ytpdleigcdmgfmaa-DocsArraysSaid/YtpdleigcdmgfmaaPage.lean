/- The contracts of package page: the number that lies in a leaf, Put, Get, Many. -/
import Derived.Test.YtpdleigcdmgfmaaImgMath
import Derived.Deep.WholeRow
import Derived.Deep.MidRow
import Derived.StillTailTactics
import Derived.Laws.CopyOwn
import Derived.Lib.SmallJoins
namespace Go.Proofs.Ytpdleigcdmgfmaa
open Go.RowKit

/-- a leaf's cells of which the first i bytes of the number are laid. -/
def numTo (U : Nat → Nat) (t i : Nat) : Nat → Nat := fun k => if 256 ≤ k ∧ k < 256 + i then byteOf t (k - 256) else U k
theorem numTo_zero (U : Nat → Nat) (t : Nat) : numTo U t 0 = U := by
  funext k
  unfold numTo
  rw [if_neg (by omega)]
theorem ycells_set (U : Nat → Nat) (n q y : Nat) : (ycells U n).set q (.int .u8 (y : Int)) = ycells (fun j => if q = j then y else U j) n := by
  apply List.ext_getElem
  · simp [ycells_length]
  · intro i h1 h2
    simp only [List.getElem_set, ycells, List.getElem_map, List.getElem_range]
    by_cases e : q = i
    · rw [if_pos e, if_pos e]
    · rw [if_neg e, if_neg e]
theorem numTo_next (U : Nat → Nat) (t i : Nat) : numTo U t (i + 1) = fun j => if 256 + i = j then byteOf t i else numTo U t i j := by
  funext j
  unfold numTo
  by_cases h : 256 + i = j
  · subst h
    rw [if_pos ⟨by omega, by omega⟩, if_pos rfl, show 256 + i - 256 = i by omega]
  · rw [if_neg h]
    by_cases h2 : 256 ≤ j ∧ j < 256 + i
    · rw [if_pos h2, if_pos ⟨h2.1, by omega⟩]
    · rw [if_neg h2, if_neg (by omega)]
theorem numTo_cell (U : Nat → Nat) (t i n : Nat) (h : 256 + i < n) : (ycells (numTo U t i) n)[256 + i]? = some (.int .u8 ((U (256 + i) : Nat) : Int)) := by
  rw [ycells_at _ _ _ h]
  unfold numTo
  rw [if_neg (by omega)]

/-- the number's first i bytes. -/
def sofar (U : Nat → Nat) : Nat → Nat
  | 0 => 0
  | i + 1 => sofar U i + U (256 + i) * 256 ^ i
theorem sofar_all (U : Nat → Nat) : sofar U 4 = numberOf U := by
  simp only [sofar, numberOf, Nat.pow_zero, Nat.pow_succ, Nat.add_zero, Nat.reduceAdd]
  omega
theorem sofar_lt {U : Nat → Nat} (hU : ∀ k, k < 260 → U k < 256) (i : Nat) (hi : i ≤ 4) : sofar U i < 256 ^ i := by
  have a0 := hU 256 (by omega)
  have a1 := hU 257 (by omega)
  have a2 := hU 258 (by omega)
  have a3 := hU 259 (by omega)
  have h : i = 0 ∨ i = 1 ∨ i = 2 ∨ i = 3 ∨ i = 4 := by omega
  rcases h with rfl | rfl | rfl | rfl | rfl <;> simp only [sofar, Nat.pow_zero, Nat.pow_succ, Nat.add_zero, Nat.reduceAdd] <;> omega
theorem sofar_next {U : Nat → Nat} (hU : ∀ k, k < 260 → U k < 256) (i : Nat) (hi : i < 4) : bits .or .u32 ((sofar U i : Nat) : Int) (((U (256 + i) : Nat) : Int) * 2 ^ (8 * i) % 4294967296) = ((sofar U (i + 1) : Nat) : Int) := by
  have h1 := sofar_lt hU i (by omega)
  have h2 := hU (256 + i) (by omega)
  have h3 := sofar_lt hU (i + 1) (by omega)
  have h4 : sofar U (i + 1) = sofar U i + U (256 + i) * 256 ^ i := rfl
  generalize sofar U i = x at h1 h4 ⊢
  generalize U (256 + i) = y at h2 h4 ⊢
  have h5 : 256 ^ (i + 1) ≤ 256 ^ 4 := Nat.pow_le_pow_right (by decide) (by omega)
  have hp : (256 : Nat) ^ i = 2 ^ (8 * i) := by rw [Nat.pow_mul]
  rw [h4] at h3 ⊢
  rw [hp] at h1 h3 ⊢
  have e : ((y : Nat) : Int) * 2 ^ (8 * i) % 4294967296 = ((y * 2 ^ (8 * i) : Nat) : Int) := by
    have h6 : ((y * 2 ^ (8 * i) : Nat) : Int) = (y : Int) * 2 ^ (8 * i) := by simp
    rw [← h6]
    exact Int.emod_eq_of_lt (Int.natCast_nonneg _) (by have : y * 2 ^ (8 * i) < 256 ^ 4 := by omega
                                                       omega)
  rw [e]
  have h7 : x < 2 ^ 32 := by omega
  have h8 : y * 2 ^ (8 * i) < 2 ^ 32 := by omega
  have h9 := u32_or_nat x (y * 2 ^ (8 * i)) (by omega) (by omega)
  rw [h9]
  have h10 : x ||| y * 2 ^ (8 * i) = x + y * 2 ^ (8 * i) := by
    rw [← Nat.shiftLeft_eq, Nat.or_comm, ← Nat.shiftLeft_add_eq_or_of_lt h1, Nat.add_comm]
  rw [h10]

theorem size_u8i : (Try.prog.info? 5).map (·.size) = some 1 := by kernel_rfl
theorem padded_cells (V : Nat → Nat) (n m : Nat) (h : n ≤ m) : ycells V n ++ (ycells (fun _ => 0) m).drop n = ycells (padded V n) m := by
  apply List.ext_getElem?
  intro k
  by_cases hk : k < m
  · rw [ycells_at _ _ _ hk]
    unfold padded
    by_cases h1 : k < n
    · rw [List.getElem?_append_left (by rw [ycells_length]; exact h1), ycells_at _ _ _ h1, if_pos h1]
    · rw [List.getElem?_append_right (by rw [ycells_length]; omega), List.getElem?_drop, ycells_length, show n + (k - n) = k by omega, ycells_at _ _ _ hk, if_neg h1]
  · rw [List.getElem?_eq_none (by simp [ycells_length]; omega), List.getElem?_eq_none (by rw [ycells_length]; omega)]
theorem leaf_bys {w : World} {g n : Nat} {t : TypeId} {U : Nat → Nat} (h : Lies w g t (ycells U n)) (hU : ∀ k, k < n → U k < 256) : Bys w w.heap.size (some ⟨g, 0, none⟩) n U := fun k hk => by
  refine ⟨⟨g, 0, none⟩, rfl, h.lt, ?_, hU k hk⟩
  have e : (⟨g, 0, none⟩ : Addr).add k = ⟨g, k, none⟩ := by unfold Addr.add; split <;> simp_all
  rw [e, h.cell k]
  exact ycells_at _ _ _ hk
theorem behind_congr {V U : Nat → Nat} {n : Nat} (h : ∀ k, k < n → V k = U k) (k : Nat) : behind V n k = behind U n k := by
  unfold behind both
  rw [sumN_congr h]
  split
  · exact h k (by assumption)
  · rfl
theorem numTo_body (V : Nat → Nat) (n t k : Nat) (hk : k < 260) : numTo (padded V n) t 4 k = bodyOf V n t k := by
  unfold numTo bodyOf both
  by_cases h : k < 256
  · rw [if_pos h, if_neg (by omega)]
  · rw [if_neg h, if_pos (by omega)]
theorem page_cells (V : Nat → Nat) (n t m : Nat) : ycells (behind (numTo (padded V n) t 4) 260) m = ycells (pageOf V n t) m :=
  ycells_congr fun k _ => behind_congr (fun j hj => numTo_body V n t j hj) k
theorem numTo_lt {V : Nat → Nat} {n t k : Nat} (hV : ∀ k, k < n → V k < 256) : numTo (padded V n) t 4 k < 256 := by
  unfold numTo
  split
  · exact byteOf_lt _ _
  · exact padded_lt hV k
/-- what Put leaves. -/
def PagePost (w : World) (a : Int) (n : Nat) (V : Nat → Nat) (e : Ending) (w' : World) : Prop :=
  ((a < 0 ∨ 4095 < a) → e = .returned (.tuple #[.slice none 0 0, .int .i64 2])) ∧
  ((0 ≤ a ∧ a ≤ 4095) → 256 < n → e = .returned (.tuple #[.slice none 0 0, .int .i64 80])) ∧
  (∀ t : Nat, a = (t : Int) → t ≤ 4095 → n ≤ 256 → ∃ v, e = .returned (.tuple #[v, .int .i64 0]) ∧ w'.ownsRow w.heap.size 5 1 v 264 (ycells (pageOf V n t) 264)) ∧ Below w.heap.size w w'

/-- what Get leaves. -/
def GetPost (w : World) (n : Nat) (V : Nat → Nat) (e : Ending) (w' : World) : Prop :=
  (n < 264 → e = .returned (.tuple #[.int .i64 0, .slice none 0 0, .int .i64 50])) ∧
  (264 < n → e = .returned (.tuple #[.int .i64 0, .slice none 0 0, .int .i64 51])) ∧
  (n = 264 → ¬ Pl.Ends V 260 → e = .returned (.tuple #[.int .i64 0, .slice none 0 0, .int .i64 40])) ∧
  (n = 264 → Pl.Ends V 260 → 4096 ≤ numberOf V → e = .returned (.tuple #[.int .i64 0, .slice none 0 0, .int .i64 10])) ∧
  (n = 264 → Pl.Ends V 260 → numberOf V < 4096 → ∃ v, e = .returned (.tuple #[.int .i64 ((numberOf V : Nat) : Int), v, .int .i64 0]) ∧ w'.ownsRow w.heap.size 5 1 v 256 (ycells V 256)) ∧ Below w.heap.size w w'

theorem ycells_all (V : Nat → Nat) (n : Nat) : (ycells V n).toArray.all (·.oneCell') = true := by
  rw [Array.all_eq_true_iff_forall_mem]
  intro v hv
  exact ycells_one V n v (by simpa using hv)
theorem leaf_range {w : World} {B g cap : Nat} {V : Nat → Nat} (h : w.ownsRow B 5 1 (.slice (some ⟨g, 0, none⟩) 260 cap) 260 (ycells V 260)) : w.rangeAt g 0 (ycells V 260) := fun j v hj => by
  have e : (⟨g, 0, none⟩ : Addr).add j = ⟨g, 0 + j, none⟩ := Addr.add_mid g 0 j
  rw [← e]
  exact h.cells rfl j v hj
theorem number_lt {V : Nat → Nat} (hV : ∀ k, k < 264 → V k < 256) : numberOf V < 4294967296 := by
  have a0 := hV 256 (by omega)
  have a1 := hV 257 (by omega)
  have a2 := hV 258 (by omega)
  have a3 := hV 259 (by omega)
  unfold numberOf
  omega
theorem Bys.take_ {w : World} {B n m : Nat} {A : Option Addr} {V : Nat → Nat} (h : Bys w B A n V) (hm : m ≤ n) : Bys w B A m V := fun k hk => h k (by omega)

/-- how many pages. -/
def manyOf (a : Int) : Int := if a ≤ 0 then 0 else (a - 1) / 256 + 1
end Go.Proofs.Ytpdleigcdmgfmaa
