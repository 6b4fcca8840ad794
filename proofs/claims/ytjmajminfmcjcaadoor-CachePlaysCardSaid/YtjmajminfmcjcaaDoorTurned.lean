/- Bytes of which bits in a row are turned one by one, as a row of the call's own. (As in XCrcRows, for the laws of later layers.) -/
import Derived.Test.YtjmajminfmcjcaaDoorCrcCut
import Derived.Laws.OwnMore
namespace Go.Proofs.YtjmajminfmcjcaaDoor
open Go.RowKit

/-- bytes of which the first i bits of a row are turned. -/
def turnedTo (U : Nat → Nat) (k t i : Nat) : Nat → Nat := fun j => (List.range i).foldl (fun y b => if (k + b) / 8 = j ∧ t.testBit b = true then y ^^^ 2 ^ ((k + b) % 8) else y) (U j)
theorem turnedTo_zero (U : Nat → Nat) (k t : Nat) : turnedTo U k t 0 = U := rfl
theorem turnedTo_succ (U : Nat → Nat) (k t i j : Nat) : turnedTo U k t (i + 1) j = if (k + i) / 8 = j ∧ t.testBit i = true then turnedTo U k t i j ^^^ 2 ^ ((k + i) % 8) else turnedTo U k t i j := by
  unfold turnedTo
  rw [List.range_succ, List.foldl_append]
  rfl
theorem turnedTo_lt {U : Nat → Nat} {k t : Nat} (hU : ∀ j, U j < 256) : ∀ i j, turnedTo U k t i j < 256
  | 0, j => hU j
  | i + 1, j => by
    rw [turnedTo_succ]
    split
    · have h1 := turnedTo_lt (k := k) (t := t) hU i j
      have h2 : 2 ^ ((k + i) % 8) < 2 ^ 8 := Nat.pow_lt_pow_right (by decide) (Nat.mod_lt _ (by decide))
      exact Nat.xor_lt_two_pow (n := 8) h1 h2
    · exact turnedTo_lt hU i j
theorem bit_pow (a b : Nat) : (2 ^ a).testBit b = decide (a = b) := by
  rw [Nat.testBit_two_pow]
/-- which bits are turned then. -/
theorem turnedTo_bit (U : Nat → Nat) (k t : Nat) : ∀ i x, Pl.bitB (turnedTo U k t i) x = (Pl.bitB U x ^^ (decide (k ≤ x) && decide (x - k < i) && t.testBit (x - k)))
  | 0, x => by simp [turnedTo_zero]
  | i + 1, x => by
    have ih := turnedTo_bit U k t i x
    unfold Pl.bitB at ih ⊢
    rw [turnedTo_succ]
    by_cases hx : x = k + i
    · subst hx
      have e : (decide (k ≤ k + i) && decide (k + i - k < i + 1) && t.testBit (k + i - k)) = t.testBit i := by
        rw [show k + i - k = i by omega]; simp
      have e0 : (decide (k ≤ k + i) && decide (k + i - k < i) && t.testBit (k + i - k)) = false := by
        rw [show k + i - k = i by omega]; simp
      rw [e0, Bool.xor_false] at ih
      rw [e]
      cases hb : t.testBit i
      · rw [if_neg (by simp), ih, Bool.xor_false]
      · rw [if_pos ⟨rfl, rfl⟩, Nat.testBit_xor, ih, bit_pow]
        simp
    · have e : (decide (k ≤ x) && decide (x - k < i + 1) && t.testBit (x - k)) = (decide (k ≤ x) && decide (x - k < i) && t.testBit (x - k)) := by
        by_cases hk : k ≤ x
        · have : (x - k < i + 1) ↔ (x - k < i) := by omega
          simp [this]
        · simp [hk]
      rw [e, ← ih]
      split
      · rename_i h
        rw [Nat.testBit_xor, bit_pow]
        have : ¬ (k + i) % 8 = x % 8 := by omega
        simp [this]
      · rfl
theorem turnedTo_all (U : Nat → Nat) (k t x : Nat) (ht : t < 2 ^ 32) : Pl.bitB (turnedTo U k t 32) x = (Pl.bitB U x ^^ Pl.burst k t x) := by
  rw [turnedTo_bit]
  unfold Pl.burst
  congr 1
  by_cases hk : k ≤ x
  · by_cases h : x - k < 32
    · simp [h]
    · have : t.testBit (x - k) = false := Nat.testBit_lt_two_pow (Nat.lt_of_lt_of_le ht (Nat.pow_le_pow_right (by decide) (by omega)))
      simp [this]
  · simp [hk]
theorem ycells_put (U : Nat → Nat) (n q y : Nat) : (ycells U n).set q (.int .u8 (y : Int)) = ycells (fun j => if q = j then y else U j) n := by
  apply List.ext_getElem
  · simp [ycells_length]
  · intro i h1 h2
    simp only [List.getElem_set, ycells, List.getElem_map, List.getElem_range]
    by_cases e : q = i
    · rw [if_pos e, if_pos e]
    · rw [if_neg e, if_neg e]
theorem bit_test32 (t i : Nat) (ht : t < 2 ^ 32) : (bits .and .u32 ((t : Int) / 2 ^ i) 1 == 1) = t.testBit i := by
  rw [shr_u]
  have hl : t / 2 ^ i < 2 ^ 32 := Nat.lt_of_le_of_lt (Nat.div_le_self _ _) ht
  have e := u32_and_nat (t / 2 ^ i) 1 (by omega) (by omega)
  rw [Nat.and_one_is_mod] at e
  have e2 : bits .and .u32 ((t / 2 ^ i : Nat) : Int) 1 = ((t / 2 ^ i % 2 : Nat) : Int) := e
  rw [e2, ← Nat.shiftRight_eq_div_pow]
  have e3 := Nat.testBit_zero (t >>> i)
  rw [Nat.testBit_shiftRight, Nat.add_zero] at e3
  rw [e3]
  rcases Nat.mod_two_eq_zero_or_one (t >>> i) with h | h <;> simp [h]
theorem u32_nat {a : Int} (h : (Lit.int .u32 a).wf = true) : ∃ x : Nat, x < 2 ^ 32 ∧ a = (x : Int) := by
  simp [Lit.wf, IntKind.min, IntKind.max, IntKind.bits, IntKind.signed] at h
  exact ⟨a.toNat, by omega, by omega⟩
/-- a row of the call's own, one byte of it stored: what the walk asks, and what it leaves. -/
theorem row_store {w : World} {B g n cap q y : Nat} {U : Nat → Nat} (h : w.ownsRow B 5 1 (.slice (some ⟨g, 0, none⟩) n cap) n (ycells U n)) : (w.setCell ⟨g, q, none⟩ (.int .u8 (y : Int))).ownsRow B 5 1 (.slice (some ⟨g, 0, none⟩) n cap) n (ycells (fun j => if q = j then y else U j) n) := by
  rw [← ycells_put]
  exact (h.stored q _).1
theorem row_cell {w : World} {B g n cap q : Nat} {U : Nat → Nat} (h : w.ownsRow B 5 1 (.slice (some ⟨g, 0, none⟩) n cap) n (ycells U n)) (hq : q < n) : w.cell? ⟨g, q, none⟩ = some (.int .u8 ((U q : Nat) : Int)) :=
  (h.cellAt q (by omega)).trans (ycells_at _ _ _ hq)
end Go.Proofs.YtjmajminfmcjcaaDoor
