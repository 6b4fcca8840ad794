/- What layer 13's laws ask of package wave, as one word (WaveI), over any 'At' (a matrix lies at a pointer) and any 'Vt' (a list of bits does); the laws' opening; made, right. -/
import Derived.Test.YthbnojhcmfhnhaaWavPairs
import Derived.Test.YthbnojhcmfhnhaaWavNar
namespace Go.Proofs.Ythbnojhcmfhnhaa
open Go.RowKit

/-- may a row be a matrix? -/
def RightW (V : Nat → Int) (n : Nat) (most : Int) : Prop := 0 ≤ most ∧ most < 4194304 ∧ n ≤ 4194304 ∧ ∀ i, i < n → 0 ≤ V i ∧ V i ≤ most
theorem rightW_is {V : Nat → Int} {n : Nat} {most : Int} : RightW V n most ↔ (0 ≤ most ∧ most < 4194304) ∧ RightS V n (most + 1) :=
  ⟨fun h => ⟨⟨h.1, h.2.1⟩, ⟨by have := h.1; omega, by have := h.2.1; omega, h.2.2.1⟩, fun i hi => by have := h.2.2.2 i hi; omega⟩,
   fun h => ⟨h.1.1, h.1.2, h.2.1.2.2, fun i hi => by have := h.2.2 i hi; omega⟩⟩
/-- the number at a place; -1: none. -/
def atI (V : Nat → Int) (n : Nat) (i : Int) : Int := if 0 ≤ i ∧ i < (n : Int) then V i.toNat else -1
section
variable {At : Nat → World → Value → Nat → (Nat → Int) → Nat → Prop} {Vt : Nat → World → Value → Nat → (Nat → Bool) → Prop}
/-- the chapter's example. -/
def wxV : Nat → Int := litI [2, 1, 2, 0]
theorem wxRight : RightW wxV 4 2 := ⟨by decide, by decide, by decide, fun i hi => by
  have h : i = 0 ∨ i = 1 ∨ i = 2 ∨ i = 3 := by omega
  rcases h with rfl | rfl | rfl | rfl <;> decide⟩
theorem wxWrong : ¬ RightW (litI [3]) 1 2 := fun h => by
  have := (h.2.2.2 0 (by decide)).2
  exact absurd this (by decide)
theorem wxRank : cntR wxV 2 0 3 4 = 2 := by decide
theorem wxSel : selW wxV 4 2 1 = 2 := by decide
theorem wxQuant : quantI wxV 4 0 4 1 = 1 := by decide
theorem wxLess : lessR wxV 0 4 2 4 = 2 := by decide
theorem wxAt : atI wxV 4 3 = 0 := by decide
theorem wxPart : partL wxV 0 3 4 = [2, 1, 2] := by decide
theorem wxPairs : PairsOf (partL wxV 0 3 4) [(1, 1), (2, 2)] := by
  rw [wxPart]
  refine ⟨by simp, fun d hd => ?_, fun x hx => ?_⟩
  · rcases List.mem_cons.1 hd with rfl | hd
    · decide
    · obtain rfl := List.mem_singleton.1 hd
      decide
  · rcases List.mem_cons.1 hx with rfl | hx
    · exact ⟨(2, 2), by simp, rfl⟩
    · rcases List.mem_cons.1 hx with rfl | hx
      · exact ⟨(1, 1), by simp, rfl⟩
      · obtain rfl := List.mem_singleton.1 hx
        exact ⟨(2, 2), by simp, rfl⟩
theorem wxWidth : widthN 2 = 2 := by
  rw [widthN_up (by decide), widthN_low (by decide)]
theorem prs_two (w : World) : PrsR (w.alloc (.cells #[.int .i64 1, .int .i64 1, .int .i64 2, .int .i64 2] 39)) (some ⟨w.heap.size, 0, none⟩) [(1, 1), (2, 2)] := by
  have hl := lies_new w 39 [.int .i64 1, .int .i64 1, .int .i64 2, .int .i64 2]
  refine ⟨by decide, fun i d hd => ?_⟩
  rcases i with _ | _ | i
  · have hd : some _ = some d := hd
    cases hd
    exact ⟨_, 0, rfl, by rw [size_alloc]; omega, hl.cell 0, hl.cell 1, by decide⟩
  · have hd : some _ = some d := hd
    cases hd
    exact ⟨_, 0, rfl, by rw [size_alloc]; omega, hl.cell 2, hl.cell 3, by decide⟩
  · simp at hd
theorem itsR_litW (w : World) (xs : List Int) (hm : xs.length ≤ maxLen) (hx : ∀ x ∈ xs, -9223372036854775808 ≤ x ∧ x ≤ 9223372036854775807) : ItsR (w.alloc (.cells (xs.map fun x => Value.int .i64 x).toArray 3)) (some ⟨w.heap.size, 0, none⟩) xs.length xs.length (litI xs) := ⟨fun e => (by cases e), Nat.le_refl _, hm, its_lit w xs hx⟩
end
end Go.Proofs.Ythbnojhcmfhnhaa
