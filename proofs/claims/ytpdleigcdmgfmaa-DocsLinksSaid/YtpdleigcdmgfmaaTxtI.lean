/- What layer 8's laws ask of package text, as one word (TextI), over any 'At' (a collection lies at a pointer); the laws' opening. -/
import Derived.Test.YtpdleigcdmgfmaaTxtRef
import Derived.Test.YtpdleigcdmgfmaaCrcFirst
import Derived.Deep.CutBlock
import Derived.Deep.DeepCutAuto
namespace Go.Proofs.Ytpdleigcdmgfmaa
open Go.RowKit

/-- may these be a collection? -/
def RightT (S : List Sec) : Prop := S.length ≤ 256 ∧ bytesT S ≤ 65536
/-- what Start answers. -/
def startI (S : List Sec) (d : Int) : Int := if 0 ≤ d ∧ d ≤ (S.length : Int) then ((offT S d.toNat : Nat) : Int) else -1
/-- the documents of the example. -/
def exT (g : Nat) : List Part := [⟨some ⟨g, 0, none⟩, 2, 2, ofList [97, 98]⟩, ⟨none, 0, 0, fun _ => 0⟩, ⟨some ⟨g + 1, 0, none⟩, 1, 1, ofList [98]⟩]
def t2 : Obj := .cells #[.int .u8 97, .int .u8 98] 5 (2, 3)
def t1 : Obj := .cells #[.int .u8 98] 5 (1, 2)
theorem exT_off (g : Nat) : offT (docsP (exT g)) 2 = 4 ∧ offT (docsP (exT g)) 3 = 6 ∧ lenT (docsP (exT g)) = 6 ∧ (docsP (exT g)).length = 3 := ⟨rfl, rfl, rfl, rfl⟩
theorem exT_sym (g : Nat) : ∀ p, p < 6 → symT (docsP (exT g)) p = [100, 101, 0, 1, 101, 2].getD p 0 := fun p hp => by
  have h : p = 0 ∨ p = 1 ∨ p = 2 ∨ p = 3 ∨ p = 4 ∨ p = 5 := by omega
  rcases h with rfl | rfl | rfl | rfl | rfl | rfl <;> rfl
theorem addr_add8 (g k : Nat) : (⟨g, 0, none⟩ : Addr).add k = ⟨g, k, none⟩ := by unfold Addr.add; split <;> simp_all
theorem exT_secs (w : World) : Secs (((w.alloc t2).alloc t1).alloc (.cells #[.slice (some ⟨w.heap.size, 0, none⟩) 2 2, .slice none 0 0, .slice (some ⟨w.heap.size + 1, 0, none⟩) 1 1] 44)) (w.heap.size + 3) (some ⟨w.heap.size + 1 + 1, 0, none⟩) (exT w.heap.size) := by
  have h1 : Bys (w.alloc t2) _ _ 2 (ofList [97, 98]) := bys_lit [97, 98] (by decide) w (2, 3)
  have h2 : Bys ((w.alloc t2).alloc t1) _ _ 1 (ofList [98]) := bys_lit [98] (by decide) (w.alloc t2) (1, 2)
  obtain ⟨w1, hw1⟩ : ∃ w1, w.alloc t2 = w1 := ⟨_, rfl⟩
  have hs1 : w1.heap.size = w.heap.size + 1 := by rw [← hw1, size_alloc]
  rw [hw1] at h1 h2 ⊢
  obtain ⟨w2, hw2⟩ : ∃ w2, w1.alloc t1 = w2 := ⟨_, rfl⟩
  have hs2 : w2.heap.size = w.heap.size + 2 := by rw [← hw2, size_alloc, hs1]
  have hb12 : Below w1.heap.size w1 w2 := by rw [← hw2]; exact (Below.refl _ _).alloc (Nat.le_refl _) _
  rw [hw2, hs1] at h2
  rw [hw2]
  have hb23 : Below w2.heap.size w2 (w2.alloc (.cells #[.slice (some ⟨w.heap.size, 0, none⟩) 2 2, .slice none 0 0, .slice (some ⟨w.heap.size + 1, 0, none⟩) 1 1] 44)) := (Below.refl _ _).alloc (Nat.le_refl _) _
  have hl := lies_new w2 44 [.slice (some ⟨w.heap.size, 0, none⟩) 2 2, .slice none 0 0, .slice (some ⟨w.heap.size + 1, 0, none⟩) 1 1]
  have hg : w2.heap.size = w.heap.size + 1 + 1 := by omega
  have h1' := ((h1.below (hb12.mono (by omega))).below (hb23.mono (by omega))).mono_ (B' := w.heap.size + 3) (by omega)
  have h2' := (h2.below (hb23.mono (by omega))).mono_ (B' := w.heap.size + 3) (by omega)
  rw [hg] at hl
  intro j p hj
  rcases j with _ | _ | _ | j
  · have hj : some _ = some p := hj
    cases hj
    refine ⟨_, rfl, by show w.heap.size + 1 + 1 < _; omega, ?_, Nat.le_refl _, by show 2 ≤ maxLen; unfold maxLen; omega, fun e => (by cases e), h1'⟩
    rw [addr_add8]
    exact hl.cell 0
  · have hj : some _ = some p := hj
    cases hj
    refine ⟨_, rfl, by show w.heap.size + 1 + 1 < _; omega, ?_, Nat.le_refl _, Nat.zero_le _, fun _ => ⟨rfl, rfl⟩, fun k hk => absurd hk (Nat.not_lt_zero k)⟩
    rw [addr_add8]
    exact hl.cell 1
  · have hj : some _ = some p := hj
    cases hj
    refine ⟨_, rfl, by show w.heap.size + 1 + 1 < _; omega, ?_, Nat.le_refl _, by show 1 ≤ maxLen; unfold maxLen; omega, fun e => (by cases e), h2'⟩
    rw [addr_add8]
    exact hl.cell 2
  · simp [exT] at hj
theorem ab_lit8 : bstr (ofList [97, 98]) 2 = (⟨#[97, 98]⟩ : ByteArray) := by decide +kernel
theorem its_six (w : World) (xs : List Int) (hx : ∀ x ∈ xs, 0 ≤ x ∧ x < 1000) : Its (w.alloc (.cells (xs.map fun x => Value.int .i64 x).toArray 3)) (w.heap.size + 1) (some ⟨w.heap.size, 0, none⟩) xs.length (fun k => xs.getD k 0) := fun k hk => by
  have hl := lies_new w 3 (xs.map fun x => Value.int .i64 x)
  have hm : xs.getD k 0 ∈ xs := by
    rw [List.getD_eq_getElem?_getD, List.getElem?_eq_getElem hk]
    exact List.getElem_mem _
  obtain ⟨h1, h2⟩ := hx _ hm
  refine ⟨⟨w.heap.size, 0, none⟩, rfl, Nat.lt_succ_self _, ?_, by show _ ≤ xs.getD k 0; omega, by show xs.getD k 0 ≤ _; omega⟩
  show _ = some (Value.int IntKind.i64 (xs.getD k 0))
  rw [addr_add8, hl.cell, List.getElem?_map, List.getD_eq_getElem?_getD, List.getElem?_eq_getElem hk]
  rfl

section
variable {At : Nat → World → Value → List Sec → Prop}
end
end Go.Proofs.Ytpdleigcdmgfmaa
