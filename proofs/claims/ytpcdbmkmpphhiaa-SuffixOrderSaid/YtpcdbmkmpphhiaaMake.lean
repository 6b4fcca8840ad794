/- Contracts of New, Words, Len and Width of package pack. -/
import Derived.Test.YtpcdbmkmpphhiaaCalls
import Derived.Laws.MakeOwn
import Derived.Laws.CopyOwn
namespace Go.Proofs.Ytpcdbmkmpphhiaa
open Go.RowKit

theorem info_u64 : (Try.prog.info? 69).map (fun i => (i.zero, i.size, i.bytes)) = some (some (.int .u64 0), 1, 8) := by kernel_rfl
theorem size_u64 : (Try.prog.info? 69).map (·.size) = some 1 := by kernel_rfl

theorem zeros_cells (L : Nat) : madeCells (Value.int .u64 0).cells (L * 1) = (wcells (List.replicate L 0)).toArray := by
  apply Array.ext'
  simp [madeCells, wcells, Value.cells, Array.toList_range]
  apply List.ext_getElem
  · simp
  · intro i h1 h2
    simp [Nat.mod_one]
theorem wcells_one (ws : List Nat) : ∀ v ∈ wcells ws, v.oneCell' = true := by
  intro v hv
  unfold wcells at hv
  obtain ⟨x, _, rfl⟩ := List.mem_map.1 hv
  rfl
theorem size_alloc (w : World) (o : Obj) : (w.alloc o).heap.size = w.heap.size + 1 := by simp
theorem lies_new (w : World) (t : TypeId) (cs : List Value) : Lies (w.alloc (.cells cs.toArray t)) w.heap.size t cs := heap_alloc_new w _

/-- a slice, from its block's head on, that reads as these words. -/
def Src (w : World) (b : Nat) (ws : List Nat) : Prop := b < w.heap.size ∧ ∀ k, k < ws.length → w.cell? ⟨b, k, none⟩ = some (.int .u64 ((ws.getD k 0 : Nat) : Int))
theorem Src.of_lies {w : World} {b : Nat} {ws : List Nat} (h : Lies w b 69 (wcells ws)) : Src w b ws := ⟨h.lt, fun k hk => by rw [h.cell k]; exact wcells_at ws k hk⟩
theorem Src.keep {w w' : World} {b : Nat} {ws : List Nat} (h : Src w b ws) (hb : Below w.heap.size w w') : Src w' b ws :=
  ⟨Nat.lt_of_lt_of_le h.1 hb.size, fun k hk => (hb.cell (p := ⟨b, k, none⟩) h.1).trans (h.2 k hk)⟩
theorem Src.cells {w : World} {b : Nat} {ws : List Nat} (h : Src w b ws) (j : Nat) (v : Value) (hj : (wcells ws)[j]? = some v) : w.cell? ((⟨b, 0, none⟩ : Addr).add j) = some v := by
  have hl : j < ws.length := by
    rw [← wcells_length]
    exact (List.getElem?_eq_some_iff.1 hj).1
  have e : (⟨b, 0, none⟩ : Addr).add j = ⟨b, j, none⟩ := by unfold Addr.add; split <;> simp_all
  rw [e, h.2 j hl, ← hj]
  exact (wcells_at ws j hl).symm

/-- what copyOf leaves: a new row of just these words. -/
def CopyPost (w : World) (ws : List Nat) (e : Ending) (w' : World) : Prop :=
  ∃ gs : Nat, e = .returned (.slice (some ⟨gs, 0, none⟩) ws.length ws.length) ∧ w.heap.size ≤ gs ∧ Lies w' gs 69 (wcells ws) ∧ Below w.heap.size w w'

section
variable {w : World} {g gs width n : Nat} {ws : List Nat}

end
end Go.Proofs.Ytpcdbmkmpphhiaa
