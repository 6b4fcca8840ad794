/- Words for memory: blocks known whole, and packed lists as they lie in memory. -/
import Derived.Test.YthbnojhcmfhnhaaRows
import Derived.Test.YthbnojhcmfhnhaaPlain
import Derived.WalkKit
import Derived.WalkSpells
import Derived.WalkLawsBesides
import Derived.Lib.Hide
namespace Go.Proofs.Ythbnojhcmfhnhaa
open Go.RowKit

/-- block g holds just these cells, of this element type, and none is frozen. -/
def Lies (w : World) (g : Nat) (t : TypeId) (cs : List Value) : Prop := w.heap[g]? = some (.cells cs.toArray t (0, 0))

section
variable {w w' : World} {g : Nat} {t : TypeId} {cs : List Value}

theorem Lies.lt (h : Lies w g t cs) : g < w.heap.size := by
  apply Nat.lt_of_not_le
  intro hge
  unfold Lies at h
  rw [Array.getElem?_eq_none hge] at h
  cases h
theorem Lies.cell (h : Lies w g t cs) (i : Nat) : w.cell? ⟨g, i, none⟩ = cs[i]? := by
  rw [cell_of_row w g i cs.toArray t (0, 0) h]; simp
theorem Lies.free (h : Lies w g t cs) (i : Nat) : w.frozen? ⟨g, i, none⟩ = false := by
  unfold Lies at h
  simp [World.frozen?, h]
theorem Lies.same (h : Lies w g t cs) (e : w'.heap[g]? = w.heap[g]?) : Lies w' g t cs := e.trans h
theorem Lies.below {B : Nat} (h : Lies w g t cs) (hb : Below B w w') (hg : g < B) : Lies w' g t cs := h.same (hb.block g hg)
theorem Lies.grown {row : Option Nat} (h : Lies w g t cs) (hb : w.grownBy w' row) (hg : some g ≠ row) : Lies w' g t cs := h.same (hb.block g h.lt hg)
theorem Lies.alloc (h : Lies w g t cs) (o : Obj) : Lies (w.alloc o) g t cs := h.same (Below.heap_alloc w o g h.lt)
theorem Lies.drew (h : Lies w g t cs) : Lies w.drew g t cs := h
theorem Lies.drewN (h : Lies w g t cs) (n : Nat) : Lies (w.drewN n) g t cs := h
theorem Lies.put (h : Lies w g t cs) (i : Nat) (u : Value) : Lies (w.setCell ⟨g, i, none⟩ u) g t (cs.set i u) := by
  unfold Lies at h ⊢
  simp [World.setCell, Array.getElem?_modify, h]
theorem Lies.far (h : Lies w g t cs) {p : Addr} (hp : g ≠ p.block) (u : Value) : Lies (w.setCell p u) g t cs := h.same (Below.heap_setCell w p u g hp)
theorem Lies.unlike {g' : Nat} {t' : TypeId} {cs' : List Value} (h : Lies w g t cs) (h' : Lies w g' t' cs') (hne : t ≠ t') : g ≠ g' := by
  rintro rfl
  unfold Lies at h h'
  rw [h] at h'
  simp at h'
  exact hne h'.2
end

/-- words as cells. -/
def wcells (ws : List Nat) : List Value := ws.map fun (x : Nat) => Value.int .u64 (x : Int)
theorem wcells_at (ws : List Nat) (k : Nat) (h : k < ws.length) : (wcells ws)[k]? = some (.int .u64 ((ws.getD k 0 : Nat) : Int)) := by
  unfold wcells
  rw [List.getElem?_map, List.getElem?_eq_getElem h, List.getD_eq_getElem?_getD, List.getElem?_eq_getElem h]
  rfl
theorem wcells_set (ws : List Nat) (k x : Nat) : wcells (ws.set k x) = (wcells ws).set k (.int .u64 (x : Int)) := by
  unfold wcells; rw [List.map_set]
theorem wcells_length (ws : List Nat) : (wcells ws).length = ws.length := by unfold wcells; simp

/-- a packed list as it lies: its struct in block g, its words in block gs. -/
structure Pk (w : World) (g gs : Nat) (width n : Nat) (ws : List Nat) : Prop where
  head : Lies w g 96 [.int .i64 (width : Int), .int .i64 (n : Int), .slice (some ⟨gs, 0, none⟩) ws.length ws.length]
  body : Lies w gs 55 (wcells ws)

section
variable {w w' : World} {g gs width n : Nat} {ws : List Nat}
theorem Pk.ne_ (h : Pk w g gs width n ws) : g ≠ gs := h.head.unlike h.body (by decide)
theorem Pk.keep (h : Pk w g gs width n ws) (h1 : w'.heap[g]? = w.heap[g]?) (h2 : w'.heap[gs]? = w.heap[gs]?) : Pk w' g gs width n ws := ⟨h.head.same h1, h.body.same h2⟩
theorem Pk.below {B : Nat} (h : Pk w g gs width n ws) (hb : Below B w w') (hg : g < B) (hgs : gs < B) : Pk w' g gs width n ws := h.keep (hb.block g hg) (hb.block gs hgs)
theorem Pk.grown {row : Option Nat} (h : Pk w g gs width n ws) (hb : w.grownBy w' row) (hg : some g ≠ row) (hgs : some gs ≠ row) : Pk w' g gs width n ws := ⟨h.head.grown hb hg, h.body.grown hb hgs⟩
theorem Pk.alloc (h : Pk w g gs width n ws) (o : Obj) : Pk (w.alloc o) g gs width n ws := ⟨h.head.alloc o, h.body.alloc o⟩
theorem Pk.drew (h : Pk w g gs width n ws) : Pk w.drew g gs width n ws := ⟨h.head, h.body⟩
theorem Pk.drewN (h : Pk w g gs width n ws) (k : Nat) : Pk (w.drewN k) g gs width n ws := ⟨h.head.drewN k, h.body.drewN k⟩
theorem Pk.put (h : Pk w g gs width n ws) (q x : Nat) : Pk (w.setCell ⟨gs, q, none⟩ (.int .u64 (x : Int))) g gs width n (ws.set q x) := by
  refine ⟨?_, ?_⟩
  · rw [List.length_set]; exact h.head.far h.ne_ _
  · rw [wcells_set]; exact h.body.put q _
theorem Pk.c0 (h : Pk w g gs width n ws) : w.cell? ⟨g, 0, none⟩ = some (.int .i64 (width : Int)) := h.head.cell 0
theorem Pk.c1 (h : Pk w g gs width n ws) : w.cell? ⟨g, 1, none⟩ = some (.int .i64 (n : Int)) := h.head.cell 1
theorem Pk.c2 (h : Pk w g gs width n ws) : w.cell? ⟨g, 2, none⟩ = some (.slice (some ⟨gs, 0, none⟩) ws.length ws.length) := h.head.cell 2
theorem Pk.word (h : Pk w g gs width n ws) (k : Nat) (hk : k < ws.length) : w.cell? ⟨gs, k, none⟩ = some (.int .u64 ((ws.getD k 0 : Nat) : Int)) := by
  rw [h.body.cell k]; exact wcells_at ws k hk
end

/-- frames: only the row, and what is new, has turned. -/
theorem grownBy_trans {a b c : World} {row : Option Nat} (h : a.grownBy b row) (k : b.grownBy c row) : a.grownBy c row :=
  ⟨k.os.trans h.os, k.tape.trans h.tape, k.output.trans h.output, Nat.le_trans h.size k.size, fun i hi hne => (k.block i (Nat.lt_of_lt_of_le hi h.size) hne).trans (h.block i hi hne)⟩
theorem grownBy_of_below {a w : World} (h : Below a.heap.size a w) (row : Option Nat) : a.grownBy w row := ⟨h.os, h.tape, h.output, h.size, fun i hi _ => h.block i hi⟩
theorem below_of_grownBy {B : Nat} {a w : World} {g : Nat} (h : a.grownBy w (some g)) (hB : B ≤ g) (hs : B ≤ a.heap.size) : Below B a w :=
  ⟨h.os, h.tape, h.output, h.size, fun i hi => h.block i (by omega) (fun e => by injection e with e; omega)⟩
theorem grownBy_drewN {a w : World} {row : Option Nat} (h : a.grownBy w row) (n : Nat) : a.grownBy (w.drewN n) row := ⟨h.os, h.tape, h.output, h.size, h.block⟩
theorem grownBy_drew {a w : World} {row : Option Nat} (h : a.grownBy w row) : a.grownBy w.drew row := ⟨h.os, h.tape, h.output, h.size, h.block⟩
theorem grownBy_put {a w : World} {g : Nat} (h : a.grownBy w (some g)) (q : Nat) (u : Value) : a.grownBy (w.setCell ⟨g, q, none⟩ u) (some g) :=
  ⟨h.os, h.tape, h.output, by simpa [World.setCell] using h.size, fun i hi hne => (Below.heap_setCell w ⟨g, q, none⟩ u i (fun e => hne (by rw [e]))).trans (h.block i hi hne)⟩
theorem below_drewN' {B : Nat} {a w : World} (h : Below B a w) (n : Nat) : Below B a (w.drewN n) := ⟨h.os, h.tape, h.output, h.size, h.block⟩

end Go.Proofs.Ythbnojhcmfhnhaa
