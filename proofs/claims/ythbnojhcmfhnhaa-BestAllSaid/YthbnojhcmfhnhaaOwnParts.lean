/- Slices of bytes of the call's own, side by side: as cells; append of one; parts of blocks of bytes of the call's own; such a row as sections. -/
import Derived.Test.YthbnojhcmfhnhaaTxtRef
import Derived.Lib.SmallJoins
namespace Go.Proofs.Ythbnojhcmfhnhaa
open Go.RowKit

/-- slices of bytes as cells. -/
def pcells (L : List Part) : List Value := L.map fun p => Value.slice p.A p.n p.c
theorem pcells_length (L : List Part) : (pcells L).length = L.length := by unfold pcells; simp
theorem pcells_at {L : List Part} {i : Nat} {p : Part} (h : L[i]? = some p) : (pcells L)[i]? = some (.slice p.A p.n p.c) := by unfold pcells; rw [List.getElem?_map, h]; rfl
/-- a part of a block of bytes of the call's own. -/
def OwnPart (w : World) (B : Nat) (p : Part) : Prop :=
  (p.A = none ∧ p.n = 0 ∧ p.c = 0) ∨ ∃ (g : Nat) (cur : Array Value), p.A = some ⟨g, 0, none⟩ ∧ B ≤ g ∧ w.heap[g]? = some (.cells cur 5 (0, 0)) ∧ p.n ≤ p.c ∧ p.c ≤ maxLen ∧ ∀ k, k < p.n → cur[k]? = some (.int .u8 ((p.V k : Nat) : Int)) ∧ p.V k < 256
theorem OwnPart.below {w w' : World} {B : Nat} {p : Part} (h : OwnPart w B p) (hb : Below w.heap.size w w') : OwnPart w' B p := by
  rcases h with h | ⟨g, cur, h1, h2, h3, h4⟩
  · exact .inl h
  · have hg : g < w.heap.size := (Array.getElem?_eq_some_iff.1 h3).1
    exact .inr ⟨g, cur, h1, h2, (hb.block g hg).trans h3, h4⟩
theorem OwnPart.bys {w : World} {B : Nat} {p : Part} (h : OwnPart w B p) : p.n ≤ p.c ∧ p.c ≤ maxLen ∧ (p.A = none → p.n = 0 ∧ p.c = 0) ∧ Bys w w.heap.size p.A p.n p.V := by
  rcases h with ⟨h1, h2, h3⟩ | ⟨g, cur, h1, h2, h3, h4, h5, h6⟩
  · exact ⟨by omega, by omega, fun _ => ⟨h2, h3⟩, fun k hk => by omega⟩
  · refine ⟨h4, h5, fun e => (by rw [h1] at e; cases e), fun k hk => ?_⟩
    obtain ⟨h7, h8⟩ := h6 k hk
    refine ⟨⟨g, 0, none⟩, h1, (Array.getElem?_eq_some_iff.1 h3).1, ?_, h8⟩
    have e : (⟨g, 0, none⟩ : Addr).add k = ⟨g, k, none⟩ := by unfold Addr.add; split <;> simp_all
    rw [e, cell_of_row w g k cur 5 (0, 0) h3]
    exact h7
theorem OwnPart.lower {w : World} {B B' : Nat} {p : Part} (h : OwnPart w B p) (hB : B' ≤ B) : OwnPart w B' p := by
  rcases h with h | ⟨g, cur, h1, h2, h3⟩
  · exact .inl h
  · exact .inr ⟨g, cur, h1, by omega, h3⟩
theorem pcells_snoc (L : List Part) (p : Part) : pcells (L ++ [p]) = pcells L ++ [.slice p.A p.n p.c] := by unfold pcells; simp
/-- what a row of bytes is, cut behind. -/
theorem own_cut {w : World} {B m n : Nat} {v : Value} {V : Nat → Nat} (h : w.ownsRow B 5 1 v m (ycells V m)) (hn : n ≤ m) (hV : ∀ k, k < m → V k < 256) :
    ∃ (A : Option Addr) (c : Nat), v = .slice A m c ∧ m ≤ c ∧ (A = none → m = 0 ∧ c = 0) ∧ OwnPart w B ⟨A, n, c, V⟩ := by
  have hc := h
  rcases h.2 with ⟨rfl, rfl⟩ | ⟨g, cap, cur, rfl, hb, hg, hcap, rest⟩
  · exact ⟨none, 0, rfl, Nat.le_refl _, fun _ => ⟨rfl, rfl⟩, .inl ⟨rfl, by show n = 0; omega, rfl⟩⟩
  · refine ⟨some ⟨g, 0, none⟩, cap, rfl, hcap, fun e => (by cases e), .inr ⟨g, cur, rfl, hb, hg, by show n ≤ cap; omega, rest.1, fun k hk => ⟨?_, hV k (by have : k < n := hk; omega)⟩⟩⟩
    · have hk : k < n := hk
      have h1 := hc.cells rfl k _ (ycells_at V m k (by omega))
      have e : (⟨g, 0, none⟩ : Addr).add k = ⟨g, k, none⟩ := by unfold Addr.add; split <;> simp_all
      rw [e, cell_of_row w g k cur 5 (0, 0) hg] at h1
      exact h1

theorem pcells_one (L : List Part) : ∀ v ∈ pcells L, v.oneCell' = true := by
  intro v hv
  unfold pcells at hv
  rw [List.mem_map] at hv
  obtain ⟨p, _, rfl⟩ := hv
  rfl
theorem pcells_append (L L' : List Part) : pcells (L ++ L') = pcells L ++ pcells L' := by unfold pcells; rw [List.map_append]
end Go.Proofs.Ythbnojhcmfhnhaa
