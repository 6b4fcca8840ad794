/- Slices of bytes of the call's own, side by side: as cells; append of one; parts of blocks of bytes of the call's own; such a row as sections. -/
import Derived.Test.YtfhflmojcfnhnaaTxtRef
import Derived.Lib.SmallJoins
namespace Go.Proofs.Ytfhflmojcfnhnaa
open Go.RowKit

/-- slices of bytes as cells. -/
def pcells (L : List Part) : List Value := L.map fun p => Value.slice p.A p.n p.c
theorem pcells_length (L : List Part) : (pcells L).length = L.length := by unfold pcells; simp
theorem pcells_at {L : List Part} {i : Nat} {p : Part} (h : L[i]? = some p) : (pcells L)[i]? = some (.slice p.A p.n p.c) := by unfold pcells; rw [List.getElem?_map, h]; rfl
theorem info_sl : (Try.prog.info? 34).map (fun i => (i.zero, i.size, i.bytes)) = some (some (.slice none 0 0), 1, 24) := by kernel_rfl
/-- append of one slice of bytes to a row of the call's own, as a step of the walk. -/
theorem step_append_slice {ops : Array Oper} {rest : List Oper} {o : Oper} {a : Act} {Q : Exit → Act → World → Prop} (hgd : o.guard = none) (s x : Operand)
    (ho : o.op = .call { callee := .builtin .append, args := #[s, x], argTypes := #[28, 28] })
    {w : World} {B : Nat} {v : Value} {i : Nat} {xs : List Value} (hs : a.eval s = v) (hown : w.ownsRow B 34 1 v i xs) (A : Option Addr) (n c : Nat) (hx : a.eval x = .slice (some ⟨w.heap.size, 0, none⟩) 1 1) (hB : B ≤ w.heap.size) (hi : i ≤ 4194304)
    (h : ∀ v' w', Hid (w'.ownsRow B 34 1 v' (i + 1) (xs ++ [.slice A n c])) → Hid (w.grownBy w' v.ownBlock) → Below B w w' → wpList Try.prog ops Q rest (a.put o.dst v') w') :
    wpList Try.prog ops Q (o :: rest) a (w.alloc (.cells #[.slice A n c] 34)) := by
  obtain ⟨i0, hi0, hz0, hs0, hb0⟩ := info_parts info_sl
  have hl := lies_new w 34 [.slice A n c]
  refine wpList_append_own _ hgd s x 28 ho B 34 i0 (.slice none 0 0) 1 24 Try.underlying28 hi0 hz0 hs0 hb0 rfl (by decide) v i xs hs (hown.alloc _) ⟨w.heap.size, 0, none⟩ 1 1 [.slice A n c] hx rfl (fun j u hj => by
      cases j with
      | zero => simp at hj; subst hj; exact hl.cell 0
      | succ j => simp at hj) (fun u hu => by simp at hu; subst hu; rfl) (by unfold maxLen; omega) (by omega) (by rw [size_alloc]; omega) (fun v' w' h2 h3 _ => ?_)
  have hb := ((Below.refl _ _).alloc hB (.cells #[.slice A n c] 34)).grown h3 (by rw [size_alloc]; omega) (fun k hk => (hown.lt k hk).1)
  refine h v' w' h2 (Lib.hid ⟨h3.os.trans rfl, h3.tape.trans rfl, h3.output.trans rfl, Nat.le_trans (by rw [size_alloc]; omega) h3.size, fun k hk hne => ?_⟩) hb
  rw [h3.block k (by rw [size_alloc]; omega) hne]
  exact Below.heap_alloc w _ k hk

/-- a part of a block of bytes of the call's own. -/
def OwnPart (w : World) (B : Nat) (p : Part) : Prop :=
  (p.A = none ∧ p.n = 0 ∧ p.c = 0) ∨ ∃ (g : Nat) (cur : Array Value), p.A = some ⟨g, 0, none⟩ ∧ B ≤ g ∧ w.heap[g]? = some (.cells cur 5 (0, 0)) ∧ p.n ≤ p.c ∧ p.c ≤ maxLen ∧ ∀ k, k < p.n → cur[k]? = some (.int .u8 ((p.V k : Nat) : Int)) ∧ p.V k < 256
theorem OwnPart.below {w w' : World} {B : Nat} {p : Part} (h : OwnPart w B p) (hb : Below w.heap.size w w') : OwnPart w' B p := by
  rcases h with h | ⟨g, cur, h1, h2, h3, h4⟩
  · exact .inl h
  · have hg : g < w.heap.size := (Array.getElem?_eq_some_iff.1 h3).1
    exact .inr ⟨g, cur, h1, h2, (hb.block g hg).trans h3, h4⟩
/-- a row of slices has turned: blocks of bytes are as they were. -/
theorem OwnPart.grown {w w' : World} {B B' n : Nat} {v : Value} {cs : List Value} {p : Part} (h : OwnPart w B p) (hv : w.ownsRow B' 34 1 v n cs) (hg : w.grownBy w' v.ownBlock) : OwnPart w' B p := by
  rcases h with h | ⟨g, cur, h1, h2, h3, h4⟩
  · exact .inl h
  · have hlt : g < w.heap.size := (Array.getElem?_eq_some_iff.1 h3).1
    refine .inr ⟨g, cur, h1, h2, (hg.block g hlt ?_).trans h3, h4⟩
    intro e
    rcases hv.2 with ⟨rfl, _⟩ | ⟨g', cap, cur', rfl, _, hg', _⟩
    · cases e
    · have e : some g = some g' := e
      injection e with e
      subst e
      rw [h3] at hg'
      simp at hg'
theorem OwnPart.bys {w : World} {B : Nat} {p : Part} (h : OwnPart w B p) : p.n ≤ p.c ∧ p.c ≤ maxLen ∧ (p.A = none → p.n = 0 ∧ p.c = 0) ∧ Bys w w.heap.size p.A p.n p.V := by
  rcases h with ⟨h1, h2, h3⟩ | ⟨g, cur, h1, h2, h3, h4, h5, h6⟩
  · exact ⟨by omega, by omega, fun _ => ⟨h2, h3⟩, fun k hk => by omega⟩
  · refine ⟨h4, h5, fun e => (by rw [h1] at e; cases e), fun k hk => ?_⟩
    obtain ⟨h7, h8⟩ := h6 k hk
    refine ⟨⟨g, 0, none⟩, h1, (Array.getElem?_eq_some_iff.1 h3).1, ?_, h8⟩
    have e : (⟨g, 0, none⟩ : Addr).add k = ⟨g, k, none⟩ := by unfold Addr.add; split <;> simp_all
    rw [e, cell_of_row w g k cur 5 (0, 0) h3]
    exact h7
theorem OwnPart.lower {w : World} {B B' : Nat} {p : Part} (h : OwnPart w B p) (hB : B' ≤ B) : OwnPart w B' p := by
  rcases h with h | ⟨g, cur, h1, h2, h3⟩
  · exact .inl h
  · exact .inr ⟨g, cur, h1, by omega, h3⟩
theorem pcells_snoc (L : List Part) (p : Part) : pcells (L ++ [p]) = pcells L ++ [.slice p.A p.n p.c] := by unfold pcells; simp
/-- what a row of bytes is, cut behind. -/
theorem own_cut {w : World} {B m n : Nat} {v : Value} {V : Nat → Nat} (h : w.ownsRow B 5 1 v m (ycells V m)) (hn : n ≤ m) (hV : ∀ k, k < m → V k < 256) :
    ∃ (A : Option Addr) (c : Nat), v = .slice A m c ∧ m ≤ c ∧ (A = none → m = 0 ∧ c = 0) ∧ OwnPart w B ⟨A, n, c, V⟩ := by
  have hc := h
  rcases h.2 with ⟨rfl, rfl⟩ | ⟨g, cap, cur, rfl, hb, hg, hcap, rest⟩
  · exact ⟨none, 0, rfl, Nat.le_refl _, fun _ => ⟨rfl, rfl⟩, .inl ⟨rfl, by show n = 0; omega, rfl⟩⟩
  · refine ⟨some ⟨g, 0, none⟩, cap, rfl, hcap, fun e => (by cases e), .inr ⟨g, cur, rfl, hb, hg, by show n ≤ cap; omega, rest.1, fun k hk => ⟨?_, hV k (by have : k < n := hk; omega)⟩⟩⟩
    · have hk : k < n := hk
      have h1 := hc.cells rfl k _ (ycells_at V m k (by omega))
      have e : (⟨g, 0, none⟩ : Addr).add k = ⟨g, k, none⟩ := by unfold Addr.add; split <;> simp_all
      rw [e, cell_of_row w g k cur 5 (0, 0) hg] at h1
      exact h1

/-- a row of slices of the call's own, as sections. -/
theorem row_secs {w : World} {B B' i : Nat} {o : Value} {L : List Part} (h : w.ownsRow B 34 1 o i (pcells L)) (hl : L.length = i) (hp : ∀ (q : Nat) (p : Part), L[q]? = some p → OwnPart w B' p) : ∃ (P : Option Addr) (c : Nat), o = .slice P L.length c ∧ Secs w w.heap.size P L := by
  subst hl
  rcases Joins.ownsRow_forms h with ⟨rfl, h0⟩ | ⟨g, cap, rfl⟩
  · refine ⟨none, 0, by rw [h0], fun j p hj => ?_⟩
    have := (List.getElem?_eq_some_iff.1 hj).1
    omega
  · refine ⟨some ⟨g, 0, none⟩, cap, rfl, fun j p hj => ?_⟩
    obtain ⟨h1, h2, h3, h4⟩ := (hp j p hj).bys
    exact ⟨⟨g, 0, none⟩, rfl, (h.lt g rfl).2, h.cells rfl j _ (pcells_at hj), h1, h2, h3, h4⟩
end Go.Proofs.Ytfhflmojcfnhnaa
