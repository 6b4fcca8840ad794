/- What the walk of colophonlaw08.TextMakes needs of memory: a list of copies and documents, bytes that may be turned. -/
import Derived.Test.YtpdleigcdmgfmaaTxtPlaces
import Derived.Test.YtpdleigcdmgfmaaImgOpen
import Derived.Test.YtpdleigcdmgfmaaRange
import Derived.RegionTactic
import Derived.Deep.RegionHeld3
namespace Go.Proofs.Ytpdleigcdmgfmaa
open Go.RowKit

/-- append of one slice of bytes to a row of the call's own, of whatever length memory has room for, as a step of the walk. -/
theorem step_append_doc {ops : Array Oper} {rest : List Oper} {o : Oper} {a : Act} {Q : Exit → Act → World → Prop} (hgd : o.guard = none) (s x : Operand)
    (ho : o.op = .call { callee := .builtin .append, args := #[s, x], argTypes := #[22, 22] })
    {w : World} {B : Nat} {v : Value} {i : Nat} {xs : List Value} (hs : a.eval s = v) (hown : w.ownsRow B 44 1 v i xs) (A : Option Addr) (n c : Nat) (hx : a.eval x = .slice (some ⟨w.heap.size, 0, none⟩) 1 1) (hB : B ≤ w.heap.size) (hi : (i + 1) * 24 ≤ 140737488355328)
    (h : ∀ v' w', Hid (w'.ownsRow B 44 1 v' (i + 1) (xs ++ [.slice A n c])) → Hid (w.grownBy w' v.ownBlock) → Below B w w' → wpList Try.prog ops Q rest (a.put o.dst v') w') :
    wpList Try.prog ops Q (o :: rest) a (w.alloc (.cells #[.slice A n c] 44)) := by
  obtain ⟨i0, hi0, hz0, hs0, hb0⟩ := info_parts info_sl
  have hl := lies_new w 44 [.slice A n c]
  refine wpList_append_own _ hgd s x 22 ho B 44 i0 (.slice none 0 0) 1 24 Try.underlying22 hi0 hz0 hs0 hb0 rfl (by decide) v i xs hs (hown.alloc _) ⟨w.heap.size, 0, none⟩ 1 1 [.slice A n c] hx rfl (fun j u hj => by
      cases j with
      | zero => simp at hj; subst hj; exact hl.cell 0
      | succ j => simp at hj) (fun u hu => by simp at hu; subst hu; rfl) (by unfold maxLen; omega) (by omega) (by rw [size_alloc]; omega) (fun v' w' h2 h3 _ => ?_)
  have hb := ((Below.refl _ _).alloc hB (.cells #[.slice A n c] 44)).grown h3 (by rw [size_alloc]; omega) (fun k hk => (hown.lt k hk).1)
  refine h v' w' h2 (Lib.hid ⟨h3.os.trans rfl, h3.tape.trans rfl, h3.output.trans rfl, Nat.le_trans (by rw [size_alloc]; omega) h3.size, fun k hk hne => ?_⟩) hb
  rw [h3.block k (by rw [size_alloc]; omega) hne]
  exact Below.heap_alloc w _ k hk

/-- a part of the list that the law makes: a copy of its own, or a document itself. -/
def AnyPart (w : World) (lo : Nat) (p : Part) : Prop := OwnPart w lo p ∨ (p.n ≤ p.c ∧ p.c ≤ maxLen ∧ (p.A = none → p.n = 0 ∧ p.c = 0) ∧ Bys w lo p.A p.n p.V)
theorem AnyPart.bys {w : World} {lo : Nat} {p : Part} (h : AnyPart w lo p) (hlo : lo ≤ w.heap.size) : p.n ≤ p.c ∧ p.c ≤ maxLen ∧ (p.A = none → p.n = 0 ∧ p.c = 0) ∧ Bys w w.heap.size p.A p.n p.V := by
  rcases h with h | ⟨h1, h2, h3, h4⟩
  · exact h.bys
  · exact ⟨h1, h2, h3, h4.mono_ hlo⟩
theorem AnyPart.below {w w' : World} {lo : Nat} {p : Part} (h : AnyPart w lo p) (hlo : lo ≤ w.heap.size) (hb : Below w.heap.size w w') : AnyPart w' lo p := by
  rcases h with h | ⟨h1, h2, h3, h4⟩
  · exact .inl (h.below hb)
  · exact .inr ⟨h1, h2, h3, h4.below (hb.mono hlo)⟩
theorem AnyPart.grown {w w' : World} {lo n : Nat} {v : Value} {cs : List Value} {p : Part} (h : AnyPart w lo p) (hv : w.ownsRow lo 44 1 v n cs) (hg : w.grownBy w' v.ownBlock) : AnyPart w' lo p := by
  rcases h with h | ⟨h1, h2, h3, h4⟩
  · exact .inl (h.grown hv hg)
  · refine .inr ⟨h1, h2, h3, fun j hj => ?_⟩
    obtain ⟨ad, e1, e2, e3, e4⟩ := h4 j hj
    have hlt := cell_in e3
    rw [add_block] at hlt
    exact ⟨ad, e1, e2, (World.cell?_of_block (hg.block _ (by rw [add_block]; exact hlt) (fun e => by
      have := (hv.lt _ e.symm).1
      rw [add_block] at this
      omega))).trans e3, e4⟩
/-- a row of such parts, as sections. -/
theorem row_any {w : World} {B i : Nat} {o : Value} {L : List Part} (h : w.ownsRow B 44 1 o i (pcells L)) (hl : L.length = i) (hB : B ≤ w.heap.size) (hp : ∀ (q : Nat) (p : Part), L[q]? = some p → AnyPart w B p) :
    ∃ (P : Option Addr) (c : Nat), o = .slice P L.length c ∧ L.length ≤ c ∧ c ≤ maxLen ∧ (P = none → L = [] ∧ c = 0) ∧ Secs w w.heap.size P L ∧ ∀ ad, P = some ad → ∃ g cur, ad = ⟨g, 0, none⟩ ∧ B ≤ g ∧ w.heap[g]? = some (.cells cur 44 (0, 0)) := by
  subst hl
  rcases h.2 with ⟨rfl, h0⟩ | ⟨g, cap, cur, rfl, hb, hg, hc1, hc2, _⟩
  · exact ⟨none, 0, by rw [h0], by omega, Nat.zero_le _, fun _ => ⟨List.length_eq_zero_iff.1 h0, rfl⟩, fun j p hj => by
      have := (List.getElem?_eq_some_iff.1 hj).1
      omega, fun ad e => by cases e⟩
  · refine ⟨some ⟨g, 0, none⟩, cap, rfl, hc1, hc2, fun e => (by cases e), fun j p hj => ?_, fun ad e => ?_⟩
    · obtain ⟨h1, h2, h3, h4⟩ := (hp j p hj).bys hB
      exact ⟨⟨g, 0, none⟩, rfl, (h.lt g rfl).2, h.cells rfl j _ (pcells_at hj), h1, h2, h3, h4⟩
    · cases e
      exact ⟨g, cur, rfl, hb, hg⟩

theorem snoc_at {L : List Part} {i q : Nat} {x p : Part} (hl : L.length = i) (h : (L ++ [x])[q]? = some p) : (q < i ∧ L[q]? = some p) ∨ (q = i ∧ p = x) := by
  by_cases e : q < i
  · rw [List.getElem?_append_left (by omega)] at h
    exact .inl ⟨e, h⟩
  · have hx := (List.getElem?_eq_some_iff.1 h).1
    rw [List.length_append, hl] at hx
    have hq : q = i := by
      have : ([x] : List Part).length = 1 := rfl
      omega
    subst hq
    rw [List.getElem?_append_right (by omega), hl, Nat.sub_self] at h
    cases h
    exact .inr ⟨rfl, rfl⟩

/-- bytes that may be turned: in a block of their own, from lo on and below hi. -/
def ByB (w : World) (lo hi : Nat) (p : Part) : Prop := p.n = 0 ∨ ∃ (g : Nat) (cs : List Value), p.A = some ⟨g, 0, none⟩ ∧ lo ≤ g ∧ g < hi ∧ Lies w g 5 cs ∧ ∀ j, j < p.n → ∃ y : Nat, y < 256 ∧ cs[j]? = some (.int .u8 (y : Int))
theorem OwnPart.byb {w : World} {lo : Nat} {p : Part} (h : OwnPart w lo p) : ByB w lo w.heap.size p := by
  rcases h with ⟨_, h2, _⟩ | ⟨g, cur, h1, h2, h3, _, _, h4⟩
  · exact .inl h2
  · refine .inr ⟨g, cur.toList, h1, h2, (Array.getElem?_eq_some_iff.1 h3).1, ?_, fun j hj => ⟨p.V j, (h4 j hj).2, ?_⟩⟩
    · unfold Lies
      rw [h3]
    · rw [Array.getElem?_toList]
      exact (h4 j hj).1
theorem ByB.keep {w w' : World} {lo hi : Nat} {p : Part} (h : ByB w lo hi p) (hb : Below hi w w') : ByB w' lo hi p := by
  rcases h with h | ⟨g, cs, h1, h2, h3, h4, h5⟩
  · exact .inl h
  · exact .inr ⟨g, cs, h1, h2, h3, h4.below hb h3, h5⟩
theorem ByB.store {w : World} {lo hi : Nat} {p : Part} (h : ByB w lo hi p) (g' k y : Nat) (hy : y < 256) : ByB (w.setCell ⟨g', k, none⟩ (.int .u8 (y : Int))) lo hi p := by
  rcases h with h | ⟨g, cs, h1, h2, h3, h4, h5⟩
  · exact .inl h
  · by_cases e : g = g'
    · subst e
      refine .inr ⟨g, cs.set k (.int .u8 (y : Int)), h1, h2, h3, h4.put k _, fun j hj => ?_⟩
      obtain ⟨z, hz, hc⟩ := h5 j hj
      rw [List.getElem?_set]
      by_cases e : k = j
      · subst e
        rw [if_pos rfl, if_pos (List.getElem?_eq_some_iff.1 hc).1]
        exact ⟨y, hy, rfl⟩
      · rw [if_neg e]
        exact ⟨z, hz, hc⟩
    · exact .inr ⟨g, cs, h1, h2, h3, h4.far e _, h5⟩
theorem bytesT_mem : ∀ {S : List Sec} {x : Sec}, x ∈ S → x.n ≤ bytesT S
  | [], x, h => by cases h
  | y :: S, x, h => by
    have e : bytesT (y :: S) = y.n + bytesT S := by unfold bytesT; simp
    rcases List.mem_cons.1 h with rfl | h
    · omega
    · have := bytesT_mem h
      omega
end Go.Proofs.Ytpdleigcdmgfmaa
