/- Rows of ints of the call's own. Stores into rows of the call's own; rows of ints made whole. -/
import Derived.Test.YthbnojhcmfhnhaaBytesOwn
import Derived.Test.YthbnojhcmfhnhaaInts
import Derived.Laws.OwnMore
import Derived.Laws.MakeOwn
namespace Go.Proofs.Ythbnojhcmfhnhaa
open Go.RowKit

theorem info_i64 : (Try.prog.info? 3).map (fun i => (i.zero, i.size, i.bytes)) = some (some (.int .i64 0), 1, 8) := by kernel_rfl
/-- ints as cells. -/
def icells (V : Nat → Int) (n : Nat) : List Value := (List.range n).map fun t => Value.int .i64 (V t)
theorem icells_length (V : Nat → Int) (n : Nat) : (icells V n).length = n := by unfold icells; simp
theorem icells_snoc (V : Nat → Int) (n : Nat) : icells V (n + 1) = icells V n ++ [.int .i64 (V n)] := by
  unfold icells
  rw [List.range_succ]
  simp
theorem icells_at (V : Nat → Int) (n k : Nat) (h : k < n) : (icells V n)[k]? = some (.int .i64 (V k)) := by
  unfold icells
  rw [List.getElem?_map, List.getElem?_range h]
  rfl
theorem icells_one (V : Nat → Int) (n : Nat) : ∀ v ∈ icells V n, v.oneCell' = true := by
  intro v hv
  unfold icells at hv
  obtain ⟨x, _, rfl⟩ := List.mem_map.1 hv
  rfl

theorem Its.of_own {w : World} {B n : Nat} {v : Value} {V : Nat → Int} (h : w.ownsRow B 3 1 v n (icells V n)) (hV : ∀ i, i < n → -9223372036854775808 ≤ V i ∧ V i ≤ 9223372036854775807) : ∃ A c, v = .slice A n c ∧ Its w w.heap.size A n V := by
  have hlt := h.lt
  rcases h.2 with ⟨rfl, rfl⟩ | ⟨g, cap, cur, rfl, hg, hh, _⟩
  · exact ⟨none, 0, rfl, fun k hk => absurd hk (by omega)⟩
  · refine ⟨some ⟨g, 0, none⟩, cap, rfl, fun k hk => ⟨⟨g, 0, none⟩, rfl, (hlt g rfl).2, ?_, hV k hk⟩⟩
    have e : (⟨g, 0, none⟩ : Addr).add k = ⟨g, k, none⟩ := by unfold Addr.add; split <;> simp_all
    rw [e, h.cellAt k (by omega), icells_at _ _ k hk]

/-- append of one int to a row of the call's own, as a step of the walk. -/
theorem step_append_int {ops : Array Oper} {rest : List Oper} {o : Oper} {a : Act} {Q : Exit → Act → World → Prop} (hgd : o.guard = none) (s x : Operand)
    (ho : o.op = .call { callee := .builtin .append, args := #[s, x], argTypes := #[22, 22] })
    {w : World} {B : Nat} {v : Value} {i : Nat} {xs : List Value} (hs : a.eval s = v) (hown : w.ownsRow B 3 1 v i xs) (y : Int) (hx : a.eval x = .slice (some ⟨w.heap.size, 0, none⟩) 1 1) (hB : B ≤ w.heap.size) (hi : i ≤ 4194304)
    (h : ∀ v' w', Hid (w'.ownsRow B 3 1 v' (i + 1) (xs ++ [.int .i64 y])) → Below B w w' → wpList Try.prog ops Q rest (a.put o.dst v') w') :
    wpList Try.prog ops Q (o :: rest) a (w.alloc (.cells #[.int .i64 y] 3)) := by
  obtain ⟨i0, hi0, hz0, hs0, hb0⟩ := info_parts info_i64
  have hl := lies_new w 3 [.int .i64 y]
  refine wpList_append_own _ hgd s x 22 ho B 3 i0 (.int .i64 0) 1 8 Try.underlying22 hi0 hz0 hs0 hb0 rfl (by decide) v i xs hs (hown.alloc _) ⟨w.heap.size, 0, none⟩ 1 1 [.int .i64 y] hx rfl (fun j u hj => by
      cases j with
      | zero => simp at hj; subst hj; exact hl.cell 0
      | succ j => simp at hj) (fun u hu => by simp at hu; subst hu; rfl) (by unfold maxLen; omega) (by omega) (by rw [size_alloc]; omega) (fun v' w' h2 h3 _ => ?_)
  exact h v' w' h2 (((Below.refl _ _).alloc hB _).grown h3 (by rw [size_alloc]; omega) (fun k hk => (hown.lt k hk).1))

/-- append of all ints of a slice to a new, empty one, as a step of the walk. -/
theorem step_append_list {ops : Array Oper} {rest : List Oper} {o : Oper} {a : Act} {Q : Exit → Act → World → Prop} (hgd : o.guard = none) (s x : Operand)
    (ho : o.op = .call { callee := .builtin .append, args := #[s, x], argTypes := #[22, 22] })
    {w : World} {A : Option Addr} {n c : Nat} {V : Nat → Int} (hs : a.eval s = .slice (some ⟨w.heap.size, 0, none⟩) 0 0) (hx : a.eval x = .slice A n c) (hn : n ≤ 4194304)
    (hA : A = none → n = 0 ∧ c = 0) (hW : Its w w.heap.size A n V)
    (h : ∀ g c' w', Hid (w'.ownsRow w.heap.size 3 1 (.slice (some ⟨g, 0, none⟩) n c') n (icells V n)) → Below w.heap.size w w' → wpList Try.prog ops Q rest (a.put o.dst (.slice (some ⟨g, 0, none⟩) n c')) w') :
    wpList Try.prog ops Q (o :: rest) a (w.alloc (.cells #[] 3)) := by
  obtain ⟨i0, hi0, hz0, hs0, hb0⟩ := info_parts info_i64
  have hown : (w.alloc (.cells #[] 3)).ownsRow w.heap.size 3 1 (.slice (some ⟨w.heap.size, 0, none⟩) 0 0) 0 [] := World.ownsRow_lit w #[] 0 (Nat.le_refl _) (Nat.zero_le _) rfl
  rcases A with _ | ad
  · obtain ⟨rfl, rfl⟩ := hA rfl
    refine wpList_append_own_none hgd s x 22 ho w.heap.size 3 i0 1 Try.underlying22 hi0 _ 0 [] hs hown hx ?_
    exact h w.heap.size 0 _ (World.ownsRow_lit w #[] 0 (Nat.le_refl _) (Nat.zero_le _) rfl) ((Below.refl _ _).alloc (Nat.le_refl _) _)
  · refine wpList_append_own _ hgd s x 22 ho w.heap.size 3 i0 (.int .i64 0) 1 8 Try.underlying22 hi0 hz0 hs0 hb0 rfl (by decide) _ 0 [] hs hown ad n c (icells V n) hx
      (by rw [icells_length]; omega) (fun j u hj => ?_) (icells_one _ _) (by unfold maxLen; omega) (by omega) (by rw [size_alloc]; omega) (fun v' w' h2 h3 h4 => ?_)
    · have hjn : j < n := by
        have := (List.getElem?_eq_some_iff.1 hj).1
        rw [icells_length] at this
        exact this
      rw [icells_at _ _ _ hjn] at hj
      obtain ⟨ad', e, hb, hc, _⟩ := hW j hjn
      cases e
      rw [← hj, ← hc]
      exact World.cell?_of_block (Below.heap_alloc w _ _ (by rw [add_block]; exact hb))
    · rw [List.nil_append, Nat.zero_add] at h2
      have hbw : Below w.heap.size w w' := ((Below.refl _ _).alloc (Nat.le_refl _) _).grown h3 (by rw [size_alloc]; omega) (fun k hk => by
        simp [Value.ownBlock] at hk
        omega)
      rcases h2.2 with ⟨rfl, _⟩ | ⟨g, cap, cur, rfl, hg, rest2⟩
      · exact absurd (h4.1 rfl).1 (by simp)
      · exact h g cap w' ⟨h2.1, .inr ⟨g, cap, cur, rfl, hg, rest2⟩⟩ hbw
end Go.Proofs.Ythbnojhcmfhnhaa

namespace Go.Proofs.Ythbnojhcmfhnhaa
open Go.RowKit

theorem icells_congr {U U' : Nat → Int} {n : Nat} (h : ∀ j, j < n → U j = U' j) : icells U n = icells U' n := by
  unfold icells
  refine List.map_congr_left fun j hj => ?_
  rw [h j (List.mem_range.1 hj)]
theorem icells_put (U : Nat → Int) (n j : Nat) (x : Int) : (icells U n).set j (.int .i64 x) = icells (fun i => if i = j then x else U i) n := by
  apply List.ext_getElem?
  intro i
  rw [List.getElem?_set]
  by_cases hi : i < n
  · rw [icells_at _ _ _ hi]
    split
    · rename_i e
      subst e
      rw [if_pos (by rw [icells_length]; exact hi), icells_at _ _ _ hi, if_pos rfl]
    · rename_i e
      rw [icells_at _ _ _ hi, if_neg (fun e' => e e'.symm)]
  · rw [List.getElem?_eq_none (by rw [icells_length]; omega)]
    split
    · rename_i e
      rw [if_neg (by rw [icells_length]; omega), List.getElem?_eq_none (by rw [icells_length]; omega)]
    · rw [List.getElem?_eq_none (by rw [icells_length]; omega)]
theorem owns_put {w : World} {B n c g : Nat} {t : TypeId} {cs : List Value} (h : w.ownsRow B t 1 (.slice (some ⟨g, 0, none⟩) n c) n cs) (j : Nat) (u : Value) : (w.setCell ⟨g, j, none⟩ u).ownsRow B t 1 (.slice (some ⟨g, 0, none⟩) n c) n (cs.set j u) := by
  refine ⟨by rw [List.length_set]; exact h.1, ?_⟩
  rcases h.2 with ⟨e, _⟩ | ⟨g', cap, cur, e, h1, h2, h3, h4, h5, h6⟩
  · cases e
  · cases e
    refine .inr ⟨g, c, cur.setIfInBounds j u, rfl, h1, ?_, h3, h4, by simp [h5], ?_⟩
    · simp [World.setCell, Array.getElem?_modify, h2]
    · rw [← h6, Array.toList_setIfInBounds, List.take_set]
theorem owns_free {w : World} {B n c g : Nat} {t : TypeId} {cs : List Value} (h : w.ownsRow B t 1 (.slice (some ⟨g, 0, none⟩) n c) n cs) (j : Nat) : w.frozen? ⟨g, j, none⟩ = false := by
  rcases h.2 with ⟨e, _⟩ | ⟨g', cap, cur, e, h1, h2, _⟩
  · cases e
  · cases e
    simp [World.frozen?, h2]
theorem owns_far {w : World} {B n : Nat} {t : TypeId} {v : Value} {cs : List Value} (h : w.ownsRow B t 1 v n cs) {a : Addr} (ha : v.ownBlock ≠ some a.block) (u : Value) : (w.setCell a u).ownsRow B t 1 v n cs := by
  refine ⟨h.1, ?_⟩
  rcases h.2 with h0 | ⟨g, cap, cur, e, h1, h2, h3⟩
  · exact .inl h0
  · subst e
    exact .inr ⟨g, cap, cur, rfl, h1, (Below.heap_setCell w a u g (fun e => ha (by rw [← e]; rfl))).trans h2, h3⟩
theorem owns_room {w : World} {B n c : Nat} {t : TypeId} {A : Option Addr} {cs : List Value} (h : w.ownsRow B t 1 (.slice A n c) n cs) : n ≤ c ∧ c ≤ maxLen := by
  rcases h.2 with ⟨e, _⟩ | ⟨g, cap, cur, e, _, _, h1, h2, _⟩
  · cases e
    exact ⟨Nat.le_refl _, Nat.zero_le _⟩
  · cases e
    exact ⟨h1, h2⟩
/-- a row that has one number at least. -/
theorem owns_some {w : World} {B n : Nat} {t : TypeId} {v : Value} {cs : List Value} (h : w.ownsRow B t 1 v n cs) (hn : 0 < n) : ∃ g c, v = .slice (some ⟨g, 0, none⟩) n c ∧ B ≤ g ∧ g < w.heap.size ∧ n ≤ c ∧ c ≤ maxLen := by
  rcases h.2 with ⟨_, h0⟩ | ⟨g, cap, cur, e, h1, h2, h3, h4, _⟩
  · omega
  · exact ⟨g, cap, e, h1, (Array.getElem?_eq_some_iff.1 h2).1, h3, h4⟩
/-- a block that is known whole, as a row of its own. -/
theorem owns_lies {w : World} {B g n : Nat} {t : TypeId} {cs : List Value} (h : Lies w g t cs) (hB : B ≤ g) (hn : cs.length = n) (hm : n ≤ maxLen) : w.ownsRow B t 1 (.slice (some ⟨g, 0, none⟩) n n) n cs :=
  ⟨by omega, .inr ⟨g, n, cs.toArray, rfl, hB, h, Nat.le_refl _, hm, by simp [hn], by simp [← hn]⟩⟩
theorem zero_ints (n : Nat) : madeCells (Value.int .i64 0).cells (n * 1) = (icells (fun _ => 0) n).toArray := by
  apply Array.ext'
  simp [madeCells, icells, Value.cells, Array.toList_range]
  intro i h1
  simp [Nat.mod_one]
/-- make of ints: all 0. -/
theorem make_ints0 (w : World) (n : Nat) (hn : n ≤ 4194304) : (Instr.makeSlice 22 (.int .i64 (n : Int)) (.int .i64 (n : Int))).run Try.prog w = .ok (.slice (some ⟨w.heap.size, 0, none⟩) n n) (w.alloc (.cells (icells (fun _ => 0) n).toArray 3)) := by
  obtain ⟨i0, hi0, hz0, hs0, hb0⟩ := info_parts info_i64
  have h := run_make (P := Try.prog) w 22 3 i0 _ Try.underlying22 hi0 hz0 .i64 .i64 (n : Int) (n : Int) (by omega) (Int.le_refl _) (by rw [hb0]; omega) (by omega)
  rw [hs0, Int.toNat_natCast, zero_ints] at h
  exact h
theorem zero_bytes0 (n : Nat) : madeCells (Value.int .u8 0).cells (n * 1) = (ycells (fun _ => 0) n).toArray := by
  apply Array.ext'
  simp [madeCells, ycells, Value.cells, Array.toList_range]
  intro i h1
  simp [Nat.mod_one]
/-- append of all ints of a slice to a new, empty one, as a step of the walk. -/
theorem step_append_list_far {ops : Array Oper} {rest : List Oper} {o : Oper} {a : Act} {Q : Exit → Act → World → Prop} (hgd : o.guard = none) (s x : Operand)
    (ho : o.op = .call { callee := .builtin .append, args := #[s, x], argTypes := #[22, 22] })
    {w : World} {A : Option Addr} {n c : Nat} {V : Nat → Int} (hs : a.eval s = .slice (some ⟨w.heap.size, 0, none⟩) 0 0) (hx : a.eval x = .slice A n c) (hn : n * 8 ≤ 140737488355328)
    (hA : A = none → n = 0 ∧ c = 0) (hW : Its w w.heap.size A n V)
    (h : ∀ g c' w', Hid (w'.ownsRow w.heap.size 3 1 (.slice (some ⟨g, 0, none⟩) n c') n (icells V n)) → Below w.heap.size w w' → wpList Try.prog ops Q rest (a.put o.dst (.slice (some ⟨g, 0, none⟩) n c')) w') :
    wpList Try.prog ops Q (o :: rest) a (w.alloc (.cells #[] 3)) := by
  obtain ⟨i0, hi0, hz0, hs0, hb0⟩ := info_parts info_i64
  have hown : (w.alloc (.cells #[] 3)).ownsRow w.heap.size 3 1 (.slice (some ⟨w.heap.size, 0, none⟩) 0 0) 0 [] := World.ownsRow_lit w #[] 0 (Nat.le_refl _) (Nat.zero_le _) rfl
  rcases A with _ | ad
  · obtain ⟨rfl, rfl⟩ := hA rfl
    refine wpList_append_own_none hgd s x 22 ho w.heap.size 3 i0 1 Try.underlying22 hi0 _ 0 [] hs hown hx ?_
    exact h w.heap.size 0 _ (World.ownsRow_lit w #[] 0 (Nat.le_refl _) (Nat.zero_le _) rfl) ((Below.refl _ _).alloc (Nat.le_refl _) _)
  · refine wpList_append_own _ hgd s x 22 ho w.heap.size 3 i0 (.int .i64 0) 1 8 Try.underlying22 hi0 hz0 hs0 hb0 rfl (by decide) _ 0 [] hs hown ad n c (icells V n) hx
      (by rw [icells_length]; omega) (fun j u hj => ?_) (icells_one _ _) (by unfold maxLen; omega) (by omega) (by rw [size_alloc]; omega) (fun v' w' h2 h3 h4 => ?_)
    · have hjn : j < n := by
        have := (List.getElem?_eq_some_iff.1 hj).1
        rw [icells_length] at this
        exact this
      rw [icells_at _ _ _ hjn] at hj
      obtain ⟨ad', e, hb, hc, _⟩ := hW j hjn
      cases e
      rw [← hj, ← hc]
      exact World.cell?_of_block (Below.heap_alloc w _ _ (by rw [add_block]; exact hb))
    · rw [List.nil_append, Nat.zero_add] at h2
      have hbw : Below w.heap.size w w' := ((Below.refl _ _).alloc (Nat.le_refl _) _).grown h3 (by rw [size_alloc]; omega) (fun k hk => by
        simp [Value.ownBlock] at hk
        omega)
      rcases h2.2 with ⟨rfl, _⟩ | ⟨g, cap, cur, rfl, hg, rest2⟩
      · exact absurd (h4.1 rfl).1 (by simp)
      · exact h g cap w' ⟨h2.1, .inr ⟨g, cap, cur, rfl, hg, rest2⟩⟩ hbw
/-- a row is a slice. -/
theorem owns_slice {w : World} {B n : Nat} {t : TypeId} {v : Value} {cs : List Value} (h : w.ownsRow B t 1 v n cs) : ∃ (A : Option Addr) (c : Nat), v = .slice A n c := by
  have h1 := h.1
  rcases h.2 with ⟨e, h0⟩ | ⟨g, cap, cur, e, _⟩
  · exact ⟨none, 0, by rw [e]; congr 1; omega⟩
  · exact ⟨_, _, e⟩
end Go.Proofs.Ythbnojhcmfhnhaa
