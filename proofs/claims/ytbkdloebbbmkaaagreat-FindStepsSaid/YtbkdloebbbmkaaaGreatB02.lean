/- Rows of ints of the call's own. Stores into rows of the call's own; rows of ints made whole. A register that is shifted bit by bit, and what bits turned do to it: plain arithmetic; no program is named here. Strings out of slices of bytes. The contracts of package crc: a register and bytes; sums; a sum laid behind bytes, and cut off again. The contract of crc.Cut. The document's functions of layer 9: Less, Right. The document's Array of layer 9: by putting each suffix among the others. The document's Turned of layer 9. What a page is, byte for byte; and what tells pages apart. (Plain, over XCrc's words.) What an image is, byte for byte: sections over pages, the head ahead of them; which bytes are an image, told page by page; images are alike just if their sections are. (Plain, over XPageMath.) -/
import Derived.Test.YtbkdloebbbmkaaaGreatB01
import Derived.Laws.OwnMore
import Derived.Laws.MakeOwn
import Derived.Laws.BytesArg
import Derived.RegionTactic
import Derived.Deep.QuietTactic
import Derived.BigQuiet
import Derived.WalkLawsBesides
import Derived.Deep.RegionHeld3
import Derived.Deep.CutBlock
import Derived.Deep.DeepCutAuto
import Derived.Stop.BytesEq
import Derived.Lib.Hide
namespace Go.Proofs.YtbkdloebbbmkaaaGreat
open Go.RowKit

theorem info_i64 : (Tryz.prog.info? 3).map (fun i => (i.zero, i.size, i.bytes)) = some (some (.int .i64 0), 1, 8) := by kernel_rfl
/-- ints as cells. -/
def icells (V : Nat → Int) (n : Nat) : List Value := (List.range n).map fun t => Value.int .i64 (V t)
theorem icells_length (V : Nat → Int) (n : Nat) : (icells V n).length = n := by unfold icells; simp
theorem icells_snoc (V : Nat → Int) (n : Nat) : icells V (n + 1) = icells V n ++ [.int .i64 (V n)] := by
  unfold icells
  rw [List.range_succ]
  simp
theorem icells_at (V : Nat → Int) (n k : Nat) (h : k < n) : (icells V n)[k]? = some (.int .i64 (V k)) := by
  unfold icells
  rw [List.getElem?_map, List.getElem?_range h]
  rfl
theorem icells_one (V : Nat → Int) (n : Nat) : ∀ v ∈ icells V n, v.oneCell' = true := by
  intro v hv
  unfold icells at hv
  obtain ⟨x, _, rfl⟩ := List.mem_map.1 hv
  rfl

theorem Its.of_own {w : World} {B n : Nat} {v : Value} {V : Nat → Int} (h : w.ownsRow B 3 1 v n (icells V n)) (hV : ∀ i, i < n → -9223372036854775808 ≤ V i ∧ V i ≤ 9223372036854775807) : ∃ A c, v = .slice A n c ∧ Its w w.heap.size A n V := by
  have hlt := h.lt
  rcases h.2 with ⟨rfl, rfl⟩ | ⟨g, cap, cur, rfl, hg, hh, _⟩
  · exact ⟨none, 0, rfl, fun k hk => absurd hk (by omega)⟩
  · refine ⟨some ⟨g, 0, none⟩, cap, rfl, fun k hk => ⟨⟨g, 0, none⟩, rfl, (hlt g rfl).2, ?_, hV k hk⟩⟩
    have e : (⟨g, 0, none⟩ : Addr).add k = ⟨g, k, none⟩ := by unfold Addr.add; split <;> simp_all
    rw [e, h.cellAt k (by omega), icells_at _ _ k hk]

/-- append of one int to a row of the call's own, as a step of the walk. -/
theorem step_append_int {ops : Array Oper} {rest : List Oper} {o : Oper} {a : Act} {Q : Exit → Act → World → Prop} (hgd : o.guard = none) (s x : Operand)
    (ho : o.op = .call { callee := .builtin .append, args := #[s, x], argTypes := #[22, 22] })
    {w : World} {B : Nat} {v : Value} {i : Nat} {xs : List Value} (hs : a.eval s = v) (hown : w.ownsRow B 3 1 v i xs) (y : Int) (hx : a.eval x = .slice (some ⟨w.heap.size, 0, none⟩) 1 1) (hB : B ≤ w.heap.size) (hi : i ≤ 4194304)
    (h : ∀ v' w', Hid (w'.ownsRow B 3 1 v' (i + 1) (xs ++ [.int .i64 y])) → Below B w w' → wpList Tryz.prog ops Q rest (a.put o.dst v') w') :
    wpList Tryz.prog ops Q (o :: rest) a (w.alloc (.cells #[.int .i64 y] 3)) := by
  obtain ⟨i0, hi0, hz0, hs0, hb0⟩ := info_parts info_i64
  have hl := lies_new w 3 [.int .i64 y]
  refine wpList_append_own _ hgd s x 22 ho B 3 i0 (.int .i64 0) 1 8 Tryz.underlying22 hi0 hz0 hs0 hb0 rfl (by decide) v i xs hs (hown.alloc _) ⟨w.heap.size, 0, none⟩ 1 1 [.int .i64 y] hx rfl (fun j u hj => by
      cases j with
      | zero => simp at hj; subst hj; exact hl.cell 0
      | succ j => simp at hj) (fun u hu => by simp at hu; subst hu; rfl) (by unfold maxLen; omega) (by omega) (by rw [size_alloc]; omega) (fun v' w' h2 h3 _ => ?_)
  exact h v' w' h2 (((Below.refl _ _).alloc hB _).grown h3 (by rw [size_alloc]; omega) (fun k hk => (hown.lt k hk).1))

/-- append of all ints of a slice to a new, empty one, as a step of the walk. -/
theorem step_append_list {ops : Array Oper} {rest : List Oper} {o : Oper} {a : Act} {Q : Exit → Act → World → Prop} (hgd : o.guard = none) (s x : Operand)
    (ho : o.op = .call { callee := .builtin .append, args := #[s, x], argTypes := #[22, 22] })
    {w : World} {A : Option Addr} {n c : Nat} {V : Nat → Int} (hs : a.eval s = .slice (some ⟨w.heap.size, 0, none⟩) 0 0) (hx : a.eval x = .slice A n c) (hn : n ≤ 4194304)
    (hA : A = none → n = 0 ∧ c = 0) (hW : Its w w.heap.size A n V)
    (h : ∀ g c' w', Hid (w'.ownsRow w.heap.size 3 1 (.slice (some ⟨g, 0, none⟩) n c') n (icells V n)) → Below w.heap.size w w' → wpList Tryz.prog ops Q rest (a.put o.dst (.slice (some ⟨g, 0, none⟩) n c')) w') :
    wpList Tryz.prog ops Q (o :: rest) a (w.alloc (.cells #[] 3)) := by
  obtain ⟨i0, hi0, hz0, hs0, hb0⟩ := info_parts info_i64
  have hown : (w.alloc (.cells #[] 3)).ownsRow w.heap.size 3 1 (.slice (some ⟨w.heap.size, 0, none⟩) 0 0) 0 [] := World.ownsRow_lit w #[] 0 (Nat.le_refl _) (Nat.zero_le _) rfl
  rcases A with _ | ad
  · obtain ⟨rfl, rfl⟩ := hA rfl
    refine wpList_append_own_none hgd s x 22 ho w.heap.size 3 i0 1 Tryz.underlying22 hi0 _ 0 [] hs hown hx ?_
    exact h w.heap.size 0 _ (World.ownsRow_lit w #[] 0 (Nat.le_refl _) (Nat.zero_le _) rfl) ((Below.refl _ _).alloc (Nat.le_refl _) _)
  · refine wpList_append_own _ hgd s x 22 ho w.heap.size 3 i0 (.int .i64 0) 1 8 Tryz.underlying22 hi0 hz0 hs0 hb0 rfl (by decide) _ 0 [] hs hown ad n c (icells V n) hx
      (by rw [icells_length]; omega) (fun j u hj => ?_) (icells_one _ _) (by unfold maxLen; omega) (by omega) (by rw [size_alloc]; omega) (fun v' w' h2 h3 h4 => ?_)
    · have hjn : j < n := by
        have := (List.getElem?_eq_some_iff.1 hj).1
        rw [icells_length] at this
        exact this
      rw [icells_at _ _ _ hjn] at hj
      obtain ⟨ad', e, hb, hc, _⟩ := hW j hjn
      cases e
      rw [← hj, ← hc]
      exact World.cell?_of_block (Below.heap_alloc w _ _ (by rw [add_block]; exact hb))
    · rw [List.nil_append, Nat.zero_add] at h2
      have hbw : Below w.heap.size w w' := ((Below.refl _ _).alloc (Nat.le_refl _) _).grown h3 (by rw [size_alloc]; omega) (fun k hk => by
        simp [Value.ownBlock] at hk
        omega)
      rcases h2.2 with ⟨rfl, _⟩ | ⟨g, cap, cur, rfl, hg, rest2⟩
      · exact absurd (h4.1 rfl).1 (by simp)
      · exact h g cap w' ⟨h2.1, .inr ⟨g, cap, cur, rfl, hg, rest2⟩⟩ hbw
end Go.Proofs.YtbkdloebbbmkaaaGreat

namespace Go.Proofs.YtbkdloebbbmkaaaGreat
open Go.RowKit

theorem icells_congr {U U' : Nat → Int} {n : Nat} (h : ∀ j, j < n → U j = U' j) : icells U n = icells U' n := by
  unfold icells
  refine List.map_congr_left fun j hj => ?_
  rw [h j (List.mem_range.1 hj)]
theorem icells_put (U : Nat → Int) (n j : Nat) (x : Int) : (icells U n).set j (.int .i64 x) = icells (fun i => if i = j then x else U i) n := by
  apply List.ext_getElem?
  intro i
  rw [List.getElem?_set]
  by_cases hi : i < n
  · rw [icells_at _ _ _ hi]
    split
    · rename_i e
      subst e
      rw [if_pos (by rw [icells_length]; exact hi), icells_at _ _ _ hi, if_pos rfl]
    · rename_i e
      rw [icells_at _ _ _ hi, if_neg (fun e' => e e'.symm)]
  · rw [List.getElem?_eq_none (by rw [icells_length]; omega)]
    split
    · rename_i e
      rw [if_neg (by rw [icells_length]; omega), List.getElem?_eq_none (by rw [icells_length]; omega)]
    · rw [List.getElem?_eq_none (by rw [icells_length]; omega)]
theorem owns_put {w : World} {B n c g : Nat} {t : TypeId} {cs : List Value} (h : w.ownsRow B t 1 (.slice (some ⟨g, 0, none⟩) n c) n cs) (j : Nat) (u : Value) : (w.setCell ⟨g, j, none⟩ u).ownsRow B t 1 (.slice (some ⟨g, 0, none⟩) n c) n (cs.set j u) := by
  refine ⟨by rw [List.length_set]; exact h.1, ?_⟩
  rcases h.2 with ⟨e, _⟩ | ⟨g', cap, cur, e, h1, h2, h3, h4, h5, h6⟩
  · cases e
  · cases e
    refine .inr ⟨g, c, cur.setIfInBounds j u, rfl, h1, ?_, h3, h4, by simp [h5], ?_⟩
    · simp [World.setCell, Array.getElem?_modify, h2]
    · rw [← h6, Array.toList_setIfInBounds, List.take_set]
theorem owns_free {w : World} {B n c g : Nat} {t : TypeId} {cs : List Value} (h : w.ownsRow B t 1 (.slice (some ⟨g, 0, none⟩) n c) n cs) (j : Nat) : w.frozen? ⟨g, j, none⟩ = false := by
  rcases h.2 with ⟨e, _⟩ | ⟨g', cap, cur, e, h1, h2, _⟩
  · cases e
  · cases e
    simp [World.frozen?, h2]
theorem owns_far {w : World} {B n : Nat} {t : TypeId} {v : Value} {cs : List Value} (h : w.ownsRow B t 1 v n cs) {a : Addr} (ha : v.ownBlock ≠ some a.block) (u : Value) : (w.setCell a u).ownsRow B t 1 v n cs := by
  refine ⟨h.1, ?_⟩
  rcases h.2 with h0 | ⟨g, cap, cur, e, h1, h2, h3⟩
  · exact .inl h0
  · subst e
    exact .inr ⟨g, cap, cur, rfl, h1, (Below.heap_setCell w a u g (fun e => ha (by rw [← e]; rfl))).trans h2, h3⟩
theorem owns_room {w : World} {B n c : Nat} {t : TypeId} {A : Option Addr} {cs : List Value} (h : w.ownsRow B t 1 (.slice A n c) n cs) : n ≤ c ∧ c ≤ maxLen := by
  rcases h.2 with ⟨e, _⟩ | ⟨g, cap, cur, e, _, _, h1, h2, _⟩
  · cases e
    exact ⟨Nat.le_refl _, Nat.zero_le _⟩
  · cases e
    exact ⟨h1, h2⟩
/-- a row that has one number at least. -/
theorem owns_some {w : World} {B n : Nat} {t : TypeId} {v : Value} {cs : List Value} (h : w.ownsRow B t 1 v n cs) (hn : 0 < n) : ∃ g c, v = .slice (some ⟨g, 0, none⟩) n c ∧ B ≤ g ∧ g < w.heap.size ∧ n ≤ c ∧ c ≤ maxLen := by
  rcases h.2 with ⟨_, h0⟩ | ⟨g, cap, cur, e, h1, h2, h3, h4, _⟩
  · omega
  · exact ⟨g, cap, e, h1, (Array.getElem?_eq_some_iff.1 h2).1, h3, h4⟩
/-- a block that is known whole, as a row of its own. -/
theorem owns_lies {w : World} {B g n : Nat} {t : TypeId} {cs : List Value} (h : Lies w g t cs) (hB : B ≤ g) (hn : cs.length = n) (hm : n ≤ maxLen) : w.ownsRow B t 1 (.slice (some ⟨g, 0, none⟩) n n) n cs :=
  ⟨by omega, .inr ⟨g, n, cs.toArray, rfl, hB, h, Nat.le_refl _, hm, by simp [hn], by simp [← hn]⟩⟩
theorem zero_ints (n : Nat) : madeCells (Value.int .i64 0).cells (n * 1) = (icells (fun _ => 0) n).toArray := by
  apply Array.ext'
  simp [madeCells, icells, Value.cells, Array.toList_range]
  intro i h1
  simp [Nat.mod_one]
/-- make of ints: all 0. -/
theorem make_ints0 (w : World) (n : Nat) (hn : n ≤ 4194304) : (Instr.makeSlice 22 (.int .i64 (n : Int)) (.int .i64 (n : Int))).run Tryz.prog w = .ok (.slice (some ⟨w.heap.size, 0, none⟩) n n) (w.alloc (.cells (icells (fun _ => 0) n).toArray 3)) := by
  obtain ⟨i0, hi0, hz0, hs0, hb0⟩ := info_parts info_i64
  have h := run_make (P := Tryz.prog) w 22 3 i0 _ Tryz.underlying22 hi0 hz0 .i64 .i64 (n : Int) (n : Int) (by omega) (Int.le_refl _) (by rw [hb0]; omega) (by omega)
  rw [hs0, Int.toNat_natCast, zero_ints] at h
  exact h
theorem zero_bytes0 (n : Nat) : madeCells (Value.int .u8 0).cells (n * 1) = (ycells (fun _ => 0) n).toArray := by
  apply Array.ext'
  simp [madeCells, ycells, Value.cells, Array.toList_range]
  intro i h1
  simp [Nat.mod_one]
/-- make of bytes: all 0. -/
theorem make_bytes0 (w : World) (n : Nat) (hn : n ≤ 4194304) : (Instr.makeSlice 35 (.int .i64 (n : Int)) (.int .i64 (n : Int))).run Tryz.prog w = .ok (.slice (some ⟨w.heap.size, 0, none⟩) n n) (w.alloc (.cells (ycells (fun _ => 0) n).toArray 5)) := by
  obtain ⟨i0, hi0, hz0, hs0, hb0⟩ := info_parts info_u8
  have h := run_make (P := Tryz.prog) w 35 5 i0 _ Tryz.underlying35 hi0 hz0 .i64 .i64 (n : Int) (n : Int) (by omega) (Int.le_refl _) (by rw [hb0]; omega) (by omega)
  rw [hs0, Int.toNat_natCast, zero_bytes0] at h
  exact h
/-- append of all ints of a slice to a new, empty one, as a step of the walk. -/
theorem step_append_list_far {ops : Array Oper} {rest : List Oper} {o : Oper} {a : Act} {Q : Exit → Act → World → Prop} (hgd : o.guard = none) (s x : Operand)
    (ho : o.op = .call { callee := .builtin .append, args := #[s, x], argTypes := #[22, 22] })
    {w : World} {A : Option Addr} {n c : Nat} {V : Nat → Int} (hs : a.eval s = .slice (some ⟨w.heap.size, 0, none⟩) 0 0) (hx : a.eval x = .slice A n c) (hn : n * 8 ≤ 140737488355328)
    (hA : A = none → n = 0 ∧ c = 0) (hW : Its w w.heap.size A n V)
    (h : ∀ g c' w', Hid (w'.ownsRow w.heap.size 3 1 (.slice (some ⟨g, 0, none⟩) n c') n (icells V n)) → Below w.heap.size w w' → wpList Tryz.prog ops Q rest (a.put o.dst (.slice (some ⟨g, 0, none⟩) n c')) w') :
    wpList Tryz.prog ops Q (o :: rest) a (w.alloc (.cells #[] 3)) := by
  obtain ⟨i0, hi0, hz0, hs0, hb0⟩ := info_parts info_i64
  have hown : (w.alloc (.cells #[] 3)).ownsRow w.heap.size 3 1 (.slice (some ⟨w.heap.size, 0, none⟩) 0 0) 0 [] := World.ownsRow_lit w #[] 0 (Nat.le_refl _) (Nat.zero_le _) rfl
  rcases A with _ | ad
  · obtain ⟨rfl, rfl⟩ := hA rfl
    refine wpList_append_own_none hgd s x 22 ho w.heap.size 3 i0 1 Tryz.underlying22 hi0 _ 0 [] hs hown hx ?_
    exact h w.heap.size 0 _ (World.ownsRow_lit w #[] 0 (Nat.le_refl _) (Nat.zero_le _) rfl) ((Below.refl _ _).alloc (Nat.le_refl _) _)
  · refine wpList_append_own _ hgd s x 22 ho w.heap.size 3 i0 (.int .i64 0) 1 8 Tryz.underlying22 hi0 hz0 hs0 hb0 rfl (by decide) _ 0 [] hs hown ad n c (icells V n) hx
      (by rw [icells_length]; omega) (fun j u hj => ?_) (icells_one _ _) (by unfold maxLen; omega) (by omega) (by rw [size_alloc]; omega) (fun v' w' h2 h3 h4 => ?_)
    · have hjn : j < n := by
        have := (List.getElem?_eq_some_iff.1 hj).1
        rw [icells_length] at this
        exact this
      rw [icells_at _ _ _ hjn] at hj
      obtain ⟨ad', e, hb, hc, _⟩ := hW j hjn
      cases e
      rw [← hj, ← hc]
      exact World.cell?_of_block (Below.heap_alloc w _ _ (by rw [add_block]; exact hb))
    · rw [List.nil_append, Nat.zero_add] at h2
      have hbw : Below w.heap.size w w' := ((Below.refl _ _).alloc (Nat.le_refl _) _).grown h3 (by rw [size_alloc]; omega) (fun k hk => by
        simp [Value.ownBlock] at hk
        omega)
      rcases h2.2 with ⟨rfl, _⟩ | ⟨g, cap, cur, rfl, hg, rest2⟩
      · exact absurd (h4.1 rfl).1 (by simp)
      · exact h g cap w' ⟨h2.1, .inr ⟨g, cap, cur, rfl, hg, rest2⟩⟩ hbw
/-- a row is a slice. -/
theorem owns_slice {w : World} {B n : Nat} {t : TypeId} {v : Value} {cs : List Value} (h : w.ownsRow B t 1 v n cs) : ∃ (A : Option Addr) (c : Nat), v = .slice A n c := by
  have h1 := h.1
  rcases h.2 with ⟨e, h0⟩ | ⟨g, cap, cur, e, _⟩
  · exact ⟨none, 0, by rw [e]; congr 1; omega⟩
  · exact ⟨_, _, e⟩
end Go.Proofs.YtbkdloebbbmkaaaGreat

namespace Go.Proofs.YtbkdloebbbmkaaaGreat.Pl

/-- what is added where a 1 falls out. -/
def poly : Nat := 3988292384
/-- all 32 bits. -/
def allOnes : Nat := 4294967295
/-- the register shifted down by a bit, one bit of the text being added to what falls out. -/
def step (r : Nat) (b : Bool) : Nat := (r / 2) ^^^ (if (r.testBit 0 ^^ b) = true then poly else 0)
/-- n bits of a text, from the register r on. -/
def run (f : Nat → Bool) (r : Nat) : Nat → Nat
  | 0 => r
  | n + 1 => step (run f r n) (f n)
/-- no bit. -/
def noBit : Nat → Bool := fun _ => false

theorem xor_half (r s : Nat) : (r ^^^ s) / 2 = (r / 2) ^^^ (s / 2) := by
  have h := Nat.shiftRight_xor_distrib (i := 1) (a := r) (b := s)
  simpa [Nat.shiftRight_eq_div_pow] using h
theorem xor_four (a b c d : Nat) : (a ^^^ b) ^^^ (c ^^^ d) = (a ^^^ c) ^^^ (b ^^^ d) := by
  rw [Nat.xor_assoc, Nat.xor_assoc, ← Nat.xor_assoc b c d, Nat.xor_comm b c, Nat.xor_assoc c b d]
theorem xor_zero_eq {a b : Nat} (h : a ^^^ b = 0) : a = b := by
  have h2 : (a ^^^ b) ^^^ b = 0 ^^^ b := by rw [h]
  rw [Nat.xor_assoc, Nat.xor_self, Nat.xor_zero, Nat.zero_xor] at h2
  exact h2
theorem step_xor (r s : Nat) (b c : Bool) : step (r ^^^ s) (b ^^ c) = step r b ^^^ step s c := by
  unfold step
  rw [xor_half, Nat.testBit_xor, xor_four]
  congr 1
  cases r.testBit 0 <;> cases s.testBit 0 <;> cases b <;> cases c <;> simp
theorem run_xor (f g : Nat → Bool) (r s : Nat) : ∀ n, run (fun i => f i ^^ g i) (r ^^^ s) n = run f r n ^^^ run g s n
  | 0 => rfl
  | n + 1 => by
    show step (run (fun i => f i ^^ g i) (r ^^^ s) n) (f n ^^ g n) = _
    rw [run_xor f g r s n, step_xor]
    rfl
theorem run_congr {f g : Nat → Bool} {r : Nat} : ∀ {n : Nat}, (∀ i, i < n → f i = g i) → run f r n = run g r n
  | 0, _ => rfl
  | n + 1, h => by
    show step (run f r n) (f n) = step (run g r n) (g n)
    rw [run_congr fun i hi => h i (by omega), h n (by omega)]
theorem run_add (f : Nat → Bool) (r n : Nat) : ∀ m, run f r (n + m) = run (fun i => f (n + i)) (run f r n) m
  | 0 => rfl
  | m + 1 => by
    show step (run f r (n + m)) (f (n + m)) = _
    rw [run_add f r n m]
    rfl
theorem step_lt {r : Nat} (h : r < 2 ^ 32) (b : Bool) : step r b < 2 ^ 32 := by
  unfold step
  refine Nat.xor_lt_two_pow (by omega) ?_
  split
  · decide
  · decide
theorem run_lt {f : Nat → Bool} {r : Nat} (h : r < 2 ^ 32) : ∀ n, run f r n < 2 ^ 32
  | 0 => h
  | n + 1 => step_lt (run_lt h n) (f n)
theorem step_zero {r : Nat} (h : r < 2 ^ 32) (e : step r false = 0) : r = 0 := by
  unfold step at e
  rw [Bool.xor_false] at e
  by_cases hb : r.testBit 0 = true
  · rw [if_pos hb] at e
    have e2 : r / 2 = poly := xor_zero_eq e
    unfold poly at e2
    omega
  · rw [if_neg hb, Nat.xor_zero] at e
    rw [Nat.testBit_zero] at hb
    simp at hb
    omega
theorem run_none_ne {r : Nat} (h : r < 2 ^ 32) (h0 : r ≠ 0) : ∀ n, run noBit r n ≠ 0
  | 0 => h0
  | n + 1 => fun e => run_none_ne h h0 n (step_zero (run_lt h n) e)
theorem run_none_zero : ∀ n, run noBit 0 n = 0
  | 0 => rfl
  | n + 1 => by
    show step (run noBit 0 n) false = 0
    rw [run_none_zero n]
    rfl
/-- a register's own bits empty it. -/
theorem run_self (t : Nat) : ∀ n, run t.testBit t n = t / 2 ^ n
  | 0 => by show t = t / 2 ^ 0; simp
  | n + 1 => by
    show step (run t.testBit t n) (t.testBit n) = _
    rw [run_self t n]
    unfold step
    have e : (t / 2 ^ n).testBit 0 = t.testBit n := by
      rw [← Nat.shiftRight_eq_div_pow, Nat.testBit_shiftRight, Nat.add_zero]
    rw [e, Bool.xor_self, if_neg (by simp), Nat.xor_zero, Nat.div_div_eq_div_mul, Nat.pow_succ]
/-- bits fed one by one are bits added at once. -/
theorem run_feed (r t n : Nat) : run noBit (r ^^^ t) n = run t.testBit r n ^^^ (t / 2 ^ n) := by
  have h := run_xor t.testBit t.testBit r t n
  rw [run_self] at h
  rw [← h]
  exact run_congr fun i _ => by unfold noBit; simp
theorem run_feed_all {r t n : Nat} (h : t < 2 ^ n) : run t.testBit r n = run noBit (r ^^^ t) n := by
  rw [run_feed, Nat.div_eq_of_lt h, Nat.xor_zero]

/-- a register whose own turned bits were fed. -/
def residue : Nat := run noBit allOnes 32
theorem residue_num : residue = 3736805603 := by decide +kernel
theorem run_residue {r : Nat} (h : r < 2 ^ 32) : run (r ^^^ allOnes).testBit r 32 = residue := by
  have hlt : r ^^^ allOnes < 2 ^ 32 := Nat.xor_lt_two_pow h (by decide)
  rw [run_feed_all hlt, ← Nat.xor_assoc, Nat.xor_self, Nat.zero_xor]
  rfl
/-- only these bits come to that. -/
theorem run_residue_only {r s : Nat} (h : r < 2 ^ 32) (hs : s < 2 ^ 32) (e : run s.testBit r 32 = residue) : s = r ^^^ allOnes := by
  rw [run_feed_all hs] at e
  unfold residue at e
  have h1 := run_xor noBit noBit (r ^^^ s) allOnes 32
  have h2 : run (fun i => noBit i ^^ noBit i) ((r ^^^ s) ^^^ allOnes) 32 = run noBit ((r ^^^ s) ^^^ allOnes) 32 := run_congr fun i _ => by unfold noBit; simp
  rw [h2, e, Nat.xor_self] at h1
  have hlt : (r ^^^ s) ^^^ allOnes < 2 ^ 32 := Nat.xor_lt_two_pow (Nat.xor_lt_two_pow h hs) (by decide)
  have h3 : (r ^^^ s) ^^^ allOnes = 0 := by
    apply Classical.byContradiction
    intro hne
    exact run_none_ne hlt hne 32 h1
  have h4 : r ^^^ s = allOnes := xor_zero_eq h3
  rw [← h4, ← Nat.xor_assoc, Nat.xor_self, Nat.zero_xor]

/-- a row of bits from a place on. -/
def burst (k t : Nat) : Nat → Bool := fun i => decide (k ≤ i) && t.testBit (i - k)
/-- a row of at most 32 bits leaves something in the register. -/
theorem run_burst {k t n : Nat} (ht : t < 2 ^ 32) (h0 : t ≠ 0) (hn : k + 32 ≤ n) : run (burst k t) 0 n ≠ 0 := by
  obtain ⟨c, hc⟩ := Nat.le.dest hn
  rw [← hc, run_add, run_add]
  have e1 : run (burst k t) 0 k = 0 := by
    rw [run_congr (g := noBit) fun i hi => by
      unfold burst noBit
      have : ¬ k ≤ i := by omega
      simp [this]]
    exact run_none_zero k
  have e2 : run (fun i => burst k t (k + i)) 0 32 = run noBit t 32 := by
    rw [run_congr (g := t.testBit) fun i _ => by
      unfold burst
      have h1 : k ≤ k + i := by omega
      have h2 : k + i - k = i := by omega
      simp [h2], run_feed_all ht, Nat.zero_xor]
  rw [e1, e2]
  have e3 : run (fun i => burst k t (k + 32 + i)) (run noBit t 32) c = run noBit (run noBit t 32) c := run_congr fun i _ => by
    unfold burst noBit
    have h2 : k + 32 + i - k = 32 + i := by omega
    rw [h2, Nat.testBit_lt_two_pow (Nat.lt_of_lt_of_le ht (Nat.pow_le_pow_right (by decide) (by omega))), Bool.and_false]
  rw [e3]
  exact run_none_ne (run_lt ht 32) (run_none_ne ht h0 32) c
/-- a text of which such a row is turned leaves another register. -/
theorem run_turned {f : Nat → Bool} {r k t n : Nat} (ht : t < 2 ^ 32) (h0 : t ≠ 0) (hn : k + 32 ≤ n) : run (fun i => f i ^^ burst k t i) r n ≠ run f r n := fun e => by
  have h := run_xor f (burst k t) r 0 n
  rw [Nat.xor_zero, e] at h
  have h2 : run f r n ^^^ run f r n = run f r n ^^^ (run f r n ^^^ run (burst k t) 0 n) := by rw [← h]
  rw [Nat.xor_self, ← Nat.xor_assoc, Nat.xor_self, Nat.zero_xor] at h2
  exact run_burst ht h0 hn h2.symm

/-- bit i of bytes, the lowest of each first. -/
def bitB (V : Nat → Nat) : Nat → Bool := fun i => (V (i / 8)).testBit (i % 8)
/-- the register behind n bytes. -/
def reg (V : Nat → Nat) (n : Nat) : Nat := run (bitB V) allOnes (8 * n)
theorem reg_lt (V : Nat → Nat) (n : Nat) : reg V n < 2 ^ 32 := run_lt (by decide) _
theorem reg_zero (V : Nat → Nat) : reg V 0 = allOnes := rfl
/-- one byte more: it is added to the lowest bits, and the register is shifted eight times. -/
theorem reg_next (V : Nat → Nat) (n : Nat) (h : V n < 256) : reg V (n + 1) = run noBit (reg V n ^^^ V n) 8 := by
  unfold reg
  rw [show 8 * (n + 1) = 8 * n + 8 by omega, run_add, ← run_feed_all (n := 8) h]
  exact run_congr fun i hi => by
    unfold bitB
    have e1 : (8 * n + i) / 8 = n := by omega
    have e2 : (8 * n + i) % 8 = i := by omega
    rw [e1, e2]
/-- one shift, as it is reckoned. -/
theorem shift_one (r : Nat) : step r false = if r % 2 = 1 then (r / 2) ^^^ poly else r / 2 := by
  unfold step
  rw [Bool.xor_false, Nat.testBit_zero]
  by_cases h : r % 2 = 1 <;> simp [h]
/-- eight shifts by a table of the lowest byte's. -/
theorem shift_eight (r : Nat) : run noBit r 8 = run noBit (r % 256) 8 ^^^ (r / 256) := by
  have e : r = (r % 256) ^^^ (r / 256 * 256) := by
    have h1 := Nat.two_pow_add_eq_or_of_lt (i := 8) (b := r % 256) (Nat.mod_lt _ (by decide)) (r / 256)
    apply Nat.eq_of_testBit_eq
    intro j
    have h2 : r = 2 ^ 8 * (r / 256) + r % 256 := by have := Nat.div_add_mod r 256; omega
    rw [Nat.testBit_xor]
    by_cases hj : j < 8
    · have a1 : (r % 256).testBit j = r.testBit j := by
        have : (256 : Nat) = 2 ^ 8 := rfl
        rw [this, Nat.testBit_mod_two_pow]
        simp [hj]
      have a2 : (r / 256 * 256).testBit j = false := by
        have : (256 : Nat) = 2 ^ 8 := rfl
        rw [this, ← Nat.shiftLeft_eq, Nat.testBit_shiftLeft]
        have : ¬ 8 ≤ j := by omega
        simp [this]
      rw [a1, a2, Bool.xor_false]
    · have a1 : (r % 256).testBit j = false := Nat.testBit_lt_two_pow (Nat.lt_of_lt_of_le (Nat.mod_lt _ (by decide)) (Nat.pow_le_pow_right (n := 2) (by decide) (show 8 ≤ j by omega)))
      have a2 : (r / 256 * 256).testBit j = r.testBit j := by
        have h256 : (256 : Nat) = 2 ^ 8 := rfl
        rw [h256, ← Nat.shiftLeft_eq, Nat.testBit_shiftLeft, ← Nat.shiftRight_eq_div_pow, Nat.testBit_shiftRight]
        have h3 : 8 ≤ j := by omega
        have h4 : 8 + (j - 8) = j := by omega
        simp [h3, h4]
      rw [a1, a2, Bool.false_xor]
  have h := run_xor noBit noBit (r % 256) (r / 256 * 256) 8
  have h2 : run (fun i => noBit i ^^ noBit i) ((r % 256) ^^^ (r / 256 * 256)) 8 = run noBit r 8 := by
    rw [← e]
    exact run_congr fun i _ => by unfold noBit; simp
  rw [h2] at h
  rw [h]
  congr 1
  have h5 := run_self (r / 256 * 256) 8
  rw [show r / 256 * 256 / 2 ^ 8 = r / 256 by have : (2 : Nat) ^ 8 = 256 := rfl; omega] at h5
  refine Eq.trans (run_congr fun i hi => ?_) h5
  · unfold noBit
    have h256 : (256 : Nat) = 2 ^ 8 := rfl
    rw [h256, ← Nat.shiftLeft_eq, Nat.testBit_shiftLeft]
    have : ¬ 8 ≤ i := by omega
    simp [this]

/-- eight shifts of the lower half of a byte, and of the upper half. -/
def lows : List Nat := [0, 1996959894, 3993919788, 2567524794, 124634137, 1886057615, 3915621685, 2657392035, 249268274, 2044508324, 3772115230, 2547177864, 162941995, 2125561021, 3887607047, 2428444049]
def ups : List Nat := [0, 498536548, 997073096, 651767980, 1994146192, 1802195444, 1303535960, 1342533948, 3988292384, 4027552580, 3604390888, 3412177804, 2607071920, 2262029012, 2685067896, 3183342108]
def lowT (i : Nat) : Nat := lows.getD i 0
def upT (i : Nat) : Nat := ups.getD i 0
theorem lowT_lt (i : Nat) (h : i < 16) : lowT i < 2 ^ 32 := by
  have all : ∀ j, j < 16 → lowT j < 2 ^ 32 := by decide +kernel
  exact all i h
theorem upT_lt (i : Nat) (h : i < 16) : upT i < 2 ^ 32 := by
  have all : ∀ j, j < 16 → upT j < 2 ^ 32 := by decide +kernel
  exact all i h
theorem halves : ∀ y, y < 256 → run noBit y 8 = lowT (y % 16) ^^^ upT (y / 16) := by decide +kernel
theorem by_halves (x : Nat) : run noBit x 8 = ((x / 256) ^^^ lowT (x % 16)) ^^^ upT (x / 16 % 16) := by
  have h := halves (x % 256) (Nat.mod_lt _ (by decide))
  rw [show x % 256 % 16 = x % 16 by omega, show x % 256 / 16 = x / 16 % 16 by omega] at h
  rw [shift_eight, h, Nat.xor_comm, Nat.xor_assoc]
/-- n bytes more, from a register on. -/
def more (r : Nat) (V : Nat → Nat) (n : Nat) : Nat := run (bitB V) r (8 * n)
theorem more_lt {r : Nat} (h : r < 2 ^ 32) (V : Nat → Nat) (n : Nat) : more r V n < 2 ^ 32 := run_lt h _
theorem more_zero (r : Nat) (V : Nat → Nat) : more r V 0 = r := rfl
theorem more_next (r : Nat) (V : Nat → Nat) (n : Nat) (h : V n < 256) : more r V (n + 1) = run noBit (more r V n ^^^ V n) 8 := by
  unfold more
  rw [show 8 * (n + 1) = 8 * n + 8 by omega, run_add, ← run_feed_all (n := 8) h]
  exact run_congr fun i hi => by
    unfold bitB
    have e1 : (8 * n + i) / 8 = n := by omega
    have e2 : (8 * n + i) % 8 = i := by omega
    rw [e1, e2]
theorem more_congr (r : Nat) {V U : Nat → Nat} {n : Nat} (h : ∀ k, k < n → V k = U k) : more r V n = more r U n :=
  run_congr fun i hi => by unfold bitB; rw [h (i / 8) (by omega)]
theorem more_more (r : Nat) (V : Nat → Nat) (n m : Nat) : more (more r V n) (fun k => V (n + k)) m = more r V (n + m) := by
  unfold more
  rw [Nat.mul_add, run_add]
  exact run_congr fun i _ => by
    unfold bitB
    show (V (n + i / 8)).testBit (i % 8) = (V ((8 * n + i) / 8)).testBit ((8 * n + i) % 8)
    rw [show (8 * n + i) / 8 = n + i / 8 by omega, show (8 * n + i) % 8 = i % 8 by omega]

/-- the sum of n bytes. -/
def sumN (V : Nat → Nat) (n : Nat) : Nat := reg V n ^^^ allOnes
theorem sumN_lt (V : Nat → Nat) (n : Nat) : sumN V n < 2 ^ 32 := Nat.xor_lt_two_pow (reg_lt V n) (by decide)
theorem sumN_sub (V : Nat → Nat) (n : Nat) : allOnes - reg V n = sumN V n := by
  have h := reg_lt V n
  unfold sumN
  generalize reg V n = r at h
  apply Nat.eq_of_testBit_eq
  intro j
  have e : allOnes - r = 2 ^ 32 - (r + 1) := by unfold allOnes; omega
  rw [e, Nat.testBit_two_pow_sub_succ h, Nat.testBit_xor, show allOnes = 2 ^ 32 - 1 from rfl, Nat.testBit_two_pow_sub_one]
  by_cases hj : j < 32
  · simp [hj]
  · have : r.testBit j = false := Nat.testBit_lt_two_pow (Nat.lt_of_lt_of_le h (Nat.pow_le_pow_right (by decide) (by omega)))
    simp [hj, this]
/-- behind the n bytes the last four: their sum's, the lowest first. -/
def Ends (V : Nat → Nat) (n : Nat) : Prop := ∀ i, i < 4 → V (n + i) = sumN V n / 256 ^ i % 256
theorem four_bits {V : Nat → Nat} {n s : Nat} (h : ∀ i, i < 4 → V (n + i) = s / 256 ^ i % 256) {i : Nat} (hi : i < 32) : bitB V (8 * n + i) = s.testBit i := by
  unfold bitB
  have e1 : (8 * n + i) / 8 = n + i / 8 := by omega
  have e2 : (8 * n + i) % 8 = i % 8 := by omega
  rw [e1, e2, h (i / 8) (by omega)]
  have h256 : (256 : Nat) = 2 ^ 8 := rfl
  rw [h256, ← Nat.pow_mul, Nat.testBit_mod_two_pow, ← Nat.shiftRight_eq_div_pow, Nat.testBit_shiftRight]
  have h1 : i % 8 < 8 := Nat.mod_lt _ (by decide)
  have h2 : 8 * (i / 8) + i % 8 = i := Nat.div_add_mod i 8
  simp [h1, h2]
/-- what ends with its sum leaves one register, whatever it is. -/
theorem reg_ends {V : Nat → Nat} {n : Nat} (h : Ends V n) : reg V (n + 4) = residue := by
  unfold reg
  rw [show 8 * (n + 4) = 8 * n + 32 by omega, run_add, ← run_residue (reg_lt V n)]
  exact run_congr fun i hi => four_bits h hi
/-- and what leaves it ends with its sum. -/
theorem ends_reg {V : Nat → Nat} {n : Nat} (hV : ∀ i, V i < 256) (h : reg V (n + 4) = residue) : Ends V n := by
  have hs : ∀ i, i < 4 → V (n + i) = (V n + 256 * V (n + 1) + 65536 * V (n + 2) + 16777216 * V (n + 3)) / 256 ^ i % 256 := fun i hi => by
    have a0 := hV n
    have a1 := hV (n + 1)
    have a2 := hV (n + 2)
    have a3 := hV (n + 3)
    have hi' : i = 0 ∨ i = 1 ∨ i = 2 ∨ i = 3 := by omega
    rcases hi' with rfl | rfl | rfl | rfl
    · simp only [Nat.add_zero, Nat.pow_zero]; omega
    · simp only [Nat.pow_one]; omega
    · rw [show (256 : Nat) ^ 2 = 65536 from rfl]; omega
    · rw [show (256 : Nat) ^ 3 = 16777216 from rfl]; omega
  have hlt : V n + 256 * V (n + 1) + 65536 * V (n + 2) + 16777216 * V (n + 3) < 2 ^ 32 := by
    have a0 := hV n
    have a1 := hV (n + 1)
    have a2 := hV (n + 2)
    have a3 := hV (n + 3)
    omega
  generalize V n + 256 * V (n + 1) + 65536 * V (n + 2) + 16777216 * V (n + 3) = s at hs hlt
  have e : run s.testBit (reg V n) 32 = residue := by
    rw [← h]
    show _ = run (bitB V) allOnes (8 * (n + 4))
    rw [show 8 * (n + 4) = 8 * n + 32 by omega, run_add]
    exact run_congr fun i hi => (four_bits hs hi).symm
  have hsum := run_residue_only (reg_lt V n) hlt e
  intro i hi
  rw [hs i hi, hsum]
  rfl
/-- its sum is one number. -/
theorem sumN_twice {V : Nat → Nat} {n : Nat} (h : Ends V n) : sumN V (n + 4) = 558161692 := by
  unfold sumN
  rw [reg_ends h, residue_num]
  decide
/-- of three texts of one length, added without carry, the sums come to the sum. -/
theorem sumN_three {A B C D : Nat → Nat} {n : Nat} (h : ∀ i, i < n → D i = (A i ^^^ B i) ^^^ C i) : (sumN A n ^^^ sumN B n) ^^^ sumN C n = sumN D n := by
  unfold sumN
  have e1 := run_xor (bitB A) (bitB B) allOnes allOnes (8 * n)
  have e2 := run_xor (fun i => bitB A i ^^ bitB B i) (bitB C) (allOnes ^^^ allOnes) allOnes (8 * n)
  have e3 : reg D n = run (fun i => (bitB A i ^^ bitB B i) ^^ bitB C i) allOnes (8 * n) := run_congr fun i hi => by
    unfold bitB
    rw [h (i / 8) (by omega), Nat.testBit_xor, Nat.testBit_xor]
  rw [Nat.xor_self, Nat.zero_xor] at e2
  rw [Nat.xor_self] at e1
  rw [e3, e2, e1]
  unfold reg
  generalize run (bitB A) allOnes (8 * n) = a
  generalize run (bitB B) allOnes (8 * n) = b
  generalize run (bitB C) allOnes (8 * n) = c
  generalize allOnes = o
  rw [xor_four a o b o, Nat.xor_self, Nat.xor_zero, ← Nat.xor_assoc]
/-- what ends with its sum, a row of at most 32 bits of it turned, doesn't end with its sum. -/
theorem turned_no {V U : Nat → Nat} {n k t : Nat} (h : Ends V n) (ht : t < 2 ^ 32) (h0 : t ≠ 0) (hk : k + 32 ≤ 8 * (n + 4)) (hU : ∀ i, i < 8 * (n + 4) → bitB U i = (bitB V i ^^ burst k t i)) : ¬ Ends U n := fun hu => by
  have e1 := reg_ends h
  have e2 := reg_ends hu
  have e3 : reg U (n + 4) = run (fun i => bitB V i ^^ burst k t i) allOnes (8 * (n + 4)) := run_congr hU
  rw [← e1, e3] at e2
  exact run_turned ht h0 hk e2
end Go.Proofs.YtbkdloebbbmkaaaGreat.Pl

namespace Go.Proofs.YtbkdloebbbmkaaaGreat
open Go.RowKit

/-- n bytes as a string. -/
def bstr (V : Nat → Nat) (n : Nat) : ByteArray := ⟨((List.range n).map fun k => UInt8.ofNat (V k)).toArray⟩
theorem bstr_size (V : Nat → Nat) (n : Nat) : (bstr V n).size = n := by simp [bstr, ByteArray.size]
theorem bstr_congr {V U : Nat → Nat} {n : Nat} (h : ∀ k, k < n → V k = U k) : bstr V n = bstr U n := by
  unfold bstr
  congr 2
  apply List.map_congr_left
  intro k hk
  rw [h k (List.mem_range.1 hk)]
theorem u8_same {x y : Nat} (hx : x < 256) (hy : y < 256) (h : UInt8.ofNat x = UInt8.ofNat y) : x = y := by
  have e := congrArg UInt8.toNat h
  rw [UInt8.toNat_ofNat', UInt8.toNat_ofNat'] at e
  omega
theorem bstr_same {V U : Nat → Nat} {n m : Nat} (hV : ∀ k, k < n → V k < 256) (hU : ∀ k, k < m → U k < 256) (h : bstr V n = bstr U m) : n = m ∧ ∀ k, k < n → V k = U k := by
  have hs := congrArg ByteArray.size h
  rw [bstr_size, bstr_size] at hs
  subst hs
  refine ⟨rfl, fun k hk => ?_⟩
  have hd := congrArg (fun b : ByteArray => b.data.toList[k]?) h
  simp only [bstr, List.getElem?_map, List.getElem?_range hk, Option.map_some, Option.some.injEq] at hd
  exact u8_same (hV k hk) (hU k hk) hd

/-- how the walk holds two strings against each other. -/
theorem str_eq (a b : ByteArray) : (a.toList == b.toList) = decide (a = b) := by
  rw [Bool.eq_iff_iff, beq_iff_eq, decide_eq_true_eq, ByteArray.toList_eq, ByteArray.toList_eq]
  exact ⟨fun h => ByteArray.ext (Array.toList_inj.1 h), fun h => by rw [h]⟩
theorem str_same {a b : ByteArray} (h : a = b) : (a.toList == b.toList) = true := by rw [str_eq]; simpa using h
theorem str_unlike {a b : ByteArray} (h : a ≠ b) : (a.toList == b.toList) = false := by rw [str_eq]; simpa using h

/-- a slice of bytes, as a string. -/
theorem conv_bytes (A : Option Addr) (n c : Nat) (V : Nat → Nat) (w : World) (h : ∀ k, k < n → ∃ ad : Addr, A = some ad ∧ w.cell? (ad.add k) = some (.int .u8 ((V k : Nat) : Int))) :
    (convert 35 9 (.slice A n c)).run Tryz.prog w = .ok (.string (bstr V n)) w := by
  rw [run_convert_bytes_string w 35 9 5 A n c Tryz.underlying35 Tryz.underlying5 Tryz.underlying9]
  rcases A with _ | ad
  · have h0 : n = 0 := by
      apply Classical.byContradiction
      intro hne
      obtain ⟨_, e, _⟩ := h 0 (by omega)
      cases e
    subst h0
    simp [Conv.bytesToString]
    rfl
  · have hl : (loadCells ad n).run Tryz.prog w = .ok ((((List.range n).map fun k => ((V k : Nat) : Int))).map (Value.int .u8)).toArray w := by
      have := run_loadCells_list (P := Tryz.prog) w ad ((((List.range n).map fun k => ((V k : Nat) : Int))).map (Value.int .u8)) (fun j v hj => by
        have hjn : j < n := by
          have := (List.getElem?_eq_some_iff.1 hj).1
          simpa using this
        obtain ⟨ad', e, hc⟩ := h j hjn
        cases e
        rw [hc, ← hj]
        simp [hjn])
      simpa using this
    rw [run_bytesToString w ad n c _ hl, foldl_push_bytes]
    congr 2
    simp [bstr, ByteArray.empty, ByteArray.emptyWithCapacity]
    show List.map _ _ = _
    apply List.map_congr_left
    intro k _
    simp
theorem Bys.conv {w : World} {B : Nat} {A : Option Addr} {n : Nat} {V : Nat → Nat} (h : Bys w B A n V) (c : Nat) : (convert 35 9 (.slice A n c)).run Tryz.prog w = .ok (.string (bstr V n)) w :=
  conv_bytes A n c V w fun k hk => by
    obtain ⟨ad, e, _, hc, _⟩ := h k hk
    exact ⟨ad, e, hc⟩
end Go.Proofs.YtbkdloebbbmkaaaGreat

namespace Go.Proofs.YtbkdloebbbmkaaaGreat
open Go.RowKit

theorem xor_32 {x y : Nat} (hx : x < 2 ^ 32) (hy : y < 2 ^ 32) : bits .xor .u32 (x : Int) (y : Int) = ((x ^^^ y : Nat) : Int) := u32_xor_nat x y (by omega) (by omega)

theorem and_15 (x : Nat) (h : x < 2 ^ 32) : bits .and .u32 (x : Int) 15 = ((x % 16 : Nat) : Int) := by
  have e := u32_and_nat x 15 (by omega) (by omega)
  rw [show x &&& 15 = x % 16 from Nat.and_two_pow_sub_one_eq_mod x 4] at e
  exact e

/-- byte i of a sum, the lowest first. -/
def byteOf (s i : Nat) : Nat := s / 256 ^ i % 256
/-- a sum as it is laid. -/
def quad (s : Nat) : List Value := [.int .u8 ((byteOf s 0 : Nat) : Int), .int .u8 ((byteOf s 1 : Nat) : Int), .int .u8 ((byteOf s 2 : Nat) : Int), .int .u8 ((byteOf s 3 : Nat) : Int)]
/-- the first i of them. -/
def quadTo (s i : Nat) : List Value := (List.range 4).map fun k => if k < i then .int .u8 ((byteOf s k : Nat) : Int) else .int .u8 0

theorem quadTo_all (s : Nat) : quadTo s 4 = quad s := rfl
theorem quadTo_at (s i : Nat) (h : i < 4) : (quadTo s i)[i]? = some (.int .u8 0) := by
  have hi : i = 0 ∨ i = 1 ∨ i = 2 ∨ i = 3 := by omega
  rcases hi with rfl | rfl | rfl | rfl <;> rfl
theorem quadTo_set (s i : Nat) (h : i < 4) : (quadTo s i).set i (.int .u8 ((byteOf s i : Nat) : Int)) = quadTo s (i + 1) := by
  have hi : i = 0 ∨ i = 1 ∨ i = 2 ∨ i = 3 := by omega
  rcases hi with rfl | rfl | rfl | rfl <;> rfl
theorem byteOf_lt (s i : Nat) : byteOf s i < 256 := Nat.mod_lt _ (by decide)
theorem byte_num (s i : Nat) : (s : Int) / 2 ^ (8 * i) % 256 = ((byteOf s i : Nat) : Int) := by
  unfold byteOf
  rw [shr_u, Nat.pow_mul]
  rfl

/-- a part of what is summed: where it lies, its length, its room, its bytes. -/
structure Part where
  A : Option Addr
  n : Nat
  c : Nat
  V : Nat → Nat
/-- parts, as they lie. -/
def Parts (w : World) (B : Nat) (P : Addr) (L : List Part) : Prop :=
  P.block < B ∧ ∀ (j : Nat) (p : Part), L[j]? = some p → w.cell? (P.add j) = some (.slice p.A p.n p.c) ∧ p.n ≤ 4194304 ∧ Bys w B p.A p.n p.V
theorem Parts.below {w w' : World} {B : Nat} {P : Addr} {L : List Part} (h : Parts w B P L) (hb : Below B w w') : Parts w' B P L :=
  ⟨h.1, fun j p hj => by
    obtain ⟨h1, h2, h3⟩ := h.2 j p hj
    exact ⟨(hb.cell (by rw [add_block]; exact h.1)).trans h1, h2, h3.below hb⟩⟩
/-- the register behind parts. -/
def regAll (r : Nat) : List Part → Nat
  | [] => r
  | p :: L => regAll (Pl.more r p.V p.n) L
theorem regAll_lt : ∀ (L : List Part) (r : Nat), r < 2 ^ 32 → regAll r L < 2 ^ 32
  | [], _, h => h
  | _ :: L, _, h => regAll_lt L _ (Pl.more_lt h _ _)
theorem regAll_take (r : Nat) : ∀ (L : List Part) (i : Nat) (p : Part), L[i]? = some p → regAll r (L.take (i + 1)) = Pl.more (regAll r (L.take i)) p.V p.n
  | [], i, p, h => by simp at h
  | q :: L, 0, p, h => by simp at h; subst h; rfl
  | q :: L, i + 1, p, h => regAll_take (Pl.more r q.V q.n) L i p (by simpa using h)

theorem make_room (C : Nat) (hC : C ≤ 16777216) (W : World) :
    (Instr.makeSlice 35 (.int .i64 0) (.int .i64 (C : Int))).run Tryz.prog W = .ok (.slice (some ⟨W.heap.size, 0, none⟩) 0 C) (W.alloc (.cells (madeCells (Value.int .u8 0).cells (C * 1)) 5)) := by
  obtain ⟨i, hi, hz, hs, hb⟩ := info_parts info_u8
  have h := run_make (P := Tryz.prog) W 35 5 i _ Tryz.underlying35 hi hz .i64 .i64 0 (C : Int) (by omega) (by omega) (by rw [hb]; omega) (by omega)
  rw [h, hs]
  simp only [Int.toNat_natCast]
  rfl
theorem room_size (C : Nat) : (madeCells (Value.int .u8 0).cells (C * 1)).size = C * 1 := by simp [madeCells, Value.cells]

/-- bytes and their sum behind them. -/
def behind (V : Nat → Nat) (n : Nat) : Nat → Nat := both V (byteOf (Pl.sumN V n)) n
theorem behind_lt {V : Nat → Nat} {n : Nat} (hV : ∀ k, k < n → V k < 256) (j : Nat) : behind V n j < 256 := by
  unfold behind both
  split
  · exact hV j (by assumption)
  · exact byteOf_lt _ _
theorem quad_cells (s : Nat) : quad s = ycells (byteOf s) 4 := rfl
theorem quad_bys {w : World} {g : Nat} {s : Nat} {t : TypeId} (h : Lies w g t (quad s)) : Bys w w.heap.size (some ⟨g, 0, none⟩) 4 (byteOf s) := fun k hk => by
  refine ⟨⟨g, 0, none⟩, rfl, h.lt, ?_, byteOf_lt _ _⟩
  have e : (⟨g, 0, none⟩ : Addr).add k = ⟨g, k, none⟩ := by unfold Addr.add; split <;> simp_all
  rw [e, h.cell k, quad_cells]
  exact ycells_at _ _ _ hk

theorem ownsRow_keep {w w' : World} {B n : Nat} {t : TypeId} {v : Value} {cs : List Value} (h : w.ownsRow B t 1 v n cs) (hb : Below w.heap.size w w') : w'.ownsRow B t 1 v n cs := by
  refine h.kept (row := none) ⟨hb.os, hb.tape, hb.output, hb.size, fun i hi _ => hb.block i hi⟩ ?_
  by_cases e : v.ownBlock = none
  · exact .inl e
  · exact .inr e

/-- what Put leaves. -/
def PutPost (w : World) (n : Nat) (V : Nat → Nat) (e : Ending) (w' : World) : Prop :=
  ∃ v, e = .returned v ∧ w'.ownsRow w.heap.size 5 1 v (n + 4) (ycells (behind V n) (n + 4)) ∧ Below w.heap.size w w'

/-- what Clone leaves. -/
def ClonePost (w : World) (n : Nat) (V : Nat → Nat) (e : Ending) (w' : World) : Prop :=
  ∃ v, e = .returned v ∧ w'.ownsRow w.heap.size 5 1 v n (ycells V n) ∧ Below w.heap.size w w'
end Go.Proofs.YtbkdloebbbmkaaaGreat

namespace Go.Proofs.YtbkdloebbbmkaaaGreat
open Go.RowKit

theorem below_drew' {B : Nat} {a w : World} (h : Below B a w) : Below B a w.drew := ⟨h.os, h.tape, h.output, h.size, h.block⟩
theorem ownsRow_lower {w : World} {B B' n : Nat} {t : TypeId} {v : Value} {cs : List Value} (h : w.ownsRow B t 1 v n cs) (hB : B' ≤ B) : w.ownsRow B' t 1 v n cs := by
  refine ⟨h.1, ?_⟩
  rcases h.2 with h' | ⟨g, cap, cur, e, hb, rest⟩
  · exact .inl h'
  · exact .inr ⟨g, cap, cur, e, Nat.le_trans hB hb, rest⟩
/-- what Cut leaves: too short, another sum, or the bytes ahead of the sum. -/
def CutPost (w : World) (n : Nat) (V : Nat → Nat) (e : Ending) (w' : World) : Prop :=
  (n < 4 → e = .returned (.tuple #[.slice none 0 0, .int .i64 50])) ∧
  (∀ m, n = m + 4 → ¬ Pl.Ends V m → e = .returned (.tuple #[.slice none 0 0, .int .i64 40])) ∧
  (∀ m, n = m + 4 → Pl.Ends V m → ∃ v, e = .returned (.tuple #[v, .int .i64 0]) ∧ w'.ownsRow w.heap.size 5 1 v m (ycells V m)) ∧ Below w.heap.size w w'

/-- bytes as the model's own. -/
theorem u8_list (a b c d : Nat) (ha : a < 256) (hb : b < 256) (hc : c < 256) (hd : d < 256) :
    (#[.int .u8 (a : Int), .int .u8 (b : Int), .int .u8 (c : Int), .int .u8 (d : Int)] : Array Value) = ([UInt8.ofNat a, UInt8.ofNat b, UInt8.ofNat c, UInt8.ofNat d].map Extern.Stop.cell).toArray := by
  simp [Extern.Stop.cell]
  omega
theorem size_u8 (w : World) : (sizeOf 5).run Tryz.prog w = .ok 1 w := by
  obtain ⟨i, hi, hz, hs, hb⟩ := info_parts info_u8
  simp [sizeOf, typeInfo, hi, hs]
/-- a row of the call's own, as a slice of bytes. -/
theorem row_bys {w : World} {base n : Nat} {v : Value} {V : Nat → Nat} (h : w.ownsRow base 5 1 v n (ycells V n)) (hV : ∀ j, j < n → V j < 256) :
    ∃ (A : Option Addr) (c : Nat), v = .slice A n c ∧ (A = none → n = 0 ∧ c = 0) ∧ n ≤ c ∧ Bys w w.heap.size A n V := by
  have hc := h
  rcases h.2 with ⟨rfl, rfl⟩ | ⟨g, cap, cur, rfl, hb, hg, hcap, rest⟩
  · exact ⟨none, 0, rfl, fun _ => ⟨rfl, rfl⟩, Nat.le_refl _, fun k hk => absurd hk (by omega)⟩
  · refine ⟨some ⟨g, 0, none⟩, cap, rfl, fun e => (by cases e), hcap, fun k hk => ⟨⟨g, 0, none⟩, rfl, (hc.lt g rfl).2, ?_, hV k hk⟩⟩
    exact hc.cells rfl k _ (ycells_at V n k hk)
theorem sumN_congr {V U : Nat → Nat} {n : Nat} (h : ∀ k, k < n → V k = U k) : Pl.sumN V n = Pl.sumN U n := by
  unfold Pl.sumN
  exact congrArg (· ^^^ Pl.allOnes) (Pl.more_congr Pl.allOnes h)
theorem behind_old (V : Nat → Nat) (n k : Nat) (h : k < n) : behind V n k = V k := by unfold behind both; rw [if_pos h]
theorem behind_new (V : Nat → Nat) (n i : Nat) : behind V n (n + i) = byteOf (Pl.sumN V n) i := by
  unfold behind both
  rw [if_neg (by omega), show n + i - n = i by omega]
theorem behind_ends (V : Nat → Nat) (n : Nat) : Pl.Ends (behind V n) n := fun i _ => by
  rw [behind_new, sumN_congr (fun k hk => behind_old V n k hk)]
  rfl
theorem ycells_congr {V U : Nat → Nat} {n : Nat} (h : ∀ k, k < n → V k = U k) : ycells V n = ycells U n := by
  unfold ycells
  apply List.map_congr_left
  intro k hk
  rw [h k (List.mem_range.1 hk)]
/-- a row of the call's own, as a string. -/
theorem row_conv {w : World} {B n : Nat} {v : Value} {V : Nat → Nat} (h : w.ownsRow B 5 1 v n (ycells V n)) (hV : ∀ k, k < n → V k < 256) : (convert 35 9 v).run Tryz.prog w = .ok (.string (bstr V n)) w := by
  obtain ⟨A, c, rfl, _, _, ho⟩ := row_bys h hV
  exact ho.conv c
end Go.Proofs.YtbkdloebbbmkaaaGreat

namespace Go.Proofs.YtbkdloebbbmkaaaGreat
open Go.RowKit

set_option maxRecDepth 100000 in
set_option maxHeartbeats 1600000 in
theorem refLess_any (A : Option Addr) (n c : Nat) (V : Nat → Int) (a b B : Nat) (w : World) (hn : n ≤ maxLen) (ha : a ≤ n) (hb : b ≤ n) (ho : ∀ q, Its (w.drewN q) B A n V) :
    Calls Tryz.prog 31 #[.slice A n c, .int .i64 (a : Int), .int .i64 (b : Int)] w fun e w' => ∃ r : Bool, e = .returned (.bool r) ∧ (r = true ↔ SLess V n a b) ∧ ∃ q, w' = w.drewN q := by
  have HO := Lib.hid ho
  have hnl : n ≤ 9223372036854775807 := by unfold maxLen at hn; omega
  clear ho hn
  go_enter Tryz.func31, Tryz.ntmps31
  go_wp2_with fail
  go_loopw [1, 2] (fun s1 s2 wr => ∃ x y q : Nat, x ≤ n ∧ y ≤ n ∧ s1 = .int .i64 (x : Int) ∧ s2 = .int .i64 (y : Int) ∧ Hid (SLess V n a b ↔ SLess V n x y) ∧ wr = w.drewN q) (fun s1 _ _ => n - (intOf s1).toNat)
  case atStart => exact ⟨a, b, 0, ha, hb, rfl, rfl, Lib.hid Iff.rfl, rfl⟩
  case round =>
    obtain ⟨x, y, q, hx, hy, rfl, rfl, HS, rfl⟩ := hrel
    by_cases hxy : x < n ∧ y < n
    · obtain ⟨hx1, hy1⟩ := hxy
      have dx : decide ((x : Int) < (n : Int)) = true := decide_eq_true (by omega)
      have dy : decide ((y : Int) < (n : Int)) = true := decide_eq_true (by omega)
      have hxi : (x : Int) < (n : Int) := by omega
      have hyi : (y : Int) < (n : Int) := by omega
      have hcx : ∃ ad : Addr, A = some ad := (HO.out 0 x hx1).elim fun ad h => ⟨ad, h.1⟩
      obtain ⟨ad, rfl⟩ := hcx
      have hc1 : ∀ r, (w.drewN r).cell? (ad.add x) = some (.int .i64 (V x)) := fun r => by
        obtain ⟨ad', e, _, h, _⟩ := HO.out r x hx1
        cases e
        exact h
      have hc2 : ∀ r, (w.drewN r).cell? (ad.add y) = some (.int .i64 (V y)) := fun r => by
        obtain ⟨ad', e, _, h, _⟩ := HO.out r y hy1
        cases e
        exact h
      have hstep := Lib.hid (sless_step (V := V) hx1 hy1)
      have hnow := Lib.hid (sless_now (V := V) hx1 hy1)
      generalize V x = vx at hc1 hstep hnow
      generalize V y = vy at hc2 hstep hnow
      by_cases he : vx = vy
      · subst he
        have hne : (vx != vx) = false := by simp
        go_wp2_with fail
        go_quiet (fail)
        go_wp2_with fail
        go_roundw
        case rel => exact ⟨x + 1, y + 1, _, by omega, by omega, by go_num, by go_num, Lib.hid (HS.out.trans (hstep.out trivial)), rfl⟩
        case measure => simp [intOf]; omega
      · have hne : (vx != vy) = true := by simp [he]
        have HE := Lib.hid he
        clear he
        go_wp2_with fail
        go_quiet (fail)
        go_wp2_with fail
        go_quiet (fail)
        go_wp2_with fail
        go_ret
        exact ⟨_, rfl, by rw [decide_eq_true_iff, HS.out, hnow.out HE.out], _, (congrArg (World.drewN · _) (World.drewN_drewN _ _ _)).trans (World.drewN_drewN _ _ _)⟩
    · have HE := Lib.hid (sless_end (V := V) hx hxy)
      by_cases hx1 : x < n
      · have dx : decide ((x : Int) < (n : Int)) = true := decide_eq_true (by omega)
        have dy : decide ((y : Int) < (n : Int)) = false := decide_eq_false (by omega)
        have dz : ((x : Int) == (n : Int)) = false := by rw [beq_eq_false_iff_ne]; omega
        go_wp2_with fail
        go_ret
        exact ⟨false, rfl, by rw [HS.out, HE.out]; simp; omega, q, rfl⟩
      · have dx : decide ((x : Int) < (n : Int)) = false := decide_eq_false (by omega)
        have dz : ((x : Int) == (n : Int)) = true := by rw [beq_iff_eq]; omega
        go_wp2_with fail
        go_ret
        exact ⟨_, rfl, by rw [HS.out, HE.out]; simp; omega, q, rfl⟩
theorem refLess_is (A : Option Addr) (n c : Nat) (V : Nat → Int) (a b B : Nat) (w : World) (hn : n ≤ maxLen) (ha : a ≤ n) (hb : b ≤ n) (ho : Its w B A n V) (r : Bool) (hr : r = true ↔ SLess V n a b) :
    Calls Tryz.prog 31 #[.slice A n c, .int .i64 (a : Int), .int .i64 (b : Int)] w fun e w' => e = .returned (.bool r) ∧ Below w.heap.size w w' := by
  refine (refLess_any A n c V a b B w hn ha hb (fun q => ho.below (below_drewN' (Below.refl _ _) q))).mono ?_
  rintro e w' ⟨r', rfl, hr', q, rfl⟩
  refine ⟨?_, below_drewN' (Below.refl _ _) q⟩
  have : r' = r := by
    rcases r with _ | _ <;> rcases r' with _ | _
    · rfl
    · exact absurd (hr.2 (hr'.1 rfl)) (by simp)
    · exact absurd (hr'.2 (hr.1 rfl)) (by simp)
    · rfl
  rw [this]

/-- are all numbers below an alphabet? -/
def RightS (V : Nat → Int) (n : Nat) (al : Int) : Prop := (0 ≤ al ∧ al ≤ 4194304 ∧ n ≤ 4194304) ∧ ∀ i, i < n → 0 ≤ V i ∧ V i < al
set_option maxRecDepth 100000 in
set_option maxHeartbeats 1600000 in
theorem refRightS_is (A : Option Addr) (n c : Nat) (V : Nat → Int) (al : Int) (B : Nat) (w : World) (hn : n ≤ maxLen) (ho : Its w B A n V) (r : Bool) (hr : r = true ↔ RightS V n al) :
    Calls Tryz.prog 12 #[.slice A n c, .int .i64 al] w fun e w' => e = .returned (.bool r) ∧ w = w' := by
  have HR := Lib.hid hr
  have HO := Lib.hid ho
  have hnl : n ≤ 9223372036854775807 := by unfold maxLen at hn; omega
  clear ho hn hr
  by_cases hal : 0 ≤ al ∧ al ≤ 4194304 ∧ n ≤ 4194304
  · obtain ⟨h1, h2, h3⟩ := hal
    have d1 : decide (al < 0) = false := decide_eq_false (by omega)
    have d2 : decide ((4194304 : Int) < al) = false := decide_eq_false (by omega)
    have d3 : decide ((4194304 : Int) < (n : Int)) = false := decide_eq_false (by omega)
    go_enter Tryz.func12, Tryz.ntmps12
    go_wp2_with fail
    go_loop [20] (fun v => ∃ i : Nat, i ≤ n ∧ v = .int .i64 (i : Int) ∧ Hid (∀ j, j < i → 0 ≤ V j ∧ V j < al)) (fun v => n - (intOf v).toNat)
    case atStart => exact ⟨0, Nat.zero_le _, rfl, Lib.hid (fun j hj => absurd hj (Nat.not_lt_zero j))⟩
    case round =>
      obtain ⟨i, hi, rfl, hall⟩ := hrel
      by_cases hlt : i < n
      · have hlti : (i : Int) < (n : Int) := by omega
        obtain ⟨ad, rfl, _, hc, hv1, hv2⟩ := HO.out i hlt
        obtain ⟨v, hv⟩ : ∃ v, V i = v := ⟨_, rfl⟩
        rw [hv] at hc hv1 hv2
        have HV := Lib.hid hv
        clear hv
        by_cases hok : 0 ≤ v ∧ v < al
        · have e1 : decide (v < 0) = false := decide_eq_false (by omega)
          have e2 : decide (al ≤ v) = false := decide_eq_false (by omega)
          go_wp2_with fail
          go_round
          case rel => exact ⟨i + 1, by omega, by go_num, Lib.hid (fun j hj => by
            by_cases e : j < i
            · exact hall.out j e
            · obtain rfl : j = i := by omega
              rw [HV.out]
              exact hok)⟩
          case measure => simp [intOf]; omega
        · have hbad : Hid (¬ RightS V n al) := Lib.hid (fun h => hok (by rw [← HV.out]; exact h.2 i hlt))
          have hcond : decide (v < 0) = true ∨ (decide (v < 0) = false ∧ decide (al ≤ v) = true) := by
            by_cases h0 : v < 0
            · exact .inl (decide_eq_true h0)
            · exact .inr ⟨decide_eq_false h0, decide_eq_true (by omega)⟩
          obtain rfl : r = false := by
            rcases r with _ | _
            · rfl
            · exact absurd (HR.out.1 rfl) hbad.out
          clear hok HR
          rcases hcond with e1 | ⟨e1, e2⟩
          all_goals
            go_wp2_with fail
            go_ret
            exact ⟨rfl, rfl⟩
      · obtain rfl : i = n := by omega
        obtain rfl : r = true := HR.out.2 ⟨⟨h1, h2, h3⟩, hall.out⟩
        go_wp2_with fail
        go_ret
        exact ⟨rfl, rfl⟩
  · have hbad : Hid (¬ RightS V n al) := Lib.hid (fun h => hal h.1)
    have hcond : decide (al < 0) = true ∨ (decide (al < 0) = false ∧ decide ((4194304 : Int) < al) = true) ∨ (decide (al < 0) = false ∧ decide ((4194304 : Int) < al) = false ∧ decide ((4194304 : Int) < (n : Int)) = true) := by
      by_cases h0 : al < 0
      · exact .inl (decide_eq_true h0)
      · by_cases h1 : (4194304 : Int) < al
        · exact .inr (.inl ⟨decide_eq_false h0, decide_eq_true h1⟩)
        · exact .inr (.inr ⟨decide_eq_false h0, decide_eq_false h1, decide_eq_true (by omega)⟩)
    obtain rfl : r = false := by
      rcases r with _ | _
      · rfl
      · exact absurd (HR.out.1 rfl) hbad.out
    clear hal HR
    rcases hcond with d1 | ⟨d1, d2⟩ | ⟨d1, d2, d3⟩
    all_goals
      go_enter Tryz.func12, Tryz.ntmps12
      go_wp2_with fail
      go_ret
      exact ⟨rfl, rfl⟩
theorem refRightS_any (A : Option Addr) (n c : Nat) (V : Nat → Int) (al : Int) (B : Nat) (w : World) (hn : n ≤ maxLen) (ho : Its w B A n V) :
    ∃ r : Bool, (r = true ↔ RightS V n al) ∧ Calls Tryz.prog 12 #[.slice A n c, .int .i64 al] w fun e w' => e = .returned (.bool r) ∧ w = w' := by
  by_cases h : RightS V n al
  · exact ⟨true, ⟨fun _ => h, fun _ => rfl⟩, refRightS_is A n c V al B w hn ho true ⟨fun _ => h, fun _ => rfl⟩⟩
  · exact ⟨false, ⟨fun e => (by cases e), fun e => absurd e h⟩, refRightS_is A n c V al B w hn ho false ⟨fun e => (by cases e), fun e => absurd e h⟩⟩
end Go.Proofs.YtbkdloebbbmkaaaGreat

namespace Go.Proofs.YtbkdloebbbmkaaaGreat
open Go.RowKit

/-- s: the places below p, the least suffix's first. -/
def IsOrd (V : Nat → Int) (n p : Nat) (s : Nat → Nat) : Prop := (∀ i, i < p → s i < p) ∧ ∀ i j, i < j → j < p → SLess V n (s i) (s j)
/-- p put at the place at. -/
def putAt (s : Nat → Nat) (p at_ : Nat) : Nat → Nat := fun j => if at_ < j then s (j - 1) else if j = at_ then p else s j
theorem IsOrd.put {V : Nat → Int} {n p at_ : Nat} {s : Nat → Nat} (h : IsOrd V n p s) (hp : p < n) (hat : at_ ≤ p) (h1 : ∀ j, j < at_ → SLess V n (s j) p) (h2 : at_ < p → ¬ SLess V n (s at_) p) : IsOrd V n (p + 1) (putAt s p at_) := by
  have h3 : ∀ j, at_ ≤ j → j < p → SLess V n p (s j) := fun j hj hjp => by
    have hsa := h.1 at_ (by omega)
    have h4 : SLess V n p (s at_) := (sless_or (by omega) (by omega) (by omega)).resolve_right (h2 (by omega))
    by_cases e : j = at_
    · rw [e]; exact h4
    · exact sless_trans h4 (h.2 at_ j (by omega) hjp)
  refine ⟨fun i hi => ?_, fun i j hij hj => ?_⟩
  · unfold putAt
    split
    · have := h.1 (i - 1) (by omega)
      omega
    · split
      · omega
      · have := h.1 i (by omega)
        omega
  · unfold putAt
    split
    · rw [if_pos (by omega)]
      exact h.2 _ _ (by omega) (by omega)
    · split
      · rw [if_pos (by omega)]
        exact h3 _ (by omega) (by omega)
      · split
        · by_cases e : i < j - 1
          · exact h.2 _ _ e (by omega)
          · have hji : j - 1 = i := by omega
            omega
        · split
          · exact h1 _ (by omega)
          · exact h.2 _ _ hij (by omega)
/-- the row while numbers are moved up. -/
def insF (s : Nat → Nat) (p i : Nat) : Nat → Int := fun j => if i < j then ((s (j - 1) : Nat) : Int) else if j = p then 0 else ((s j : Nat) : Int)
theorem insF_start (s : Nat → Nat) (p : Nat) : icells (fun i => ((s i : Nat) : Int)) p ++ [.int .i64 0] = icells (insF s p p) (p + 1) := by
  rw [icells_snoc]
  congr 1
  · refine icells_congr fun j hj => ?_
    unfold insF
    rw [if_neg (by omega), if_neg (by omega)]
  · unfold insF
    rw [if_neg (by omega), if_pos rfl]
theorem insF_step (s : Nat → Nat) {p i : Nat} (_hi : i < p) : icells (fun j => if j = i + 1 then ((s i : Nat) : Int) else insF s p (i + 1) j) (p + 1) = icells (insF s p i) (p + 1) := by
  refine icells_congr fun j hj => ?_
  show (if j = i + 1 then ((s i : Nat) : Int) else insF s p (i + 1) j) = insF s p i j
  unfold insF
  by_cases e : j = i + 1
  · rw [if_pos e, if_pos (by omega), show j - 1 = i by omega]
  · rw [if_neg e]
    by_cases h1 : i + 1 < j
    · rw [if_pos h1, if_pos (by omega)]
    · rw [if_neg h1, if_neg (show ¬ i < j by omega)]
theorem insF_at (s : Nat → Nat) {p i : Nat} (hi : i < p) : insF s p (i + 1) i = ((s i : Nat) : Int) := by
  unfold insF
  rw [if_neg (by omega), if_neg (by omega)]
theorem insF_end (s : Nat → Nat) {p at_ : Nat} (hat : at_ ≤ p) : icells (fun j => if j = at_ then (p : Int) else insF s p at_ j) (p + 1) = icells (fun j => ((putAt s p at_ j : Nat) : Int)) (p + 1) := by
  refine icells_congr fun j hj => ?_
  show (if j = at_ then (p : Int) else insF s p at_ j) = ((putAt s p at_ j : Nat) : Int)
  unfold insF putAt
  by_cases e : j = at_
  · rw [if_pos e, if_neg (by omega), if_pos e]
  · rw [if_neg e]
    by_cases h1 : at_ < j
    · rw [if_pos h1, if_pos h1]
    · rw [if_neg h1, if_neg h1, if_neg (by omega), if_neg e]

set_option maxRecDepth 100000 in
set_option maxHeartbeats 3200000 in
theorem refArrayS_any (A : Option Addr) (n c : Nat) (V : Nat → Int) (w : World) (hn : n ≤ 4194303) (ho : Its w w.heap.size A n V) :
    Calls Tryz.prog 15 #[.slice A n c] w fun e w' => ∃ (u : Value) (s : Nat → Nat), e = .returned u ∧ IsSA V n s ∧ w'.ownsRow w.heap.size 3 1 u n (icells (fun i => ((s i : Nat) : Int)) n) ∧ Below w.heap.size w w' := by
  have HO := Lib.hid ho
  have HLs : Hid (∀ (W : World) (a b : Nat) (r : Bool), Below w.heap.size w W → a ≤ n → b ≤ n → (r = true ↔ SLess V n a b) → Hid (Calls Tryz.prog 31 #[.slice A n c, .int .i64 (a : Int), .int .i64 (b : Int)] W fun e w' => e = .returned (.bool r) ∧ Below W.heap.size W w')) := Lib.hid fun W a b r hW ha hb hr => Lib.hid (refLess_is A n c V a b w.heap.size W (by unfold maxLen; omega) ha hb (ho.below hW) r hr)
  clear ho
  go_enter Tryz.func15, Tryz.ntmps15
  go_wp2_with fail
  go_loopw [3, 9] (fun u v wr => ∃ (p : Nat) (s : Nat → Nat), p ≤ n ∧ v = .int .i64 (p : Int) ∧ Hid (IsOrd V n p s) ∧ Hid (wr.ownsRow w.heap.size 3 1 u p (icells (fun i => ((s i : Nat) : Int)) p)) ∧ Below w.heap.size w wr) (fun _ v _ => n - (intOf v).toNat)
  case atStart => exact ⟨0, fun _ => 0, Nat.zero_le _, rfl, Lib.hid ⟨fun i hi => absurd hi (Nat.not_lt_zero i), fun i j _ hj => absurd hj (Nat.not_lt_zero j)⟩, Lib.hid (World.ownsRow_nil w _ _ _), Below.refl _ _⟩
  case round =>
    obtain ⟨p, s, hp, rfl, HOrd, hrow, hb⟩ := hrel
    have hbs := hb.size
    by_cases hlt : p < n
    · have hlti : (p : Int) < (n : Int) := by omega
      obtain ⟨O, co, hO⟩ : ∃ O co, u3 = .slice O p co := by
        rcases hrow.out.2 with ⟨e, h0⟩ | ⟨g', cap, cur, e, _⟩
        · exact ⟨none, 0, by rw [e, h0]⟩
        · exact ⟨_, cap, e⟩
      subst hO
      have hco := owns_room hrow.out
      have hcol := hco.1
      have hcom : co ≤ 9223372036854775807 := by have := hco.2; unfold maxLen at this; omega
      clear hco
      go_wp2_with fail
      go_loopw [5] (fun v wy => ∃ at_ : Nat, at_ ≤ p ∧ v = .int .i64 (at_ : Int) ∧ Hid (∀ j, j < at_ → SLess V n (s j) p) ∧ Below wr.heap.size wr wy) (fun v _ => p - (intOf v).toNat)
      case atStart => exact ⟨0, Nat.zero_le _, rfl, Lib.hid (fun j hj => absurd hj (Nat.not_lt_zero j)), Below.refl _ _⟩
      case round =>
        rename World => wy
        obtain ⟨at_, hat, rfl, hall, hby⟩ := hrel
        have hBy := hb.trans (hby.mono hbs)
        have hrowy := Lib.hid (ownsRow_keep hrow.out hby)
        by_cases hls : at_ < p ∧ SLess V n (s at_) p
        · obtain ⟨hap, hls⟩ := hls
          have hapi : (at_ : Int) < (p : Int) := by omega
          have dap : decide ((at_ : Int) < (p : Int)) = true := decide_eq_true hapi
          obtain ⟨g, c', e, _, _, _, _⟩ := owns_some hrow.out (by omega)
          cases e
          have hsa := HOrd.out.1 at_ hap
          have hcell : wy.cell? ⟨g, at_, none⟩ = some (.int .i64 ((s at_ : Nat) : Int)) := (hrowy.out.cellAt at_ (by omega)).trans (icells_at _ _ _ hap)
          have HL := HLs.out wy (s at_) p true hBy (by omega) (by omega) ⟨fun _ => hls, fun _ => rfl⟩
          have HS := Lib.hid hls
          clear hls hsa
          generalize s at_ = sv at hcell HL
          go_wp2_with (go_at_call 31; (with_reducible refine HL.out.mono ?_); rintro e wz ⟨rfl, hbz⟩)
          go_roundw
          case rel => exact ⟨at_ + 1, by omega, by go_num, Lib.hid (fun j hj => by
            by_cases e : j < at_
            · exact hall.out j e
            · obtain rfl : j = at_ := by omega
              exact HS.out), hby.trans (hbz.mono hby.size)⟩
          case measure => simp [intOf]; omega
        · have hdone : Hid (at_ < p → ¬ SLess V n (s at_) p) := Lib.hid (fun h1 h2 => hls ⟨h1, h2⟩)
          have hpm : p ≤ 4194304 := by omega
          rcases Nat.lt_or_eq_of_le hat with hap | hap
          · have hapi : (at_ : Int) < (p : Int) := by omega
            have dap : decide ((at_ : Int) < (p : Int)) = true := decide_eq_true hapi
            obtain ⟨g, c', e, _, _, _, _⟩ := owns_some hrow.out (by omega)
            cases e
            have hsa := HOrd.out.1 at_ hap
            have hcell : wy.cell? ⟨g, at_, none⟩ = some (.int .i64 ((s at_ : Nat) : Int)) := (hrowy.out.cellAt at_ (by omega)).trans (icells_at _ _ _ hap)
            have HL := HLs.out wy (s at_) p false hBy (by omega) (by omega) ⟨fun e => (by cases e), fun h => absurd h (hdone.out hap)⟩
            clear hls hsa
            generalize s at_ = sv at hcell HL
            go_wp2_with (first
              | (go_at_call 31; (with_reducible refine HL.out.mono ?_); rintro e wz ⟨rfl, hbz⟩; have hBz := hBy.trans (hbz.mono hBy.size); have hrowz := Lib.hid (ownsRow_keep hrowy.out hbz); have hsz := hBz.size)
              | (at_builtin; refine step_append_int rfl (.tmp 27) (.tmp 28) rfl rfl hrowz.out 0 rfl hsz hpm ?_; intro v4 w4 hown4 hb4; rw [insF_start] at hown4; obtain ⟨g4, c4, rfl, hg4, hl4, hc4, hm4⟩ := owns_some hown4.out (Nat.succ_pos p)))
            clear hbz HL hcell dap hapi
            have hB4 := hBz.trans hb4
            have hcm4 : c4 ≤ 9223372036854775807 := by unfold maxLen at hm4; omega
            have HOwn4 := hown4
            clear hm4 hrowz hBz hb4 hsz hown4
            rename World => w4
            go_loopw [6] (fun v wz => ∃ i : Nat, at_ ≤ i ∧ i ≤ p ∧ v = .int .i64 (i : Int) ∧ Hid (wz.ownsRow w.heap.size 3 1 (.slice (some ⟨g4, 0, none⟩) (p + 1) c4) (p + 1) (icells (insF s p i) (p + 1))) ∧ Below w.heap.size w wz) (fun v _ => (intOf v).toNat)
            case atStart => exact ⟨p, hat, Nat.le_refl _, rfl, HOwn4, hB4⟩
            case round =>
              rename World => wz
              obtain ⟨i, hi1, hi2, rfl, hrz, hbz⟩ := hrel
              by_cases hia : at_ < i
              · obtain ⟨i', rfl⟩ : ∃ i', i = i' + 1 := ⟨i - 1, by omega⟩
                have hia2 : (at_ : Int) < ((i' : Int) + 1) := by omega
                have hc1 : wz.cell? ⟨g4, i', none⟩ = some (.int .i64 ((s i' : Nat) : Int)) := (hrz.out.cellAt i' (by omega)).trans ((icells_at _ _ _ (by omega)).trans (by rw [insF_at s (by omega)]))
                have hc2 : wz.cell? ⟨g4, i' + 1, none⟩ = some (.int .i64 (insF s p (i' + 1) (i' + 1))) := (hrz.out.cellAt (i' + 1) (by omega)).trans (icells_at _ _ _ (by omega))
                have hf2 := owns_free hrz.out (i' + 1)
                have hlt1 : (i' : Int) < (p : Int) + 1 := by omega
                have hlt2 : (i' : Int) + 1 < (p : Int) + 1 := by omega
                have hput := owns_put hrz.out (i' + 1) (.int .i64 ((s i' : Nat) : Int))
                rw [icells_put, insF_step s (show i' < p by omega)] at hput
                have HPut := Lib.hid hput
                have hbp : Below w.heap.size w (wz.setCell ⟨g4, i' + 1, none⟩ (.int .i64 ((s i' : Nat) : Int))) := hbz.setCell (p := ⟨g4, i' + 1, none⟩) hg4 _
                have HBp := Lib.hid hbp
                clear hput hbp
                go_wp2_with fail
                go_roundw
                case rel => exact ⟨i', by omega, by omega, by trivial, HPut, HBp.out⟩
                case measure => simp [intOf]
              · obtain rfl : i = at_ := by omega
                have hia2 : decide ((i : Int) < (i : Int)) = false := decide_eq_false (by omega)
                have hc2 : wz.cell? ⟨g4, i, none⟩ = some (.int .i64 (insF s p i i)) := (hrz.out.cellAt i (by omega)).trans (icells_at _ _ _ (by omega))
                have hf2 := owns_free hrz.out i
                have hlt2 : (i : Int) < (p : Int) + 1 := by omega
                have hput := owns_put hrz.out i (.int .i64 (p : Int))
                rw [icells_put, insF_end s hi2] at hput
                have HPut := Lib.hid hput
                have hbp : Below w.heap.size w (wz.setCell ⟨g4, i, none⟩ (.int .i64 (p : Int))) := hbz.setCell (p := ⟨g4, i, none⟩) hg4 _
                have HBp := Lib.hid hbp
                clear hput hbp
                go_wp2_with fail
                go_roundw
                case rel => exact ⟨p + 1, putAt s p i, by omega, by go_num, Lib.hid (HOrd.out.put hlt hi2 hall.out hdone.out), HPut, HBp.out⟩
                case measure => simp [intOf]; omega
          · have dap : decide ((at_ : Int) < (p : Int)) = false := decide_eq_false (by omega)
            have hnl : ¬ (at_ : Int) < (p : Int) := by omega
            have hnl2 : ¬ at_ < p := by omega
            have dap2 : decide (at_ < p) = false := decide_eq_false hnl2
            have hBz := hBy
            have hrowz := hrowy
            have hsz := hBz.size
            clear hls hap
            go_wp2_with (at_builtin; refine step_append_int rfl (.tmp 27) (.tmp 28) rfl rfl hrowz.out 0 rfl hsz hpm ?_; intro v4 w4 hown4 hb4; rw [insF_start] at hown4; obtain ⟨g4, c4, rfl, hg4, hl4, hc4, hm4⟩ := owns_some hown4.out (Nat.succ_pos p))
            clear dap dap2 hnl hnl2
            have hB4 := hBz.trans hb4
            have hcm4 : c4 ≤ 9223372036854775807 := by unfold maxLen at hm4; omega
            have HOwn4 := hown4
            clear hm4 hrowz hBz hb4 hsz hown4
            rename World => w4
            go_loopw [6] (fun v wz => ∃ i : Nat, at_ ≤ i ∧ i ≤ p ∧ v = .int .i64 (i : Int) ∧ Hid (wz.ownsRow w.heap.size 3 1 (.slice (some ⟨g4, 0, none⟩) (p + 1) c4) (p + 1) (icells (insF s p i) (p + 1))) ∧ Below w.heap.size w wz) (fun v _ => (intOf v).toNat)
            case atStart => exact ⟨p, hat, Nat.le_refl _, rfl, HOwn4, hB4⟩
            case round =>
              rename World => wz
              obtain ⟨i, hi1, hi2, rfl, hrz, hbz⟩ := hrel
              by_cases hia : at_ < i
              · obtain ⟨i', rfl⟩ : ∃ i', i = i' + 1 := ⟨i - 1, by omega⟩
                have hia2 : (at_ : Int) < ((i' : Int) + 1) := by omega
                have hc1 : wz.cell? ⟨g4, i', none⟩ = some (.int .i64 ((s i' : Nat) : Int)) := (hrz.out.cellAt i' (by omega)).trans ((icells_at _ _ _ (by omega)).trans (by rw [insF_at s (by omega)]))
                have hc2 : wz.cell? ⟨g4, i' + 1, none⟩ = some (.int .i64 (insF s p (i' + 1) (i' + 1))) := (hrz.out.cellAt (i' + 1) (by omega)).trans (icells_at _ _ _ (by omega))
                have hf2 := owns_free hrz.out (i' + 1)
                have hlt1 : (i' : Int) < (p : Int) + 1 := by omega
                have hlt2 : (i' : Int) + 1 < (p : Int) + 1 := by omega
                have hput := owns_put hrz.out (i' + 1) (.int .i64 ((s i' : Nat) : Int))
                rw [icells_put, insF_step s (show i' < p by omega)] at hput
                have HPut := Lib.hid hput
                have hbp : Below w.heap.size w (wz.setCell ⟨g4, i' + 1, none⟩ (.int .i64 ((s i' : Nat) : Int))) := hbz.setCell (p := ⟨g4, i' + 1, none⟩) hg4 _
                have HBp := Lib.hid hbp
                clear hput hbp
                go_wp2_with fail
                go_roundw
                case rel => exact ⟨i', by omega, by omega, by trivial, HPut, HBp.out⟩
                case measure => simp [intOf]
              · obtain rfl : i = at_ := by omega
                have hia2 : decide ((i : Int) < (i : Int)) = false := decide_eq_false (by omega)
                have hc2 : wz.cell? ⟨g4, i, none⟩ = some (.int .i64 (insF s p i i)) := (hrz.out.cellAt i (by omega)).trans (icells_at _ _ _ (by omega))
                have hf2 := owns_free hrz.out i
                have hlt2 : (i : Int) < (p : Int) + 1 := by omega
                have hput := owns_put hrz.out i (.int .i64 (p : Int))
                rw [icells_put, insF_end s hi2] at hput
                have HPut := Lib.hid hput
                have hbp : Below w.heap.size w (wz.setCell ⟨g4, i, none⟩ (.int .i64 (p : Int))) := hbz.setCell (p := ⟨g4, i, none⟩) hg4 _
                have HBp := Lib.hid hbp
                clear hput hbp
                go_wp2_with fail
                go_roundw
                case rel => exact ⟨p + 1, putAt s p i, by omega, by go_num, Lib.hid (HOrd.out.put hlt hi2 hall.out hdone.out), HPut, HBp.out⟩
                case measure => simp [intOf]; omega
    · obtain rfl : p = n := by omega
      go_wp2_with fail
      go_ret
      exact ⟨_, s, rfl, HOrd.out, hrow.out, hb⟩
end Go.Proofs.YtbkdloebbbmkaaaGreat

namespace Go.Proofs.YtbkdloebbbmkaaaGreat
open Go.RowKit

/-- what Turned leaves. -/
def TurnedPost (w : World) (n : Nat) (V : Nat → Int) (e : Ending) (w' : World) : Prop :=
  ((IsPerm V n ∧ ∃ (u : Value) (R : Nat → Int), e = .returned (.tuple #[u, .bool true]) ∧ Turns V R n ∧ w'.ownsRow w.heap.size 3 1 u n (icells R n)) ∨ (¬ IsPerm V n ∧ e = .returned (.tuple #[.slice none 0 0, .bool false]))) ∧ Below w.heap.size w w'

/-- the first i numbers turned: R the row, Z what has been seen. -/
structure TurnIn (V : Nat → Int) (n i : Nat) (R : Nat → Int) (Z : Nat → Nat) : Prop where
  lt : ∀ j, j < i → 0 ≤ V j ∧ V j < (n : Int)
  apart : ∀ a b, a < b → b < i → V a ≠ V b
  at_ : ∀ j, j < i → R (V j).toNat = (j : Int)
  seen : ∀ q, q < n → (Z q = 1 ↔ ∃ j, j < i ∧ V j = (q : Int))
  bit : ∀ q, Z q = 0 ∨ Z q = 1
theorem TurnIn.start (V : Nat → Int) (n : Nat) : TurnIn V n 0 (fun _ => 0) (fun _ => 0) :=
  ⟨fun j hj => absurd hj (Nat.not_lt_zero j), fun a b _ hb => absurd hb (Nat.not_lt_zero b), fun j hj => absurd hj (Nat.not_lt_zero j), fun q _ => ⟨fun h => absurd h (by decide), fun ⟨j, hj, _⟩ => absurd hj (Nat.not_lt_zero j)⟩, fun _ => .inl rfl⟩
theorem TurnIn.next {V : Nat → Int} {n i p : Nat} {R : Nat → Int} {Z : Nat → Nat} (h : TurnIn V n i R Z) (hp : V i = (p : Int)) (hpn : p < n) (hz : Z p = 0) : TurnIn V n (i + 1) (fun j => if j = p then (i : Int) else R j) (fun j => if j = p then 1 else Z j) := by
  have hno : ∀ j, j < i → V j ≠ (p : Int) := fun j hj e => by
    have := (h.seen p hpn).2 ⟨j, hj, e⟩
    omega
  refine ⟨fun j hj => ?_, fun a b hab hb => ?_, fun j hj => ?_, fun q hq => ?_, fun q => ?_⟩
  · by_cases e : j = i
    · subst e; omega
    · exact h.lt j (by omega)
  · by_cases e : b = i
    · subst e
      rw [hp]
      exact hno a hab
    · exact h.apart a b hab (by omega)
  · show (if (V j).toNat = p then (i : Int) else R (V j).toNat) = (j : Int)
    by_cases e : j = i
    · subst e
      rw [hp, Int.toNat_natCast, if_pos rfl]
    · have h1 := hno j (by omega)
      have h2 := h.lt j (by omega)
      rw [if_neg (by omega)]
      exact h.at_ j (by omega)
  · show (if q = p then 1 else Z q) = 1 ↔ _
    by_cases e : q = p
    · subst e
      rw [if_pos rfl]
      exact ⟨fun _ => ⟨i, by omega, hp⟩, fun _ => rfl⟩
    · rw [if_neg e, h.seen q hq]
      constructor
      · rintro ⟨j, hj, hv⟩
        exact ⟨j, by omega, hv⟩
      · rintro ⟨j, hj, hv⟩
        refine ⟨j, ?_, hv⟩
        apply Nat.lt_of_le_of_ne (by omega)
        rintro rfl
        rw [hp] at hv
        omega
  · show (if q = p then 1 else Z q) = 0 ∨ (if q = p then 1 else Z q) = 1
    split
    · exact .inr rfl
    · exact h.bit q
theorem TurnIn.bad {V : Nat → Int} {n i : Nat} {R : Nat → Int} {Z : Nat → Nat} (h : TurnIn V n i R Z) (hi : i < n) (hb : V i < 0 ∨ (n : Int) ≤ V i ∨ ∃ p : Nat, p < n ∧ V i = (p : Int) ∧ Z p = 1) : ¬ IsPerm V n := by
  intro hP
  have h1 := hP.1 i hi
  rcases hb with hb | hb | ⟨p, h2, h3, h4⟩
  · omega
  · omega
  · obtain ⟨j, hj, he⟩ := (h.seen p h2).1 h4
    exact hP.2 j i hj hi (by rw [he, h3])
theorem TurnIn.good {V : Nat → Int} {n : Nat} {R : Nat → Int} {Z : Nat → Nat} (h : TurnIn V n n R Z) : IsPerm V n ∧ Turns V R n := ⟨⟨h.lt, h.apart⟩, h.at_⟩

set_option maxRecDepth 100000 in
set_option maxHeartbeats 3200000 in
theorem refTurned_any (A : Option Addr) (n c : Nat) (V : Nat → Int) (w : World) (hn : n ≤ 4194304) (ho : Its w w.heap.size A n V) :
    Calls Tryz.prog 22 #[.slice A n c] w (TurnedPost w n V) := by
  have HO := Lib.hid ho
  clear ho
  have hmk1 := make_ints0 w n hn
  have l1 := lies_new w 3 (icells (fun _ => 0) n)
  obtain ⟨W1, hW1⟩ : ∃ W, w.alloc (.cells (icells (fun _ => 0) n).toArray 3) = W := ⟨_, rfl⟩
  have hb1 : Below w.heap.size w W1 := by rw [← hW1]; exact (Below.refl _ _).alloc (Nat.le_refl _) _
  have hs1 : W1.heap.size = w.heap.size + 1 := by rw [← hW1, size_alloc]
  rw [hW1] at hmk1 l1
  have hmk2 := make_bytes0 W1 n hn
  have l2 := lies_new W1 5 (ycells (fun _ => 0) n)
  have l1' := l1.alloc (.cells (ycells (fun _ => 0) n).toArray 5)
  have hb2 := hb1.alloc hb1.size (.cells (ycells (fun _ => 0) n).toArray 5)
  obtain ⟨W2, hW2⟩ : ∃ W, W1.alloc (.cells (ycells (fun _ => 0) n).toArray 5) = W := ⟨_, rfl⟩
  rw [hW2] at hmk2 l2 l1' hb2
  obtain ⟨g1, hg1⟩ : ∃ g, w.heap.size = g := ⟨_, rfl⟩
  obtain ⟨g2, hg2⟩ : ∃ g, W1.heap.size = g := ⟨_, rfl⟩
  rw [hg1] at hmk1 l1'
  rw [hg2] at hmk2 l2
  have hgg : g1 ≠ g2 := by omega
  have HG1 := Lib.hid hg1
  have hB2 : g1 ≤ g2 := by omega
  have L1 := Lib.hid l1'
  have L2 := Lib.hid l2
  have HB2 := Lib.hid hb2
  clear hW1 hW2 l1 l2 l1' hb1 hb2 hs1 hg1 hg2
  go_enter Tryz.func22, Tryz.ntmps22
  go_wp2_with fail
  go_loopw [16] (fun v wr => ∃ (i : Nat) (R : Nat → Int) (Z : Nat → Nat), i ≤ n ∧ v = .int .i64 (i : Int) ∧ Hid (TurnIn V n i R Z) ∧ Hid (Lies wr g1 3 (icells R n)) ∧ Hid (Lies wr g2 5 (ycells Z n)) ∧ Below w.heap.size w wr) (fun v _ => n - (intOf v).toNat)
  case atStart => exact ⟨0, _, _, Nat.zero_le _, rfl, Lib.hid (TurnIn.start V n), L1, L2, HB2.out⟩
  case round =>
    clear L1 L2 HB2
    obtain ⟨i, R, Z, hi, rfl, HI, HR, HZ, hb⟩ := hrel
    by_cases hlt : i < n
    · have hlti : (i : Int) < (n : Int) := by omega
      obtain ⟨ad, rfl, _, hc, hv1, hv2⟩ := (HO.out.below hb) i hlt
      obtain ⟨v, hv⟩ : ∃ v, V i = v := ⟨_, rfl⟩
      rw [hv] at hc hv1 hv2
      have HV := Lib.hid hv
      clear hv
      by_cases hin : 0 ≤ v ∧ v < (n : Int)
      · obtain ⟨p, rfl⟩ : ∃ p : Nat, v = (p : Int) := ⟨v.toNat, by omega⟩
        have hpn : p < n := by omega
        have hpi : (p : Int) < (n : Int) := by omega
        have d1 : decide ((p : Int) < 0) = false := decide_eq_false (by omega)
        have d2 : decide ((n : Int) ≤ (p : Int)) = false := decide_eq_false (by omega)
        have hcz : wr.cell? ⟨g2, p, none⟩ = some (.int .u8 ((Z p : Nat) : Int)) := (HZ.out.cell p).trans (ycells_at Z n p hpn)
        rcases HI.out.bit p with hz | hz
        · rw [hz] at hcz
          have hcz : wr.cell? ⟨g2, p, none⟩ = some (.int .u8 0) := hcz
          have hfz := HZ.out.free p
          have hcr : wr.cell? ⟨g1, p, none⟩ = some (.int .i64 (R p)) := (HR.out.cell p).trans (icells_at R n p hpn)
          have hfr := HR.out.free p
          have hne := Lib.hid (HI.out.next HV.out hpn hz)
          have hR' : Hid (Lies ((wr.setCell ⟨g2, p, none⟩ (.int .u8 1)).setCell ⟨g1, p, none⟩ (.int .i64 (i : Int))) g1 3 (icells (fun j => if j = p then (i : Int) else R j) n)) := Lib.hid (by
            have h := (HR.out.far (p := ⟨g2, p, none⟩) hgg (.int .u8 1)).put p (.int .i64 (i : Int))
            rwa [icells_put] at h)
          have hZ' : Hid (Lies ((wr.setCell ⟨g2, p, none⟩ (.int .u8 1)).setCell ⟨g1, p, none⟩ (.int .i64 (i : Int))) g2 5 (ycells (fun j => if j = p then 1 else Z j) n)) := Lib.hid (by
            have h := (HZ.out.put p (.int .u8 1)).far (p := ⟨g1, p, none⟩) (Ne.symm hgg) (.int .i64 (i : Int))
            have e : (ycells Z n).set p (.int .u8 ((1 : Nat) : Int)) = ycells (fun j => if j = p then 1 else Z j) n := by
              apply List.ext_getElem?
              intro q
              rw [List.getElem?_set]
              by_cases hq : q < n
              · rw [ycells_at _ _ _ hq]
                split
                · rename_i e
                  subst e
                  rw [if_pos (by rw [ycells_length]; exact hq), ycells_at _ _ _ hq, if_pos rfl]
                · rename_i e
                  rw [ycells_at _ _ _ hq, if_neg (fun e' => e e'.symm)]
              · rw [List.getElem?_eq_none (by rw [ycells_length]; omega)]
                split
                · rename_i e
                  rw [if_neg (by rw [ycells_length]; omega), List.getElem?_eq_none (by rw [ycells_length]; omega)]
                · rw [List.getElem?_eq_none (by rw [ycells_length]; omega)]
            have h' : Lies _ g2 5 ((ycells Z n).set p (.int .u8 ((1 : Nat) : Int))) := h
            rwa [e] at h')
          have hfr2 : (wr.setCell ⟨g2, p, none⟩ (.int .u8 1)).frozen? ⟨g1, p, none⟩ = false := (HR.out.far (p := ⟨g2, p, none⟩) hgg (.int .u8 1)).free p
          have hcr2 : (wr.setCell ⟨g2, p, none⟩ (.int .u8 1)).cell? ⟨g1, p, none⟩ = some (.int .i64 (R p)) := ((HR.out.far (p := ⟨g2, p, none⟩) hgg (.int .u8 1)).cell p).trans (icells_at R n p hpn)
          have hbs : Below w.heap.size w ((wr.setCell ⟨g2, p, none⟩ (.int .u8 1)).setCell ⟨g1, p, none⟩ (.int .i64 (i : Int))) := (hb.setCell (p := ⟨g2, p, none⟩) (by show w.heap.size ≤ g2; rw [HG1.out]; exact hB2) _).setCell (p := ⟨g1, p, none⟩) (by show w.heap.size ≤ g1; rw [HG1.out]; exact Nat.le_refl _) _
          have HBs := Lib.hid hbs
          clear hz hbs
          go_wp2_with fail
          go_roundw
          case rel => exact ⟨i + 1, _, _, by omega, by go_num, hne, hR', hZ', HBs.out⟩
          case measure => simp [intOf]; omega
        · rw [hz] at hcz
          have hcz : wr.cell? ⟨g2, p, none⟩ = some (.int .u8 1) := hcz
          have hbad := Lib.hid (HI.out.bad hlt (.inr (.inr ⟨p, hpn, HV.out, hz⟩)))
          clear hz
          go_wp2_with fail
          go_ret2
          exact ⟨.inr ⟨hbad.out, rfl⟩, hb⟩
      · have hbad := Lib.hid (HI.out.bad hlt (by rw [HV.out]; omega))
        have hcond : decide (v < 0) = true ∨ (decide (v < 0) = false ∧ decide ((n : Int) ≤ v) = true) := by
          by_cases h0 : v < 0
          · exact .inl (decide_eq_true h0)
          · exact .inr ⟨decide_eq_false h0, decide_eq_true (by omega)⟩
        clear hin
        rcases hcond with d1 | ⟨d1, d2⟩
        all_goals
          go_wp2_with fail
          go_ret2
          exact ⟨.inr ⟨hbad.out, rfl⟩, hb⟩
    · obtain rfl : i = n := by omega
      have hgood := HI.out.good
      have hrow := owns_lies (B := w.heap.size) HR.out (by rw [HG1.out]; exact Nat.le_refl _) (icells_length R i) (by unfold maxLen; omega)
      go_wp2_with fail
      go_ret2
      exact ⟨.inl ⟨hgood.1, _, R, rfl, hgood.2, hrow⟩, hb⟩
end Go.Proofs.YtbkdloebbbmkaaaGreat

namespace Go.Proofs.YtbkdloebbbmkaaaGreat
open Go.RowKit

/-- n bytes, and noughts behind them. -/
def padded (V : Nat → Nat) (n : Nat) : Nat → Nat := fun k => if k < n then V k else 0
/-- a page's bytes and its number. -/
def bodyOf (V : Nat → Nat) (n t : Nat) : Nat → Nat := both (padded V n) (byteOf t) 256
/-- a page. -/
def pageOf (V : Nat → Nat) (n t : Nat) : Nat → Nat := behind (bodyOf V n t) 260

theorem padded_lt {V : Nat → Nat} {n : Nat} (hV : ∀ k, k < n → V k < 256) (k : Nat) : padded V n k < 256 := by
  unfold padded
  split
  · exact hV k (by assumption)
  · decide
theorem bodyOf_lt {V : Nat → Nat} {n t : Nat} (hV : ∀ k, k < n → V k < 256) (k : Nat) : bodyOf V n t k < 256 := by
  unfold bodyOf both
  split
  · exact padded_lt hV k
  · exact byteOf_lt _ _
theorem pageOf_lt {V : Nat → Nat} {n t : Nat} (hV : ∀ k, k < n → V k < 256) (k : Nat) : pageOf V n t k < 256 := behind_lt (fun k _ => bodyOf_lt hV k) k
theorem pageOf_ends (V : Nat → Nat) (n t : Nat) : Pl.Ends (pageOf V n t) 260 := behind_ends _ _
theorem pageOf_body (V : Nat → Nat) (n t k : Nat) (h : k < 260) : pageOf V n t k = bodyOf V n t k := behind_old _ _ _ h
theorem pageOf_bytes (V : Nat → Nat) (n t k : Nat) (h : k < 256) : pageOf V n t k = padded V n k := by
  rw [pageOf_body V n t k (by omega)]
  unfold bodyOf both
  rw [if_pos h]
theorem pageOf_old (V : Nat → Nat) (n t k : Nat) (h : k < n) (hn : n ≤ 256) : pageOf V n t k = V k := by
  rw [pageOf_bytes V n t k (by omega)]
  unfold padded
  rw [if_pos h]
theorem pageOf_nought (V : Nat → Nat) (n t k : Nat) (h : n ≤ k) (hk : k < 256) : pageOf V n t k = 0 := by
  rw [pageOf_bytes V n t k hk]
  unfold padded
  rw [if_neg (by omega)]
theorem pageOf_number (V : Nat → Nat) (n t i : Nat) (h : i < 4) : pageOf V n t (256 + i) = byteOf t i := by
  rw [pageOf_body V n t _ (by omega)]
  unfold bodyOf both
  rw [if_neg (by omega), show 256 + i - 256 = i by omega]
/-- the number that stands in a page. -/
def numberOf (U : Nat → Nat) : Nat := U 256 + 256 * U 257 + 65536 * U 258 + 16777216 * U 259
theorem byteOf_0 (t : Nat) : byteOf t 0 = t % 256 := by unfold byteOf; rw [Nat.pow_zero, Nat.div_one]
theorem byteOf_1 (t : Nat) (h : t < 65536) : byteOf t 1 = t / 256 := by unfold byteOf; rw [Nat.pow_one]; omega
theorem byteOf_2 (t : Nat) (h : t < 65536) : byteOf t 2 = 0 := by unfold byteOf; rw [show (256 : Nat) ^ 2 = 65536 from rfl]; omega
theorem byteOf_3 (t : Nat) (h : t < 65536) : byteOf t 3 = 0 := by unfold byteOf; rw [show (256 : Nat) ^ 3 = 16777216 from rfl]; omega
theorem numberOf_page (V : Nat → Nat) (n t : Nat) (h : t < 65536) : numberOf (pageOf V n t) = t := by
  unfold numberOf
  have e0 := pageOf_number V n t 0 (by omega)
  have e1 := pageOf_number V n t 1 (by omega)
  have e2 := pageOf_number V n t 2 (by omega)
  have e3 := pageOf_number V n t 3 (by omega)
  rw [byteOf_0] at e0
  rw [byteOf_1 t h] at e1
  rw [byteOf_2 t h] at e2
  rw [byteOf_3 t h] at e3
  rw [show 256 = 256 + 0 from rfl, e0, show 257 = 256 + 1 from rfl, e1, show 258 = 256 + 2 from rfl, e2, show 259 = 256 + 3 from rfl, e3]
  omega
/-- a number below 4096, told by its bytes. -/
theorem number_small {U : Nat → Nat} (hU : ∀ k, k < 264 → U k < 256) : numberOf U < 4096 ↔ U 257 ≤ 15 ∧ U 258 = 0 ∧ U 259 = 0 := by
  have a0 := hU 256 (by omega)
  unfold numberOf
  omega
/-- pages of unlike numbers are unlike. -/
theorem page_numbers {V V' : Nat → Nat} {n n' t t' : Nat} (ht : t < 65536) (ht' : t' < 65536) (h : ∀ k, k < 264 → pageOf V n t k = pageOf V' n' t' k) : t = t' := by
  have e1 := numberOf_page V n t ht
  have e2 := numberOf_page V' n' t' ht'
  rw [← e1, ← e2]
  unfold numberOf
  rw [h 256 (by omega), h 257 (by omega), h 258 (by omega), h 259 (by omega)]
/-- pages of unlike bytes are unlike. -/
theorem page_bytes {V V' : Nat → Nat} {n t t' : Nat} (hn : n ≤ 256) (h : ∀ k, k < 264 → pageOf V n t k = pageOf V' n t' k) : ∀ k, k < n → V k = V' k := fun k hk => by
  have e := h k (by omega)
  rw [pageOf_old V n t k hk hn, pageOf_old V' n t' k hk hn] at e
  exact e
/-- what ends with its sum and has a small number is a page: its own bytes and number's. -/
theorem page_back {U : Nat → Nat} (hU : ∀ k, k < 264 → U k < 256) (hE : Pl.Ends U 260) (hN : numberOf U < 4096) : ∀ k, k < 264 → U k = pageOf U 256 (numberOf U) k := by
  obtain ⟨h1, h2, h3⟩ := (number_small hU).1 hN
  have a0 := hU 256 (by omega)
  have hb : ∀ k, k < 260 → U k = bodyOf U 256 (numberOf U) k := fun k hk => by
    unfold bodyOf both padded
    by_cases hk2 : k < 256
    · rw [if_pos hk2, if_pos hk2]
    · rw [if_neg hk2]
      have hk3 : k = 256 ∨ k = 257 ∨ k = 258 ∨ k = 259 := by omega
      have hl : numberOf U < 65536 := by omega
      rcases hk3 with rfl | rfl | rfl | rfl
      · rw [byteOf_0]; unfold numberOf; omega
      · rw [byteOf_1 _ hl]; unfold numberOf; omega
      · rw [byteOf_2 _ hl]; exact h2
      · rw [byteOf_3 _ hl]; exact h3
  intro k hk
  by_cases hk2 : k < 260
  · rw [pageOf_body _ _ _ _ hk2]; exact hb k hk2
  · have e := hE (k - 260) (by omega)
    rw [show 260 + (k - 260) = k by omega] at e
    have e2 := behind_new (bodyOf U 256 (numberOf U)) 260 (k - 260)
    rw [show 260 + (k - 260) = k by omega] at e2
    show U k = behind (bodyOf U 256 (numberOf U)) 260 k
    rw [e, e2, sumN_congr hb]
    rfl
end Go.Proofs.YtbkdloebbbmkaaaGreat

namespace Go.Proofs.YtbkdloebbbmkaaaGreat

/-- a section: how long it is, its bytes. -/
structure Sec where
  n : Nat
  V : Nat → Nat
/-- how many pages so many bytes need. -/
def pgs (n : Nat) : Nat := (n + 255) / 256
/-- what of a section stands in its j-th page. -/
def Sec.part (s : Sec) (j : Nat) : Sec := ⟨min 256 (s.n - 256 * j), fun k => s.V (256 * j + k)⟩
/-- what stands in a section's pages. -/
def Sec.pages (s : Sec) : List Sec := (List.range (pgs s.n)).map s.part
/-- the i-th section's length. -/
def lenAt (L : List Sec) (i : Nat) : Nat := (L[i]?.map Sec.n).getD 0
/-- the head's bytes. -/
def headV (L : List Sec) (k : Nat) : Nat :=
  if k = 0 then 99 else if k = 1 then 111 else if k = 2 then 108 else if k = 3 then 111 else if k = 4 then L.length else if k = 5 then 0 else byteOf (lenAt L ((k - 6) / 4)) ((k - 6) % 4)
/-- what stands in the head. -/
def headOf (L : List Sec) : Sec := ⟨6 + 4 * L.length, headV L⟩
/-- what stands in all pages. -/
def body (L : List Sec) : List Sec := headOf L :: L.flatMap Sec.pages
/-- how many pages the first s sections have. -/
def ahead (L : List Sec) (s : Nat) : Nat := ((L.take s).map fun x => pgs x.n).sum
/-- the s-th section's first page. -/
def startAt (L : List Sec) (s : Nat) : Nat := 1 + ahead L s
/-- how many pages. -/
def allPages (L : List Sec) : Nat := startAt L L.length
/-- an image's bytes. -/
def imageOf (L : List Sec) : Nat → Nat := fun k => match (body L)[k / 264]? with
  | some c => pageOf c.V c.n (k / 264) (k % 264)
  | none => 0

theorem pages_length (s : Sec) : s.pages.length = pgs s.n := by unfold Sec.pages; simp
theorem pages_at (s : Sec) (j : Nat) (h : j < pgs s.n) : s.pages[j]? = some (s.part j) := by
  unfold Sec.pages
  rw [List.getElem?_map, List.getElem?_range h]
  rfl
theorem ahead_zero (L : List Sec) : ahead L 0 = 0 := rfl
theorem ahead_cons (y : Sec) (L : List Sec) (s : Nat) : ahead (y :: L) (s + 1) = pgs y.n + ahead L s := by
  unfold ahead
  simp
theorem ahead_succ (L : List Sec) (s : Nat) (x : Sec) (h : L[s]? = some x) : ahead L (s + 1) = ahead L s + pgs x.n := by
  unfold ahead
  rw [List.take_add_one, h]
  simp
theorem startAt_succ (L : List Sec) (s : Nat) (x : Sec) (h : L[s]? = some x) : startAt L (s + 1) = startAt L s + pgs x.n := by
  unfold startAt
  rw [ahead_succ L s x h]
  omega
theorem flat_length : ∀ L : List Sec, (L.flatMap Sec.pages).length = ahead L L.length
  | [] => rfl
  | y :: L => by
    rw [List.flatMap_cons, List.length_append, pages_length, flat_length L, List.length_cons, ahead_cons]
theorem body_length (L : List Sec) : (body L).length = allPages L := by
  unfold body allPages startAt
  rw [List.length_cons, flat_length]
  omega
theorem flat_at : ∀ (L : List Sec) (s : Nat) (x : Sec) (j : Nat), L[s]? = some x → j < pgs x.n → (L.flatMap Sec.pages)[ahead L s + j]? = some (x.part j)
  | [], s, x, j, h, _ => by simp at h
  | y :: L, 0, x, j, h, hj => by
    simp at h
    subst h
    rw [List.flatMap_cons, ahead_zero, Nat.zero_add, List.getElem?_append_left (by rw [pages_length]; exact hj)]
    exact pages_at _ _ hj
  | y :: L, s + 1, x, j, h, hj => by
    rw [List.flatMap_cons, ahead_cons, List.getElem?_append_right (by rw [pages_length]; omega), pages_length, show pgs y.n + ahead L s + j - pgs y.n = ahead L s + j by omega]
    exact flat_at L s x j (by simpa using h) hj
theorem flat_split : ∀ (L : List Sec) (p : Nat), p < ahead L L.length → ∃ s x j, L[s]? = some x ∧ j < pgs x.n ∧ p = ahead L s + j
  | [], p, h => by simp [ahead] at h
  | y :: L, p, h => by
    by_cases hp : p < pgs y.n
    · exact ⟨0, y, p, rfl, hp, by rw [ahead_zero]; omega⟩
    · rw [List.length_cons, ahead_cons] at h
      obtain ⟨s, x, j, h1, h2, h3⟩ := flat_split L (p - pgs y.n) (by omega)
      exact ⟨s + 1, x, j, by simpa using h1, h2, by rw [ahead_cons]; omega⟩
/-- the head. -/
theorem body_head (L : List Sec) : (body L)[0]? = some (headOf L) := rfl
/-- a section's page. -/
theorem body_at (L : List Sec) (s : Nat) (x : Sec) (j : Nat) (h : L[s]? = some x) (hj : j < pgs x.n) : (body L)[startAt L s + j]? = some (x.part j) := by
  unfold body startAt
  rw [show 1 + ahead L s + j = (ahead L s + j) + 1 by omega, List.getElem?_cons_succ]
  exact flat_at L s x j h hj
/-- every page is the head, or a section's. -/
theorem body_split (L : List Sec) (p : Nat) (h : p < allPages L) : p = 0 ∨ ∃ s x j, L[s]? = some x ∧ j < pgs x.n ∧ p = startAt L s + j := by
  rcases p with _ | p
  · exact .inl rfl
  · unfold allPages startAt at h
    obtain ⟨s, x, j, h1, h2, h3⟩ := flat_split L p (by omega)
    exact .inr ⟨s, x, j, h1, h2, by unfold startAt; omega⟩
theorem image_at (L : List Sec) (p j : Nat) (c : Sec) (h : (body L)[p]? = some c) (hj : j < 264) : imageOf L (264 * p + j) = pageOf c.V c.n p j := by
  unfold imageOf
  rw [show (264 * p + j) / 264 = p by omega, show (264 * p + j) % 264 = j by omega, h]

/-! A page of an image: it ends with its sum, has its number, holds its part. -/
theorem part_le (s : Sec) (j : Nat) : (s.part j).n ≤ 256 := by unfold Sec.part; exact Nat.min_le_left _ _
theorem part_padded (s : Sec) (j k : Nat) (hk : k < 256) : padded (s.part j).V (s.part j).n k = padded s.V s.n (256 * j + k) := by
  unfold padded Sec.part
  by_cases h : 256 * j + k < s.n
  · rw [if_pos (by show k < min 256 (s.n - 256 * j); omega), if_pos h]
  · rw [if_neg (by show ¬ k < min 256 (s.n - 256 * j); omega), if_neg h]
theorem ends_congr {V U : Nat → Nat} {n : Nat} (h : ∀ k, k < n + 4 → V k = U k) (hV : Pl.Ends V n) : Pl.Ends U n := fun i hi => by
  rw [← h (n + i) (by omega), hV i hi, sumN_congr fun k hk => h k (by omega)]
theorem numberOf_congr {V U : Nat → Nat} (h : ∀ k, k < 264 → V k = U k) : numberOf V = numberOf U := by
  unfold numberOf
  rw [h 256 (by omega), h 257 (by omega), h 258 (by omega), h 259 (by omega)]
theorem pageOf_congr {V V' : Nat → Nat} {n n' : Nat} (t : Nat) (h : ∀ k, k < 256 → padded V n k = padded V' n' k) (k : Nat) : pageOf V n t k = pageOf V' n' t k := by
  unfold pageOf
  have hb : ∀ j, j < 260 → bodyOf V n t j = bodyOf V' n' t j := fun j _ => by
    unfold bodyOf both
    split
    · exact h j (by assumption)
    · rfl
  unfold behind both
  rw [sumN_congr hb]
  split
  · exact hb k (by assumption)
  · rfl
/-- a page's bytes within an image. -/
theorem image_byte (L : List Sec) (p k : Nat) (c : Sec) (h : (body L)[p]? = some c) (hk : k < 256) : imageOf L (264 * p + k) = padded c.V c.n k := by
  rw [image_at L p k c h (by omega)]
  exact pageOf_bytes _ _ _ _ hk
theorem head_byte (L : List Sec) (k : Nat) (hk : k < 256) : imageOf L k = padded (headV L) (6 + 4 * L.length) k := by
  have h := image_byte L 0 k (headOf L) (body_head L) hk
  rw [Nat.mul_zero, Nat.zero_add] at h
  exact h
/-- where the k-th byte of a section that begins at page f stands. -/
def place (f k : Nat) : Nat := 264 * (f + k / 256) + k % 256
theorem sec_byte (L : List Sec) (s : Nat) (x : Sec) (k : Nat) (h : L[s]? = some x) (hk : k < 256 * pgs x.n) : imageOf L (place (startAt L s) k) = padded x.V x.n k := by
  unfold place
  rw [image_byte L _ (k % 256) _ (body_at L s x (k / 256) h (by omega)) (by omega), part_padded _ _ _ (by omega), show 256 * (k / 256) + k % 256 = k by omega]
theorem pgs_room (n : Nat) : n ≤ 256 * pgs n := by unfold pgs; omega
theorem image_ends (L : List Sec) (p : Nat) (hp : p < allPages L) : Pl.Ends (fun j => imageOf L (264 * p + j)) 260 := by
  obtain ⟨c, hc⟩ : ∃ c, (body L)[p]? = some c := ⟨_, List.getElem?_eq_getElem (by rw [body_length]; exact hp)⟩
  exact ends_congr (fun k hk => (image_at L p k c hc (by omega)).symm) (pageOf_ends c.V c.n p)
theorem image_number (L : List Sec) (p : Nat) (hp : p < allPages L) (h4 : p < 65536) : numberOf (fun j => imageOf L (264 * p + j)) = p := by
  obtain ⟨c, hc⟩ : ∃ c, (body L)[p]? = some c := ⟨_, List.getElem?_eq_getElem (by rw [body_length]; exact hp)⟩
  rw [numberOf_congr (fun k hk => image_at L p k c hc hk)]
  exact numberOf_page c.V c.n p h4

/-! Which sections may be. -/
structure Fits (L : List Sec) : Prop where
  few : L.length ≤ 60
  pages : allPages L ≤ 4096
  bytes : ∀ s ∈ L, ∀ k, k < s.n → s.V k < 256
theorem ahead_le : ∀ (L : List Sec) (s : Nat) (x : Sec), L[s]? = some x → ahead L s + pgs x.n ≤ ahead L L.length
  | [], s, x, h => by simp at h
  | y :: L, 0, x, h => by
    simp at h
    subst h
    rw [List.length_cons, ahead_cons, ahead_zero]
    omega
  | y :: L, s + 1, x, h => by
    have := ahead_le L s x (by simpa using h)
    rw [List.length_cons, ahead_cons, ahead_cons]
    omega
theorem Fits.short {L : List Sec} (h : Fits L) {s : Nat} {x : Sec} (hs : L[s]? = some x) : startAt L s + pgs x.n ≤ allPages L ∧ x.n ≤ 1048320 := by
  have h1 := ahead_le L s x hs
  have h2 := h.pages
  have h3 := pgs_room x.n
  unfold allPages startAt at h2 ⊢
  omega
theorem headV_lt (L : List Sec) (h : L.length ≤ 60) (k : Nat) : headV L k < 256 := by
  unfold headV
  repeat' split
  all_goals first | omega | exact byteOf_lt _ _
theorem headV_len (L : List Sec) (i b : Nat) (hb : b < 4) : headV L (6 + 4 * i + b) = byteOf (lenAt L i) b := by
  unfold headV
  rw [if_neg (by omega), if_neg (by omega), if_neg (by omega), if_neg (by omega), if_neg (by omega), if_neg (by omega), show (6 + 4 * i + b - 6) / 4 = i by omega, show (6 + 4 * i + b - 6) % 4 = b by omega]
theorem Fits.byte {L : List Sec} (h : Fits L) (k : Nat) : imageOf L k < 256 := by
  unfold imageOf
  split
  · rename_i c hc
    refine pageOf_lt (fun j hj => ?_) _
    have hm := List.mem_of_getElem? hc
    unfold body at hm
    rcases List.mem_cons.1 hm with rfl | hm
    · exact headV_lt L h.few j
    · obtain ⟨x, hx, hx2⟩ := List.mem_flatMap.1 hm
      unfold Sec.pages at hx2
      obtain ⟨i, _, rfl⟩ := List.mem_map.1 hx2
      refine h.bytes x hx _ ?_
      have : j < min 256 (x.n - 256 * i) := hj
      omega
  · decide

/-! What bytes say of themselves. -/
def lenU (U : Nat → Nat) (i : Nat) : Nat := U (6 + 4 * i) + 256 * U (6 + 4 * i + 1) + 65536 * U (6 + 4 * i + 2) + 16777216 * U (6 + 4 * i + 3)
def startU (U : Nat → Nat) : Nat → Nat
  | 0 => 1
  | s + 1 => startU U s + pgs (lenU U s)
def secU (U : Nat → Nat) (i : Nat) : Sec := ⟨lenU U i, fun k => U (place (startU U i) k)⟩
def secsU (U : Nat → Nat) : List Sec := (List.range (U 4)).map (secU U)
theorem secsU_length (U : Nat → Nat) : (secsU U).length = U 4 := by unfold secsU; simp
theorem secsU_at (U : Nat → Nat) (i : Nat) (h : i < U 4) : (secsU U)[i]? = some (secU U i) := by
  unfold secsU
  rw [List.getElem?_map, List.getElem?_range h]
  rfl
theorem secsU_start (U : Nat → Nat) : ∀ i, i ≤ U 4 → startAt (secsU U) i = startU U i
  | 0, _ => rfl
  | i + 1, h => by
    rw [startAt_succ _ i _ (secsU_at U i (by omega)), secsU_start U i (by omega)]
    rfl
theorem secsU_all (U : Nat → Nat) : allPages (secsU U) = startU U (U 4) := by
  unfold allPages
  rw [secsU_length]
  exact secsU_start U _ (Nat.le_refl _)

/-- bytes that are an image, told page by page. -/
structure Formed (N : Nat) (U : Nat → Nat) : Prop where
  size : N = 264 * startU U (U 4)
  few : U 4 ≤ 60
  fits : startU U (U 4) ≤ 4096
  ends : ∀ p, p < startU U (U 4) → Pl.Ends (fun j => U (264 * p + j)) 260
  number : ∀ p, p < startU U (U 4) → numberOf (fun j => U (264 * p + j)) = p
  colo : U 0 = 99 ∧ U 1 = 111 ∧ U 2 = 108 ∧ U 3 = 111 ∧ U 5 = 0
  headNought : ∀ k, 6 + 4 * U 4 ≤ k → k < 256 → U k = 0
  nought : ∀ i, i < U 4 → ∀ k, lenU U i ≤ k → k < 256 * pgs (lenU U i) → U (place (startU U i) k) = 0
/-- bytes that are an image of sections. -/
def IsImage (N : Nat) (U : Nat → Nat) (L : List Sec) : Prop := Fits L ∧ N = 264 * allPages L ∧ ∀ k, k < N → U k = imageOf L k

theorem four_bytes (n : Nat) (h : n < 4294967296) : byteOf n 0 + 256 * byteOf n 1 + 65536 * byteOf n 2 + 16777216 * byteOf n 3 = n := by
  unfold byteOf
  rw [Nat.pow_zero, Nat.pow_one, show (256 : Nat) ^ 2 = 65536 from rfl, show (256 : Nat) ^ 3 = 16777216 from rfl]
  omega
theorem byte_four (a b c d : Nat) (ha : a < 256) (hb : b < 256) (hc : c < 256) (hd : d < 256) (i : Nat) (hi : i < 4) : byteOf (a + 256 * b + 65536 * c + 16777216 * d) i = if i = 0 then a else if i = 1 then b else if i = 2 then c else d := by
  have h : i = 0 ∨ i = 1 ∨ i = 2 ∨ i = 3 := by omega
  unfold byteOf
  rcases h with rfl | rfl | rfl | rfl
  · rw [Nat.pow_zero, if_pos rfl]; omega
  · rw [Nat.pow_one, if_neg (by decide), if_pos rfl]; omega
  · rw [show (256 : Nat) ^ 2 = 65536 from rfl, if_neg (by decide), if_neg (by decide), if_pos rfl]; omega
  · rw [show (256 : Nat) ^ 3 = 16777216 from rfl, if_neg (by decide), if_neg (by decide), if_neg (by decide)]; omega
theorem lenAt_at {L : List Sec} {i : Nat} {x : Sec} (h : L[i]? = some x) : lenAt L i = x.n := by unfold lenAt; rw [h]; rfl
theorem place_lt {f k m : Nat} (hk : k < 256 * m) : place f k < 264 * (f + m) := by
  unfold place
  omega

section
variable {N : Nat} {U : Nat → Nat} {L : List Sec}
theorem IsImage.one (h : IsImage N U L) : 264 ≤ N := by
  have := h.2.1
  unfold allPages startAt at this
  omega
theorem IsImage.head (h : IsImage N U L) (k : Nat) (hk : k < 256) : U k = padded (headV L) (6 + 4 * L.length) k := by
  rw [h.2.2 k (by have := h.one; omega), head_byte L k hk]
theorem IsImage.headIn (h : IsImage N U L) (k : Nat) (hk : k < 6 + 4 * L.length) : U k = headV L k := by
  have := h.1.few
  rw [h.head k (by omega)]
  unfold padded
  rw [if_pos hk]
theorem IsImage.count (h : IsImage N U L) : U 4 = L.length := h.headIn 4 (by omega)
theorem IsImage.len (h : IsImage N U L) (i : Nat) (x : Sec) (hx : L[i]? = some x) : lenU U i = x.n := by
  have hi := (List.getElem?_eq_some_iff.1 hx).1
  have hn := (h.1.short hx).2
  unfold lenU
  have e0 := headV_len L i 0 (by omega)
  rw [Nat.add_zero] at e0
  rw [h.headIn (6 + 4 * i) (by omega), h.headIn (6 + 4 * i + 1) (by omega), h.headIn (6 + 4 * i + 2) (by omega), h.headIn (6 + 4 * i + 3) (by omega), e0, headV_len L i 1 (by omega), headV_len L i 2 (by omega), headV_len L i 3 (by omega), lenAt_at hx]
  exact four_bytes x.n (by omega)
theorem IsImage.start (h : IsImage N U L) : ∀ i, i ≤ L.length → startU U i = startAt L i
  | 0, _ => rfl
  | i + 1, hi => by
    obtain ⟨x, hx⟩ : ∃ x, L[i]? = some x := ⟨_, List.getElem?_eq_getElem (by omega)⟩
    rw [startAt_succ L i x hx, ← h.start i (by omega)]
    show startU U i + pgs (lenU U i) = _
    rw [h.len i x hx]
theorem IsImage.all (h : IsImage N U L) : startU U (U 4) = allPages L := by rw [h.count]; exact h.start _ (Nat.le_refl _)
theorem IsImage.sec (h : IsImage N U L) (i : Nat) (x : Sec) (hx : L[i]? = some x) (k : Nat) (hk : k < 256 * pgs x.n) : U (place (startU U i) k) = padded x.V x.n k := by
  have hi := (List.getElem?_eq_some_iff.1 hx).1
  have h1 := (h.1.short hx).1
  rw [h.start i (by omega), h.2.2 _ (by have := place_lt (f := startAt L i) hk; have := h.2.1; omega)]
  exact sec_byte L i x k hx hk
theorem IsImage.formed (h : IsImage N U L) : Formed N U where
  size := by rw [h.all]; exact h.2.1
  few := by rw [h.count]; exact h.1.few
  fits := by rw [h.all]; exact h.1.pages
  ends := fun p hp => by
    rw [h.all] at hp
    exact ends_congr (fun k hk => (h.2.2 _ (by have := h.2.1; omega)).symm) (image_ends L p hp)
  number := fun p hp => by
    rw [h.all] at hp
    rw [numberOf_congr (fun k hk => h.2.2 _ (by have := h.2.1; omega))]
    exact image_number L p hp (by have := h.1.pages; omega)
  colo := ⟨h.headIn 0 (by omega), h.headIn 1 (by omega), h.headIn 2 (by omega), h.headIn 3 (by omega), h.headIn 5 (by omega)⟩
  headNought := fun k h1 h2 => by
    rw [h.count] at h1
    rw [h.head k h2]
    unfold padded
    rw [if_neg (by omega)]
  nought := fun i hi k h1 h2 => by
    rw [h.count] at hi
    obtain ⟨x, hx⟩ : ∃ x, L[i]? = some x := ⟨_, List.getElem?_eq_getElem hi⟩
    rw [h.len i x hx] at h1 h2
    rw [h.sec i x hx k h2]
    unfold padded
    rw [if_neg (by omega)]

theorem startU_mono (U : Nat → Nat) : ∀ i s, i < s → startU U i + pgs (lenU U i) ≤ startU U s
  | i, 0, h => by omega
  | i, s + 1, h => by
    by_cases e : i = s
    · subst e; exact Nat.le_refl _
    · have := startU_mono U i s (by omega)
      show _ ≤ startU U s + pgs (lenU U s)
      omega
theorem Formed.image (h : Formed N U) (hU : ∀ k, k < N → U k < 256) : IsImage N U (secsU U) := by
  have hall := secsU_all U
  have hin : ∀ i k, i < U 4 → k < 256 * pgs (lenU U i) → place (startU U i) k < N := fun i k hi hk => by
    have h1 := place_lt (f := startU U i) hk
    have h2 := startU_mono U i (U 4) hi
    have h3 := h.size
    omega
  refine ⟨⟨by rw [secsU_length]; exact h.few, by rw [hall]; exact h.fits, fun s hs k hk => ?_⟩, by rw [hall]; exact h.size, fun k hk => ?_⟩
  · unfold secsU at hs
    obtain ⟨i, hi, rfl⟩ := List.mem_map.1 hs
    have hk2 : k < lenU U i := hk
    exact hU _ (hin i k (List.mem_range.1 hi) (by have := pgs_room (lenU U i); omega))
  · have hsz := h.size
    obtain ⟨p, hp⟩ : ∃ p, k / 264 = p := ⟨_, rfl⟩
    obtain ⟨j, hj⟩ : ∃ j, k % 264 = j := ⟨_, rfl⟩
    have hpa : p < startU U (U 4) := by omega
    have hj4 : j < 264 := by omega
    obtain rfl : k = 264 * p + j := by omega
    have hfits := h.fits
    have hb := page_back (U := fun j => U (264 * p + j)) (fun i hi => hU _ (by omega)) (h.ends p hpa) (by rw [h.number p hpa]; omega) j hj4
    rw [h.number p hpa] at hb
    have hb2 : U (264 * p + j) = pageOf (fun j => U (264 * p + j)) 256 p j := hb
    rw [hb2]
    have hfour := h.few
    rcases body_split (secsU U) p (by rw [hall]; exact hpa) with rfl | ⟨s, x, i, h1, h2, rfl⟩
    · rw [image_at _ 0 j _ (body_head _) hj4]
      refine pageOf_congr 0 (fun q hq => ?_) j
      have hN : 264 ≤ N := by omega
      unfold padded
      rw [if_pos hq, Nat.mul_zero]
      show U (0 + q) = if q < 6 + 4 * (secsU U).length then headV (secsU U) q else 0
      rw [Nat.zero_add]
      rw [secsU_length]
      by_cases hq2 : q < 6 + 4 * U 4
      · rw [if_pos hq2]
        by_cases hq6 : q < 6
        · obtain ⟨c0, c1, c2, c3, c5⟩ := h.colo
          have hc : q = 0 ∨ q = 1 ∨ q = 2 ∨ q = 3 ∨ q = 4 ∨ q = 5 := by omega
          rcases hc with rfl | rfl | rfl | rfl | rfl | rfl
          · exact c0
          · exact c1
          · exact c2
          · exact c3
          · exact (secsU_length U).symm
          · exact c5
        · obtain ⟨i, hi⟩ : ∃ i, (q - 6) / 4 = i := ⟨_, rfl⟩
          obtain ⟨b, hb⟩ : ∃ b, (q - 6) % 4 = b := ⟨_, rfl⟩
          obtain rfl : q = 6 + 4 * i + b := by omega
          have hb4 : b < 4 := by omega
          rw [headV_len _ _ _ hb4, lenAt_at (secsU_at U i (by omega))]
          show _ = byteOf (lenU U i) b
          unfold lenU
          rw [byte_four _ _ _ _ (hU _ (by omega)) (hU _ (by omega)) (hU _ (by omega)) (hU _ (by omega)) b hb4]
          have hc : b = 0 ∨ b = 1 ∨ b = 2 ∨ b = 3 := by omega
          rcases hc with rfl | rfl | rfl | rfl <;> rfl
      · rw [if_neg hq2]
        exact h.headNought q (by omega) hq
    · have hs : s < U 4 := by
        have := (List.getElem?_eq_some_iff.1 h1).1
        rwa [secsU_length] at this
      obtain rfl : secU U s = x := by
        rw [secsU_at U s hs] at h1
        simpa using h1
      rw [image_at _ _ j _ (body_at _ s _ i h1 h2) hj4]
      refine pageOf_congr _ (fun q hq => ?_) j
      rw [part_padded _ _ _ hq, secsU_start U s (by omega)]
      have h2' : i < pgs (lenU U s) := h2
      have hpl : place (startU U s) (256 * i + q) = 264 * (startU U s + i) + q := by unfold place; omega
      show padded _ _ _ = padded (fun k => U (place (startU U s) k)) (lenU U s) (256 * i + q)
      unfold padded
      rw [if_pos hq]
      by_cases hl : 256 * i + q < lenU U s
      · rw [if_pos hl]
        show U (264 * (startU U s + i) + q) = U (place (startU U s) (256 * i + q))
        rw [hpl]
      · rw [if_neg hl]
        show U (264 * (startU U s + i) + q) = 0
        rw [← hpl]
        exact h.nought s hs _ (by omega) (by omega)
end

/-! Sections alike: their images are alike; and one image has sections that are all alike. -/
def SameS (L L' : List Sec) : Prop := L.length = L'.length ∧ ∀ (i : Nat) (x y : Sec), L[i]? = some x → L'[i]? = some y → x.n = y.n ∧ ∀ k, k < x.n → x.V k = y.V k
theorem SameS.refl (L : List Sec) : SameS L L := ⟨rfl, fun i x y h1 h2 => by
  rw [h1] at h2
  cases h2
  exact ⟨rfl, fun _ _ => rfl⟩⟩
theorem SameS.symm {L L' : List Sec} (h : SameS L L') : SameS L' L := ⟨h.1.symm, fun i x y h1 h2 => by
  obtain ⟨e1, e2⟩ := h.2 i y x h2 h1
  exact ⟨e1.symm, fun k hk => (e2 k (by omega)).symm⟩⟩
theorem SameS.trans {A B C : List Sec} (h : SameS A B) (k : SameS B C) : SameS A C := ⟨h.1.trans k.1, fun i x z h1 h3 => by
  have hi := (List.getElem?_eq_some_iff.1 h1).1
  obtain ⟨y, h2⟩ : ∃ y, B[i]? = some y := ⟨_, List.getElem?_eq_getElem (by have := h.1; omega)⟩
  obtain ⟨a1, a2⟩ := h.2 i x y h1 h2
  obtain ⟨b1, b2⟩ := k.2 i y z h2 h3
  exact ⟨a1.trans b1, fun j hj => (a2 j hj).trans (b2 j (by omega))⟩⟩
theorem SameS.ahead {L L' : List Sec} (h : SameS L L') : ∀ s, s ≤ L.length → ahead L s = ahead L' s
  | 0, _ => rfl
  | s + 1, hs => by
    obtain ⟨x, hx⟩ : ∃ x, L[s]? = some x := ⟨_, List.getElem?_eq_getElem (by omega)⟩
    obtain ⟨y, hy⟩ : ∃ y, L'[s]? = some y := ⟨_, List.getElem?_eq_getElem (by have := h.1; omega)⟩
    rw [ahead_succ L s x hx, ahead_succ L' s y hy, h.ahead s (by omega), (h.2 s x y hx hy).1]
theorem SameS.all {L L' : List Sec} (h : SameS L L') : allPages L = allPages L' := by
  unfold allPages startAt
  rw [h.ahead _ (Nat.le_refl _), h.1]
theorem SameS.lenAt {L L' : List Sec} (h : SameS L L') (i : Nat) : lenAt L i = lenAt L' i := by
  by_cases hi : i < L.length
  · obtain ⟨x, hx⟩ : ∃ x, L[i]? = some x := ⟨_, List.getElem?_eq_getElem hi⟩
    obtain ⟨y, hy⟩ : ∃ y, L'[i]? = some y := ⟨_, List.getElem?_eq_getElem (by have := h.1; omega)⟩
    rw [lenAt_at hx, lenAt_at hy, (h.2 i x y hx hy).1]
  · have := h.1
    unfold Go.Proofs.YtbkdloebbbmkaaaGreat.lenAt
    rw [List.getElem?_eq_none (by omega), List.getElem?_eq_none (by omega)]
theorem SameS.image {L L' : List Sec} (h : SameS L L') (k : Nat) : imageOf L k = imageOf L' k := by
  obtain ⟨p, hp⟩ : ∃ p, k / 264 = p := ⟨_, rfl⟩
  obtain ⟨j, hj⟩ : ∃ j, k % 264 = j := ⟨_, rfl⟩
  have hj4 : j < 264 := by omega
  obtain rfl : k = 264 * p + j := by omega
  by_cases hpa : p < allPages L
  · rcases body_split L p hpa with rfl | ⟨s, x, i, h1, h2, rfl⟩
    · rw [image_at L 0 j _ (body_head L) hj4, image_at L' 0 j _ (body_head L') hj4]
      refine pageOf_congr 0 (fun q _ => ?_) j
      show padded (headV L) (6 + 4 * L.length) q = padded (headV L') (6 + 4 * L'.length) q
      rw [show headV L = headV L' from funext fun z => by unfold headV; rw [h.1, h.lenAt], h.1]
    · have hs := (List.getElem?_eq_some_iff.1 h1).1
      obtain ⟨y, hy⟩ : ∃ y, L'[s]? = some y := ⟨_, List.getElem?_eq_getElem (by have := h.1; omega)⟩
      obtain ⟨e1, e2⟩ := h.2 s x y h1 hy
      rw [image_at L _ j _ (body_at L s x i h1 h2) hj4]
      have hst : startAt L s = startAt L' s := by unfold startAt; rw [h.ahead s (by omega)]
      rw [hst, image_at L' _ j _ (body_at L' s y i hy (by rw [← e1]; exact h2)) hj4]
      refine pageOf_congr _ (fun q hq => ?_) j
      rw [part_padded _ _ _ hq, part_padded _ _ _ hq]
      unfold padded
      rw [← e1]
      split
      · exact e2 _ (by assumption)
      · rfl
  · have hpb := hpa
    rw [h.all] at hpb
    unfold imageOf
    rw [show (264 * p + j) / 264 = p by omega, List.getElem?_eq_none (by rw [body_length]; omega), List.getElem?_eq_none (by rw [body_length]; omega)]
theorem IsImage.same {N : Nat} {U : Nat → Nat} {L L' : List Sec} (h : IsImage N U L) (h' : IsImage N U L') : SameS L L' := ⟨by rw [← h.count, h'.count], fun i x y h1 h2 => by
  have e1 := h.len i x h1
  have e2 := h'.len i y h2
  have en : x.n = y.n := by rw [← e1, e2]
  refine ⟨en, fun k hk => ?_⟩
  have hr := pgs_room x.n
  have a := h.sec i x h1 k (by omega)
  have b := h'.sec i y h2 k (by rw [← en]; omega)
  unfold padded at a b
  rw [if_pos hk] at a
  rw [if_pos (by omega)] at b
  rw [← a, b]⟩
/-- of images alike the sections are alike. -/
theorem image_same {L L' : List Sec} (h : Fits L) (h' : Fits L') (hp : allPages L = allPages L') (hk : ∀ k, k < 264 * allPages L → imageOf L k = imageOf L' k) : SameS L L' :=
  IsImage.same (N := 264 * allPages L) (U := imageOf L) ⟨h, rfl, fun _ _ => rfl⟩ ⟨h', by rw [hp], hk⟩
/-- what has a page with a wrong sum, or another number, is no image. -/
theorem no_image_sum {N : Nat} {U : Nat → Nat} {p : Nat} (hp : p < N / 264) (h : ¬ Pl.Ends (fun j => U (264 * p + j)) 260) : ¬ ∃ L, IsImage N U L := fun ⟨_, hL⟩ => by
  have hF := hL.formed
  exact h (hF.ends p (by have := hF.size; omega))
theorem no_image_number {N : Nat} {U : Nat → Nat} {p : Nat} (hp : p < N / 264) (h : numberOf (fun j => U (264 * p + j)) ≠ p) : ¬ ∃ L, IsImage N U L := fun ⟨_, hL⟩ => by
  have hF := hL.formed
  exact h (hF.number p (by have := hF.size; omega))
theorem no_image_short {N : Nat} {U : Nat → Nat} (h : N % 264 ≠ 0 ∨ N = 0) : ¬ ∃ L, IsImage N U L := fun ⟨_, hL⟩ => by
  have h1 := hL.formed.size
  have h2 := hL.one
  omega
end Go.Proofs.YtbkdloebbbmkaaaGreat
