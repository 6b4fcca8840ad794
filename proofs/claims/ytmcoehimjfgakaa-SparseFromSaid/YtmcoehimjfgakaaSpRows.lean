/- Rows of ints of the call's own; words of a sparse list with places or without. -/
import Derived.Test.YtmcoehimjfgakaaSpLaw
namespace Go.Proofs.Ytmcoehimjfgakaa
open Go.RowKit

/-- ints as cells. -/
def icells (V : Nat → Int) (n : Nat) : List Value := (List.range n).map fun t => Value.int .i64 (V t)
theorem icells_length (V : Nat → Int) (n : Nat) : (icells V n).length = n := by unfold icells; simp
theorem icells_snoc (V : Nat → Int) (n : Nat) : icells V (n + 1) = icells V n ++ [.int .i64 (V n)] := by
  unfold icells
  rw [List.range_succ]
  simp
theorem icells_at (V : Nat → Int) (n k : Nat) (h : k < n) : (icells V n)[k]? = some (.int .i64 (V k)) := by
  unfold icells
  rw [List.getElem?_map, List.getElem?_range h]
  rfl
theorem icells_one (V : Nat → Int) (n : Nat) : ∀ v ∈ icells V n, v.oneCell' = true := by
  intro v hv
  unfold icells at hv
  obtain ⟨x, _, rfl⟩ := List.mem_map.1 hv
  rfl

theorem Its.of_own {w : World} {B n : Nat} {v : Value} {V : Nat → Int} (h : w.ownsRow B 3 1 v n (icells V n)) (hV : ∀ i, i < n → -9223372036854775808 ≤ V i ∧ V i ≤ 9223372036854775807) : ∃ A c, v = .slice A n c ∧ Its w w.heap.size A n V := by
  have hlt := h.lt
  rcases h.2 with ⟨rfl, rfl⟩ | ⟨g, cap, cur, rfl, hg, hh, _⟩
  · exact ⟨none, 0, rfl, fun k hk => absurd hk (by omega)⟩
  · refine ⟨some ⟨g, 0, none⟩, cap, rfl, fun k hk => ⟨⟨g, 0, none⟩, rfl, (hlt g rfl).2, ?_, hV k hk⟩⟩
    have e : (⟨g, 0, none⟩ : Addr).add k = ⟨g, k, none⟩ := by unfold Addr.add; split <;> simp_all
    rw [e, h.cellAt k (by omega), icells_at _ _ k hk]

/-- append of one int to a row of the call's own, as a step of the walk. -/
theorem step_append_int {ops : Array Oper} {rest : List Oper} {o : Oper} {a : Act} {Q : Exit → Act → World → Prop} (hgd : o.guard = none) (s x : Operand)
    (ho : o.op = .call { callee := .builtin .append, args := #[s, x], argTypes := #[22, 22] })
    {w : World} {B : Nat} {v : Value} {i : Nat} {xs : List Value} (hs : a.eval s = v) (hown : w.ownsRow B 3 1 v i xs) (y : Int) (hx : a.eval x = .slice (some ⟨w.heap.size, 0, none⟩) 1 1) (hB : B ≤ w.heap.size) (hi : i ≤ 4194304)
    (h : ∀ v' w', Hid (w'.ownsRow B 3 1 v' (i + 1) (xs ++ [.int .i64 y])) → Below B w w' → wpList Try.prog ops Q rest (a.put o.dst v') w') :
    wpList Try.prog ops Q (o :: rest) a (w.alloc (.cells #[.int .i64 y] 3)) := by
  obtain ⟨i0, hi0, hz0, hs0, hb0⟩ := info_parts info_int
  have hl := lies_new w 3 [.int .i64 y]
  refine wpList_append_own _ hgd s x 22 ho B 3 i0 (.int .i64 0) 1 8 Try.underlying22 hi0 hz0 hs0 hb0 rfl (by decide) v i xs hs (hown.alloc _) ⟨w.heap.size, 0, none⟩ 1 1 [.int .i64 y] hx rfl (fun j u hj => by
      cases j with
      | zero => simp at hj; subst hj; exact hl.cell 0
      | succ j => simp at hj) (fun u hu => by simp at hu; subst hu; rfl) (by unfold maxLen; omega) (by omega) (by rw [size_alloc]; omega) (fun v' w' h2 h3 _ => ?_)
  exact h v' w' h2 (((Below.refl _ _).alloc hB _).grown h3 (by rw [size_alloc]; omega) (fun k hk => (hown.lt k hk).1))

/-- append of all ints of a slice to a new, empty one, as a step of the walk. -/
theorem step_append_list {ops : Array Oper} {rest : List Oper} {o : Oper} {a : Act} {Q : Exit → Act → World → Prop} (hgd : o.guard = none) (s x : Operand)
    (ho : o.op = .call { callee := .builtin .append, args := #[s, x], argTypes := #[22, 22] })
    {w : World} {A : Option Addr} {n c : Nat} {V : Nat → Int} (hs : a.eval s = .slice (some ⟨w.heap.size, 0, none⟩) 0 0) (hx : a.eval x = .slice A n c) (hn : n ≤ 4194304)
    (hA : A = none → n = 0 ∧ c = 0) (hW : Its w w.heap.size A n V)
    (h : ∀ g c' w', Hid (w'.ownsRow w.heap.size 3 1 (.slice (some ⟨g, 0, none⟩) n c') n (icells V n)) → Below w.heap.size w w' → wpList Try.prog ops Q rest (a.put o.dst (.slice (some ⟨g, 0, none⟩) n c')) w') :
    wpList Try.prog ops Q (o :: rest) a (w.alloc (.cells #[] 3)) := by
  obtain ⟨i0, hi0, hz0, hs0, hb0⟩ := info_parts info_int
  have hown : (w.alloc (.cells #[] 3)).ownsRow w.heap.size 3 1 (.slice (some ⟨w.heap.size, 0, none⟩) 0 0) 0 [] := World.ownsRow_lit w #[] 0 (Nat.le_refl _) (Nat.zero_le _) rfl
  rcases A with _ | ad
  · obtain ⟨rfl, rfl⟩ := hA rfl
    refine wpList_append_own_none hgd s x 22 ho w.heap.size 3 i0 1 Try.underlying22 hi0 _ 0 [] hs hown hx ?_
    exact h w.heap.size 0 _ (World.ownsRow_lit w #[] 0 (Nat.le_refl _) (Nat.zero_le _) rfl) ((Below.refl _ _).alloc (Nat.le_refl _) _)
  · refine wpList_append_own _ hgd s x 22 ho w.heap.size 3 i0 (.int .i64 0) 1 8 Try.underlying22 hi0 hz0 hs0 hb0 rfl (by decide) _ 0 [] hs hown ad n c (icells V n) hx
      (by rw [icells_length]; omega) (fun j u hj => ?_) (icells_one _ _) (by unfold maxLen; omega) (by omega) (by rw [size_alloc]; omega) (fun v' w' h2 h3 h4 => ?_)
    · have hjn : j < n := by
        have := (List.getElem?_eq_some_iff.1 hj).1
        rw [icells_length] at this
        exact this
      rw [icells_at _ _ _ hjn] at hj
      obtain ⟨ad', e, hb, hc, _⟩ := hW j hjn
      cases e
      rw [← hj, ← hc]
      exact World.cell?_of_block (Below.heap_alloc w _ _ (by rw [add_block]; exact hb))
    · rw [List.nil_append, Nat.zero_add] at h2
      have hbw : Below w.heap.size w w' := ((Below.refl _ _).alloc (Nat.le_refl _) _).grown h3 (by rw [size_alloc]; omega) (fun k hk => by
        simp [Value.ownBlock] at hk
        omega)
      rcases h2.2 with ⟨rfl, _⟩ | ⟨g, cap, cur, rfl, hg, rest2⟩
      · exact absurd (h4.1 rfl).1 (by simp)
      · exact h g cap w' ⟨h2.1, .inr ⟨g, cap, cur, rfl, hg, rest2⟩⟩ hbw

/-- a slice that reads as these words. -/
def Rds (w : World) (v : Value) (ws : List Nat) : Prop := ∃ A c, v = .slice A ws.length c ∧ Wds w w.heap.size A ws.length (fun k => ws.getD k 0)
theorem Rds.keep {w w' : World} {v : Value} {ws : List Nat} (h : Rds w v ws) (hb : Below w.heap.size w w') : Rds w' v ws := by
  obtain ⟨A, c, e, h⟩ := h
  exact ⟨A, c, e, (h.below hb).mono_ hb.size⟩
theorem Rds.of_lies {w : World} {g : Nat} {ws : List Nat} {n c : Nat} (h : Lies w g 43 (wcells ws)) (hs : Pl.Small ws) (hn : n = ws.length) : Rds w (.slice (some ⟨g, 0, none⟩) n c) ws := by
  subst hn
  refine ⟨_, c, rfl, fun k hk => ⟨⟨g, 0, none⟩, rfl, h.lt, ?_, hs.at_ k⟩⟩
  have e : (⟨g, 0, none⟩ : Addr).add k = ⟨g, k, none⟩ := by unfold Addr.add; split <;> simp_all
  rw [e, h.cell k]
  exact wcells_at ws k hk
theorem Rds.of_own {w : World} {B : Nat} {v : Value} {ws : List Nat} (h : Wrow w B v ws) (hs : Pl.Small ws) : Rds w v ws := by
  have hlt := World.ownsRow.lt h
  rcases h.2 with ⟨rfl, h0⟩ | ⟨g, cap, cur, rfl, hg, hh, _⟩
  · have e : ws = [] := List.length_eq_zero_iff.1 h0
    subst e
    exact ⟨none, 0, rfl, fun k hk => absurd hk (Nat.not_lt_zero _)⟩
  · refine ⟨some ⟨g, 0, none⟩, cap, rfl, fun k hk => ⟨⟨g, 0, none⟩, rfl, (hlt g rfl).2, ?_, hs.at_ k⟩⟩
    have e : (⟨g, 0, none⟩ : Addr).add k = ⟨g, k, none⟩ := by unfold Addr.add; split <;> simp_all
    rw [e, World.ownsRow.cellAt h k (by omega)]
    exact wcells_at ws k hk
theorem Rds.nil (w : World) : Rds w (.slice none 0 0) [] := ⟨none, 0, rfl, fun _ hk => absurd hk (Nat.not_lt_zero _)⟩
/-- slices that read as the same words are the same. -/
theorem same_rds {w : World} {v1 v2 : Value} {ws : List Nat} (hn : ws.length ≤ 8388608) (h1 : Rds w v1 ws) (h2 : Rds w v2 ws) : Calls Try.prog 19 #[v1, v2] w fun e w' => e = .returned (.bool true) ∧ Below w.heap.size w w' := by
  obtain ⟨A1, c1, rfl, h1⟩ := h1
  obtain ⟨A2, c2, rfl, h2⟩ := h2
  exact same_yes A1 A2 ws.length c1 c2 _ w.heap.size w hn h1 h2

/-- what Words of a sparse list leaves, and the document's. -/
def TwoRds (w : World) (hs ls : List Nat) (e : Ending) (w' : World) : Prop := ∃ v1 v2, e = .returned (.tuple #[v1, v2]) ∧ Rds w' v1 hs ∧ Rds w' v2 ls ∧ Below w.heap.size w w'
theorem Fit.small1 {n m : Nat} {hs ls : List Nat} {l : Nat → Nat} (h : Fit n m hs ls l) : Pl.Small hs := h.high.small
theorem Fit.small2 {n m : Nat} {hs ls : List Nat} {l : Nat → Nat} (h : Fit n m hs ls l) : Pl.Small ls := h.low.small

/-- the words of m places: none of none. -/
def Fits (n m : Nat) (hs ls : List Nat) (l : Nat → Nat) : Prop := (m = 0 ∧ hs = [] ∧ ls = []) ∨ (1 ≤ m ∧ Fit n m hs ls l)
theorem Fits.unique {n m : Nat} {hs ls hs' ls' : List Nat} {l : Nat → Nat} (h : Fits n m hs ls l) (h' : Fits n m hs' ls' l) : hs = hs' ∧ ls = ls' := by
  rcases h with ⟨h0, rfl, rfl⟩ | ⟨h0, h⟩
  · rcases h' with ⟨_, rfl, rfl⟩ | ⟨h1, _⟩
    · exact ⟨rfl, rfl⟩
    · omega
  · rcases h' with ⟨h1, _⟩ | ⟨_, h'⟩
    · omega
    · exact h.unique h'

/-- Words of a sparse list. -/
theorem st_words {w : World} {B g n m : Nat} {hs ls : List Nat} {l : Nat → Nat} (h : St w B g n m hs ls l) : Calls Try.prog 17 #[.pointer (some ⟨g, 0, none⟩)] w fun e w' => ∃ hs' ls', Fits n m hs' ls' l ∧ (1 ≤ m → hs' = hs ∧ ls' = ls) ∧ TwoRds w hs' ls' e w' := by
  rcases h with ⟨rfl, h, _⟩ | ⟨hf, _, _, _, _, h⟩
  · have HL := Lib.hid (len_zero h)
    clear h
    go_enter Try.func17, Try.ntmps17
    go_wp2_with fail
    with_reducible refine HL.out.mono ?_
    rintro e w' ⟨rfl, rfl⟩
    go_wp2_with fail
    go_ret2
    exact ⟨[], [], .inl ⟨rfl, rfl, rfl⟩, fun h => absurd h (by omega), _, _, rfl, Rds.nil _, Rds.nil _, Below.refl _ _⟩
  · refine (swords_all h).mono ?_
    rintro e w' ⟨a, b, rfl, h1, h2, _, _, hb⟩
    exact ⟨hs, ls, .inr ⟨h.pos, hf⟩, fun _ => ⟨rfl, rfl⟩, _, _, rfl, Rds.of_lies h1 hf.small1 rfl, Rds.of_lies h2 hf.small2 rfl, hb⟩
/-- the document's words. -/
theorem ref_words (n m : Nat) (A : Option Addr) (c : Nat) (l : Nat → Nat) (B : Nat) (w : World) (hn : n ≤ 50000 ∨ m = 0) (hm2 : m ≤ 20000) (hmw : m * max 1 (Pl.lw n m) ≤ 200000) (hB : B ≤ w.heap.size) (ho : Nts w B A m l) (hr : Pl.Rise n m l) :
    Calls Try.prog 18 #[.int .i64 (n : Int), .slice A m c] w fun e w' => ∃ hs ls, Fits n m hs ls l ∧ TwoRds w hs ls e w' := by
  by_cases h0 : m = 0
  · subst h0
    refine (swords_zero (n : Int) A c w).mono ?_
    rintro e w' ⟨rfl, rfl⟩
    exact ⟨[], [], .inl ⟨rfl, rfl, rfl⟩, _, _, rfl, Rds.nil _, Rds.nil _, Below.refl _ _⟩
  · refine (swords_any n m A c l B w (by omega) (by omega) hm2 hmw hB ho hr).mono ?_
    rintro e w' ⟨v1, v2, hs, ls, B2, rfl, h1, h2, _, _, hf, hb⟩
    exact ⟨hs, ls, .inr ⟨by omega, hf⟩, v1, v2, rfl, Rds.of_own h1 hf.small1, Rds.of_own h2 hf.small2, hb⟩
end Go.Proofs.Ytmcoehimjfgakaa
