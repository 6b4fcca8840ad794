/- Append to a row of ints of the call's own, beside other rows: where the new row lies, and that nothing but the row itself has turned. -/
import Derived.Test.YthbnojhcmfhnhaaIntPut
import Derived.Deep.AppendLies
import Derived.Deep.DrawnRows
namespace Go.Proofs.Ythbnojhcmfhnhaa
open Go.RowKit

theorem step_append_int_own {ops : Array Oper} {rest : List Oper} {o : Oper} {a : Act} {Q : Exit → Act → World → Prop} (hgd : o.guard = none) (s x : Operand)
    (ho : o.op = .call { callee := .builtin .append, args := #[s, x], argTypes := #[22, 22] })
    {w : World} {B : Nat} {v : Value} {i : Nat} {xs : List Value} (hs : a.eval s = v) (hown : w.ownsRow B 3 1 v i xs) (y : Int) (hx : a.eval x = .slice (some ⟨w.heap.size, 0, none⟩) 1 1) (hB : B ≤ w.heap.size) (hi : i ≤ 4194304)
    (h : ∀ g cap w', Hid (w'.ownsRow B 3 1 (.slice (some ⟨g, 0, none⟩) (i + 1) cap) (i + 1) (xs ++ [.int .i64 y])) → Hid (w.grownBy w' v.ownBlock ∧ (v.ownBlock = some g ∨ w.heap.size ≤ g)) → Below B w w' → wpList Try.prog ops Q rest (a.put o.dst (.slice (some ⟨g, 0, none⟩) (i + 1) cap)) w') :
    wpList Try.prog ops Q (o :: rest) a (w.alloc (.cells #[.int .i64 y] 3)) := by
  obtain ⟨i0, hi0, hz0, hs0, hb0⟩ := info_parts info_i64
  refine wpList_append_lies (w.alloc (.cells #[.int .i64 y] 3)) hgd s x 22 ho B 3 i0 (.int .i64 0) 1 8 Try.underlying22 hi0 hz0 hs0 hb0 rfl (by decide) v i xs hs (hown.alloc _) ⟨w.heap.size, 0, none⟩ 1 1 [.int .i64 y] hx rfl
    (World.news_of_block (cs := #[.int .i64 y]) (t := 3) (fr := (0, 0)) (heap_alloc_new w _)) (by simp [Value.oneCell']) (by decide) (by unfold maxLen; omega) (by omega) (by rw [size_alloc]; omega) (w.heap.size + 1) (by rw [size_alloc]) (fun g cap w' h1 h2 h3 _ => ?_)
  have hg := grownBy_trans (World.grownBy_alloc w _ _) h2
  refine h g cap w' (Lib.hid h1) (Lib.hid ⟨hg, h3.imp id (fun e => by omega)⟩) ?_
  exact ((Below.refl _ _).alloc hB _).grown h2 (by rw [size_alloc]; omega) (fun k hk => (hown.lt k hk).1)

/-- two rows in blocks of their own. -/
def Apart (v v' : Value) : Prop := ∀ g, v.ownBlock = some g → v'.ownBlock ≠ some g
theorem Apart.symm {v v' : Value} (h : Apart v v') : Apart v' v := fun g h1 h2 => h g h2 h1
theorem Apart.kept {w w' : World} {B n : Nat} {t : TypeId} {v v' : Value} {cs : List Value} (h : w.ownsRow B t 1 v n cs) (ha : Apart v v') (hg : w.grownBy w' v'.ownBlock) : w'.ownsRow B t 1 v n cs := by
  refine h.kept hg ?_
  rcases e : v.ownBlock with _ | g
  · exact .inl rfl
  · exact .inr (fun e' => ha g e (by rw [← e']))
/-- the other row is appended to. -/
theorem Apart.next {w : World} {B n : Nat} {t : TypeId} {v v' : Value} {cs : List Value} {g m c : Nat} (h : w.ownsRow B t 1 v n cs) (ha : Apart v v') (hg : v'.ownBlock = some g ∨ w.heap.size ≤ g) : Apart v (.slice (some ⟨g, 0, none⟩) m c) := fun g' h1 h2 => by
  have h2 : some g = some g' := h2
  cases h2
  rcases hg with hg | hg
  · exact ha g h1 hg
  · have := (h.lt g h1).2
    omega
end Go.Proofs.Ythbnojhcmfhnhaa
