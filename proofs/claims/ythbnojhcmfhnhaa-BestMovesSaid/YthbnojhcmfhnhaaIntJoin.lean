/- Rows of ints one behind the other; append of a whole slice to a row of the call's own. -/
import Derived.Test.YthbnojhcmfhnhaaIntPut
import Derived.Deep.AppendLies
namespace Go.Proofs.Ythbnojhcmfhnhaa
open Go.RowKit
/-- two rows one behind the other. -/
def catF (F G : Nat → Int) (m : Nat) : Nat → Int := fun j => if j < m then F j else G (j - m)
theorem icells_cat (F G : Nat → Int) (m k : Nat) : icells F m ++ icells G k = icells (catF F G m) (m + k) := by
  apply List.ext_getElem?
  intro i
  rw [List.getElem?_append, icells_length]
  by_cases h : i < m
  · rw [if_pos h, icells_at _ _ _ h, icells_at _ _ _ (by omega)]
    unfold catF
    rw [if_pos h]
  · rw [if_neg h]
    by_cases h2 : i < m + k
    · rw [icells_at _ _ _ (by omega), icells_at _ _ _ h2]
      unfold catF
      rw [if_neg h]
    · rw [List.getElem?_eq_none (by rw [icells_length]; omega), List.getElem?_eq_none (by rw [icells_length]; omega)]
/-- append of all ints of a slice to a row of the call's own, as a step of the walk. -/
theorem step_append_ints {ops : Array Oper} {rest : List Oper} {o : Oper} {a : Act} {Q : Exit → Act → World → Prop} (hgd : o.guard = none) (s x : Operand)
    (ho : o.op = .call { callee := .builtin .append, args := #[s, x], argTypes := #[22, 22] })
    {w : World} {B : Nat} {v : Value} {i : Nat} {xs : List Value} (hs : a.eval s = v) (hown : w.ownsRow B 3 1 v i xs) {A : Option Addr} {n c : Nat} {V : Nat → Int} (hx : a.eval x = .slice A n c) (hA : A = none → n = 0 ∧ c = 0) (hW : Its w w.heap.size A n V) (hB : B ≤ w.heap.size) (N : Nat) (hN : i + n = N) (hi : N ≤ 4194304)
    (h : ∀ A' c' w', Hid (w'.ownsRow B 3 1 (.slice A' N c') N (xs ++ icells V n)) → Below B w w' → wpList Try.prog ops Q rest (a.put o.dst (.slice A' N c')) w') :
    wpList Try.prog ops Q (o :: rest) a w := by
  obtain ⟨i0, hi0, hz0, hs0, hb0⟩ := info_parts info_i64
  subst hN
  rcases A with _ | ad
  · obtain ⟨rfl, rfl⟩ := hA rfl
    refine wpList_append_own_none hgd s x 22 ho B 3 i0 1 Try.underlying22 hi0 v i xs hs hown hx ?_
    obtain ⟨A', c', rfl⟩ := owns_slice hown
    refine h A' c' w (Lib.hid ?_) (Below.refl _ _)
    show w.ownsRow B 3 1 (.slice A' i c') i (xs ++ [])
    rw [List.append_nil]
    exact hown
  · refine wpList_append_own _ hgd s x 22 ho B 3 i0 (.int .i64 0) 1 8 Try.underlying22 hi0 hz0 hs0 hb0 rfl (by decide) v i xs hs hown ad n c (icells V n) hx
      (by rw [icells_length]; omega) (fun j u hj => ?_) (icells_one _ _) (by unfold maxLen; omega) (by omega) hB (fun v' w' h2 h3 _ => ?_)
    · have hjn : j < n := by
        have := (List.getElem?_eq_some_iff.1 hj).1
        rw [icells_length] at this
        exact this
      rw [icells_at _ _ _ hjn] at hj
      obtain ⟨ad', e, _, hc, _⟩ := hW j hjn
      cases e
      rw [← hj, ← hc]
    · obtain ⟨A', c', rfl⟩ := owns_slice h2
      exact h A' c' w' (Lib.hid h2) ((Below.refl _ _).grown h3 hB (fun k hk => (hown.lt k hk).1))
/-- the same, as one step of a region that draws its order. -/
theorem held_append_ints {ops : Array Oper} {o : Oper} {a : Act} {w : World} {K : Act → World → Prop} {Q : Exit → Act → World → Prop} {E : Prop} (hgd : o.guard = none) (s x : Operand)
    (ho : o.op = .call { callee := .builtin .append, args := #[s, x], argTypes := #[22, 22] })
    {B : Nat} {v : Value} {i : Nat} {xs : List Value} (hs : a.eval s = v) (hown : w.ownsRow B 3 1 v i xs) {ad : Addr} {n c : Nat} {V : Nat → Int} (hx : a.eval x = .slice (some ad) n c) {B' : Nat} (hW : Its w B' (some ad) n V) (hB : B ≤ w.heap.size) (N : Nat) (hN : i + n = N) (hi : N ≤ 4194304)
    (h : ∀ A' c' w', Hid (w'.ownsRow B 3 1 (.slice A' N c') N (xs ++ icells V n)) → Below B w w' → K (a.put o.dst (.slice A' N c')) w') :
    if Region.wanted o (yielded ops a.tmps) = true then Oper.wp Try.prog o a w K Q else E := by
  have hw : Region.wanted o (yielded ops a.tmps) = true := by simp [Region.wanted, hgd]
  rw [if_pos hw]
  obtain ⟨i0, hi0, hz0, hs0, hb0⟩ := info_parts info_i64
  subst hN
  refine wp_append_own w s x 22 ho B 3 i0 (.int .i64 0) 1 8 Try.underlying22 hi0 hz0 hs0 hb0 rfl (by decide) v i xs hs hown ad n c (icells V n) hx
    (by rw [icells_length]; omega) (fun j u hj => ?_) (icells_one _ _) (by unfold maxLen; omega) (by omega) hB (fun v' w' h2 h3 _ => ?_)
  · have hjn : j < n := by
      have := (List.getElem?_eq_some_iff.1 hj).1
      rw [icells_length] at this
      exact this
    rw [icells_at _ _ _ hjn] at hj
    obtain ⟨ad', e, _, hc, _⟩ := hW j hjn
    cases e
    rw [← hj, ← hc]
  · obtain ⟨A', c', rfl⟩ := owns_slice h2
    exact h A' c' w' (Lib.hid h2) ((Below.refl _ _).grown h3 hB (fun k hk => (hown.lt k hk).1))
end Go.Proofs.Ythbnojhcmfhnhaa
