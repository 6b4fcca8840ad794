/- Rows of the call's own whose elements have two cells: a store, the marks, the form. -/
import Derived.Test.YthbnojhcmfhnhaaMem
namespace Go.Proofs.Ythbnojhcmfhnhaa
open Go.RowKit

theorem owns_put2 {w : World} {B n c g : Nat} {t : TypeId} {cs : List Value} (h : w.ownsRow B t 2 (.slice (some ⟨g, 0, none⟩) n c) n cs) (j : Nat) (u : Value) : (w.setCell ⟨g, j, none⟩ u).ownsRow B t 2 (.slice (some ⟨g, 0, none⟩) n c) n (cs.set j u) := by
  refine ⟨by rw [List.length_set]; exact h.1, ?_⟩
  rcases h.2 with ⟨e, _⟩ | ⟨g', cap, cur, e, h1, h2, h3, h4, h5, h6⟩
  · cases e
  · cases e
    refine .inr ⟨g, c, cur.setIfInBounds j u, rfl, h1, ?_, h3, h4, by simp [h5], ?_⟩
    · simp [World.setCell, Array.getElem?_modify, h2]
    · rw [← h6, Array.toList_setIfInBounds, List.take_set]
theorem owns_free2 {w : World} {B n c g : Nat} {t : TypeId} {cs : List Value} (h : w.ownsRow B t 2 (.slice (some ⟨g, 0, none⟩) n c) n cs) (j : Nat) : w.frozen? ⟨g, j, none⟩ = false := by
  rcases h.2 with ⟨e, _⟩ | ⟨g', cap, cur, e, h1, h2, _⟩
  · cases e
  · cases e
    simp [World.frozen?, h2]
theorem owns_room2' {w : World} {B n c : Nat} {t : TypeId} {A : Option Addr} {cs : List Value} (h : w.ownsRow B t 2 (.slice A n c) n cs) : n ≤ c ∧ c ≤ maxLen := by
  rcases h.2 with ⟨e, _⟩ | ⟨g, cap, cur, e, _, _, h1, h2, _⟩
  · cases e
    exact ⟨Nat.le_refl _, Nat.zero_le _⟩
  · cases e
    exact ⟨h1, h2⟩
theorem owns_slice2 {w : World} {B n : Nat} {t : TypeId} {v : Value} {cs : List Value} (h : w.ownsRow B t 2 v n cs) : (n = 0 ∧ v = .slice none 0 0) ∨ ∃ g c, v = .slice (some ⟨g, 0, none⟩) n c ∧ B ≤ g ∧ g < w.heap.size := by
  have h1 := h.1
  rcases h.2 with ⟨e, h0⟩ | ⟨g, cap, cur, e, h2, h3, _⟩
  · exact .inl ⟨by omega, e⟩
  · exact .inr ⟨g, cap, e, h2, (Array.getElem?_eq_some_iff.1 h3).1⟩
/-- rows of unlike elements lie in blocks of their own. -/
theorem owns_unlike {w : World} {B1 B2 s1 s2 n1 n2 : Nat} {e1 e2 : TypeId} {v1 v2 : Value} {x1 x2 : List Value} (h1 : w.ownsRow B1 e1 s1 v1 n1 x1) (h2 : w.ownsRow B2 e2 s2 v2 n2 x2) (hne : e1 ≠ e2) : v1.ownBlock = none ∨ v1.ownBlock ≠ v2.ownBlock := by
  rcases h1.2 with ⟨e, _⟩ | ⟨g, cap, cur, e, _, hh, _⟩
  · exact .inl (by rw [e]; rfl)
  · rcases h2.2 with ⟨e', _⟩ | ⟨g', cap', cur', e', _, hh', _⟩
    · exact .inr (by rw [e, e']; exact fun h => by cases h)
    · refine .inr fun h => ?_
      rw [e, e'] at h
      have h : some g = some g' := h
      cases h
      rw [hh] at hh'
      injection hh' with hh'
      injection hh' with _ hh' _
      exact hne hh'
end Go.Proofs.Ythbnojhcmfhnhaa
