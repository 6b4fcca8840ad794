/- What the laws of layer 3 share. -/
import Derived.Test.YtmcoehimjfgakaaSpFirst
namespace Go.Proofs.Ytmcoehimjfgakaa
open Go.RowKit

theorem belowN_cut {n m : Nat} {l : Nat → Nat} (h : Pl.Rise n m l) (x : Int) {i : Nat} (hi : i < m) : i < belowN l m x ↔ (l i : Int) < x := by
  obtain ⟨a, b⟩ := Pl.cnt_cut (g := fun i => decide ((l i : Int) < x)) (m := m) fun i j hij hj hg => by
    have := h.lt hij hj
    simp only [decide_eq_true_eq] at hg ⊢
    omega
  constructor
  · intro h1; simpa using a i h1
  · intro h1
    apply Nat.lt_of_not_le
    intro h2
    have := b i h2 hi
    simp at this
    omega
theorem belowN_all {n m : Nat} {l : Nat → Nat} (h : Pl.Rise n m l) : belowN l m (n : Int) = m := Pl.cnt_full fun i hi => by have := h.below i hi; simp; omega
theorem belowN_zero (l : Nat → Nat) (m : Nat) {x : Int} (hx : x ≤ 0) : belowN l m x = 0 := Pl.cnt_zero fun _ _ => by simp; omega
theorem hasB_none {n m : Nat} {l : Nat → Nat} (h : Pl.Rise n m l) : hasB l m (n : Int) = false := by
  unfold hasB
  rw [belowN_all h]
  simp
theorem hasB_neg (l : Nat → Nat) (m : Nat) {x : Int} (hx : x < 0) : hasB l m x = false := by
  unfold hasB
  have : ¬ ((l (belowN l m x) : Nat) : Int) = x := by omega
  simp [this]

/-- right places, as natural numbers. -/
theorem right_nat {n : Int} {V : Nat → Int} {m : Nat} (h : rightS n V m = true) : ∃ (N : Nat) (l : Nat → Nat), n = (N : Int) ∧ N ≤ 4194304 ∧ Pl.Rise N m l ∧ (∀ i, i < m → V i = ((l i : Nat) : Int)) := by
  unfold rightS at h
  simp only [Bool.and_eq_true, decide_eq_true_eq] at h
  obtain ⟨⟨h0, h1⟩, h2⟩ := h
  obtain ⟨N, rfl⟩ : ∃ N : Nat, n = N := ⟨n.toNat, by omega⟩
  obtain ⟨hr, he⟩ := rise_of h2
  exact ⟨N, _, rfl, by omega, hr, he⟩
theorem snew_right (N m : Nat) (A : Option Addr) (c : Nat) (l : Nat → Nat) (B : Nat) (w : World) (hN : N ≤ 4194304) (hm : m = 0 ∨ N + m ≤ 4194304) (hB : B ≤ w.heap.size) (ho : Nts w B A m l) (hr : Pl.Rise N m l) :
    Calls Try.prog 9 #[.int .i64 (N : Int), .slice A m c] w (NewSt w N m l) := by
  by_cases h0 : m = 0
  · subst h0
    exact snew_zero N A c l w hN
  · exact snew_any N m A c l w hN (by omega) (by omega) (ho.mono_ hB) hr
theorem sright_yes {N m : Nat} {l : Nat → Nat} {V : Nat → Int} (hN : N ≤ 4194304) (hr : Pl.Rise N m l) (he : ∀ i, i < m → V i = ((l i : Nat) : Int)) : rightS (N : Int) V m = true := by
  unfold rightS
  rw [riseB_of hr he]
  simp
  omega
end Go.Proofs.Ytmcoehimjfgakaa
