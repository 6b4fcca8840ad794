/- A slice of ints that came in; which of them rise below a bound. -/
import Derived.Test.YthbnojhcmfhnhaaLaw
import Derived.Test.YthbnojhcmfhnhaaSpMath
import Derived.Test.YthbnojhcmfhnhaaMake
namespace Go.Proofs.Ythbnojhcmfhnhaa
open Go.ChangeShapes Go.WideShapes Go.ChangeAt Go.RowKit

/-- a slice of ints, as it lies. -/
def Its (w : World) (B : Nat) (A : Option Addr) (n : Nat) (V : Nat → Int) : Prop :=
  ∀ k, k < n → ∃ ad : Addr, A = some ad ∧ ad.block < B ∧ w.cell? (ad.add k) = some (.int .i64 (V k)) ∧ -9223372036854775808 ≤ V k ∧ V k ≤ 9223372036854775807
theorem Its.below {w w' : World} {B : Nat} {A : Option Addr} {n : Nat} {V : Nat → Int} (h : Its w B A n V) (hb : Below B w w') : Its w' B A n V := fun k hk => by
  obtain ⟨ad, e, h1, h2, h3⟩ := h k hk
  exact ⟨ad, e, h1, (hb.cell (by rw [add_block]; exact h1)).trans h2, h3⟩
theorem Its.mono_ {w : World} {B B' : Nat} {A : Option Addr} {n : Nat} {V : Nat → Int} (h : Its w B A n V) (hB : B ≤ B') : Its w B' A n V := fun k hk => by
  obtain ⟨ad, e, h1, h2, h3⟩ := h k hk
  exact ⟨ad, e, Nat.lt_of_lt_of_le h1 hB, h2, h3⟩

theorem cells_i64 : Try.prog.cellsOf 3 = 1 := by kernel_rfl

section
variable {H : Type} {enc : TypeId × Value → H}
set_option maxRecDepth 100000 in
theorem open_list {W : World} {v : Value} {d : DataW H} {p : List MemPlace} {b : Nat} {r : Reach} (hv : Value.okWide Try.prog W r b 22 v) (h : DataW.Trod enc Try.prog W 0 (fun _ => true) true 22 v d p) :
    ∃ (A : Option Addr) (n c : Nat) (V : Nat → Int), v = .slice A n c ∧ n ≤ maxLen ∧ (A = none → n = 0 ∧ c = 0) ∧ Its W W.heap.size A n V := by
  obtain ⟨a0, len, cap, rfl⟩ := okWide_slice Try.underlying22 hv
  obtain ⟨fuel, hf⟩ := h
  rcases open_ints Try.underlying22 Try.underlying3 cells_i64 hf with ⟨hcs, _⟩ | ⟨a, n, c, zs, hcs, _, hl, hm, hz, _, hcell, hwz⟩
  · simp [Value.cells] at hcs
    obtain ⟨rfl, rfl, rfl⟩ := hcs
    exact ⟨none, 0, 0, fun _ => 0, rfl, Nat.zero_le _, fun _ => ⟨rfl, rfl⟩, fun k hk => absurd hk (by omega)⟩
  · simp [Value.cells] at hcs
    obtain ⟨rfl, rfl, rfl⟩ := hcs
    have hnm : len ≤ zs.length := by rw [hz]; split <;> omega
    refine ⟨some a, len, cap, fun k => zs.getD k 0, rfl, Nat.le_trans hl hm, fun e => (by cases e), fun k hk => ?_⟩
    have e0 := hcell k (by omega)
    have hlt := cell_in e0
    rw [add_block] at hlt
    have hmem : zs.getD k 0 ∈ zs := by
      rw [List.getD_eq_getElem?_getD, List.getElem?_eq_getElem (by omega)]
      exact List.getElem_mem _
    exact ⟨a, rfl, hlt, e0, i64_in (hwz _ hmem)⟩
end

/-- the number ahead of number k. -/
def lastI (V : Nat → Int) : Nat → Int
  | 0 => -1
  | k + 1 => V k
/-- the first m rise, from 0 on, below n. -/
def riseB (n : Int) (V : Nat → Int) : Nat → Bool
  | 0 => true
  | k + 1 => riseB n V k && (decide (lastI V k < V k) && decide (V k < n))
theorem riseB_mono {n : Int} {V : Nat → Int} {k : Nat} : ∀ {m : Nat}, k ≤ m → riseB n V k = false → riseB n V m = false
  | 0, h, e => by
    have : k = 0 := by omega
    rw [← this]; exact e
  | m + 1, h, e => by
    by_cases hk : k = m + 1
    · rw [← hk]; exact e
    · unfold riseB
      rw [riseB_mono (show k ≤ m by omega) e, Bool.false_and]
theorem riseB_facts {n : Int} {V : Nat → Int} : ∀ {m : Nat}, riseB n V m = true → (∀ i, i < m → 0 ≤ V i ∧ V i < n) ∧ (∀ i, i + 1 < m → V i < V (i + 1))
  | 0, _ => ⟨fun i hi => absurd hi (Nat.not_lt_zero _), fun i hi => absurd hi (by omega)⟩
  | m + 1, h => by
    unfold riseB at h
    simp only [Bool.and_eq_true, decide_eq_true_eq] at h
    obtain ⟨h0, h1, h2⟩ := h
    obtain ⟨a, b⟩ := riseB_facts h0
    have hm : 0 ≤ V m := by
      cases m with
      | zero => simp only [lastI] at h1; omega
      | succ m => have := a m (by omega); simp only [lastI] at h1; omega
    refine ⟨fun i hi => ?_, fun i hi => ?_⟩
    · by_cases e : i = m
      · rw [e]; exact ⟨hm, h2⟩
      · exact a i (by omega)
    · by_cases e : i + 1 = m
      · subst e; exact h1
      · exact b i (by omega)
/-- as natural numbers. -/
theorem rise_of {n m : Nat} {V : Nat → Int} (h : riseB (n : Int) V m = true) : Pl.Rise n m (fun i => (V i).toNat) ∧ ∀ i, i < m → V i = (((V i).toNat : Nat) : Int) := by
  obtain ⟨a, b⟩ := riseB_facts h
  refine ⟨⟨fun i hi => ?_, fun i hi => ?_⟩, fun i hi => ?_⟩
  · have := a i hi
    show (V i).toNat < n
    omega
  · have := b i hi
    have := a i (by omega)
    have := a (i + 1) hi
    show (V i).toNat < (V (i + 1)).toNat
    omega
  · have := a i hi
    omega
theorem riseB_of {n m : Nat} {l : Nat → Nat} (h : Pl.Rise n m l) {V : Nat → Int} (e : ∀ i, i < m → V i = ((l i : Nat) : Int)) : riseB (n : Int) V m = true := by
  induction m with
  | zero => rfl
  | succ m ih =>
    unfold riseB
    rw [ih ⟨fun i hi => h.below i (by omega), fun i hi => h.up i (by omega)⟩ (fun i hi => e i (by omega)), Bool.true_and]
    simp only [Bool.and_eq_true, decide_eq_true_eq]
    have h1 := h.below m (by omega)
    have h2 := e m (by omega)
    refine ⟨?_, by omega⟩
    cases m with
    | zero => simp only [lastI]; omega
    | succ m =>
      have := h.up m (by omega)
      have := e m (by omega)
      simp only [lastI]; omega

end Go.Proofs.Ythbnojhcmfhnhaa
