/- Where a pattern stands in a list; the range of its suffixes; a list whose last number is there once: plain: no program is named here. -/
import Derived.Test.YtddfaidfnmpnlaaSufMath
namespace Go.Proofs.Ytddfaidfnmpnlaa

/-- the pattern stands at the place. -/
def StN (V : Nat → Int) (n : Nat) (P : Nat → Int) (m a : Nat) : Prop := a + m ≤ n ∧ ∀ i, i < m → V (a + i) = P i
/-- as a Bool. -/
noncomputable def stB (V : Nat → Int) (n : Nat) (P : Nat → Int) (m a : Nat) : Bool := @decide (StN V n P m a) (Classical.propDecidable _)
theorem stB_iff {V : Nat → Int} {n : Nat} {P : Nat → Int} {m a : Nat} : stB V n P m a = true ↔ StN V n P m a := @decide_eq_true_iff _ (Classical.propDecidable _)
/-- the places of the first k at which it stands, if it isn't empty. -/
noncomputable def plsF (V : Nat → Int) (n : Nat) (P : Nat → Int) (m : Nat) : Nat → List Int
  | 0 => []
  | k + 1 => plsF V n P m k ++ (if 0 < m ∧ stB V n P m k = true then [(k : Int)] else [])
theorem plsF_hit {V : Nat → Int} {n : Nat} {P : Nat → Int} {m k : Nat} (h : 0 < m ∧ stB V n P m k = true) : plsF V n P m (k + 1) = plsF V n P m k ++ [(k : Int)] := by
  show plsF V n P m k ++ _ = _
  rw [if_pos h]
theorem plsF_miss {V : Nat → Int} {n : Nat} {P : Nat → Int} {m k : Nat} (h : ¬ (0 < m ∧ stB V n P m k = true)) : plsF V n P m (k + 1) = plsF V n P m k := by
  show plsF V n P m k ++ _ = _
  rw [if_neg h, List.append_nil]
theorem plsF_len (V : Nat → Int) (n : Nat) (P : Nat → Int) (m : Nat) : ∀ k, (plsF V n P m k).length ≤ k
  | 0 => Nat.le_refl _
  | k + 1 => by
    have := plsF_len V n P m k
    by_cases h : 0 < m ∧ stB V n P m k = true
    · rw [plsF_hit h, List.length_append]
      show _ + 1 ≤ _
      omega
    · rw [plsF_miss h]
      omega
theorem mem_plsF {V : Nat → Int} {n : Nat} {P : Nat → Int} {m : Nat} {x : Int} : ∀ {k}, x ∈ plsF V n P m k ↔ ∃ a : Nat, a < k ∧ 0 < m ∧ StN V n P m a ∧ x = (a : Int)
  | 0 => ⟨fun h => (by cases h), fun ⟨a, ha, _⟩ => absurd ha (Nat.not_lt_zero a)⟩
  | k + 1 => by
    have ih := mem_plsF (V := V) (n := n) (P := P) (m := m) (x := x) (k := k)
    by_cases h : 0 < m ∧ stB V n P m k = true
    · rw [plsF_hit h, List.mem_append, ih, List.mem_singleton]
      constructor
      · rintro (⟨a, h1, h2⟩ | h1)
        · exact ⟨a, by omega, h2⟩
        · exact ⟨k, by omega, h.1, stB_iff.1 h.2, h1⟩
      · rintro ⟨a, h1, h2, h3, h4⟩
        by_cases e : a = k
        · exact .inr (by rw [h4, e])
        · exact .inl ⟨a, by omega, h2, h3, h4⟩
    · rw [plsF_miss h, ih]
      constructor
      · rintro ⟨a, h1, h2⟩
        exact ⟨a, by omega, h2⟩
      · rintro ⟨a, h1, h2, h3, h4⟩
        by_cases e : a = k
        · subst e
          exact absurd ⟨h2, stB_iff.2 h3⟩ h
        · exact ⟨a, by omega, h2, h3, h4⟩
theorem plsF_none (V : Nat → Int) (n : Nat) (P : Nat → Int) : ∀ k, plsF V n P 0 k = []
  | 0 => rfl
  | k + 1 => by rw [plsF_miss (fun h => absurd h.1 (Nat.lt_irrefl 0)), plsF_none V n P k]
/-- places rise. -/
theorem plsF_rise (V : Nat → Int) (n : Nat) (P : Nat → Int) (m : Nat) : ∀ k, (plsF V n P m k).Pairwise (· < ·)
  | 0 => List.Pairwise.nil
  | k + 1 => by
    by_cases h : 0 < m ∧ stB V n P m k = true
    · rw [plsF_hit h, List.pairwise_append]
      refine ⟨plsF_rise V n P m k, List.pairwise_singleton _ _, fun x hx y hy => ?_⟩
      obtain ⟨a, h1, _, _, h4⟩ := mem_plsF.1 hx
      rw [List.mem_singleton] at hy
      rw [h4, hy]
      omega
    · rw [plsF_miss h]
      exact plsF_rise V n P m k
/-- of those of the first k that are such: the first one, and behind the last one; 0, 0: none. -/
def rngF (f : Nat → Bool) : Nat → Nat × Nat
  | 0 => (0, 0)
  | k + 1 => if f k = true then (if (rngF f k).2 = 0 then k else (rngF f k).1, k + 1) else rngF f k
theorem rngF_first {f : Nat → Bool} {k : Nat} (h : f k = true) (h0 : (rngF f k).2 = 0) : rngF f (k + 1) = (k, k + 1) := by
  unfold rngF
  rw [if_pos h, if_pos h0]
theorem rngF_more {f : Nat → Bool} {k : Nat} (h : f k = true) (h0 : (rngF f k).2 ≠ 0) : rngF f (k + 1) = ((rngF f k).1, k + 1) := by
  rw [rngF, if_pos h, if_neg h0]
theorem rngF_miss {f : Nat → Bool} {k : Nat} (h : f k = false) : rngF f (k + 1) = rngF f k := by
  rw [rngF, if_neg (by rw [h]; decide)]
theorem rngF_le (f : Nat → Bool) : ∀ k, (rngF f k).1 ≤ (rngF f k).2 ∧ (rngF f k).2 ≤ k
  | 0 => ⟨Nat.le_refl _, Nat.le_refl _⟩
  | k + 1 => by
    have ih := rngF_le f k
    cases hf : f k with
    | false => rw [rngF_miss hf]; omega
    | true =>
      by_cases h0 : (rngF f k).2 = 0
      · rw [rngF_first hf h0]
        exact ⟨by omega, by omega⟩
      · rw [rngF_more hf h0]
        exact ⟨by show (rngF f k).1 ≤ k + 1; omega, by omega⟩
theorem rngF_lt {f : Nat → Bool} : ∀ {k}, (rngF f k).2 ≠ 0 → (rngF f k).1 < (rngF f k).2
  | 0, h => absurd rfl h
  | k + 1, h => by
    have hle := rngF_le f k
    cases hf : f k with
    | false =>
      rw [rngF_miss hf] at h ⊢
      exact rngF_lt h
    | true =>
      by_cases h0 : (rngF f k).2 = 0
      · rw [rngF_first hf h0]
        exact Nat.lt_succ_self _
      · rw [rngF_more hf h0]
        show (rngF f k).1 < k + 1
        omega
theorem rngF_all {f : Nat → Bool} : ∀ {k : Nat}, (∀ j, j < k → f j = true) → rngF f k = (0, k)
  | 0, _ => rfl
  | k + 1, h => by
    have ih := rngF_all (f := f) (k := k) (fun j hj => h j (by omega))
    by_cases h0 : (rngF f k).2 = 0
    · rw [rngF_first (h k (by omega)) h0]
      rw [ih] at h0
      have h0 : k = 0 := h0
      rw [h0]
    · rw [rngF_more (h k (by omega)) h0, ih]
theorem rngF_congr {f g : Nat → Bool} : ∀ {k : Nat}, (∀ j, j < k → f j = g j) → rngF f k = rngF g k
  | 0, _ => rfl
  | k + 1, h => by
    rw [rngF, rngF, rngF_congr (fun j hj => h j (by omega)), h k (by omega)]
/-- the last number is there once. -/
def OnceT (T : Nat → Int) (n : Nat) : Prop := 0 < n ∧ ∀ i, i + 1 < n → T i ≠ T (n - 1)
end Go.Proofs.Ytddfaidfnmpnlaa
