/- The least number of a range, the first of like ones: plain: no program is named here. -/
import Derived.Test.YtddfaidfnmpnlaaCntMath
namespace Go.Proofs.Ytddfaidfnmpnlaa

/-- of the first m places, from a on, ahead of b: the first one of the least; -1: none. -/
def lstR (V : Nat → Int) (a b : Int) : Nat → Int
  | 0 => -1
  | m + 1 => if (a ≤ (m : Int) ∧ (m : Int) < b) ∧ (lstR V a b m < 0 ∨ V m < V (lstR V a b m).toNat) then (m : Int) else lstR V a b m
theorem lstR_out {V : Nat → Int} {a b : Int} {m : Nat} (h : ¬ (a ≤ (m : Int) ∧ (m : Int) < b)) : lstR V a b (m + 1) = lstR V a b m := if_neg fun g => h g.1
theorem lstR_new {V : Nat → Int} {a b : Int} {m : Nat} (h : a ≤ (m : Int) ∧ (m : Int) < b) (h2 : lstR V a b m < 0 ∨ V m < V (lstR V a b m).toNat) : lstR V a b (m + 1) = (m : Int) := if_pos ⟨h, h2⟩
theorem lstR_old {V : Nat → Int} {a b : Int} {m : Nat} (h2 : ¬ (lstR V a b m < 0 ∨ V m < V (lstR V a b m).toNat)) : lstR V a b (m + 1) = lstR V a b m := if_neg fun g => h2 g.2
/-- p is the first of the least. -/
structure LstAt (V : Nat → Int) (a b : Int) (m p : Nat) : Prop where
  lt : p < m
  lo : a ≤ (p : Int)
  hi : (p : Int) < b
  le : ∀ j : Nat, j < m → a ≤ (j : Int) → (j : Int) < b → V p ≤ V j
  first : ∀ j : Nat, j < p → a ≤ (j : Int) → (j : Int) < b → V p < V j
theorem lstR_is (V : Nat → Int) (a b : Int) : ∀ m, (lstR V a b m = -1 ∧ ∀ j : Nat, j < m → ¬ (a ≤ (j : Int) ∧ (j : Int) < b)) ∨ ∃ p : Nat, lstR V a b m = (p : Int) ∧ LstAt V a b m p
  | 0 => .inl ⟨rfl, fun j hj => absurd hj (Nat.not_lt_zero j)⟩
  | m + 1 => by
    by_cases h : a ≤ (m : Int) ∧ (m : Int) < b
    · rcases lstR_is V a b m with ⟨h1, h2⟩ | ⟨p, h1, h2⟩
      · refine .inr ⟨m, lstR_new h (.inl (by rw [h1]; decide)), Nat.lt_succ_self m, h.1, h.2, fun j hj g1 g2 => ?_, fun j hj g1 g2 => absurd ⟨g1, g2⟩ (h2 j hj)⟩
        by_cases e : j = m
        · rw [e]; exact Int.le_refl _
        · exact absurd ⟨g1, g2⟩ (h2 j (by omega))
      · by_cases hlt : V m < V p
        · refine .inr ⟨m, lstR_new h (.inr (by rw [h1, Int.toNat_natCast]; exact hlt)), Nat.lt_succ_self m, h.1, h.2, fun j hj g1 g2 => ?_, fun j hj g1 g2 => ?_⟩
          · by_cases e : j = m
            · rw [e]; exact Int.le_refl _
            · have := h2.le j (by omega) g1 g2
              omega
          · have := h2.le j hj g1 g2
            omega
        · refine .inr ⟨p, (lstR_old (by rw [h1, Int.toNat_natCast]; omega)).trans h1, by have := h2.lt; omega, h2.lo, h2.hi, fun j hj g1 g2 => ?_, h2.first⟩
          by_cases e : j = m
          · rw [e]; omega
          · exact h2.le j (by omega) g1 g2
    · rw [lstR_out h]
      rcases lstR_is V a b m with ⟨h1, h2⟩ | ⟨p, h1, h2⟩
      · exact .inl ⟨h1, fun j hj => by
          by_cases e : j = m
          · rw [e]; exact h
          · exact h2 j (by omega)⟩
      · exact .inr ⟨p, h1, by have := h2.lt; omega, h2.lo, h2.hi, fun j hj g1 g2 => by
          by_cases e : j = m
          · rw [e] at g1 g2
            exact absurd ⟨g1, g2⟩ h
          · exact h2.le j (by omega) g1 g2, h2.first⟩
theorem lstR_at {V : Nat → Int} {a b : Int} {m p : Nat} (h : LstAt V a b m p) : lstR V a b m = (p : Int) := by
  rcases lstR_is V a b m with ⟨_, h2⟩ | ⟨q, h1, h2⟩
  · exact absurd ⟨h.lo, h.hi⟩ (h2 p h.lt)
  · rw [h1]
    rcases Nat.lt_trichotomy p q with g | g | g
    · have h3 := h2.first p g h.lo h.hi
      have h4 := h.le q h2.lt h2.lo h2.hi
      omega
    · rw [g]
    · have h3 := h.first q g h2.lo h2.hi
      have h4 := h2.le p h.lt h.lo h.hi
      omega
theorem lstR_none {V : Nat → Int} {a b : Int} {m : Nat} (h : ∀ j : Nat, j < m → ¬ (a ≤ (j : Int) ∧ (j : Int) < b)) : lstR V a b m = -1 := by
  rcases lstR_is V a b m with ⟨h1, _⟩ | ⟨q, _, h2⟩
  · exact h1
  · exact absurd ⟨h2.lo, h2.hi⟩ (h q h2.lt)
theorem lstR_room (V : Nat → Int) (a b : Int) (m : Nat) : -1 ≤ lstR V a b m ∧ lstR V a b m < (m : Int) ∨ lstR V a b m = -1 := by
  rcases lstR_is V a b m with ⟨h1, _⟩ | ⟨q, h1, h2⟩
  · exact .inr h1
  · have := h2.lt
    exact .inl (by omega)
/-- the order alone counts, and that within the range. -/
theorem lstR_alike {V U : Nat → Int} {a b : Int} {m : Nat} (h : ∀ i j : Nat, i < m → j < m → a ≤ (i : Int) → (i : Int) < b → a ≤ (j : Int) → (j : Int) < b → (V i < V j ↔ U i < U j)) : lstR V a b m = lstR U a b m := by
  rcases lstR_is V a b m with ⟨h1, h2⟩ | ⟨p, h1, h2⟩
  · rw [h1, lstR_none h2]
  · rw [h1]
    refine (lstR_at ⟨h2.lt, h2.lo, h2.hi, fun j hj g1 g2 => ?_, fun j hj g1 g2 => ?_⟩).symm
    · have h3 := h2.le j hj g1 g2
      have h4 := h j p hj h2.lt g1 g2 h2.lo h2.hi
      omega
    · exact (h p j h2.lt (by have := h2.lt; omega) h2.lo h2.hi g1 g2).1 (h2.first j hj g1 g2)
/-- a range one longer. -/
theorem lstR_longer {V : Nat → Int} {a : Int} {n b : Nat} (hab : a ≤ (b : Int)) (hb : b < n) :
    lstR V a ((b : Int) + 1) n = if lstR V a (b : Int) n < 0 ∨ V b < V (lstR V a (b : Int) n).toNat then (b : Int) else lstR V a (b : Int) n := by
  rcases lstR_is V a (b : Int) n with ⟨h1, h2⟩ | ⟨p, h1, h2⟩
  · rw [h1, if_pos (.inl (by decide))]
    refine lstR_at ⟨hb, hab, by omega, fun j hj g1 g2 => ?_, fun j hj g1 _ => absurd ⟨g1, by omega⟩ (h2 j (by omega))⟩
    by_cases e : j = b
    · rw [e]; exact Int.le_refl _
    · exact absurd ⟨g1, by omega⟩ (h2 j hj)
  · rw [h1, Int.toNat_natCast]
    have hpb := h2.hi
    by_cases hlt : V b < V p
    · rw [if_pos (.inr hlt)]
      refine lstR_at ⟨hb, hab, by omega, fun j hj g1 g2 => ?_, fun j hj g1 _ => ?_⟩
      · by_cases e : j = b
        · rw [e]; exact Int.le_refl _
        · have := h2.le j hj g1 (by omega)
          omega
      · have := h2.le j (by omega) g1 (by omega)
        omega
    · rw [if_neg (by omega)]
      refine lstR_at ⟨h2.lt, h2.lo, by omega, fun j hj g1 g2 => ?_, fun j hj g1 g2 => h2.first j hj g1 (by omega)⟩
      by_cases e : j = b
      · rw [e]; omega
      · exact h2.le j hj g1 (by omega)
/-- of like numbers the first. -/
theorem lstR_like {V : Nat → Int} {v a b : Int} {n : Nat} (h : ∀ i, i < n → V i = v) {w : Nat} (hw : w < n) (hwb : (w : Int) < b) (hwa : a ≤ (w : Int)) (hf : ∀ j : Nat, j < w → (j : Int) < a) : lstR V a b n = (w : Int) :=
  lstR_at ⟨hw, hwa, hwb, fun j hj _ _ => by rw [h w hw, h j hj]; exact Int.le_refl _, fun j hj g1 _ => by have := hf j hj; omega⟩
/-- one that is less than all others. -/
theorem lstR_low {V : Nat → Int} {a b : Int} {n k : Nat} (hk : k < n) (ha : a ≤ (k : Int)) (hb : (k : Int) < b) (h : ∀ j, j < n → j ≠ k → V k < V j) : lstR V a b n = (k : Int) :=
  lstR_at ⟨hk, ha, hb, fun j hj _ _ => by
    by_cases e : j = k
    · rw [e]; exact Int.le_refl _
    · exact Int.le_of_lt (h j hj e), fun j hj _ _ => h j (by omega) (by omega)⟩
end Go.Proofs.Ytddfaidfnmpnlaa
