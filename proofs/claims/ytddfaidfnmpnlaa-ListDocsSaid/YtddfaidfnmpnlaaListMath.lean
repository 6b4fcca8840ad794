/- The unlike numbers of some, rising: plain. -/
namespace Go.Proofs.Ytddfaidfnmpnlaa
/-- the first m of F are the numbers of S, each once, rising. -/
structure EnumS (S : Int → Prop) (F : Nat → Int) (m : Nat) : Prop where
  rise : ∀ p q, p < q → q < m → F p < F q
  each : ∀ x, S x ↔ ∃ p, p < m ∧ F p = x
theorem EnumS.same {S : Int → Prop} {F F' : Nat → Int} {m m' : Nat} (h : EnumS S F m) (h' : EnumS S F' m') : ∀ p, p < m → p < m' → F p = F' p := fun p => by
  induction p using Nat.strongRecOn with
  | ind p ih =>
    intro hp hp'
    obtain ⟨q, hq, e⟩ := (h'.each (F p)).1 ((h.each _).2 ⟨p, hp, rfl⟩)
    obtain ⟨q', hq', e'⟩ := (h.each (F' p)).1 ((h'.each _).2 ⟨p, hp', rfl⟩)
    have g1 : p ≤ q := Nat.le_of_not_lt fun g => by
      have g2 := ih q g (by omega) hq
      have g3 := h.rise q p g hp
      omega
    have g2 : p ≤ q' := Nat.le_of_not_lt fun g => by
      have g2 := ih q' g hq' (by omega)
      have g3 := h'.rise q' p g hp'
      omega
    rcases Nat.lt_or_eq_of_le g1 with k1 | k1
    · rcases Nat.lt_or_eq_of_le g2 with k2 | k2
      · have := h'.rise p q k1 hq
        have := h.rise p q' k2 hq'
        omega
      · subst k2
        exact e'
    · subst k1
      exact e.symm
theorem EnumS.le {S : Int → Prop} {F F' : Nat → Int} {m m' : Nat} (h : EnumS S F m) (h' : EnumS S F' m') : m ≤ m' := Nat.le_of_not_lt fun g => by
  obtain ⟨q, hq, e⟩ := (h'.each (F m')).1 ((h.each _).2 ⟨m', g, rfl⟩)
  have g2 := h.same h' q (by omega) hq
  have g3 := h.rise q m' hq g
  omega
theorem EnumS.one {S : Int → Prop} {F F' : Nat → Int} {m m' : Nat} (h : EnumS S F m) (h' : EnumS S F' m') : m = m' ∧ ∀ p, p < m → F p = F' p := by
  have e := Nat.le_antisymm (h.le h') (h'.le h)
  exact ⟨e, fun p hp => h.same h' p hp (by omega)⟩
theorem EnumS.congr {S S' : Int → Prop} {F : Nat → Int} {m : Nat} (h : EnumS S F m) (he : ∀ x, S x ↔ S' x) : EnumS S' F m := ⟨h.rise, fun x => by rw [← he, h.each]⟩
theorem EnumS.alike {S : Int → Prop} {F F' : Nat → Int} {m : Nat} (h : EnumS S F m) (he : ∀ p, p < m → F p = F' p) : EnumS S F' m := ⟨fun p q h1 h2 => by
  rw [← he p (by omega), ← he q h2]
  exact h.rise p q h1 h2, fun x => by
  rw [h.each]
  constructor
  · rintro ⟨p, hp, e⟩
    exact ⟨p, hp, by rw [← he p hp]; exact e⟩
  · rintro ⟨p, hp, e⟩
    exact ⟨p, hp, by rw [he p hp]; exact e⟩⟩
theorem EnumS.none {S : Int → Prop} {F : Nat → Int} (h : ∀ x, ¬ S x) : EnumS S F 0 := ⟨fun p q _ h => absurd h (by omega), fun x => ⟨fun g => absurd g (h x), fun ⟨p, hp, _⟩ => absurd hp (by omega)⟩⟩
/-- no more of them than places that they come from. -/
theorem EnumS.at_most {S : Int → Prop} {F : Nat → Int} {m n : Nat} {V : Nat → Int} (h : EnumS S F m) (hS : ∀ x, S x → ∃ j, j < n ∧ V j = x) : m ≤ n := by
  have key : ∀ (n : Nat) (m : Nat) (F V : Nat → Int), (∀ p q, p < q → q < m → F p < F q) → (∀ p, p < m → ∃ j, j < n ∧ V j = F p) → m ≤ n := by
    intro n
    induction n with
    | zero =>
      intro m F V _ h2
      rcases Nat.eq_zero_or_pos m with e | e
      · omega
      · obtain ⟨j, hj, _⟩ := h2 0 e
        omega
    | succ n ih =>
      intro m F V h1 h2
      by_cases g : ∃ p, p < m ∧ F p = V n
      · obtain ⟨p, hp, e⟩ := g
        have := ih (m - 1) (fun j => if j < p then F j else F (j + 1)) V (fun i j hij hj => by
          show (if i < p then F i else F (i + 1)) < (if j < p then F j else F (j + 1))
          split <;> split
          · exact h1 _ _ hij (by omega)
          · exact h1 _ _ (by omega) (by omega)
          · omega
          · exact h1 _ _ (by omega) (by omega)) (fun j hj => by
          show ∃ k, k < n ∧ V k = (if j < p then F j else F (j + 1))
          split
          · obtain ⟨k, hk, ek⟩ := h2 j (by omega)
            rcases Nat.lt_or_eq_of_le (Nat.le_of_lt_succ hk) with q | q
            · exact ⟨k, q, ek⟩
            · subst q
              have := h1 j p (by assumption) hp
              omega
          · obtain ⟨k, hk, ek⟩ := h2 (j + 1) (by omega)
            rcases Nat.lt_or_eq_of_le (Nat.le_of_lt_succ hk) with q | q
            · exact ⟨k, q, ek⟩
            · subst q
              have := h1 p (j + 1) (by omega) (by omega)
              omega)
        omega
      · have := ih m F V h1 (fun p hp => by
          obtain ⟨k, hk, ek⟩ := h2 p hp
          rcases Nat.lt_or_eq_of_le (Nat.le_of_lt_succ hk) with q | q
          · exact ⟨k, q, ek⟩
          · subst q
            exact absurd ⟨p, hp, ek.symm⟩ g)
        omega
  exact key n m F V h.rise (fun p hp => hS _ ((h.each _).2 ⟨p, hp, rfl⟩))
/-- a number put in at a place. -/
def insE (F : Nat → Int) (at_ : Nat) (x : Int) : Nat → Int := fun j => if j < at_ then F j else if j = at_ then x else F (j - 1)
/-- the place of a number: all ahead are less, the one there is not. -/
structure AtF (F : Nat → Int) (m at_ : Nat) (x : Int) : Prop where
  le : at_ ≤ m
  low : ∀ p, p < at_ → F p < x
  high : at_ < m → x ≤ F at_
theorem EnumS.old {S S' : Int → Prop} {F : Nat → Int} {m p : Nat} {x : Int} (h : EnumS S F m) (hS : ∀ y, S' y ↔ S y ∨ y = x) (hp : p < m) (he : F p = x) : EnumS S' F m := h.congr fun y => by
  rw [hS]
  exact ⟨.inl, fun g => g.elim id fun g => by rw [g]; exact (h.each x).2 ⟨p, hp, he⟩⟩
theorem EnumS.ins {S S' : Int → Prop} {F : Nat → Int} {m at_ : Nat} {x : Int} (h : EnumS S F m) (hS : ∀ y, S' y ↔ S y ∨ y = x) (ha : AtF F m at_ x) (hn : at_ < m → F at_ ≠ x) : EnumS S' (insE F at_ x) (m + 1) := by
  have hup : ∀ p, at_ ≤ p → p < m → x < F p := fun p h1 h2 => by
    have g1 := ha.high (by omega)
    have g2 := hn (by omega)
    rcases Nat.lt_or_eq_of_le h1 with e | e
    · have := h.rise at_ p e h2
      omega
    · subst e
      omega
  have hle := ha.le
  refine ⟨fun p q h1 h2 => ?_, fun y => ?_⟩
  · unfold insE
    by_cases a1 : p < at_
    · rw [if_pos a1]
      by_cases a2 : q < at_
      · rw [if_pos a2]
        exact h.rise p q h1 (by omega)
      · rw [if_neg a2]
        by_cases a3 : q = at_
        · rw [if_pos a3]
          exact ha.low p a1
        · rw [if_neg a3]
          have := ha.low p a1
          have := hup (q - 1) (by omega) (by omega)
          omega
    · rw [if_neg a1, if_neg (show ¬ q < at_ by omega), if_neg (show ¬ q = at_ by omega)]
      by_cases a3 : p = at_
      · rw [if_pos a3]
        exact hup (q - 1) (by omega) (by omega)
      · rw [if_neg a3]
        exact h.rise _ _ (by omega) (by omega)
  · rw [hS, h.each]
    constructor
    · rintro (⟨p, hp, e⟩ | e)
      · by_cases a1 : p < at_
        · exact ⟨p, by omega, by unfold insE; rw [if_pos a1]; exact e⟩
        · exact ⟨p + 1, by omega, by unfold insE; rw [if_neg (by omega), if_neg (by omega)]; exact e⟩
      · exact ⟨at_, by omega, by unfold insE; rw [if_neg (by omega), if_pos rfl]; exact e.symm⟩
    · rintro ⟨p, hp, e⟩
      unfold insE at e
      by_cases a1 : p < at_
      · rw [if_pos a1] at e
        exact .inl ⟨p, by omega, e⟩
      · rw [if_neg a1] at e
        by_cases a3 : p = at_
        · rw [if_pos a3] at e
          exact .inr e.symm
        · rw [if_neg a3] at e
          exact .inl ⟨p - 1, by omega, e⟩
/-- the numbers of a range of the first n of a row. -/
def RngS (V : Nat → Int) (a b : Int) (n : Nat) : Int → Prop := fun x => ∃ j : Nat, j < n ∧ a ≤ (j : Int) ∧ (j : Int) < b ∧ V j = x
theorem RngS.out_ {V : Nat → Int} {a b : Int} {n : Nat} (h : ¬ (a ≤ (n : Int) ∧ (n : Int) < b)) (x : Int) : RngS V a b n x ↔ RngS V a b (n + 1) x := by
  constructor
  · rintro ⟨j, hj, h1, h2, h3⟩
    exact ⟨j, by omega, h1, h2, h3⟩
  · rintro ⟨j, hj, h1, h2, h3⟩
    rcases Nat.lt_or_eq_of_le (Nat.le_of_lt_succ hj) with q | q
    · exact ⟨j, q, h1, h2, h3⟩
    · subst q
      exact absurd ⟨h1, h2⟩ h
theorem RngS.in_ {V : Nat → Int} {a b : Int} {n : Nat} (h1 : a ≤ (n : Int)) (h2 : (n : Int) < b) (x : Int) : RngS V a b (n + 1) x ↔ RngS V a b n x ∨ x = V n := by
  constructor
  · rintro ⟨j, hj, g1, g2, g3⟩
    rcases Nat.lt_or_eq_of_le (Nat.le_of_lt_succ hj) with q | q
    · exact .inl ⟨j, q, g1, g2, g3⟩
    · subst q
      exact .inr g3.symm
  · rintro (⟨j, hj, g⟩ | g)
    · exact ⟨j, by omega, g⟩
    · exact ⟨n, by omega, h1, h2, g.symm⟩
theorem RngS.most {V : Nat → Int} {a b : Int} {n m : Nat} {F : Nat → Int} (h : EnumS (RngS V a b n) F m) : m ≤ n := h.at_most fun _ ⟨j, hj, _, _, e⟩ => ⟨j, hj, e⟩
/-- shifted up from a place on. -/
def shF (F : Nat → Int) (k : Nat) : Nat → Int := fun j => if k < j then F (j - 1) else F j
theorem shF_none (F : Nat → Int) {m j : Nat} (h : j ≤ m) : shF F m j = F j := if_neg (by omega)
theorem shF_step (F : Nat → Int) {k : Nat} (hk : 0 < k) (j : Nat) : (if j = k then F (k - 1) else shF F k j) = shF F (k - 1) j := by
  unfold shF
  by_cases e : j = k
  · subst e
    rw [if_pos rfl, if_pos (by omega)]
  · rw [if_neg e]
    by_cases g : k < j
    · rw [if_pos g, if_pos (by omega)]
    · rw [if_neg g, if_neg (by omega)]
theorem shF_ins {F G : Nat → Int} {at_ m : Nat} {x : Int} (hG : ∀ j, j < m → G j = F j) (ha : at_ ≤ m) {j : Nat} (hj : j < m + 1) : (if j = at_ then x else shF G at_ j) = insE F at_ x j := by
  unfold shF insE
  by_cases e : j = at_
  · rw [if_pos e, if_neg (by omega), if_pos e]
  · rw [if_neg e]
    by_cases g : at_ < j
    · rw [if_pos g, if_neg (by omega), if_neg e]
      exact hG _ (by omega)
    · rw [if_neg g, if_pos (by omega)]
      exact hG _ (by omega)
end Go.Proofs.Ytddfaidfnmpnlaa
