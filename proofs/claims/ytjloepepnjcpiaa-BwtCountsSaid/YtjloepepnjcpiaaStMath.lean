/- slices.SortStableFunc, plainly: numbers exchanged, ranges exchanged, blocks turned about (rotate); one number put in; merging by halves (symMerge); blocks of a size, sorted each. No program is named here. -/
import Derived.Test.YtjloepepnjcpiaaBwDevM
namespace Go.Proofs.Ytjloepepnjcpiaa

/-- two places exchanged. -/
def swN (D : Nat → Nat) (i j : Nat) : Nat → Nat := fun k => if k = i then D j else if k = j then D i else D k
/-- two ranges of m places exchanged. -/
def swR (D : Nat → Nat) (a b m : Nat) : Nat → Nat := fun x => if a ≤ x ∧ x < a + m then D (x - a + b) else if b ≤ x ∧ x < b + m then D (x - b + a) else D x
/-- what is from a on, and what is from m on up to b, turned about. -/
def rotN (D : Nat → Nat) (a m b : Nat) : Nat → Nat := fun x => if a ≤ x ∧ x < a + (b - m) then D (x - a + m) else if a + (b - m) ≤ x ∧ x < b then D (x - (a + (b - m)) + a) else D x
/-- the number at a is put at place e - 1, those between move down. -/
def shL (D : Nat → Nat) (a e : Nat) : Nat → Nat := fun x => if a ≤ x ∧ x + 1 < e then D (x + 1) else if a ≤ x ∧ x + 1 = e then D a else D x
/-- the number at m is put at place k, those between move up. -/
def shR (D : Nat → Nat) (m k : Nat) : Nat → Nat := fun x => if x = k then D m else if k < x ∧ x ≤ m then D (x - 1) else D x
theorem at_eq (D : Nat → Nat) {x y : Nat} (h : x = y) : D x = D y := by rw [h]
theorem swR_zero (D : Nat → Nat) (a b : Nat) : swR D a b 0 = D := by
  funext x
  unfold swR
  rw [if_neg (by omega), if_neg (by omega)]
theorem swR_step (D : Nat → Nat) {a b m i : Nat} (h : a + m ≤ b) (hi : i < m) : swN (swR D a b i) (a + i) (b + i) = swR D a b (i + 1) := by
  funext x
  simp only [swN, swR]
  (repeat' split) <;> first | (exfalso; omega) | exact at_eq D (by omega)
theorem rot_more (D : Nat → Nat) {p i j : Nat} (h : j < i) : rotN (swR D p (p + i) j) (p + j) (p + i) (p + i + j) = rotN D p (p + i) (p + i + j) := by
  funext x
  simp only [rotN, swR]
  (repeat' split) <;> first | (exfalso; omega) | exact at_eq D (by omega)
theorem rot_less (D : Nat → Nat) {p i j : Nat} (h : i < j) : rotN (swR D p (p + j) i) p (p + i) (p + j) = rotN D p (p + i) (p + i + j) := by
  funext x
  simp only [rotN, swR]
  (repeat' split) <;> first | (exfalso; omega) | exact at_eq D (by omega)
theorem rot_same (D : Nat → Nat) (p i : Nat) : swR D p (p + i) i = rotN D p (p + i) (p + i + i) := by
  funext x
  simp only [rotN, swR]
  (repeat' split) <;> first | (exfalso; omega) | exact at_eq D (by omega)
theorem rot_none (D : Nat → Nat) (m b : Nat) : rotN D m m b = D := by
  funext x
  simp only [rotN]
  (repeat' split) <;> first | (exfalso; omega) | exact at_eq D (by omega)
theorem rot_none' (D : Nat → Nat) (a m : Nat) : rotN D a m m = D := by
  funext x
  simp only [rotN]
  (repeat' split) <;> first | (exfalso; omega) | exact at_eq D (by omega)
theorem shL_one (D : Nat → Nat) (a : Nat) : shL D a (a + 1) = D := by
  funext x
  unfold shL
  rw [if_neg (by omega)]
  split
  · exact at_eq D (by omega)
  · rfl
theorem shL_step (D : Nat → Nat) {a k : Nat} (h : a ≤ k) : swN (shL D a (k + 1)) k (k + 1) = shL D a (k + 2) := by
  have l : ∀ e x, a ≤ x → x + 1 < e → shL D a e x = D (x + 1) := fun e x h1 h2 => if_pos ⟨h1, h2⟩
  have c : ∀ e x, a ≤ x → x + 1 = e → shL D a e x = D a := fun e x h1 h2 => by
    unfold shL
    rw [if_neg (by omega), if_pos ⟨h1, h2⟩]
  have r : ∀ e x, x < a ∨ e ≤ x → shL D a e x = D x := fun e x h1 => by
    unfold shL
    rw [if_neg (by omega), if_neg (by omega)]
  funext x
  unfold swN
  by_cases h1 : x = k
  · rw [if_pos h1, r _ _ (by omega), l _ _ (by omega) (by omega), h1]
  · rw [if_neg h1]
    by_cases h2 : x = k + 1
    · rw [if_pos h2, c _ _ h rfl, c _ _ (by omega) (by omega)]
    · rw [if_neg h2]
      by_cases h3 : a ≤ x ∧ x < k
      · rw [l _ _ h3.1 (by omega), l _ _ h3.1 (by omega)]
      · rw [r _ _ (by omega), r _ _ (by omega)]
theorem shR_one (D : Nat → Nat) (m : Nat) : shR D m m = D := by
  funext x
  unfold shR
  split
  · rename_i e; rw [e]
  · rw [if_neg (by omega)]
theorem shR_at (D : Nat → Nat) (m k : Nat) : shR D m k k = D m := if_pos rfl
theorem shR_low (D : Nat → Nat) {m k x : Nat} (h : x < k) : shR D m k x = D x := by
  unfold shR
  rw [if_neg (by omega), if_neg (by omega)]
theorem shR_step (D : Nat → Nat) {m k : Nat} (h : k + 1 ≤ m) : swN (shR D m (k + 1)) (k + 1) k = shR D m k := by
  have l : ∀ k x, x < k ∨ m < x ∧ k ≤ m → shR D m k x = D x := fun k x h1 => by
    unfold shR
    by_cases e : x = k
    · rw [if_pos e]
      exact at_eq D (by omega)
    · rw [if_neg e, if_neg (by omega)]
  have r : ∀ k x, k < x → x ≤ m → shR D m k x = D (x - 1) := fun k x h1 h2 => by
    unfold shR
    rw [if_neg (by omega), if_pos ⟨h1, h2⟩]
  funext x
  unfold swN
  by_cases h1 : x = k + 1
  · rw [if_pos h1, l _ _ (by omega), r _ _ (by omega) (by omega), h1]
    rfl
  · rw [if_neg h1]
    by_cases h2 : x = k
    · rw [if_pos h2, h2, shR_at, shR_at]
    · rw [if_neg h2]
      by_cases h3 : k + 1 < x ∧ x ≤ m
      · rw [r _ _ h3.1 h3.2, r _ _ (by omega) h3.2]
      · rw [l _ _ (by omega), l _ _ (by omega)]
/-- from a up to b the same numbers, in whatever order; elsewhere as it was. -/
def SameIn (D D' : Nat → Nat) (a b : Nat) : Prop := (∀ i, ¬ (a ≤ i ∧ i < b) → D' i = D i) ∧ ∀ i, a ≤ i → i < b → ∃ j, a ≤ j ∧ j < b ∧ D' i = D j
theorem SameIn.refl (D : Nat → Nat) (a b : Nat) : SameIn D D a b := ⟨fun _ _ => rfl, fun i h1 h2 => ⟨i, h1, h2, rfl⟩⟩
theorem SameIn.trans {D D' D'' : Nat → Nat} {a b : Nat} (h : SameIn D D' a b) (h' : SameIn D' D'' a b) : SameIn D D'' a b := ⟨fun i hi => (h'.1 i hi).trans (h.1 i hi), fun i h1 h2 => by
  obtain ⟨j, g1, g2, g3⟩ := h'.2 i h1 h2
  obtain ⟨k, q1, q2, q3⟩ := h.2 j g1 g2
  exact ⟨k, q1, q2, g3.trans q3⟩⟩
theorem SameIn.mono {D D' : Nat → Nat} {a b a' b' : Nat} (h : SameIn D D' a b) (h1 : a' ≤ a) (h2 : b ≤ b') : SameIn D D' a' b' := ⟨fun i hi => h.1 i (by omega), fun i g1 g2 => by
  by_cases e : a ≤ i ∧ i < b
  · obtain ⟨j, q1, q2, q3⟩ := h.2 i e.1 e.2
    exact ⟨j, by omega, by omega, q3⟩
  · exact ⟨i, g1, g2, h.1 i e⟩⟩
theorem SameIn.lt {D D' : Nat → Nat} {a b n : Nat} (h : SameIn D D' a b) (hb : b ≤ n) (hD : ∀ i, i < n → D i < n) : ∀ i, i < n → D' i < n := fun i hi => by
  by_cases e : a ≤ i ∧ i < b
  · obtain ⟨j, q1, q2, q3⟩ := h.2 i e.1 e.2
    rw [q3]
    exact hD j (by omega)
  · rw [h.1 i e]
    exact hD i hi
theorem same_rot {D : Nat → Nat} {a m b : Nat} (h : a ≤ m) (h' : m ≤ b) : SameIn D (rotN D a m b) a b := ⟨fun i hi => by
  unfold rotN
  rw [if_neg (by omega), if_neg (by omega)], fun i h1 h2 => by
  unfold rotN
  by_cases e : i < a + (b - m)
  · exact ⟨i - a + m, by omega, by omega, if_pos ⟨h1, e⟩⟩
  · exact ⟨i - (a + (b - m)) + a, by omega, by omega, by rw [if_neg (by omega), if_pos (by omega)]⟩⟩
theorem same_shL {D : Nat → Nat} {a e b : Nat} (h : a < e) (hb : e ≤ b) : SameIn D (shL D a e) a b := ⟨fun i hi => by
  unfold shL
  rw [if_neg (by omega), if_neg (by omega)], fun i h1 h2 => by
  unfold shL
  by_cases g : i + 1 < e
  · exact ⟨i + 1, by omega, by omega, if_pos ⟨h1, g⟩⟩
  · by_cases g' : i + 1 = e
    · exact ⟨a, by omega, by omega, by rw [if_neg (by omega), if_pos (by omega)]⟩
    · exact ⟨i, h1, h2, by rw [if_neg (by omega), if_neg (by omega)]⟩⟩
theorem same_shR {D : Nat → Nat} {a m k b : Nat} (h : a ≤ k) (hk : k ≤ m) (hb : m < b) : SameIn D (shR D m k) a b := ⟨fun i hi => by
  unfold shR
  rw [if_neg (by omega), if_neg (by omega)], fun i h1 h2 => by
  unfold shR
  by_cases g : i = k
  · exact ⟨m, by omega, by omega, if_pos g⟩
  · by_cases g' : k < i ∧ i ≤ m
    · exact ⟨i - 1, by omega, by omega, by rw [if_neg g, if_pos g']⟩
    · exact ⟨i, h1, h2, by rw [if_neg g, if_neg g']⟩⟩
section
variable {K : Nat → Int} {D : Nat → Nat}
/-- from a up to b: in order. -/
def SortedN (K : Nat → Int) (D : Nat → Nat) (a b : Nat) : Prop := ∀ i j, a ≤ i → i < j → j < b → AheadOf K (D i) (D j)
theorem SortedN.sub {a b a' b' : Nat} (h : SortedN K D a b) (h1 : a ≤ a') (h2 : b' ≤ b) : SortedN K D a' b' := fun i j g1 g2 g3 => h i j (by omega) g2 (by omega)
theorem SortedN.far {D' : Nat → Nat} {a b : Nat} (h : SortedN K D a b) (h' : ∀ i, a ≤ i → i < b → D' i = D i) : SortedN K D' a b := fun i j g1 g2 g3 => by
  rw [h' i g1 (by omega), h' j (by omega) g3]
  exact h i j g1 g2 g3
/-- the first numbers are less than the second ones. -/
def Cross (D : Nat → Nat) (a m b : Nat) : Prop := ∀ i j, a ≤ i → i < m → m ≤ j → j < b → D i < D j
theorem cross_ahead {x y : Nat} (h : x < y) : AheadOf K y x ↔ K y < K x := ⟨fun g => by
  rcases g with g | ⟨_, g⟩
  · exact g
  · omega, fun g => .inl g⟩
theorem not_cross_ahead {x y : Nat} (h : x < y) (hn : ¬ K y < K x) : AheadOf K x y := by
  rcases aheadOf_or (V := K) (show x ≠ y by omega) with g | g
  · exact g
  · exact absurd ((cross_ahead h).1 g) hn
/-- one number put in from the right. -/
theorem shR_sorted {a m k : Nat} (hak : a ≤ k) (hkm : k ≤ m) (hs : SortedN K D a m) (h1 : ∀ x, a ≤ x → x < k → AheadOf K (D x) (D m)) (h2 : ∀ x, k ≤ x → x < m → AheadOf K (D m) (D x)) : SortedN K (shR D m k) a (m + 1) := fun i j g1 g2 g3 => by
  unfold shR
  by_cases e1 : i = k
  · rw [if_pos e1, if_neg (by omega), if_pos (by omega)]
    exact h2 _ (by omega) (by omega)
  · rw [if_neg e1]
    by_cases e2 : j = k
    · rw [if_pos e2, if_neg (by omega)]
      exact h1 i g1 (by omega)
    · rw [if_neg e2]
      by_cases e3 : k < i ∧ i ≤ m
      · rw [if_pos e3, if_pos (by omega)]
        exact hs _ _ (by omega) (by omega) (by omega)
      · rw [if_neg e3]
        by_cases e4 : k < j ∧ j ≤ m
        · rw [if_pos e4]
          exact hs i (j - 1) g1 (by omega) (by omega)
        · rw [if_neg e4]
          exact hs i j g1 g2 (by omega)
/-- one number put in from the left. -/
theorem shL_sorted {a e b : Nat} (hae : a < e) (heb : e ≤ b) (hs : SortedN K D (a + 1) b) (h1 : ∀ x, a < x → x < e → AheadOf K (D x) (D a)) (h2 : ∀ x, e ≤ x → x < b → AheadOf K (D a) (D x)) : SortedN K (shL D a e) a b := fun i j g1 g2 g3 => by
  unfold shL
  by_cases e1 : a ≤ i ∧ i + 1 < e
  · rw [if_pos e1]
    by_cases e2 : a ≤ j ∧ j + 1 < e
    · rw [if_pos e2]
      exact hs _ _ (by omega) (by omega) (by omega)
    · rw [if_neg e2]
      by_cases e3 : a ≤ j ∧ j + 1 = e
      · rw [if_pos e3]
        exact h1 _ (by omega) (by omega)
      · rw [if_neg e3]
        exact hs _ _ (by omega) (by omega) g3
  · rw [if_neg e1, if_neg (show ¬ (a ≤ j ∧ j + 1 < e) by omega), if_neg (show ¬ (a ≤ j ∧ j + 1 = e) by omega)]
    by_cases e3 : a ≤ i ∧ i + 1 = e
    · rw [if_pos e3]
      exact h2 j (by omega) g3
    · rw [if_neg e3]
      exact hs i j (by omega) g2 g3
/-- where the halves are parted. -/
def symLo (a m b mid : Nat) : Nat := if mid < m then mid + m - b else a
def symHi (m mid : Nat) : Nat := if mid < m then mid else m
/-- what is known behind a search for it. -/
structure SymAt (K : Nat → Int) (D : Nat → Nat) (a m b mid st : Nat) : Prop where
  lo : symLo a m b mid ≤ st
  hi : st ≤ symHi m mid
  one : ∀ c, symLo a m b mid ≤ c → c < st → AheadOf K (D c) (D (mid + m - 1 - c))
  two : ∀ c, st ≤ c → c < symHi m mid → AheadOf K (D (mid + m - 1 - c)) (D c)
structure SymParts (K : Nat → Int) (D D1 : Nat → Nat) (a m b mid st en : Nat) : Prop where
  ord : a ≤ st ∧ st ≤ mid ∧ st ≤ m ∧ m ≤ en ∧ en ≤ b ∧ mid ≤ en
  s1 : SortedN K D1 a st
  s2 : SortedN K D1 st mid
  s3 : SortedN K D1 mid en
  s4 : SortedN K D1 en b
  c1 : Cross D1 a st mid
  c2 : Cross D1 mid en b
  all : ∀ i j, a ≤ i → i < mid → mid ≤ j → j < b → AheadOf K (D1 i) (D1 j)
  same : SameIn D D1 a b
theorem SortedN.le {a b i j : Nat} {x : Nat} (h : SortedN K D a b) (h1 : a ≤ i) (h2 : i ≤ j) (h3 : j < b) (hx : AheadOf K (D j) x) : AheadOf K (D i) x := by
  by_cases e : i = j
  · rw [e]; exact hx
  · exact aheadOf_trans (h i j h1 (by omega) h3) hx
theorem SortedN.ge {a b i j : Nat} {x : Nat} (h : SortedN K D a b) (h1 : a ≤ i) (h2 : i ≤ j) (h3 : j < b) (hx : AheadOf K x (D i)) : AheadOf K x (D j) := by
  by_cases e : i = j
  · rw [← e]; exact hx
  · exact aheadOf_trans hx (h i j h1 (by omega) h3)
theorem sym_parts {a m b mid st : Nat} (_ham : a < m) (hmb : m < b) (hm1 : 2 * mid ≤ a + b) (hm2 : a + b ≤ 2 * mid + 1) (hs1 : SortedN K D a m) (hs2 : SortedN K D m b) (hc : Cross D a m b) (hS : SymAt K D a m b mid st) :
    SymParts K D (rotN D st m (mid + m - st)) a m b mid st (mid + m - st) := by
  have hlo := hS.lo
  have hhi := hS.hi
  have bl : a ≤ symLo a m b mid := by unfold symLo; split <;> omega
  have bh : symHi m mid ≤ mid ∧ symHi m mid ≤ m := by unfold symHi; split <;> omega
  have hen : mid + m - st ≤ b := by
    unfold symLo at hlo
    split at hlo
    · omega
    · unfold symHi at hhi
      split at hhi <;> omega
  have ord : a ≤ st ∧ st ≤ mid ∧ st ≤ m ∧ m ≤ mid + m - st ∧ mid + m - st ≤ b ∧ mid ≤ mid + m - st := by omega
  obtain ⟨en, he⟩ : ∃ en, mid + m - st = en := ⟨_, rfl⟩
  rw [he] at ord hen ⊢
  have r1 : ∀ x, x < st → rotN D st m en x = D x := fun x hx => by
    unfold rotN
    rw [if_neg (by omega), if_neg (by omega)]
  have r2 : ∀ x, st ≤ x → x < mid → rotN D st m en x = D (x - st + m) := fun x h1 h2 => by
    unfold rotN
    rw [if_pos (by omega)]
  have r3 : ∀ x, mid ≤ x → x < en → rotN D st m en x = D (x - mid + st) := fun x h1 h2 => by
    unfold rotN
    rw [if_neg (by omega), if_pos (by omega)]
    exact at_eq D (by omega)
  have r4 : ∀ x, en ≤ x → rotN D st m en x = D x := fun x hx => by
    unfold rotN
    rw [if_neg (by omega), if_neg (by omega)]
  refine ⟨ord, fun i j g1 g2 g3 => ?_, fun i j g1 g2 g3 => ?_, fun i j g1 g2 g3 => ?_, fun i j g1 g2 g3 => ?_, fun i j g1 g2 g3 g4 => ?_, fun i j g1 g2 g3 g4 => ?_, fun i j g1 g2 g3 g4 => ?_, (same_rot ord.2.2.1 ord.2.2.2.1).mono ord.1 ord.2.2.2.2.1⟩
  · rw [r1 i (by omega), r1 j g3]
    exact hs1 i j g1 g2 (by omega)
  · rw [r2 i g1 (by omega), r2 j (by omega) g3]
    exact hs2 _ _ (by omega) (by omega) (by omega)
  · rw [r3 i g1 (by omega), r3 j (by omega) g3]
    exact hs1 _ _ (by omega) (by omega) (by omega)
  · rw [r4 i g1, r4 j (by omega)]
    exact hs2 i j (by omega) g2 g3
  · rw [r1 i g2, r2 j g3 g4]
    exact hc _ _ g1 (by omega) (by omega) (by omega)
  · rw [r3 i g1 g2, r4 j g3]
    exact hc _ _ (by omega) (by omega) (by omega) g4
  · by_cases e1 : i < st
    · rw [r1 i e1]
      by_cases e2 : j < en
      · rw [r3 j g3 e2]
        exact hs1 _ _ g1 (by omega) (by omega)
      · rw [r4 j (by omega)]
        have hst : symLo a m b mid < st := by
          apply Nat.lt_of_le_of_ne hlo
          intro e
          unfold symLo at e
          split at e <;> omega
        have h1 := hS.one (st - 1) (by omega) (by omega)
        rw [show mid + m - 1 - (st - 1) = en by omega] at h1
        exact hs1.le g1 (show i ≤ st - 1 by omega) (by omega) (hs2.ge (by omega) (show en ≤ j by omega) g4 h1)
    · rw [r2 i (by omega) g2]
      by_cases e2 : j < en
      · rw [r3 j g3 e2]
        have hst : st < symHi m mid := by
          unfold symHi
          split <;> omega
        have h1 := hS.two st (Nat.le_refl _) hst
        exact hs2.le (show m ≤ i - st + m by omega) (show i - st + m ≤ mid + m - 1 - st by omega) (by omega) (hs1.ge (by omega) (show st ≤ j - mid + st by omega) (by omega) h1)
      · rw [r4 j (by omega)]
        exact hs2 _ _ (by omega) (by omega) g4
/-- what merging leaves. -/
def Merged (K : Nat → Int) (D D' : Nat → Nat) (a b : Nat) : Prop := SameIn D D' a b ∧ SortedN K D' a b
theorem SymParts.done {D1 D2 D3 : Nat → Nat} {a m b mid st en : Nat} (h : SymParts K D D1 a m b mid st en) (hm : a ≤ mid ∧ mid ≤ b) (h2 : Merged K D1 D2 a mid) (h3 : Merged K D2 D3 mid b) : Merged K D D3 a b := by
  refine ⟨(h.same.trans (h2.1.mono (Nat.le_refl _) hm.2)).trans (h3.1.mono hm.1 (Nat.le_refl _)), fun i j g1 g2 g3 => ?_⟩
  by_cases e1 : i < mid
  · by_cases e2 : j < mid
    · rw [h3.1.1 i (by omega), h3.1.1 j (by omega)]
      exact h2.2 i j g1 g2 e2
    · obtain ⟨i', q1, q2, q3⟩ := h2.1.2 i g1 e1
      obtain ⟨j', p1, p2, p3⟩ := h3.1.2 j (by omega) g3
      rw [h3.1.1 i (by omega), q3, p3, h2.1.1 j' (by omega)]
      exact h.all i' j' q1 q2 p1 p2
  · exact h3.2 i j (by omega) g2 g3
theorem SymParts.left {D1 : Nat → Nat} {a m b mid st en : Nat} (h : SymParts K D D1 a m b mid st en) (hn : ¬ (a < st ∧ st < mid)) : Merged K D1 D1 a mid := ⟨SameIn.refl _ _ _, by
  have := h.ord
  by_cases e : st = a
  · rw [← e]; exact h.s2
  · have e2 : st = mid := by omega
    rw [← e2]; exact h.s1⟩
theorem SymParts.right {D1 D2 : Nat → Nat} {a m b mid st en : Nat} (h : SymParts K D D1 a m b mid st en) (h2 : SameIn D1 D2 a mid) (hn : ¬ (mid < en ∧ en < b)) : Merged K D2 D2 mid b := ⟨SameIn.refl _ _ _, by
  have := h.ord
  refine SortedN.far ?_ fun i h1 _ => h2.1 i (by omega)
  by_cases e : en = mid
  · rw [← e]; exact h.s4
  · have e2 : en = b := by omega
    rw [← e2]; exact h.s3⟩

/-- blocks of B places from lo up to hi, each in order, each with its own numbers. -/
def Blk (K : Nat → Int) (D : Nat → Nat) (B lo hi : Nat) : Prop := ∀ q, lo ≤ q * B → q * B < hi → SortedN K D (q * B) (min (q * B + B) hi) ∧ ∀ i, q * B ≤ i → i < min (q * B + B) hi → q * B ≤ D i ∧ D i < min (q * B + B) hi
theorem mul_next {q r B : Nat} (h : q * B < r * B) : q * B + B ≤ r * B := by
  have h1 : q < r := Nat.lt_of_mul_lt_mul_right h
  have h2 : (q + 1) * B ≤ r * B := Nat.mul_le_mul_right B h1
  rw [Nat.succ_mul] at h2
  exact h2
theorem Blk.none (B : Nat) : Blk K D B 0 0 := fun _ _ h => absurd h (Nat.not_lt_zero _)
/-- one block more, up to hi. -/
theorem Blk.snoc {D' : Nat → Nat} {B r hi : Nat} (h : Blk K D B 0 (r * B)) (h1 : r * B ≤ hi) (h2 : hi ≤ r * B + B) (hS : SameIn D D' (r * B) hi) (hs : SortedN K D' (r * B) hi) (hin : ∀ i, r * B ≤ i → i < hi → r * B ≤ D i ∧ D i < hi) : Blk K D' B 0 hi := fun q _ hq => by
  by_cases e : q * B < r * B
  · have := mul_next e
    obtain ⟨g1, g2⟩ := h q (Nat.zero_le _) e
    rw [Nat.min_eq_left (by omega)] at g1 g2 ⊢
    refine ⟨g1.far fun i _ hi => hS.1 i (by omega), fun i h3 h4 => ?_⟩
    rw [hS.1 i (by omega)]
    exact g2 i h3 h4
  · by_cases e' : r * B < q * B
    · have := mul_next e'
      omega
    · have e2 : q * B = r * B := by omega
      rw [e2, Nat.min_eq_right (by omega)]
      refine ⟨hs, fun i h3 h4 => ?_⟩
      obtain ⟨j, g1, g2, g3⟩ := hS.2 i h3 h4
      rw [g3]
      exact hin j g1 g2
theorem Blk.rest {D' : Nat → Nat} {B a b hi : Nat} (h : Blk K D B a hi) (hab : a ≤ b) (hS : SameIn D D' a b) : Blk K D' B b hi := fun q h1 h2 => by
  obtain ⟨g1, g2⟩ := h q (by omega) h2
  refine ⟨g1.far fun i hi _ => hS.1 i (by omega), fun i h3 h4 => ?_⟩
  rw [hS.1 i (by omega)]
  exact g2 i h3 h4
theorem Blk.one {B r a n : Nat} (ha : a = r * (2 * B)) (h : Blk K D B a n) (h1 : a ≤ n) (hn : n ≤ a + B) : SortedN K D a n ∧ ∀ i, a ≤ i → i < n → a ≤ D i ∧ D i < n := by
  by_cases e : a = n
  · exact ⟨fun i j _ _ _ => by omega, fun i _ _ => by omega⟩
  · have e1 : 2 * r * B = a := by rw [ha, Nat.mul_comm 2 r, Nat.mul_assoc]
    have := h (2 * r) (by omega) (by omega)
    rw [e1, Nat.min_eq_right (by omega)] at this
    exact this
theorem Blk.two {B r a n : Nat} (ha : a = r * (2 * B)) (h : Blk K D B a n) (hB : 0 < B) (hn : a + B < n) {hi : Nat} (hhi : hi = min (a + 2 * B) n) : SortedN K D a (a + B) ∧ SortedN K D (a + B) hi ∧ Cross D a (a + B) hi ∧ ∀ i, a ≤ i → i < hi → a ≤ D i ∧ D i < hi := by
  have e1 : 2 * r * B = a := by rw [ha, Nat.mul_comm 2 r, Nat.mul_assoc]
  have e2 : (2 * r + 1) * B = a + B := by rw [Nat.succ_mul, e1]
  have h1 := h (2 * r) (by omega) (by omega)
  rw [e1, Nat.min_eq_left (by omega)] at h1
  have h2 := h (2 * r + 1) (by omega) (by omega)
  rw [e2, show min (a + B + B) n = hi by omega] at h2
  refine ⟨h1.1, h2.1, fun i j g1 g2 g3 g4 => ?_, fun i g1 g2 => ?_⟩
  · have q1 := h1.2 i g1 g2
    have q2 := h2.2 j g3 g4
    omega
  · by_cases e : i < a + B
    · have := h1.2 i g1 e
      omega
    · have := h2.2 i (by omega) g2
      omega
theorem Blk.done {B n : Nat} (h : Blk K D B 0 n) (hn : n ≤ B) : SortedN K D 0 n ∧ ∀ i, i < n → D i < n := by
  by_cases h0 : n = 0
  · subst h0
    exact ⟨fun i j _ _ hj => absurd hj (Nat.not_lt_zero _), fun i hi => absurd hi (Nat.not_lt_zero _)⟩
  · have := h 0 (by omega) (by omega)
    rw [Nat.zero_mul, Nat.min_eq_right (by omega)] at this
    exact ⟨this.1, fun i hi => (this.2 i (Nat.zero_le _) hi).2⟩
end
end Go.Proofs.Ytjloepepnjcpiaa
