/- A row's ranges put in order; the rows of a wavelet matrix's levels: plain: no program is named here. -/
import Derived.Test.YthbnojhcmfhnhaaBwtMath
import Derived.Test.YthbnojhcmfhnhaaDocMath
namespace Go.Proofs.Ythbnojhcmfhnhaa
open Pl (cnt cnt_succ cnt_congr)

/-- what of the first m numbers stands from a on, ahead of b. -/
def partL (V : Nat → Int) (a b : Int) : Nat → List Int
  | 0 => []
  | m + 1 => partL V a b m ++ (if a ≤ (m : Int) ∧ (m : Int) < b then [V m] else [])
theorem partL_hit {V : Nat → Int} {a b : Int} {m : Nat} (h : a ≤ (m : Int) ∧ (m : Int) < b) : partL V a b (m + 1) = partL V a b m ++ [V m] := by
  show partL V a b m ++ _ = _
  rw [if_pos h]
theorem partL_miss {V : Nat → Int} {a b : Int} {m : Nat} (h : ¬ (a ≤ (m : Int) ∧ (m : Int) < b)) : partL V a b (m + 1) = partL V a b m := by
  show partL V a b m ++ _ = _
  rw [if_neg h, List.append_nil]
theorem partL_le (V : Nat → Int) (a b : Int) : ∀ m, (partL V a b m).length ≤ m
  | 0 => Nat.le_refl _
  | m + 1 => by
    have := partL_le V a b m
    by_cases h : a ≤ (m : Int) ∧ (m : Int) < b
    · rw [partL_hit h, List.length_append]
      show _ + 1 ≤ m + 1
      omega
    · rw [partL_miss h]
      omega
theorem mem_partL {V : Nat → Int} {a b x : Int} : ∀ {m}, x ∈ partL V a b m ↔ ∃ j : Nat, j < m ∧ a ≤ (j : Int) ∧ (j : Int) < b ∧ V j = x
  | 0 => ⟨fun h => (by cases h), fun ⟨j, hj, _⟩ => absurd hj (Nat.not_lt_zero j)⟩
  | m + 1 => by
    have ih := mem_partL (V := V) (a := a) (b := b) (x := x) (m := m)
    by_cases h : a ≤ (m : Int) ∧ (m : Int) < b
    · rw [partL_hit h, List.mem_append, ih, List.mem_singleton]
      constructor
      · rintro (⟨j, h1, h2⟩ | h1)
        · exact ⟨j, by omega, h2⟩
        · exact ⟨m, by omega, h.1, h.2, h1.symm⟩
      · rintro ⟨j, h1, h2, h3, h4⟩
        by_cases e : j = m
        · exact .inr (by rw [← h4, e])
        · exact .inl ⟨j, by omega, h2, h3, h4⟩
    · rw [partL_miss h, ih]
      constructor
      · rintro ⟨j, h1, h2⟩
        exact ⟨j, by omega, h2⟩
      · rintro ⟨j, h1, h2, h3, h4⟩
        by_cases e : j = m
        · subst e
          exact absurd ⟨h2, h3⟩ h
        · exact ⟨j, by omega, h2, h3, h4⟩
/-- how many of the range are such. -/
theorem countP_partL (V : Nat → Int) (a b : Int) (p : Int → Bool) : ∀ m, (partL V a b m).countP p = cnt (fun j => decide (a ≤ (j : Int) ∧ (j : Int) < b) && p (V j)) m
  | 0 => rfl
  | m + 1 => by
    have ih := countP_partL V a b p m
    rw [cnt_succ]
    by_cases h : a ≤ (m : Int) ∧ (m : Int) < b
    · rw [partL_hit h, List.countP_append, ih, decide_eq_true h, Bool.true_and, List.countP_cons, List.countP_nil, Nat.zero_add]
    · rw [partL_miss h, ih, decide_eq_false h, Bool.false_and]
      rfl
/-- how many of the range are less than c. -/
def lessR (V : Nat → Int) (a b c : Int) (m : Nat) : Nat := cnt (fun j => decide (a ≤ (j : Int) ∧ (j : Int) < b) && decide (V j < c)) m
theorem lessR_part (V : Nat → Int) (a b c : Int) (m : Nat) : (partL V a b m).countP (fun x => decide (x < c)) = lessR V a b c m := countP_partL V a b _ m
theorem cntR_part (V : Nat → Int) (d a b : Int) (m : Nat) : (partL V a b m).countP (fun x => decide (x = d)) = cntR V d a b m := by
  rw [countP_partL]
  unfold cntR
  refine cnt_congr fun j _ => ?_
  rw [← Bool.decide_and]
  exact decide_eq_decide.2 ⟨fun h => ⟨h.2, h.1⟩, fun h => ⟨h.2, h.1⟩⟩

/-- a number put in behind those that are not greater. -/
def insL (x : Int) : List Int → List Int
  | [] => [x]
  | y :: l => if y ≤ x then y :: insL x l else x :: y :: l
/-- put in order. -/
def sortL (l : List Int) : List Int := l.foldl (fun o x => insL x o) []
theorem insL_length (x : Int) : ∀ l, (insL x l).length = l.length + 1
  | [] => rfl
  | y :: l => by
    unfold insL
    split
    · show (insL x l).length + 1 = _
      rw [insL_length x l]
      rfl
    · rfl
theorem insL_perm (x : Int) : ∀ l, (insL x l).Perm (x :: l)
  | [] => List.Perm.refl _
  | y :: l => by
    unfold insL
    split
    · exact ((insL_perm x l).cons y).trans (List.Perm.swap x y l)
    · exact List.Perm.refl _
theorem insL_sorted (x : Int) : ∀ {l : List Int}, l.Pairwise (· ≤ ·) → (insL x l).Pairwise (· ≤ ·)
  | [], _ => List.pairwise_singleton _ _
  | y :: l, h => by
    rw [List.pairwise_cons] at h
    unfold insL
    by_cases e : y ≤ x
    · rw [if_pos e, List.pairwise_cons]
      refine ⟨fun z hz => ?_, insL_sorted x h.2⟩
      rcases List.mem_cons.1 ((insL_perm x l).mem_iff.1 hz) with g | g
      · rw [g]; exact e
      · exact h.1 z g
    · rw [if_neg e, List.pairwise_cons, List.pairwise_cons]
      refine ⟨fun z hz => ?_, h⟩
      rcases List.mem_cons.1 hz with g | g
      · omega
      · have := h.1 z g
        omega
theorem sortL_snoc (l : List Int) (x : Int) : sortL (l ++ [x]) = insL x (sortL l) := by
  unfold sortL
  rw [List.foldl_append]
  rfl
theorem fold_perm : ∀ (l o : List Int), (l.foldl (fun o x => insL x o) o).Perm (l ++ o)
  | [], _ => List.Perm.refl _
  | x :: l, o => by
    show (l.foldl (fun o x => insL x o) (insL x o)).Perm _
    refine (fold_perm l _).trans ?_
    refine ((insL_perm x o).append_left l).trans ?_
    exact List.perm_middle
theorem sortL_perm (l : List Int) : (sortL l).Perm l := by
  have := fold_perm l []
  rwa [List.append_nil] at this
theorem fold_sorted (l : List Int) : ∀ o : List Int, o.Pairwise (· ≤ ·) → (l.foldl (fun o x => insL x o) o).Pairwise (· ≤ ·) := by
  induction l with
  | nil => intro o h; exact h
  | cons y l ih =>
    intro o h
    exact ih _ (insL_sorted y h)
theorem sortL_sorted (l : List Int) : (sortL l).Pairwise (· ≤ ·) := fold_sorted l [] List.Pairwise.nil
theorem sortL_length (l : List Int) : (sortL l).length = l.length := (sortL_perm l).length_eq
/-- in order: what stands at k. -/
theorem sorted_at {s : List Int} (hs : s.Pairwise (· ≤ ·)) {k : Nat} {v : Int} (h1 : s.countP (fun x => decide (x < v)) ≤ k) (h2 : k < s.countP (fun x => decide (x < v + 1))) : s[k]? = some v := by
  induction s generalizing k with
  | nil => exact absurd h2 (Nat.not_lt_zero _)
  | cons x s ih =>
    rw [List.pairwise_cons] at hs
    rw [List.countP_cons] at h1 h2
    by_cases hx : x < v
    · rw [if_pos (decide_eq_true hx)] at h1
      rw [if_pos (decide_eq_true (by omega))] at h2
      obtain ⟨m, rfl⟩ : ∃ m, k = m + 1 := ⟨k - 1, by omega⟩
      rw [List.getElem?_cons_succ]
      exact ih hs.2 (by omega) (by omega)
    · have h0 : s.countP (fun x => decide (x < v)) = 0 := by
        rw [List.countP_eq_zero]
        intro y hy
        have := hs.1 y hy
        rw [decide_eq_true_iff]
        omega
      by_cases hxv : x = v
      · subst hxv
        rcases k with _ | m
        · rfl
        · rw [List.getElem?_cons_succ]
          rw [if_pos (decide_eq_true (by omega))] at h2
          exact ih hs.2 (by omega) (by omega)
      · have h3 : s.countP (fun x => decide (x < v + 1)) = 0 := by
          rw [List.countP_eq_zero]
          intro y hy
          have := hs.1 y hy
          rw [decide_eq_true_iff]
          omega
        rw [h3, if_neg (by rw [decide_eq_true_iff]; omega)] at h2
        omega
theorem at_sorted {s : List Int} (hs : s.Pairwise (· ≤ ·)) {k : Nat} {v : Int} (h : s[k]? = some v) : s.countP (fun x => decide (x < v)) ≤ k ∧ k < s.countP (fun x => decide (x < v + 1)) := by
  induction s generalizing k with
  | nil => cases h
  | cons x s ih =>
    rw [List.pairwise_cons] at hs
    rw [List.countP_cons, List.countP_cons]
    rcases k with _ | m
    · have e : x = v := Option.some.inj h
      rw [← e]
      have h0 : s.countP (fun y => decide (y < x)) = 0 := by
        rw [List.countP_eq_zero]
        intro y hy
        have := hs.1 y hy
        rw [decide_eq_true_iff]
        omega
      rw [h0, if_neg (by rw [decide_eq_true_iff]; omega), if_pos (decide_eq_true (by omega))]
      omega
    · rw [List.getElem?_cons_succ] at h
      obtain ⟨g1, g2⟩ := ih hs.2 h
      have hx := hs.1 v (List.mem_of_getElem? h)
      rw [if_pos (decide_eq_true (show x < v + 1 by omega))]
      refine ⟨?_, by omega⟩
      split <;> omega
/-- what stands at k, the range put in order; -1: nothing. -/
def quantI (V : Nat → Int) (n : Nat) (a b k : Int) : Int := if 0 ≤ k then (sortL (partL V a b n)).getD k.toNat (-1) else -1
theorem quantI_at {V : Nat → Int} {n : Nat} {a b v : Int} {k : Nat} (h1 : lessR V a b v n ≤ k) (h2 : k < lessR V a b (v + 1) n) : quantI V n a b (k : Int) = v := by
  unfold quantI
  rw [if_pos (by omega), Int.toNat_natCast, List.getD_eq_getElem?_getD, sorted_at (sortL_sorted _) (by rw [(sortL_perm _).countP_eq, lessR_part]; exact h1) (by rw [(sortL_perm _).countP_eq, lessR_part]; exact h2)]
  rfl
theorem quantI_is {V : Nat → Int} {n : Nat} {a b : Int} {k : Nat} (hk : k < (partL V a b n).length) : ∃ v, quantI V n a b (k : Int) = v ∧ v ∈ partL V a b n ∧ lessR V a b v n ≤ k ∧ k < lessR V a b (v + 1) n := by
  have hl : k < (sortL (partL V a b n)).length := by rw [sortL_length]; exact hk
  have h := List.getElem?_eq_getElem hl
  have h2 := at_sorted (sortL_sorted _) h
  rw [(sortL_perm _).countP_eq, lessR_part, (sortL_perm _).countP_eq, lessR_part] at h2
  exact ⟨_, quantI_at h2.1 h2.2, (sortL_perm _).mem_iff.1 (List.mem_of_getElem? h), h2⟩
theorem quantI_out {V : Nat → Int} {n : Nat} {a b k : Int} (h : k < 0 ∨ ((partL V a b n).length : Int) ≤ k) : quantI V n a b k = -1 := by
  unfold quantI
  by_cases h0 : 0 ≤ k
  · rw [if_pos h0, List.getD_eq_getElem?_getD, List.getElem?_eq_none (by rw [sortL_length]; omega)]
    rfl
  · exact if_neg h0

/-- the first m numbers. -/
def takeL (V : Nat → Int) : Nat → List Int
  | 0 => []
  | m + 1 => takeL V m ++ [V m]
theorem takeL_length (V : Nat → Int) : ∀ m, (takeL V m).length = m
  | 0 => rfl
  | m + 1 => by
    show (takeL V m ++ [V m]).length = _
    rw [List.length_append, takeL_length V m]
    rfl
theorem takeL_at (V : Nat → Int) : ∀ m k, k < m → (takeL V m)[k]? = some (V k)
  | 0, k, h => absurd h (Nat.not_lt_zero k)
  | m + 1, k, h => by
    show (takeL V m ++ [V m])[k]? = _
    by_cases e : k = m
    · subst e
      rw [List.getElem?_append_right (by rw [takeL_length]; exact Nat.le_refl _), takeL_length, Nat.sub_self]
      rfl
    · rw [List.getElem?_append_left (by rw [takeL_length]; omega)]
      exact takeL_at V m k (by omega)
/-- a list is its numbers. -/
theorem takeL_is {V : Nat → Int} : ∀ {l : List Int}, (∀ k, k < l.length → l[k]? = some (V k)) → takeL V l.length = l := fun {l} h => by
  apply List.ext_getElem?
  intro k
  by_cases hk : k < l.length
  · rw [takeL_at V _ k hk, h k hk]
  · rw [List.getElem?_eq_none (by rw [takeL_length]; omega), List.getElem?_eq_none (by omega)]
/-- where a number is put in. -/
theorem insL_at {x : Int} : ∀ {s : List Int} {p : Nat}, (∀ j y, j < p → s[j]? = some y → y ≤ x) → p ≤ s.length → (∀ y, s[p]? = some y → x < y) → insL x s = s.take p ++ x :: s.drop p
  | [], p, _, hp, _ => by
    obtain rfl : p = 0 := by simpa using hp
    rfl
  | y :: s, 0, _, _, h2 => by
    have := h2 y rfl
    unfold insL
    rw [if_neg (by omega)]
    rfl
  | y :: s, p + 1, h1, hp, h2 => by
    have h0 := h1 0 y (by omega) rfl
    unfold insL
    rw [if_pos h0, insL_at (s := s) (p := p) (fun j z hj hz => h1 (j + 1) z (by omega) hz) (by simpa using hp) (fun z hz => h2 z hz)]
    rfl
/-- how many bits a number has, at least one. -/
def widthN (m : Nat) : Nat := if h : m ≤ 1 then 1 else widthN (m / 2) + 1
termination_by m
decreasing_by omega
theorem widthN_low {m : Nat} (h : m ≤ 1) : widthN m = 1 := by
  unfold widthN
  rw [dif_pos h]
theorem widthN_up {m : Nat} (h : ¬ m ≤ 1) : widthN m = widthN (m / 2) + 1 := by
  rw [widthN, dif_neg h]
theorem widthN_pos (m : Nat) : 1 ≤ widthN m := by
  by_cases h : m ≤ 1
  · rw [widthN_low h]
    exact Nat.le_refl _
  · rw [widthN_up h]
    omega
theorem widthN_pow : ∀ (k m : Nat), m < 2 ^ k → 1 ≤ k → widthN m ≤ k := by
  intro k
  induction k with
  | zero => intro m _ h; omega
  | succ k ih =>
    intro m hm _
    by_cases h : m ≤ 1
    · rw [widthN_low h]
      omega
    · rw [widthN_up h]
      rw [Nat.pow_succ] at hm
      by_cases hk : k = 0
      · subst hk
        omega
      · have := ih (m / 2) (by omega) (by omega)
        omega
theorem lt_widthN (m : Nat) : m < 2 ^ widthN m := by
  induction m using Nat.strongRecOn with
  | _ m ih =>
    by_cases h : m ≤ 1
    · rw [widthN_low h]
      omega
    · rw [widthN_up h, Nat.pow_succ]
      have := ih (m / 2) (by omega)
      omega
end Go.Proofs.Ythbnojhcmfhnhaa
