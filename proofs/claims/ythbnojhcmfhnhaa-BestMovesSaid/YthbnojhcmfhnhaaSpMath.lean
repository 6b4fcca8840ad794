/- Rising places, their high and low parts: plain arithmetic; no program is named here. -/
import Derived.Test.YthbnojhcmfhnhaaCntMath
namespace Go.Proofs.Ythbnojhcmfhnhaa.Pl

theorem cnt_full {g : Nat → Bool} : ∀ {m : Nat}, (∀ i, i < m → g i = true) → cnt g m = m
  | 0, _ => rfl
  | m + 1, h => by
    rw [cnt_succ, cnt_full fun i hi => h i (by omega), h m (by omega)]
    rfl
/-- g holds just of the first k. -/
theorem cnt_pre {g : Nat → Bool} {k m : Nat} (hk : k ≤ m) (h1 : ∀ i, i < k → g i = true) (h2 : ∀ i, k ≤ i → i < m → g i = false) : cnt g m = k := by
  obtain ⟨c, rfl⟩ := Nat.le.dest hk
  rw [cnt_add, cnt_full h1, cnt_zero fun j hj => h2 (k + j) (by omega) (by omega)]
  omega
/-- what holds of a beginning alone is counted by where it ends. -/
theorem cnt_cut {g : Nat → Bool} : ∀ {m : Nat}, (∀ i j, i < j → j < m → g j = true → g i = true) → (∀ i, i < cnt g m → g i = true) ∧ (∀ i, cnt g m ≤ i → i < m → g i = false)
  | 0, _ => ⟨fun i hi => absurd hi (Nat.not_lt_zero _), fun i _ hi => absurd hi (Nat.not_lt_zero _)⟩
  | m + 1, h => by
    obtain ⟨a, b⟩ := cnt_cut (g := g) (m := m) fun i j hij hj => h i j hij (by omega)
    cases hg : g m with
    | true =>
      have hall : ∀ i, i < m → g i = true := fun i hi => h i m hi (by omega) hg
      rw [cnt_succ, cnt_full hall, hg]
      refine ⟨fun i hi => ?_, fun i h1 h2 => absurd h1 (by simp; omega)⟩
      by_cases e : i = m
      · rw [e]; exact hg
      · exact hall i (by simp at hi; omega)
    | false =>
      rw [cnt_succ, hg]
      refine ⟨fun i hi => a i (by simpa using hi), fun i h1 h2 => ?_⟩
      by_cases e : i = m
      · rw [e]; exact hg
      · exact b i (by simpa using h1) (by omega)
theorem cnt_all {g : Nat → Bool} : ∀ {m : Nat}, cnt g m = m → ∀ i, i < m → g i = true
  | 0, _, i, hi => absurd hi (Nat.not_lt_zero _)
  | m + 1, h, i, hi => by
    have hl := cnt_le g m
    rw [cnt_succ] at h
    have hm : g m = true := by
      cases hg : g m with
      | true => rfl
      | false => rw [hg] at h; simp at h; omega
    rw [hm] at h
    simp at h
    by_cases e : i = m
    · rw [e]; exact hm
    · exact cnt_all h i (by omega)

/-- m places that rise, below n. -/
structure Rise (n m : Nat) (l : Nat → Nat) : Prop where
  below : ∀ i, i < m → l i < n
  up : ∀ i, i + 1 < m → l i < l (i + 1)
theorem Rise.lt {n m : Nat} {l : Nat → Nat} (h : Rise n m l) {i : Nat} : ∀ {j : Nat}, i < j → j < m → l i < l j
  | 0, hij, _ => absurd hij (Nat.not_lt_zero _)
  | j + 1, hij, hj => by
    have hu := h.up j hj
    by_cases e : i = j
    · rw [e]; exact hu
    · exact Nat.lt_trans (h.lt (show i < j by omega) (by omega)) hu
theorem Rise.le {n m : Nat} {l : Nat → Nat} (h : Rise n m l) {i j : Nat} (hij : i ≤ j) (hj : j < m) : l i ≤ l j := by
  by_cases e : i = j
  · rw [e]; exact Nat.le_refl _
  · exact Nat.le_of_lt (h.lt (by omega) hj)
theorem Rise.ge {n m : Nat} {l : Nat → Nat} (h : Rise n m l) : ∀ {i : Nat}, i < m → i ≤ l i
  | 0, _ => Nat.zero_le _
  | i + 1, hi => by
    have h1 := h.ge (show i < m by omega)
    have h2 := h.up i hi
    omega
theorem Rise.few {n m : Nat} {l : Nat → Nat} (h : Rise n m l) : m ≤ n := by
  cases m with
  | zero => exact Nat.zero_le _
  | succ m =>
    have h1 := h.ge (show m < m + 1 by omega)
    have h2 := h.below m (by omega)
    omega
theorem Rise.same {n m : Nat} {l l' : Nat → Nat} (h : Rise n m l) (e : ∀ i, i < m → l i = l' i) : Rise n m l' :=
  ⟨fun i hi => by rw [← e i hi]; exact h.below i hi, fun i hi => by rw [← e i (by omega), ← e (i + 1) hi]; exact h.up i hi⟩

/-- the list of bits of the high parts. -/
def hi (l : Nat → Nat) (P m : Nat) : Nat → Bool := fun b => (List.range m).any fun i => l i / P + i == b
theorem hi_iff {l : Nat → Nat} {P m b : Nat} : hi l P m b = true ↔ ∃ i, i < m ∧ l i / P + i = b := by
  unfold hi
  rw [List.any_eq_true]
  constructor
  · rintro ⟨i, hi, h⟩
    exact ⟨i, List.mem_range.1 hi, by simpa using h⟩
  · rintro ⟨i, hi, h⟩
    exact ⟨i, List.mem_range.2 hi, by simpa using h⟩
theorem hi_no {l : Nat → Nat} {P m b : Nat} (h : ∀ i, i < m → l i / P + i ≠ b) : hi l P m b = false := by
  cases e : hi l P m b with
  | false => rfl
  | true =>
    obtain ⟨i, h1, h2⟩ := hi_iff.1 e
    exact absurd h2 (h i h1)
theorem hi_zero (l : Nat → Nat) (P b : Nat) : hi l P 0 b = false := hi_no fun _ hi => absurd hi (Nat.not_lt_zero _)
theorem hi_succ (l : Nat → Nat) (P m b : Nat) : hi l P (m + 1) b = (hi l P m b || (l m / P + m == b)) := by
  unfold hi
  rw [List.range_succ, List.any_append]
  simp

theorem cnt_single {g : Nat → Bool} {m i : Nat} (hi : i < m) (h1 : g i = true) (h2 : ∀ j, j < m → j ≠ i → g j = false) : cnt g m = 1 := by
  obtain ⟨c, hc⟩ := Nat.le.dest (show i + 1 ≤ m from hi)
  rw [← hc, cnt_add, cnt_succ, cnt_zero fun j hj => h2 j (by omega) (by omega), h1, cnt_zero fun j hj => h2 (i + 1 + j) (by omega) (by omega)]
  rfl
theorem cnt_plus {a b c : Nat → Bool} : ∀ {m : Nat}, (∀ i, i < m → c i = (a i || b i) ∧ (a i && b i) = false) → cnt c m = cnt a m + cnt b m
  | 0, _ => rfl
  | m + 1, h => by
    obtain ⟨h1, h2⟩ := h m (by omega)
    rw [cnt_succ, cnt_succ, cnt_succ, cnt_plus fun i hi => h i (by omega), h1]
    revert h2
    cases a m <;> cases b m <;> simp <;> omega

section
variable {n m P : Nat} {l : Nat → Nat}
theorem Rise.pos (h : Rise n m l) {i j : Nat} (hij : i < j) (hj : j < m) : l i / P + i < l j / P + j := by
  have := Nat.div_le_div_right (c := P) (Nat.le_of_lt (h.lt hij hj))
  omega
theorem Rise.pos_inj (h : Rise n m l) {i j : Nat} (hi : i < m) (hj : j < m) (e : l i / P + i = l j / P + j) : i = j := by
  rcases Nat.lt_trichotomy i j with h1 | h1 | h1
  · have := h.pos (P := P) h1 hj; omega
  · exact h1
  · have := h.pos (P := P) h1 hi; omega
/-- the ones ahead of a bit. -/
theorem Rise.cnt_hi (h : Rise n m l) : ∀ b, cnt (Pl.hi l P m) b = cnt (fun i => decide (l i / P + i < b)) m
  | 0 => (cnt_zero fun j _ => by simp).symm
  | b + 1 => by
    rw [cnt_succ, h.cnt_hi b]
    have hsum : cnt (fun i => decide (l i / P + i < b + 1)) m = cnt (fun i => decide (l i / P + i < b)) m + cnt (fun i => l i / P + i == b) m := by
      apply cnt_plus
      intro i _
      constructor
      · rw [Bool.eq_iff_iff]; simp; omega
      · by_cases e : l i / P + i = b <;> simp [e]
    rw [hsum]
    congr 1
    cases e : Pl.hi l P m b with
    | false =>
      rw [cnt_zero]
      · rfl
      · intro j hj
        cases e2 : (l j / P + j == b) with
        | false => rfl
        | true =>
          have : Pl.hi l P m b = true := hi_iff.2 ⟨j, hj, by simpa using e2⟩
          rw [e] at this
          cases this
    | true =>
      obtain ⟨i, h1, h2⟩ := hi_iff.1 e
      rw [cnt_single h1 (by simpa using h2)]
      · rfl
      · intro j hj hne
        cases e2 : (l j / P + j == b) with
        | false => rfl
        | true => exact absurd (h.pos_inj (P := P) hj h1 (by rw [h2]; simpa using e2)) hne
theorem Rise.cnt_pos (h : Rise n m l) {i : Nat} (hi : i < m) : cnt (Pl.hi l P m) (l i / P + i) = i := by
  rw [h.cnt_hi]
  refine cnt_pre (Nat.le_of_lt hi) (fun j hj => ?_) (fun j h1 h2 => ?_)
  · simpa using h.pos (P := P) hj hi
  · simp only [decide_eq_false_iff_not, Nat.not_lt]
    by_cases e : i = j
    · rw [e]; exact Nat.le_refl _
    · exact Nat.le_of_lt (h.pos (P := P) (by omega) h2)
theorem Rise.hi_pos {i : Nat} (hi : i < m) : Pl.hi l P m (l i / P + i) = true := hi_iff.2 ⟨i, hi, rfl⟩

/-- how many bits there are. -/
def bitsOf (n m P : Nat) : Nat := m + (n - 1) / P + 1
theorem Rise.pos_lt (h : Rise n m l) {i : Nat} (hi : i < m) : l i / P + i < bitsOf n m P := by
  unfold bitsOf
  have h1 := h.below i hi
  have h2 := Nat.div_le_div_right (c := P) (show l i ≤ n - 1 by omega)
  omega
theorem Rise.ones (h : Rise n m l) : cnt (Pl.hi l P m) (bitsOf n m P) = m := by
  rw [h.cnt_hi]
  exact cnt_full fun i hi => by simpa using h.pos_lt (P := P) hi
theorem Rise.sel_pos (h : Rise n m l) {i : Nat} (hi : i < m) : sel (Pl.hi l P m) (bitsOf n m P) (i : Int) = ((l i / P + i : Nat) : Int) := by
  have e := sel_in (f := Pl.hi l P m) (h.pos_lt (P := P) hi) (Rise.hi_pos hi)
  rw [h.cnt_pos hi] at e
  exact e

/-- how many places have a high part below h. -/
def under (l : Nat → Nat) (P m h : Nat) : Nat := cnt (fun i => decide (l i / P < h)) m
theorem Rise.under_cut (h : Rise n m l) (k : Nat) : (∀ i, i < under l P m k → l i / P < k) ∧ (∀ i, under l P m k ≤ i → i < m → k ≤ l i / P) := by
  obtain ⟨a, b⟩ := cnt_cut (g := fun i => decide (l i / P < k)) (m := m) fun i j hij hj hg => by
    have := Nat.div_le_div_right (c := P) (Nat.le_of_lt (h.lt hij hj))
    simp only [decide_eq_true_eq] at hg ⊢
    omega
  exact ⟨fun i hi => by simpa using a i hi, fun i h1 h2 => by simpa using b i h1 h2⟩
theorem under_le (l : Nat → Nat) (P m k : Nat) : under l P m k ≤ m := cnt_le _ _
theorem under_zero (l : Nat → Nat) (P m : Nat) : under l P m 0 = 0 := cnt_zero fun _ _ => by simp
theorem under_mono (l : Nat → Nat) (P m : Nat) {a b : Nat} (h : a ≤ b) : under l P m a ≤ under l P m b := by
  unfold under
  induction m with
  | zero => exact Nat.le_refl _
  | succ m ih =>
    rw [cnt_succ, cnt_succ]
    by_cases e : l m / P < a
    · have e2 : l m / P < b := by omega
      simp [e, e2]; exact ih
    · simp only [e, decide_false]
      exact Nat.le_trans ih (Nat.le_add_right _ _)
/-- the nought of number k stands behind the places of a high part of k or less. -/
theorem Rise.sel_nought (h : Rise n m l) {k : Nat} (hk : k ≤ (n - 1) / P) : sel (fun j => !(Pl.hi l P m) j) (bitsOf n m P) (k : Int) = ((k + under l P m (k + 1) : Nat) : Int) := by
  obtain ⟨a, b⟩ := h.under_cut (P := P) (k + 1)
  have hle := under_le l P m (k + 1)
  obtain ⟨c, hc⟩ : ∃ c, under l P m (k + 1) = c := ⟨_, rfl⟩
  rw [hc] at a b hle ⊢
  have hno : Pl.hi l P m (k + c) = false := hi_no fun i hi e => by
    by_cases hic : i < c
    · have := a i hic; omega
    · have := b i (by omega) hi; omega
  have hcnt : cnt (Pl.hi l P m) (k + c) = c := by
    rw [h.cnt_hi]
    refine cnt_pre hle (fun i hi => ?_) (fun i h1 h2 => ?_)
    · have := a i hi
      simp only [decide_eq_true_eq]; omega
    · have := b i h1 h2
      simp only [decide_eq_false_iff_not]; omega
  have hnot := cnt_not (Pl.hi l P m) (k + c)
  have hlt : k + c < bitsOf n m P := by unfold bitsOf; omega
  have e := sel_in (f := fun j => !(Pl.hi l P m) j) hlt (by simp [hno])
  have e2 : cnt (fun j => !(Pl.hi l P m) j) (k + c) = k := by omega
  rw [e2] at e
  exact e
theorem Rise.noughts (h : Rise n m l) : cnt (fun j => !(Pl.hi l P m) j) (bitsOf n m P) = (n - 1) / P + 1 := by
  have h1 := cnt_not (Pl.hi l P m) (bitsOf n m P)
  have h2 := h.ones (P := P)
  have h3 : bitsOf n m P = m + (n - 1) / P + 1 := rfl
  omega
theorem same_quot {a b P : Nat} (h : a / P = b / P) : a < b ↔ a % P < b % P := by
  have h1 := Nat.div_add_mod a P
  have h2 := Nat.div_add_mod b P
  rw [h] at h1
  generalize P * (b / P) = z at h1 h2
  omega
theorem less_quot {a b P : Nat} (h : a / P < b / P) : a < b := by
  apply Nat.lt_of_not_le
  intro hge
  have := Nat.div_le_div_right (c := P) hge
  omega
/-- how many places are below x, by their parts. -/
theorem Rise.rank_parts (h : Rise n m l) {x r : Nat} (hr : r ≤ under l P m (x / P + 1) - under l P m (x / P)) (h1 : ∀ t, t < r → l (under l P m (x / P) + t) % P < x % P)
    (h2 : ∀ t, r ≤ t → t < under l P m (x / P + 1) - under l P m (x / P) → x % P ≤ l (under l P m (x / P) + t) % P) : cnt (fun i => decide (l i < x)) m = under l P m (x / P) + r := by
  obtain ⟨a, b⟩ := h.under_cut (P := P) (x / P)
  obtain ⟨a1, b1⟩ := h.under_cut (P := P) (x / P + 1)
  have hm := under_mono l P m (show x / P ≤ x / P + 1 by omega)
  have hle := under_le l P m (x / P + 1)
  obtain ⟨c, hc⟩ : ∃ c, under l P m (x / P) = c := ⟨_, rfl⟩
  obtain ⟨d, hd⟩ : ∃ d, under l P m (x / P + 1) = d := ⟨_, rfl⟩
  rw [hc, hd] at hm hr h2
  rw [hc] at a b h1 ⊢
  rw [hd] at a1 b1 hle
  refine cnt_pre (by omega) (fun i hi => ?_) (fun i hi1 hi2 => ?_)
  · simp only [decide_eq_true_eq]
    by_cases hic : i < c
    · exact less_quot (a i hic)
    · have e1 := b i (by omega) (by omega)
      have e2 := a1 i (by omega)
      have e3 := h1 (i - c) (by omega)
      rw [show c + (i - c) = i by omega] at e3
      exact (same_quot (by omega)).2 e3
  · simp only [decide_eq_false_iff_not]
    intro hlt
    by_cases hid : i < d
    · have e1 := b i (by omega) (by omega)
      have e2 := a1 i (by omega)
      have e3 := h2 (i - c) (by omega) (by omega)
      rw [show c + (i - c) = i by omega] at e3
      have := (same_quot (show l i / P = x / P by omega)).1 hlt
      omega
    · have e1 := b1 i (by omega) hi2
      have := Nat.div_le_div_right (c := P) (Nat.le_of_lt hlt)
      omega
end

/-- how many bits a number has. -/
def blen : Nat → Nat
  | 0 => 0
  | n + 1 => blen ((n + 1) / 2) + 1
  decreasing_by omega
theorem blen_pos {n : Nat} (h : 0 < n) : blen n = blen (n / 2) + 1 := by
  cases n with
  | zero => omega
  | succ n => rw [blen]
theorem blen_zero : blen 0 = 0 := by rw [blen]
theorem blen_log (n : Nat) : 0 < n → blen n = Nat.log2 n + 1 := by
  induction n using Nat.strongRecOn with
  | ind n ih =>
    intro h
    rw [blen_pos h, Nat.log2_def]
    by_cases h2 : n ≥ 2
    · rw [if_pos h2, ih (n / 2) (by omega) (by omega)]
    · rw [if_neg h2]
      have : n / 2 = 0 := by omega
      rw [this, blen_zero]
theorem blen_le : ∀ {k n : Nat}, n < 2 ^ k → blen n ≤ k
  | 0, n, h => by
    have : n = 0 := by simpa using h
    rw [this, blen_zero]; exact Nat.le_refl _
  | k + 1, n, h => by
    by_cases h0 : 0 < n
    · rw [blen_pos h0]
      have := blen_le (k := k) (n := n / 2) (by rw [Nat.pow_succ] at h; omega)
      omega
    · have : n = 0 := by omega
      rw [this, blen_zero]; omega
/-- the low width. -/
def lw (n m : Nat) : Nat := blen (n / m) - 1
theorem lw_le {n m : Nat} (h : n ≤ 4194304) : lw n m ≤ 22 := by
  unfold lw
  have h1 : n / m ≤ n := Nat.div_le_self _ _
  have := blen_le (k := 23) (n := n / m) (by omega)
  omega

theorem sel_some' {f : Nat → Bool} : ∀ {n k : Nat}, k < Pl.cnt f n → ∃ p, p < n ∧ f p = true ∧ Pl.cnt f p = k
  | 0, k, h => by simp [Pl.cnt] at h
  | n + 1, k, h => by
    by_cases hk : k < Pl.cnt f n
    · obtain ⟨p, hp, h1, h2⟩ := sel_some' hk
      exact ⟨p, by omega, h1, h2⟩
    · rw [Pl.cnt_succ] at h
      cases hf : f n with
      | false => rw [hf] at h; simp at h; omega
      | true => rw [hf] at h; simp at h; exact ⟨n, by omega, hf, by omega⟩
/-- the numbers that bits and low parts say: each its place. -/
def place (f : Nat → Bool) (c P : Nat) (x : Nat → Nat) (j : Nat) : Nat := ((sel f c (j : Int)).toNat - j) * P + x j
/-- they are low parts, and rise below the bound. -/
structure Good (n m P : Nat) (y x : Nat → Nat) : Prop where
  low : ∀ j, j < m → x j < P
  rise : Rise n m y
theorem place_hi {f : Nat → Bool} {c P m : Nat} {x : Nat → Nat} (hm : cnt f c = m) (hx : ∀ j, j < m → x j < P) {b : Nat} (hb : b < c) : Pl.hi (place f c P x) P m b = f b := by
  have hdiv : ∀ j, j < m → place f c P x j / P + j = (sel f c (j : Int)).toNat - j + j := fun j hj => by
    unfold place
    have hp : 0 < P := Nat.lt_of_le_of_lt (Nat.zero_le _) (hx j hj)
    rw [Nat.mul_comm, Nat.mul_add_div hp, Nat.div_eq_of_lt (hx j hj)]
    rfl
  cases hf : f b with
  | true =>
    have hj : cnt f b < m := by rw [← hm]; exact cnt_at_lt hb hf
    refine hi_iff.2 ⟨cnt f b, hj, ?_⟩
    have := cnt_le f b
    rw [hdiv _ hj, sel_in hb hf, Int.toNat_natCast]
    omega
  | false =>
    refine hi_no fun i hi e => ?_
    rw [hdiv i hi] at e
    obtain ⟨p, hp1, hp2, hp3⟩ : ∃ p, p < c ∧ f p = true ∧ cnt f p = i := sel_some' (by omega)
    have := cnt_le f p
    rw [← hp3, sel_in hp1 hp2, Int.toNat_natCast] at e
    have : p = b := by omega
    subst this
    rw [hf] at hp2
    cases hp2
theorem place_at {f : Nat → Bool} {c P : Nat} {x : Nat → Nat} {b : Nat} (hb : b < c) (hf : f b = true) : place f c P x (cnt f b) = (b - cnt f b) * P + x (cnt f b) := by
  unfold place
  rw [sel_in hb hf, Int.toNat_natCast]
theorem place_mod {f : Nat → Bool} {c P : Nat} {x : Nat → Nat} {j : Nat} (hx : x j < P) : place f c P x j % P = x j := by
  unfold place
  rw [Nat.mul_comm, Nat.mul_add_mod, Nat.mod_eq_of_lt hx]
/-- of rising places it is they themselves. -/
theorem Rise.place {n m P : Nat} {l x : Nat → Nat} (h : Rise n m l) (hx : ∀ j, j < m → x j = l j % P) {f : Nat → Bool} (hf : ∀ b, b < bitsOf n m P → f b = Pl.hi l P m b) {j : Nat} (hj : j < m) : Pl.place f (bitsOf n m P) P x j = l j := by
  unfold Pl.place
  rw [sel_congr hf, h.sel_pos hj, hx j hj, Int.toNat_natCast, Nat.add_sub_cancel, Nat.mul_comm]
  exact Nat.div_add_mod _ _
end Go.Proofs.Ythbnojhcmfhnhaa.Pl
