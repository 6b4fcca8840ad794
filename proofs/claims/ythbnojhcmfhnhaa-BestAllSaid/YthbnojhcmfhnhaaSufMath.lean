/- The order of a list's suffixes: which of two is less; the one list of all places in that order; a permutation turned. Plain: no program is named here. -/
import Derived.Test.YthbnojhcmfhnhaaCntMath
namespace Go.Proofs.Ythbnojhcmfhnhaa

/-- suffix a is less than suffix b. -/
def SLess (V : Nat → Int) (n a b : Nat) : Prop := ∃ k, (∀ i, i < k → V (a + i) = V (b + i)) ∧ b + k < n ∧ a + k ≤ n ∧ (a + k = n ∨ V (a + k) < V (b + k))
theorem SLess.lt {V : Nat → Int} {n a b : Nat} (h : SLess V n a b) : b < n ∧ a ≤ n := by
  obtain ⟨k, _, h2, h3, _⟩ := h
  omega
theorem sless_step {V : Nat → Int} {n a b : Nat} (ha : a < n) (_hb : b < n) (he : V a = V b) : SLess V n a b ↔ SLess V n (a + 1) (b + 1) := by
  constructor
  · rintro ⟨k, h1, h2, h3, h4⟩
    cases k with
    | zero =>
      rcases h4 with h4 | h4
      · omega
      · exact absurd h4 (by show ¬ V a < V b; omega)
    | succ k =>
      refine ⟨k, fun i hi => ?_, by omega, by omega, ?_⟩
      · have := h1 (i + 1) (by omega)
        rwa [show a + 1 + i = a + (i + 1) by omega, show b + 1 + i = b + (i + 1) by omega]
      · rwa [show a + 1 + k = a + (k + 1) by omega, show b + 1 + k = b + (k + 1) by omega]
  · rintro ⟨k, h1, h2, h3, h4⟩
    refine ⟨k + 1, fun i hi => ?_, by omega, by omega, ?_⟩
    · cases i with
      | zero => exact he
      | succ i =>
        have := h1 i (by omega)
        rwa [show a + 1 + i = a + (i + 1) by omega, show b + 1 + i = b + (i + 1) by omega] at this
    · rwa [show a + 1 + k = a + (k + 1) by omega, show b + 1 + k = b + (k + 1) by omega] at h4
theorem sless_now {V : Nat → Int} {n a b : Nat} (ha : a < n) (hb : b < n) (he : V a ≠ V b) : SLess V n a b ↔ V a < V b := by
  constructor
  · rintro ⟨k, h1, h2, h3, h4⟩
    cases k with
    | zero =>
      rcases h4 with h4 | h4
      · omega
      · exact h4
    | succ k => exact absurd (h1 0 (by omega)) he
  · intro h
    exact ⟨0, fun i hi => absurd hi (Nat.not_lt_zero i), hb, by omega, .inr h⟩
theorem sless_end {V : Nat → Int} {n a b : Nat} (ha : a ≤ n) (h : ¬ (a < n ∧ b < n)) : SLess V n a b ↔ a = n ∧ b < n := by
  constructor
  · intro hs
    have := hs.lt
    omega
  · rintro ⟨rfl, hb⟩
    exact ⟨0, fun i hi => absurd hi (Nat.not_lt_zero i), hb, Nat.le_refl _, .inl rfl⟩
theorem sless_irrefl {V : Nat → Int} {n a : Nat} : ¬ SLess V n a a := by
  rintro ⟨k, _, h2, h3, h4⟩
  rcases h4 with h4 | h4 <;> omega
theorem sless_trans {V : Nat → Int} {n a b c : Nat} (h : SLess V n a b) (h' : SLess V n b c) : SLess V n a c := by
  obtain ⟨k, h1, h2, h3, h4⟩ := h
  obtain ⟨l, g1, g2, g3, g4⟩ := h'
  rcases Nat.lt_trichotomy k l with hkl | rfl | hkl
  · refine ⟨k, fun i hi => (h1 i hi).trans (g1 i (by omega)), by omega, h3, ?_⟩
    rcases h4 with h4 | h4
    · exact .inl h4
    · exact .inr (by rw [← g1 k hkl]; exact h4)
  · refine ⟨k, fun i hi => (h1 i hi).trans (g1 i hi), g2, h3, ?_⟩
    rcases h4 with h4 | h4
    · exact .inl h4
    · rcases g4 with g4 | g4
      · omega
      · exact .inr (by omega)
  · refine ⟨l, fun i hi => (h1 i (by omega)).trans (g1 i hi), g2, by omega, ?_⟩
    rcases g4 with g4 | g4
    · omega
    · exact .inr (by rw [h1 l hkl]; exact g4)
theorem sless_asymm {V : Nat → Int} {n a b : Nat} (h : SLess V n a b) : ¬ SLess V n b a := fun h' => sless_irrefl (sless_trans h h')
theorem sless_total {V : Nat → Int} {n : Nat} : ∀ (m a b : Nat), n - a ≤ m → a ≤ n → b ≤ n → a ≠ b → SLess V n a b ∨ SLess V n b a := by
  intro m
  induction m with
  | zero =>
    intro a b hm ha hb hne
    exact .inl ((sless_end ha (by omega)).2 (by omega))
  | succ m ih =>
    intro a b hm ha hb hne
    by_cases hab : a < n ∧ b < n
    · by_cases he : V a = V b
      · rcases ih (a + 1) (b + 1) (by omega) (by omega) (by omega) (by omega) with h | h
        · exact .inl ((sless_step hab.1 hab.2 he).2 h)
        · exact .inr ((sless_step hab.2 hab.1 he.symm).2 h)
      · rcases Int.lt_or_gt_of_ne he with h | h
        · exact .inl ((sless_now hab.1 hab.2 he).2 h)
        · exact .inr ((sless_now hab.2 hab.1 (Ne.symm he)).2 h)
    · by_cases han : a = n
      · exact .inl ((sless_end ha hab).2 (by omega))
      · exact .inr ((sless_end hb (by omega)).2 (by omega))
theorem sless_or {V : Nat → Int} {n a b : Nat} (ha : a ≤ n) (hb : b ≤ n) (hne : a ≠ b) : SLess V n a b ∨ SLess V n b a := sless_total (n - a) a b (Nat.le_refl _) ha hb hne
/-- numbers in the same order: suffixes in the same order. -/
theorem sless_map {V V' : Nat → Int} {n : Nat} (hm : ∀ i j, i < n → j < n → (V i < V j ↔ V' i < V' j)) {a b : Nat} : SLess V n a b ↔ SLess V' n a b := by
  have he : ∀ i j, i < n → j < n → (V i = V j ↔ V' i = V' j) := fun i j hi hj => by
    have h1 := hm i j hi hj
    have h2 := hm j i hj hi
    omega
  constructor
  · rintro ⟨k, h1, h2, h3, h4⟩
    refine ⟨k, fun i hi => (he _ _ (by omega) (by omega)).1 (h1 i hi), h2, h3, ?_⟩
    rcases h4 with h4 | h4
    · exact .inl h4
    · by_cases h5 : a + k = n
      · exact .inl h5
      · exact .inr ((hm _ _ (by omega) h2).1 h4)
  · rintro ⟨k, h1, h2, h3, h4⟩
    refine ⟨k, fun i hi => (he _ _ (by omega) (by omega)).2 (h1 i hi), h2, h3, ?_⟩
    rcases h4 with h4 | h4
    · exact .inl h4
    · by_cases h5 : a + k = n
      · exact .inl h5
      · exact .inr ((hm _ _ (by omega) h2).2 h4)
theorem sless_congr {V V' : Nat → Int} {n : Nat} (h : ∀ i, i < n → V i = V' i) {a b : Nat} : SLess V n a b ↔ SLess V' n a b := sless_map fun i j hi hj => by rw [h i hi, h j hj]
/-- a tail's suffixes. -/
theorem sless_tail {V : Nat → Int} {n k a b : Nat} (hk : k ≤ n) : SLess (fun i => V (k + i)) (n - k) a b ↔ SLess V n (k + a) (k + b) := by
  constructor
  · rintro ⟨j, h1, h2, h3, h4⟩
    refine ⟨j, fun i hi => ?_, by omega, by omega, ?_⟩
    · have := h1 i hi
      rwa [show k + a + i = k + (a + i) by omega, show k + b + i = k + (b + i) by omega]
    · rcases h4 with h4 | h4
      · exact .inl (by omega)
      · exact .inr (by rwa [show k + a + j = k + (a + j) by omega, show k + b + j = k + (b + j) by omega])
  · rintro ⟨j, h1, h2, h3, h4⟩
    refine ⟨j, fun i hi => ?_, by omega, by omega, ?_⟩
    · have := h1 i hi
      rwa [show k + a + i = k + (a + i) by omega, show k + b + i = k + (b + i) by omega] at this
    · rcases h4 with h4 | h4
      · exact .inl (by omega)
      · exact .inr (by rwa [show k + a + j = k + (a + j) by omega, show k + b + j = k + (b + j) by omega] at h4)
/-- an end that is less than all numbers. -/
theorem sless_ended {V W : Nat → Int} {n : Nat} (hV : ∀ i j, i < n → j < n → (V i < V j ↔ W i < W j)) (hW : ∀ i, i < n → W n < W i) {a b : Nat} (ha : a < n) (_hb : b < n) : SLess W (n + 1) a b ↔ SLess V n a b := by
  have he : ∀ i j, i < n → j < n → (V i = V j ↔ W i = W j) := fun i j hi hj => by
    have h1 := hV i j hi hj
    have h2 := hV j i hj hi
    omega
  constructor
  · rintro ⟨k, h1, h2, h3, h4⟩
    have hbk : b + k < n := by
      apply Nat.lt_of_not_le
      intro hge
      have hbn : b + k = n := by omega
      by_cases h5 : a + k = n + 1
      · have h6 := h1 (n - a) (by omega)
        rw [show a + (n - a) = n by omega] at h6
        have h7 := hW (b + (n - a)) (by omega)
        omega
      · have h4 := h4.resolve_left h5
        rw [hbn] at h4
        have hak : a + k < n ∨ a + k = n := by omega
        rcases hak with h | h
        · have := hW (a + k) h
          omega
        · rw [h] at h4
          omega
    have hak : a + k ≤ n := by
      apply Nat.le_of_not_lt
      intro hlt
      have h6 := h1 (n - a) (by omega)
      rw [show a + (n - a) = n by omega] at h6
      have h7 := hW (b + (n - a)) (by omega)
      omega
    refine ⟨k, fun i hi => (he _ _ (by omega) (by omega)).2 (h1 i hi), hbk, hak, ?_⟩
    by_cases h : a + k = n
    · exact .inl h
    · rcases h4 with h4 | h4
      · omega
      · exact .inr ((hV _ _ (by omega) hbk).2 h4)
  · rintro ⟨k, h1, h2, h3, h4⟩
    refine ⟨k, fun i hi => (he _ _ (by omega) (by omega)).1 (h1 i hi), by omega, by omega, ?_⟩
    right
    by_cases h : a + k = n
    · rw [h]
      exact hW _ h2
    · rcases h4 with h4 | h4
      · omega
      · exact (hV _ _ (by omega) h2).1 h4

/-- no two alike below n, all below n: each below n is there. -/
theorem inj_onto : ∀ (n : Nat) (f : Nat → Nat), (∀ i, i < n → f i < n) → (∀ i j, i < n → j < n → f i = f j → i = j) → ∀ p, p < n → ∃ i, i < n ∧ f i = p := by
  intro n
  induction n with
  | zero => intro f _ _ p hp; omega
  | succ n ih =>
    intro f hf hi p hp
    have hg := ih (fun i => if f i = n then f n else f i) (fun i hin => by
      show (if f i = n then f n else f i) < n
      have h1 := hf i (by omega)
      have h2 := hf n (by omega)
      split
      · rename_i h
        have : f n ≠ n := fun e => by
          have := hi i n (by omega) (by omega) (by omega)
          omega
        omega
      · omega) (fun i j hin hjn he => by
      have he : (if f i = n then f n else f i) = (if f j = n then f n else f j) := he
      split at he
      · split at he
        · exact hi i j (by omega) (by omega) (by omega)
        · have := hi n j (by omega) (by omega) he
          omega
      · split at he
        · have := hi i n (by omega) (by omega) he
          omega
        · exact hi i j (by omega) (by omega) he)
    by_cases hpn : p < n
    · obtain ⟨i, h1, h2⟩ := hg p hpn
      have h2 : (if f i = n then f n else f i) = p := h2
      split at h2
      · exact ⟨n, by omega, h2⟩
      · exact ⟨i, by omega, h2⟩
    · obtain rfl : p = n := by omega
      by_cases hfn : f p = p
      · exact ⟨p, by omega, hfn⟩
      · obtain ⟨i, h1, h2⟩ := hg (f p) (by have := hf p (by omega); omega)
        have h2 : (if f i = p then f p else f i) = f p := h2
        split at h2
        · rename_i h
          exact ⟨i, by omega, h⟩
        · have := hi i p (by omega) (by omega) h2
          omega

/-- s: all places of a list, the least suffix's first. -/
def IsSA (V : Nat → Int) (n : Nat) (s : Nat → Nat) : Prop := (∀ i, i < n → s i < n) ∧ ∀ i j, i < j → j < n → SLess V n (s i) (s j)
section
variable {V V' : Nat → Int} {n : Nat} {s s' : Nat → Nat}
theorem IsSA.inj (h : IsSA V n s) {i j : Nat} (hi : i < n) (hj : j < n) (he : s i = s j) : i = j := by
  rcases Nat.lt_trichotomy i j with h1 | h1 | h1
  · have := h.2 i j h1 hj
    rw [he] at this
    exact absurd this sless_irrefl
  · exact h1
  · have := h.2 j i h1 hi
    rw [he] at this
    exact absurd this sless_irrefl
theorem IsSA.onto (h : IsSA V n s) {p : Nat} (hp : p < n) : ∃ i, i < n ∧ s i = p := inj_onto n s h.1 (fun _ _ hi hj he => h.inj hi hj he) p hp
/-- there is no other one. -/
theorem IsSA.one (h : IsSA V n s) (h' : IsSA V n s') : ∀ i, i < n → s i = s' i := by
  intro i
  induction i using Nat.strongRecOn with
  | ind i ih =>
    intro hi
    obtain ⟨j, hj, he⟩ := h'.onto (h.1 i hi)
    have h1 : i ≤ j := by
      apply Nat.le_of_not_lt
      intro hlt
      have := ih j hlt hj
      rw [he] at this
      have := h.inj hj hi this
      omega
    by_cases e : j = i
    · rw [← he, e]
    · have h2 := h'.2 i j (by omega) hj
      rw [he] at h2
      obtain ⟨m, hm, hme⟩ := h.onto (h'.1 i hi)
      have h3 : i ≤ m := by
        apply Nat.le_of_not_lt
        intro hlt
        have := ih m hlt hm
        rw [hme] at this
        have := h'.inj hi hm this
        omega
      rw [← hme] at h2
      rcases Nat.lt_or_ge i m with h4 | h4
      · exact absurd h2 (sless_asymm (h.2 i m h4 hm))
      · have : m = i := by omega
        rw [this] at h2
        exact absurd h2 sless_irrefl
theorem IsSA.mapped (h : IsSA V n s) (hm : ∀ i j, i < n → j < n → (V i < V j ↔ V' i < V' j)) : IsSA V' n s := ⟨h.1, fun i j hij hj => (sless_map hm).1 (h.2 i j hij hj)⟩
theorem IsSA.congr (h : IsSA V n s) (hs : ∀ i, i < n → s i = s' i) : IsSA V n s' := ⟨fun i hi => by rw [← hs i hi]; exact h.1 i hi, fun i j hij hj => by rw [← hs i (by omega), ← hs j hj]; exact h.2 i j hij hj⟩
/-- with an end less than all numbers: it stands first. -/
theorem IsSA.ended {W : Nat → Int} (h : IsSA V n s) (hV : ∀ i j, i < n → j < n → (V i < V j ↔ W i < W j)) (hW : ∀ i, i < n → W n < W i) : IsSA W (n + 1) (fun i => if i = 0 then n else s (i - 1)) := by
  refine ⟨fun i hi => ?_, fun i j hij hj => ?_⟩
  · show (if i = 0 then n else s (i - 1)) < n + 1
    split
    · omega
    · have := h.1 (i - 1) (by omega)
      omega
  · show SLess W (n + 1) (if i = 0 then n else s (i - 1)) (if j = 0 then n else s (j - 1))
    rw [if_neg (show ¬ j = 0 by omega)]
    split
    · have h1 := h.1 (j - 1) (by omega)
      have h2 := hW _ h1
      exact (sless_now (by omega) (by omega) (by omega)).2 h2
    · exact (sless_ended hV hW (h.1 _ (by omega)) (h.1 _ (by omega))).2 (h.2 _ _ (by omega) (by omega))
end

/-- those of the first i places in order that are from k on. -/
def fromK (s : Nat → Nat) (k i : Nat) : Nat := Pl.cnt (fun j => decide (k ≤ s j)) i
theorem fromK_succ (s : Nat → Nat) (k i : Nat) : fromK s k (i + 1) = fromK s k i + (if k ≤ s i then 1 else 0) := by
  unfold fromK
  rw [Pl.cnt_succ]
  by_cases h : k ≤ s i <;> simp [h]
theorem fromK_mono (s : Nat → Nat) (k : Nat) {a b : Nat} (h : a ≤ b) : fromK s k a ≤ fromK s k b := Pl.cnt_mono _ h
/-- where the place of number m of a tail's order stands: in the order of all. -/
theorem tail_at {V : Nat → Int} {n k : Nat} {s y : Nat → Nat} (hk : k ≤ n) (h : IsSA V n s) (h' : IsSA (fun i => V (k + i)) (n - k) y) : ∀ i, i < n → k ≤ s i → fromK s k i < n - k ∧ k + y (fromK s k i) = s i := by
  -- by number: as many of y are less than s i - k as of those from k on stand ahead of it
  have step : ∀ i, i ≤ n → (∀ j, j < i → k ≤ s j → fromK s k j < n - k ∧ k + y (fromK s k j) = s j) ∧ fromK s k i ≤ n - k ∧ ∀ m, m < fromK s k i → ∃ j, j < i ∧ k ≤ s j ∧ k + y m = s j := by
    intro i
    induction i with
    | zero => intro _; exact ⟨fun j hj => absurd hj (Nat.not_lt_zero j), Nat.zero_le _, fun m hm => absurd hm (by simp [fromK, Pl.cnt])⟩
    | succ i ih =>
      intro hi
      obtain ⟨h1, h2, h3⟩ := ih (by omega)
      by_cases hs : k ≤ s i
      · have hsi := h.1 i (by omega)
        obtain ⟨m, hm, hme⟩ := h'.onto (p := s i - k) (by omega)
        have hmi : m = fromK s k i := by
          rcases Nat.lt_trichotomy m (fromK s k i) with hlt | heq | hgt
          · obtain ⟨j, hj, _, hje⟩ := h3 m hlt
            rw [hme] at hje
            have := h.inj (i := j) (j := i) (by omega) (by omega) (by omega)
            omega
          · exact heq
          · have hq := h'.2 (fromK s k i) m hgt hm
            rw [sless_tail hk, hme, show k + (s i - k) = s i by omega] at hq
            have hqn := h'.1 (fromK s k i) (by omega)
            obtain ⟨j, hj, hje⟩ := h.onto (p := k + y (fromK s k i)) (by omega)
            rw [← hje] at hq
            have hji : j < i := by
              rcases Nat.lt_trichotomy j i with h4 | h4 | h4
              · exact h4
              · rw [h4] at hq
                exact absurd hq sless_irrefl
              · exact absurd hq (sless_asymm (h.2 i j h4 hj))
            obtain ⟨h5, h6⟩ := h1 j hji (by omega)
            have h7 := h'.inj (i := fromK s k j) (j := fromK s k i) h5 (by omega) (by omega)
            have h8 := fromK_succ s k j
            rw [if_pos (by omega)] at h8
            have h9 := fromK_mono s k (show j + 1 ≤ i from hji)
            omega
        subst hmi
        have hnew : k + y (fromK s k i) = s i := by omega
        refine ⟨fun j hj hjs => ?_, ?_, fun m hm => ?_⟩
        · by_cases e : j = i
          · subst e
            exact ⟨hm, hnew⟩
          · exact h1 j (by omega) hjs
        · rw [fromK_succ, if_pos hs]
          omega
        · rw [fromK_succ, if_pos hs] at hm
          by_cases e : m = fromK s k i
          · subst e
            exact ⟨i, by omega, hs, hnew⟩
          · obtain ⟨j, h4, h5⟩ := h3 m (by omega)
            exact ⟨j, by omega, h5⟩
      · have e : fromK s k (i + 1) = fromK s k i := by rw [fromK_succ, if_neg hs]; rfl
        refine ⟨fun j hj hjs => ?_, by rw [e]; exact h2, fun m hm => ?_⟩
        · by_cases e : j = i
          · subst e
            exact absurd hjs hs
          · exact h1 j (by omega) hjs
        · rw [e] at hm
          obtain ⟨j, h4, h5⟩ := h3 m hm
          exact ⟨j, by omega, h5⟩
  intro i hi hs
  exact (step (i + 1) hi).1 i (by omega) hs
/-- all of a tail's places are there. -/
theorem fromK_all {V : Nat → Int} {n k : Nat} {s : Nat → Nat} (hk : k ≤ n) (h : IsSA V n s) (hex : ∃ y, IsSA (fun i => V (k + i)) (n - k) y) : fromK s k n = n - k := by
  obtain ⟨y, h'⟩ := hex
  have h1 : fromK s k n ≤ n - k := by
    rcases Nat.eq_zero_or_pos (fromK s k n) with h0 | h0
    · omega
    · -- the last one that counts
      have : ∀ i, i ≤ n → fromK s k i ≤ n - k := by
        intro i
        induction i with
        | zero => intro _; exact Nat.zero_le _
        | succ i ih =>
          intro hi
          rw [fromK_succ]
          split
          · rename_i hs
            have := (tail_at hk h h' i (by omega) hs).1
            omega
          · exact ih (by omega)
      exact this n (Nat.le_refl _)
  have h2 : n - k ≤ fromK s k n := by
    apply Nat.le_of_not_lt
    intro hlt
    have hq := h'.1 (fromK s k n) hlt
    obtain ⟨j, hj, hje⟩ := h.onto (p := k + y (fromK s k n)) (by omega)
    obtain ⟨h3, h4⟩ := tail_at hk h h' j hj (by omega)
    have h5 := h'.inj h3 hlt (by omega)
    have h6 := fromK_succ s k j
    rw [if_pos (by omega)] at h6
    have h7 := fromK_mono s k (show j + 1 ≤ n from hj)
    omega
  omega

/-- each number from 0 to n - 1 once. -/
def IsPerm (V : Nat → Int) (n : Nat) : Prop := (∀ i, i < n → 0 ≤ V i ∧ V i < (n : Int)) ∧ ∀ i j, i < j → j < n → V i ≠ V j
/-- turned: at V i the number i. -/
def Turns (V R : Nat → Int) (n : Nat) : Prop := ∀ i, i < n → R (V i).toNat = (i : Int)
section
variable {V R R' : Nat → Int} {n : Nat}
theorem IsPerm.inj (h : IsPerm V n) {i j : Nat} (hi : i < n) (hj : j < n) (he : V i = V j) : i = j := by
  rcases Nat.lt_trichotomy i j with h1 | h1 | h1
  · exact absurd he (h.2 i j h1 hj)
  · exact h1
  · exact absurd he.symm (h.2 j i h1 hi)
theorem IsPerm.onto (h : IsPerm V n) {p : Nat} (hp : p < n) : ∃ i, i < n ∧ V i = (p : Int) := by
  obtain ⟨i, h1, h2⟩ := inj_onto n (fun i => (V i).toNat) (fun i hi => by have := h.1 i hi; show (V i).toNat < n; omega) (fun i j hi hj he => h.inj hi hj (by
    have h1 := h.1 i hi
    have h2 := h.1 j hj
    have he : (V i).toNat = (V j).toNat := he
    omega)) p hp
  refine ⟨i, h1, ?_⟩
  have h3 := h.1 i h1
  have h2 : (V i).toNat = p := h2
  omega
theorem Turns.one (h : IsPerm V n) (hR : Turns V R n) (hR' : Turns V R' n) : ∀ p, p < n → R p = R' p := fun p hp => by
  obtain ⟨i, hi, he⟩ := h.onto hp
  have h1 := hR i hi
  have h2 := hR' i hi
  rw [he, Int.toNat_natCast] at h1 h2
  rw [h1, h2]
theorem Turns.perm (h : IsPerm V n) (hR : Turns V R n) : IsPerm R n := by
  have each : ∀ p, p < n → ∃ i, i < n ∧ V i = (p : Int) ∧ R p = (i : Int) := fun p hp => by
    obtain ⟨i, hi, he⟩ := h.onto hp
    have h1 := hR i hi
    rw [he, Int.toNat_natCast] at h1
    exact ⟨i, hi, he, h1⟩
  refine ⟨fun p hp => ?_, fun p q hpq hq he => ?_⟩
  · obtain ⟨i, hi, _, e⟩ := each p hp
    omega
  · obtain ⟨i, hi, h1, h2⟩ := each p (by omega)
    obtain ⟨j, hj, h3, h4⟩ := each q hq
    have : i = j := by omega
    subst this
    omega
theorem Turns.back (h : IsPerm V n) (hR : Turns V R n) : Turns R V n := fun p hp => by
  obtain ⟨i, hi, he⟩ := h.onto hp
  have h1 := hR i hi
  rw [he, Int.toNat_natCast] at h1
  rw [h1, Int.toNat_natCast, he]
theorem IsSA.perm {V : Nat → Int} {n : Nat} {s : Nat → Nat} (h : IsSA V n s) : IsPerm (fun i => ((s i : Nat) : Int)) n := ⟨fun i hi => by have := h.1 i hi; show 0 ≤ ((s i : Nat) : Int) ∧ ((s i : Nat) : Int) < n; omega, fun i j hij hj he => by
  have he : ((s i : Nat) : Int) = ((s j : Nat) : Int) := he
  have := h.inj (i := i) (j := j) (by omega) hj (by omega)
  omega⟩
end
/-- which of two suffixes is less. -/
noncomputable def leastI (V : Nat → Int) (n : Nat) (a b : Int) : Int :=
  open Classical in
  if 0 ≤ a ∧ a < (n : Int) ∧ 0 ≤ b ∧ b < (n : Int) ∧ a ≠ b then (if SLess V n a.toNat b.toNat then -1 else 1) else 0
theorem leastI_out {V : Nat → Int} {n : Nat} {a b : Int} (h : ¬ (0 ≤ a ∧ a < (n : Int) ∧ 0 ≤ b ∧ b < (n : Int) ∧ a ≠ b)) : leastI V n a b = 0 := by
  unfold leastI
  rw [if_neg h]
theorem leastI_less {V : Nat → Int} {n a b : Nat} (ha : a < n) (hb : b < n) (h : SLess V n a b) : leastI V n (a : Int) (b : Int) = -1 := by
  have hne : a ≠ b := fun e => by rw [e] at h; exact sless_irrefl h
  unfold leastI
  rw [if_pos (by omega), Int.toNat_natCast, Int.toNat_natCast, if_pos h]
theorem leastI_more {V : Nat → Int} {n a b : Nat} (ha : a < n) (hb : b < n) (h : SLess V n b a) : leastI V n (a : Int) (b : Int) = 1 := by
  have hne : a ≠ b := fun e => by rw [e] at h; exact sless_irrefl h
  unfold leastI
  rw [if_pos (by omega), Int.toNat_natCast, Int.toNat_natCast, if_neg (sless_asymm h)]
end Go.Proofs.Ythbnojhcmfhnhaa
