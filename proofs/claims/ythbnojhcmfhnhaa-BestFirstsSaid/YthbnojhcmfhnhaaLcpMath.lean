/- How many numbers two suffixes begin with in common; the least of a range; in order, the least between two is what these have in common; the unlike parts of a list, counted in any order of its suffixes. Plain: no program is named here. -/
import Derived.Test.YthbnojhcmfhnhaaSufMath
namespace Go.Proofs.Ythbnojhcmfhnhaa

/-- the suffixes a and b begin with the same k numbers. -/
def Shares (V : Nat → Int) (n a b k : Nat) : Prop := ∀ i, i < k → a + i < n ∧ b + i < n ∧ V (a + i) = V (b + i)
section
variable {V : Nat → Int} {n a b c k : Nat}
theorem Shares.zero : Shares V n a b 0 := fun _ hi => absurd hi (Nat.not_lt_zero _)
theorem Shares.symm (h : Shares V n a b k) : Shares V n b a k := fun i hi => ⟨(h i hi).2.1, (h i hi).1, (h i hi).2.2.symm⟩
theorem Shares.trans (h : Shares V n a b k) (h' : Shares V n b c k) : Shares V n a c k := fun i hi => ⟨(h i hi).1, (h' i hi).2.1, (h i hi).2.2.trans (h' i hi).2.2⟩
theorem Shares.less {j : Nat} (h : Shares V n a b k) (hj : j ≤ k) : Shares V n a b j := fun i hi => h i (by omega)
theorem Shares.more (h : Shares V n a b k) (h1 : a + k < n) (h2 : b + k < n) (h3 : V (a + k) = V (b + k)) : Shares V n a b (k + 1) := fun i hi => by
  by_cases e : i = k
  · subst e
    exact ⟨h1, h2, h3⟩
  · exact h i (by omega)
theorem Shares.in (h : Shares V n a b k) (hk : 0 < k) : a + k ≤ n ∧ b + k ≤ n := by
  have := h (k - 1) (by omega)
  omega
theorem Shares.self (h : a + k ≤ n) : Shares V n a a k := fun i hi => ⟨by omega, by omega, rfl⟩
end
/-- how many numbers two suffixes begin with in common. -/
noncomputable def comF (V : Nat → Int) (n a b : Nat) : Nat → Nat
  | 0 => 0
  | m + 1 => open Classical in if Shares V n a b (m + 1) then m + 1 else comF V n a b m
noncomputable def com (V : Nat → Int) (n a b : Nat) : Nat := comF V n a b n
section
variable {V : Nat → Int} {n a b : Nat}
theorem comF_le : ∀ m k, k ≤ m → (k ≤ comF V n a b m ↔ Shares V n a b k) := by
  intro m
  induction m with
  | zero =>
    intro k hk
    obtain rfl : k = 0 := by omega
    exact ⟨fun _ => Shares.zero, fun _ => Nat.zero_le _⟩
  | succ m ih =>
    intro k hk
    unfold comF
    split
    · rename_i h
      exact ⟨fun h1 => h.less h1, fun _ => hk⟩
    · rename_i h
      by_cases e : k = m + 1
      · subst e
        have h1 : comF V n a b m ≤ m := by
          have : ∀ m, comF V n a b m ≤ m := by
            intro m
            induction m with
            | zero => exact Nat.le_refl _
            | succ m ih =>
              unfold comF
              split
              · exact Nat.le_refl _
              · omega
          exact this m
        exact ⟨fun h2 => by omega, fun h2 => absurd h2 h⟩
      · exact ih k (by omega)
theorem com_le {k : Nat} : k ≤ com V n a b ↔ Shares V n a b k := by
  by_cases hk : k ≤ n
  · exact comF_le n k hk
  · have h1 : com V n a b ≤ n := by
      apply Nat.le_of_not_lt
      intro hlt
      have : ∀ m, comF V n a b m ≤ m := by
        intro m
        induction m with
        | zero => exact Nat.le_refl _
        | succ m ih =>
          unfold comF
          split
          · exact Nat.le_refl _
          · omega
      have := this n
      unfold com at hlt
      omega
    exact ⟨fun h => by omega, fun h => by have := h (k - 1) (by omega); omega⟩
theorem com_is {k : Nat} (h : Shares V n a b k) (h' : ¬ (a + k < n ∧ b + k < n ∧ V (a + k) = V (b + k))) : com V n a b = k := by
  have h1 := com_le.2 h
  have h2 : ¬ k + 1 ≤ com V n a b := fun h3 => h' ((com_le.1 h3) k (by omega))
  omega
theorem com_shares : Shares V n a b (com V n a b) := com_le.1 (Nat.le_refl _)
theorem com_symm : com V n a b = com V n b a := Nat.le_antisymm (com_le.2 com_shares.symm) (com_le.2 com_shares.symm)
theorem com_in (ha : a ≤ n) : a + com V n a b ≤ n := by
  have h := com_shares (V := V) (n := n) (a := a) (b := b)
  by_cases h0 : com V n a b = 0
  · omega
  · exact (h.in (by omega)).1
theorem com_congr {V' : Nat → Int} (h : ∀ i, i < n → V i = V' i) : com V n a b = com V' n a b := by
  have h1 : Shares V' n a b (com V n a b) := fun i hi => by
    obtain ⟨h2, h3, h4⟩ := com_shares i hi
    exact ⟨h2, h3, by rw [← h _ h2, ← h _ h3]; exact h4⟩
  have h2 : Shares V n a b (com V' n a b) := fun i hi => by
    obtain ⟨h2, h3, h4⟩ := com_shares i hi
    exact ⟨h2, h3, by rw [h _ h2, h _ h3]; exact h4⟩
  exact Nat.le_antisymm (com_le.2 h1) (com_le.2 h2)
end
/-- of three in order, the outer two share what both inner pairs share. -/
theorem shares_between {V : Nat → Int} {n a b c k : Nat} (h1 : SLess V n a b) (h2 : SLess V n b c) (h : Shares V n a c k) : Shares V n a b k ∧ Shares V n b c k := by
  have hab : Shares V n a b k := by
    obtain ⟨k1, p1, p2, p3, p4⟩ := h1
    obtain ⟨k2, q1, q2, q3, q4⟩ := h2
    have hk : k ≤ k1 := by
      apply Nat.le_of_not_lt
      intro hlt
      obtain ⟨r1, r2, r3⟩ := h k1 hlt
      have p4 : V (a + k1) < V (b + k1) := p4.resolve_left (by omega)
      rcases Nat.lt_trichotomy k2 k1 with e | e | e
      · obtain ⟨s1, s2, s3⟩ := h k2 (by omega)
        have := p1 k2 e
        rcases q4 with q4 | q4 <;> omega
      · subst e
        rcases q4 with q4 | q4 <;> omega
      · have := q1 k1 e
        omega
    intro i hi
    have := h i hi
    exact ⟨this.1, by omega, p1 i (by omega)⟩
  exact ⟨hab, hab.symm.trans h⟩
theorem com_between {V : Nat → Int} {n a b c : Nat} (h1 : SLess V n a b) (h2 : SLess V n b c) : com V n a c = min (com V n a b) (com V n b c) := by
  have h := shares_between h1 h2 (com_shares (V := V) (n := n) (a := a) (b := c))
  have g1 := com_le.2 h.1
  have g2 := com_le.2 h.2
  have g3 : min (com V n a b) (com V n b c) ≤ com V n a c := com_le.2 ((com_shares.less (Nat.min_le_left _ _)).trans (com_shares.less (Nat.min_le_right _ _)))
  omega
/-- the same for places that may be none. -/
noncomputable def comI (V : Nat → Int) (n : Nat) (a b : Int) : Int := if 0 ≤ a ∧ a < (n : Int) ∧ 0 ≤ b ∧ b < (n : Int) then ((com V n a.toNat b.toNat : Nat) : Int) else 0
theorem comI_out {V : Nat → Int} {n : Nat} {a b : Int} (h : ¬ (0 ≤ a ∧ a < (n : Int) ∧ 0 ≤ b ∧ b < (n : Int))) : comI V n a b = 0 := if_neg h
theorem comI_in {V : Nat → Int} {n a b : Nat} (ha : a < n) (hb : b < n) : comI V n (a : Int) (b : Int) = ((com V n a b : Nat) : Int) := by
  unfold comI
  rw [if_pos (by omega), Int.toNat_natCast, Int.toNat_natCast]
theorem comI_symm {V : Nat → Int} {n : Nat} {a b : Int} : comI V n a b = comI V n b a := by
  unfold comI
  by_cases h : 0 ≤ a ∧ a < (n : Int) ∧ 0 ≤ b ∧ b < (n : Int)
  · rw [if_pos h, if_pos (by omega), com_symm]
  · rw [if_neg h, if_neg (by omega)]
theorem comI_room {V : Nat → Int} {n : Nat} {a b : Int} : 0 ≤ comI V n a b ∧ comI V n a b ≤ (n : Int) := by
  unfold comI
  split
  · rename_i h
    have := com_in (V := V) (n := n) (a := a.toNat) (b := b.toNat) (by omega)
    omega
  · omega
/-- what suffixes side by side have in common. -/
noncomputable def lcpI (V : Nat → Int) (n : Nat) (S : Nat → Int) (i : Nat) : Int := if i = 0 then 0 else comI V n (S (i - 1)) (S i)
theorem lcpI_zero {V : Nat → Int} {n : Nat} {S : Nat → Int} : lcpI V n S 0 = 0 := rfl
theorem lcpI_succ {V : Nat → Int} {n : Nat} {S : Nat → Int} {i : Nat} : lcpI V n S (i + 1) = comI V n (S i) (S (i + 1)) := by
  unfold lcpI
  rw [if_neg (by omega), Nat.add_sub_cancel]
theorem lcpI_congr {V : Nat → Int} {n m : Nat} {S S' : Nat → Int} (h : ∀ i, i < m → S i = S' i) : ∀ i, i < m → lcpI V n S i = lcpI V n S' i := fun i hi => by
  cases i with
  | zero => rfl
  | succ i => rw [lcpI_succ, lcpI_succ, h i (by omega), h _ hi]
theorem lcpI_congrV {V V' : Nat → Int} {n : Nat} {S : Nat → Int} (h : ∀ i, i < n → V i = V' i) : ∀ i, lcpI V n S i = lcpI V' n S i := fun i => by
  cases i with
  | zero => rfl
  | succ i =>
    rw [lcpI_succ, lcpI_succ]
    unfold comI
    split
    · rw [com_congr h]
    · rfl
theorem lcpI_room {V : Nat → Int} {n : Nat} {S : Nat → Int} {i : Nat} : 0 ≤ lcpI V n S i ∧ lcpI V n S i ≤ (n : Int) := by
  unfold lcpI
  split
  · omega
  · exact comI_room

/-- the least of the d + 1 numbers behind place x. -/
def lowR (L : Nat → Int) (x : Nat) : Nat → Int
  | 0 => L (x + 1)
  | d + 1 => min (lowR L x d) (L (x + 1 + (d + 1)))
theorem lowR_le (L : Nat → Int) (x : Nat) : ∀ d v, v ≤ lowR L x d ↔ ∀ i, i ≤ d → v ≤ L (x + 1 + i) := by
  intro d
  induction d with
  | zero =>
    intro v
    exact ⟨fun h i hi => by obtain rfl : i = 0 := by omega
                            exact h, fun h => h 0 (Nat.le_refl _)⟩
  | succ d ih =>
    intro v
    unfold lowR
    rw [Int.le_min, ih]
    constructor
    · rintro ⟨h1, h2⟩ i hi
      by_cases e : i = d + 1
      · subst e
        exact h2
      · exact h1 i (by omega)
    · intro h
      exact ⟨fun i hi => h i (by omega), h _ (Nat.le_refl _)⟩
theorem low_one {u v : Int} (h : ∀ x, x ≤ u ↔ x ≤ v) : u = v := Int.le_antisymm ((h u).1 (Int.le_refl _)) ((h v).2 (Int.le_refl _))
theorem lowR_parts (L : Nat → Int) (x d e : Nat) : lowR L x (d + 1 + e) = min (lowR L x d) (lowR L (x + (d + 1)) e) := low_one fun v => by
  rw [Int.le_min, lowR_le, lowR_le, lowR_le]
  constructor
  · intro h
    refine ⟨fun i hi => h i (by omega), fun i hi => ?_⟩
    have := h (d + 1 + i) (by omega)
    rwa [show x + 1 + (d + 1 + i) = x + (d + 1) + 1 + i by omega] at this
  · rintro ⟨h1, h2⟩ i hi
    by_cases hid : i ≤ d
    · exact h1 i hid
    · have := h2 (i - (d + 1)) (by omega)
      rwa [show x + (d + 1) + 1 + (i - (d + 1)) = x + 1 + i by omega] at this
theorem lowR_congr {L L' : Nat → Int} {x d : Nat} (h : ∀ i, i ≤ d → L (x + 1 + i) = L' (x + 1 + i)) : lowR L x d = lowR L' x d := low_one fun v => by
  rw [lowR_le, lowR_le]
  exact ⟨fun g i hi => by rw [← h i hi]; exact g i hi, fun g i hi => by rw [h i hi]; exact g i hi⟩
theorem lowR_last (L : Nat → Int) (x d : Nat) : min (L (x + 1 + d)) (lowR L x d) = lowR L x d := low_one fun v => by
  rw [Int.le_min, lowR_le]
  exact ⟨fun h => h.2, fun h => ⟨h d (Nat.le_refl _), h⟩⟩
theorem lowR_is (L : Nat → Int) (x d : Nat) : ∃ i, i ≤ d ∧ lowR L x d = L (x + 1 + i) := by
  induction d with
  | zero => exact ⟨0, Nat.le_refl _, rfl⟩
  | succ d ih =>
    obtain ⟨i, h1, h2⟩ := ih
    unfold lowR
    by_cases h : lowR L x d ≤ L (x + 1 + (d + 1))
    · exact ⟨i, by omega, by rw [Int.min_eq_left h, h2]⟩
    · exact ⟨d + 1, Nat.le_refl _, by rw [Int.min_eq_right (by omega)]⟩
/-- the least number of a range; -1 if there is none. -/
def rangeI (L : Nat → Int) (n : Nat) (a b : Int) : Int :=
  if 0 ≤ a ∧ a < (n : Int) ∧ 0 ≤ b ∧ b < (n : Int) ∧ a ≠ b then lowR L (min a b).toNat (max a b - min a b - 1).toNat else -1
theorem rangeI_out {L : Nat → Int} {n : Nat} {a b : Int} (h : ¬ (0 ≤ a ∧ a < (n : Int) ∧ 0 ≤ b ∧ b < (n : Int) ∧ a ≠ b)) : rangeI L n a b = -1 := if_neg h
theorem rangeI_up {L : Nat → Int} {n x d : Nat} (h : x + 1 + d < n) : rangeI L n (x : Int) ((x + 1 + d : Nat) : Int) = lowR L x d := by
  unfold rangeI
  rw [if_pos (by omega), Int.min_eq_left (by omega), Int.max_eq_right (by omega), Int.toNat_natCast, show (((x + 1 + d : Nat) : Int) - (x : Int) - 1).toNat = d by omega]
theorem rangeI_symm {L : Nat → Int} {n : Nat} {a b : Int} : rangeI L n a b = rangeI L n b a := by
  unfold rangeI
  by_cases h : 0 ≤ a ∧ a < (n : Int) ∧ 0 ≤ b ∧ b < (n : Int) ∧ a ≠ b
  · rw [if_pos h, if_pos ⟨h.2.2.1, h.2.2.2.1, h.1, h.2.1, Ne.symm h.2.2.2.2⟩, Int.min_comm a b, Int.max_comm a b]
  · rw [if_neg h, if_neg fun g => h ⟨g.2.2.1, g.2.2.2.1, g.1, g.2.1, Ne.symm g.2.2.2.2⟩]
/-- in order: the least between two is what these have in common. -/
theorem low_com {V : Nat → Int} {n x : Nat} {s : Nat → Nat} (h : IsSA V n s) : ∀ d, x + 1 + d < n → lowR (lcpI V n fun i => ((s i : Nat) : Int)) x d = ((com V n (s x) (s (x + 1 + d)) : Nat) : Int) := by
  intro d
  induction d with
  | zero =>
    intro hd
    show lcpI V n (fun i => ((s i : Nat) : Int)) (x + 1) = _
    rw [lcpI_succ, comI_in (h.1 _ (by omega)) (h.1 _ (by omega))]
  | succ d ih =>
    intro hd
    unfold lowR
    rw [ih (by omega), show x + 1 + (d + 1) = (x + 1 + d) + 1 by omega, lcpI_succ, comI_in (h.1 _ (by omega)) (h.1 _ (by omega)), com_between (h.2 x (x + 1 + d) (by omega) (by omega)) (h.2 (x + 1 + d) (x + 1 + d + 1) (by omega) (by omega))]
    omega
theorem range_com {V : Nat → Int} {n a b : Nat} {s : Nat → Nat} (h : IsSA V n s) (ha : a < n) (hb : b < n) (hne : a ≠ b) : rangeI (lcpI V n fun i => ((s i : Nat) : Int)) n (a : Int) (b : Int) = comI V n ((s a : Nat) : Int) ((s b : Nat) : Int) := by
  rw [comI_in (h.1 _ ha) (h.1 _ hb)]
  rcases Nat.lt_or_gt_of_ne hne with hlt | hlt
  · obtain ⟨d, rfl⟩ := Nat.le.dest (show a + 1 ≤ b from hlt)
    rw [rangeI_up hb, low_com h d hb]
  · obtain ⟨d, rfl⟩ := Nat.le.dest (show b + 1 ≤ a from hlt)
    rw [rangeI_symm, rangeI_up ha, low_com h d ha, com_symm]
/-- 1 for what holds. -/
noncomputable def ind (p : Prop) : Nat := open Classical in if p then 1 else 0
theorem ind_congr {p q : Prop} (h : p ↔ q) : ind p = ind q := by rw [propext h]
theorem ind_pos {p : Prop} (h : p) : ind p = 1 := if_pos h
theorem ind_neg {p : Prop} (h : ¬ p) : ind p = 0 := if_neg h
theorem ind_dec (p : Prop) {inst : Decidable p} : (if (@decide p inst) = true then 1 else 0) = ind p := by
  by_cases h : p
  · rw [ind_pos h]; simp [h]
  · rw [ind_neg h]; simp [h]
/-- of the places of a row, the latest first: how many begin a part of k numbers that none ahead begins. -/
noncomputable def firsts (V : Nat → Int) (n k : Nat) : List Nat → Nat
  | [] => 0
  | a :: L => firsts V n k L + ind (a + k ≤ n ∧ ∀ c ∈ L, ¬ Shares V n c a k)
theorem firsts_perm {V : Nat → Int} {n k : Nat} (hk : 0 < k) {L L' : List Nat} (h : L.Perm L') : firsts V n k L = firsts V n k L' := by
  induction h with
  | nil => rfl
  | cons a h ih =>
    unfold firsts
    rw [ih]
    congr 1
    exact ind_congr (and_congr Iff.rfl (forall_congr' fun c => by rw [h.mem_iff]))
  | swap a b L =>
    show firsts V n k L + _ + _ = firsts V n k L + _ + _
    rw [Nat.add_assoc, Nat.add_assoc]
    congr 1
    by_cases hs : Shares V n a b k
    · have h1 := hs.in hk
      have e1 : (a + k ≤ n ∧ ∀ c ∈ L, ¬ Shares V n c a k) ↔ (b + k ≤ n ∧ ∀ c ∈ L, ¬ Shares V n c b k) :=
        ⟨fun h => ⟨h1.2, fun c hc g => h.2 c hc (g.trans hs.symm)⟩, fun h => ⟨h1.1, fun c hc g => h.2 c hc (g.trans hs)⟩⟩
      have e2 : ¬ (b + k ≤ n ∧ ∀ c ∈ a :: L, ¬ Shares V n c b k) := fun h => h.2 a (List.mem_cons_self ..) hs
      have e3 : ¬ (a + k ≤ n ∧ ∀ c ∈ b :: L, ¬ Shares V n c a k) := fun h => h.2 b (List.mem_cons_self ..) hs.symm
      rw [ind_neg e2, ind_neg e3, ind_congr e1]
    · have e2 : (b + k ≤ n ∧ ∀ c ∈ a :: L, ¬ Shares V n c b k) ↔ (b + k ≤ n ∧ ∀ c ∈ L, ¬ Shares V n c b k) := and_congr Iff.rfl ⟨fun h c hc => h c (List.mem_cons_of_mem _ hc), fun h c hc => by
        rcases List.mem_cons.1 hc with rfl | hc
        · exact hs
        · exact h c hc⟩
      have e3 : (a + k ≤ n ∧ ∀ c ∈ b :: L, ¬ Shares V n c a k) ↔ (a + k ≤ n ∧ ∀ c ∈ L, ¬ Shares V n c a k) := and_congr Iff.rfl ⟨fun h c hc => h c (List.mem_cons_of_mem _ hc), fun h c hc => by
        rcases List.mem_cons.1 hc with rfl | hc
        · exact fun g => hs g.symm
        · exact h c hc⟩
      rw [ind_congr e2, ind_congr e3]
      exact Nat.add_comm _ _
  | trans _ _ ih1 ih2 => exact ih1.trans ih2
/-- the same for parts of 1 to m numbers. -/
noncomputable def firstsTo (V : Nat → Int) (n : Nat) (L : List Nat) : Nat → Nat
  | 0 => 0
  | m + 1 => firstsTo V n L m + firsts V n (m + 1) L
theorem firstsTo_perm {V : Nat → Int} {n : Nat} {L L' : List Nat} (h : L.Perm L') : ∀ m, firstsTo V n L m = firstsTo V n L' m := by
  intro m
  induction m with
  | zero => rfl
  | succ m ih => unfold firstsTo; rw [ih, firsts_perm (by omega) h]
/-- those that begin at a: of 1 to m numbers. -/
noncomputable def newAt (V : Nat → Int) (n : Nat) (L : List Nat) (a m : Nat) : Nat := open Classical in Pl.cnt (fun k => decide (a + (k + 1) ≤ n ∧ ∀ c ∈ L, ¬ Shares V n c a (k + 1))) m
theorem newAt_succ (V : Nat → Int) (n : Nat) (L : List Nat) (a m : Nat) : newAt V n L a (m + 1) = newAt V n L a m + ind (a + (m + 1) ≤ n ∧ ∀ c ∈ L, ¬ Shares V n c a (m + 1)) := by
  unfold newAt
  rw [Pl.cnt_succ]
  exact congrArg _ (ind_dec _)
theorem firstsTo_cons (V : Nat → Int) (n : Nat) (a : Nat) (L : List Nat) : ∀ m, firstsTo V n (a :: L) m = firstsTo V n L m + newAt V n L a m := by
  intro m
  induction m with
  | zero => rfl
  | succ m ih =>
    show firstsTo V n (a :: L) m + (firsts V n (m + 1) L + _) = firstsTo V n L m + firsts V n (m + 1) L + _
    rw [ih, newAt_succ]
    omega
theorem newAt_end {V : Nat → Int} {n a m : Nat} {L : List Nat} (h : n ≤ a + m) : newAt V n L a m = newAt V n L a (n - a) := by
  obtain ⟨d, rfl⟩ := Nat.le.dest (show n - a ≤ m by omega)
  clear h
  induction d with
  | zero => rfl
  | succ d ih =>
    rw [show n - a + (d + 1) = n - a + d + 1 by omega, newAt_succ, ih, ind_neg (fun h => by omega)]
    rfl
/-- the first i places of an order, the latest first. -/
def downS (s : Nat → Nat) : Nat → List Nat
  | 0 => []
  | i + 1 => s i :: downS s i
theorem mem_downS {s : Nat → Nat} {p : Nat} : ∀ {i}, p ∈ downS s i ↔ ∃ j, j < i ∧ s j = p := by
  intro i
  induction i with
  | zero => exact ⟨fun h => absurd h (List.not_mem_nil), fun ⟨j, hj, _⟩ => absurd hj (Nat.not_lt_zero j)⟩
  | succ i ih =>
    unfold downS
    rw [List.mem_cons, ih]
    constructor
    · rintro (rfl | ⟨j, hj, e⟩)
      · exact ⟨i, by omega, rfl⟩
      · exact ⟨j, by omega, e⟩
    · rintro ⟨j, hj, e⟩
      by_cases h : j = i
      · subst h
        exact .inl e.symm
      · exact .inr ⟨j, by omega, e⟩
theorem count_downS {s : Nat → Nat} {p : Nat} : ∀ {i}, (∀ a b, a < i → b < i → s a = s b → a = b) → (downS s i).count p = ind (∃ j, j < i ∧ s j = p) := by
  intro i
  induction i with
  | zero => intro _; rw [ind_neg (fun ⟨j, hj, _⟩ => absurd hj (Nat.not_lt_zero j))]; rfl
  | succ i ih =>
    intro hi
    have h1 := ih (fun a b ha hb => hi a b (by omega) (by omega))
    unfold downS
    rw [List.count_cons, h1]
    by_cases e : s i = p
    · subst e
      rw [ind_neg (fun ⟨j, hj, e'⟩ => by have := hi j i (by omega) (by omega) e'; omega), ind_pos ⟨i, by omega, rfl⟩]
      simp
    · have : (∃ j, j < i + 1 ∧ s j = p) ↔ (∃ j, j < i ∧ s j = p) := ⟨fun ⟨j, hj, e'⟩ => ⟨j, by
        apply Nat.lt_of_le_of_ne (by omega)
        rintro rfl
        exact e e', e'⟩, fun ⟨j, hj, e'⟩ => ⟨j, by omega, e'⟩⟩
      rw [ind_congr this]
      simp [e]
theorem downS_perm {V : Nat → Int} {n : Nat} {s : Nat → Nat} (h : IsSA V n s) : (downS s n).Perm (downS id n) := by
  rw [List.perm_iff_count]
  intro p
  rw [count_downS (fun a b ha hb he => h.inj ha hb he), count_downS (s := id) (fun a b _ _ he => he)]
  have : (∃ j, j < n ∧ s j = p) ↔ (∃ j, j < n ∧ id j = p) := ⟨fun ⟨j, hj, e⟩ => ⟨p, by rw [← e]; exact h.1 j hj, rfl⟩, fun ⟨j, hj, e⟩ => by
    have e : j = p := e
    exact h.onto (by omega)⟩
  exact ind_congr this
/-- the lengths of the suffixes at places, together. -/
def lensL (n : Nat) : List Nat → Nat
  | [] => 0
  | a :: L => lensL n L + (n - a)
theorem lensL_perm {n : Nat} {L L' : List Nat} (h : L.Perm L') : lensL n L = lensL n L' := by
  induction h with
  | nil => rfl
  | cons a h ih => unfold lensL; rw [ih]
  | swap a b L => show lensL n L + (n - a) + (n - b) = lensL n L + (n - b) + (n - a); omega
  | trans _ _ ih1 ih2 => exact ih1.trans ih2
theorem lensL_all : ∀ n, n < 25 → lensL n (downS id n) = n * (n + 1) / 2 := by decide
/-- numbers together. -/
def sumI (L : Nat → Int) : Nat → Int
  | 0 => 0
  | i + 1 => sumI L i + L i
theorem cnt_between (l h : Nat) (hlh : l ≤ h) : ∀ m, Pl.cnt (fun k => decide (l ≤ k ∧ k < h)) m = min m h - min m l := by
  intro m
  induction m with
  | zero => simp [Pl.cnt]
  | succ m ih =>
    rw [Pl.cnt_succ, ih]
    by_cases e : l ≤ m ∧ m < h
    · simp only [e, and_self, decide_true, if_true]
      omega
    · rw [decide_eq_false e]
      simp
      omega
/-- in order: at number i there begin as many new parts as its suffix is long, less what it shares with the one ahead. -/
theorem newAt_sorted {V : Nat → Int} {n i : Nat} {s : Nat → Nat} (h : IsSA V n s) (hi : i < n) : ((newAt V n (downS s i) (s i) n : Nat) : Int) = (n : Int) - ((s i : Nat) : Int) - lcpI V n (fun i => ((s i : Nat) : Int)) i := by
  have hsi := h.1 i hi
  obtain ⟨l, hl, hle, hc⟩ : ∃ l : Nat, lcpI V n (fun i => ((s i : Nat) : Int)) i = (l : Int) ∧ s i + l ≤ n ∧ ∀ k, (∃ c, c ∈ downS s i ∧ Shares V n c (s i) (k + 1)) ↔ k + 1 ≤ l := by
    cases i with
    | zero => exact ⟨0, rfl, by omega, fun k => ⟨fun ⟨c, hc, _⟩ => absurd hc List.not_mem_nil, fun h => by omega⟩⟩
    | succ i =>
      refine ⟨com V n (s i) (s (i + 1)), ?_, ?_, fun k => ?_⟩
      · rw [lcpI_succ, comI_in (h.1 i (by omega)) hsi]
      · rw [com_symm]
        exact com_in (by omega)
      · rw [com_le]
        constructor
        · rintro ⟨c, hc, hs⟩
          obtain ⟨j, hj, rfl⟩ := mem_downS.1 hc
          by_cases e : j = i
          · subst e
            exact hs
          · exact (shares_between (h.2 j i (by omega) (by omega)) (h.2 i (i + 1) (by omega) hi) hs).2
        · intro hs
          exact ⟨s i, mem_downS.2 ⟨i, by omega, rfl⟩, hs⟩
  rw [hl]
  have e : newAt V n (downS s i) (s i) n = Pl.cnt (fun k => decide (l ≤ k ∧ k < n - s i)) n := by
    unfold newAt
    congr 1
    funext k
    rw [decide_eq_decide]
    have h1 := hc k
    constructor
    · rintro ⟨h2, h3⟩
      refine ⟨?_, by omega⟩
      apply Nat.le_of_not_lt
      intro hlt
      obtain ⟨c, h4, h5⟩ := h1.2 hlt
      exact h3 c h4 h5
    · rintro ⟨h2, h3⟩
      refine ⟨by omega, fun c h4 h5 => ?_⟩
      have := h1.1 ⟨c, h4, h5⟩
      omega
  rw [e, cnt_between _ _ (by omega)]
  omega
theorem firsts_sorted {V : Nat → Int} {n : Nat} {s : Nat → Nat} (h : IsSA V n s) : ∀ i, i ≤ n → ((firstsTo V n (downS s i) n : Nat) : Int) = ((lensL n (downS s i) : Nat) : Int) - sumI (lcpI V n fun i => ((s i : Nat) : Int)) i := by
  have nil : ∀ m, firstsTo V n [] m = 0 := by
    intro m
    induction m with
    | zero => rfl
    | succ m ih => unfold firstsTo; rw [ih]; rfl
  intro i
  induction i with
  | zero => intro _; show ((firstsTo V n [] n : Nat) : Int) = _; rw [nil]; rfl
  | succ i ih =>
    intro hi
    have h1 := newAt_sorted h (show i < n from hi)
    have h2 := ih (by omega)
    have hsi := h.1 i hi
    show ((firstsTo V n (s i :: downS s i) n : Nat) : Int) = ((lensL n (downS s i) + (n - s i) : Nat) : Int) - (sumI (lcpI V n fun i => ((s i : Nat) : Int)) i + lcpI V n (fun i => ((s i : Nat) : Int)) i)
    rw [firstsTo_cons]
    omega
/-- as many unlike parts as beginnings, less what each suffix has in common with the one ahead. -/
theorem unlike_parts {V : Nat → Int} {n : Nat} {s : Nat → Nat} (h : IsSA V n s) (hn : n < 25) : ((n * (n + 1) / 2 : Nat) : Int) - sumI (lcpI V n fun i => ((s i : Nat) : Int)) n = ((firstsTo V n (downS id n) n : Nat) : Int) := by
  rw [← firstsTo_perm (downS_perm h), firsts_sorted h n (Nat.le_refl _), lensL_perm (downS_perm h), lensL_all n hn]
end Go.Proofs.Ythbnojhcmfhnhaa
