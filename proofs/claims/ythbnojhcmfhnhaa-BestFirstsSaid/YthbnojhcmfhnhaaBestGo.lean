/- A search that takes the greatest part each time: what it tells comes the best first, with few steps between: plain. -/
import Derived.Test.YthbnojhcmfhnhaaBestI
namespace Go.Proofs.Ythbnojhcmfhnhaa

theorem BetP.trans {l : List Int} {p q r : Int × Nat} (h : BetP l p q) (h' : BetP l q r) : BetP l p r := by
  unfold BetP at *
  omega
/-- two parts that have nothing in common. -/
def Apt (p q : Int × Nat) : Prop := p.1 + 2 ^ p.2 ≤ q.1 ∨ q.1 + 2 ^ q.2 ≤ p.1
theorem pow_pos2 (n : Nat) : (0 : Int) < 2 ^ n := Int.pow_pos (by decide)
theorem Apt.ne {p q : Int × Nat} (h : Apt p q) : p.1 ≠ q.1 := by
  unfold Apt at h
  have := pow_pos2 p.2
  have := pow_pos2 q.2
  omega
theorem Apt.symm {p q : Int × Nat} (h : Apt p q) : Apt q p := Or.symm h
theorem best_part (l : List Int) : ∀ P : List (Int × Nat), P ≠ [] → P.Pairwise Apt → ∃ p A B, P = A ++ p :: B ∧ ∀ q ∈ A ++ B, BetP l p q
  | [], h, _ => absurd rfl h
  | [x], _, _ => ⟨x, [], [], rfl, fun q hq => by cases hq⟩
  | x :: y :: P, _, hp => by
    rw [List.pairwise_cons] at hp
    obtain ⟨p, A, B, e, hb⟩ := best_part l (y :: P) (by simp) hp.2
    have hne := (hp.1 p (by rw [e]; simp)).ne
    have ht : BetP l x p ∨ BetP l p x := by
      unfold BetP
      omega
    rcases ht with h | h
    · refine ⟨x, [], y :: P, rfl, fun q hq => ?_⟩
      have hq : q ∈ A ++ p :: B := by rw [← e]; exact hq
      rcases List.mem_append.1 hq with g | g
      · exact h.trans (hb q (List.mem_append_left _ g))
      · rcases List.mem_cons.1 g with g | g
        · rw [g]
          exact h
        · exact h.trans (hb q (List.mem_append_right _ g))
    · refine ⟨p, x :: A, B, by rw [e]; rfl, fun q hq => ?_⟩
      rcases List.mem_cons.1 hq with g | g
      · rw [g]
        exact h
      · exact hb q g
theorem cntP_le (l : List Int) (p : Int × Nat) : cntP l p ≤ l.length := List.countP_le_length
/-- a part's halves. -/
theorem cntP_halves (l : List Int) {p : Int × Nat} (h : 0 < p.2) : cntP l p = cntP l (p.1, p.2 - 1) + cntP l (p.1 + 2 ^ (p.2 - 1), p.2 - 1) := by
  have e : (2 : Int) ^ p.2 = 2 ^ (p.2 - 1) + 2 ^ (p.2 - 1) := by
    obtain ⟨k, hk⟩ : ∃ k, p.2 = k + 1 := ⟨p.2 - 1, by omega⟩
    rw [hk, Nat.add_sub_cancel, Int.pow_succ]
    omega
  have h2 := pow_pos2 (p.2 - 1)
  unfold cntP
  induction l with
  | nil => rfl
  | cons x l ih =>
    rw [List.countP_cons, List.countP_cons, List.countP_cons, ih]
    show _ + (if decide (p.1 ≤ x ∧ x < p.1 + 2 ^ p.2) = true then 1 else 0) = _ + (if decide (p.1 ≤ x ∧ x < p.1 + 2 ^ (p.2 - 1)) = true then 1 else 0) + (_ + (if decide (p.1 + 2 ^ (p.2 - 1) ≤ x ∧ x < p.1 + 2 ^ (p.2 - 1) + 2 ^ (p.2 - 1)) = true then 1 else 0))
    rw [e]
    simp only [decide_eq_true_iff]
    split <;> split <;> split <;> omega
theorem cntP_one (l : List Int) {p : Int × Nat} (h : p.2 = 0) : cntP l p = l.countP fun x => decide (x = p.1) := by
  unfold cntP
  refine List.countP_congr fun x _ => ?_
  rw [decide_eq_true_iff, decide_eq_true_iff, h]
  show p.1 ≤ x ∧ x < p.1 + 1 ↔ x = p.1
  omega
/-- how a search stands: its parts P, what it has told T, the steps that told none I. -/
structure SInv (K : Nat) (l : List Int) (P T : List (Int × Nat)) (I : Nat) : Prop where
  pos : ∀ p ∈ P, 0 < cntP l p
  apart : P.Pairwise Apt
  cover : ∀ x ∈ l, (∃ p ∈ P, p.1 ≤ x ∧ x < p.1 + 2 ^ p.2) ∨ ∃ d ∈ T, d.1 = x
  rise : T.Pairwise Bet
  many : ∀ d ∈ T, d.2 = l.countP (fun x => decide (x = d.1)) ∧ 0 < d.2
  ahead : ∀ d ∈ T, ∀ p ∈ P, cntP l p < d.2 ∨ (cntP l p = d.2 ∧ d.1 < p.1)
  sum : (T.map Prod.snd).sum + (P.map (cntP l)).sum = l.length
  idle : I + (P.map fun p => cntP l p * p.2).sum ≤ K * l.length
theorem len_le_sum {T : List (Int × Nat)} (h : ∀ d ∈ T, 0 < d.2) : T.length ≤ (T.map Prod.snd).sum := by
  induction T with
  | nil => exact Nat.le_refl _
  | cons d T ih =>
    have h1 := h d (List.mem_cons_self ..)
    have h2 := ih fun e he => h e (List.mem_cons_of_mem _ he)
    show T.length + 1 ≤ d.2 + (T.map Prod.snd).sum
    omega
theorem SInv.start {K : Nat} {l : List Int} (h : ∀ x ∈ l, 0 ≤ x ∧ x < 2 ^ K) : SInv K l (startP l K) [] 0 := by
  unfold startP
  by_cases hl : l = []
  · rw [if_pos hl, hl]
    exact ⟨fun p hp => (by cases hp), List.Pairwise.nil, fun x hx => (by cases hx), List.Pairwise.nil, fun d hd => (by cases hd), fun d hd => (by cases hd), rfl, Nat.le_refl _⟩
  · rw [if_neg hl]
    have hc : cntP l (0, K) = l.length := by
      unfold cntP
      rw [List.countP_eq_length]
      intro x hx
      rw [decide_eq_true_iff]
      have := h x hx
      show 0 ≤ x ∧ x < 0 + 2 ^ K
      omega
    have hp : 0 < l.length := List.length_pos_iff.2 hl
    refine ⟨fun p hp' => ?_, List.pairwise_singleton _ _, fun x hx => .inl ⟨(0, K), List.mem_singleton.2 rfl, ?_⟩, List.Pairwise.nil, fun d hd => (by cases hd), fun d hd => (by cases hd), ?_, ?_⟩
    · obtain rfl := List.mem_singleton.1 hp'
      omega
    · have := h x hx
      show 0 ≤ x ∧ x < 0 + 2 ^ K
      omega
    · show 0 + (cntP l (0, K) + 0) = l.length
      omega
    · show 0 + (cntP l (0, K) * K + 0) ≤ K * l.length
      rw [hc, Nat.zero_add, Nat.add_zero, Nat.mul_comm]
      exact Nat.le_refl _
section
variable {K : Nat} {l : List Int} {A B T : List (Int × Nat)} {p : Int × Nat} {I : Nat}
/-- a number alone is told. -/
theorem SInv.tell (h : SInv K l (A ++ p :: B) T I) (hb : ∀ q ∈ A ++ B, BetP l p q) (h0 : p.2 = 0) : SInv K l (A ++ B) (T ++ [(p.1, cntP l p)]) I := by
  have hsub : (A ++ B).Sublist (A ++ p :: B) := (List.Sublist.refl A).append (List.sublist_cons_self p B)
  have hpm : p ∈ A ++ p :: B := List.mem_append_right _ (List.mem_cons_self ..)
  refine ⟨fun q hq => h.pos q (hsub.subset hq), h.apart.sublist hsub, fun x hx => ?_, ?_, fun d hd => ?_, fun d hd q hq => ?_, ?_, ?_⟩
  · rcases h.cover x hx with ⟨q, hq, h1⟩ | ⟨d, hd, h1⟩
    · rcases List.mem_append.1 hq with g | g
      · exact .inl ⟨q, List.mem_append_left _ g, h1⟩
      · rcases List.mem_cons.1 g with g | g
        · rw [g, h0] at h1
          have h1 : p.1 ≤ x ∧ x < p.1 + 1 := h1
          exact .inr ⟨_, List.mem_append_right _ (List.mem_singleton.2 rfl), show p.1 = x by omega⟩
        · exact .inl ⟨q, List.mem_append_right _ g, h1⟩
    · exact .inr ⟨d, List.mem_append_left _ hd, h1⟩
  · rw [List.pairwise_append]
    refine ⟨h.rise, List.pairwise_singleton _ _, fun d hd e he => ?_⟩
    obtain rfl := List.mem_singleton.1 he
    exact h.ahead d hd p hpm
  · rcases List.mem_append.1 hd with g | g
    · exact h.many d g
    · obtain rfl := List.mem_singleton.1 g
      exact ⟨cntP_one l h0, h.pos p hpm⟩
  · rcases List.mem_append.1 hd with g | g
    · exact h.ahead d g q (hsub.subset hq)
    · obtain rfl := List.mem_singleton.1 g
      exact hb q hq
  · have := h.sum
    simp only [List.map_append, List.sum_append, List.map_cons, List.sum_cons, List.map_nil, List.sum_nil] at this ⊢
    omega
  · have := h.idle
    simp only [List.map_append, List.sum_append, List.map_cons, List.sum_cons] at this ⊢
    omega
theorem halves_in {q : Int × Nat} (h : q ∈ halvesP l p) (hp : 0 < p.2) : 0 < cntP l q ∧ p.1 ≤ q.1 ∧ q.1 + 2 ^ q.2 ≤ p.1 + 2 ^ p.2 ∧ cntP l q ≤ cntP l p := by
  have e : (2 : Int) ^ p.2 = 2 ^ (p.2 - 1) + 2 ^ (p.2 - 1) := by
    obtain ⟨k, hk⟩ : ∃ k, p.2 = k + 1 := ⟨p.2 - 1, by omega⟩
    rw [hk, Nat.add_sub_cancel, Int.pow_succ]
    omega
  have h2 := pow_pos2 (p.2 - 1)
  have h3 := cntP_halves l hp
  unfold halvesP at h
  rw [List.mem_filter, decide_eq_true_iff] at h
  obtain ⟨h, hc⟩ := h
  refine ⟨hc, ?_⟩
  simp only [List.mem_cons, List.not_mem_nil, or_false] at h
  rcases h with rfl | rfl
  · refine ⟨Int.le_refl _, ?_, by omega⟩
    show p.1 + 2 ^ (p.2 - 1) ≤ p.1 + 2 ^ p.2
    omega
  · refine ⟨?_, ?_, by omega⟩
    · show p.1 ≤ p.1 + 2 ^ (p.2 - 1)
      omega
    · show p.1 + 2 ^ (p.2 - 1) + 2 ^ (p.2 - 1) ≤ p.1 + 2 ^ p.2
      omega
theorem halves_sum (f : Int × Nat → Nat) (hf : ∀ q, cntP l q = 0 → f q = 0) : ((halvesP l p).map f).sum = f (p.1, p.2 - 1) + f (p.1 + 2 ^ (p.2 - 1), p.2 - 1) := by
  unfold halvesP
  by_cases h1 : 0 < cntP l (p.1, p.2 - 1)
  · by_cases h2 : 0 < cntP l (p.1 + 2 ^ (p.2 - 1), p.2 - 1)
    · rw [List.filter_cons_of_pos (by simpa using h1), List.filter_cons_of_pos (by simpa using h2)]
      simp
    · rw [List.filter_cons_of_pos (by simpa using h1), List.filter_cons_of_neg (by simpa using h2)]
      have := hf _ (show cntP l (p.1 + 2 ^ (p.2 - 1), p.2 - 1) = 0 by omega)
      simp [this]
  · by_cases h2 : 0 < cntP l (p.1 + 2 ^ (p.2 - 1), p.2 - 1)
    · rw [List.filter_cons_of_neg (by simpa using h1), List.filter_cons_of_pos (by simpa using h2)]
      have := hf _ (show cntP l (p.1, p.2 - 1) = 0 by omega)
      simp [this]
    · rw [List.filter_cons_of_neg (by simpa using h1), List.filter_cons_of_neg (by simpa using h2)]
      have := hf _ (show cntP l (p.1, p.2 - 1) = 0 by omega)
      have := hf _ (show cntP l (p.1 + 2 ^ (p.2 - 1), p.2 - 1) = 0 by omega)
      simp [*]
/-- a part is halved. -/
theorem SInv.half (h : SInv K l (A ++ p :: B) T I) (h0 : 0 < p.2) : SInv K l (halvesP l p ++ (A ++ B)) T (I + 1) := by
  have hsub : (A ++ B).Sublist (A ++ p :: B) := (List.Sublist.refl A).append (List.sublist_cons_self p B)
  have hpm : p ∈ A ++ p :: B := List.mem_append_right _ (List.mem_cons_self ..)
  have hpos := h.pos p hpm
  have e : (2 : Int) ^ p.2 = 2 ^ (p.2 - 1) + 2 ^ (p.2 - 1) := by
    obtain ⟨k, hk⟩ : ∃ k, p.2 = k + 1 := ⟨p.2 - 1, by omega⟩
    rw [hk, Nat.add_sub_cancel, Int.pow_succ]
    omega
  have hpq : ∀ q ∈ A ++ B, Apt p q := fun q hq => by
    have hr := h.apart
    rw [List.pairwise_append, List.pairwise_cons] at hr
    rcases List.mem_append.1 hq with g | g
    · exact (hr.2.2 q g p (List.mem_cons_self ..)).symm
    · exact hr.2.1.1 q g
  refine ⟨fun q hq => ?_, ?_, fun x hx => ?_, h.rise, h.many, fun d hd q hq => ?_, ?_, ?_⟩
  · rcases List.mem_append.1 hq with g | g
    · exact (halves_in g h0).1
    · exact h.pos q (hsub.subset g)
  · rw [List.pairwise_append]
    refine ⟨?_, h.apart.sublist hsub, fun q hq r hr => ?_⟩
    · unfold halvesP
      refine List.Pairwise.filter _ ?_
      rw [List.pairwise_cons]
      refine ⟨fun q hq => ?_, List.pairwise_singleton _ _⟩
      obtain rfl := List.mem_singleton.1 hq
      exact .inl (Int.le_refl _)
    · have h1 := halves_in hq h0
      have h2 := hpq r hr
      unfold Apt at *
      omega
  · rcases h.cover x hx with ⟨q, hq, h1⟩ | h1
    · by_cases g : q = p
      · subst g
        have hh : ∀ r : Int × Nat, r ∈ [(q.1, q.2 - 1), (q.1 + 2 ^ (q.2 - 1), q.2 - 1)] → r.1 ≤ x ∧ x < r.1 + 2 ^ r.2 → ∃ r ∈ halvesP l q ++ (A ++ B), r.1 ≤ x ∧ x < r.1 + 2 ^ r.2 := fun r hr hx2 => ⟨r, List.mem_append_left _ (by
          unfold halvesP
          rw [List.mem_filter, decide_eq_true_iff]
          refine ⟨hr, ?_⟩
          unfold cntP
          rw [List.countP_pos_iff]
          exact ⟨x, hx, decide_eq_true hx2⟩), hx2⟩
        by_cases g2 : x < q.1 + 2 ^ (q.2 - 1)
        · exact .inl (hh (q.1, q.2 - 1) (by simp) ⟨h1.1, g2⟩)
        · exact .inl (hh (q.1 + 2 ^ (q.2 - 1), q.2 - 1) (by simp) ⟨by show q.1 + 2 ^ (q.2 - 1) ≤ x; omega, by show x < q.1 + 2 ^ (q.2 - 1) + 2 ^ (q.2 - 1); omega⟩)
      · refine .inl ⟨q, List.mem_append_right _ ?_, h1⟩
        rcases List.mem_append.1 hq with g3 | g3
        · exact List.mem_append_left _ g3
        · rcases List.mem_cons.1 g3 with g3 | g3
          · exact absurd g3 g
          · exact List.mem_append_right _ g3
    · exact .inr h1
  · rcases List.mem_append.1 hq with g | g
    · have h1 := halves_in g h0
      have h2 := h.ahead d hd p hpm
      omega
    · exact h.ahead d hd q (hsub.subset g)
  · have h1 := h.sum
    have h2 := halves_sum (l := l) (p := p) (cntP l) (fun q hq => hq)
    have h3 := cntP_halves l h0
    simp only [List.map_append, List.sum_append, List.map_cons, List.sum_cons] at h1 ⊢
    omega
  · have h1 := h.idle
    have h2 := halves_sum (l := l) (p := p) (fun q => cntP l q * q.2) (fun q hq => by show cntP l q * q.2 = 0; rw [hq, Nat.zero_mul])
    have h3 := cntP_halves l h0
    have h4 : cntP l p * p.2 = cntP l (p.1, p.2 - 1) * (p.2 - 1) + cntP l (p.1 + 2 ^ (p.2 - 1), p.2 - 1) * (p.2 - 1) + cntP l p := by
      rw [← Nat.add_mul, ← h3]
      obtain ⟨k, hk⟩ : ∃ k, p.2 = k + 1 := ⟨p.2 - 1, by omega⟩
      rw [hk, Nat.add_sub_cancel, Nat.mul_succ]
    simp only [List.map_append, List.sum_append, List.map_cons, List.sum_cons] at h1 ⊢
    have h2 : (List.map (fun q => cntP l q * q.2) (halvesP l p)).sum = cntP l (p.1, p.2 - 1) * (p.2 - 1) + cntP l (p.1 + 2 ^ (p.2 - 1), p.2 - 1) * (p.2 - 1) := h2
    omega
theorem SInv.done (h : SInv K l [] T I) : BestOf l T ∧ (T.map Prod.snd).sum = l.length := ⟨⟨h.rise, h.many, fun x hx => by
  rcases h.cover x hx with ⟨p, hp, _⟩ | h1
  · cases hp
  · exact h1⟩, by
  have := h.sum
  simpa using this⟩
theorem SInv.few {P : List (Int × Nat)} (h : SInv K l P T I) : I ≤ K * l.length ∧ T.length ≤ l.length := by
  have h1 := h.idle
  have h2 := h.sum
  have h3 := len_le_sum fun d hd => (h.many d hd).2
  omega
end
/-- as many as there are unlike ones. -/
theorem best_len {l : List Int} {R D : List (Int × Nat)} (h : BestOf l R) (hD : PairsOf l D) : R.length = D.length := by
  have h1 : R.Nodup := h.rise.imp fun {a b} g e => by rw [e] at g; exact g.no
  have h2 : D.Nodup := hD.rise.imp fun {a b} g e => by rw [e] at g; omega
  refine ((List.perm_ext_iff_of_nodup h1 h2).2 fun d => ?_).length_eq
  rw [h.mem, hD.mem]
end Go.Proofs.Ythbnojhcmfhnhaa
