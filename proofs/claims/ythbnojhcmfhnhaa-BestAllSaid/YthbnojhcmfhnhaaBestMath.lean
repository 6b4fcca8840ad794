/- Numbers with how often each is there, the best first: plain. -/
import Derived.Test.YthbnojhcmfhnhaaWavPairs
namespace Go.Proofs.Ythbnojhcmfhnhaa

/-- better. -/
def Bet (d e : Int × Nat) : Prop := e.2 < d.2 ∨ (e.2 = d.2 ∧ d.1 < e.1)
theorem Bet.trans {d e f : Int × Nat} (h : Bet d e) (h' : Bet e f) : Bet d f := by
  unfold Bet at *
  omega
theorem Bet.no {d : Int × Nat} (h : Bet d d) : False := by
  unfold Bet at h
  omega
theorem Bet.not {d e : Int × Nat} (h : Bet d e) (h' : Bet e d) : False := (h.trans h').no
theorem Bet.tri {d e : Int × Nat} (h : d.1 ≠ e.1) : Bet d e ∨ Bet e d := by
  unfold Bet
  omega
theorem bet_one : ∀ {D D' : List (Int × Nat)}, D.Pairwise Bet → D'.Pairwise Bet → (∀ d, d ∈ D ↔ d ∈ D') → D = D'
  | [], [], _, _, _ => rfl
  | [], e :: D', _, _, h => by have := (h e).2 (List.mem_cons_self ..); cases this
  | d :: D, [], _, _, h => by have := (h d).1 (List.mem_cons_self ..); cases this
  | d :: D, e :: D', h1, h2, h => by
    rw [List.pairwise_cons] at h1 h2
    have hde : d = e := by
      rcases List.mem_cons.1 ((h d).1 (List.mem_cons_self ..)) with g | g
      · exact g
      · have g1 := h2.1 d g
        rcases List.mem_cons.1 ((h e).2 (List.mem_cons_self ..)) with g' | g'
        · exact g'.symm
        · exact (g1.not (h1.1 e g')).elim
    subst hde
    rw [bet_one h1.2 h2.2 fun x => ⟨fun hx => by
      rcases List.mem_cons.1 ((h x).1 (List.mem_cons_of_mem _ hx)) with g | g
      · rw [g] at hx
        exact (h1.1 d hx).no.elim
      · exact g, fun hx => by
      rcases List.mem_cons.1 ((h x).2 (List.mem_cons_of_mem _ hx)) with g | g
      · rw [g] at hx
        exact (h2.1 d hx).no.elim
      · exact g⟩]
/-- what numbers of a list there are, the best first, each with how often. -/
structure BestOf (l : List Int) (R : List (Int × Nat)) : Prop where
  rise : R.Pairwise Bet
  many : ∀ d ∈ R, d.2 = l.countP (fun x => decide (x = d.1)) ∧ 0 < d.2
  all : ∀ x ∈ l, ∃ d ∈ R, d.1 = x
theorem BestOf.mem {l : List Int} {D : List (Int × Nat)} (h : BestOf l D) (d : Int × Nat) : d ∈ D ↔ d.1 ∈ l ∧ d.2 = l.countP (fun x => decide (x = d.1)) := by
  constructor
  · intro hd
    obtain ⟨h1, h2⟩ := h.many d hd
    rw [h1, List.countP_pos_iff] at h2
    obtain ⟨x, hx, he⟩ := h2
    rw [decide_eq_true_iff] at he
    exact ⟨he ▸ hx, h1⟩
  · rintro ⟨h1, h2⟩
    obtain ⟨e, he, hx⟩ := h.all _ h1
    have h3 := (h.many e he).1
    rw [hx, ← h2] at h3
    have : d = e := Prod.ext hx.symm h3.symm
    rw [this]
    exact he
theorem BestOf.one {l : List Int} {D D' : List (Int × Nat)} (h : BestOf l D) (h' : BestOf l D') : D = D' := bet_one h.rise h'.rise fun d => by rw [h.mem, h'.mem]
theorem BestOf.perm {l l' : List Int} {D : List (Int × Nat)} (h : BestOf l D) (hp : l.Perm l') : BestOf l' D := ⟨h.rise, fun d hd => by rw [← hp.countP_eq]; exact h.many d hd, fun x hx => h.all x (hp.mem_iff.2 hx)⟩
/-- pairs put in order. -/
structure RkOf (E R : List (Int × Nat)) : Prop where
  rise : R.Pairwise Bet
  mem : ∀ d, d ∈ R ↔ d ∈ E
  len : R.length = E.length
theorem RkOf.none : RkOf [] [] := ⟨List.Pairwise.nil, fun _ => Iff.rfl, rfl⟩
theorem RkOf.best {l : List Int} {E R : List (Int × Nat)} (h : RkOf E R) (hE : PairsOf l E) : BestOf l R := ⟨h.rise, fun d hd => hE.many d ((h.mem d).1 hd), fun x hx => by
  obtain ⟨d, hd, e⟩ := hE.all x hx
  exact ⟨d, (h.mem d).2 hd, e⟩⟩
/-- one more, of a greater number than all that are there: behind those that are as often, ahead of the others. -/
theorem RkOf.ins {E R : List (Int × Nat)} {x : Int × Nat} {p : Nat} (h : RkOf E R) (hp : p ≤ R.length) (hx : ∀ d ∈ E, d.1 < x.1) (hlow : ∀ j d, j < p → R[j]? = some d → x.2 ≤ d.2) (hup : ∀ d, R[p]? = some d → d.2 < x.2) : RkOf (E ++ [x]) (R.take p ++ x :: R.drop p) := by
  have hr := h.rise
  have hsplit : R.take p ++ R.drop p = R := List.take_append_drop p R
  have h1 : ∀ d ∈ R.take p, Bet d x := fun d hd => by
    obtain ⟨j, hj⟩ := List.getElem?_of_mem hd
    have hjp : j < p := by
      have := (List.getElem?_eq_some_iff.1 hj).1
      rw [List.length_take] at this
      omega
    rw [List.getElem?_take_of_lt hjp] at hj
    have g1 := hlow j d hjp hj
    have g2 := hx d ((h.mem d).1 (List.mem_of_getElem? hj))
    unfold Bet
    omega
  have h2 : ∀ d ∈ R.drop p, Bet x d := fun d hd => by
    obtain ⟨j, hj⟩ := List.getElem?_of_mem hd
    rw [List.getElem?_drop] at hj
    have hpl : p < R.length := by
      have := (List.getElem?_eq_some_iff.1 hj).1
      omega
    have g0 := hup R[p] (List.getElem?_eq_getElem hpl)
    rcases Nat.eq_zero_or_pos j with e | e
    · subst e
      rw [Nat.add_zero, List.getElem?_eq_getElem hpl] at hj
      injection hj with hj
      rw [hj] at g0
      exact .inl g0
    · rw [List.pairwise_iff_getElem] at hr
      have hj2 := (List.getElem?_eq_some_iff.1 hj).1
      have g1 := hr p (p + j) hpl hj2 (by omega)
      rw [List.getElem?_eq_getElem hj2] at hj
      injection hj with hj
      rw [hj] at g1
      unfold Bet at *
      omega
  refine ⟨?_, fun d => ?_, ?_⟩
  · rw [List.pairwise_append]
    rw [← hsplit, List.pairwise_append] at hr
    refine ⟨hr.1, List.pairwise_cons.2 ⟨h2, hr.2.1⟩, fun d hd e he => ?_⟩
    rcases List.mem_cons.1 he with g | g
    · rw [g]
      exact h1 d hd
    · exact hr.2.2 d hd e g
  · rw [List.mem_append, List.mem_append, List.mem_cons, List.mem_singleton, ← h.mem]
    have : d ∈ R ↔ d ∈ R.take p ∨ d ∈ R.drop p := by rw [← List.mem_append, hsplit]
    rw [this]
    constructor
    · rintro (g | g | g)
      · exact .inl (.inl g)
      · exact .inr g
      · exact .inl (.inr g)
    · rintro ((g | g) | g)
      · exact .inl g
      · exact .inr (.inr g)
      · exact .inr (.inl g)
  · rw [List.length_append, List.length_cons, List.length_append, ← h.len, List.length_take, List.length_drop]
    show min p R.length + (R.length - p + 1) = R.length + 1
    omega
/-- shifted up by one, as far as a place. -/
theorem set_mid {α : Type} (A B : List α) (y z : α) : (A ++ y :: B).set A.length z = A ++ z :: B := by
  rw [List.set_append_right _ _ (Nat.le_refl _), Nat.sub_self]
  rfl
theorem shift_down {R : List (Int × Nat)} {q : Nat} {d y : Int × Nat} (h : R[q]? = some d) : (R.take (q + 1) ++ y :: R.drop (q + 1)).set (q + 1) d = R.take q ++ d :: R.drop q := by
  obtain ⟨hq, e⟩ := List.getElem?_eq_some_iff.1 h
  have h1 : (R.take (q + 1)).length = q + 1 := by rw [List.length_take]; omega
  have h2 := set_mid (R.take (q + 1)) (R.drop (q + 1)) y d
  rw [h1] at h2
  rw [h2, List.take_add_one, h, List.append_assoc]
  have h3 : R.drop q = d :: R.drop (q + 1) := by rw [← e]; exact List.drop_eq_getElem_cons hq
  rw [h3]
  rfl
theorem shift_put {R : List (Int × Nat)} {q : Nat} (x y : Int × Nat) (h : q ≤ R.length) : (R.take q ++ y :: R.drop q).set q x = R.take q ++ x :: R.drop q := by
  have h1 : (R.take q).length = q := by rw [List.length_take]; omega
  have h2 := set_mid (R.take q) (R.drop q) y x
  rw [h1] at h2
  exact h2
theorem shift_len {R : List (Int × Nat)} {q : Nat} (y : Int × Nat) (h : q ≤ R.length) : (R.take q ++ y :: R.drop q).length = R.length + 1 := by
  rw [List.length_append, List.length_cons, List.length_take, List.length_drop]
  omega
theorem shift_low {R : List (Int × Nat)} {q : Nat} (y : Int × Nat) {d : Int × Nat} (h : R[q]? = some d) : (R.take (q + 1) ++ y :: R.drop (q + 1))[q]? = some d := by
  have hq := (List.getElem?_eq_some_iff.1 h).1
  rw [List.getElem?_append_left (by rw [List.length_take]; omega), List.getElem?_take_of_lt (by omega)]
  exact h
theorem shift_at {R : List (Int × Nat)} {q : Nat} (y : Int × Nat) (h : q ≤ R.length) : (R.take q ++ y :: R.drop q)[q]? = some y := by
  rw [List.getElem?_append_right (by rw [List.length_take]; omega), List.length_take, show q - min q R.length = 0 by omega]
  rfl
/-- two cells of a row of pairs. -/
theorem prcells_set2 : ∀ (D : List (Int × Nat)) (j : Nat) (x : Int × Nat), ((prcells D).set (j * 2) (.int .i64 x.1)).set (j * 2 + 1) (.int .i64 ((x.2 : Nat) : Int)) = prcells (D.set j x)
  | [], _, _ => rfl
  | d :: D, 0, x => rfl
  | d :: D, j + 1, x => by
    have ih := prcells_set2 D j x
    show (((.int .i64 d.1) :: (.int .i64 ((d.2 : Nat) : Int)) :: prcells D : List Value).set ((j + 1) * 2) _).set ((j + 1) * 2 + 1) _ = ((.int .i64 d.1) :: (.int .i64 ((d.2 : Nat) : Int)) :: prcells (D.set j x) : List Value)
    rw [show (j + 1) * 2 + 1 = (j * 2 + 1) + 1 + 1 by omega, show (j + 1) * 2 = j * 2 + 1 + 1 by omega]
    show ((.int .i64 d.1) :: (.int .i64 ((d.2 : Nat) : Int)) :: (((prcells D).set (j * 2) _).set (j * 2 + 1) _) : List Value) = _
    rw [ih]
end Go.Proofs.Ythbnojhcmfhnhaa
