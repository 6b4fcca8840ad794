/- Numbers, rising, each once, with how often it is there: plain; as they lie; the document's Pairs, Same. -/
import Derived.Test.YthbnojhcmfhnhaaOwn2
import Derived.Test.YthbnojhcmfhnhaaWavRef
namespace Go.Proofs.Ythbnojhcmfhnhaa

/-- one number more, no less than those that are there. -/
def pushP (D : List (Int × Nat)) (x : Int) : List (Int × Nat) := match D.getLast? with
  | none => [(x, 1)]
  | some (s, c) => if s = x then D.dropLast ++ [(s, c + 1)] else D ++ [(x, 1)]
theorem pushP_nil (x : Int) : pushP [] x = [(x, 1)] := rfl
theorem pushP_same (E : List (Int × Nat)) (x : Int) (c : Nat) : pushP (E ++ [(x, c)]) x = E ++ [(x, c + 1)] := by
  unfold pushP
  rw [List.getLast?_concat, List.dropLast_concat]
  exact if_pos rfl
theorem pushP_new {E : List (Int × Nat)} {s x : Int} {c : Nat} (h : s ≠ x) : pushP (E ++ [(s, c)]) x = E ++ [(s, c)] ++ [(x, 1)] := by
  unfold pushP
  rw [List.getLast?_concat]
  exact if_neg h
/-- what numbers of a list there are, rising, each with how often. -/
structure PairsOf (l : List Int) (D : List (Int × Nat)) : Prop where
  rise : D.Pairwise (fun d e => d.1 < e.1)
  many : ∀ d ∈ D, d.2 = l.countP (fun x => decide (x = d.1)) ∧ 0 < d.2
  all : ∀ x ∈ l, ∃ d ∈ D, d.1 = x
theorem PairsOf.mem {l : List Int} {D : List (Int × Nat)} (h : PairsOf l D) (d : Int × Nat) : d ∈ D ↔ d.1 ∈ l ∧ d.2 = l.countP (fun x => decide (x = d.1)) := by
  constructor
  · intro hd
    obtain ⟨h1, h2⟩ := h.many d hd
    rw [h1, List.countP_pos_iff] at h2
    obtain ⟨x, hx, he⟩ := h2
    rw [decide_eq_true_iff] at he
    exact ⟨he ▸ hx, h1⟩
  · rintro ⟨h1, h2⟩
    obtain ⟨e, he, hx⟩ := h.all _ h1
    have h3 := (h.many e he).1
    rw [hx, ← h2] at h3
    have : d = e := Prod.ext hx.symm h3.symm
    rw [this]
    exact he
theorem rising_one : ∀ {D D' : List (Int × Nat)}, D.Pairwise (fun d e => d.1 < e.1) → D'.Pairwise (fun d e => d.1 < e.1) → (∀ d, d ∈ D ↔ d ∈ D') → D = D'
  | [], [], _, _, _ => rfl
  | [], e :: D', _, _, h => by have := (h e).2 (List.mem_cons_self ..); cases this
  | d :: D, [], _, _, h => by have := (h d).1 (List.mem_cons_self ..); cases this
  | d :: D, e :: D', h1, h2, h => by
    rw [List.pairwise_cons] at h1 h2
    have hde : d = e := by
      rcases List.mem_cons.1 ((h d).1 (List.mem_cons_self ..)) with g | g
      · exact g
      · have g1 := h2.1 d g
        rcases List.mem_cons.1 ((h e).2 (List.mem_cons_self ..)) with g' | g'
        · exact g'.symm
        · have g2 := h1.1 e g'
          omega
    subst hde
    rw [rising_one h1.2 h2.2 fun x => ⟨fun hx => by
      rcases List.mem_cons.1 ((h x).1 (List.mem_cons_of_mem _ hx)) with g | g
      · have := h1.1 x hx
        rw [g] at this
        omega
      · exact g, fun hx => by
      rcases List.mem_cons.1 ((h x).2 (List.mem_cons_of_mem _ hx)) with g | g
      · have := h2.1 x hx
        rw [g] at this
        omega
      · exact g⟩]
theorem PairsOf.one {l : List Int} {D D' : List (Int × Nat)} (h : PairsOf l D) (h' : PairsOf l D') : D = D' := rising_one h.rise h'.rise fun d => by rw [h.mem, h'.mem]
theorem PairsOf.perm {l l' : List Int} {D : List (Int × Nat)} (h : PairsOf l D) (hp : l.Perm l') : PairsOf l' D := ⟨h.rise, fun d hd => by rw [← hp.countP_eq]; exact h.many d hd, fun x hx => h.all x (hp.mem_iff.2 hx)⟩
theorem PairsOf.none : PairsOf [] [] := ⟨List.Pairwise.nil, fun _ h => (by cases h), fun _ h => (by cases h)⟩
theorem count_snoc (l : List Int) (x y : Int) : (l ++ [x]).countP (fun z => decide (z = y)) = l.countP (fun z => decide (z = y)) + if x = y then 1 else 0 := by
  rw [List.countP_append, List.countP_cons, List.countP_nil, Nat.zero_add]
  by_cases h : x = y
  · rw [if_pos h, if_pos (decide_eq_true h)]
  · rw [if_neg h, if_neg (by rw [decide_eq_true_iff]; exact h)]
theorem PairsOf.push {l : List Int} {D : List (Int × Nat)} (h : PairsOf l D) {x : Int} (hx : ∀ y ∈ l, y ≤ x) : PairsOf (l ++ [x]) (pushP D x) := by
  rcases List.eq_nil_or_concat D with e | ⟨E, ⟨s, c⟩, e⟩
  · subst e
    have hl : l = [] := by
      rcases l with _ | ⟨y, l⟩
      · rfl
      · obtain ⟨d, hd, _⟩ := h.all y (List.mem_cons_self ..)
        cases hd
    subst hl
    refine ⟨List.pairwise_singleton _ _, fun d hd => ?_, fun y hy => ?_⟩
    · obtain rfl := List.mem_singleton.1 hd
      simp
    · obtain rfl := List.mem_singleton.1 hy
      exact ⟨(y, 1), List.mem_singleton.2 rfl, rfl⟩
  · rw [List.concat_eq_append] at e
    subst e
    have hr := h.rise
    rw [List.pairwise_append] at hr
    have hlow : ∀ d ∈ E, d.1 < s := fun d hd => hr.2.2 d hd (s, c) (List.mem_singleton.2 rfl)
    have hs := h.many (s, c) (List.mem_append_right _ (List.mem_singleton.2 rfl))
    have hsl : s ∈ l := ((h.mem (s, c)).1 (List.mem_append_right _ (List.mem_singleton.2 rfl))).1
    have hsx := hx s hsl
    by_cases e : s = x
    · subst e
      rw [pushP_same]
      refine ⟨?_, fun d hd => ?_, fun y hy => ?_⟩
      · rw [List.pairwise_append]
        exact ⟨hr.1, List.pairwise_singleton _ _, fun d hd f hf => by
          obtain rfl := List.mem_singleton.1 hf
          exact hlow d hd⟩
      · rw [count_snoc]
        rcases List.mem_append.1 hd with g | g
        · have := hlow d g
          have h2 := h.many d (List.mem_append_left _ g)
          rw [if_neg (by omega), Nat.add_zero]
          exact h2
        · obtain rfl := List.mem_singleton.1 g
          rw [if_pos rfl]
          exact ⟨by show c + 1 = _; rw [← hs.1], by show 0 < c + 1; omega⟩
      · rcases List.mem_append.1 hy with g | g
        · obtain ⟨d, hd, hdy⟩ := h.all y g
          rcases List.mem_append.1 hd with g2 | g2
          · exact ⟨d, List.mem_append_left _ g2, hdy⟩
          · obtain rfl := List.mem_singleton.1 g2
            exact ⟨(s, c + 1), List.mem_append_right _ (List.mem_singleton.2 rfl), hdy⟩
        · obtain rfl := List.mem_singleton.1 g
          exact ⟨(y, c + 1), List.mem_append_right _ (List.mem_singleton.2 rfl), rfl⟩
    · rw [pushP_new e]
      have hall : ∀ d ∈ E ++ [(s, c)], d.1 < x := fun d hd => by
        rcases List.mem_append.1 hd with g | g
        · have := hlow d g
          omega
        · obtain rfl := List.mem_singleton.1 g
          show s < x
          omega
      refine ⟨?_, fun d hd => ?_, fun y hy => ?_⟩
      · rw [List.pairwise_append]
        exact ⟨h.rise, List.pairwise_singleton _ _, fun d hd f hf => by
          obtain rfl := List.mem_singleton.1 hf
          exact hall d hd⟩
      · rw [count_snoc]
        rcases List.mem_append.1 hd with g | g
        · have := hall d g
          rw [if_neg (by omega), Nat.add_zero]
          exact h.many d g
        · obtain rfl := List.mem_singleton.1 g
          have h0 : l.countP (fun z => decide (z = x)) = 0 := by
            rw [List.countP_eq_zero]
            intro y hy
            obtain ⟨d, hd, hdy⟩ := h.all y hy
            have := hall d hd
            rw [decide_eq_true_iff]
            omega
          show 1 = l.countP (fun z => decide (z = x)) + (if x = x then 1 else 0) ∧ 0 < 1
          rw [h0, if_pos rfl]
          omega
      · rcases List.mem_append.1 hy with g | g
        · obtain ⟨d, hd, hdy⟩ := h.all y g
          exact ⟨d, List.mem_append_left _ hd, hdy⟩
        · obtain rfl := List.mem_singleton.1 g
          exact ⟨(y, 1), List.mem_append_right _ (List.mem_singleton.2 rfl), rfl⟩
/-- the counts of the first i together. -/
def sumP (D : List (Int × Nat)) (i : Nat) : Nat := ((D.take i).map Prod.snd).sum
theorem sumP_zero (D : List (Int × Nat)) : sumP D 0 = 0 := rfl
theorem sumP_succ {D : List (Int × Nat)} {i : Nat} {d : Int × Nat} (h : D[i]? = some d) : sumP D (i + 1) = sumP D i + d.2 := by
  unfold sumP
  rw [List.take_add_one, h, List.map_append, List.sum_append]
  show _ + (d.2 + 0) = _
  rw [Nat.add_zero]
theorem countP_split (l : List Int) (a b : Int) (h : a ≤ b) : l.countP (fun x => decide (x < b)) = l.countP (fun x => decide (x < a)) + l.countP (fun x => decide (a ≤ x ∧ x < b)) := by
  induction l with
  | nil => rfl
  | cons y l ih =>
    rw [List.countP_cons, List.countP_cons, List.countP_cons, ih]
    by_cases h1 : y < a
    · rw [if_pos (decide_eq_true (show y < b by omega)), if_pos (decide_eq_true h1), if_neg (by rw [decide_eq_true_iff]; omega)]
      omega
    · rw [if_neg (show ¬ decide (y < a) = true by rw [decide_eq_true_iff]; exact h1)]
      by_cases h2 : y < b
      · rw [if_pos (decide_eq_true h2), if_pos (decide_eq_true ⟨by omega, h2⟩)]
        omega
      · rw [if_neg (by rw [decide_eq_true_iff]; exact h2), if_neg (by rw [decide_eq_true_iff]; omega)]
        omega
/-- the counts ahead of a number are of the lesser ones. -/
theorem PairsOf.sums {l : List Int} {D : List (Int × Nat)} (h : PairsOf l D) : ∀ i d, D[i]? = some d → sumP D i = l.countP (fun x => decide (x < d.1))
  | 0, d, hd => by
    rw [sumP_zero]
    symm
    rw [List.countP_eq_zero]
    intro x hx
    obtain ⟨e, he, hex⟩ := h.all x hx
    obtain ⟨j, hj⟩ := List.getElem?_of_mem he
    rw [decide_eq_true_iff, ← hex]
    intro hlt
    rcases Nat.eq_zero_or_pos j with h0 | h0
    · subst h0
      rw [hd] at hj
      cases hj
      omega
    · have hr := h.rise
      rw [List.pairwise_iff_getElem] at hr
      obtain ⟨g1, g2⟩ := List.getElem?_eq_some_iff.1 hd
      obtain ⟨g3, g4⟩ := List.getElem?_eq_some_iff.1 hj
      have := hr 0 j g1 g3 h0
      rw [g2, g4] at this
      omega
  | i + 1, d, hd => by
    obtain ⟨c, hc⟩ : ∃ c, D[i]? = some c := ⟨_, List.getElem?_eq_getElem (by have := (List.getElem?_eq_some_iff.1 hd).1; omega)⟩
    rw [sumP_succ hc, h.sums i c hc]
    have hr := h.rise
    rw [List.pairwise_iff_getElem] at hr
    obtain ⟨g1, g2⟩ := List.getElem?_eq_some_iff.1 hc
    obtain ⟨g3, g4⟩ := List.getElem?_eq_some_iff.1 hd
    have hcd := hr i (i + 1) g1 g3 (Nat.lt_succ_self i)
    rw [g2, g4] at hcd
    rw [countP_split l c.1 d.1 (by omega), (h.many c (List.mem_of_getElem? hc)).1]
    congr 1
    refine List.countP_congr fun x hx => ?_
    rw [decide_eq_true_iff, decide_eq_true_iff]
    constructor
    · rintro rfl
      exact ⟨Int.le_refl _, hcd⟩
    · rintro ⟨q1, q2⟩
      obtain ⟨e, he, hex⟩ := h.all x hx
      obtain ⟨j, hj⟩ := List.getElem?_of_mem he
      obtain ⟨g5, g6⟩ := List.getElem?_eq_some_iff.1 hj
      rw [← hex] at q1 q2 ⊢
      rcases Nat.lt_trichotomy j i with q | q | q
      · have := hr j i g5 g1 q
        rw [g2, g6] at this
        omega
      · subst q
        rw [hc] at hj
        cases hj
        rfl
      · rcases Nat.lt_or_eq_of_le (show i + 1 ≤ j from q) with q' | q'
        · have := hr (i + 1) j g3 g5 q'
          rw [g4, g6] at this
          omega
        · subst q'
          rw [hd] at hj
          cases hj
          omega
/-- all counts together. -/
theorem PairsOf.sum_all {l : List Int} {D : List (Int × Nat)} (h : PairsOf l D) : sumP D D.length = l.length := by
  rcases List.eq_nil_or_concat D with e | ⟨E, d, e⟩
  · subst e
    rcases l with _ | ⟨y, l⟩
    · rfl
    · obtain ⟨d, hd, _⟩ := h.all y (List.mem_cons_self ..)
      cases hd
  · rw [List.concat_eq_append] at e
    subst e
    have hd : (E ++ [d])[E.length]? = some d := by rw [List.getElem?_append_right (Nat.le_refl _), Nat.sub_self]; rfl
    rw [List.length_append]
    show sumP (E ++ [d]) (E.length + 1) = _
    rw [sumP_succ hd, h.sums _ d hd, (h.many d (List.mem_of_getElem? hd)).1]
    have hr := h.rise
    rw [List.pairwise_append] at hr
    have hall : l.countP (fun x => decide (x < d.1 + 1)) = l.length := by
      rw [List.countP_eq_length]
      intro x hx
      obtain ⟨e, he, hex⟩ := h.all x hx
      rw [decide_eq_true_iff, ← hex]
      rcases List.mem_append.1 he with g | g
      · have := hr.2.2 e g d (List.mem_singleton.2 rfl)
        omega
      · obtain rfl := List.mem_singleton.1 g
        omega
    rw [← hall, countP_split l d.1 (d.1 + 1) (by omega)]
    congr 1
    exact List.countP_congr fun x _ => by
      rw [decide_eq_true_iff, decide_eq_true_iff]
      omega
/-- the pairs of the first i of a row in order. -/
def pairsT (V : Nat → Int) : Nat → List (Int × Nat)
  | 0 => []
  | i + 1 => pushP (pairsT V i) (V i)
theorem mem_takeL {V : Nat → Int} {m : Nat} {x : Int} (h : x ∈ takeL V m) : ∃ k, k < m ∧ V k = x := by
  obtain ⟨k, hk⟩ := List.getElem?_of_mem h
  have hkm : k < m := by
    have := (List.getElem?_eq_some_iff.1 hk).1
    rwa [takeL_length] at this
  rw [takeL_at V m k hkm] at hk
  exact ⟨k, hkm, by injection hk⟩
theorem pairsT_of {V : Nat → Int} {n : Nat} (hs : ∀ i j, i < j → j < n → V i ≤ V j) : ∀ i, i ≤ n → PairsOf (takeL V i) (pairsT V i)
  | 0, _ => PairsOf.none
  | i + 1, h => (pairsT_of hs i (by omega)).push fun y hy => by
    obtain ⟨k, hk, rfl⟩ := mem_takeL hy
    exact hs k i hk (by omega)
theorem pairsT_le (V : Nat → Int) : ∀ i, (pairsT V i).length ≤ i
  | 0 => Nat.le_refl _
  | i + 1 => by
    have ih := pairsT_le V i
    show (pushP (pairsT V i) (V i)).length ≤ i + 1
    rcases List.eq_nil_or_concat (pairsT V i) with e | ⟨E, ⟨s, c⟩, e⟩
    · rw [e, pushP_nil]
      show 1 ≤ i + 1
      omega
    · rw [List.concat_eq_append] at e
      rw [e, List.length_append] at ih
      rw [e]
      have ih : E.length + 1 ≤ i := ih
      by_cases h : s = V i
      · subst h
        rw [pushP_same, List.length_append]
        show E.length + 1 ≤ i + 1
        omega
      · rw [pushP_new h, List.length_append, List.length_append]
        show E.length + 1 + 1 ≤ i + 1
        omega
theorem pairsT_small (V : Nat → Int) : ∀ i, ∀ d ∈ pairsT V i, d.2 ≤ i
  | 0, d, h => by cases h
  | i + 1, d, h => by
    have ih := pairsT_small V i
    have h : d ∈ pushP (pairsT V i) (V i) := h
    rcases List.eq_nil_or_concat (pairsT V i) with e | ⟨E, ⟨s, c⟩, e⟩
    · rw [e, pushP_nil] at h
      obtain rfl := List.mem_singleton.1 h
      show 1 ≤ i + 1
      omega
    · rw [List.concat_eq_append] at e
      rw [e] at h ih
      by_cases hs : s = V i
      · subst hs
        rw [pushP_same] at h
        rcases List.mem_append.1 h with g | g
        · have := ih d (List.mem_append_left _ g)
          omega
        · obtain rfl := List.mem_singleton.1 g
          have := ih _ (List.mem_append_right _ (List.mem_singleton.2 rfl))
          have this : c ≤ i := this
          show c + 1 ≤ i + 1
          omega
      · rw [pushP_new hs] at h
        rcases List.mem_append.1 h with g | g
        · have := ih d g
          omega
        · obtain rfl := List.mem_singleton.1 g
          show 1 ≤ i + 1
          omega
/-- a row in order gives its list's pairs. -/
theorem pairs_sorted (l : List Int) : PairsOf l (pairsT (litI (sortL l)) l.length) := by
  have hs := sortL_sorted l
  have hlen := sortL_length l
  have h := pairsT_of (V := litI (sortL l)) (n := l.length) (fun i j hij hj => by
    have h1 := litI_some (l := sortL l) (k := i) (by omega)
    have h2 := litI_some (l := sortL l) (k := j) (by omega)
    rw [List.pairwise_iff_getElem] at hs
    have := hs i j (by omega) (by omega) hij
    rw [List.getElem?_eq_getElem (by omega)] at h1 h2
    injection h1 with h1
    injection h2 with h2
    rw [← h1, ← h2]
    exact this) l.length (Nat.le_refl _)
  rw [← hlen] at h
  rw [takeL_is (fun k hk => litI_some hk)] at h
  rw [← hlen]
  exact h.perm (sortL_perm l)
end Go.Proofs.Ythbnojhcmfhnhaa

namespace Go.Proofs.Ythbnojhcmfhnhaa
open Go.RowKit

theorem info_pair : (Try.prog.info? 39).map (fun i => (i.zero, i.size, i.bytes)) = some (some (.agg #[.int .i64 0, .int .i64 0]), 2, 16) := by kernel_rfl
/-- pairs as cells. -/
def prcells (D : List (Int × Nat)) : List Value := D.flatMap fun d => [.int .i64 d.1, .int .i64 ((d.2 : Nat) : Int)]
theorem prcells_append (D E : List (Int × Nat)) : prcells (D ++ E) = prcells D ++ prcells E := by unfold prcells; rw [List.flatMap_append]
theorem prcells_one (d : Int × Nat) : prcells [d] = [.int .i64 d.1, .int .i64 ((d.2 : Nat) : Int)] := rfl
theorem prcells_length : ∀ D : List (Int × Nat), (prcells D).length = D.length * 2
  | [] => rfl
  | d :: D => by
    show (([.int .i64 d.1, .int .i64 ((d.2 : Nat) : Int)] : List Value) ++ prcells D).length = (D.length + 1) * 2
    rw [List.length_append, prcells_length D]
    show 2 + D.length * 2 = _
    omega
theorem prcells_at : ∀ {D : List (Int × Nat)} {i : Nat} {d : Int × Nat}, D[i]? = some d → (prcells D)[i * 2]? = some (.int .i64 d.1) ∧ (prcells D)[i * 2 + 1]? = some (.int .i64 ((d.2 : Nat) : Int))
  | [], i, d, h => by cases h
  | e :: D, 0, d, h => by
    obtain rfl : e = d := Option.some.inj h
    exact ⟨rfl, rfl⟩
  | e :: D, i + 1, d, h => by
    have := prcells_at (D := D) (i := i) (d := d) h
    show (([.int .i64 e.1, .int .i64 ((e.2 : Nat) : Int)] : List Value) ++ prcells D)[(i + 1) * 2]? = _ ∧ (([.int .i64 e.1, .int .i64 ((e.2 : Nat) : Int)] : List Value) ++ prcells D)[(i + 1) * 2 + 1]? = _
    rw [List.getElem?_append_right (by show 2 ≤ _; omega), List.getElem?_append_right (by show 2 ≤ _; omega)]
    show (prcells D)[(i + 1) * 2 - 2]? = _ ∧ (prcells D)[(i + 1) * 2 + 1 - 2]? = _
    rw [show (i + 1) * 2 - 2 = i * 2 by omega, show (i + 1) * 2 + 1 - 2 = i * 2 + 1 by omega]
    exact this
/-- append of one pair to a row of the call's own, as a step of the walk. -/
theorem step_append_pair {ops : Array Oper} {rest : List Oper} {o : Oper} {a : Act} {Q : Exit → Act → World → Prop} (hgd : o.guard = none) (s x : Operand)
    (ho : o.op = .call { callee := .builtin .append, args := #[s, x], argTypes := #[30, 30] })
    {w : World} {B : Nat} {v : Value} {D : List (Int × Nat)} (hs : a.eval s = v) (hown : w.ownsRow B 39 2 v D.length (prcells D)) (y : Int) (hx : a.eval x = .slice (some ⟨w.heap.size, 0, none⟩) 1 1) (hB : B ≤ w.heap.size) (hi : D.length ≤ 4194304)
    (h : ∀ v' w', Hid (w'.ownsRow B 39 2 v' (D ++ [(y, 1)]).length (prcells (D ++ [(y, 1)]))) → Below B w w' → wpList Try.prog ops Q rest (a.put o.dst v') w') :
    wpList Try.prog ops Q (o :: rest) a (w.alloc (.cells #[.int .i64 y, .int .i64 1] 39)) := by
  obtain ⟨i0, hi0, hz0, hs0, hb0⟩ := info_parts info_pair
  have hl := lies_new w 39 [.int .i64 y, .int .i64 1]
  refine wpList_append_own _ hgd s x 30 ho B 39 i0 (.agg #[.int .i64 0, .int .i64 0]) 2 16 Try.underlying30 hi0 hz0 hs0 hb0 rfl (by decide) v D.length (prcells D) hs (hown.alloc _) ⟨w.heap.size, 0, none⟩ 1 1 [.int .i64 y, .int .i64 1] hx rfl (fun j u hj => by
      rcases j with _ | _ | j
      · have hj : some _ = some u := hj
        cases hj
        exact hl.cell 0
      · have hj : some _ = some u := hj
        cases hj
        exact hl.cell 1
      · simp at hj) (fun u hu => by simp at hu; rcases hu with rfl | rfl <;> rfl) (by unfold maxLen; omega) (by omega) (by rw [size_alloc]; omega) (fun v' w' h2 h3 _ => ?_)
  refine h v' w' (Lib.hid (by rw [prcells_append, List.length_append]; exact h2)) (((Below.refl _ _).alloc hB _).grown h3 (by rw [size_alloc]; omega) (fun k hk => (hown.lt k hk).1))

theorem prcells_set (E : List (Int × Nat)) (s : Int) (c : Nat) (u : Nat) : (prcells (E ++ [(s, c)])).set (E.length * 2 + 1) (.int .i64 ((u : Nat) : Int)) = prcells (E ++ [(s, u)]) := by
  rw [prcells_append, prcells_append, prcells_one, prcells_one, List.set_append_right _ _ (by rw [prcells_length]; omega), prcells_length, show E.length * 2 + 1 - E.length * 2 = 1 by omega]
  rfl
set_option maxRecDepth 100000 in
set_option maxHeartbeats 3200000 in
theorem refPairs_any (A : Option Addr) (n c : Nat) (V : Nat → Int) (w : World) (hn : n ≤ 4000000) (ho : Its w w.heap.size A n V) :
    Calls Try.prog 23 #[.slice A n c] w fun e w' => ∃ (u : Value) (D : List (Int × Nat)), e = .returned u ∧ PairsOf (takeL V n) D ∧ D.length ≤ n ∧ w'.ownsRow w.heap.size 39 2 u D.length (prcells D) ∧ Below w.heap.size w w' := by
  have HSd := Lib.hid (refSortedW_any A n c V w hn ho)
  obtain ⟨B, hB⟩ : ∃ B, w.heap.size = B := ⟨_, rfl⟩
  rw [hB] at HSd ⊢
  have HP := Lib.hid (pairs_sorted (takeL V n))
  rw [takeL_length] at HP
  obtain ⟨R, hR⟩ : ∃ R, litI (sortL (takeL V n)) = R := ⟨_, rfl⟩
  rw [hR] at HSd HP
  have HBs := Lib.hid hB
  clear ho hR hB
  go_enter Try.func23, Try.ntmps23
  go_wp2_with fail
  refine HSd.out.mono ?_
  rintro e w1 ⟨u, rfl, hown, hb1⟩
  obtain ⟨X, cx, hX⟩ := owns_slice hown
  subst hX
  have HR := Lib.hid hown
  have hB1 : B ≤ w1.heap.size := by have := hb1.size; have := HBs.out; omega
  clear hown HSd
  go_wp2_with fail
  obtain ⟨B1, hB1e⟩ : ∃ B1, w1.heap.size = B1 := ⟨_, rfl⟩
  have HB1 := Lib.hid hB1e
  rw [hB1e] at hB1
  clear hB1e
  go_loopw [3, 9] (fun u v wr => ∃ i k : Nat, i ≤ n ∧ k ≤ i ∧ v = .int .i64 (i : Int) ∧ Hid (k = (pairsT R i).length ∧ wr.ownsRow B1 39 2 u k (prcells (pairsT R i))) ∧ Hid (Below B1 w1 wr)) (fun _ v _ => n - (intOf v).toNat)
  case atStart => exact ⟨0, 0, Nat.zero_le _, Nat.le_refl _, rfl, Lib.hid ⟨rfl, World.ownsRow_nil w1 _ _ _⟩, Lib.hid (Below.refl _ _)⟩
  case round =>
    obtain ⟨i, k, hi, hki, rfl, hrow, hb⟩ := hrel
    by_cases hlt : i < n
    · have hlti : (i : Int) < (n : Int) := by omega
      obtain ⟨gX, cX, eX, hgB, hgs, _⟩ := owns_some HR.out (by omega)
      cases eX
      have hcX : wr.cell? ⟨gX, i, none⟩ = some (.int .i64 (R i)) := by
        have h1 : w1.cell? ⟨gX, i, none⟩ = some (.int .i64 (R i)) := by
          rw [HR.out.cellAt i (by omega)]
          exact icells_at _ _ _ hlt
        exact (World.cell?_of_block (hb.out.block gX (by rw [← HB1.out]; exact hgs))).trans h1
      have hBw : B1 ≤ wr.heap.size := by have := hb.out.size; rw [HB1.out] at this; exact this
      obtain ⟨hk, hown⟩ := hrow.out
      have HPush : Hid (pairsT R (i + 1) = pushP (pairsT R i) (R i)) := Lib.hid rfl
      have hsm := pairsT_small R i
      obtain ⟨D, hD⟩ : ∃ D, pairsT R i = D := ⟨_, rfl⟩
      rw [hD] at hk hown HPush hsm
      obtain ⟨x, hx⟩ : ∃ x, R i = x := ⟨_, rfl⟩
      rw [hx] at hcX HPush
      rcases List.eq_nil_or_concat D with e | ⟨E, ⟨s, c0⟩, e⟩
      · subst e
        obtain rfl : k = 0 := hk
        rw [pushP_nil] at HPush
        have HOwn := Lib.hid hown
        obtain ⟨Y, cY, hY⟩ : ∃ Y cY, u3 = .slice Y 0 cY := by
          rcases owns_slice2 hown with ⟨_, e⟩ | ⟨g, c, e, _⟩
          · exact ⟨none, 0, e⟩
          · exact ⟨_, _, e⟩
        subst hY
        clear hown hrow hD hx hsm
        go_wp2_with (at_builtin; refine step_append_pair rfl (.tmp 37) (.tmp 40) rfl rfl (D := []) HOwn.out x rfl hBw (Nat.zero_le _) ?_; intro v3 w3 hown3 hb3)
        go_roundw
        case rel => exact ⟨i + 1, 1, by omega, by omega, by go_num, Lib.hid (by rw [HPush.out]; exact ⟨rfl, hown3.out⟩), Lib.hid (hb.out.trans hb3)⟩
        case measure => simp [intOf]; omega
      · rw [List.concat_eq_append] at e
        subst e
        have hkE : k = E.length + 1 := by rw [hk, List.length_append]; rfl
        have hc0 : c0 ≤ i := hsm (s, c0) (List.mem_append_right _ (List.mem_singleton.2 rfl))
        obtain ⟨g, cg, e3, hgB1, hgw⟩ : ∃ g c, u3 = .slice (some ⟨g, 0, none⟩) k c ∧ B1 ≤ g ∧ g < wr.heap.size := by
          rcases owns_slice2 hown with ⟨h0, _⟩ | h
          · omega
          · exact h
        subst e3
        obtain ⟨q, hq⟩ : ∃ q, E.length = q := ⟨_, rfl⟩
        have hcells := prcells_at (D := E ++ [(s, c0)]) (i := q) (d := (s, c0)) (by rw [← hq, List.getElem?_append_right (Nat.le_refl _), Nat.sub_self]; rfl)
        have d1 : wr.cell? ⟨g, q * 2, none⟩ = some (.int .i64 s) := by
          have h := hown.cells rfl (q * 2) _ hcells.1
          rw [Addr.add_mid, Nat.zero_add] at h
          exact h
        have d2 : wr.cell? ⟨g, q * 2 + 1, none⟩ = some (.int .i64 (c0 : Int)) := by
          have h := hown.cells rfl (q * 2 + 1) _ hcells.2
          rw [Addr.add_mid, Nat.zero_add] at h
          exact h
        have f2 := owns_free2 hown (q * 2 + 1)
        have w2 : IntKind.i64.wrap ((k : Int) - 1) = (q : Int) := by rw [IntWalk.i64_in _ (by omega)]; omega
        have hk0 : decide ((0 : Int) < (k : Int)) = true := decide_eq_true (by omega)
        have hk0' : (0 : Int) < (k : Int) := by omega
        have hqk : (q : Int) < (k : Int) := by omega
        have hqk' : q < k := by omega
        by_cases hsx : s = x
        · subst hsx
          rw [pushP_same] at HPush
          have g1 : (s == s) = true := by rw [beq_iff_eq]
          have w3 : IntKind.i64.wrap ((c0 : Int) + 1) = ((c0 + 1 : Nat) : Int) := by rw [IntWalk.i64_in _ (by omega)]; omega
          have HN : Hid (k = (pairsT R (i + 1)).length ∧ (wr.setCell ⟨g, q * 2 + 1, none⟩ (.int .i64 ((c0 + 1 : Nat) : Int))).ownsRow B1 39 2 (.slice (some ⟨g, 0, none⟩) k cg) k (prcells (pairsT R (i + 1)))) := Lib.hid (by
            rw [HPush.out, List.length_append]
            refine ⟨hkE, ?_⟩
            have h := owns_put2 hown (q * 2 + 1) (.int .i64 ((c0 + 1 : Nat) : Int))
            rw [← hq, prcells_set] at h
            rw [← hq]
            exact h)
          have HB2 : Hid (Below B1 w1 (wr.setCell ⟨g, q * 2 + 1, none⟩ (.int .i64 ((c0 + 1 : Nat) : Int)))) := Lib.hid (hb.out.setCell (p := ⟨g, q * 2 + 1, none⟩) hgB1 _)
          generalize c0 + 1 = c1 at w3 HN HB2
          clear hown hrow hD hx hsm hk hkE hcells hq hb HPush
          go_wp2_with fail
          go_roundw
          case rel => exact ⟨i + 1, k, by omega, by omega, by go_num, HN, HB2⟩
          case measure => simp [intOf]; omega
        · rw [pushP_new hsx] at HPush
          have g1 : (s == x) = false := by rw [beq_eq_false_iff_ne]; exact hsx
          have HOwn : Hid (wr.ownsRow B1 39 2 (.slice (some ⟨g, 0, none⟩) k cg) (E ++ [(s, c0)]).length (prcells (E ++ [(s, c0)]))) := Lib.hid (by rw [← hk]; exact hown)
          have hl4 : (E ++ [(s, c0)]).length ≤ 4194304 := by omega
          have HKL : Hid (k + 1 = (E ++ [(s, c0)] ++ [(x, 1)]).length) := Lib.hid (by rw [hk]; simp)
          generalize E ++ [(s, c0)] = D at HPush HOwn hl4 HKL
          clear hown hrow hD hx hsm hk hkE hcells hq
          go_wp2_with (at_builtin; refine step_append_pair rfl (.tmp 37) (.tmp 40) rfl rfl (D := D) HOwn.out x rfl hBw hl4 ?_; intro v3 w3 hown3 hb3)
          go_roundw
          case rel => exact ⟨i + 1, k + 1, by omega, by omega, by go_num, Lib.hid (by rw [HPush.out]; exact ⟨HKL.out, by rw [HKL.out]; exact hown3.out⟩), Lib.hid (hb.out.trans hb3)⟩
          case measure => simp [intOf]; omega
    · have hin : i = n := by omega
      have hge : ¬ (i : Int) < (n : Int) := by omega
      rw [hin] at hrow
      have HF : Hid (∃ D : List (Int × Nat), PairsOf (takeL V n) D ∧ D.length ≤ n ∧ wr.ownsRow B 39 2 u3 D.length (prcells D)) := Lib.hid ⟨_, HP.out, pairsT_le R n, by
        obtain ⟨e, h⟩ := hrow.out
        rw [← e]
        refine ⟨h.1, ?_⟩
        rcases h.2 with h0 | ⟨g, cap, cur, e1, h2, h3⟩
        · exact .inl h0
        · exact .inr ⟨g, cap, cur, e1, by omega, h3⟩⟩
      have HB2 : Hid (Below B w wr) := Lib.hid (hb1.trans (hb.out.mono hB1))
      clear hin hrow hb
      go_wp2_with fail
      go_ret
      obtain ⟨D, h1, h2, h3⟩ := HF.out
      exact ⟨_, rfl, D, h1, h2, h3, HB2.out⟩

/-- pairs that can be read. -/
def PrsR (w : World) (A : Option Addr) (D : List (Int × Nat)) : Prop := D.length ≤ 4194304 ∧ ∀ i d, D[i]? = some d → ∃ g o, A = some ⟨g, o, none⟩ ∧ g < w.heap.size ∧ w.cell? ⟨g, o + i * 2, none⟩ = some (.int .i64 d.1) ∧ w.cell? ⟨g, o + i * 2 + 1, none⟩ = some (.int .i64 ((d.2 : Nat) : Int)) ∧ d.2 ≤ 4194304
theorem PrsR.below {w w' : World} {A : Option Addr} {D : List (Int × Nat)} (h : PrsR w A D) (hb : Below w.heap.size w w') : PrsR w' A D := ⟨h.1, fun i d hd => by
  obtain ⟨g, o, h1, h2, h3, h4, h5⟩ := h.2 i d hd
  exact ⟨g, o, h1, Nat.lt_of_lt_of_le h2 hb.size, (World.cell?_of_block (hb.block g h2)).trans h3, (World.cell?_of_block (hb.block g h2)).trans h4, h5⟩⟩
theorem PrsR.of_own {w : World} {B : Nat} {v : Value} {D : List (Int × Nat)} (h : w.ownsRow B 39 2 v D.length (prcells D)) (hl : D.length ≤ 4194304) (hm : ∀ d ∈ D, d.2 ≤ 4194304) : ∃ A c, v = .slice A D.length c ∧ PrsR w A D := by
  rcases owns_slice2 h with ⟨h0, e⟩ | ⟨g, c, e, _, hg⟩
  · have : D = [] := List.length_eq_zero_iff.1 h0
    subst this
    exact ⟨none, 0, e, hl, fun i d hd => by cases hd⟩
  · subst e
    refine ⟨_, c, rfl, hl, fun i d hd => ⟨g, 0, rfl, hg, ?_, ?_, hm d (List.mem_of_getElem? hd)⟩⟩
    · have h2 := h.cells rfl (i * 2) _ (prcells_at hd).1
      rw [Addr.add_mid, Nat.zero_add] at h2
      rw [Nat.zero_add]
      exact h2
    · have h2 := h.cells rfl (i * 2 + 1) _ (prcells_at hd).2
      rw [Addr.add_mid, Nat.zero_add] at h2
      rw [Nat.zero_add]
      exact h2
set_option maxRecDepth 100000 in
set_option maxHeartbeats 1600000 in
theorem refSameP_any (A A' : Option Addr) (c c' : Nat) (D : List (Int × Nat)) (w : World) (ho : PrsR w A D) (ho' : PrsR w A' D) :
    Calls Try.prog 12 #[.slice A D.length c, .slice A' D.length c'] w fun e w' => e = .returned (.bool true) ∧ Below w.heap.size w w' := by
  have HO := Lib.hid ho
  have HO' := Lib.hid ho'
  have hl := ho.1
  obtain ⟨n, hn⟩ : ∃ n, D.length = n := ⟨_, rfl⟩
  have HN := Lib.hid hn
  rw [hn] at hl ⊢
  have g0 : ((n : Int) != (n : Int)) = false := by simp
  clear ho ho' hn
  go_enter Try.func12, Try.ntmps12
  go_wp2_with fail
  go_loopw [13] (fun v wr => ∃ i : Nat, i ≤ n ∧ v = .int .i64 (i : Int) ∧ Hid (Below w.heap.size w wr)) (fun v _ => n - (intOf v).toNat)
  case atStart => exact ⟨0, Nat.zero_le _, rfl, Lib.hid (Below.refl _ _)⟩
  case round =>
    obtain ⟨i, hi, rfl, hb⟩ := hrel
    by_cases hlt : i < n
    · have hlti : (i : Int) < (n : Int) := by omega
      obtain ⟨d, hd⟩ : ∃ d, D[i]? = some d := ⟨_, List.getElem?_eq_getElem (by rw [HN.out]; exact hlt)⟩
      obtain ⟨g, o, rfl, _, c1', c2', _⟩ := (HO.out.below hb.out).2 i d hd
      obtain ⟨g', o', rfl, _, c3', c4', _⟩ := (HO'.out.below hb.out).2 i d hd
      have HB2 : ∀ t, Hid (Below w.heap.size w (wr.drewN t)) := fun t => Lib.hid (below_drewN' hb.out t)
      obtain ⟨x, y⟩ := d
      have c1 : wr.cell? ⟨g, o + i * 2, none⟩ = some (.int .i64 x) := c1'
      have c2 : wr.cell? ⟨g, o + i * 2 + 1, none⟩ = some (.int .i64 (y : Int)) := c2'
      have c3 : wr.cell? ⟨g', o' + i * 2, none⟩ = some (.int .i64 x) := c3'
      have c4 : wr.cell? ⟨g', o' + i * 2 + 1, none⟩ = some (.int .i64 (y : Int)) := c4'
      clear hd hb c1' c2' c3' c4'
      go_wp2_with fail
      go_quiet (fail)
      go_wp2_with fail
      go_roundw
      case rel => exact ⟨i + 1, by omega, by go_num, HB2 _⟩
      case measure => simp [intOf]; omega
    · have hge : ¬ (i : Int) < (n : Int) := by omega
      go_wp2_with fail
      go_ret
      exact ⟨rfl, hb.out⟩
end Go.Proofs.Ythbnojhcmfhnhaa
