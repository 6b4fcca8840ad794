/- Numbers, rising, each once, with how often it is there: plain; as they lie; the document's Pairs, Same. What layer 13's laws ask of package wave, as one word (WaveI), over any 'At' (a matrix lies at a pointer) and any 'Vt' (a list of bits does); the laws' opening; made, right. Slices of bytes of the call's own, side by side: as cells; append of one; parts of blocks of bytes of the call's own; such a row as sections. The document's levels of a row: by putting the numbers in order by one bit after the other. The contract of (*pack.Ints).Set. A packed list and its numbers, both told; New, Get and Set by the numbers. A list of bits as it lies in memory; the contracts of Len, Ones, At and within of package rank. The usual way to count the bits of a word, two, four and eight at a time: plain arithmetic; no program is named here. The contract of bits.OnesCount64: how many bits are set. The contracts of Rank and Zeros of package rank. The contracts of find, Select and SelectZero of package rank, and of sort.Search as they call it. The contracts of count and New of package rank. The contract of New of package rank. -/
import Derived.Test.YtbkdloebbbmkaaaGreatB04
import Derived.Test.YtbkdloebbbmkaaaGreatB03
import Derived.Lib.SmallJoins
import Derived.Test.YtbkdloebbbmkaaaGreatB01
import Derived.StillTailTactics
import Derived.Laws.Bits128
import Derived.Deep.LoopGhost
import Derived.Deep.QuietTactic
import Derived.BigQuiet
import Derived.Deep.RegionWith
import Derived.Shelf.Abstract
import Derived.Deep.RegionHeld3
import Derived.Deep.RegionLaw
import Derived.Deep.DeepCutAuto
import Derived.Deep.AppendLies
import Derived.Deep.DrawnRows
namespace Go.Proofs.YtbkdloebbbmkaaaGreat

/-- one number more, no less than those that are there. -/
def pushP (D : List (Int × Nat)) (x : Int) : List (Int × Nat) := match D.getLast? with
  | none => [(x, 1)]
  | some (s, c) => if s = x then D.dropLast ++ [(s, c + 1)] else D ++ [(x, 1)]
theorem pushP_nil (x : Int) : pushP [] x = [(x, 1)] := rfl
theorem pushP_same (E : List (Int × Nat)) (x : Int) (c : Nat) : pushP (E ++ [(x, c)]) x = E ++ [(x, c + 1)] := by
  unfold pushP
  rw [List.getLast?_concat, List.dropLast_concat]
  exact if_pos rfl
theorem pushP_new {E : List (Int × Nat)} {s x : Int} {c : Nat} (h : s ≠ x) : pushP (E ++ [(s, c)]) x = E ++ [(s, c)] ++ [(x, 1)] := by
  unfold pushP
  rw [List.getLast?_concat]
  exact if_neg h
/-- what numbers of a list there are, rising, each with how often. -/
structure PairsOf (l : List Int) (D : List (Int × Nat)) : Prop where
  rise : D.Pairwise (fun d e => d.1 < e.1)
  many : ∀ d ∈ D, d.2 = l.countP (fun x => decide (x = d.1)) ∧ 0 < d.2
  all : ∀ x ∈ l, ∃ d ∈ D, d.1 = x
theorem PairsOf.mem {l : List Int} {D : List (Int × Nat)} (h : PairsOf l D) (d : Int × Nat) : d ∈ D ↔ d.1 ∈ l ∧ d.2 = l.countP (fun x => decide (x = d.1)) := by
  constructor
  · intro hd
    obtain ⟨h1, h2⟩ := h.many d hd
    rw [h1, List.countP_pos_iff] at h2
    obtain ⟨x, hx, he⟩ := h2
    rw [decide_eq_true_iff] at he
    exact ⟨he ▸ hx, h1⟩
  · rintro ⟨h1, h2⟩
    obtain ⟨e, he, hx⟩ := h.all _ h1
    have h3 := (h.many e he).1
    rw [hx, ← h2] at h3
    have : d = e := Prod.ext hx.symm h3.symm
    rw [this]
    exact he
theorem rising_one : ∀ {D D' : List (Int × Nat)}, D.Pairwise (fun d e => d.1 < e.1) → D'.Pairwise (fun d e => d.1 < e.1) → (∀ d, d ∈ D ↔ d ∈ D') → D = D'
  | [], [], _, _, _ => rfl
  | [], e :: D', _, _, h => by have := (h e).2 (List.mem_cons_self ..); cases this
  | d :: D, [], _, _, h => by have := (h d).1 (List.mem_cons_self ..); cases this
  | d :: D, e :: D', h1, h2, h => by
    rw [List.pairwise_cons] at h1 h2
    have hde : d = e := by
      rcases List.mem_cons.1 ((h d).1 (List.mem_cons_self ..)) with g | g
      · exact g
      · have g1 := h2.1 d g
        rcases List.mem_cons.1 ((h e).2 (List.mem_cons_self ..)) with g' | g'
        · exact g'.symm
        · have g2 := h1.1 e g'
          omega
    subst hde
    rw [rising_one h1.2 h2.2 fun x => ⟨fun hx => by
      rcases List.mem_cons.1 ((h x).1 (List.mem_cons_of_mem _ hx)) with g | g
      · have := h1.1 x hx
        rw [g] at this
        omega
      · exact g, fun hx => by
      rcases List.mem_cons.1 ((h x).2 (List.mem_cons_of_mem _ hx)) with g | g
      · have := h2.1 x hx
        rw [g] at this
        omega
      · exact g⟩]
theorem PairsOf.one {l : List Int} {D D' : List (Int × Nat)} (h : PairsOf l D) (h' : PairsOf l D') : D = D' := rising_one h.rise h'.rise fun d => by rw [h.mem, h'.mem]
theorem PairsOf.perm {l l' : List Int} {D : List (Int × Nat)} (h : PairsOf l D) (hp : l.Perm l') : PairsOf l' D := ⟨h.rise, fun d hd => by rw [← hp.countP_eq]; exact h.many d hd, fun x hx => h.all x (hp.mem_iff.2 hx)⟩
theorem PairsOf.none : PairsOf [] [] := ⟨List.Pairwise.nil, fun _ h => (by cases h), fun _ h => (by cases h)⟩
theorem count_snoc (l : List Int) (x y : Int) : (l ++ [x]).countP (fun z => decide (z = y)) = l.countP (fun z => decide (z = y)) + if x = y then 1 else 0 := by
  rw [List.countP_append, List.countP_cons, List.countP_nil, Nat.zero_add]
  by_cases h : x = y
  · rw [if_pos h, if_pos (decide_eq_true h)]
  · rw [if_neg h, if_neg (by rw [decide_eq_true_iff]; exact h)]
theorem PairsOf.push {l : List Int} {D : List (Int × Nat)} (h : PairsOf l D) {x : Int} (hx : ∀ y ∈ l, y ≤ x) : PairsOf (l ++ [x]) (pushP D x) := by
  rcases List.eq_nil_or_concat D with e | ⟨E, ⟨s, c⟩, e⟩
  · subst e
    have hl : l = [] := by
      rcases l with _ | ⟨y, l⟩
      · rfl
      · obtain ⟨d, hd, _⟩ := h.all y (List.mem_cons_self ..)
        cases hd
    subst hl
    refine ⟨List.pairwise_singleton _ _, fun d hd => ?_, fun y hy => ?_⟩
    · obtain rfl := List.mem_singleton.1 hd
      simp
    · obtain rfl := List.mem_singleton.1 hy
      exact ⟨(y, 1), List.mem_singleton.2 rfl, rfl⟩
  · rw [List.concat_eq_append] at e
    subst e
    have hr := h.rise
    rw [List.pairwise_append] at hr
    have hlow : ∀ d ∈ E, d.1 < s := fun d hd => hr.2.2 d hd (s, c) (List.mem_singleton.2 rfl)
    have hs := h.many (s, c) (List.mem_append_right _ (List.mem_singleton.2 rfl))
    have hsl : s ∈ l := ((h.mem (s, c)).1 (List.mem_append_right _ (List.mem_singleton.2 rfl))).1
    have hsx := hx s hsl
    by_cases e : s = x
    · subst e
      rw [pushP_same]
      refine ⟨?_, fun d hd => ?_, fun y hy => ?_⟩
      · rw [List.pairwise_append]
        exact ⟨hr.1, List.pairwise_singleton _ _, fun d hd f hf => by
          obtain rfl := List.mem_singleton.1 hf
          exact hlow d hd⟩
      · rw [count_snoc]
        rcases List.mem_append.1 hd with g | g
        · have := hlow d g
          have h2 := h.many d (List.mem_append_left _ g)
          rw [if_neg (by omega), Nat.add_zero]
          exact h2
        · obtain rfl := List.mem_singleton.1 g
          rw [if_pos rfl]
          exact ⟨by show c + 1 = _; rw [← hs.1], by show 0 < c + 1; omega⟩
      · rcases List.mem_append.1 hy with g | g
        · obtain ⟨d, hd, hdy⟩ := h.all y g
          rcases List.mem_append.1 hd with g2 | g2
          · exact ⟨d, List.mem_append_left _ g2, hdy⟩
          · obtain rfl := List.mem_singleton.1 g2
            exact ⟨(s, c + 1), List.mem_append_right _ (List.mem_singleton.2 rfl), hdy⟩
        · obtain rfl := List.mem_singleton.1 g
          exact ⟨(y, c + 1), List.mem_append_right _ (List.mem_singleton.2 rfl), rfl⟩
    · rw [pushP_new e]
      have hall : ∀ d ∈ E ++ [(s, c)], d.1 < x := fun d hd => by
        rcases List.mem_append.1 hd with g | g
        · have := hlow d g
          omega
        · obtain rfl := List.mem_singleton.1 g
          show s < x
          omega
      refine ⟨?_, fun d hd => ?_, fun y hy => ?_⟩
      · rw [List.pairwise_append]
        exact ⟨h.rise, List.pairwise_singleton _ _, fun d hd f hf => by
          obtain rfl := List.mem_singleton.1 hf
          exact hall d hd⟩
      · rw [count_snoc]
        rcases List.mem_append.1 hd with g | g
        · have := hall d g
          rw [if_neg (by omega), Nat.add_zero]
          exact h.many d g
        · obtain rfl := List.mem_singleton.1 g
          have h0 : l.countP (fun z => decide (z = x)) = 0 := by
            rw [List.countP_eq_zero]
            intro y hy
            obtain ⟨d, hd, hdy⟩ := h.all y hy
            have := hall d hd
            rw [decide_eq_true_iff]
            omega
          show 1 = l.countP (fun z => decide (z = x)) + (if x = x then 1 else 0) ∧ 0 < 1
          rw [h0, if_pos rfl]
          omega
      · rcases List.mem_append.1 hy with g | g
        · obtain ⟨d, hd, hdy⟩ := h.all y g
          exact ⟨d, List.mem_append_left _ hd, hdy⟩
        · obtain rfl := List.mem_singleton.1 g
          exact ⟨(y, 1), List.mem_append_right _ (List.mem_singleton.2 rfl), rfl⟩
/-- the counts of the first i together. -/
def sumP (D : List (Int × Nat)) (i : Nat) : Nat := ((D.take i).map Prod.snd).sum
theorem sumP_zero (D : List (Int × Nat)) : sumP D 0 = 0 := rfl
theorem sumP_succ {D : List (Int × Nat)} {i : Nat} {d : Int × Nat} (h : D[i]? = some d) : sumP D (i + 1) = sumP D i + d.2 := by
  unfold sumP
  rw [List.take_add_one, h, List.map_append, List.sum_append]
  show _ + (d.2 + 0) = _
  rw [Nat.add_zero]
theorem countP_split (l : List Int) (a b : Int) (h : a ≤ b) : l.countP (fun x => decide (x < b)) = l.countP (fun x => decide (x < a)) + l.countP (fun x => decide (a ≤ x ∧ x < b)) := by
  induction l with
  | nil => rfl
  | cons y l ih =>
    rw [List.countP_cons, List.countP_cons, List.countP_cons, ih]
    by_cases h1 : y < a
    · rw [if_pos (decide_eq_true (show y < b by omega)), if_pos (decide_eq_true h1), if_neg (by rw [decide_eq_true_iff]; omega)]
      omega
    · rw [if_neg (show ¬ decide (y < a) = true by rw [decide_eq_true_iff]; exact h1)]
      by_cases h2 : y < b
      · rw [if_pos (decide_eq_true h2), if_pos (decide_eq_true ⟨by omega, h2⟩)]
        omega
      · rw [if_neg (by rw [decide_eq_true_iff]; exact h2), if_neg (by rw [decide_eq_true_iff]; omega)]
        omega
/-- the counts ahead of a number are of the lesser ones. -/
theorem PairsOf.sums {l : List Int} {D : List (Int × Nat)} (h : PairsOf l D) : ∀ i d, D[i]? = some d → sumP D i = l.countP (fun x => decide (x < d.1))
  | 0, d, hd => by
    rw [sumP_zero]
    symm
    rw [List.countP_eq_zero]
    intro x hx
    obtain ⟨e, he, hex⟩ := h.all x hx
    obtain ⟨j, hj⟩ := List.getElem?_of_mem he
    rw [decide_eq_true_iff, ← hex]
    intro hlt
    rcases Nat.eq_zero_or_pos j with h0 | h0
    · subst h0
      rw [hd] at hj
      cases hj
      omega
    · have hr := h.rise
      rw [List.pairwise_iff_getElem] at hr
      obtain ⟨g1, g2⟩ := List.getElem?_eq_some_iff.1 hd
      obtain ⟨g3, g4⟩ := List.getElem?_eq_some_iff.1 hj
      have := hr 0 j g1 g3 h0
      rw [g2, g4] at this
      omega
  | i + 1, d, hd => by
    obtain ⟨c, hc⟩ : ∃ c, D[i]? = some c := ⟨_, List.getElem?_eq_getElem (by have := (List.getElem?_eq_some_iff.1 hd).1; omega)⟩
    rw [sumP_succ hc, h.sums i c hc]
    have hr := h.rise
    rw [List.pairwise_iff_getElem] at hr
    obtain ⟨g1, g2⟩ := List.getElem?_eq_some_iff.1 hc
    obtain ⟨g3, g4⟩ := List.getElem?_eq_some_iff.1 hd
    have hcd := hr i (i + 1) g1 g3 (Nat.lt_succ_self i)
    rw [g2, g4] at hcd
    rw [countP_split l c.1 d.1 (by omega), (h.many c (List.mem_of_getElem? hc)).1]
    congr 1
    refine List.countP_congr fun x hx => ?_
    rw [decide_eq_true_iff, decide_eq_true_iff]
    constructor
    · rintro rfl
      exact ⟨Int.le_refl _, hcd⟩
    · rintro ⟨q1, q2⟩
      obtain ⟨e, he, hex⟩ := h.all x hx
      obtain ⟨j, hj⟩ := List.getElem?_of_mem he
      obtain ⟨g5, g6⟩ := List.getElem?_eq_some_iff.1 hj
      rw [← hex] at q1 q2 ⊢
      rcases Nat.lt_trichotomy j i with q | q | q
      · have := hr j i g5 g1 q
        rw [g2, g6] at this
        omega
      · subst q
        rw [hc] at hj
        cases hj
        rfl
      · rcases Nat.lt_or_eq_of_le (show i + 1 ≤ j from q) with q' | q'
        · have := hr (i + 1) j g3 g5 q'
          rw [g4, g6] at this
          omega
        · subst q'
          rw [hd] at hj
          cases hj
          omega
/-- all counts together. -/
theorem PairsOf.sum_all {l : List Int} {D : List (Int × Nat)} (h : PairsOf l D) : sumP D D.length = l.length := by
  rcases List.eq_nil_or_concat D with e | ⟨E, d, e⟩
  · subst e
    rcases l with _ | ⟨y, l⟩
    · rfl
    · obtain ⟨d, hd, _⟩ := h.all y (List.mem_cons_self ..)
      cases hd
  · rw [List.concat_eq_append] at e
    subst e
    have hd : (E ++ [d])[E.length]? = some d := by rw [List.getElem?_append_right (Nat.le_refl _), Nat.sub_self]; rfl
    rw [List.length_append]
    show sumP (E ++ [d]) (E.length + 1) = _
    rw [sumP_succ hd, h.sums _ d hd, (h.many d (List.mem_of_getElem? hd)).1]
    have hr := h.rise
    rw [List.pairwise_append] at hr
    have hall : l.countP (fun x => decide (x < d.1 + 1)) = l.length := by
      rw [List.countP_eq_length]
      intro x hx
      obtain ⟨e, he, hex⟩ := h.all x hx
      rw [decide_eq_true_iff, ← hex]
      rcases List.mem_append.1 he with g | g
      · have := hr.2.2 e g d (List.mem_singleton.2 rfl)
        omega
      · obtain rfl := List.mem_singleton.1 g
        omega
    rw [← hall, countP_split l d.1 (d.1 + 1) (by omega)]
    congr 1
    exact List.countP_congr fun x _ => by
      rw [decide_eq_true_iff, decide_eq_true_iff]
      omega
/-- the pairs of the first i of a row in order. -/
def pairsT (V : Nat → Int) : Nat → List (Int × Nat)
  | 0 => []
  | i + 1 => pushP (pairsT V i) (V i)
theorem mem_takeL {V : Nat → Int} {m : Nat} {x : Int} (h : x ∈ takeL V m) : ∃ k, k < m ∧ V k = x := by
  obtain ⟨k, hk⟩ := List.getElem?_of_mem h
  have hkm : k < m := by
    have := (List.getElem?_eq_some_iff.1 hk).1
    rwa [takeL_length] at this
  rw [takeL_at V m k hkm] at hk
  exact ⟨k, hkm, by injection hk⟩
theorem pairsT_of {V : Nat → Int} {n : Nat} (hs : ∀ i j, i < j → j < n → V i ≤ V j) : ∀ i, i ≤ n → PairsOf (takeL V i) (pairsT V i)
  | 0, _ => PairsOf.none
  | i + 1, h => (pairsT_of hs i (by omega)).push fun y hy => by
    obtain ⟨k, hk, rfl⟩ := mem_takeL hy
    exact hs k i hk (by omega)
theorem pairsT_le (V : Nat → Int) : ∀ i, (pairsT V i).length ≤ i
  | 0 => Nat.le_refl _
  | i + 1 => by
    have ih := pairsT_le V i
    show (pushP (pairsT V i) (V i)).length ≤ i + 1
    rcases List.eq_nil_or_concat (pairsT V i) with e | ⟨E, ⟨s, c⟩, e⟩
    · rw [e, pushP_nil]
      show 1 ≤ i + 1
      omega
    · rw [List.concat_eq_append] at e
      rw [e, List.length_append] at ih
      rw [e]
      have ih : E.length + 1 ≤ i := ih
      by_cases h : s = V i
      · subst h
        rw [pushP_same, List.length_append]
        show E.length + 1 ≤ i + 1
        omega
      · rw [pushP_new h, List.length_append, List.length_append]
        show E.length + 1 + 1 ≤ i + 1
        omega
theorem pairsT_small (V : Nat → Int) : ∀ i, ∀ d ∈ pairsT V i, d.2 ≤ i
  | 0, d, h => by cases h
  | i + 1, d, h => by
    have ih := pairsT_small V i
    have h : d ∈ pushP (pairsT V i) (V i) := h
    rcases List.eq_nil_or_concat (pairsT V i) with e | ⟨E, ⟨s, c⟩, e⟩
    · rw [e, pushP_nil] at h
      obtain rfl := List.mem_singleton.1 h
      show 1 ≤ i + 1
      omega
    · rw [List.concat_eq_append] at e
      rw [e] at h ih
      by_cases hs : s = V i
      · subst hs
        rw [pushP_same] at h
        rcases List.mem_append.1 h with g | g
        · have := ih d (List.mem_append_left _ g)
          omega
        · obtain rfl := List.mem_singleton.1 g
          have := ih _ (List.mem_append_right _ (List.mem_singleton.2 rfl))
          have this : c ≤ i := this
          show c + 1 ≤ i + 1
          omega
      · rw [pushP_new hs] at h
        rcases List.mem_append.1 h with g | g
        · have := ih d g
          omega
        · obtain rfl := List.mem_singleton.1 g
          show 1 ≤ i + 1
          omega
/-- a row in order gives its list's pairs. -/
theorem pairs_sorted (l : List Int) : PairsOf l (pairsT (litI (sortL l)) l.length) := by
  have hs := sortL_sorted l
  have hlen := sortL_length l
  have h := pairsT_of (V := litI (sortL l)) (n := l.length) (fun i j hij hj => by
    have h1 := litI_some (l := sortL l) (k := i) (by omega)
    have h2 := litI_some (l := sortL l) (k := j) (by omega)
    rw [List.pairwise_iff_getElem] at hs
    have := hs i j (by omega) (by omega) hij
    rw [List.getElem?_eq_getElem (by omega)] at h1 h2
    injection h1 with h1
    injection h2 with h2
    rw [← h1, ← h2]
    exact this) l.length (Nat.le_refl _)
  rw [← hlen] at h
  rw [takeL_is (fun k hk => litI_some hk)] at h
  rw [← hlen]
  exact h.perm (sortL_perm l)
end Go.Proofs.YtbkdloebbbmkaaaGreat

namespace Go.Proofs.YtbkdloebbbmkaaaGreat
open Go.RowKit

/-- pairs as cells. -/
def prcells (D : List (Int × Nat)) : List Value := D.flatMap fun d => [.int .i64 d.1, .int .i64 ((d.2 : Nat) : Int)]
theorem prcells_append (D E : List (Int × Nat)) : prcells (D ++ E) = prcells D ++ prcells E := by unfold prcells; rw [List.flatMap_append]
theorem prcells_one (d : Int × Nat) : prcells [d] = [.int .i64 d.1, .int .i64 ((d.2 : Nat) : Int)] := rfl
theorem prcells_length : ∀ D : List (Int × Nat), (prcells D).length = D.length * 2
  | [] => rfl
  | d :: D => by
    show (([.int .i64 d.1, .int .i64 ((d.2 : Nat) : Int)] : List Value) ++ prcells D).length = (D.length + 1) * 2
    rw [List.length_append, prcells_length D]
    show 2 + D.length * 2 = _
    omega
theorem prcells_at : ∀ {D : List (Int × Nat)} {i : Nat} {d : Int × Nat}, D[i]? = some d → (prcells D)[i * 2]? = some (.int .i64 d.1) ∧ (prcells D)[i * 2 + 1]? = some (.int .i64 ((d.2 : Nat) : Int))
  | [], i, d, h => by cases h
  | e :: D, 0, d, h => by
    obtain rfl : e = d := Option.some.inj h
    exact ⟨rfl, rfl⟩
  | e :: D, i + 1, d, h => by
    have := prcells_at (D := D) (i := i) (d := d) h
    show (([.int .i64 e.1, .int .i64 ((e.2 : Nat) : Int)] : List Value) ++ prcells D)[(i + 1) * 2]? = _ ∧ (([.int .i64 e.1, .int .i64 ((e.2 : Nat) : Int)] : List Value) ++ prcells D)[(i + 1) * 2 + 1]? = _
    rw [List.getElem?_append_right (by show 2 ≤ _; omega), List.getElem?_append_right (by show 2 ≤ _; omega)]
    show (prcells D)[(i + 1) * 2 - 2]? = _ ∧ (prcells D)[(i + 1) * 2 + 1 - 2]? = _
    rw [show (i + 1) * 2 - 2 = i * 2 by omega, show (i + 1) * 2 + 1 - 2 = i * 2 + 1 by omega]
    exact this
theorem owns_put2 {w : World} {B n c g : Nat} {t : TypeId} {cs : List Value} (h : w.ownsRow B t 2 (.slice (some ⟨g, 0, none⟩) n c) n cs) (j : Nat) (u : Value) : (w.setCell ⟨g, j, none⟩ u).ownsRow B t 2 (.slice (some ⟨g, 0, none⟩) n c) n (cs.set j u) := by
  refine ⟨by rw [List.length_set]; exact h.1, ?_⟩
  rcases h.2 with ⟨e, _⟩ | ⟨g', cap, cur, e, h1, h2, h3, h4, h5, h6⟩
  · cases e
  · cases e
    refine .inr ⟨g, c, cur.setIfInBounds j u, rfl, h1, ?_, h3, h4, by simp [h5], ?_⟩
    · simp [World.setCell, Array.getElem?_modify, h2]
    · rw [← h6, Array.toList_setIfInBounds, List.take_set]
theorem owns_free2 {w : World} {B n c g : Nat} {t : TypeId} {cs : List Value} (h : w.ownsRow B t 2 (.slice (some ⟨g, 0, none⟩) n c) n cs) (j : Nat) : w.frozen? ⟨g, j, none⟩ = false := by
  rcases h.2 with ⟨e, _⟩ | ⟨g', cap, cur, e, h1, h2, _⟩
  · cases e
  · cases e
    simp [World.frozen?, h2]
theorem owns_slice2 {w : World} {B n : Nat} {t : TypeId} {v : Value} {cs : List Value} (h : w.ownsRow B t 2 v n cs) : (n = 0 ∧ v = .slice none 0 0) ∨ ∃ g c, v = .slice (some ⟨g, 0, none⟩) n c ∧ B ≤ g ∧ g < w.heap.size := by
  have h1 := h.1
  rcases h.2 with ⟨e, h0⟩ | ⟨g, cap, cur, e, h2, h3, _⟩
  · exact .inl ⟨by omega, e⟩
  · exact .inr ⟨g, cap, e, h2, (Array.getElem?_eq_some_iff.1 h3).1⟩
theorem prcells_set (E : List (Int × Nat)) (s : Int) (c : Nat) (u : Nat) : (prcells (E ++ [(s, c)])).set (E.length * 2 + 1) (.int .i64 ((u : Nat) : Int)) = prcells (E ++ [(s, u)]) := by
  rw [prcells_append, prcells_append, prcells_one, prcells_one, List.set_append_right _ _ (by rw [prcells_length]; omega), prcells_length, show E.length * 2 + 1 - E.length * 2 = 1 by omega]
  rfl
/-- pairs that can be read. -/
def PrsR (w : World) (A : Option Addr) (D : List (Int × Nat)) : Prop := D.length ≤ 4194304 ∧ ∀ i d, D[i]? = some d → ∃ g o, A = some ⟨g, o, none⟩ ∧ g < w.heap.size ∧ w.cell? ⟨g, o + i * 2, none⟩ = some (.int .i64 d.1) ∧ w.cell? ⟨g, o + i * 2 + 1, none⟩ = some (.int .i64 ((d.2 : Nat) : Int)) ∧ d.2 ≤ 4194304
theorem PrsR.below {w w' : World} {A : Option Addr} {D : List (Int × Nat)} (h : PrsR w A D) (hb : Below w.heap.size w w') : PrsR w' A D := ⟨h.1, fun i d hd => by
  obtain ⟨g, o, h1, h2, h3, h4, h5⟩ := h.2 i d hd
  exact ⟨g, o, h1, Nat.lt_of_lt_of_le h2 hb.size, (World.cell?_of_block (hb.block g h2)).trans h3, (World.cell?_of_block (hb.block g h2)).trans h4, h5⟩⟩
end Go.Proofs.YtbkdloebbbmkaaaGreat

namespace Go.Proofs.YtbkdloebbbmkaaaGreat
open Go.RowKit

/-- may a row be a matrix? -/
def RightW (V : Nat → Int) (n : Nat) (most : Int) : Prop := 0 ≤ most ∧ most < 4194304 ∧ n ≤ 4194304 ∧ ∀ i, i < n → 0 ≤ V i ∧ V i ≤ most
theorem rightW_is {V : Nat → Int} {n : Nat} {most : Int} : RightW V n most ↔ (0 ≤ most ∧ most < 4194304) ∧ RightS V n (most + 1) :=
  ⟨fun h => ⟨⟨h.1, h.2.1⟩, ⟨by have := h.1; omega, by have := h.2.1; omega, h.2.2.1⟩, fun i hi => by have := h.2.2.2 i hi; omega⟩,
   fun h => ⟨h.1.1, h.1.2, h.2.1.2.2, fun i hi => by have := h.2.2 i hi; omega⟩⟩
/-- the number at a place; -1: none. -/
def atI (V : Nat → Int) (n : Nat) (i : Int) : Int := if 0 ≤ i ∧ i < (n : Int) then V i.toNat else -1
section
variable {At : Nat → World → Value → Nat → (Nat → Int) → Nat → Prop} {Vt : Nat → World → Value → Nat → (Nat → Bool) → Prop}
/-- the chapter's example. -/
def wxV : Nat → Int := litI [2, 1, 2, 0]
theorem wxRight : RightW wxV 4 2 := ⟨by decide, by decide, by decide, fun i hi => by
  have h : i = 0 ∨ i = 1 ∨ i = 2 ∨ i = 3 := by omega
  rcases h with rfl | rfl | rfl | rfl <;> decide⟩
theorem wxWrong : ¬ RightW (litI [3]) 1 2 := fun h => by
  have := (h.2.2.2 0 (by decide)).2
  exact absurd this (by decide)
theorem wxRank : cntR wxV 2 0 3 4 = 2 := by decide
theorem wxSel : selW wxV 4 2 1 = 2 := by decide
theorem wxQuant : quantI wxV 4 0 4 1 = 1 := by decide
theorem wxLess : lessR wxV 0 4 2 4 = 2 := by decide
theorem wxAt : atI wxV 4 3 = 0 := by decide
theorem wxPart : partL wxV 0 3 4 = [2, 1, 2] := by decide
theorem wxPairs : PairsOf (partL wxV 0 3 4) [(1, 1), (2, 2)] := by
  rw [wxPart]
  refine ⟨by simp, fun d hd => ?_, fun x hx => ?_⟩
  · rcases List.mem_cons.1 hd with rfl | hd
    · decide
    · obtain rfl := List.mem_singleton.1 hd
      decide
  · rcases List.mem_cons.1 hx with rfl | hx
    · exact ⟨(2, 2), by simp, rfl⟩
    · rcases List.mem_cons.1 hx with rfl | hx
      · exact ⟨(1, 1), by simp, rfl⟩
      · obtain rfl := List.mem_singleton.1 hx
        exact ⟨(2, 2), by simp, rfl⟩
theorem wxWidth : widthN 2 = 2 := by
  rw [widthN_up (by decide), widthN_low (by decide)]
theorem itsR_litW (w : World) (xs : List Int) (hm : xs.length ≤ maxLen) (hx : ∀ x ∈ xs, -9223372036854775808 ≤ x ∧ x ≤ 9223372036854775807) : ItsR (w.alloc (.cells (xs.map fun x => Value.int .i64 x).toArray 3)) (some ⟨w.heap.size, 0, none⟩) xs.length xs.length (litI xs) := ⟨fun e => (by cases e), Nat.le_refl _, hm, its_lit w xs hx⟩
end
end Go.Proofs.YtbkdloebbbmkaaaGreat

namespace Go.Proofs.YtbkdloebbbmkaaaGreat
open Go.RowKit

/-- slices of bytes as cells. -/
def pcells (L : List Part) : List Value := L.map fun p => Value.slice p.A p.n p.c
theorem pcells_length (L : List Part) : (pcells L).length = L.length := by unfold pcells; simp
theorem pcells_at {L : List Part} {i : Nat} {p : Part} (h : L[i]? = some p) : (pcells L)[i]? = some (.slice p.A p.n p.c) := by unfold pcells; rw [List.getElem?_map, h]; rfl
theorem info_sl : (Tryz.prog.info? 35).map (fun i => (i.zero, i.size, i.bytes)) = some (some (.slice none 0 0), 1, 24) := by kernel_rfl
/-- a part of a block of bytes of the call's own. -/
def OwnPart (w : World) (B : Nat) (p : Part) : Prop :=
  (p.A = none ∧ p.n = 0 ∧ p.c = 0) ∨ ∃ (g : Nat) (cur : Array Value), p.A = some ⟨g, 0, none⟩ ∧ B ≤ g ∧ w.heap[g]? = some (.cells cur 5 (0, 0)) ∧ p.n ≤ p.c ∧ p.c ≤ maxLen ∧ ∀ k, k < p.n → cur[k]? = some (.int .u8 ((p.V k : Nat) : Int)) ∧ p.V k < 256
theorem OwnPart.below {w w' : World} {B : Nat} {p : Part} (h : OwnPart w B p) (hb : Below w.heap.size w w') : OwnPart w' B p := by
  rcases h with h | ⟨g, cur, h1, h2, h3, h4⟩
  · exact .inl h
  · have hg : g < w.heap.size := (Array.getElem?_eq_some_iff.1 h3).1
    exact .inr ⟨g, cur, h1, h2, (hb.block g hg).trans h3, h4⟩
/-- a row of slices has turned: blocks of bytes are as they were. -/
theorem OwnPart.grown {w w' : World} {B B' n : Nat} {v : Value} {cs : List Value} {p : Part} (h : OwnPart w B p) (hv : w.ownsRow B' 35 1 v n cs) (hg : w.grownBy w' v.ownBlock) : OwnPart w' B p := by
  rcases h with h | ⟨g, cur, h1, h2, h3, h4⟩
  · exact .inl h
  · have hlt : g < w.heap.size := (Array.getElem?_eq_some_iff.1 h3).1
    refine .inr ⟨g, cur, h1, h2, (hg.block g hlt ?_).trans h3, h4⟩
    intro e
    rcases hv.2 with ⟨rfl, _⟩ | ⟨g', cap, cur', rfl, _, hg', _⟩
    · cases e
    · have e : some g = some g' := e
      injection e with e
      subst e
      rw [h3] at hg'
      simp at hg'
theorem OwnPart.bys {w : World} {B : Nat} {p : Part} (h : OwnPart w B p) : p.n ≤ p.c ∧ p.c ≤ maxLen ∧ (p.A = none → p.n = 0 ∧ p.c = 0) ∧ Bys w w.heap.size p.A p.n p.V := by
  rcases h with ⟨h1, h2, h3⟩ | ⟨g, cur, h1, h2, h3, h4, h5, h6⟩
  · exact ⟨by omega, by omega, fun _ => ⟨h2, h3⟩, fun k hk => by omega⟩
  · refine ⟨h4, h5, fun e => (by rw [h1] at e; cases e), fun k hk => ?_⟩
    obtain ⟨h7, h8⟩ := h6 k hk
    refine ⟨⟨g, 0, none⟩, h1, (Array.getElem?_eq_some_iff.1 h3).1, ?_, h8⟩
    have e : (⟨g, 0, none⟩ : Addr).add k = ⟨g, k, none⟩ := by unfold Addr.add; split <;> simp_all
    rw [e, cell_of_row w g k cur 5 (0, 0) h3]
    exact h7
theorem OwnPart.lower {w : World} {B B' : Nat} {p : Part} (h : OwnPart w B p) (hB : B' ≤ B) : OwnPart w B' p := by
  rcases h with h | ⟨g, cur, h1, h2, h3⟩
  · exact .inl h
  · exact .inr ⟨g, cur, h1, by omega, h3⟩
theorem pcells_snoc (L : List Part) (p : Part) : pcells (L ++ [p]) = pcells L ++ [.slice p.A p.n p.c] := by unfold pcells; simp
/-- what a row of bytes is, cut behind. -/
theorem own_cut {w : World} {B m n : Nat} {v : Value} {V : Nat → Nat} (h : w.ownsRow B 5 1 v m (ycells V m)) (hn : n ≤ m) (hV : ∀ k, k < m → V k < 256) :
    ∃ (A : Option Addr) (c : Nat), v = .slice A m c ∧ m ≤ c ∧ (A = none → m = 0 ∧ c = 0) ∧ OwnPart w B ⟨A, n, c, V⟩ := by
  have hc := h
  rcases h.2 with ⟨rfl, rfl⟩ | ⟨g, cap, cur, rfl, hb, hg, hcap, rest⟩
  · exact ⟨none, 0, rfl, Nat.le_refl _, fun _ => ⟨rfl, rfl⟩, .inl ⟨rfl, by show n = 0; omega, rfl⟩⟩
  · refine ⟨some ⟨g, 0, none⟩, cap, rfl, hcap, fun e => (by cases e), .inr ⟨g, cur, rfl, hb, hg, by show n ≤ cap; omega, rest.1, fun k hk => ⟨?_, hV k (by have : k < n := hk; omega)⟩⟩⟩
    · have hk : k < n := hk
      have h1 := hc.cells rfl k _ (ycells_at V m k (by omega))
      have e : (⟨g, 0, none⟩ : Addr).add k = ⟨g, k, none⟩ := by unfold Addr.add; split <;> simp_all
      rw [e, cell_of_row w g k cur 5 (0, 0) hg] at h1
      exact h1

/-- a row of slices of the call's own, as sections. -/
theorem row_secs {w : World} {B B' i : Nat} {o : Value} {L : List Part} (h : w.ownsRow B 35 1 o i (pcells L)) (hl : L.length = i) (hp : ∀ (q : Nat) (p : Part), L[q]? = some p → OwnPart w B' p) : ∃ (P : Option Addr) (c : Nat), o = .slice P L.length c ∧ Secs w w.heap.size P L := by
  subst hl
  rcases Joins.ownsRow_forms h with ⟨rfl, h0⟩ | ⟨g, cap, rfl⟩
  · refine ⟨none, 0, by rw [h0], fun j p hj => ?_⟩
    have := (List.getElem?_eq_some_iff.1 hj).1
    omega
  · refine ⟨some ⟨g, 0, none⟩, cap, rfl, fun j p hj => ?_⟩
    obtain ⟨h1, h2, h3, h4⟩ := (hp j p hj).bys
    exact ⟨⟨g, 0, none⟩, rfl, (h.lt g rfl).2, h.cells rfl j _ (pcells_at hj), h1, h2, h3, h4⟩
theorem pcells_one (L : List Part) : ∀ v ∈ pcells L, v.oneCell' = true := by
  intro v hv
  unfold pcells at hv
  rw [List.mem_map] at hv
  obtain ⟨p, _, rfl⟩ := hv
  rfl
theorem pcells_append (L L' : List Part) : pcells (L ++ L') = pcells L ++ pcells L' := by unfold pcells; rw [List.map_append]
end Go.Proofs.YtbkdloebbbmkaaaGreat

namespace Go.Proofs.YtbkdloebbbmkaaaGreat
open Go.RowKit

theorem ofInt_n (x : Nat) (h : x < 2 ^ 64) : (BitVec.ofInt 64 (x : Int)).toNat = x := by
  rw [BitVec.toNat_ofInt]
  omega
theorem bit_low {x : Int} {b : Nat} (h0 : 0 ≤ x) (h1 : x ≤ 4194304) (_ : b ≤ 64) : bits .and .i64 (x / 2 ^ b) 1 % 256 = ((bitN x b : Nat) : Int) := by
  obtain ⟨y, rfl⟩ : ∃ y : Nat, x = (y : Int) := ⟨x.toNat, by omega⟩
  rw [bitN_int]
  unfold bitZ
  rw [shr_u]
  have hy : y / 2 ^ b ≤ 4194304 := Nat.le_trans (Nat.div_le_self _ _) (by omega)
  generalize y / 2 ^ b = u at hy
  have e : bits .and .i64 (u : Int) 1 = ((u % 2 : Nat) : Int) := by
    show IntKind.i64.wrap ((BitVec.ofInt 64 (u : Int) &&& BitVec.ofInt 64 ((1 : Nat) : Int)).toNat : Int) = _
    rw [BitVec.toNat_and, ofInt_n u (by omega), ofInt_n 1 (by omega), Nat.and_one_is_mod]
    exact IntWalk.i64_in _ (by omega)
  rw [e]
  omega
theorem icells_put1 (U : Nat → Int) (m : Nat) (x : Int) : icells (fun p => if p = m then x else U p) (m + 1) = icells U m ++ [.int .i64 x] := by
  rw [icells_snoc, if_pos rfl, icells_congr (U := fun p => if p = m then x else U p) (U' := U) (fun j hj => if_neg (by omega))]
/-- the first k levels, as slices of bytes of the call's own. -/
structure LevP (w : World) (B : Nat) (V : Nat → Int) (n W k : Nat) (L : List Part) : Prop where
  len : L.length = k
  own : ∀ (q : Nat) (p : Part), L[q]? = some p → OwnPart w B p
  bits : ∀ (q : Nat) (p : Part), L[q]? = some p → p.n = n ∧ ∀ i, i < n → p.V i = bitN (levRow V n W q i) (W - 1 - q)

theorem owns_low {w w' : World} {B n : Nat} {t : TypeId} {v : Value} {cs : List Value} (h : w.ownsRow B t 1 v n cs) (hb : Below w.heap.size w w') : w'.ownsRow B t 1 v n cs := by
  refine ⟨h.1, ?_⟩
  rcases h.2 with h0 | ⟨g, cap, cur, e, h1, h2, h3⟩
  · exact .inl h0
  · exact .inr ⟨g, cap, cur, e, h1, (hb.block g (Array.getElem?_eq_some_iff.1 h2).1).trans h2, h3⟩
theorem LevP.below {w w' : World} {B : Nat} {V : Nat → Int} {n W k : Nat} {L : List Part} (h : LevP w B V n W k L) (hb : Below w.heap.size w w') : LevP w' B V n W k L := ⟨h.len, fun q p hq => (h.own q p hq).below hb, h.bits⟩
theorem LevP.push {w w' : World} {B i : Nat} {V : Nat → Int} {n W k : Nat} {L : List Part} {v : Value} {cs : List Value} (h : LevP w B V n W k L) (hv : w.ownsRow B 35 1 v i cs) (hg : w.grownBy w' v.ownBlock) {p : Part} (hp : OwnPart w B p) (hb : p.n = n ∧ ∀ i, i < n → p.V i = bitN (levRow V n W k i) (W - 1 - k)) : LevP w' B V n W (k + 1) (L ++ [p]) := by
  have hsn : ∀ (q : Nat) (x : Part), (L ++ [p])[q]? = some x → (q < k ∧ L[q]? = some x) ∨ (q = k ∧ x = p) := fun q x hx => by
    by_cases e : q < k
    · rw [List.getElem?_append_left (by rw [h.len]; exact e)] at hx
      exact .inl ⟨e, hx⟩
    · have hl := (List.getElem?_eq_some_iff.1 hx).1
      rw [List.length_append, h.len] at hl
      have hq : q = k := by
        have : ([p] : List Part).length = 1 := rfl
        omega
      subst hq
      rw [List.getElem?_append_right (by rw [h.len]; omega), h.len, Nat.sub_self] at hx
      cases hx
      exact .inr ⟨rfl, rfl⟩
  refine ⟨by rw [List.length_append, h.len]; rfl, fun q x hq => ?_, fun q x hq => ?_⟩
  · rcases hsn q x hq with ⟨_, g⟩ | ⟨_, rfl⟩
    · exact (h.own q x g).grown hv hg
    · exact hp.grown hv hg
  · rcases hsn q x hq with ⟨_, g⟩ | ⟨rfl, rfl⟩
    · exact h.bits q x g
    · exact hb

end Go.Proofs.YtbkdloebbbmkaaaGreat

namespace Go.Proofs.YtbkdloebbbmkaaaGreat
open Go.RowKit
section
variable {w : World} {g gs width n : Nat} {ws : List Nat}

theorem mix_num {x m v r width : Nat} (hx : x < 2 ^ 64) (hm : m = 2 ^ width - 1) :
    bits .or .u64 (bits .andNot .u64 (x : Int) (IntKind.u64.wrap ((m : Int) * 2 ^ r))) (IntKind.u64.wrap ((v : Int) * 2 ^ r)) = ((Pl.mixN x ((2 ^ width - 1) * 2 ^ r % 2 ^ 64) (v * 2 ^ r % 2 ^ 64) : Nat) : Int) := by
  have b1 : m * 2 ^ r % 2 ^ 64 < 2 ^ 64 := Nat.mod_lt _ (by decide)
  have b2 : v * 2 ^ r % 2 ^ 64 < 2 ^ 64 := Nat.mod_lt _ (by decide)
  rw [shl_u, shl_u, andNot_u hx b1, or_u (Nat.lt_of_le_of_lt Nat.and_le_left hx) b2, ← hm]
  rfl
theorem mix_num' {x m v s width : Nat} (hx : x < 2 ^ 64) (hm : m = 2 ^ width - 1) (hm64 : m < 2 ^ 64) (hv : v < 2 ^ 64) :
    bits .or .u64 (bits .andNot .u64 (x : Int) ((m : Int) / 2 ^ s)) ((v : Int) / 2 ^ s) = ((Pl.mixN x ((2 ^ width - 1) / 2 ^ s) (v / 2 ^ s) : Nat) : Int) := by
  rw [shr_u, shr_u, andNot_u hx (Pl.div_lt_64 hm64), or_u (Nat.lt_of_le_of_lt Nat.and_le_left hx) (Pl.div_lt_64 hv), ← hm]
  rfl

/-- what Set leaves: v laid as number i, nothing else turned. -/
def SetPost (w : World) (g gs width n : Nat) (ws : List Nat) (e : Ending) (w' : World) : Prop := e = .returned (.bool true) ∧ Pk w' g gs width n ws ∧ w.grownBy w' (some gs)

set_option maxRecDepth 20000 in
set_option maxHeartbeats 800000 in
theorem set_short (h : Pk w g gs width n ws) (hs : Pl.Small ws) (h1 : 1 ≤ width) (hw : width ≤ 64) (hn : n ≤ 4194304) (hL : n * width ≤ 64 * ws.length) (i v q r x0 : Nat) (hi : i < n) (hv : v < 2 ^ width)
    (hq : i * width / 64 = q) (hr : i * width % 64 = r) (hshort : ¬ 64 < r + width) (hx0 : ws.getD q 0 = x0) :
    Calls Tryz.prog 77 #[.pointer (some ⟨g, 0, none⟩), .int .i64 i, .int .u64 v] w (SetPost w g gs width n (Pl.setN ws width i v)) := by
  have hr64 : r < 64 := by rw [← hr]; exact Nat.mod_lt _ (by decide)
  obtain ⟨hq1, hq2⟩ := q_small hw hi hn hq hL h1
  have b0 : x0 < 2 ^ 64 := by rw [← hx0]; exact hs.at_ _
  have HS := Lib.hid (show Pl.setN ws width i v = ws.set q (Pl.mixN x0 ((2 ^ width - 1) * 2 ^ r % 2 ^ 64) (v * 2 ^ r % 2 ^ 64)) by
    unfold Pl.setN
    simp only [hq, hr, hx0, hshort, if_false])
  have hw0 := h.word q hq2
  rw [hx0] at hw0
  have hc0 := h.c0
  have hc2 := h.c2
  have hf := h.body.free q
  have hc0' : ∀ u, (w.setCell ⟨gs, q, none⟩ u).cell? ⟨g, 0, none⟩ = some (.int .i64 (width : Int)) := fun u => (h.head.far h.ne_ u).cell 0
  have HP := Lib.hid (place_any h i q r hw (by omega) hq hr)
  have hvi : (v : Int) ≤ ((2 ^ width - 1 : Nat) : Int) := by omega
  obtain ⟨m, hm⟩ : ∃ m, m = 2 ^ width - 1 := ⟨_, rfl⟩
  have HO : ∀ W, Hid (Calls Tryz.prog 59 #[.int .i64 width] W fun e w' => e = .returned (.int .u64 (m : Int)) ∧ W = w') := fun W => by rw [hm]; exact Lib.hid (ones_any width hw W)
  rw [← hm] at hvi
  have HM := Lib.hid (mix_num (v := v) (r := r) b0 hm)
  clear hx0 hq hr hv hm
  go_enter Tryz.func77, Tryz.ntmps77
  go_wp2_with (first
      | (go_at_call 57; refine (has_yes h i hi).mono ?_; rintro e w' ⟨rfl, rfl⟩)
      | (go_at_call 58; refine HP.out.mono ?_; rintro e w' ⟨rfl, rfl⟩)
      | (go_at_call 59; refine (HO _).out.mono ?_; rintro e w' ⟨rfl, rfl⟩))
  go_still_tail 21, (by kernel_rfl)
  change wpList _ _ _ _ _ w.drew
  go_wp2
  go_ret
  refine ⟨rfl, ?_, ?_⟩
  · rw [HS.out, HM.out]
    exact (h.put q _).drew
  · exact grownBy_drew (grownBy_put (grownBy_of_below (Below.refl _ _) _) q _)

set_option maxRecDepth 20000 in
set_option maxHeartbeats 1600000 in
theorem set_long (h : Pk w g gs width n ws) (hs : Pl.Small ws) (h1 : 1 ≤ width) (hw : width ≤ 64) (hn : n ≤ 4194304) (hL : n * width ≤ 64 * ws.length) (i v q r x0 x1 : Nat) (hi : i < n) (hv : v < 2 ^ width)
    (hq : i * width / 64 = q) (hr : i * width % 64 = r) (hlong : 64 < r + width) (hx0 : ws.getD q 0 = x0) (hx1 : ws.getD (q + 1) 0 = x1) :
    Calls Tryz.prog 77 #[.pointer (some ⟨g, 0, none⟩), .int .i64 i, .int .u64 v] w (SetPost w g gs width n (Pl.setN ws width i v)) := by
  have hr64 : r < 64 := by rw [← hr]; exact Nat.mod_lt _ (by decide)
  obtain ⟨hq1, hq2⟩ := q_small hw hi hn hq hL h1
  have hq3 := q_next hi hq hr hL hlong
  have b0 : x0 < 2 ^ 64 := by rw [← hx0]; exact hs.at_ _
  have b1 : x1 < 2 ^ 64 := by rw [← hx1]; exact hs.at_ _
  have hv64 : v < 2 ^ 64 := Nat.lt_of_lt_of_le hv (Pl.two_pow_le_64 hw)
  have HS := Lib.hid (show Pl.setN ws width i v = (ws.set q (Pl.mixN x0 ((2 ^ width - 1) * 2 ^ r % 2 ^ 64) (v * 2 ^ r % 2 ^ 64))).set (q + 1) (Pl.mixN x1 ((2 ^ width - 1) / 2 ^ (64 - r)) (v / 2 ^ (64 - r))) by
    unfold Pl.setN
    simp only [hq, hr, hx0, hx1, hlong, if_true])
  have hw0 := h.word q hq2
  have hw1 := h.word (q + 1) hq3
  rw [hx0] at hw0
  rw [hx1] at hw1
  have hc0 := h.c0
  have hc2 := h.c2
  have hf := h.body.free q
  have hc0' : ∀ u, (w.setCell ⟨gs, q, none⟩ u).cell? ⟨g, 0, none⟩ = some (.int .i64 (width : Int)) := fun u => (h.head.far h.ne_ u).cell 0
  have HP := Lib.hid (place_any h i q r hw (by omega) hq hr)
  have hvi : (v : Int) ≤ ((2 ^ width - 1 : Nat) : Int) := by omega
  obtain ⟨m, hm⟩ : ∃ m, m = 2 ^ width - 1 := ⟨_, rfl⟩
  have hm64 : m < 2 ^ 64 := by rw [hm]; have := Pl.two_pow_le_64 hw; have := Nat.two_pow_pos width; omega
  have HO : ∀ W, Hid (Calls Tryz.prog 59 #[.int .i64 width] W fun e w' => e = .returned (.int .u64 (m : Int)) ∧ W = w') := fun W => by rw [hm]; exact Lib.hid (ones_any width hw W)
  rw [← hm] at hvi
  have HM := Lib.hid (mix_num (v := v) (r := r) b0 hm)
  have HM1 := Lib.hid (mix_num' (v := v) (s := 64 - r) b1 hm hm64 hv64)
  clear hx0 hx1 hq hr hv hm
  go_enter Tryz.func77, Tryz.ntmps77
  go_wp2_with (first
      | (go_at_call 57; refine (has_yes h i hi).mono ?_; rintro e w' ⟨rfl, rfl⟩)
      | (go_at_call 58; refine HP.out.mono ?_; rintro e w' ⟨rfl, rfl⟩)
      | (go_at_call 59; refine (HO _).out.mono ?_; rintro e w' ⟨rfl, rfl⟩))
  go_still_tail 21, (by kernel_rfl)
  change wpList _ _ _ _ _ w.drew
  go_wp2
  rw [HM.out]
  obtain ⟨y, hy⟩ : ∃ y, Pl.mixN x0 ((2 ^ width - 1) * 2 ^ r % 2 ^ 64) (v * 2 ^ r % 2 ^ 64) = y := ⟨_, rfl⟩
  rw [hy] at HS ⊢
  have hp1 := (h.put q y).drew
  have hg1 : w.grownBy (w.setCell ⟨gs, q, none⟩ (.int .u64 (y : Int))).drew (some gs) := grownBy_drew (grownBy_put (grownBy_of_below (Below.refl _ _) _) q _)
  have hw1' : (w.setCell ⟨gs, q, none⟩ (.int .u64 (y : Int))).drew.cell? ⟨gs, q + 1, none⟩ = some (.int .u64 (x1 : Int)) := (World.cell?_setCell_other w ⟨gs, q, none⟩ ⟨gs, q + 1, none⟩ _ (by simp)).trans hw1
  clear hy hw0 hw1 hc0 hc2 hf hc0'
  generalize (w.setCell ⟨gs, q, none⟩ (.int .u64 (y : Int))).drew = w1 at hp1 hg1 hw1' ⊢
  have hc2 := hp1.c2
  rw [List.length_set] at hc2
  have hf := hp1.body.free (q + 1)
  have es : 64 - (r : Int) = ((64 - r : Nat) : Int) := by omega
  rw [es]
  clear es
  have hs64 : 64 - r ≤ 64 := by omega
  generalize 64 - r = s at HS HM1 hs64 ⊢
  have e2 : 0 ≤ (q : Int) + 1 := by omega
  have e4 : (q : Int) + 1 < ws.length := by omega
  have e3 : ((q : Int) + 1).toNat = q + 1 := by omega
  have e1 : IntKind.i64.wrap ((q : Int) + 1) = (q : Int) + 1 := IntWalk.i64_in _ (by omega)
  go_still_tail 23, (by kernel_rfl)
  change wpList _ _ _ _ _ (World.drew _)
  go_wp2
  go_ret
  refine ⟨rfl, ?_, ?_⟩
  · rw [HS.out, HM1.out]
    exact (hp1.put (q + 1) _).drew
  · exact grownBy_drew (grownBy_put hg1 (q + 1) _)
/-- Set at a place of the list, of a number that fits. -/
theorem set_any (h : Pk w g gs width n ws) (hs : Pl.Small ws) (h1 : 1 ≤ width) (hw : width ≤ 64) (hn : n ≤ 4194304) (hL : n * width ≤ 64 * ws.length) (i v : Nat) (hi : i < n) (hv : v < 2 ^ width) :
    Calls Tryz.prog 77 #[.pointer (some ⟨g, 0, none⟩), .int .i64 i, .int .u64 v] w (SetPost w g gs width n (Pl.setN ws width i v)) := by
  by_cases hlong : 64 < i * width % 64 + width
  · exact set_long h hs h1 hw hn hL i v _ _ _ _ hi hv rfl rfl hlong rfl rfl
  · exact set_short h hs h1 hw hn hL i v _ _ _ hi hv rfl rfl hlong rfl

/-- Set at no place of the list. -/
theorem set_out (h : Pk w g gs width n ws) (i v : Int) (hi : i < 0 ∨ (n : Int) ≤ i) :
    Calls Tryz.prog 77 #[.pointer (some ⟨g, 0, none⟩), .int .i64 i, .int .u64 v] w fun e w' => e = .returned (.bool false) ∧ w = w' := by
  go_enter Tryz.func77, Tryz.ntmps77
  go_wp2_with (go_at_call 57; refine (has_no h i hi).mono ?_; rintro e w' ⟨rfl, rfl⟩)
  go_ret
  exact ⟨rfl, rfl⟩
theorem set_nil (i v : Int) (w : World) :
    Calls Tryz.prog 77 #[.pointer none, .int .i64 i, .int .u64 v] w fun e w' => e = .returned (.bool false) ∧ w = w' := by
  go_enter Tryz.func77, Tryz.ntmps77
  go_wp2_with (go_at_call 57; refine (has_nil i _).mono ?_; rintro e w' ⟨rfl, rfl⟩)
  go_ret
  exact ⟨rfl, rfl⟩
/-- Set of a number that does not fit. -/
theorem set_wide (h : Pk w g gs width n ws) (hw : width ≤ 64) (i v : Nat) (hi : i < n) (hv : 2 ^ width ≤ v) :
    Calls Tryz.prog 77 #[.pointer (some ⟨g, 0, none⟩), .int .i64 i, .int .u64 v] w fun e w' => e = .returned (.bool false) ∧ w = w' := by
  have hc0 := h.c0
  obtain ⟨m, hm⟩ : ∃ m, m = 2 ^ width - 1 := ⟨_, rfl⟩
  have HO : ∀ W, Hid (Calls Tryz.prog 59 #[.int .i64 width] W fun e w' => e = .returned (.int .u64 (m : Int)) ∧ W = w') := fun W => by rw [hm]; exact Lib.hid (ones_any width hw W)
  have hvi : m < v := by have := Nat.two_pow_pos width; omega
  clear hm hv
  go_enter Tryz.func77, Tryz.ntmps77
  go_wp2_with (first
      | (go_at_call 57; refine (has_yes h i hi).mono ?_; rintro e w' ⟨rfl, rfl⟩)
      | (go_at_call 59; refine (HO _).out.mono ?_; rintro e w' ⟨rfl, rfl⟩))
  go_ret
  exact ⟨rfl, rfl⟩
end
end Go.Proofs.YtbkdloebbbmkaaaGreat

namespace Go.Proofs.YtbkdloebbbmkaaaGreat
open Go.RowKit

/-- a packed list and its numbers, both told. -/
structure Full (w : World) (g gs width n : Nat) (ws : List Nat) (x : Nat → Nat) : Prop where
  pk : Pk w g gs width n ws
  holds : Pl.Holds ws width n x
  few : n ≤ 4194304

section
variable {w w' : World} {g gs width n : Nat} {ws : List Nat} {x : Nat → Nat}
theorem Full.room (h : Full w g gs width n ws x) : n * width ≤ 64 * ws.length := by rw [h.holds.len]; omega
theorem Full.short (h : Full w g gs width n ws x) : ws.length ≤ 4194304 := by
  rw [h.holds.len]
  have : n * width ≤ 4194304 * 64 := Nat.mul_le_mul h.few h.holds.w64
  omega
theorem Full.keep (h : Full w g gs width n ws x) (h1 : w'.heap[g]? = w.heap[g]?) (h2 : w'.heap[gs]? = w.heap[gs]?) : Full w' g gs width n ws x := ⟨h.pk.keep h1 h2, h.holds, h.few⟩
theorem Full.below {B : Nat} (h : Full w g gs width n ws x) (hb : Below B w w') (hg : g < B) (hgs : gs < B) : Full w' g gs width n ws x := ⟨h.pk.below hb hg hgs, h.holds, h.few⟩
theorem Full.grown {row : Option Nat} (h : Full w g gs width n ws x) (hb : w.grownBy w' row) (hg : some g ≠ row) (hgs : some gs ≠ row) : Full w' g gs width n ws x := ⟨h.pk.grown hb hg hgs, h.holds, h.few⟩

theorem Full.alloc (h : Full w g gs width n ws x) (o : Obj) : Full (w.alloc o) g gs width n ws x := ⟨h.pk.alloc o, h.holds, h.few⟩
theorem Full.far (h : Full w g gs width n ws x) {p : Addr} (h1 : g ≠ p.block) (h2 : gs ≠ p.block) (u : Value) : Full (w.setCell p u) g gs width n ws x := h.keep (Below.heap_setCell w p u g h1) (Below.heap_setCell w p u gs h2)

theorem Full.drewN (h : Full w g gs width n ws x) (k : Nat) : Full (w.drewN k) g gs width n ws x := ⟨h.pk.drewN k, h.holds, h.few⟩
theorem Lies.drewN_ {t : TypeId} {cs : List Value} (h : Lies w g t cs) (k : Nat) : Lies (w.drewN k) g t cs := h
/-- a contract that keeps the world, as a step of a region that draws its order. -/
theorem quiet_keep {f : FuncId} {args : Array Value} {m : Nat} {v : Value} (h : Calls Tryz.prog f args (w.drewN m) fun e w' => e = .returned v ∧ w.drewN m = w') :
    Calls Tryz.prog f args (w.drewN m) fun e w'' => e = .returned v ∧ ∃ j, w'' = w.drewN j := h.mono fun _ _ hh => ⟨hh.1, m, hh.2.symm⟩

/-- Get, by the numbers. -/
theorem Full.get (h : Full w g gs width n ws x) (i : Nat) (hi : i < n) :
    Calls Tryz.prog 40 #[.pointer (some ⟨g, 0, none⟩), .int .i64 i] w fun e w' => e = .returned (.int .u64 ((x i : Nat) : Int)) ∧ w = w' := by
  have c := get_any h.pk h.holds.small h.holds.w1 h.holds.w64 h.few h.room i hi
  rw [h.holds.get hi] at c
  exact c
theorem Full.getOut (h : Full w g gs width n ws x) (i : Int) (hi : i < 0 ∨ (n : Int) ≤ i) :
    Calls Tryz.prog 40 #[.pointer (some ⟨g, 0, none⟩), .int .i64 i] w fun e w' => e = .returned (.int .u64 0) ∧ w = w' := get_out h.pk i hi

/-- what Set leaves, by the numbers. -/
def SetFull (w : World) (g gs width n : Nat) (x : Nat → Nat) (i v : Nat) (e : Ending) (w' : World) : Prop :=
  e = .returned (.bool true) ∧ ∃ ws, Full w' g gs width n ws (fun k => if k = i then v else x k) ∧ w.grownBy w' (some gs)
theorem Full.set_ (h : Full w g gs width n ws x) (i v : Nat) (hi : i < n) (hv : v < 2 ^ width) :
    Calls Tryz.prog 77 #[.pointer (some ⟨g, 0, none⟩), .int .i64 i, .int .u64 v] w (SetFull w g gs width n x i v) :=
  (set_any h.pk h.holds.small h.holds.w1 h.holds.w64 h.few h.room i v hi hv).mono fun _ _ ⟨he, hp, hg⟩ => ⟨he, _, ⟨hp, h.holds.set_ hi hv, h.few⟩, hg⟩
end

/-- what New leaves, by the numbers. -/
def NewFull (w : World) (width n : Nat) (e : Ending) (w' : World) : Prop :=
  ∃ g gs : Nat, e = .returned (.tuple #[.pointer (some ⟨g, 0, none⟩), .int .i64 0]) ∧ w.heap.size ≤ g ∧ w.heap.size ≤ gs ∧ Below w.heap.size w w' ∧ ∃ ws, Full w' g gs width n ws (fun _ => 0)
theorem new_full (width n : Nat) (h1 : 1 ≤ width) (h64 : width ≤ 64) (hn : n ≤ 4194304) (w : World) :
    Calls Tryz.prog 76 #[.int .i64 width, .int .i64 n] w (NewFull w width n) :=
  (new_any width n h1 h64 hn w).mono fun _ _ ⟨g, gs, he, hg, hgs, hp, hb⟩ => ⟨g, gs, he, hg, hgs, hb, _, hp, Pl.holds_new width n h1 h64, hn⟩
end Go.Proofs.YtbkdloebbbmkaaaGreat

namespace Go.Proofs.YtbkdloebbbmkaaaGreat
open Go.RowKit

/-- what the bits of a list are, its words being these. -/
structure Bits (ws : List Nat) (n : Nat) (f : Nat → Bool) : Prop where
  few : n ≤ 4194304
  len : ws.length = (n + 63) / 64
  small : Pl.Small ws
  same : ∀ i, i < n → Pl.bitAt ws i = f i
  behind : ∀ i, n ≤ i → Pl.bitAt ws i = false

/-- a list of bits as it lies: its struct in block g, its words in block gw; its counts are the value av; all of it in blocks from B on. -/
structure Vc (w : World) (B g gw : Nat) (av : Value) (n : Nat) (ws : List Nat) (f : Nat → Bool) : Prop where
  head : Lies w g 92 [.int .i64 (n : Int), .int .i64 ((Pl.cnt f n : Nat) : Int), .slice (some ⟨gw, 0, none⟩) ws.length ws.length, av]
  body : Lies w gw 70 (wcells ws)
  row : ∀ k, 8 * k < ws.length → ∃ ga c : Nat, av = .slice (some ⟨ga, 0, none⟩) ((ws.length + 7) / 8) c ∧ B ≤ ga ∧ ga < w.heap.size ∧ w.cell? ⟨ga, k, none⟩ = some (.int .i64 ((Pl.cnt f (512 * k) : Nat) : Int))
  bits : Bits ws n f
  lo : B ≤ g ∧ B ≤ gw

section
variable {w w' : World} {B g gw n : Nat} {av : Value} {ws : List Nat} {f : Nat → Bool}
theorem Vc.keep (h : Vc w B g gw av n ws f) (hb : Below w.heap.size w w') : Vc w' B g gw av n ws f :=
  ⟨h.head.below hb h.head.lt, h.body.below hb h.body.lt, fun k hk => by
    obtain ⟨ga, c, e, h1, h2, h3⟩ := h.row k hk
    exact ⟨ga, c, e, h1, Nat.lt_of_lt_of_le h2 hb.size, (hb.cell (p := ⟨ga, k, none⟩) h2).trans h3⟩, h.bits, h.lo⟩
theorem cell_of_heap {w w' : World} {g k : Nat} (e : w'.heap[g]? = w.heap[g]?) : w'.cell? ⟨g, k, none⟩ = w.cell? ⟨g, k, none⟩ := by
  simp only [World.cell?, e]
/-- a store into a block from before B. -/
theorem Vc.old {q : Nat} (h : Vc w B g gw av n ws f) (hb : w.grownBy w' (some q)) (hq : q < B) : Vc w' B g gw av n ws f :=
  ⟨h.head.grown hb (by have := h.lo.1; intro e; injection e; omega), h.body.grown hb (by have := h.lo.2; intro e; injection e; omega), fun k hk => by
    obtain ⟨ga, c, e, h1, h2, h3⟩ := h.row k hk
    exact ⟨ga, c, e, h1, Nat.lt_of_lt_of_le h2 hb.size, (cell_of_heap (hb.block ga h2 (by intro e; injection e; omega))).trans h3⟩, h.bits, h.lo⟩
theorem Vc.drewN (h : Vc w B g gw av n ws f) (k : Nat) : Vc (w.drewN k) B g gw av n ws f := ⟨h.head, h.body, h.row, h.bits, h.lo⟩
theorem Vc.c0 (h : Vc w B g gw av n ws f) : w.cell? ⟨g, 0, none⟩ = some (.int .i64 (n : Int)) := h.head.cell 0
theorem Vc.c1 (h : Vc w B g gw av n ws f) : w.cell? ⟨g, 1, none⟩ = some (.int .i64 ((Pl.cnt f n : Nat) : Int)) := h.head.cell 1
theorem Vc.c2 (h : Vc w B g gw av n ws f) : w.cell? ⟨g, 2, none⟩ = some (.slice (some ⟨gw, 0, none⟩) ws.length ws.length) := h.head.cell 2
theorem Vc.c3 (h : Vc w B g gw av n ws f) : w.cell? ⟨g, 3, none⟩ = some av := h.head.cell 3
theorem Vc.word (h : Vc w B g gw av n ws f) (k : Nat) (hk : k < ws.length) : w.cell? ⟨gw, k, none⟩ = some (.int .u64 ((ws.getD k 0 : Nat) : Int)) := by
  rw [h.body.cell k]; exact wcells_at ws k hk

theorem vlen_any (h : Vc w B g gw av n ws f) : Calls Tryz.prog 55 #[.pointer (some ⟨g, 0, none⟩)] w fun e w' => e = .returned (.int .i64 (n : Int)) ∧ w = w' := by
  have h1 := h.c0
  go_enter Tryz.func55, Tryz.ntmps55
  go_wp2
  go_ret
  exact ⟨rfl, rfl⟩
theorem vlen_nil (w : World) : Calls Tryz.prog 55 #[.pointer none] w fun e w' => e = .returned (.int .i64 0) ∧ w = w' := by
  go_enter Tryz.func55, Tryz.ntmps55
  go_wp2
  go_ret
  exact ⟨rfl, rfl⟩
theorem vones_any (h : Vc w B g gw av n ws f) : Calls Tryz.prog 61 #[.pointer (some ⟨g, 0, none⟩)] w fun e w' => e = .returned (.int .i64 ((Pl.cnt f n : Nat) : Int)) ∧ w = w' := by
  have h1 := h.c1
  go_enter Tryz.func61, Tryz.ntmps61
  go_wp2
  go_ret
  exact ⟨rfl, rfl⟩
theorem vones_nil (w : World) : Calls Tryz.prog 61 #[.pointer none] w fun e w' => e = .returned (.int .i64 0) ∧ w = w' := by
  go_enter Tryz.func61, Tryz.ntmps61
  go_wp2
  go_ret
  exact ⟨rfl, rfl⟩

theorem within_any (h : Vc w B g gw av n ws f) (i : Int) : Calls Tryz.prog 60 #[.pointer (some ⟨g, 0, none⟩), .int .i64 i] w fun e w' => e = .returned (.int .i64 ((Pl.clamp n i : Nat) : Int)) ∧ w = w' := by
  have hc := Lib.hid (show Pl.clamp n i = (max 0 (min i (n : Int))).toNat from rfl)
  by_cases h1 : (n : Int) < i
  · by_cases h2 : 0 < n
    all_goals
      go_enter Tryz.func60, Tryz.ntmps60
      go_wp2_with (go_at_call 55; refine (vlen_any h).mono ?_; rintro e w' ⟨rfl, rfl⟩)
      go_ret
      exact ⟨ret_i64 (by rw [hc.out]; omega), rfl⟩
  · by_cases h2 : 0 < i
    all_goals
      go_enter Tryz.func60, Tryz.ntmps60
      go_wp2_with (go_at_call 55; refine (vlen_any h).mono ?_; rintro e w' ⟨rfl, rfl⟩)
      go_ret
      exact ⟨ret_i64 (by rw [hc.out]; omega), rfl⟩
theorem within_nil (i : Int) (w : World) : Calls Tryz.prog 60 #[.pointer none, .int .i64 i] w fun e w' => e = .returned (.int .i64 0) ∧ w = w' := by
  by_cases h1 : 0 < i
  all_goals
    go_enter Tryz.func60, Tryz.ntmps60
    go_wp2_with (go_at_call 55; refine (vlen_nil _).mono ?_; rintro e w' ⟨rfl, rfl⟩)
    all_goals
      go_ret
      exact ⟨ret_i64 (by omega), rfl⟩

theorem bit_test (x s : Nat) (hx : x < 2 ^ 64) : (bits .and .u64 ((x : Int) / 2 ^ s) 1 == 1) = x.testBit s := by
  have h1 : (1 : Int) = ((1 : Nat) : Int) := rfl
  rw [shr_u, h1, and_u (Pl.div_lt_64 hx) (by decide), Nat.and_one_is_mod, ← Nat.shiftRight_eq_div_pow]
  have e := Nat.testBit_zero (x >>> s)
  rw [Nat.testBit_shiftRight, Nat.add_zero] at e
  rw [e]
  rcases Nat.mod_two_eq_zero_or_one (x >>> s) with h | h <;> simp [h]

/-- the answer of At. -/
def atB (f : Nat → Bool) (n : Nat) (i : Int) : Bool := decide (0 ≤ i ∧ i < (n : Int)) && f i.toNat

set_option maxHeartbeats 400000 in
theorem at_in (h : Vc w B g gw av n ws f) (i : Nat) (hi : i < n) : Calls Tryz.prog 38 #[.pointer (some ⟨g, 0, none⟩), .int .i64 (i : Int)] w fun e w' => e = .returned (.bool (f i)) ∧ w = w' := by
  have hq : i / 64 < ws.length := by rw [h.bits.len]; omega
  have hf := h.bits.few
  have h2 := h.c2
  have hw := h.word (i / 64) hq
  have hs := h.bits.same i hi
  have hx := h.bits.small.at_ (i / 64)
  unfold Pl.bitAt at hs
  generalize ws.getD (i / 64) 0 = x at hw hs hx
  have ht := bit_test x (i % 64) hx
  rw [hs] at ht
  have HT := Lib.hid ht
  clear hs ht hx
  have hLen := Lib.hid (vlen_any h)
  clear h
  go_enter Tryz.func38, Tryz.ntmps38
  go_wp2_with (go_at_call 55; refine hLen.out.mono ?_; rintro e w' ⟨rfl, rfl⟩)
  go_ret
  rw [HT.out]
  exact ⟨rfl, rfl⟩
theorem at_out (h : Vc w B g gw av n ws f) (i : Int) (hi : i < 0 ∨ (n : Int) ≤ i) : Calls Tryz.prog 38 #[.pointer (some ⟨g, 0, none⟩), .int .i64 i] w fun e w' => e = .returned (.bool false) ∧ w = w' := by
  by_cases h0 : i < 0
  · go_enter Tryz.func38, Tryz.ntmps38
    go_wp2_with (go_at_call 55; refine (vlen_any h).mono ?_; rintro e w' ⟨rfl, rfl⟩)
    go_ret
    exact ⟨rfl, rfl⟩
  · go_enter Tryz.func38, Tryz.ntmps38
    go_wp2_with (go_at_call 55; refine (vlen_any h).mono ?_; rintro e w' ⟨rfl, rfl⟩)
    go_ret
    exact ⟨rfl, rfl⟩
theorem at_any (h : Vc w B g gw av n ws f) (i : Int) : Calls Tryz.prog 38 #[.pointer (some ⟨g, 0, none⟩), .int .i64 i] w fun e w' => e = .returned (.bool (atB f n i)) ∧ w = w' := by
  unfold atB
  by_cases hi : 0 ≤ i ∧ i < (n : Int)
  · obtain ⟨k, rfl⟩ : ∃ k : Nat, i = k := ⟨i.toNat, by omega⟩
    have e : decide (0 ≤ (k : Int) ∧ (k : Int) < (n : Int)) = true := by simpa using hi
    rw [e, Int.toNat_natCast, Bool.true_and]
    exact at_in h k (by omega)
  · have e : decide (0 ≤ i ∧ i < (n : Int)) = false := by simpa using hi
    rw [e, Bool.false_and]
    exact at_out h i (by omega)
theorem at_nil (i : Int) (w : World) : Calls Tryz.prog 38 #[.pointer none, .int .i64 i] w fun e w' => e = .returned (.bool false) ∧ w = w' := by
  by_cases h0 : i < 0
  all_goals
    go_enter Tryz.func38, Tryz.ntmps38
    go_wp2_with (go_at_call 55; refine (vlen_nil _).mono ?_; rintro e w' ⟨rfl, rfl⟩)
    go_ret
    exact ⟨rfl, rfl⟩
end
end Go.Proofs.YtbkdloebbbmkaaaGreat

namespace Go.Proofs.YtbkdloebbbmkaaaGreat.Pl

/-- bytes, the lowest first, as one number. -/
def num : List Nat → Nat
  | [] => 0
  | a :: l => a + 256 * num l
/-- a byte so many times. -/
def rep (c : Nat) : List Nat → Nat
  | [] => 0
  | _ :: l => c + 256 * rep c l

theorem and_num {a b c d : Nat} (ha : a < 256) (hc : c < 256) : (a + 256 * b) &&& (c + 256 * d) = (a &&& c) + 256 * (b &&& d) := by
  have h1 : ((a + 256 * b) &&& (c + 256 * d)) / 2 ^ 8 = b &&& d := by
    rw [Nat.and_div_two_pow]
    congr 1 <;> omega
  have h2 : ((a + 256 * b) &&& (c + 256 * d)) % 2 ^ 8 = a &&& c := by
    rw [Nat.and_mod_two_pow]
    congr 1 <;> omega
  have h3 := Nat.div_add_mod ((a + 256 * b) &&& (c + 256 * d)) (2 ^ 8)
  rw [h1, h2] at h3
  omega

def f1 (a : Nat) : Nat := (a / 2 &&& 85) + (a &&& 85)
def f2 (a : Nat) : Nat := (a / 4 &&& 51) + (a &&& 51)
def f3 (a : Nat) : Nat := (a / 16 + a) &&& 15

theorem low1 : ∀ a, a < 256 → ∀ r, r < 2 → (a / 2 + 128 * r) &&& 85 = a / 2 &&& 85 := by decide +kernel
theorem low2 : ∀ a, a < 256 → ∀ r, r < 4 → (a / 4 + 64 * r) &&& 51 = a / 4 &&& 51 := by decide +kernel
theorem low3 : ∀ a, a < 256 → a % 16 ≤ 4 → a / 16 ≤ 4 → ∀ r, r < 5 → (a / 16 + 16 * r + a) &&& 15 = (a / 16 + a) &&& 15 ∧ a / 16 + 16 * r + a < 256 := by decide +kernel
theorem f1_lt : ∀ a, a < 256 → f1 a < 256 := by decide +kernel
theorem f2_lt : ∀ a, a < 256 → f2 (f1 a) < 256 ∧ f2 (f1 a) % 16 ≤ 4 ∧ f2 (f1 a) / 16 ≤ 4 := by decide +kernel
theorem f3_pop : ∀ a, a < 256 → f3 (f2 (f1 a)) = cnt a.testBit 8 := by decide +kernel

theorem step1 : ∀ l : List Nat, (∀ a ∈ l, a < 256) → (num l / 2 &&& rep 85 l) + (num l &&& rep 85 l) = num (l.map f1)
  | [], _ => by simp [num, rep]
  | a :: l, h => by
    have ha := h a (List.mem_cons_self ..)
    have ih := step1 l (fun x hx => h x (List.mem_cons_of_mem _ hx))
    have e : (a + 256 * num l) / 2 = (a / 2 + 128 * (num l % 2)) + 256 * (num l / 2) := by omega
    show ((a + 256 * num l) / 2 &&& (85 + 256 * rep 85 l)) + ((a + 256 * num l) &&& (85 + 256 * rep 85 l)) = f1 a + 256 * num (l.map f1)
    rw [e, and_num (by omega) (by decide), and_num ha (by decide), low1 a ha _ (Nat.mod_lt _ (by decide)), ← ih]
    unfold f1
    omega
theorem step2 : ∀ l : List Nat, (∀ a ∈ l, a < 256) → (num l / 4 &&& rep 51 l) + (num l &&& rep 51 l) = num (l.map f2)
  | [], _ => by simp [num, rep]
  | a :: l, h => by
    have ha := h a (List.mem_cons_self ..)
    have ih := step2 l (fun x hx => h x (List.mem_cons_of_mem _ hx))
    have e : (a + 256 * num l) / 4 = (a / 4 + 64 * (num l % 4)) + 256 * (num l / 4) := by omega
    show ((a + 256 * num l) / 4 &&& (51 + 256 * rep 51 l)) + ((a + 256 * num l) &&& (51 + 256 * rep 51 l)) = f2 a + 256 * num (l.map f2)
    rw [e, and_num (by omega) (by decide), and_num ha (by decide), low2 a ha _ (Nat.mod_lt _ (by decide)), ← ih]
    unfold f2
    omega
theorem num_mod16 {l : List Nat} (h : ∀ a ∈ l, a % 16 ≤ 4) : num l % 16 ≤ 4 := by
  cases l with
  | nil => simp [num]
  | cons a l =>
    have := h a (List.mem_cons_self ..)
    show (a + 256 * num l) % 16 ≤ 4
    omega
theorem step3 : ∀ l : List Nat, (∀ a ∈ l, a < 256 ∧ a % 16 ≤ 4 ∧ a / 16 ≤ 4) → (num l / 16 + num l) &&& rep 15 l = num (l.map f3)
  | [], _ => by simp [num, rep]
  | a :: l, h => by
    obtain ⟨ha, ha1, ha2⟩ := h a (List.mem_cons_self ..)
    have ih := step3 l (fun x hx => h x (List.mem_cons_of_mem _ hx))
    have hm := num_mod16 (l := l) (fun x hx => (h x (List.mem_cons_of_mem _ hx)).2.1)
    obtain ⟨l1, l2⟩ := low3 a ha ha1 ha2 (num l % 16) (by omega)
    have e : (a + 256 * num l) / 16 + (a + 256 * num l) = (a / 16 + 16 * (num l % 16) + a) + 256 * (num l / 16 + num l) := by omega
    show ((a + 256 * num l) / 16 + (a + 256 * num l)) &&& (15 + 256 * rep 15 l) = f3 a + 256 * num (l.map f3)
    rw [e, and_num l2 (by decide), l1, ← ih]
    rfl

theorem cnt_num : ∀ (l : List Nat) (a : Nat), a < 256 → ∀ k, cnt (a + 256 * num l).testBit (8 + k) = cnt a.testBit 8 + cnt (num l).testBit k := fun l a ha k => by
  rw [cnt_add]
  have e : a + 256 * num l = 2 ^ 8 * num l + a := by omega
  have h1 : cnt (a + 256 * num l).testBit 8 = cnt a.testBit 8 := cnt_congr fun j hj => by
    rw [e, Nat.testBit_two_pow_mul_add _ ha, if_pos hj]
  have h2 : cnt (fun j => (a + 256 * num l).testBit (8 + j)) k = cnt (num l).testBit k := cnt_congr fun j _ => by
    show (a + 256 * num l).testBit (8 + j) = _
    rw [e, Nat.testBit_two_pow_mul_add _ ha, if_neg (by omega), Nat.add_sub_cancel_left]
  rw [h1, h2]

/-- how many bits are set in bytes. -/
def sumC : List Nat → Nat
  | [] => 0
  | a :: l => cnt a.testBit 8 + sumC l
theorem cnt_sum : ∀ l : List Nat, (∀ a ∈ l, a < 256) → cnt (num l).testBit (8 * l.length) = sumC l
  | [], _ => rfl
  | a :: l, h => by
    have e : 8 * (a :: l).length = 8 + 8 * l.length := by rw [List.length_cons]; omega
    rw [e]
    show cnt (a + 256 * num l).testBit _ = cnt a.testBit 8 + sumC l
    rw [cnt_num l a (h a (List.mem_cons_self ..)), cnt_sum l (fun x hx => h x (List.mem_cons_of_mem _ hx))]

/-- the eight bytes of a word. -/
def bytes8 (x : Nat) : List Nat := [x % 256, x / 256 % 256, x / 65536 % 256, x / 16777216 % 256, x / 4294967296 % 256, x / 1099511627776 % 256, x / 281474976710656 % 256, x / 72057594037927936 % 256]
theorem bytes8_num {x : Nat} (hx : x < 2 ^ 64) : num (bytes8 x) = x := by
  simp only [bytes8, num]
  omega
theorem bytes8_lt (x : Nat) : ∀ a ∈ bytes8 x, a < 256 := by
  intro a ha
  simp only [bytes8, List.mem_cons, List.not_mem_nil, or_false] at ha
  omega

theorem rep85 (x : Nat) : rep 85 (bytes8 x) = 6148914691236517205 := by simp only [rep, bytes8]
theorem rep51 (x : Nat) : rep 51 ((bytes8 x).map f1) = 3689348814741910323 := by simp only [rep, bytes8, List.map_cons, List.map_nil]
theorem rep15 (x : Nat) : rep 15 (((bytes8 x).map f1).map f2) = 1085102592571150095 := by simp only [rep, bytes8, List.map_cons, List.map_nil]
/-- the number of set bits, by the three steps and a sum of bytes. -/
theorem pop_steps {x y1 y2 y3 : Nat} (hx : x < 2 ^ 64) (h1 : (x / 2 &&& 6148914691236517205) + (x &&& 6148914691236517205) = y1) (h2 : (y1 / 4 &&& 3689348814741910323) + (y1 &&& 3689348814741910323) = y2)
    (h3 : (y2 / 16 + y2) &&& 1085102592571150095 = y3) :
    ∃ z0 z1 z2 z3 z4 z5 z6 z7 : Nat, z0 ≤ 8 ∧ z1 ≤ 8 ∧ z2 ≤ 8 ∧ z3 ≤ 8 ∧ z4 ≤ 8 ∧ z5 ≤ 8 ∧ z6 ≤ 8 ∧ z7 ≤ 8 ∧
      y3 = z0 + 256 * (z1 + 256 * (z2 + 256 * (z3 + 256 * (z4 + 256 * (z5 + 256 * (z6 + 256 * z7)))))) ∧ pop x = z0 + (z1 + (z2 + (z3 + (z4 + (z5 + (z6 + z7)))))) := by
  have hb := bytes8_lt x
  have hn := bytes8_num hx
  have m1 := rep85 x
  have m2 := rep51 x
  have m3 := rep15 x
  have s1 := step1 (bytes8 x) hb
  rw [m1, hn, h1] at s1
  have s2 := step2 ((bytes8 x).map f1) (fun a ha => by
    obtain ⟨b, hb', rfl⟩ := List.mem_map.1 ha
    exact f1_lt b (hb b hb'))
  rw [m2, ← s1, h2] at s2
  have s3 := step3 (((bytes8 x).map f1).map f2) (fun a ha => by
    obtain ⟨b, hb', rfl⟩ := List.mem_map.1 ha
    obtain ⟨c, hc, rfl⟩ := List.mem_map.1 hb'
    exact f2_lt c (hb c hc))
  rw [m3, ← s2, h3] at s3
  have hp : pop x = sumC (bytes8 x) := by
    have e := cnt_sum (bytes8 x) hb
    have e8 : 8 * (bytes8 x).length = 64 := by simp [bytes8]
    rw [hn, e8] at e
    exact e
  have hf : ∀ a ∈ bytes8 x, f3 (f2 (f1 a)) = cnt a.testBit 8 := fun a ha => f3_pop a (hb a ha)
  rw [hp]
  clear hn s1 s2 h1 h2 h3 m1 m2 m3 hp hb
  unfold bytes8 at *
  generalize x % 256 = a0 at *
  generalize x / 256 % 256 = a1 at *
  generalize x / 65536 % 256 = a2 at *
  generalize x / 16777216 % 256 = a3 at *
  generalize x / 4294967296 % 256 = a4 at *
  generalize x / 1099511627776 % 256 = a5 at *
  generalize x / 281474976710656 % 256 = a6 at *
  generalize x / 72057594037927936 % 256 = a7 at *
  simp only [List.map_cons, List.map_nil, num, Nat.mul_zero, Nat.add_zero] at s3
  simp only [List.mem_cons, List.not_mem_nil, or_false, forall_eq_or_imp, forall_eq] at hf
  obtain ⟨e0, e1, e2, e3, e4, e5, e6, e7⟩ := hf
  rw [e0, e1, e2, e3, e4, e5, e6, e7] at s3
  exact ⟨_, _, _, _, _, _, _, _, cnt_le _ _, cnt_le _ _, cnt_le _ _, cnt_le _ _, cnt_le _ _, cnt_le _ _, cnt_le _ _, cnt_le _ _, s3, by simp only [sumC, Nat.add_zero]⟩

theorem pop_sums {x y1 y2 y3 : Nat} (hx : x < 2 ^ 64) (h1 : (x / 2 &&& 6148914691236517205) + (x &&& 6148914691236517205) = y1) (h2 : (y1 / 4 &&& 3689348814741910323) + (y1 &&& 3689348814741910323) = y2)
    (h3 : (y2 / 16 + y2) &&& 1085102592571150095 = y3) :
    y3 ≤ 578721382704613384 ∧ (y3 + y3 / 256 + (y3 + y3 / 256) / 65536 + (y3 + y3 / 256 + (y3 + y3 / 256) / 65536) / 4294967296) % 128 = pop x := by
  obtain ⟨z0, z1, z2, z3, z4, z5, z6, z7, b0, b1, b2, b3, b4, b5, b6, b7, e, hp⟩ := pop_steps hx h1 h2 h3
  rw [hp]
  clear hp h1 h2 h3 hx
  refine ⟨by omega, ?_⟩
  have d1 : y3 / 256 = z1 + 256 * (z2 + 256 * (z3 + 256 * (z4 + 256 * (z5 + 256 * (z6 + 256 * z7))))) := by omega
  obtain ⟨u, hu⟩ : ∃ u, y3 + y3 / 256 = u := ⟨_, rfl⟩
  rw [hu]
  have eu : u = (z0 + z1) + 256 * ((z1 + z2) + 256 * ((z2 + z3) + 256 * ((z3 + z4) + 256 * ((z4 + z5) + 256 * ((z5 + z6) + 256 * ((z6 + z7) + 256 * z7)))))) := by omega
  clear d1 e hu
  have d2 : u / 65536 = (z2 + z3) + 256 * ((z3 + z4) + 256 * ((z4 + z5) + 256 * ((z5 + z6) + 256 * ((z6 + z7) + 256 * z7)))) := by omega
  obtain ⟨v, hv⟩ : ∃ v, u + u / 65536 = v := ⟨_, rfl⟩
  rw [hv]
  have ev : v = (z0 + z1 + z2 + z3) + 256 * ((z1 + z2 + z3 + z4) + 256 * ((z2 + z3 + z4 + z5) + 256 * ((z3 + z4 + z5 + z6) + 256 * ((z4 + z5 + z6 + z7) + 256 * ((z5 + z6 + z7) + 256 * ((z6 + z7) + 256 * z7)))))) := by omega
  clear d2 eu hv
  have d3 : v / 4294967296 = (z4 + z5 + z6 + z7) + 256 * ((z5 + z6 + z7) + 256 * ((z6 + z7) + 256 * z7)) := by omega
  rw [d3, ev]
  omega
end Go.Proofs.YtbkdloebbbmkaaaGreat.Pl

namespace Go.Proofs.YtbkdloebbbmkaaaGreat
open Go.RowKit

theorem and_lit {x : Nat} (m : Nat) (hx : x < 2 ^ 64) (hm : m < 2 ^ 64) : bits .and .u64 (x : Int) (m : Int) = ((x &&& m : Nat) : Int) := and_u hx hm
theorem and_m0 {x : Nat} (hx : x < 2 ^ 64) : bits .and .u64 (x : Int) 6148914691236517205 = ((x &&& 6148914691236517205 : Nat) : Int) := and_u hx (by decide)
theorem and_m1 {x : Nat} (hx : x < 2 ^ 64) : bits .and .u64 (x : Int) 3689348814741910323 = ((x &&& 3689348814741910323 : Nat) : Int) := and_u hx (by decide)
theorem and_m2 {x : Nat} (hx : x < 2 ^ 64) : bits .and .u64 (x : Int) 1085102592571150095 = ((x &&& 1085102592571150095 : Nat) : Int) := and_u hx (by decide)

theorem pop_num (x : Nat) (hx : x < 2 ^ 64) : ∃ y1 y2 y3 : Nat,
    IntKind.u64.wrap (bits .and .u64 ((x : Int) / 2) 6148914691236517205 + bits .and .u64 (x : Int) 6148914691236517205) = (y1 : Int) ∧
    IntKind.u64.wrap (bits .and .u64 ((y1 : Int) / 4) 3689348814741910323 + bits .and .u64 (y1 : Int) 3689348814741910323) = (y2 : Int) ∧
    bits .and .u64 (IntKind.u64.wrap ((y2 : Int) / 16 + (y2 : Int))) 1085102592571150095 = (y3 : Int) ∧
    y3 ≤ 578721382704613384 ∧ (y3 + y3 / 256 + (y3 + y3 / 256) / 65536 + (y3 + y3 / 256 + (y3 + y3 / 256) / 65536) / 4294967296) % 128 = Pl.pop x := by
  have k1 : (x / 2 &&& 6148914691236517205) ≤ 6148914691236517205 := Nat.and_le_right
  have k2 : (x &&& 6148914691236517205) ≤ 6148914691236517205 := Nat.and_le_right
  obtain ⟨y1, h1⟩ : ∃ y1, (x / 2 &&& 6148914691236517205) + (x &&& 6148914691236517205) = y1 := ⟨_, rfl⟩
  have b1 : y1 < 2 ^ 64 := by omega
  have k3 : (y1 / 4 &&& 3689348814741910323) ≤ 3689348814741910323 := Nat.and_le_right
  have k4 : (y1 &&& 3689348814741910323) ≤ 3689348814741910323 := Nat.and_le_right
  obtain ⟨y2, h2⟩ : ∃ y2, (y1 / 4 &&& 3689348814741910323) + (y1 &&& 3689348814741910323) = y2 := ⟨_, rfl⟩
  have b2 : y2 ≤ 7378697629483820646 := by omega
  obtain ⟨y3, h3⟩ : ∃ y3, (y2 / 16 + y2) &&& 1085102592571150095 = y3 := ⟨_, rfl⟩
  obtain ⟨c1, c2⟩ := Pl.pop_sums hx h1 h2 h3
  refine ⟨y1, y2, y3, ?_, ?_, ?_, c1, c2⟩
  · have e : (x : Int) / 2 = ((x / 2 : Nat) : Int) := by omega
    rw [e, and_m0 (by omega), and_m0 hx, ← Int.natCast_add, h1, wrap_u]
    congr 1
    omega
  · have e : (y1 : Int) / 4 = ((y1 / 4 : Nat) : Int) := by omega
    rw [e, and_m1 (by omega), and_m1 b1, ← Int.natCast_add, h2, wrap_u]
    congr 1
    omega
  · have e : (y2 : Int) / 16 + (y2 : Int) = ((y2 / 16 + y2 : Nat) : Int) := by omega
    rw [e, wrap_u, and_m2 (Nat.mod_lt _ (by decide))]
    have e2 : (y2 / 16 + y2) % 2 ^ 64 = y2 / 16 + y2 := by omega
    rw [e2, h3]

set_option maxRecDepth 100000 in
theorem ones64_any (x : Nat) (hx : x < 2 ^ 64) (w : World) :
    Calls Tryz.prog 62 #[.int .u64 (x : Int)] w fun e w' => e = .returned (.int .i64 (Pl.pop x : Nat)) ∧ w = w' := by
  obtain ⟨y1, y2, y3, h1, h2, h3, hb, hp⟩ := pop_num x hx
  have HP := Lib.hid hp
  clear hp
  have hb1 : (y3 : Int) ≤ 578721382704613384 := by omega
  have e4 : IntKind.u64.wrap ((y3 : Int) + (y3 : Int) / 256) = (y3 : Int) + (y3 : Int) / 256 := by rw [IntKind.wrap_u64]; omega
  obtain ⟨y4, h4⟩ : ∃ y4 : Nat, y4 = y3 + y3 / 256 := ⟨_, rfl⟩
  have e4' : IntKind.u64.wrap ((y3 : Int) + (y3 : Int) / 256) = (y4 : Int) := by rw [IntKind.wrap_u64]; omega
  obtain ⟨y5, h5⟩ : ∃ y5 : Nat, y5 = y4 + y4 / 65536 := ⟨_, rfl⟩
  have e5' : IntKind.u64.wrap ((y4 : Int) + (y4 : Int) / 65536) = (y5 : Int) := by rw [IntKind.wrap_u64]; omega
  obtain ⟨y6, h6⟩ : ∃ y6 : Nat, y6 = y5 + y5 / 4294967296 := ⟨_, rfl⟩
  have e6' : IntKind.u64.wrap ((y5 : Int) + (y5 : Int) / 4294967296) = (y6 : Int) := by rw [IntKind.wrap_u64]; omega
  have hb6 : (y6 : Int) ≤ 9223372036854775807 := by omega
  have H4 := Lib.hid h4
  have H5 := Lib.hid h5
  have H6 := Lib.hid h6
  clear e4 h4 h5 h6 hb hb1
  have e7 := i64_and127 (y6 : Int)
  go_enter Tryz.func62, Tryz.ntmps62
  go_wp2
  go_ret
  refine ⟨ret_i64 ?_, rfl⟩
  rw [← HP.out, H6.out, H5.out, H4.out]
  omega
end Go.Proofs.YtbkdloebbbmkaaaGreat

namespace Go.Proofs.YtbkdloebbbmkaaaGreat
open Go.RowKit

theorem Bits.cnt_same {ws : List Nat} {n : Nat} {f : Nat → Bool} (h : Bits ws n f) {i : Nat} (hi : i ≤ n) : Pl.cnt f i = Pl.cnt (Pl.bitAt ws) i :=
  Pl.cnt_congr fun j hj => (h.same j (by omega)).symm

section
variable {w w' : World} {B g gw n : Nat} {av : Value} {ws : List Nat} {f : Nat → Bool}

theorem rank_top (h : Vc w B g gw av n ws f) (i : Int) (hi : Pl.clamp n i = n) : Calls Tryz.prog 41 #[.pointer (some ⟨g, 0, none⟩), .int .i64 i] w fun e w' => e = .returned (.int .i64 ((Pl.cnt f n : Nat) : Int)) ∧ w = w' := by
  have hW := within_any h i
  rw [hi] at hW
  have HW := Lib.hid hW
  clear hW hi
  go_enter Tryz.func41, Tryz.ntmps41
  go_wp2_with (first
    | (go_at_call 60; refine HW.out.mono ?_; rintro e w' ⟨rfl, rfl⟩)
    | (go_at_call 55; refine (vlen_any h).mono ?_; rintro e w' ⟨rfl, rfl⟩)
    | (go_at_call 61; refine (vones_any h).mono ?_; rintro e w' ⟨rfl, rfl⟩))
  go_ret
  exact ⟨rfl, rfl⟩

set_option maxRecDepth 100000 in
set_option maxHeartbeats 800000 in
theorem rank_in (h : Vc w B g gw av n ws f) (i : Int) (j : Nat) (hi : Pl.clamp n i = j) (hj : j < n) : Calls Tryz.prog 41 #[.pointer (some ⟨g, 0, none⟩), .int .i64 i] w fun e w' => e = .returned (.int .i64 ((Pl.cnt f j : Nat) : Int)) ∧ w = w' := by
  have hW := within_any h i
  rw [hi] at hW
  have HW := Lib.hid hW
  have hfew := h.bits.few
  obtain ⟨L, hL⟩ : ∃ L, ws.length = L := ⟨_, rfl⟩
  have hlen := h.bits.len
  rw [hL] at hlen
  obtain ⟨q, hq⟩ : ∃ q, j / 64 = q := ⟨_, rfl⟩
  obtain ⟨r, hr⟩ : ∃ r, j % 64 = r := ⟨_, rfl⟩
  obtain ⟨b, hb⟩ : ∃ b, q / 8 = b := ⟨_, rfl⟩
  obtain ⟨c, hc⟩ : ∃ c, b * 8 = c := ⟨_, rfl⟩
  have hcq : c ≤ q := by omega
  have hqL : q < L := by omega
  have hcL : c < L := by omega
  have hr64 : r < 64 := by omega
  have hL9 : L ≤ 65536 := by omega
  have eq1 : (j : Int) / 64 = (q : Int) := by omega
  have eq2 : (j : Int) % 64 = (r : Int) := by omega
  have eq3 : (q : Int) / 8 = (b : Int) := by omega
  have eq4 : (b : Int) * 8 = (c : Int) := by omega
  have hsame := h.bits
  obtain ⟨ga, ca, rfl, hB, hga, hca⟩ := h.row b (by omega)
  rw [h.bits.cnt_same (by omega)] at hca
  have e512 : 512 * b = 64 * c := by omega
  rw [e512] at hca
  have hcm : Pl.cnt (Pl.bitAt ws) (64 * c) ≤ 64 * c := Pl.cnt_le _ _
  have hc2 := h.c2
  have hc3 := h.c3
  rw [hL] at hc2 hc3
  have hm : b < (L + 7) / 8 := by omega
  have hne : ((j : Int) == (n : Int)) = false := by rw [beq_eq_false_iff_ne]; omega
  have HH := Lib.hid h
  have HLen := Lib.hid (vlen_any h)
  have Hq := Lib.hid hq
  have Hr := Lib.hid hr
  have HL := Lib.hid hL
  have HS := Lib.hid hsame
  clear h hq hr hL hb hc hlen hi hW e512 hsame
  go_enter Tryz.func41, Tryz.ntmps41
  go_wp2_with (first
    | (go_at_call 60; refine HW.out.mono ?_; rintro e w' ⟨rfl, rfl⟩)
    | (go_at_call 55; refine HLen.out.mono ?_; rintro e w' ⟨rfl, rfl⟩))
  go_loop [7, 40] (fun s v => ∃ k : Nat, k ≤ q - c ∧ v = .int .i64 (k : Int) ∧ s = .int .i64 ((Pl.cnt (Pl.bitAt ws) (64 * (c + k)) : Nat) : Int)) (fun _ v => (q - c) - (intOf v).toNat)
  case atStart => exact ⟨0, Nat.zero_le _, rfl, rfl⟩
  case round =>
    obtain ⟨k, hk, rfl, rfl⟩ := hrel
    have hm1 := Pl.cnt_le (Pl.bitAt ws) (64 * (c + k))
    by_cases hlt : k < q - c
    · have hcell := HH.out.word (c + k) (by rw [HL.out]; omega)
      have hx := HH.out.bits.small.at_ (c + k)
      have hstep := Pl.cnt_word ws (c + k)
      generalize ws.getD (c + k) 0 = x at hcell hx hstep
      have hp := Pl.pop_le x
      have HO := Lib.hid (ones64_any x hx w)
      have HT := Lib.hid hstep
      clear hstep hx
      generalize Pl.cnt (Pl.bitAt ws) (64 * (c + k)) = m at hm1 HT ⊢
      go_wp2_with (go_at_call 62; refine HO.out.mono ?_; rintro e w' ⟨rfl, rfl⟩)
      go_round
      case rel =>
        refine ⟨k + 1, by omega, by go_num, ?_⟩
        rw [show c + (k + 1) = c + k + 1 by omega, HT.out]
        go_num
      case measure => simp [intOf]; omega
    · have hkq : k = q - c := by omega
      have hcell := HH.out.word q (by rw [HL.out]; omega)
      have hx := HH.out.bits.small.at_ q
      have hstep := Pl.cnt_part ws q r hr64
      have e1 : 64 * (c + k) = 64 * q := by omega
      have e2 : 64 * q + r = j := by have := Hq.out; have := Hr.out; omega
      rw [e1] at hm1 ⊢
      rw [e2] at hstep
      generalize ws.getD q 0 = x at hcell hx hstep
      have hmask : bits .and .u64 (x : Int) (IntKind.u64.wrap (IntKind.u64.wrap (2 ^ r) - 1)) = ((x &&& (2 ^ r - 1) : Nat) : Int) := by
        have hw : 2 ^ r - 1 < 2 ^ 64 := by have := Pl.two_pow_le_64 (Nat.le_of_lt hr64); have := Nat.two_pow_pos r; omega
        rw [ones_num r (by omega), and_u hx hw]
      have hy : x &&& (2 ^ r - 1) < 2 ^ 64 := Nat.lt_of_le_of_lt Nat.and_le_left hx
      have hp := Pl.pop_le (x &&& (2 ^ r - 1))
      generalize x &&& (2 ^ r - 1) = y at hmask hy hp hstep
      have HO := Lib.hid (ones64_any y hy w)
      have HT := Lib.hid hstep
      have HM := Lib.hid hmask
      have HE : Hid (Pl.cnt f j = Pl.cnt (Pl.bitAt ws) j) := Lib.hid (HS.out.cnt_same (by omega))
      clear hstep hx e1 e2 hmask hkq hy
      generalize Pl.cnt (Pl.bitAt ws) (64 * q) = m at hm1 HT ⊢
      go_wp2_with fail
      rw [HM.out]
      refine HO.out.mono ?_
      rintro e w' ⟨rfl, rfl⟩
      go_wp2_with fail
      go_ret
      refine ⟨ret_i64 ?_, rfl⟩
      rw [HE.out, HT.out]
      omega

/-- Rank, of whatever place. -/
theorem rank_any (h : Vc w B g gw av n ws f) (i : Int) : Calls Tryz.prog 41 #[.pointer (some ⟨g, 0, none⟩), .int .i64 i] w fun e w' => e = .returned (.int .i64 ((Pl.cnt f (Pl.clamp n i) : Nat) : Int)) ∧ w = w' := by
  by_cases hi : Pl.clamp n i = n
  · rw [hi]; exact rank_top h i hi
  · exact rank_in h i _ rfl (by have := Pl.clamp_le n i; omega)
theorem rank_nil (i : Int) (w : World) : Calls Tryz.prog 41 #[.pointer none, .int .i64 i] w fun e w' => e = .returned (.int .i64 0) ∧ w = w' := by
  go_enter Tryz.func41, Tryz.ntmps41
  go_wp2_with (first
    | (go_at_call 60; refine (within_nil _ _).mono ?_; rintro e w' ⟨rfl, rfl⟩)
    | (go_at_call 55; refine (vlen_nil _).mono ?_; rintro e w' ⟨rfl, rfl⟩)
    | (go_at_call 61; refine (vones_nil _).mono ?_; rintro e w' ⟨rfl, rfl⟩))
  go_ret
  exact ⟨rfl, rfl⟩

/-- the noughts. -/
def inv (f : Nat → Bool) : Nat → Bool := fun j => !f j
theorem zeros_any (h : Vc w B g gw av n ws f) (i : Int) : Calls Tryz.prog 114 #[.pointer (some ⟨g, 0, none⟩), .int .i64 i] w fun e w' => e = .returned (.int .i64 ((Pl.cnt (inv f) (Pl.clamp n i) : Nat) : Int)) ∧ w = w' := by
  have HN := Lib.hid (Pl.cnt_not f (Pl.clamp n i))
  have HW := Lib.hid (within_any h i)
  have HR := Lib.hid (rank_any h i)
  have hc := Pl.clamp_le n i
  have hm := Pl.cnt_le f (Pl.clamp n i)
  have hf := h.bits.few
  have HI : Hid (Pl.cnt (inv f) (Pl.clamp n i) = Pl.clamp n i - Pl.cnt f (Pl.clamp n i)) := Lib.hid (by have := HN.out; unfold inv; omega)
  clear h
  generalize Pl.cnt (inv f) (Pl.clamp n i) = z at HI ⊢
  generalize Pl.cnt f (Pl.clamp n i) = m at HR HI hm
  generalize Pl.clamp n i = j at HW HR HI hm hc
  clear HN
  go_enter Tryz.func114, Tryz.ntmps114
  go_wp2_with (first
    | (go_at_call 60; refine HW.out.mono ?_; rintro e w' ⟨rfl, rfl⟩)
    | (go_at_call 41; refine HR.out.mono ?_; rintro e w' ⟨rfl, rfl⟩))
  go_ret
  refine ⟨ret_i64 ?_, rfl⟩
  rw [HI.out]
  omega
theorem zeros_nil (i : Int) (w : World) : Calls Tryz.prog 114 #[.pointer none, .int .i64 i] w fun e w' => e = .returned (.int .i64 0) ∧ w = w' := by
  go_enter Tryz.func114, Tryz.ntmps114
  go_wp2_with (first
    | (go_at_call 60; refine (within_nil _ _).mono ?_; rintro e w' ⟨rfl, rfl⟩)
    | (go_at_call 41; refine (rank_nil _ _).mono ?_; rintro e w' ⟨rfl, rfl⟩))
  go_ret
  exact ⟨rfl, rfl⟩
end
end Go.Proofs.YtbkdloebbbmkaaaGreat

namespace Go.Proofs.YtbkdloebbbmkaaaGreat
open Go.RowKit

section
variable {w w' : World} {B g gw n : Nat} {av : Value} {ws : List Nat} {f : Nat → Bool}
theorem eg_rank : ∀ args w, (callFunc 41 args).run Tryz.prog w = .ok (.enter 41 args) w := enters_of Tryz.func41 (by kernel_rfl) rfl
theorem eg_zeros : ∀ args w, (callFunc 114 args).run Tryz.prog w = .ok (.enter 114 args) w := enters_of Tryz.func114 (by kernel_rfl) rfl

end
end Go.Proofs.YtbkdloebbbmkaaaGreat

namespace Go.Proofs.YtbkdloebbbmkaaaGreat
open Go.RowKit
attribute [local go_sem ↓] Go.wp_at_zero Go.wp_at_succ

theorem info_int : (Tryz.prog.info? 3).map (fun i => (i.zero, i.size, i.bytes)) = some (some (.int .i64 0), 1, 8) := by kernel_rfl

/-- the counts that stand ahead of the first m blocks. -/
def acells (ws : List Nat) (m : Nat) : List Value := (List.range m).map fun (k : Nat) => Value.int .i64 ((Pl.cnt (Pl.bitAt ws) (512 * k) : Nat) : Int)
theorem acells_snoc (ws : List Nat) (m : Nat) : acells ws (m + 1) = acells ws m ++ [.int .i64 ((Pl.cnt (Pl.bitAt ws) (512 * m) : Nat) : Int)] := by
  unfold acells
  rw [List.range_succ]
  simp
theorem acells_at (ws : List Nat) (m k : Nat) (h : k < m) : (acells ws m)[k]? = some (.int .i64 ((Pl.cnt (Pl.bitAt ws) (512 * k) : Nat) : Int)) := by
  unfold acells
  rw [List.getElem?_map, List.getElem?_range h]
  rfl

/-- what lies when i words are counted. -/
structure Cting (w0 wr : World) (B g gw n i m : Nat) (ws : List Nat) (av : Value) : Prop where
  head : Lies wr g 92 [.int .i64 (n : Int), .int .i64 ((Pl.cnt (Pl.bitAt ws) (64 * i) : Nat) : Int), .slice (some ⟨gw, 0, none⟩) ws.length ws.length, av]
  body : Lies wr gw 70 (wcells ws)
  row : wr.ownsRow w0.heap.size 3 1 av m (acells ws m)
  below : Below B w0 wr
  size : w0.heap.size ≤ wr.heap.size

section
variable {w0 wr w' : World} {B g gw n i m : Nat} {ws : List Nat} {av : Value}
theorem Cting.off (h : Cting w0 wr B g gw n i m ws av) (hg : g < w0.heap.size) : av.ownBlock ≠ some g := by
  intro e
  have := (h.row.lt g e).1
  omega
/-- the count of the word is added. -/
theorem Cting.add (h : Cting w0 wr B g gw n i m ws av) (hg : g < w0.heap.size) (hB : B ≤ g) (hne : g ≠ gw) :
    Cting w0 (wr.setCell ⟨g, 1, none⟩ (.int .i64 ((Pl.cnt (Pl.bitAt ws) (64 * (i + 1)) : Nat) : Int))) B g gw n (i + 1) m ws av := by
  refine ⟨h.head.put 1 _, h.body.far (Ne.symm hne) _, ?_, h.below.setCell hB _, by simpa [World.setCell] using h.size⟩
  exact h.row.kept (grownBy_put (g := g) (grownBy_of_below (Below.refl _ _) _) 1 _) (.inr (h.off hg))
theorem Cting.added {y : Int} (h : Cting w0 wr B g gw n i m ws av) (hg : g < w0.heap.size) (hB : B ≤ g) (hne : g ≠ gw) (hy : y = ((Pl.cnt (Pl.bitAt ws) (64 * (i + 1)) : Nat) : Int)) :
    Cting w0 (wr.setCell ⟨g, 1, none⟩ (.int .i64 y)).drew B g gw n (i + 1) m ws av := by
  subst hy
  have k := h.add hg hB hne
  exact ⟨k.head.drew, k.body.drew, k.row.drew, below_drewN' k.below 1, k.size⟩
/-- the count ahead of the block is appended. -/
theorem Cting.snoc {gg cap : Nat} {w1 : World} {x : Value} (h : Cting w0 wr B g gw n i m ws av) (hg : g < w0.heap.size) (hgw : gw < w0.heap.size) (hB : B ≤ g) (hne : g ≠ gw) (hx : x = .int .i64 ((Pl.cnt (Pl.bitAt ws) (512 * m) : Nat) : Int))
    (hown : w1.ownsRow w0.heap.size 3 1 (.slice (some ⟨gg, 0, none⟩) (m + 1) cap) (m + 1) (acells ws m ++ [x])) (hgrow : (wr.alloc (.cells #[x] 3)).drew.grownBy w1 av.ownBlock) :
    Cting w0 (w1.setCell ⟨g, 3, none⟩ (.slice (some ⟨gg, 0, none⟩) (m + 1) cap)) B g gw n i (m + 1) ws (.slice (some ⟨gg, 0, none⟩) (m + 1) cap) := by
  subst hx
  have ha : wr.grownBy w1 av.ownBlock := grownBy_trans (grownBy_drew (World.grownBy_alloc wr _ _)) hgrow
  have hgg : w0.heap.size ≤ gg := (hown.lt gg rfl).1
  have hoff : ∀ k, k < w0.heap.size → some k ≠ av.ownBlock := fun k hk e => by have := (h.row.lt k e.symm).1; omega
  have h1 := h.head.grown ha (hoff g hg)
  have h2 := h.body.grown ha (hoff gw hgw)
  refine ⟨h1.put 3 _, h2.far (Ne.symm hne) _, ?_, (h.below.grown ha ?_ ?_).setCell hB _, ?_⟩
  · rw [acells_snoc]
    exact hown.kept (grownBy_put (g := g) (grownBy_of_below (Below.refl _ _) _) 3 _) (.inr (by simp [Value.ownBlock]; omega))
  · have := h.size; omega
  · intro k hk
    have := (h.row.lt k hk).1
    omega
  · have := h.size; have := ha.size; simp [World.setCell]; omega
end

set_option maxRecDepth 100000 in
set_option maxHeartbeats 1600000 in
theorem count_any (ws : List Nat) (B g gw n : Nat) (w : World) (hL : ws.length ≤ 65536) (hh : Cting w w B g gw n 0 0 ws (.slice none 0 0)) (hB : B ≤ g) (hg : g < w.heap.size) (hgw : gw < w.heap.size) (hne : g ≠ gw) (hs : Pl.Small ws) :
    Calls Tryz.prog 81 #[.pointer (some ⟨g, 0, none⟩)] w fun e w' => e = .returned (.tuple #[]) ∧ ∃ av, Cting w w' B g gw n ws.length ((ws.length + 7) / 8) ws av := by
  obtain ⟨i0, hi0, hz0, hs0, hb0⟩ := info_parts info_int
  obtain ⟨L, hLL⟩ : ∃ L, ws.length = L := ⟨_, rfl⟩
  have hc2 := hh.head.cell 2
  have HL := Lib.hid hLL
  simp only [List.getElem?_cons_succ, List.getElem?_cons_zero] at hc2
  rw [hLL] at hc2 hL ⊢
  clear hLL
  go_enter Tryz.func81, Tryz.ntmps81
  go_wp2_with fail
  go_loopw [9] (fun v wr => ∃ (i : Nat) (av : Value), i ≤ L ∧ v = .int .i64 (i : Int) ∧ Hid (Cting w wr B g gw n i ((i + 7) / 8) ws av)) (fun v _ => L - (intOf v).toNat)
  case atStart => exact ⟨0, _, Nat.zero_le _, rfl, Lib.hid hh⟩
  case round =>
    clear hh
    obtain ⟨i, av, hi, rfl, H⟩ := hrel
    by_cases hlt : i < L
    · have hword : wr.cell? ⟨gw, i, none⟩ = some (.int .u64 ((ws.getD i 0 : Nat) : Int)) := (H.out.body.cell i).trans (wcells_at ws i (by rw [HL.out]; exact hlt))
      have hx := hs.at_ i
      have hstep := Pl.cnt_word ws i
      generalize ws.getD i 0 = x at hword hx hstep
      have HO : ∀ W, Hid (Calls Tryz.prog 62 #[.int .u64 (x : Int)] W fun e w' => e = .returned (.int .i64 (Pl.pop x : Nat)) ∧ W = w') := fun W => Lib.hid (ones64_any x hx W)
      have hp := Pl.pop_le x
      have hm := Pl.cnt_le (Pl.bitAt ws) (64 * i)
      have HS := Lib.hid hstep
      clear hstep hx
      by_cases h8 : i % 8 = 0
      · have e8 : ((i : Int) % 8 == 0) = true := by simp; omega
        have hc1 : wr.cell? ⟨g, 1, none⟩ = some (.int .i64 ((Pl.cnt (Pl.bitAt ws) (64 * i) : Nat) : Int)) := H.out.head.cell 1
        have hc3 : wr.cell? ⟨g, 3, none⟩ = some av := H.out.head.cell 3
        have hown := H.out.row
        have hoff := H.out.off hg
        have hsz := H.out.size
        have hm2 : (i + 7) / 8 + 1 ≤ 65536 := by omega
        have hbase : w.heap.size ≤ wr.heap.size + 1 := by omega
        obtain ⟨t, ht⟩ : ∃ t, Pl.cnt (Pl.bitAt ws) (64 * i) = t := ⟨_, rfl⟩
        rw [ht] at hc1 hm
        have HT := Lib.hid ht
        have lg := Nat.lt_of_lt_of_le hg hsz
        clear ht
        have H0 := H
        go_upto_region 4 with (fail)
        go_cut [] (fun wx => ∃ av', Cting w wx B g gw n i ((i + 7) / 8 + 1) ws av')
        case first =>
          go_region_law
            ((refine step_append_lies _ (by rfl) _ _ _ (by rfl) w.heap.size 3 i0 _ 1 8 Tryz.underlying22 hi0 hz0 hs0 hb0 rfl (by omega) av ((i + 7) / 8) (acells ws ((i + 7) / 8)) (by rfl) ((hown.alloc _).drew)
                ⟨wr.heap.size, 0, none⟩ 1 1 [.int .i64 (t : Int)] (by rfl) (by rfl) (World.news_of_block (cs := #[.int .i64 (t : Int)]) (t := 3) (fr := (0, 0)) (heap_alloc_new wr _)) (by simp [Value.oneCell'])
                (by omega) (by unfold maxLen; omega) (by omega) (by simp; omega) (wr.heap.size + 1) (by simp) ?_; intro gg cap w1 hown1 hgrow hat hlt1; have hfz : w1.frozen? ⟨g, 3, none⟩ = false := (World.frozen?_of_block (a := ⟨g, 3, none⟩) (hgrow.block g (by simp; omega) (Ne.symm hoff))).trans (((H.out.head.alloc _).drew).free 3); have hcx : w1.cell? ⟨g, 3, none⟩ = some av := (World.cell?_of_block (a := ⟨g, 3, none⟩) (hgrow.block g (by simp; omega) (Ne.symm hoff))).trans (((H.out.head.alloc _).drew).cell 3)))
          all_goals
            go_wp2_with fail
            go_meet
            exact ⟨_, H0.out.snoc hg hgw hB hne (by rw [show 512 * ((i + 7) / 8) = 64 * i by omega, HT.out]) hown1 hgrow⟩
        case rest =>
          obtain ⟨av', hX⟩ := hcut
          have hX1 : wc.cell? ⟨g, 1, none⟩ = some (.int .i64 (t : Int)) := by rw [← HT.out]; exact hX.head.cell 1
          have hXf := hX.head.free 1
          have e9 : (i + 7) / 8 + 1 = (i + 1 + 7) / 8 := by omega
          rw [e9] at hX
          have HX := Lib.hid hX
          clear hX e9 hown hoff hc1 hc3 hword H H0
          go_wp2_with fail
          go_region_with (go_at_call 62; refine (HO _).out.mono ?_; rintro e w' ⟨rfl, rfl⟩)
          all_goals
            go_wp2_with fail
            go_roundw
            case rel => exact ⟨i + 1, av', by omega, by go_num, Lib.hid (HX.out.added hg hB hne (by rw [HS.out, HT.out]; omega))⟩
            case measure => simp [intOf]; omega
      · have e8 : ((i : Int) % 8 == 0) = false := by rw [beq_eq_false_iff_ne]; omega
        obtain ⟨t, ht⟩ : ∃ t, Pl.cnt (Pl.bitAt ws) (64 * i) = t := ⟨_, rfl⟩
        rw [ht] at hm
        have hX1 : wr.cell? ⟨g, 1, none⟩ = some (.int .i64 (t : Int)) := by rw [← ht]; exact H.out.head.cell 1
        have hXf := H.out.head.free 1
        have HT := Lib.hid ht
        have e9 : (i + 7) / 8 = (i + 1 + 7) / 8 := by omega
        rw [e9] at H
        clear ht e9
        go_wp2_with fail
        go_region_with (go_at_call 62; refine (HO _).out.mono ?_; rintro e w' ⟨rfl, rfl⟩)
        all_goals
          go_wp2_with fail
          go_roundw
          case rel => exact ⟨i + 1, av, by omega, by go_num, Lib.hid (H.out.added hg hB hne (by rw [HS.out, HT.out]; omega))⟩
          case measure => simp [intOf]; omega
    · obtain rfl : i = L := by omega
      go_wp2_with fail
      go_end0
      exact ⟨rfl, av, H.out⟩
end Go.Proofs.YtbkdloebbbmkaaaGreat

namespace Go.Proofs.YtbkdloebbbmkaaaGreat
open Go.RowKit

/-- what New leaves. -/
def VecPost (w : World) (n : Nat) (f : Nat → Bool) (e : Ending) (w' : World) : Prop :=
  ∃ (g gw : Nat) (av : Value) (ws : List Nat), e = .returned (.tuple #[.pointer (some ⟨g, 0, none⟩), .int .i64 0]) ∧ Vc w' w.heap.size g gw av n ws f ∧ Below w.heap.size w w'

/-- what New leaves: its counts are a slice. -/
def VecPostS (w : World) (n : Nat) (f : Nat → Bool) (e : Ending) (w' : World) : Prop :=
  ∃ (g gw : Nat) (av : Value) (ws : List Nat), e = .returned (.tuple #[.pointer (some ⟨g, 0, none⟩), .int .i64 0]) ∧ Vc w' w.heap.size g gw av n ws f ∧ Below w.heap.size w w' ∧ ∃ (A : Option Addr) (q c : Nat), av = .slice A q c

theorem bits_total {ws : List Nat} {n : Nat} {f : Nat → Bool} (h : Bits ws n f) : Pl.cnt (Pl.bitAt ws) (64 * ws.length) = Pl.cnt f n := by
  have hl : n ≤ 64 * ws.length := by rw [h.len]; omega
  have e : 64 * ws.length = n + (64 * ws.length - n) := by omega
  rw [e, Pl.cnt_add, h.cnt_same (Nat.le_refl _)]
  have z : Pl.cnt (fun j => Pl.bitAt ws (n + j)) (64 * ws.length - n) = 0 := Pl.cnt_zero fun j _ => h.behind _ (by omega)
  omega

theorem vc_of_cting {w w' : World} {B g gw n : Nat} {ws : List Nat} {av : Value} {f : Nat → Bool} (h : Cting w w' B g gw n ws.length ((ws.length + 7) / 8) ws av) (hb : Bits ws n f) (hg : B ≤ g) (hgw : B ≤ gw) (hB : B ≤ w.heap.size) : Vc w' B g gw av n ws f := by
  refine ⟨?_, h.body, fun k hk => ?_, hb, hg, hgw⟩
  · have e := h.head
    rw [bits_total hb] at e
    exact e
  · have hm : k < (ws.length + 7) / 8 := by omega
    obtain ⟨ga, c, e, hlo, hlt⟩ := h.row.form (by omega)
    subst e
    refine ⟨ga, c, rfl, by omega, hlt, ?_⟩
    have hn : 512 * k ≤ n := by have := hb.len; omega
    rw [hb.cnt_same hn]
    exact (h.row.cellAt k (by omega)).trans (acells_at ws _ k hm)

theorem of_full {w : World} {g gs n : Nat} {ws : List Nat} {x : Nat → Nat} (h : Full w g gs 1 n ws x) : Bits ws n (fun i => (x i).testBit 0) where
  few := h.few
  len := by have := h.holds.len; rw [Nat.mul_one] at this; exact this
  small := h.holds.small
  same := fun i hi => by have := h.holds.bits i 0 hi (by decide); rw [Nat.mul_one, Nat.add_zero] at this; exact this
  behind := fun i hi => h.holds.behind i (by omega)

set_option maxRecDepth 100000 in
set_option maxHeartbeats 800000 in
theorem vnew_sl {w : World} {gp gps n : Nat} {ws : List Nat} {x : Nat → Nat} (h : Full w gp gps 1 n ws x) :
    Calls Tryz.prog 51 #[.pointer (some ⟨gp, 0, none⟩)] w (VecPostS w n (fun i => (x i).testBit 0)) := by
  have hb := of_full h
  have hL : ws.length ≤ 65536 := by have := hb.len; have := hb.few; omega
  have hs := hb.small
  have HB := Lib.hid hb
  have HWd := Lib.hid (width_any h.pk)
  have HLen := Lib.hid (len_any h.pk)
  have HWs := Lib.hid (words_any h.pk (by omega))
  clear h hb
  go_enter Tryz.func51, Tryz.ntmps51
  go_wp2_with (first
    | (go_at_call 78; refine HWd.out.mono ?_; rintro e w' ⟨rfl, rfl⟩)
    | (go_at_call 79; refine HLen.out.mono ?_; rintro e w' ⟨rfl, rfl⟩))
  refine HWs.out.mono ?_
  rintro e w1 ⟨gw, rfl, hgw, hl, hb1⟩
  have hlt := hl.lt
  have HC := fun (W : World) (hW : W = w1.alloc (.cells #[.int .i64 (n : Int), .int .i64 0, .slice (some ⟨gw, 0, none⟩) ws.length ws.length, .slice none 0 0] 92)) =>
    count_any ws w.heap.size w1.heap.size gw n W hL (by
      subst hW
      exact ⟨lies_new w1 _ [.int .i64 (n : Int), .int .i64 0, .slice (some ⟨gw, 0, none⟩) ws.length ws.length, .slice none 0 0], hl.alloc _, World.ownsRow_nil _ _ _ _, Below.refl _ _, Nat.le_refl _⟩)
      (by have := hb1.size; omega) (by subst hW; simp) (by subst hW; simp; omega) (by omega) hs
  have HC1 := Lib.hid (HC _ rfl)
  clear HC
  have hB1 : Below w.heap.size w (w1.alloc (.cells #[.int .i64 (n : Int), .int .i64 0, .slice (some ⟨gw, 0, none⟩) ws.length ws.length, .slice none 0 0] 92)) := hb1.alloc hb1.size _
  have HB1 := Lib.hid hB1
  clear hB1
  go_wp2_with fail
  refine HC1.out.mono ?_
  rintro e w2 ⟨rfl, av, hct⟩
  go_wp2_with fail
  go_ret2
  exact ⟨w1.heap.size, gw, av, ws, rfl, vc_of_cting hct HB.out hb1.size hgw (by simp; have := hb1.size; omega), HB1.out.trans hct.below, by
    rcases hct.row.2 with ⟨e, _⟩ | ⟨ga, cap, cur, e, _⟩
    · exact ⟨none, 0, 0, e⟩
    · exact ⟨_, _, cap, e⟩⟩
theorem vnew_any {w : World} {gp gps n : Nat} {ws : List Nat} {x : Nat → Nat} (h : Full w gp gps 1 n ws x) :
    Calls Tryz.prog 51 #[.pointer (some ⟨gp, 0, none⟩)] w (VecPost w n (fun i => (x i).testBit 0)) := (vnew_sl h).mono fun _ _ ⟨g, gw, av, ws, h1, h2, h3, _⟩ => ⟨g, gw, av, ws, h1, h2, h3⟩

theorem vnew_nil (w : World) : Calls Tryz.prog 51 #[.pointer none] w fun e w' => e = .returned (.tuple #[.pointer none, .int .i64 1]) ∧ w = w' := by
  go_enter Tryz.func51, Tryz.ntmps51
  go_wp2
  go_ret2
  exact ⟨rfl, rfl⟩
theorem vnew_wide {w : World} {gp gps width n : Nat} {ws : List Nat} (h : Pk w gp gps width n ws) (hw : width ≠ 1) :
    Calls Tryz.prog 51 #[.pointer (some ⟨gp, 0, none⟩)] w fun e w' => e = .returned (.tuple #[.pointer none, .int .i64 2]) ∧ w = w' := by
  have e1 : ((width : Int) != 1) = true := by simp; omega
  go_enter Tryz.func51, Tryz.ntmps51
  go_wp2_with (go_at_call 78; refine (width_any h).mono ?_; rintro e w' ⟨rfl, rfl⟩)
  go_ret2
  exact ⟨rfl, rfl⟩
end Go.Proofs.YtbkdloebbbmkaaaGreat
