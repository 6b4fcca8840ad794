/- Links of like numbers, each laid at the least one between its two places; what a range has of them: plain: no program is named here. -/
import Derived.Test.YtddfaidfnmpnlaaDocMath
import Derived.Test.YtddfaidfnmpnlaaRmqMath
import Derived.Test.YtddfaidfnmpnlaaFindMore
import Derived.Test.YtddfaidfnmpnlaaLcpMath
namespace Go.Proofs.Ytddfaidfnmpnlaa
open Pl (cnt cnt_succ cnt_congr)

/-- where the link that ends at i is laid; -1: there is none. -/
def laidT (D L : Nat → Int) (i : Nat) : Int := if lastD D i < 0 then -1 else lstR L (lastD D i + 1) ((i : Int) + 1) (i + 1)
/-- how many of the first m links are laid at q. -/
def dblT (D L : Nat → Int) (m q : Nat) : Nat := cnt (fun i => decide (laidT D L i = (q : Int))) m
theorem dblT_succ (D L : Nat → Int) (m q : Nat) : dblT D L (m + 1) q = dblT D L m q + (if laidT D L m = (q : Int) then 1 else 0) := by
  unfold dblT
  rw [cnt_succ]
  by_cases h : laidT D L m = (q : Int)
  · rw [if_pos (decide_eq_true h), if_pos h]
  · rw [if_neg (by rw [decide_eq_true_iff]; exact h), if_neg h]
theorem dblT_le (D L : Nat → Int) (m q : Nat) : dblT D L m q ≤ m := Pl.cnt_le _ m
/-- no link: none is laid. -/
theorem laidT_none {D L : Nat → Int} {i : Nat} (h : lastD D i < 0) : laidT D L i = -1 := if_pos h
theorem laidT_is {D L : Nat → Int} {i p : Nat} (h : lastD D i = (p : Int)) : ∃ q : Nat, laidT D L i = (q : Int) ∧ LstAt L ((p : Int) + 1) ((i : Int) + 1) (i + 1) q := by
  unfold laidT
  have hr := lastD_room D i
  rw [if_neg (by omega), h]
  rcases lstR_is L ((p : Int) + 1) ((i : Int) + 1) (i + 1) with ⟨_, h2⟩ | ⟨q, h1, h2⟩
  · exact absurd ⟨by omega, by omega⟩ (h2 i (by omega))
  · exact ⟨q, h1, h2⟩
theorem laidT_room {D L : Nat → Int} {i : Nat} (h : 0 ≤ lastD D i) : 0 < laidT D L i ∧ lastD D i < laidT D L i ∧ laidT D L i ≤ (i : Int) := by
  obtain ⟨p, hp⟩ : ∃ p : Nat, lastD D i = (p : Int) := ⟨(lastD D i).toNat, by omega⟩
  obtain ⟨q, h1, h2⟩ := laidT_is (L := L) hp
  have := h2.lo
  have := h2.hi
  rw [h1, hp]
  omega
theorem laidT_lt {D L : Nat → Int} {i n : Nat} (hi : i < n) : laidT D L i < (n : Int) := by
  by_cases h : lastD D i < 0
  · rw [laidT_none h]; omega
  · have := laidT_room (L := L) (show 0 ≤ lastD D i by omega)
    omega
theorem dblT_zero (D L : Nat → Int) (m : Nat) : dblT D L m 0 = 0 := Pl.cnt_zero fun i _ => decide_eq_false fun h => by
  by_cases g : lastD D i < 0
  · rw [laidT_none g] at h
    omega
  · have := (laidT_room (L := L) (show 0 ≤ lastD D i by omega)).1
    omega
theorem laidT_congr {D D' L L' : Nat → Int} {i : Nat} (hD : ∀ j, j ≤ i → D j = D' j) (hL : ∀ j, j ≤ i → L j = L' j) : laidT D L i = laidT D' L' i := by
  have e : lastD D i = lastD D' i := by
    unfold lastD
    rw [hD i (Nat.le_refl _)]
    exact lookB_congr fun j hj => hD j (by omega)
  unfold laidT
  rw [e]
  split
  · rfl
  · exact lstR_alike fun a b ha hb _ _ _ _ => by rw [hL a (by omega), hL b (by omega)]
theorem dblT_congr {D D' L L' : Nat → Int} {m : Nat} (hD : ∀ j, j < m → D j = D' j) (hL : ∀ j, j < m → L j = L' j) (q : Nat) : dblT D L m q = dblT D' L' m q := cnt_congr fun i hi => by
  rw [laidT_congr (fun j hj => hD j (by omega)) (fun j hj => hL j (by omega))]

/-- k numbers from a on, together. -/
def sumD (f : Nat → Nat) (a : Nat) : Nat → Nat
  | 0 => 0
  | k + 1 => sumD f a k + f (a + k)
theorem sumD_congr {f g : Nat → Nat} {a : Nat} : ∀ {k : Nat}, (∀ j, j < k → f (a + j) = g (a + j)) → sumD f a k = sumD g a k
  | 0, _ => rfl
  | k + 1, h => by
    unfold sumD
    rw [sumD_congr (fun j hj => h j (by omega)), h k (Nat.lt_succ_self k)]
theorem sumD_first (f : Nat → Nat) (a : Nat) : ∀ k, sumD f a (k + 1) = f a + sumD f (a + 1) k
  | 0 => by
    show 0 + f (a + 0) = f a + 0
    rw [Nat.add_zero, Nat.zero_add, Nat.add_zero]
  | k + 1 => by
    have ih := sumD_first f a k
    show sumD f a (k + 1) + f (a + (k + 1)) = f a + (sumD f (a + 1) k + f (a + 1 + k))
    rw [ih, show a + 1 + k = a + (k + 1) by omega]
    omega
theorem cnt_add_or {f g : Nat → Bool} (h : ∀ j, ¬ (f j = true ∧ g j = true)) : ∀ n, cnt (fun j => f j || g j) n = cnt f n + cnt g n
  | 0 => rfl
  | n + 1 => by
    have ih := cnt_add_or h n
    have h0 := h n
    rw [cnt_succ, cnt_succ, cnt_succ, ih]
    cases hf : f n <;> cases hg : g n <;> simp [hf, hg] at h0 ⊢ <;> omega
/-- all that are laid from a on, ahead of a + k. -/
theorem sumD_cnt (F : Nat → Int) (n a : Nat) : ∀ k, sumD (fun q => cnt (fun i => decide (F i = (q : Int))) n) a k = cnt (fun i => decide ((a : Int) ≤ F i ∧ F i < ((a + k : Nat) : Int))) n
  | 0 => by
    show 0 = _
    rw [Pl.cnt_zero fun i _ => decide_eq_false (by omega)]
  | k + 1 => by
    show sumD _ a k + cnt (fun i => decide (F i = ((a + k : Nat) : Int))) n = _
    rw [sumD_cnt F n a k, ← cnt_add_or (fun j => by
      rw [decide_eq_true_iff, decide_eq_true_iff]
      omega)]
    refine cnt_congr fun i _ => ?_
    rw [Bool.eq_iff_iff, Bool.or_eq_true, decide_eq_true_iff, decide_eq_true_iff, decide_eq_true_iff]
    omega
/-- b - a, less the doubles of all places behind a, ahead of b. -/
def docsI (D L : Nat → Int) (n : Nat) (a b : Int) : Int := if 0 ≤ a ∧ a < b ∧ b ≤ (n : Int) then (b - a) - ((sumD (dblT D L n) (a.toNat + 1) (b.toNat - a.toNat - 1) : Nat) : Int) else 0
theorem docsI_out {D L : Nat → Int} {n : Nat} {a b : Int} (h : ¬ (0 ≤ a ∧ a < b ∧ b ≤ (n : Int))) : docsI D L n a b = 0 := if_neg h
theorem docsI_in {D L : Nat → Int} {n a b : Nat} (h1 : a < b) (h2 : b ≤ n) : docsI D L n (a : Int) (b : Int) = ((b : Int) - (a : Int)) - ((sumD (dblT D L n) (a + 1) (b - a - 1) : Nat) : Int) := by
  unfold docsI
  rw [if_pos (by omega), Int.toNat_natCast, Int.toNat_natCast]
/-- how many unlike numbers a range has. -/
def unlT (D : Nat → Int) (a b : Nat) (m : Nat) : Nat := cnt (fun j => decide (a ≤ j ∧ j < b ∧ lastD D j < (a : Int))) m
theorem unlT_le (D : Nat → Int) (a b m : Nat) : unlT D a b m ≤ m := Pl.cnt_le _ m
/-- the places of a range, so counted. -/
theorem cnt_span (a b : Nat) (h : a ≤ b) : ∀ n, b ≤ n → cnt (fun j => decide (a ≤ j ∧ j < b)) n = b - a := fun n hn => by
  rw [cnt_between a b h n, Nat.min_eq_right hn, Nat.min_eq_right (by omega)]
/-- in a range whose ends are less, and all between not: a link lies within it just if it is laid there. -/
theorem laidT_within {D L : Nat → Int} {n a b i : Nat} {v : Int} (hi : i < n) (hin : ∀ q, a < q → q < b → v ≤ L q) (hlo : L a < v) (hhi : b < n → L b < v) :
    ((a : Int) + 1 ≤ laidT D L i ∧ laidT D L i < (b : Int)) ↔ (a ≤ i ∧ i < b ∧ ¬ lastD D i < (a : Int)) := by
  by_cases h0 : lastD D i < 0
  · rw [laidT_none h0]
    omega
  · obtain ⟨p, hp⟩ : ∃ p : Nat, lastD D i = (p : Int) := ⟨(lastD D i).toNat, by omega⟩
    have hr := lastD_room D i
    obtain ⟨q, h1, h2⟩ := laidT_is (L := L) hp
    have hlo2 := h2.lo
    have hhi2 := h2.hi
    rw [h1, hp]
    constructor
    · intro ⟨g1, g2⟩
      have hv := hin q (by omega) (by omega)
      refine ⟨?_, ?_, ?_⟩
      · omega
      · apply Classical.byContradiction
        intro h
        have := h2.le b (by omega) (by omega) (by omega)
        have := hhi (by omega)
        omega
      · intro h
        have := h2.le a (by omega) (by omega) (by omega)
        omega
    · intro ⟨g1, g2, g3⟩
      omega
/-- so the doubles within it are all but the unlike ones. -/
theorem docsI_unlike {D L : Nat → Int} {n a b : Nat} {v : Int} (hin : ∀ q, a < q → q < b → v ≤ L q) (hlo : L a < v) (hhi : b < n → L b < v) (hab : a < b) (hb : b ≤ n) : docsI D L n (a : Int) (b : Int) = ((unlT D a b n : Nat) : Int) := by
  rw [docsI_in hab hb]
  have e1 : sumD (dblT D L n) (a + 1) (b - a - 1) = cnt (fun j => decide (a ≤ j ∧ j < b ∧ ¬ lastD D j < (a : Int))) n := by
    have h := sumD_cnt (laidT D L) n (a + 1) (b - a - 1)
    have h : sumD (dblT D L n) (a + 1) (b - a - 1) = _ := h
    rw [h]
    refine cnt_congr fun i hi => decide_eq_decide.2 ?_
    rw [← laidT_within hi hin hlo hhi, show a + 1 + (b - a - 1) = b by omega]
    omega
  have e2 : cnt (fun j => decide (a ≤ j ∧ j < b)) n = cnt (fun j => decide (a ≤ j ∧ j < b ∧ ¬ lastD D j < (a : Int))) n + unlT D a b n := by
    unfold unlT
    rw [← cnt_add_or (fun j => by
      rw [decide_eq_true_iff, decide_eq_true_iff]
      omega)]
    refine cnt_congr fun j _ => ?_
    rw [Bool.eq_iff_iff, Bool.or_eq_true, decide_eq_true_iff, decide_eq_true_iff, decide_eq_true_iff]
    omega
  rw [cnt_span a b (by omega) n hb] at e2
  rw [e1]
  omega
theorem stN_shares {V : Nat → Int} {n : Nat} {P : Nat → Int} {m a b : Nat} (ha : StN V n P m a) (hb : StN V n P m b) : Shares V n a b m := fun i hi => ⟨by have := ha.1; omega, by have := hb.1; omega, by rw [ha.2 i hi, hb.2 i hi]⟩
theorem stN_of_shares {V : Nat → Int} {n : Nat} {P : Nat → Int} {m a b : Nat} (hm : 0 < m) (ha : StN V n P m a) (h : Shares V n a b m) : StN V n P m b := ⟨(h.in hm).2, fun i hi => by rw [← (h i hi).2.2]; exact ha.2 i hi⟩
/-- of a pattern's range: as many as there are unlike documents. -/
theorem tally_docs {V D : Nat → Int} {n : Nat} {s : Nat → Nat} (hs : IsSA V n s) {P : Nat → Int} {m : Nat} (hm : 0 < m) :
    docsI D (lcpI V n fun i => ((s i : Nat) : Int)) n (((rngF (fun i => stB V n P m (s i)) n).1 : Nat) : Int) (((rngF (fun i => stB V n P m (s i)) n).2 : Nat) : Int) =
      ((unlT D (rngF (fun i => stB V n P m (s i)) n).1 (rngF (fun i => stB V n P m (s i)) n).2 n : Nat) : Int) := by
  obtain ⟨_, hside⟩ := rngF_side (f := fun i => stB V n P m (s i)) (n := n) (fun i j k h1 h2 h3 h4 h5 => stB_between hs h1 h2 h3 h4 h5) n (Nat.le_refl _)
  have hle := rngF_le (fun i => stB V n P m (s i)) n
  generalize (rngF (fun i => stB V n P m (s i)) n).1 = a at hside hle ⊢
  generalize (rngF (fun i => stB V n P m (s i)) n).2 = b at hside hle ⊢
  by_cases hab : a < b
  · have hst : ∀ j, a ≤ j → j < b → StN V n P m (s j) := fun j h1 h2 => stB_iff.1 ((hside j (by omega)).2 ⟨h1, h2⟩)
    have hno : ∀ j, j < n → ¬ (a ≤ j ∧ j < b) → ¬ StN V n P m (s j) := fun j hj h g => h ((hside j hj).1 (stB_iff.2 g))
    refine docsI_unlike (v := (m : Int)) (fun q h1 h2 => ?_) ?_ (fun hb => ?_) hab hle.2
    · obtain ⟨r, rfl⟩ : ∃ r, q = r + 1 := ⟨q - 1, by omega⟩
      rw [lcpI_succ, comI_in (hs.1 r (by omega)) (hs.1 (r + 1) (by omega))]
      have := com_le.2 (stN_shares (hst r (by omega) (by omega)) (hst (r + 1) (by omega) h2))
      omega
    · rcases a with _ | r
      · rw [lcpI_zero]; omega
      · rw [lcpI_succ, comI_in (hs.1 r (by omega)) (hs.1 (r + 1) (by omega))]
        apply Int.lt_of_not_ge
        intro h
        exact hno r (by omega) (by omega) (stN_of_shares hm (hst (r + 1) (Nat.le_refl _) hab) (com_le.1 (show m ≤ com V n (s r) (s (r + 1)) by omega)).symm)
    · obtain ⟨r, rfl⟩ : ∃ r, b = r + 1 := ⟨b - 1, by omega⟩
      rw [lcpI_succ, comI_in (hs.1 r (by omega)) (hs.1 (r + 1) hb)]
      apply Int.lt_of_not_ge
      intro h
      exact hno (r + 1) hb (by omega) (stN_of_shares hm (hst r (by omega) (Nat.lt_succ_self r)) (com_le.1 (show m ≤ com V n (s r) (s (r + 1)) by omega)))
  · rw [docsI_out (by omega)]
    have : unlT D a b n = 0 := Pl.cnt_zero fun j _ => decide_eq_false (by omega)
    rw [this]
    rfl
/-- all links together: those places that stood ahead. -/
def againT (D : Nat → Int) (m : Nat) : Nat := cnt (fun j => decide (0 ≤ lastD D j)) m
theorem againT_succ (D : Nat → Int) (m : Nat) : againT D (m + 1) = againT D m + (if 0 ≤ lastD D m then 1 else 0) := by
  unfold againT
  rw [cnt_succ]
  by_cases h : 0 ≤ lastD D m
  · rw [if_pos (decide_eq_true h), if_pos h]
  · rw [if_neg (by rw [decide_eq_true_iff]; exact h), if_neg h]
theorem sum_again (D L : Nat → Int) (n : Nat) : sumD (dblT D L n) 0 n = againT D n := by
  have h := sumD_cnt (laidT D L) n 0 n
  have h : sumD (dblT D L n) 0 n = _ := h
  rw [h]
  refine cnt_congr fun i hi => decide_eq_decide.2 ?_
  have h1 := laidT_lt (D := D) (L := L) hi
  rw [Nat.zero_add]
  constructor
  · intro g
    apply Classical.byContradiction
    intro h0
    rw [laidT_none (by omega)] at g
    omega
  · intro g
    have := laidT_room (L := L) g
    omega
theorem docsI_whole (D L : Nat → Int) (n : Nat) : docsI D L n 0 (n : Int) = (n : Int) - ((againT D n : Nat) : Int) := by
  rcases Nat.eq_zero_or_pos n with rfl | hn
  · rw [docsI_out (by omega)]
    rfl
  · have h := docsI_in (D := D) (L := L) (a := 0) hn (Nat.le_refl n)
    have h : docsI D L n 0 (n : Int) = ((n : Int) - 0) - ((sumD (dblT D L n) 1 (n - 0 - 1) : Nat) : Int) := h
    have h2 := sum_again D L n
    obtain ⟨k, rfl⟩ : ∃ k, n = k + 1 := ⟨n - 1, by omega⟩
    rw [sumD_first, dblT_zero, Nat.zero_add] at h2
    have h2 : sumD (dblT D L (k + 1)) 1 k = againT D (k + 1) := h2
    rw [h, ← h2, show k + 1 - 0 - 1 = k by omega]
    show ((k + 1 : Nat) : Int) - 0 - _ = _
    omega
end Go.Proofs.Ytddfaidfnmpnlaa
