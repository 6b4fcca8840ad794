/- A place going down the levels of a wavelet matrix, told by the lists' own counts; what Quantile, Below, Select and Distinct find level by level: plain: no program is named here. The developers' package wave: a matrix as it lies (Mx); noughts, down, up, Len, within, wide, bit, mayBe. The developers' package wave: At, behind, Rank, Quantile, Below. The developers' package wave: gather, Distinct. A range over a function, where what the iterator may turn and what a round must keep are the prover's to choose, and its elements are told by number: the law; marks of several such loops, one behind the other, taken off at a function's end. A copy of ints into a block that is known whole, and into a row of the call's own. slices.Clone of ints that came in: a row of the call's own. The contract of pack.Width: one more than the place of the highest one, at least 1. bits.Len64 by the library's own contract, applied to this program. -/
import Derived.Test.YtbkdloebbbmkaaaGreatB04
import Derived.Test.YtbkdloebbbmkaaaGreatB05
import Derived.Deep.DeepCutAuto
import Derived.Test.YtbkdloebbbmkaaaGreatB01
import Derived.RangeFuncNested
import Derived.RangeFuncBound
import Derived.RangeFuncCalls
import Derived.RangeFuncLeaves
import Derived.Shelf.Abstract
import Derived.Shelf.RegionOpen
import Derived.OwnWalkIn
import Derived.TacticsInMore
import Derived.LoopNIn
import Derived.LoopIn
import Derived.Test.YtbkdloebbbmkaaaGreatB02
import Derived.Laws.CopyOwn
import Derived.Test.YtbkdloebbbmkaaaGreatB03
import Derived.Deep.DeepAppendRoom
import Derived.Shelf.Strconv.Itoa0
namespace Go.Proofs.YtbkdloebbbmkaaaGreat
open Pl (cnt cnt_succ cnt_congr cnt_mono cnt_le)

/-- where the place i goes, of those with the bit c: by a list's own counts. -/
def dnB (f : Nat → Bool) (n : Nat) (c : Int) (i : Nat) : Nat := if c = 0 then cnt (fun j => !f j) i else cnt (fun j => !f j) n + cnt f i
theorem dnB_zero (f : Nat → Bool) (n i : Nat) : dnB f n 0 i = cnt (fun j => !f j) i := if_pos rfl
theorem dnB_one (f : Nat → Bool) (n i : Nat) : dnB f n 1 i = cnt (fun j => !f j) n + cnt f i := if_neg (by decide)
theorem lev_zeros (V : Nat → Int) (n W k i : Nat) : cnt (fun j => !levBit V n W k j) i = aheadI (fun j => bitZ (levRow V n W k j) (W - 1 - k)) i 0 := cnt_congr fun j _ => by
  unfold levBit
  rw [← decide_not]
  refine decide_eq_decide.2 ?_
  have := bitZ_or (levRow V n W k j) (W - 1 - k)
  show ¬ bitZ (levRow V n W k j) (W - 1 - k) = 1 ↔ bitZ (levRow V n W k j) (W - 1 - k) = 0
  omega
theorem lev_ones (V : Nat → Int) (n W k i : Nat) : cnt (levBit V n W k) i = aheadI (fun j => bitZ (levRow V n W k j) (W - 1 - k)) i 1 := rfl
theorem dnB_is {V : Nat → Int} {n W k i : Nat} {c : Int} (hc : c = 0 ∨ c = 1) : dnB (levBit V n W k) n c i = down (levRow V n W k) n (W - 1 - k) c i := by
  rcases hc with rfl | rfl
  · rw [dnB_zero, lev_zeros, down_zero]
  · rw [dnB_one, lev_zeros, lev_ones, down_one]
theorem dnB_le {f : Nat → Bool} {n i : Nat} {c : Int} (hc : c = 0 ∨ c = 1) (hi : i ≤ n) : dnB f n c i ≤ n := by
  have h1 := Pl.cnt_not f n
  have h2 := cnt_mono f hi
  have h3 := cnt_mono (fun j => !f j) hi
  rcases hc with rfl | rfl
  · rw [dnB_zero]; omega
  · rw [dnB_one]; omega
theorem dnB_mono {f : Nat → Bool} {n i j : Nat} {c : Int} (h : i ≤ j) : dnB f n c i ≤ dnB f n c j := by
  have h2 := cnt_mono f h
  have h3 := cnt_mono (fun j => !f j) h
  unfold dnB
  split <;> omega
/-- the number at a place of a level stands at the place that it goes to. -/
theorem at_down {V : Nat → Int} {n W k i : Nat} {x c : Int} (hi : i < n) (h : levRow V n W k i = x) (hc : bitZ x (W - 1 - k) = c) :
    dnB (levBit V n W k) n c i < n ∧ levRow V n W (k + 1) (dnB (levBit V n W k) n c i) = x := by
  have hc2 : c = 0 ∨ c = 1 := by rw [← hc]; exact bitZ_or _ _
  have hd := down_hit hi (show bitZ (levRow V n W k i) (W - 1 - k) = c by rw [h, hc])
  have hle := down_le (R := levRow V n W k) (n := n) (b := W - 1 - k) hc2 (show i + 1 ≤ n from hi)
  rw [dnB_is hc2]
  exact ⟨by have := hd.1; omega, hd.2.trans h⟩
theorem half_at {x : Int} {W k : Nat} (hk : k < W) : x / 2 ^ (W - (k + 1)) = 2 * (x / 2 ^ (W - k)) + bitZ x (W - 1 - k) := by
  have h := half_bit x (W - 1 - k)
  rw [show W - 1 - k + 1 = W - k by omega] at h
  rw [show W - (k + 1) = W - 1 - k by omega]
  exact h
theorem div_pow_zero {x : Int} {W : Nat} (h0 : 0 ≤ x) (h1 : x < 2 ^ W) : x / 2 ^ W = 0 := Int.ediv_eq_zero_of_lt h0 h1
theorem div_pow_le {x : Int} {W : Nat} (h0 : 0 ≤ x) : 0 ≤ x / 2 ^ W ∧ x / 2 ^ W ≤ x := by
  have hp : (0 : Int) < 2 ^ W := Int.pow_pos (by decide)
  exact ⟨Int.ediv_nonneg h0 (Int.le_of_lt hp), Int.ediv_le_self _ h0⟩
theorem Nar.step2 {V : Nat → Int} {n W k A B a b : Nat} {q : Int} (h : Nar V n W k A B q a b) (hk : k < W) (hAB : A ≤ B) {c : Int} (hc : c = 0 ∨ c = 1) :
    Nar V n W (k + 1) A B (2 * q + c) (dnB (levBit V n W k) n c a) (dnB (levBit V n W k) n c b) := by
  rw [dnB_is hc, dnB_is hc]
  exact h.step hk hAB hc
/-- narrowing towards c. -/
theorem Nar.to {V : Nat → Int} {n W k A B a b : Nat} {x c : Int} (h : Nar V n W k A B (x / 2 ^ (W - k)) a b) (hk : k < W) (hAB : A ≤ B) (hc : bitZ x (W - 1 - k) = c) :
    Nar V n W (k + 1) A B (x / 2 ^ (W - (k + 1))) (dnB (levBit V n W k) n c a) (dnB (levBit V n W k) n c b) := by
  have h2 := h.step2 hk hAB (c := c) (by rw [← hc]; exact bitZ_or _ _)
  rw [half_at hk, hc]
  exact h2
theorem Nar.less2 {V : Nat → Int} {n W k A B a b : Nat} {x c : Int} (h : Nar V n W k A B (x / 2 ^ (W - k)) a b) (hk : k < W) (hAB : A ≤ B) (hc : bitZ x (W - 1 - k) = c) :
    lessK V A B (W - (k + 1)) (x / 2 ^ (W - (k + 1))) = lessK V A B (W - k) (x / 2 ^ (W - k)) + (if c = 1 then cnt (fun j => !levBit V n W k j) b - cnt (fun j => !levBit V n W k j) a else 0) := by
  have h2 := h.less hk hAB (c := c) (by rw [← hc]; exact bitZ_or _ _)
  rw [down_zero, down_zero, ← lev_zeros, ← lev_zeros] at h2
  rw [half_at hk, hc]
  exact h2
theorem lessK_start {V : Nat → Int} {n W A B : Nat} {x : Int} (hAB : A ≤ B) (hB : B ≤ n) (hV : ∀ i, i < n → 0 ≤ V i ∧ V i < 2 ^ W) (h0 : 0 ≤ x) (h1 : x < 2 ^ W) : lessK V A B W (x / 2 ^ W) = 0 := by
  rw [div_pow_zero h0 h1]
  unfold lessK
  have e := seg_congr (f := fun j => decide (V j / 2 ^ W < 0)) (g := fun _ => false) (a := A) (b := B) (fun j hj => by
    have := hV j (by omega)
    show decide (V j / 2 ^ W < 0) = false
    rw [div_pow_zero this.1 this.2]
    rfl) hAB
  rw [e]
  unfold seg
  rw [Pl.cnt_zero (fun _ _ => rfl), Nat.zero_sub]
theorem lessK_end {V : Nat → Int} {n A B : Nat} {x : Int} (hAB : A ≤ B) (hB : B ≤ n) : lessK V A B 0 x = lessR V (A : Int) (B : Int) x n := by
  unfold lessK lessR
  rw [seg_range (fun j => decide (V j < x)) hAB hB]
  unfold seg
  congr 1 <;> exact cnt_congr fun j _ => decide_eq_decide.2 (by rw [Int.pow_zero, Int.ediv_one])

/-- the number that stands at K is number r among those of the range [a, b) of level j. -/
structure QuAt (V : Nat → Int) (n W j A B : Nat) (q : Int) (a b K r : Nat) : Prop where
  nar : Nar V n W j A B q a b
  lt : r < b - a
  at_ : lessK V A B (W - j) q + r = K
  room : 0 ≤ q ∧ q < 2 ^ j
theorem QuAt.start {V : Nat → Int} {n W A B K : Nat} (hAB : A ≤ B) (hB : B ≤ n) (hV : ∀ i, i < n → 0 ≤ V i ∧ V i < 2 ^ W) (hK : K < B - A) : QuAt V n W 0 A B 0 A B K K := by
  refine ⟨Nar.start hAB hB hV, hK, ?_, by decide, by decide⟩
  have h := lessK_start (W := W) (x := 0) hAB hB hV (Int.le_refl _) (Int.pow_pos (by decide))
  rw [Int.zero_ediv] at h
  rw [Nat.sub_zero, h, Nat.zero_add]
theorem pow_up (q c : Int) (j : Nat) (h : 0 ≤ q ∧ q < 2 ^ j) (hc : c = 0 ∨ c = 1) : 0 ≤ 2 * q + c ∧ 2 * q + c < 2 ^ (j + 1) := by
  rw [Int.pow_succ]
  omega
/-- the noughts of a range. -/
def segZ (f : Nat → Bool) (a b : Nat) : Nat := cnt (fun j => !f j) b - cnt (fun j => !f j) a
theorem QuAt.more {V : Nat → Int} {n W j A B a b K r : Nat} {q : Int} (h : QuAt V n W j A B q a b K r) (hj : j < W) (hAB : A ≤ B) (hr : segZ (levBit V n W j) a b ≤ r) :
    QuAt V n W (j + 1) A B (2 * q + 1) (dnB (levBit V n W j) n 1 a) (dnB (levBit V n W j) n 1 b) K (r - segZ (levBit V n W j) a b) := by
  have hl := h.nar.less hj hAB (c := 1) (.inr rfl)
  rw [if_pos rfl, down_zero, down_zero, ← lev_zeros, ← lev_zeros] at hl
  have h1 := Pl.cnt_not (levBit V n W j) a
  have h2 := Pl.cnt_not (levBit V n W j) b
  have h3 := cnt_mono (levBit V n W j) h.nar.le
  have h4 := cnt_mono (fun i => !levBit V n W j i) h.nar.le
  have h5 := h.at_
  have h6 := h.lt
  have hl : lessK V A B (W - (j + 1)) (2 * q + 1) = lessK V A B (W - j) q + segZ (levBit V n W j) a b := hl
  refine ⟨h.nar.step2 hj hAB (.inr rfl), ?_, by omega, pow_up q 1 j h.room (.inr rfl)⟩
  rw [dnB_one, dnB_one]
  unfold segZ at hr ⊢
  omega
theorem QuAt.less {V : Nat → Int} {n W j A B a b K r : Nat} {q : Int} (h : QuAt V n W j A B q a b K r) (hj : j < W) (hAB : A ≤ B) (hr : r < segZ (levBit V n W j) a b) :
    QuAt V n W (j + 1) A B (2 * q + 0) (dnB (levBit V n W j) n 0 a) (dnB (levBit V n W j) n 0 b) K r := by
  have hl := h.nar.less hj hAB (c := 0) (.inl rfl)
  rw [if_neg (by decide), Nat.add_zero] at hl
  refine ⟨h.nar.step2 hj hAB (.inl rfl), ?_, by rw [hl]; exact h.at_, pow_up q 0 j h.room (.inl rfl)⟩
  rw [dnB_zero, dnB_zero]
  exact hr
theorem QuAt.done {V : Nat → Int} {n W A B a b K r : Nat} {q : Int} (h : QuAt V n W W A B q a b K r) (hAB : A ≤ B) (hB : B ≤ n) : quantI V n (A : Int) (B : Int) (K : Int) = q := by
  have h1 := h.at_
  have h2 := h.lt
  have h3 := h.nar.last
  rw [Nat.sub_self, lessK_end hAB hB] at h1
  refine quantI_at (by omega) ?_
  have e : lessR V (A : Int) (B : Int) (q + 1) n = lessR V (A : Int) (B : Int) q n + seg (fun j => decide (V j = q)) A B := by
    rw [← seg_range (fun j => decide (V j = q)) hAB hB]
    refine cnt_parts fun j _ => ⟨?_, fun g => ?_⟩
    · rw [← Bool.and_or_distrib_left]
      congr 1
      rw [Bool.eq_iff_iff, Bool.or_eq_true, decide_eq_true_iff, decide_eq_true_iff, decide_eq_true_iff]
      omega
    · rw [Bool.and_eq_true, decide_eq_true_iff, decide_eq_true_iff] at g
      rw [decide_eq_false (show ¬ V j = q by omega), Bool.and_false]
  rw [e]
  omega

/-- a range of which nothing lies without the row. -/
theorem clamp_part (V : Nat → Int) (a b : Int) (n : Nat) : ∀ m, m ≤ n → partL V a b m = partL V ((Pl.clamp (Pl.clamp n b) a : Nat) : Int) ((Pl.clamp n b : Nat) : Int) m
  | 0, _ => rfl
  | m + 1, h => by
    have ih := clamp_part V a b n m (by omega)
    have hiff : (a ≤ (m : Int) ∧ (m : Int) < b) ↔ (((Pl.clamp (Pl.clamp n b) a : Nat) : Int) ≤ (m : Int) ∧ (m : Int) < ((Pl.clamp n b : Nat) : Int)) := by
      unfold Pl.clamp
      omega
    by_cases g : a ≤ (m : Int) ∧ (m : Int) < b
    · rw [partL_hit g, partL_hit (hiff.1 g), ih]
    · rw [partL_miss g, partL_miss (fun h => g (hiff.2 h)), ih]
theorem clamp_quant (V : Nat → Int) (a b k : Int) (n : Nat) : quantI V n a b k = quantI V n ((Pl.clamp (Pl.clamp n b) a : Nat) : Int) ((Pl.clamp n b : Nat) : Int) k := by
  unfold quantI
  rw [← clamp_part V a b n n (Nat.le_refl _)]
theorem clamp_less (V : Nat → Int) (a b c : Int) (n : Nat) : lessR V a b c n = lessR V ((Pl.clamp (Pl.clamp n b) a : Nat) : Int) ((Pl.clamp n b : Nat) : Int) c n := by
  rw [← lessR_part, ← lessR_part, ← clamp_part V a b n n (Nat.le_refl _)]
theorem clamp_cnt (V : Nat → Int) (d a b : Int) (n : Nat) : cntR V d a b n = cntR V d ((Pl.clamp (Pl.clamp n b) a : Nat) : Int) ((Pl.clamp n b : Nat) : Int) n := by
  rw [← cntR_part, ← cntR_part, ← clamp_part V a b n n (Nat.le_refl _)]
theorem cntR_seg {V : Nat → Int} {d : Int} {A B n : Nat} (hAB : A ≤ B) (hB : B ≤ n) : cntR V d (A : Int) (B : Int) n = seg (fun j => decide (V j = d)) A B := by
  rw [← cntR_part, countP_partL, seg_range (fun j => decide (V j = d)) hAB hB]
theorem partL_size {V : Nat → Int} {A B n : Nat} (hAB : A ≤ B) (hB : B ≤ n) : (partL V (A : Int) (B : Int) n).length = B - A := partL_count hAB hB
theorem quant_none {V : Nat → Int} {A B n : Nat} {k : Int} (hAB : A ≤ B) (hB : B ≤ n) (h : k < 0 ∨ ((B - A : Nat) : Int) ≤ k) : quantI V n (A : Int) (B : Int) k = -1 := by
  refine quantI_out ?_
  rw [partL_size hAB hB]
  exact h
/-- a number that is too great, or below 0, is not there. -/
theorem cntR_far {V : Nat → Int} {d a b : Int} {n : Nat} (h : ∀ i, i < n → V i ≠ d) : cntR V d a b n = 0 := Pl.cnt_zero fun j hj => decide_eq_false fun g => h j hj g.1
theorem lessR_far {V : Nat → Int} {c : Int} {A B n : Nat} (hAB : A ≤ B) (hB : B ≤ n) (h : ∀ i, i < n → V i < c) : lessR V (A : Int) (B : Int) c n = B - A := by
  rw [lessR_all h, partL_size hAB hB]
theorem lessR_none {V : Nat → Int} {a b c : Int} {n : Nat} (h : ∀ i, i < n → ¬ V i < c) : lessR V a b c n = 0 := Pl.cnt_zero fun j hj => by
  rw [decide_eq_false (h j hj), Bool.and_false]
theorem selW_far {V : Nat → Int} {n : Nat} {c k : Int} (h : ∀ i, i < n → V i ≠ c) : selW V n c k = -1 := by
  unfold selW
  refine Pl.sel_out ?_
  rw [Pl.cnt_zero (fun j hj => decide_eq_false (h j hj))]
  omega
theorem selW_out {V : Nat → Int} {n : Nat} {c k : Int} (h : k < 0 ∨ ((cnt (fun j => decide (V j = c)) n : Nat) : Int) ≤ k) : selW V n c k = -1 := Pl.sel_out h
theorem Nar.cnt_all {V : Nat → Int} {n W a b : Nat} {q : Int} (h : Nar V n W W 0 n q a b) : b - a = cnt (fun j => decide (V j = q)) n := by
  rw [h.last]
  unfold seg
  rw [show cnt (fun j => decide (V j = q)) 0 = 0 from rfl, Nat.sub_zero]

/-- the place of number m of those in the range: at the last level. -/
theorem UpAt.top {V : Nat → Int} {n W A B a b m : Nat} {x : Int} (h : Nar V n W W A B x a b) (hAB : A ≤ B) (hm : m < b - a) : UpAt V n W W a x m (a + m) := by
  have hall := h.many (fun y => decide (y ≠ x))
  have h0 : seg (fun j => decide (V j / 2 ^ (W - W) = x) && decide (V j ≠ x)) A B = 0 := by
    have e := seg_congr (f := fun j => decide (V j / 2 ^ (W - W) = x) && decide (V j ≠ x)) (g := fun _ => false) (a := A) (b := B) (fun j _ => by
      rw [Nat.sub_self, Int.pow_zero, Int.ediv_one, ← Bool.decide_and]
      exact decide_eq_false fun g => g.2 g.1) hAB
    rw [e]
    unfold seg
    rw [Pl.cnt_zero (fun _ _ => rfl), Nat.zero_sub]
  rw [h0] at hall
  have his : ∀ p, a ≤ p → p < b → levRow V n W W p = x := fun p h1 h2 => by
    apply Classical.byContradiction
    intro g
    have h3 := Pl.cnt_at_lt (f := fun p => decide (levRow V n W W p ≠ x)) (a := p) (b := b) h2 (decide_eq_true g)
    have h4 := cnt_mono (fun p => decide (levRow V n W W p ≠ x)) h1
    unfold seg at hall
    omega
  have hr := h.room
  refine ⟨by omega, by omega, his _ (by omega) (by omega), ?_⟩
  have e := seg_split (fun _ => true) (fun p => decide (levRow V n W W p = x)) a (a + m) (by omega)
  rw [seg_all (fun _ _ => rfl) (by omega)] at e
  have h5 : seg (fun p => true && !decide (levRow V n W W p = x)) a (a + m) = 0 := by
    have h6 : ∀ k, k ≤ m → seg (fun p => true && !decide (levRow V n W W p = x)) a (a + k) = 0 := by
      intro k
      induction k with
      | zero => intro _; unfold seg; rw [Nat.add_zero, Nat.sub_self]
      | succ k ih =>
        intro hk
        have ih := ih (by omega)
        unfold seg at ih ⊢
        rw [← Nat.add_assoc, cnt_succ, if_neg (by
          rw [his (a + k) (by omega) (by omega), decide_eq_true rfl]
          decide), Nat.add_zero]
        exact ih
    exact h6 m (Nat.le_refl _)
  rw [h5] at e
  have e2 : seg (fun p => true && decide (levRow V n W W p = x)) a (a + m) = seg (fun p => decide (levRow V n W W p = x)) a (a + m) := seg_congr (fun _ _ => Bool.true_and _) (by omega)
  omega
/-- the ranges' beginnings towards x, level by level. -/
noncomputable def goI (V : Nat → Int) (n W : Nat) (x : Int) (a : Nat) : Nat → Nat
  | 0 => a
  | k + 1 => dnB (levBit V n W k) n (bitZ x (W - 1 - k)) (goI V n W x a k)
theorem goI_nar {V : Nat → Int} {n W A B : Nat} {x : Int} (hAB : A ≤ B) (hB : B ≤ n) (hV : ∀ i, i < n → 0 ≤ V i ∧ V i < 2 ^ W) (h0 : 0 ≤ x) (h1 : x < 2 ^ W) : ∀ k, k ≤ W → Nar V n W k A B (x / 2 ^ (W - k)) (goI V n W x A k) (goI V n W x B k)
  | 0, _ => by
    rw [Nat.sub_zero, div_pow_zero h0 h1]
    exact Nar.start hAB hB hV
  | k + 1, hk => (goI_nar hAB hB hV h0 h1 k (by omega)).to (by omega) hAB rfl
/-- one level up. -/
theorem up_level {V : Nat → Int} {n W k a b m p : Nat} {q x c : Int} {A B : Nat} (h : Nar V n W k A B q a b) (hc : bitZ x (W - 1 - k) = c) (hu : UpAt V n W (k + 1) (dnB (levBit V n W k) n c a) x m p) (hp : p < dnB (levBit V n W k) n c b) :
    ∃ i, i < b ∧ UpAt V n W k a x m i ∧ (c = 0 → Pl.sel (fun j => !levBit V n W k j) n (p : Int) = (i : Int)) ∧ (c = 1 → Pl.sel (levBit V n W k) n ((p : Int) - ((cnt (fun j => !levBit V n W k j) n : Nat) : Int)) = (i : Int)) := by
  have hc2 : c = 0 ∨ c = 1 := by rw [← hc]; exact bitZ_or _ _
  rw [dnB_is hc2] at hu hp
  obtain ⟨i, g1, g2, g3, g4⟩ := hu.up h hc hp
  have hn : i < n := g4.room
  refine ⟨i, g1, g4, fun e => ?_, fun e => ?_⟩
  · rw [e] at g2 g3
    rw [← g3]
    exact up_zero hn g2
  · rw [e] at g2 g3
    rw [← g3, lev_zeros, ← down_zero]
    exact up_one hn g2

/-- what of a range is less than q by its first bits. -/
def fltL (V : Nat → Int) (A B n s : Nat) (q : Int) : List Int := (partL V (A : Int) (B : Int) n).filter (fun x => decide (x / 2 ^ s < q))
theorem fltL_half (V : Nat → Int) (A B n s : Nat) (q : Int) : fltL V A B n s (2 * q) = fltL V A B n (s + 1) q := by
  unfold fltL
  refine List.filter_congr fun x _ => decide_eq_decide.2 ?_
  have := half_bit x s
  have := bitZ_or x s
  omega
theorem fltL_none {V : Nat → Int} {n W k A B a : Nat} {q : Int} (h : Nar V n W k A B q a a) : fltL V A B n (W - k) (q + 1) = fltL V A B n (W - k) q := by
  have hs := h.size
  rw [Nat.sub_self] at hs
  unfold fltL
  refine List.filter_congr fun x hx => decide_eq_decide.2 ?_
  obtain ⟨j, _, h1, h2, rfl⟩ := mem_partL.1 hx
  have hne : V j / 2 ^ (W - k) ≠ q := fun e => by
    have h3 := Pl.cnt_at_lt (f := fun j => decide (V j / 2 ^ (W - k) = q)) (a := j) (b := B) (by omega) (decide_eq_true e)
    have h4 := cnt_mono (fun j => decide (V j / 2 ^ (W - k) = q)) (show A ≤ j by omega)
    unfold seg at hs
    omega
  omega
theorem fltL_start {V : Nat → Int} {n W A B : Nat} (hV : ∀ i, i < n → 0 ≤ V i ∧ V i < 2 ^ W) : fltL V A B n W 0 = [] ∧ fltL V A B n W (0 + 1) = partL V (A : Int) (B : Int) n := by
  unfold fltL
  constructor
  · rw [List.filter_eq_nil_iff]
    intro x hx
    obtain ⟨j, h0, _, _, rfl⟩ := mem_partL.1 hx
    rw [decide_eq_true_iff, div_pow_zero (hV j h0).1 (hV j h0).2]
    omega
  · rw [List.filter_eq_self]
    intro x hx
    obtain ⟨j, h0, _, _, rfl⟩ := mem_partL.1 hx
    rw [decide_eq_true_iff, div_pow_zero (hV j h0).1 (hV j h0).2]
    omega
theorem fltL_len (V : Nat → Int) (A B n s : Nat) (q : Int) : (fltL V A B n s q).length ≤ n := Nat.le_trans (List.length_filter_le _ _) (partL_le _ _ _ _)
theorem PairsOf.short {l : List Int} {D : List (Int × Nat)} (h : PairsOf l D) : D.length ≤ l.length := by
  rw [← h.sum_all]
  have key : ∀ i, i ≤ D.length → i ≤ sumP D i := by
    intro i
    induction i with
    | zero => intro _; exact Nat.zero_le _
    | succ i ih =>
      intro hi
      have hd : D[i]? = some D[i] := List.getElem?_eq_getElem hi
      rw [sumP_succ hd]
      have := (h.many _ (List.mem_of_getElem? hd)).2
      have := ih (by omega)
      omega
  exact key _ (Nat.le_refl _)
theorem PairsOf.less {l : List Int} {D : List (Int × Nat)} (h : PairsOf l D) : ∀ d ∈ D, d.2 ≤ l.length := fun d hd => by
  rw [(h.many d hd).1]
  exact List.countP_le_length
/-- one number more. -/
theorem fltL_one {V : Nat → Int} {n W A B a b : Nat} {q : Int} {D : List (Int × Nat)} (h : Nar V n W W A B q a b) (hAB : A ≤ B) (hB : B ≤ n) (hab : a ≠ b) (hD : PairsOf (fltL V A B n 0 q) D) : PairsOf (fltL V A B n 0 (q + 1)) (D ++ [(q, b - a)]) := by
  have hl := h.last
  have hle := h.le
  rw [← seg_range (fun j => decide (V j = q)) hAB hB, ← countP_partL V (A : Int) (B : Int) (fun x => decide (x = q))] at hl
  have hlow : ∀ d ∈ D, d.1 < q := fun d hd => by
    have h1 := (hD.mem d).1 hd
    have h2 := (List.mem_filter.1 h1.1).2
    rw [decide_eq_true_iff, Int.pow_zero, Int.ediv_one] at h2
    exact h2
  have hcount : ∀ y : Int, y < q + 1 → (fltL V A B n 0 (q + 1)).countP (fun x => decide (x = y)) = (partL V (A : Int) (B : Int) n).countP (fun x => decide (x = y)) := fun y hy => by
    unfold fltL
    rw [List.countP_filter]
    refine List.countP_congr fun x _ => ?_
    rw [Bool.and_eq_true, decide_eq_true_iff, decide_eq_true_iff, Int.pow_zero, Int.ediv_one]
    exact ⟨fun g => g.1, fun g => ⟨g, by omega⟩⟩
  have hcount2 : ∀ y : Int, y < q → (fltL V A B n 0 q).countP (fun x => decide (x = y)) = (partL V (A : Int) (B : Int) n).countP (fun x => decide (x = y)) := fun y hy => by
    unfold fltL
    rw [List.countP_filter]
    refine List.countP_congr fun x _ => ?_
    rw [Bool.and_eq_true, decide_eq_true_iff, decide_eq_true_iff, Int.pow_zero, Int.ediv_one]
    exact ⟨fun g => g.1, fun g => ⟨g, by omega⟩⟩
  refine ⟨?_, fun d hd => ?_, fun x hx => ?_⟩
  · rw [List.pairwise_append]
    exact ⟨hD.rise, List.pairwise_singleton _ _, fun d hd e he => by
      obtain rfl := List.mem_singleton.1 he
      exact hlow d hd⟩
  · rcases List.mem_append.1 hd with g | g
    · have h1 := hD.many d g
      have h2 := hlow d g
      rw [hcount _ (by omega), ← hcount2 _ h2]
      exact h1
    · obtain rfl := List.mem_singleton.1 g
      rw [hcount _ (by show q < q + 1; omega)]
      exact ⟨hl, by show 0 < b - a; omega⟩
  · obtain ⟨h1, h2⟩ := List.mem_filter.1 hx
    rw [decide_eq_true_iff, Int.pow_zero, Int.ediv_one] at h2
    by_cases e : x = q
    · exact ⟨(q, b - a), List.mem_append_right _ (List.mem_singleton.2 rfl), e.symm⟩
    · obtain ⟨d, hd, hd2⟩ := hD.all x (List.mem_filter.2 ⟨h1, by rw [decide_eq_true_iff, Int.pow_zero, Int.ediv_one]; omega⟩)
      exact ⟨d, List.mem_append_left _ hd, hd2⟩
end Go.Proofs.YtbkdloebbbmkaaaGreat

namespace Go.Proofs.YtbkdloebbbmkaaaGreat
open Go.RowKit
open Pl (cnt cnt_mono cnt_le)

theorem widthN_least {x k : Nat} (h : x < 2 ^ k) (hk : 1 ≤ k) : widthN x ≤ k := widthN_pow k x h hk
theorem widthN_22 {m : Nat} (h : m < 4194304) : 1 ≤ widthN m ∧ widthN m ≤ 22 := ⟨widthN_pos m, widthN_pow 22 m (by omega) (by decide)⟩
theorem powI (W : Nat) : (2 : Int) ^ W = ((2 ^ W : Nat) : Int) := by simp [Int.natCast_pow]
/-- all numbers of a right row are below the power. -/
theorem rightW_room {V : Nat → Int} {n : Nat} {m : Nat} (h : RightW V n (m : Int)) : ∀ i, i < n → 0 ≤ V i ∧ V i < 2 ^ widthN m := fun i hi => by
  have h1 := h.2.2.2 i hi
  have h2 := lt_widthN m
  rw [powI]
  exact ⟨h1.1, by omega⟩
theorem pow_24 {W : Nat} (h : W ≤ 22) : (2 : Int) ^ W ≤ 4194304 := by
  rw [powI]
  have := Nat.pow_le_pow_right (show 0 < 2 by decide) h
  omega

section
variable {w w' : World} {B g gw n : Nat} {av : Value} {ws : List Nat} {f : Nat → Bool}
theorem Vc.keepB (h : Vc w B g gw av n ws f) (hs : w.heap.size ≤ w'.heap.size) (hb : ∀ k, B ≤ k → k < w.heap.size → w'.heap[k]? = w.heap[k]?) : Vc w' B g gw av n ws f :=
  ⟨h.head.same (hb g h.lo.1 h.head.lt), h.body.same (hb gw h.lo.2 h.body.lt), fun k hk => by
    obtain ⟨ga, c, e, h1, h2, h3⟩ := h.row k hk
    exact ⟨ga, c, e, h1, Nat.lt_of_lt_of_le h2 hs, (cell_of_heap (hb ga h1 h2)).trans h3⟩, h.bits, h.lo⟩
theorem noughts_any (h : Vc w B g gw av n ws f) : Calls Tryz.prog 115 #[.pointer (some ⟨g, 0, none⟩)] w fun e w' => e = .returned (.int .i64 ((cnt (fun j => !f j) n : Nat) : Int)) ∧ w = w' := by
  have HL := Lib.hid (vlen_any h)
  have HO := Lib.hid (vones_any h)
  have hn := Pl.cnt_not f n
  have hf := h.bits.few
  have HE : Hid ((n : Int) - ((cnt f n : Nat) : Int) = ((cnt (fun j => !f j) n : Nat) : Int)) := Lib.hid (by omega)
  have hle := cnt_le f n
  clear h hn
  generalize cnt (fun j => !f j) n = z at HE ⊢
  generalize cnt f n = m at HE HO hle
  go_enter Tryz.func115, Tryz.ntmps115
  go_wp2_with (first
    | (go_at_call 55; (with_reducible refine HL.out.mono ?_); rintro e w' ⟨rfl, rfl⟩)
    | (go_at_call 61; (with_reducible refine HO.out.mono ?_); rintro e w' ⟨rfl, rfl⟩))
  go_ret
  exact ⟨ret_i64 HE.out, rfl⟩

theorem down_any (h : Vc w B g gw av n ws f) (i : Nat) (c : Int) (hi : i ≤ n) (hc : c = 0 ∨ c = 1) :
    Calls Tryz.prog 93 #[.pointer (some ⟨g, 0, none⟩), .int .i64 (i : Int), .int .i64 c] w fun e w' => e = .returned (.int .i64 ((dnB f n c i : Nat) : Int)) ∧ w = w' := by
  have hZ := zeros_any h (i : Int)
  have hR := rank_any h (i : Int)
  rw [Pl.clamp_nat hi] at hZ hR
  have hf := h.bits.few
  rcases hc with rfl | rfl
  · rw [dnB_zero]
    have HZ := Lib.hid hZ
    clear h hZ hR
    go_enter Tryz.func93, Tryz.ntmps93
    go_wp2_with (go_at_call 114; (with_reducible refine HZ.out.mono ?_); rintro e w' ⟨rfl, rfl⟩)
    go_ret
    exact ⟨rfl, rfl⟩
  · rw [dnB_one]
    have HN := Lib.hid (noughts_any h)
    have HR := Lib.hid hR
    have h1 := cnt_le f i
    have h2 := cnt_le (fun j => !f j) n
    clear h hZ hR
    generalize cnt (fun j => !f j) n = z at HN h2 ⊢
    generalize cnt f i = y at HR h1 ⊢
    have e1 : IntKind.i64.wrap ((z : Int) + (y : Int)) = ((z + y : Nat) : Int) := by rw [IntWalk.i64_in _ (by omega)]; omega
    have HE := Lib.hid e1
    clear e1
    go_enter Tryz.func93, Tryz.ntmps93
    go_wp2_with (first
      | (go_at_call 115; (with_reducible refine HN.out.mono ?_); rintro e w' ⟨rfl, rfl⟩)
      | (go_at_call 41; (with_reducible refine HR.out.mono ?_); rintro e w' ⟨rfl, rfl⟩))
    go_ret
    exact ⟨ret_i64 (by omega), rfl⟩

end

/-- a matrix as it lies: its struct in block g, its lists' pointers in block gl; all of it in blocks from B on. -/
structure Mx (w : World) (B g gl cl n : Nat) (V : Nat → Int) (m : Nat) : Prop where
  head : Lies w g 86 [.int .i64 (n : Int), .slice (some ⟨gl, 0, none⟩) (widthN m) cl]
  cap : widthN m ≤ cl ∧ cl ≤ maxLen
  row : ∀ k, k < widthN m → ∃ (gv gw : Nat) (av : Value) (ws : List Nat), w.cell? ⟨gl, k, none⟩ = some (.pointer (some ⟨gv, 0, none⟩)) ∧ Vc w B gv gw av n ws (levBit V n (widthN m) k)
  lo : B ≤ g ∧ B ≤ gl ∧ gl < w.heap.size
  right : RightW V n (m : Int)
  sl : ∀ k gv, k < widthN m → w.cell? ⟨gl, k, none⟩ = some (.pointer (some ⟨gv, 0, none⟩)) → ∃ (A : Option Addr) (q c : Nat), w.cell? ⟨gv, 3, none⟩ = some (.slice A q c)
/-- as the laws see it. -/
def WavAt (B : Nat) (w : World) (v : Value) (n : Nat) (V : Nat → Int) (m : Nat) : Prop := ∃ g gl cl, v = .pointer (some ⟨g, 0, none⟩) ∧ Mx w B g gl cl n V m
/-- a list of bits, as the laws see it. -/
def VcAt (B : Nat) (w : World) (v : Value) (n : Nat) (f : Nat → Bool) : Prop := ∃ (g gw : Nat) (av : Value) (ws : List Nat), v = .pointer (some ⟨g, 0, none⟩) ∧ Vc w B g gw av n ws f

section
variable {w w' : World} {B g gl cl n m : Nat} {V : Nat → Int}
theorem Mx.keepB (h : Mx w B g gl cl n V m) (hs : w.heap.size ≤ w'.heap.size) (hb : ∀ k, B ≤ k → k < w.heap.size → w'.heap[k]? = w.heap[k]?) : Mx w' B g gl cl n V m :=
  ⟨h.head.same (hb g h.lo.1 h.head.lt), h.cap, fun k hk => by
    obtain ⟨gv, gw, av, ws, h1, h2⟩ := h.row k hk
    exact ⟨gv, gw, av, ws, (cell_of_heap (hb gl h.lo.2.1 h.lo.2.2)).trans h1, h2.keepB hs hb⟩, ⟨h.lo.1, h.lo.2.1, Nat.lt_of_lt_of_le h.lo.2.2 hs⟩, h.right, fun k gv hk hc => by
    have hc2 : w.cell? ⟨gl, k, none⟩ = some (.pointer (some ⟨gv, 0, none⟩)) := (cell_of_heap (hb gl h.lo.2.1 h.lo.2.2)).symm.trans hc
    obtain ⟨gv', gw, av, ws, h1, h2⟩ := h.row k hk
    rw [hc2] at h1
    injection h1 with h1
    injection h1 with h1
    injection h1 with h1
    injection h1 with h1
    subst h1
    obtain ⟨A, q, c, e⟩ := h.sl k gv hk hc2
    exact ⟨A, q, c, (cell_of_heap (hb gv h2.lo.1 h2.head.lt)).trans e⟩⟩
theorem Mx.keep (h : Mx w B g gl cl n V m) (hb : Below w.heap.size w w') : Mx w' B g gl cl n V m := h.keepB hb.size fun k _ hk => hb.block k hk
theorem Mx.drewN (h : Mx w B g gl cl n V m) (k : Nat) : Mx (w.drewN k) B g gl cl n V m := h.keepB (Nat.le_refl _) fun _ _ _ => rfl
theorem Mx.c0 (h : Mx w B g gl cl n V m) : w.cell? ⟨g, 0, none⟩ = some (.int .i64 (n : Int)) := h.head.cell 0
theorem Mx.c1 (h : Mx w B g gl cl n V m) : w.cell? ⟨g, 1, none⟩ = some (.slice (some ⟨gl, 0, none⟩) (widthN m) cl) := h.head.cell 1
theorem Mx.few (h : Mx w B g gl cl n V m) : n ≤ 4194304 := h.right.2.2.1
theorem Mx.most (h : Mx w B g gl cl n V m) : m < 4194304 := by have := h.right.2.1; omega
theorem Mx.w22 (h : Mx w B g gl cl n V m) : 1 ≤ widthN m ∧ widthN m ≤ 22 := widthN_22 h.most
theorem Mx.room (h : Mx w B g gl cl n V m) : ∀ i, i < n → 0 ≤ V i ∧ V i < 2 ^ widthN m := rightW_room h.right

theorem wvLen_any (h : Mx w B g gl cl n V m) : Calls Tryz.prog 32 #[.pointer (some ⟨g, 0, none⟩)] w fun e w' => e = .returned (.int .i64 (n : Int)) ∧ w = w' := by
  have h1 := h.c0
  clear h
  go_enter Tryz.func32, Tryz.ntmps32
  go_wp2
  go_ret
  exact ⟨rfl, rfl⟩
theorem wvLen_nil (w : World) : Calls Tryz.prog 32 #[.pointer none] w fun e w' => e = .returned (.int .i64 0) ∧ w = w' := by
  go_enter Tryz.func32, Tryz.ntmps32
  go_wp2
  go_ret
  exact ⟨rfl, rfl⟩

/-- within, by its answer's two bounds. -/
theorem wvWithin_of (v : Value) (a b : Int) (w : World) (hL : Calls Tryz.prog 32 #[v] w fun e w' => e = .returned (.int .i64 (n : Int)) ∧ w = w') :
    Calls Tryz.prog 94 #[v, .int .i64 a, .int .i64 b] w fun e w' => e = .returned (.tuple #[.int .i64 ((Pl.clamp (Pl.clamp n b) a : Nat) : Int), .int .i64 ((Pl.clamp n b : Nat) : Int)]) ∧ w = w' := by
  have HL := Lib.hid hL
  have e1 := Lib.hid (Pl.clamp_int n b)
  obtain ⟨q, hq⟩ : ∃ q, Pl.clamp n b = q := ⟨_, rfl⟩
  rw [hq] at e1 ⊢
  have e2 := Lib.hid (Pl.clamp_int q a)
  obtain ⟨p, hp⟩ : ∃ p, Pl.clamp q a = p := ⟨_, rfl⟩
  rw [hp] at e2 ⊢
  clear hL hq hp
  go_enter Tryz.func94, Tryz.ntmps94
  go_upto_region 1 with (fail)
  go_cut [2] from 2 to 12 (fun s wx => s = .int .i64 (q : Int) ∧ wx = w)
  case first =>
    by_cases h1 : (n : Int) < b
    · by_cases h2 : 0 < n
      all_goals
        go_wp2_with (go_at_call 32; (with_reducible refine HL.out.mono ?_); rintro e w' ⟨rfl, rfl⟩)
        go_meet
        exact ⟨by rw [← e1.out]; first | done | (congr 1 <;> omega), rfl⟩
    · by_cases h2 : 0 < b
      all_goals
        go_wp2_with (go_at_call 32; (with_reducible refine HL.out.mono ?_); rintro e w' ⟨rfl, rfl⟩)
        go_meet
        exact ⟨by rw [← e1.out]; first | done | (congr 1 <;> omega), rfl⟩
  case rest =>
  obtain ⟨rfl, rfl⟩ := hcut
  by_cases h1 : (q : Int) < a
  · by_cases h2 : 0 < q
    all_goals
      go_wp2_with fail
      go_ret2
      exact ⟨by rw [← e2.out]; first | done | (congr 3 <;> first | rfl | omega | (simp; omega) | simp), rfl⟩
  · by_cases h2 : 0 < a
    all_goals
      go_wp2_with fail
      go_ret2
      exact ⟨by rw [← e2.out]; first | done | (congr 3 <;> first | rfl | omega | (simp; omega) | simp), rfl⟩

theorem wvWide_any (h : Mx w B g gl cl n V m) (c : Int) (r : Bool) (hr : r = true ↔ 0 ≤ c ∧ c < 2 ^ widthN m) :
    Calls Tryz.prog 63 #[.pointer (some ⟨g, 0, none⟩), .int .i64 c] w fun e w' => e = .returned (.bool r) ∧ w = w' := by
  have h1 := h.c1
  obtain ⟨hw1, hw2⟩ := h.w22
  have hcp := h.cap
  have hcm : cl ≤ 9223372036854775807 := by have := hcp.2; unfold maxLen at this; omega
  obtain ⟨W, hW⟩ : ∃ W, widthN m = W := ⟨_, rfl⟩
  rw [hW] at h1 hw1 hw2 hcp hr
  have hcl := hcp.1
  have h64 : W ≤ 64 := by omega
  have e0 : IntKind.u64.wrap (W : Int) = (W : Int) := IntWalk.u64_in _ (by omega)
  have eT : ((W : Int)).toNat = W := Int.toNat_natCast W
  have hlt : ¬ (W : Int) < 0 := by omega
  clear h hW hcp
  by_cases h0 : 0 ≤ c
  · have g0 : decide ((0 : Int) ≤ c) = true := decide_eq_true h0
    have hp : (0 : Int) < 2 ^ W := Int.pow_pos (by decide)
    have hq : (c / 2 ^ W == 0) = r := by
      rcases r with _ | _
      · rw [beq_eq_false_iff_ne]
        intro e
        have h2 : c < 2 ^ W := by
          have := Int.lt_ediv_add_one_mul_self c hp
          rw [e] at this
          omega
        have := hr.2 ⟨h0, h2⟩
        cases this
      · rw [beq_iff_eq]
        exact Int.ediv_eq_zero_of_lt h0 (hr.1 rfl).2
    have HQ := Lib.hid hq
    clear hr hp hq
    go_enter Tryz.func63, Tryz.ntmps63
    go_wp2
    go_ret
    exact ⟨by rw [← HQ.out]; rfl, rfl⟩
  · have g0 : decide ((0 : Int) ≤ c) = false := decide_eq_false h0
    obtain rfl : r = false := Bool.eq_false_iff.2 fun e => h0 (hr.1 e).1
    clear hr
    go_enter Tryz.func63, Tryz.ntmps63
    go_wp2
    go_ret
    exact ⟨rfl, rfl⟩
theorem wvWide_nil (c : Int) (w : World) : Calls Tryz.prog 63 #[.pointer none, .int .i64 c] w fun e w' => e = .returned (.bool false) ∧ w = w' := by
  go_enter Tryz.func63, Tryz.ntmps63
  go_wp2
  go_ret
  exact ⟨rfl, rfl⟩

theorem and_bit {x : Int} {b : Nat} (h0 : 0 ≤ x) (h1 : x ≤ 16777216) : bits .and .i64 (x / 2 ^ b) 1 = bitZ x b := by
  obtain ⟨y, rfl⟩ : ∃ y : Nat, x = (y : Int) := ⟨x.toNat, by omega⟩
  unfold bitZ
  rw [shr_u]
  have hy : y / 2 ^ b ≤ 16777216 := Nat.le_trans (Nat.div_le_self _ _) (by omega)
  generalize y / 2 ^ b = u at hy
  show IntKind.i64.wrap ((BitVec.ofInt 64 (u : Int) &&& BitVec.ofInt 64 ((1 : Nat) : Int)).toNat : Int) = _
  rw [BitVec.toNat_and, ofInt_n u (by omega), ofInt_n 1 (by omega), Nat.and_one_is_mod]
  rw [IntWalk.i64_in _ (by omega)]
  omega
theorem wvBit_any (h : Mx w B g gl cl n V m) (c : Int) (k : Nat) (hk : k < widthN m) (h0 : 0 ≤ c) (h1 : c < 2 ^ widthN m) :
    Calls Tryz.prog 95 #[.pointer (some ⟨g, 0, none⟩), .int .i64 c, .int .i64 (k : Int)] w fun e w' => e = .returned (.int .i64 (bitZ c (widthN m - 1 - k))) ∧ w = w' := by
  have hc1 := h.c1
  obtain ⟨hw1, hw2⟩ := h.w22
  have hcp := h.cap
  have hcm : cl ≤ 9223372036854775807 := by have := hcp.2; unfold maxLen at this; omega
  have hb := and_bit (x := c) (b := widthN m - 1 - k) h0 (by have := pow_24 hw2; omega)
  obtain ⟨W, hW⟩ : ∃ W, widthN m = W := ⟨_, rfl⟩
  rw [hW] at hc1 hw1 hw2 hcp hb hk ⊢
  have hcl := hcp.1
  have e1 : IntKind.i64.wrap ((W : Int) - 1) = ((W - 1 : Nat) : Int) := by rw [IntWalk.i64_in _ (by omega)]; omega
  obtain ⟨s, hs⟩ : ∃ s, W - 1 - k = s := ⟨_, rfl⟩
  have e2 : IntKind.i64.wrap (((W - 1 : Nat) : Int) - (k : Int)) = (s : Int) := by rw [IntWalk.i64_in _ (by omega)]; omega
  have e3 : IntKind.i64.wrap ((W : Int) - 1 - (k : Int)) = (s : Int) := by rw [IntWalk.i64_in _ (by omega)]; omega
  have h64 : s ≤ 64 := by omega
  have hlt : ¬ (s : Int) < 0 := by omega
  rw [hs] at hb ⊢
  have HB := Lib.hid hb
  clear h hW hcp hb hs h0 h1 hk
  go_enter Tryz.func95, Tryz.ntmps95
  go_wp2
  go_ret
  exact ⟨by rw [← HB.out]; rfl, rfl⟩
end
end Go.Proofs.YtbkdloebbbmkaaaGreat

namespace Go.Proofs.YtbkdloebbbmkaaaGreat
open Go.RowKit
open Pl (cnt cnt_mono cnt_le)

theorem or_bit {q c : Int} (h0 : 0 ≤ q) (h1 : q ≤ 16777216) (hc : c = 0 ∨ c = 1) : bits .or .i64 (q * 2) c = 2 * q + c := by
  obtain ⟨a, rfl⟩ : ∃ a : Nat, q = (a : Int) := ⟨q.toNat, by omega⟩
  obtain ⟨b, rfl⟩ : ∃ b : Nat, c = (b : Int) := ⟨c.toNat, by omega⟩
  have e : ((a : Int) * 2) = ((a * 2 : Nat) : Int) := by omega
  have hor : 2 * a + b = 2 * a ||| b := by
    have := Nat.two_pow_add_eq_or_of_lt (i := 1) (show b < 2 ^ 1 by omega) a
    rwa [Nat.pow_one] at this
  rw [e]
  show IntKind.i64.wrap ((BitVec.ofInt 64 ((a * 2 : Nat) : Int) ||| BitVec.ofInt 64 (b : Int)).toNat : Int) = _
  rw [BitVec.toNat_or, ofInt_n _ (by omega), ofInt_n b (by omega), Nat.mul_comm a 2, ← hor]
  rw [IntWalk.i64_in _ (by omega)]
  omega

section
variable {w w' : World} {B g gl cl n m : Nat} {V : Nat → Int}
set_option maxRecDepth 100000 in
set_option maxHeartbeats 1600000 in
theorem wvAt_in (h : Mx w B g gl cl n V m) (i : Nat) (hi : i < n) : Calls Tryz.prog 56 #[.pointer (some ⟨g, 0, none⟩), .int .i64 (i : Int)] w fun e w' => e = .returned (.int .i64 (V i)) ∧ w = w' := by
  have HL := Lib.hid (wvLen_any h)
  have hc1 := h.c1
  have HH := Lib.hid h
  obtain ⟨hw1, hw2⟩ := h.w22
  have hcp := h.cap
  have hcm : cl ≤ 9223372036854775807 := by have := hcp.2; unfold maxLen at this; omega
  have hV := h.room i hi
  have hf := h.few
  have hp22 := pow_24 hw2
  obtain ⟨W, hW⟩ : ∃ W, widthN m = W := ⟨_, rfl⟩
  have HW := Lib.hid hW
  rw [hW] at hc1 hw1 hw2 hcp hV hp22
  have hcl := hcp.1
  obtain ⟨x, hx⟩ : ∃ x, V i = x := ⟨_, rfl⟩
  rw [hx] at hV ⊢
  have HX : Hid (0 ≤ x ∧ x ≤ 4194304 ∧ x / 2 ^ W = 0) := Lib.hid ⟨hV.1, by omega, div_pow_zero hV.1 hV.2⟩
  have H0 : Hid (levRow V n W 0 i = x ∧ (0 : Int) = x / 2 ^ (W - 0)) := Lib.hid ⟨hx, HX.out.2.2.symm⟩
  have g1 : decide ((i : Int) < 0) = false := decide_eq_false (by omega)
  have g2 : decide ((n : Int) ≤ (i : Int)) = false := decide_eq_false (by omega)
  have g3 : decide (n ≤ i) = false := decide_eq_false (by omega)
  clear h hW hcp hV hx hp22
  go_enter Tryz.func56, Tryz.ntmps56
  go_wp2_with (go_at_call 32; (with_reducible refine HL.out.mono ?_); rintro e w' ⟨rfl, rfl⟩)
  go_loop [1, 5, 22] (fun s u v => ∃ (k p : Nat) (q : Int), k ≤ W ∧ v = .int .i64 (k : Int) ∧ s = .int .i64 (p : Int) ∧ u = .int .i64 q ∧ p < n ∧ 0 ≤ q ∧ q ≤ 4194304 ∧ Hid (levRow V n W k p = x ∧ q = x / 2 ^ (W - k))) (fun _ _ v => W - (intOf v).toNat)
  case atStart => exact ⟨0, i, 0, Nat.zero_le _, rfl, rfl, rfl, hi, by omega, by omega, H0⟩
  case round =>
    clear H0
    obtain ⟨k, p, q, hk, rfl, rfl, rfl, hp, hq0, hq1, hr⟩ := hrel
    by_cases hlt : k < W
    · obtain ⟨gv, gw, av, ws, hcell, hvc⟩ := HH.out.row k (by rw [HW.out]; exact hlt)
      rw [HW.out] at hvc
      have hA := at_in hvc p hp
      obtain ⟨c, hc⟩ : ∃ c, bitZ x (W - 1 - k) = c := ⟨_, rfl⟩
      have hc2 : c = 0 ∨ c = 1 := by rw [← hc]; exact bitZ_or _ _
      have hD := down_any hvc p c (Nat.le_of_lt hp) hc2
      obtain ⟨d1, d2⟩ := at_down hp hr.out.1 hc
      have hor := or_bit hq0 (by omega) hc2
      have hhalf := half_at (x := x) hlt
      rw [hc, ← hr.out.2] at hhalf
      have hxq := div_pow_le (x := x) (W := W - (k + 1)) HX.out.1
      rw [hhalf] at hxq
      have hx4 := HX.out.2.1
      have hb : levBit V n W k p = decide (c = 1) := by
        unfold levBit
        rw [hr.out.1, hc]
      rw [hb] at hA
      obtain ⟨p2, hp2⟩ : ∃ p2, dnB (levBit V n W k) n c p = p2 := ⟨_, rfl⟩
      rw [hp2] at hD d1 d2
      obtain ⟨q2, hq2⟩ : ∃ q2, 2 * q + c = q2 := ⟨_, rfl⟩
      rw [hq2] at hor hhalf hxq
      have HR : Hid (levRow V n W (k + 1) p2 = x ∧ q2 = x / 2 ^ (W - (k + 1))) := Lib.hid ⟨d2, hhalf.symm⟩
      have HD := Lib.hid hD
      have hq2b : 0 ≤ q2 ∧ q2 ≤ 4194304 := by omega
      clear hvc hhalf hD d2 hp2 hq2 hr hb hxq hx4 hc
      rcases hc2 with rfl | rfl
      · have HA := Lib.hid hA
        clear hA
        go_wp2_with (first
          | (go_at_call 38; (with_reducible refine HA.out.mono ?_); rintro e w' ⟨rfl, rfl⟩)
          | (go_at_call 93; (with_reducible refine HD.out.mono ?_); rintro e w' ⟨rfl, rfl⟩))
        go_round
        case rel => exact ⟨k + 1, p2, q2, by omega, by go_num, rfl, rfl, d1, hq2b.1, hq2b.2, HR⟩
        case measure => simp [intOf]; omega
      · have HA := Lib.hid hA
        clear hA
        go_wp2_with (first
          | (go_at_call 38; (with_reducible refine HA.out.mono ?_); rintro e w' ⟨rfl, rfl⟩)
          | (go_at_call 93; (with_reducible refine HD.out.mono ?_); rintro e w' ⟨rfl, rfl⟩))
        go_round
        case rel => exact ⟨k + 1, p2, q2, by omega, by go_num, rfl, rfl, d1, hq2b.1, hq2b.2, HR⟩
        case measure => simp [intOf]; omega
    · have hkW : k = W := by omega
      have hge : ¬ (k : Int) < (W : Int) := by omega
      have e := hr.out.2
      rw [hkW, Nat.sub_self, Int.pow_zero, Int.ediv_one] at e
      have HE := Lib.hid e
      clear e hkW hr
      go_wp2_with fail
      go_ret
      exact ⟨ret_i64 HE.out, rfl⟩
theorem wvAt_out (v : Value) (i : Int) (hL : Calls Tryz.prog 32 #[v] w fun e w' => e = .returned (.int .i64 (n : Int)) ∧ w = w') (hi : ¬ (0 ≤ i ∧ i < (n : Int))) : Calls Tryz.prog 56 #[v, .int .i64 i] w fun e w' => e = .returned (.int .i64 (-1)) ∧ w = w' := by
  have HL := Lib.hid hL
  clear hL
  by_cases h0 : i < 0
  · go_enter Tryz.func56, Tryz.ntmps56
    go_wp2_with (go_at_call 32; (with_reducible refine HL.out.mono ?_); rintro e w' ⟨rfl, rfl⟩)
    go_ret
    exact ⟨rfl, rfl⟩
  · go_enter Tryz.func56, Tryz.ntmps56
    go_wp2_with (go_at_call 32; (with_reducible refine HL.out.mono ?_); rintro e w' ⟨rfl, rfl⟩)
    go_ret
    exact ⟨rfl, rfl⟩

set_option maxRecDepth 100000 in
set_option maxHeartbeats 1600000 in
/-- narrowing to c, level by level. -/
theorem wvBehind_any (h : Mx w B g gl cl n V m) (c a b : Int) (h0 : 0 ≤ c) (h1 : c < 2 ^ widthN m) :
    Calls Tryz.prog 64 #[.pointer (some ⟨g, 0, none⟩), .int .i64 c, .int .i64 a, .int .i64 b] w fun e w' =>
      e = .returned (.tuple #[.int .i64 ((goI V n (widthN m) c (Pl.clamp (Pl.clamp n b) a) (widthN m) : Nat) : Int), .int .i64 ((goI V n (widthN m) c (Pl.clamp n b) (widthN m) : Nat) : Int)]) ∧ w = w' := by
  have HWi := Lib.hid (wvWithin_of _ a b w (wvLen_any h))
  have hc1 := h.c1
  have HH := Lib.hid h
  have HBt := Lib.hid (fun (k : Nat) (hk : k < widthN m) => wvBit_any h c k hk h0 h1)
  obtain ⟨hw1, hw2⟩ := h.w22
  have hcp := h.cap
  have hcm : cl ≤ 9223372036854775807 := by have := hcp.2; unfold maxLen at this; omega
  have hf := h.few
  have hBn := Pl.clamp_le n b
  have hAB := Pl.clamp_le (Pl.clamp n b) a
  generalize Pl.clamp (Pl.clamp n b) a = A0 at hAB HWi ⊢
  generalize Pl.clamp n b = B0 at hAB hBn HWi ⊢
  have HGo := Lib.hid (goI_nar hAB hBn h.room h0 h1)
  obtain ⟨W, hW⟩ : ∃ W, widthN m = W := ⟨_, rfl⟩
  have HW := Lib.hid hW
  rw [hW] at hc1 hw1 hw2 hcp HGo HBt ⊢
  have hcl := hcp.1
  clear h hW hcp h0 h1
  go_enter Tryz.func64, Tryz.ntmps64
  go_wp2_with (go_at_call 94; (with_reducible refine HWi.out.mono ?_); rintro e w' ⟨rfl, rfl⟩)
  go_loop [2, 3, 25] (fun s u v => ∃ (k p q : Nat), k ≤ W ∧ v = .int .i64 (k : Int) ∧ s = .int .i64 (p : Int) ∧ u = .int .i64 (q : Int) ∧ p ≤ q ∧ q ≤ n ∧ Hid (p = goI V n W c A0 k ∧ q = goI V n W c B0 k)) (fun _ _ v => W - (intOf v).toNat)
  case atStart => exact ⟨0, A0, B0, Nat.zero_le _, rfl, rfl, rfl, hAB, hBn, Lib.hid ⟨rfl, rfl⟩⟩
  case round =>
    obtain ⟨k, p, q, hk, rfl, rfl, rfl, hpq, hqn, hr⟩ := hrel
    by_cases hlt : k < W
    · obtain ⟨gv, gw, av, ws, hcell, hvc⟩ := HH.out.row k (by rw [HW.out]; exact hlt)
      rw [HW.out] at hvc
      have HB := Lib.hid (HBt.out k hlt)
      have hn1 := HGo.out (k + 1) hlt
      obtain ⟨d, hd⟩ : ∃ d, bitZ c (W - 1 - k) = d := ⟨_, rfl⟩
      have hd2 : d = 0 ∨ d = 1 := by rw [← hd]; exact bitZ_or _ _
      rw [hd] at HB
      have hD1 := down_any hvc p d (by omega) hd2
      have hD2 := down_any hvc q d hqn hd2
      have e1 : dnB (levBit V n W k) n d p = goI V n W c A0 (k + 1) := by rw [hr.out.1, ← hd]; rfl
      have e2 : dnB (levBit V n W k) n d q = goI V n W c B0 (k + 1) := by rw [hr.out.2, ← hd]; rfl
      have hle := hn1.le
      have hrm := hn1.room
      rw [← e1, ← e2] at hle
      rw [← e2] at hrm
      have HR : Hid (dnB (levBit V n W k) n d p = goI V n W c A0 (k + 1) ∧ dnB (levBit V n W k) n d q = goI V n W c B0 (k + 1)) := Lib.hid ⟨e1, e2⟩
      have HD1 := Lib.hid hD1
      have HD2 := Lib.hid hD2
      clear hvc hD1 hD2 e1 e2 hr hn1 hd
      generalize dnB (levBit V n W k) n d p = p2 at HR HD1 hle
      generalize dnB (levBit V n W k) n d q = q2 at HR HD2 hle hrm
      go_wp2_with (first
        | (go_at_call 95; (with_reducible refine HB.out.mono ?_); rintro e w' ⟨rfl, rfl⟩)
        | (go_at_call 93; (with_reducible refine HD1.out.mono ?_); rintro e w' ⟨rfl, rfl⟩)
        | (go_at_call 93; (with_reducible refine HD2.out.mono ?_); rintro e w' ⟨rfl, rfl⟩))
      go_round
      case rel => exact ⟨k + 1, p2, q2, by omega, by go_num, rfl, rfl, hle, hrm, HR⟩
      case measure => simp [intOf]; omega
    · have hkW : k = W := by omega
      have hge : ¬ (k : Int) < (W : Int) := by omega
      rw [hkW] at hr
      obtain ⟨rfl, rfl⟩ := hr.out
      clear hkW hr
      go_wp2_with fail
      go_ret2
      exact ⟨rfl, rfl⟩

set_option maxRecDepth 100000 in
theorem wvRank_any (h : Mx w B g gl cl n V m) (c i : Int) : Calls Tryz.prog 42 #[.pointer (some ⟨g, 0, none⟩), .int .i64 c, .int .i64 i] w fun e w' => e = .returned (.int .i64 ((cntR V c 0 i n : Nat) : Int)) ∧ w = w' := by
  by_cases hwd : 0 ≤ c ∧ c < 2 ^ widthN m
  · have HWd := Lib.hid (wvWide_any h c true ⟨fun _ => hwd, fun _ => rfl⟩)
    have HBe := Lib.hid (wvBehind_any h c 0 i hwd.1 hwd.2)
    have hBn := Pl.clamp_le n i
    have hAB := Pl.clamp_le (Pl.clamp n i) 0
    have hN := goI_nar hAB hBn h.room hwd.1 hwd.2 (widthN m) (Nat.le_refl _)
    have hf := h.few
    have hle := hN.le
    have hrm := hN.room
    have hlast := hN.size
    rw [Nat.sub_self, Int.pow_zero, Int.ediv_one] at hN
    have hlast := hN.last
    rw [← cntR_seg hAB hBn, ← clamp_cnt] at hlast
    have HE := Lib.hid hlast
    clear hN hlast hBn hAB h hwd
    generalize goI V n (widthN m) c (Pl.clamp (Pl.clamp n i) 0) (widthN m) = p at HBe HE hle
    generalize goI V n (widthN m) c (Pl.clamp n i) (widthN m) = q at HBe HE hle hrm
    go_enter Tryz.func42, Tryz.ntmps42
    go_wp2_with (first
      | (go_at_call 63; (with_reducible refine HWd.out.mono ?_); rintro e w' ⟨rfl, rfl⟩)
      | (go_at_call 64; (with_reducible refine HBe.out.mono ?_); rintro e w' ⟨rfl, rfl⟩))
    go_ret
    exact ⟨ret_i64 (by rw [← HE.out]; omega), rfl⟩
  · have HWd := Lib.hid (wvWide_any h c false ⟨fun e => (by cases e), fun e => absurd e hwd⟩)
    have HE : Hid (cntR V c 0 i n = 0) := Lib.hid (cntR_far fun j hj e => hwd (by rw [← e]; exact h.room j hj))
    clear h hwd
    go_enter Tryz.func42, Tryz.ntmps42
    go_wp2_with (go_at_call 63; (with_reducible refine HWd.out.mono ?_); rintro e w' ⟨rfl, rfl⟩)
    go_ret
    exact ⟨by rw [HE.out]; rfl, rfl⟩
theorem wvRank_nil (c i : Int) (w : World) : Calls Tryz.prog 42 #[.pointer none, .int .i64 c, .int .i64 i] w fun e w' => e = .returned (.int .i64 0) ∧ w = w' := by
  go_enter Tryz.func42, Tryz.ntmps42
  go_wp2_with (go_at_call 63; (with_reducible refine (wvWide_nil _ _).mono ?_); rintro e w' ⟨rfl, rfl⟩)
  go_ret
  exact ⟨rfl, rfl⟩
end
end Go.Proofs.YtbkdloebbbmkaaaGreat

namespace Go.Proofs.YtbkdloebbbmkaaaGreat
open Go.RowKit
open Pl (cnt cnt_mono cnt_le)

section
variable {w0 : World} {B g gl cl n m : Nat} {V : Nat → Int}
end
end Go.Proofs.YtbkdloebbbmkaaaGreat

namespace Go.Proofs.YtbkdloebbbmkaaaGreat
open Go.RowKit

theorem wide_room (k : Nat) : Fence.wide.room k := fun d h => by cases h
theorem round_any {m m' : Nat} {P : Program} {l : Nat} {f : FuncId} {tmps : Array Value} {assign body : Code} {w : World} {R : Ending → World → Prop} (h : RoundIn Fence.wide m P l f tmps assign body w R) : RoundIn Fence.wide m' P l f tmps assign body w R :=
  ⟨h.1, fun c cs _ => h.2 c cs (wide_room _)⟩

/-- nothing has turned below lo, nor from hi on. -/
structure Gap (lo hi : Nat) (W W' : World) : Prop where
  os : W'.os = W.os
  tape : W'.tape = W.tape
  output : W'.output = W.output
  size : W.heap.size ≤ W'.heap.size
  block : ∀ k, k < W.heap.size → (k < lo ∨ hi ≤ k) → W'.heap[k]? = W.heap[k]?
theorem Gap.refl (lo hi : Nat) (W : World) : Gap lo hi W W := ⟨rfl, rfl, rfl, Nat.le_refl _, fun _ _ _ => rfl⟩
theorem Gap.trans {lo hi : Nat} {A B C : World} (h : Gap lo hi A B) (k : Gap lo hi B C) : Gap lo hi A C :=
  ⟨k.os.trans h.os, k.tape.trans h.tape, k.output.trans h.output, Nat.le_trans h.size k.size, fun i hi hb => (k.block i (Nat.lt_of_lt_of_le hi h.size) hb).trans (h.block i hi hb)⟩
/-- a call that turns nothing that lay. -/
theorem Gap.call {lo hi : Nat} {A B : World} (h : Below A.heap.size A B) : Gap lo hi A B := ⟨h.os, h.tape, h.output, h.size, fun k hk _ => h.block k hk⟩
theorem Gap.grown {lo hi : Nat} {A B : World} {row : Option Nat} (h : A.grownBy B row) (hr : ∀ k, row = some k → lo ≤ k ∧ k < hi) : Gap lo hi A B :=
  ⟨h.os, h.tape, h.output, h.size, fun k hk hb => h.block k hk fun e => by have := hr k e.symm; omega⟩
theorem Gap.setCell {lo hi : Nat} {A : World} {p : Addr} (h1 : lo ≤ p.block) (h2 : p.block < hi) (u : Value) : Gap lo hi A (A.setCell p u) :=
  ⟨rfl, rfl, rfl, by simp [World.setCell], fun k _ hb => Below.heap_setCell _ _ _ _ (by omega)⟩
theorem Gap.wider {lo hi lo' hi' : Nat} {A B : World} (h : Gap lo hi A B) (h1 : lo' ≤ lo) (h2 : hi ≤ hi') : Gap lo' hi' A B :=
  ⟨h.os, h.tape, h.output, h.size, fun k hk hb => h.block k hk (by omega)⟩
theorem Gap.below {lo hi : Nat} {A B : World} (h : Gap lo hi A B) (hs : lo ≤ A.heap.size) : Below lo A B := ⟨h.os, h.tape, h.output, h.size, fun k hk => h.block k (by omega) (.inl hk)⟩
theorem below_row {B : Nat} {A A' : World} {row : Option Nat} (h : A.grownBy A' row) (hB : B ≤ A.heap.size) (hr : ∀ k, row = some k → B ≤ k) : Below B A A' := (Below.refl B A).grown h hB hr

/-- the blocks of which p speaks have not turned. -/
structure Off (p : Nat → Prop) (W W' : World) : Prop where
  os : W'.os = W.os
  tape : W'.tape = W.tape
  output : W'.output = W.output
  size : W.heap.size ≤ W'.heap.size
  block : ∀ k, k < W.heap.size → p k → W'.heap[k]? = W.heap[k]?
theorem Off.refl (p : Nat → Prop) (W : World) : Off p W W := ⟨rfl, rfl, rfl, Nat.le_refl _, fun _ _ _ => rfl⟩
theorem Off.trans {p : Nat → Prop} {A B C : World} (h : Off p A B) (k : Off p B C) : Off p A C :=
  ⟨k.os.trans h.os, k.tape.trans h.tape, k.output.trans h.output, Nat.le_trans h.size k.size, fun i hi hb => (k.block i (Nat.lt_of_lt_of_le hi h.size) hb).trans (h.block i hi hb)⟩
theorem Off.call {p : Nat → Prop} {A B : World} (h : Below A.heap.size A B) : Off p A B := ⟨h.os, h.tape, h.output, h.size, fun k hk _ => h.block k hk⟩
theorem Off.grown {p : Nat → Prop} {A B : World} {row : Option Nat} (h : A.grownBy B row) (hr : ∀ k, row = some k → ¬ p k) : Off p A B :=
  ⟨h.os, h.tape, h.output, h.size, fun k hk hp => h.block k hk fun e => hr k e.symm hp⟩
theorem Off.setCell {p : Nat → Prop} {A : World} {q : Addr} (h : ¬ p q.block) (u : Value) : Off p A (A.setCell q u) :=
  ⟨rfl, rfl, rfl, by simp [World.setCell], fun k _ hp => Below.heap_setCell _ _ _ _ (fun e => h (by rw [← e]; exact hp))⟩
theorem Off.less {p q : Nat → Prop} {A B : World} (h : Off p A B) (hq : ∀ k, q k → p k) : Off q A B := ⟨h.os, h.tape, h.output, h.size, fun k hk hp => h.block k hk (hq k hp)⟩
theorem Off.below {p : Nat → Prop} {A B : World} {n : Nat} (h : Off p A B) (hs : n ≤ A.heap.size) (hp : ∀ k, k < n → p k) : Below n A B := ⟨h.os, h.tape, h.output, h.size, fun k hk => h.block k (by omega) (hp k hk)⟩
theorem Off.cell {p : Nat → Prop} {A B : World} (h : Off p A B) {q : Addr} {v : Value} (hc : A.cell? q = some v) (hp : p q.block) : B.cell? q = some v :=
  (World.cell?_of_block (h.block q.block (cell_in hc) hp)).trans hc
theorem Off.free {p : Nat → Prop} {A B : World} (h : Off p A B) {q : Addr} {v : Value} (hc : A.cell? q = some v) (hf : A.frozen? q = false) (hp : p q.block) : B.frozen? q = false :=
  (World.frozen?_of_block (h.block q.block (cell_in hc) hp)).trans hf

/-- an iterator that hands over N elements, the i-th one such that Ok i: what it turns between two rounds is within St, what it wants kept in a round is Kp. w: the world in which the loop begins (two blocks are laid ahead of the call). -/
def Gives {α : Type} (P : Program) (g : Nat) (lb : Array Value) (encs : α → Array Value) (Ok : Nat → α → World → Prop) (N : Nat) (St Kp : World → World → Prop) (w : World) : Prop :=
  ∀ (l : Nat) (J : Nat → World → Prop) (Jx : World → Prop) (W : World), Below w.heap.size w W → W.heap.size = w.heap.size + 2 →
    (∀ i A A', J i A → St A A' → J i A') → (∀ A A', Jx A → St A A' → Jx A') →
    (∀ i x W1, i < N → Ok i x W1 → J i W1 → YieldAt Fence.wide 0 P l (encs x) W1 fun e W' => (e = .returned (.bool true) ∧ J (i + 1) W' ∧ Kp W1 W') ∨ (e = .returned (.bool false) ∧ Jx W' ∧ Kp W1 W')) →
    J 0 W → Calls P g (#[.func (.yield l) #[] #[]] ++ lb) W fun e W' => (∃ v, e = .returned v) ∧ (J N W' ∨ Jx W')

/-- how the body of a round may be left. -/
def roundOut (R : World → World → Prop) (I : World → Prop) (Ix : Code → World → Prop) (W : World) : Exit → Act → World → Prop
  | .normal, _, W' => R W W' ∧ I W'
  | .ret, _, W' => R W W' ∧ Ix .ret W'
  | .exit id, _, W' => R W W' ∧ Ix (.exit id) W'
  | .goto t, _, W' => R W W' ∧ Ix (.goto t) W'
  | .panic _, _, _ => False
  | .outgrown, _, _ => False

theorem range_law {α : Type} {P : Program} {g : Operand} {ps : Array Tmp} {assign body : Code} {Q : Exit → Act → World → Prop} {a : Act} {w : World} {n : Nat}
    {gf : Nat} {lb : Array Value} (hg : a.eval g = .func (.func gf) #[] lb) (eg : ∀ args w, (callFunc gf args).run P w = .ok (.enter gf args) w)
    {encs : α → Array Value} {Ok : Nat → α → World → Prop} {N : Nat} {St Kp : World → World → Prop} (hseq : Gives P gf lb encs Ok N St Kp w) (hps : ∀ x, (encs x).size = ps.size)
    (R : World → World → Prop) (I : Nat → World → Prop) (Ix : Code → World → Prop)
    (hSt : ∀ A A', St A A' → ∀ k, w.heap.size ≤ k → k < w.heap.size + 2 → k < A.heap.size → A'.heap[k]? = A.heap[k]?)
    (hR : ∀ A A', R A A' → ∀ k, w.heap.size ≤ k → k < w.heap.size + 2 → k < A.heap.size → A'.heap[k]? = A.heap[k]?)
    (hKp : ∀ A B C D, w.heap.size + 2 ≤ A.heap.size → A.grownBy B (some (w.heap.size + 1)) → R B C → C.grownBy D (some (w.heap.size + 1)) → Kp A D)
    (hI : ∀ i A A', I i A → A.grownBy A' (some (w.heap.size + 1)) ∨ St A A' → I i A') (hIx : ∀ c A A', Ix c A → A.grownBy A' (some (w.heap.size + 1)) ∨ St A A' → Ix c A')
    (hOk : ∀ i x A A' (r : Loop), Ok i x A → A.heap[w.heap.size + 1]? = some (.loop r) → A.grownBy A' (some (w.heap.size + 1)) → Ok i x A')
    (h0 : I 0 w) (a₁ : α → Act)
    (hassign : ∀ (l : Nat) (x : α) (W : World) (K : Act → World → Prop), K (a₁ x) W →
      assign.wpIn (Fence.wide.inRound l) 0 P (Exit.then K (fun _ _ _ => False)) { tmps := (ps.zip (encs x)).foldl (fun t (p, v) => t.setIfInBounds p v) a.tmps, defers := [] } W)
    (hbody : ∀ (l i : Nat) (x : α) (W : World), w.heap.size + 2 ≤ W.heap.size → i < N → Ok i x W → I i W → body.wpIn (Fence.wide.inRound l) 0 P (roundOut R (I (i + 1)) Ix W) (a₁ x) W)
    (hdone : ∀ (D : Nat) (W : World), w.heap.size ≤ D → I N W → W.heap[D]? = some (.deferred (some [])) → Q .normal { a with defers := { target := .collected D, args := #[] } :: a.defers } W)
    (hstop : ∀ (D : Nat) (c : Code) (W : World), w.heap.size ≤ D → Ix c W → W.heap[D]? = some (.deferred (some [])) → c.wpIn Fence.wide n P Q { a with defers := { target := .collected D, args := #[] } :: a.defers } W) :
    (Code.rangeFunc g ps assign body).wpIn Fence.wide n P Q a w := by
  refine wpIn_rangeFunc fun fn hfn => ?_
  obtain ⟨rec, hrec⟩ : ∃ rec : LoopState → Option Code → Loop, rec = fun st pe => { state := st, pending := pe, fn, tmps := a.tmps, params := ps, assign, body, defers := w.heap.size } := ⟨_, rfl⟩
  obtain ⟨s, hs⟩ : ∃ s, w.heap.size = s := ⟨_, rfl⟩
  obtain ⟨W1, hW1⟩ : ∃ W1, (w.alloc (.deferred (some []))).alloc (.loop (rec .ready none)) = W1 := ⟨_, rfl⟩
  have hz1 : W1.heap.size = s + 2 := by rw [← hW1, ← hs]; simp
  have hL1 : W1.heap[s + 1]? = some (.loop (rec .ready none)) := by
    rw [← hW1, ← hs]
    have := World.alloc_heap_new (w.alloc (.deferred (some []))) (.loop (rec .ready none))
    rwa [World.size_alloc] at this
  have hK1 : W1.heap[s]? = some (.deferred (some [])) := by
    rw [← hW1, ← hs]
    exact (Below.heap_alloc _ _ _ (by simp)).trans (World.alloc_heap_new w _)
  have hb1 : Below s w W1 := by
    rw [← hW1, ← hs]
    exact ((Below.refl _ w).alloc (Nat.le_refl _) _).alloc (by simp) _
  have hI1 : I 0 W1 := by
    rw [← hW1]
    exact hI _ _ _ (hI _ _ _ h0 (.inl (World.grownBy_alloc _ _ _))) (.inl (World.grownBy_alloc _ _ _))
  have hgb : ∀ (W : World) (r : Loop), W.grownBy (W.putObj (s + 1) (.loop r)) (some (w.heap.size + 1)) := fun W r => by rw [hs]; exact grownBy_putObj' W (s + 1) _
  refine ⟨s + 1, [{ target := .collected s, args := #[] }], W1, { target := .fn (.func gf) lb, args := #[.func (.yield (s + 1)) #[] #[]] }, W1, gf, #[.func (.yield (s + 1)) #[] #[]] ++ lb, W1, ?_, ?_, fun _ _ => trivial, ?_, (fun h => by cases h), ?_⟩
  · rw [← hW1, hrec, ← hs]
    exact run_enterLoop_outer _ _ _ _ _
  · simp only [resolve, hg]
    simp [go_sem]
  · simp [invoke, go_sem, eg]
  · rw [callsIn_wide]
    refine (hseq (s + 1) (fun i W => I i W ∧ W.heap[s + 1]? = some (.loop (rec .ready none)) ∧ W.heap[s]? = some (.deferred (some [])))
      (fun W => ∃ c, Ix c W ∧ W.heap[s + 1]? = some (.loop (rec .done (some c))) ∧ W.heap[s]? = some (.deferred (some []))) W1 (by rw [hs]; exact hb1) (by rw [hs]; exact hz1)
      (fun i A A' h hst => ⟨hI _ _ _ h.1 (.inr hst), (hSt _ _ hst _ (by omega) (by omega) (Array.getElem?_eq_some_iff.1 h.2.1).1).trans h.2.1, (hSt _ _ hst _ (by omega) (by omega) (Array.getElem?_eq_some_iff.1 h.2.2).1).trans h.2.2⟩)
      (fun A A' h hst => by
        obtain ⟨c, hc, hl, hk⟩ := h
        exact ⟨c, hIx _ _ _ hc (.inr hst), (hSt _ _ hst _ (by omega) (by omega) (Array.getElem?_eq_some_iff.1 hl).1).trans hl, (hSt _ _ hst _ (by omega) (by omega) (Array.getElem?_eq_some_iff.1 hk).1).trans hk⟩)
      ?_ ⟨hI1, hL1, hK1⟩).mono ?_
    · rintro i x W hiN hox ⟨hi, hl, hk⟩
      have hlt := (Array.getElem?_eq_some_iff.1 hl).1
      have hy := run_yield (P := P) (args := encs x) hl (by rw [hrec]; exact hps x)
      rw [hrec] at hy
      refine ⟨fn, _, assign, body, hy, roundIn_of_wpIn hfn (hassign _ x W _ ⟨_, run_beginRound hl (by rw [hrec]), ?_⟩)⟩
      obtain ⟨W2, hW2⟩ : ∃ W2, W.putObj (s + 1) (.loop { rec .ready none with state := .busy }) = W2 := ⟨_, rfl⟩
      have hg2 := hgb W { rec .ready none with state := .busy }
      have hl2 : W2.heap[s + 1]? = some (.loop { rec .ready none with state := .busy }) := by rw [← hW2]; exact World.putObj_heap_same hlt
      have hk2 : W2.heap[s]? = some (.deferred (some [])) := by rw [← hW2]; exact (World.putObj_heap_other (by omega)).trans hk
      have hz2 : w.heap.size + 2 ≤ W2.heap.size := by rw [← hW2]; simp; omega
      rw [hW2] at hg2 ⊢
      refine wpIn_mono (hbody _ i x W2 hz2 hiN (hOk _ _ _ _ _ hox (by rw [hs]; exact hl) hg2) (hI _ _ _ hi (.inl hg2))) ?_
      have fin : ∀ (jump : Option Code) (W3 : World), R W2 W3 →
          (Instr.endRound (s + 1) jump).run P W3 = .ok (.bool jump.isNone) (W3.putObj (s + 1) (.loop (rec (if jump.isNone then .ready else .done) jump))) ∧
          (W3.putObj (s + 1) (.loop (rec (if jump.isNone then .ready else .done) jump))).heap[s + 1]? = some (.loop (rec (if jump.isNone then .ready else .done) jump)) ∧
          (W3.putObj (s + 1) (.loop (rec (if jump.isNone then .ready else .done) jump))).heap[s]? = some (.deferred (some [])) := fun jump W3 h3 => by
        have hl3 := (hR _ _ h3 (s + 1) (by omega) (by omega) (Array.getElem?_eq_some_iff.1 hl2).1).trans hl2
        have hk3 := (hR _ _ h3 s (by omega) (by omega) (Array.getElem?_eq_some_iff.1 hk2).1).trans hk2
        have := run_endRound (P := P) jump hl3
        rw [hrec] at this ⊢
        exact ⟨this, World.putObj_heap_same (Array.getElem?_eq_some_iff.1 hl3).1, (World.putObj_heap_other (by omega)).trans hk3⟩
      rintro e a3 W3 hp
      cases e with
      | normal =>
        obtain ⟨h3, hi3⟩ := hp
        obtain ⟨hr, hl4, hk4⟩ := fin none W3 h3
        exact ⟨_, _, hr, .inl ⟨rfl, ⟨hI _ _ _ hi3 (.inl (hgb _ _)), hl4, hk4⟩, hKp _ _ _ _ (by omega) hg2 h3 (hgb _ _)⟩⟩
      | ret =>
        obtain ⟨h3, hi3⟩ := hp
        obtain ⟨hr, hl4, hk4⟩ := fin (some .ret) W3 h3
        exact ⟨_, _, hr, .inr ⟨rfl, ⟨.ret, hIx _ _ _ hi3 (.inl (hgb _ _)), hl4, hk4⟩, hKp _ _ _ _ (by omega) hg2 h3 (hgb _ _)⟩⟩
      | exit id =>
        obtain ⟨h3, hi3⟩ := hp
        obtain ⟨hr, hl4, hk4⟩ := fin (some (.exit id)) W3 h3
        exact ⟨_, _, hr, .inr ⟨rfl, ⟨.exit id, hIx _ _ _ hi3 (.inl (hgb _ _)), hl4, hk4⟩, hKp _ _ _ _ (by omega) hg2 h3 (hgb _ _)⟩⟩
      | goto t =>
        obtain ⟨h3, hi3⟩ := hp
        obtain ⟨hr, hl4, hk4⟩ := fin (some (.goto t)) W3 h3
        exact ⟨_, _, hr, .inr ⟨rfl, ⟨.goto t, hIx _ _ _ hi3 (.inl (hgb _ _)), hl4, hk4⟩, hKp _ _ _ _ (by omega) hg2 h3 (hgb _ _)⟩⟩
      | panic ch => exact hp.elim
      | outgrown => exact hp.elim
    · rintro e W2 ⟨⟨v, rfl⟩, (⟨hi, hl, hk⟩ | ⟨c, hi, hl, hk⟩)⟩
      · have h := run_endLoop (P := P) hl (by rw [hrec]; simp)
        rw [hrec] at h
        exact ⟨none, _, h, hdone _ _ (by omega) (hI _ _ _ hi (.inl (hgb _ _))) ((World.putObj_heap_other (by omega)).trans hk)⟩
      · have h := run_endLoop (P := P) hl (by rw [hrec]; simp)
        rw [hrec] at h
        exact ⟨some c, _, h, hstop _ c _ (by omega) (hIx _ _ _ hi (.inl (hgb _ _))) ((World.putObj_heap_other (by omega)).trans hk)⟩

/-- marks of loops that are over, the last one first, all in blocks from B on. -/
def Marks (B : Nat) : Nat → List Deferred → World → Prop
  | _, [], _ => True
  | T, d :: ds, w => ∃ D, d = { target := .collected D, args := #[] } ∧ B ≤ D ∧ D < T ∧ w.heap[D]? = some (.deferred (some [])) ∧ Marks B D ds w
theorem Marks.keep {B : Nat} {w w' : World} : ∀ {ds : List Deferred} {T : Nat}, Marks B T ds w → (∀ D, B ≤ D → D < T → w.heap[D]? = some (.deferred (some [])) → w'.heap[D]? = some (.deferred (some []))) → Marks B T ds w'
  | [], _, _, _ => trivial
  | _ :: _, _, ⟨D, h1, h2, h3, h4, h5⟩, h => ⟨D, h1, h2, h3, h D h2 h3 h4, h5.keep fun E a b => h E a (by omega)⟩
theorem Marks.higher {B : Nat} {w : World} : ∀ {ds : List Deferred} {T T' : Nat}, Marks B T ds w → T ≤ T' → Marks B T' ds w
  | [], _, _, _, _ => trivial
  | _ :: _, _, _, ⟨D, h1, h2, h3, h4, h5⟩, h => ⟨D, h1, h2, by omega, h4, h5⟩
/-- at a function's end. -/
theorem Marks.out {B : Nat} {n : Nat} {P : Program} {fn : Func} {tmps : Array Value} {R : Ending → World → Prop} : ∀ {ds : List Deferred} {T : Nat} {w : World}, Marks B T ds w → B ≤ w.heap.size →
    (∀ w', Below B w w' → LeavesIn Fence.wide n P fn tmps R [] .returning w') → LeavesInM Fence.wide n P fn tmps R ds .returning w
  | [], _, w, _, _, h => h w (Below.refl _ _)
  | _ :: _, _, w, ⟨D, h1, h2, h3, h4, h5⟩, hB, h => by
    subst h1
    have hb := below_row (grownBy_putObj' w D (.deferred none)) hB (fun k e => by cases e; exact h2)
    refine ⟨by simp, .inl ⟨_, _, rfl, run_takeDeferred h4, ?_⟩⟩
    exact (h5.keep fun E _ hE hk => (World.putObj_heap_other (by omega)).trans hk).out (by simp; exact hB) fun w' hw' => h w' (hb.trans hw')
end Go.Proofs.YtbkdloebbbmkaaaGreat

namespace Go.Proofs.YtbkdloebbbmkaaaGreat
open Go.RowKit

def overI (U : Nat → Int) (o m : Nat) (V : Nat → Int) : Nat → Int := fun k => if o ≤ k ∧ k < o + m then V (k - o) else U k
theorem overI_cells (U V : Nat → Int) (n o m : Nat) (h : o + m ≤ n) : (icells U n).take o ++ (icells V m ++ (icells U n).drop (o + m)) = icells (overI U o m V) n := by
  apply List.ext_getElem?
  intro k
  by_cases hk : k < n
  · rw [icells_at _ _ _ hk]
    unfold overI
    by_cases h1 : k < o
    · rw [List.getElem?_append_left (by rw [List.length_take, icells_length]; omega), List.getElem?_take, if_pos h1, icells_at _ _ _ hk, if_neg (by omega)]
    · have hl : (List.take o (icells U n)).length = o := by rw [List.length_take, icells_length]; omega
      rw [List.getElem?_append_right (by omega), hl]
      by_cases h2 : k < o + m
      · rw [List.getElem?_append_left (by rw [icells_length]; omega), icells_at _ _ _ (by omega), if_pos ⟨by omega, h2⟩]
      · rw [List.getElem?_append_right (by rw [icells_length]; omega), icells_length, List.getElem?_drop, show o + m + (k - o - m) = k by omega, icells_at _ _ _ hk, if_neg (by omega)]
  · rw [List.getElem?_eq_none (by simp [icells_length]; omega), List.getElem?_eq_none (by rw [icells_length]; omega)]
theorem size_i64b : (Tryz.prog.info? 3).map (·.size) = some 1 := by kernel_rfl
theorem off_setRow (g : Nat) (w : World) (cs : Array Value) : Off (fun q => q ≠ g) w (w.setRow g cs) := by
  refine ⟨rfl, rfl, rfl, by simp [World.setRow], fun k hk hne => ?_⟩
  simp only [World.setRow, Array.getElem?_modify]
  rw [if_neg (fun e => hne e.symm)]
/-- a copy of ints into a block that is known whole. -/
theorem int_copy {w : World} {g n o dm dc m c k : Nat} {U V : Nat → Int} {ad : Addr} (h : Lies w g 3 (icells U n)) (hk : k = Nat.min m dm) (ho : o + k ≤ n) (hs : ∀ j, j < k → w.cell? (ad.add j) = some (.int .i64 (V j))) :
    ∃ w2, (Builtin.copy_ #[22, 22] 3 #[.slice (some ⟨g, o, none⟩) dm dc, .slice (some ad) m c]).run Tryz.prog w = .ok (.int .i64 (k : Int)) w2 ∧ Lies w2 g 3 (icells (overI U o k V) n) ∧ Off (fun q => q ≠ g) w w2 := by
  have hrun := run_copy_row (P := Tryz.prog) w 22 22 3 3 g o dm dc ad m c (icells U n).toArray 3 (icells V k) Tryz.underlying22 size_i64b h (by rw [icells_length]; exact hk) (fun j v hj => by
    have hjm : j < k := by
      have := (List.getElem?_eq_some_iff.1 hj).1
      rw [icells_length] at this
      exact this
    rw [icells_at V k j hjm] at hj
    rw [← hj]
    exact hs j hjm) (by rw [icells_length]; simp [icells_length]; omega) (icells_one V k)
  rw [icells_length] at hrun
  refine ⟨_, hrun, ?_, off_setRow _ _ _⟩
  have := setRow_heap w g _ (List.take o (icells U n).toArray.toList ++ icells V k ++ List.drop (o + k) (icells U n).toArray.toList).toArray 3 (0, 0) h
  unfold Lies
  rw [this, ← overI_cells U V n o k ho, List.append_assoc]

/-- a copy of ints into a row of the call's own. -/
theorem int_copy_own {w : World} {B g n cap o dm dc m c k : Nat} {U V : Nat → Int} {ad : Addr} (h : w.ownsRow B 3 1 (.slice (some ⟨g, 0, none⟩) n cap) n (icells U n)) (hk : k = Nat.min m dm) (ho : o + k ≤ n) (hs : ∀ j, j < k → w.cell? (ad.add j) = some (.int .i64 (V j))) :
    ∃ w2, (Builtin.copy_ #[22, 22] 3 #[.slice (some ⟨g, o, none⟩) dm dc, .slice (some ad) m c]).run Tryz.prog w = .ok (.int .i64 (k : Int)) w2 ∧ w2.ownsRow B 3 1 (.slice (some ⟨g, 0, none⟩) n cap) n (icells (overI U o k V) n) ∧ Off (fun q => q ≠ g) w w2 := by
  rcases h.2 with ⟨e0, _⟩ | ⟨g', cap', cur, e0, hb, hg, hn, hm, hsz, ht⟩
  · cases e0
  · injection e0 with e1 _ e3
    injection e1 with e1
    injection e1 with e1
    subst e1; subst e3
    have hcs : cur.size = cap := by omega
    have hrun := run_copy_row (P := Tryz.prog) w 22 22 3 3 g o dm dc ad m c cur 3 (icells V k) Tryz.underlying22 size_i64b hg (by rw [icells_length]; exact hk) (fun j v hj => by
      have hjm : j < k := by
        have := (List.getElem?_eq_some_iff.1 hj).1
        rw [icells_length] at this
        exact this
      rw [icells_at V k j hjm] at hj
      rw [← hj]
      exact hs j hjm) (by rw [icells_length]; omega) (icells_one V k)
    rw [icells_length] at hrun
    refine ⟨_, hrun, ⟨by simp [icells_length], .inr ⟨g, cap, _, rfl, hb, setRow_heap w g cur _ 3 (0, 0) hg, hn, hm, ?_, ?_⟩⟩, off_setRow _ _ _⟩
    · simp [icells_length]
      omega
    · have hU : cur.toList.take n = icells U n := by simpa using ht
      rw [Nat.mul_one, ← overI_cells U V n o k ho, ← hU]
      show List.take n (List.take o cur.toList ++ icells V k ++ List.drop (o + k) cur.toList) = _
      have hlc : cur.toList.length = cap := by simpa using hcs
      have three : ∀ (a b c : List Value) (o m : Nat), a.length = o → b.length = m → ∀ k, (a ++ (b ++ c))[k]? = if k < o then a[k]? else if k < o + m then b[k - o]? else c[k - (o + m)]? := fun a b c o m ha hb k => by
        split
        · rw [List.getElem?_append_left (by omega)]
        · rw [List.getElem?_append_right (by omega), ha]
          split
          · rw [List.getElem?_append_left (by omega)]
          · rw [List.getElem?_append_right (by omega), hb, show k - o - m = k - (o + m) by omega]
      apply List.ext_getElem?
      intro j
      by_cases hj : j < n
      · rw [List.getElem?_take, if_pos hj, List.append_assoc, three _ _ _ o k (by rw [List.length_take]; omega) (icells_length V k), three _ _ _ o k (by rw [List.length_take, List.length_take]; omega) (icells_length V k)]
        by_cases h1 : j < o
        · rw [if_pos h1, if_pos h1, List.getElem?_take, if_pos h1, List.getElem?_take, if_pos h1, List.getElem?_take, if_pos hj]
        · rw [if_neg h1, if_neg h1]
          by_cases h2 : j < o + k
          · rw [if_pos h2, if_pos h2]
          · rw [if_neg h2, if_neg h2, List.getElem?_drop, List.getElem?_drop, List.getElem?_take, if_pos (by omega)]
      · rw [List.getElem?_take, if_neg hj, List.getElem?_eq_none]
        rw [← List.append_assoc]
        simp [icells_length, hlc]
        omega
end Go.Proofs.YtbkdloebbbmkaaaGreat

namespace Go.Proofs.YtbkdloebbbmkaaaGreat
open Go.RowKit

set_option maxRecDepth 100000 in
theorem wvClone_any (A : Option Addr) (n c : Nat) (V : Nat → Int) (w : World) (hn : n ≤ 4194304) (ho : ItsR w A n c V) :
    Calls Tryz.prog 70 #[.slice A n c] w fun e w' => ∃ v, e = .returned v ∧ w'.ownsRow w.heap.size 3 1 v n (icells V n) ∧ Below w.heap.size w w' := by
  have HO := Lib.hid ho
  rcases A with _ | ad
  · obtain ⟨rfl, rfl⟩ := ho.1 rfl
    have hnil := fun W => Lib.run_eql_slice_nil (P := Tryz.prog) W 22 3 none 0 0 0 0 Tryz.underlying22
    clear ho
    go_enter Tryz.func70, Tryz.ntmps70
    go_wp2_with fail
    go_ret
    exact ⟨_, rfl, World.ownsRow_nil _ _ _ _, Below.refl _ _⟩
  · have hnil := fun W => Lib.run_eql_slice_nil (P := Tryz.prog) W 22 3 (some ad) n c 0 0 Tryz.underlying22
    clear ho
    go_enter Tryz.func70, Tryz.ntmps70
    go_wp2_with (at_builtin; refine step_append_list_far rfl (.tmp 5) (.tmp 6) rfl rfl rfl (by omega) HO.out.1 HO.out.2.2.2 ?_; intro g cg w1 hown1 hb1)
    go_ret
    exact ⟨_, rfl, hown1.out, hb1⟩
end Go.Proofs.YtbkdloebbbmkaaaGreat

namespace Go.Proofs.YtbkdloebbbmkaaaGreat
open Go.RowKit

def len64_ren : Go.Shelf.Ren := ⟨fun | 129 => 92 | n => n, fun | 53 => 70 | 3 => 3 | 4 => 4 | 46 => 38 | 5 => 5 | 9 => 9 | n => n, fun | n => n⟩
theorem len64_lays : Go.Proofs.Lays.n129 Tryz.prog len64_ren := {
  mixed := by kernel_rfl
  f129 := Tryz.func92.trans (congrArg some (by kernel_rfl))
  t3 := Tryz.underlying3
  a3 := Tryz.isAgg3
  z3 := Tryz.sizeOf3
  v3 := Tryz.zeroValue3
  t4 := Tryz.underlying4
  a4 := Tryz.isAgg4
  z4 := Tryz.sizeOf4
  v4 := Tryz.zeroValue4
  t5 := Tryz.underlying5
  a5 := Tryz.isAgg5
  z5 := Tryz.sizeOf5
  v5 := Tryz.zeroValue5
  t9 := Tryz.underlying9
  a9 := Tryz.isAgg9
  z9 := Tryz.sizeOf9
  v9 := Tryz.zeroValue9
  t46 := Tryz.underlying38
  a46 := Tryz.isAgg38
  z46 := Tryz.sizeOf38
  v46 := Tryz.zeroValue38
  t53 := Tryz.underlying70
  a53 := Tryz.isAgg70
  z53 := Tryz.sizeOf70
  v53 := Tryz.zeroValue70 }

theorem len64_any (x : Nat) (hx : x < 2 ^ 64) (w : World) :
    Calls Tryz.prog 92 #[.int .u64 (x : Int)] w fun e w' => e = .returned (.int .i64 (Lib.bitLen x : Nat)) ∧ w = w' :=
  (Any.bits_Len64 len64_lays (x : Int) w (by omega) (by omega)).mono fun _ _ h => ⟨h.1, h.2.symm⟩

theorem aux_zero (f : Nat) : Lib.bitLenAux f 0 = 0 := by cases f <;> simp [Lib.bitLenAux]
theorem aux_spec : ∀ (f x : Nat), x < 2 ^ f → Lib.bitLenAux f x ≤ f ∧ x < 2 ^ Lib.bitLenAux f x ∧ (x ≠ 0 → 1 ≤ Lib.bitLenAux f x ∧ 2 ^ (Lib.bitLenAux f x - 1) ≤ x)
  | 0, x, h => by
    have : x = 0 := by simpa using h
    subst this
    simp [Lib.bitLenAux]
  | f + 1, x, h => by
    by_cases h0 : x = 0
    · subst h0; simp [Lib.bitLenAux]
    · have hx : x / 2 < 2 ^ f := by rw [Nat.pow_succ] at h; omega
      obtain ⟨a, b, c⟩ := aux_spec f (x / 2) hx
      have e : Lib.bitLenAux (f + 1) x = 1 + Lib.bitLenAux f (x / 2) := by simp [Lib.bitLenAux, h0]
      rw [e]
      by_cases h1 : x / 2 = 0
      · rw [h1, aux_zero]
        have : x = 1 := by omega
        subst this
        simp
      · obtain ⟨c1, c2⟩ := c h1
        generalize Lib.bitLenAux f (x / 2) = k at *
        refine ⟨by omega, by rw [Nat.add_comm, Nat.pow_succ]; omega, fun _ => ⟨by omega, ?_⟩⟩
        rw [Nat.add_sub_cancel_left]
        have : 2 ^ k = 2 ^ (k - 1) * 2 := by rw [← Nat.pow_succ]; congr 1; omega
        omega

/-- the least width of which x is a number. -/
def wdN (x : Nat) : Nat := max 1 (Lib.bitLen x)

set_option maxHeartbeats 400000 in
theorem widthOf_any (x : Nat) (hx : x < 2 ^ 64) (w : World) :
    Calls Tryz.prog 71 #[.int .u64 (x : Int)] w fun e w' => e = .returned (.int .i64 (wdN x : Nat)) ∧ w = w' := by
  have HL := Lib.hid (len64_any x hx w)
  go_enter Tryz.func71, Tryz.ntmps71
  go_wp2_with (go_at_call 92; refine HL.out.mono ?_; rintro e w' ⟨rfl, rfl⟩)
  go_ret
  exact ⟨ret_i64 (by unfold wdN; omega), rfl⟩

theorem wdN_spec {x : Nat} (hx : x < 2 ^ 64) : 1 ≤ wdN x ∧ wdN x ≤ 64 ∧ x < 2 ^ wdN x ∧ (wdN x ≠ 1 → 2 ^ (wdN x - 1) ≤ x) := by
  obtain ⟨a, b, c⟩ := aux_spec 64 x hx
  have e : Lib.bitLen x = Lib.bitLenAux 64 x := rfl
  unfold wdN
  rw [e]
  have hz : x = 0 → Lib.bitLenAux 64 x = 0 := by rintro rfl; exact aux_zero 64
  generalize Lib.bitLenAux 64 x = k at *
  by_cases hk : k = 0
  · subst hk
    have : x = 0 := by simpa using b
    subst this
    simp
  · have hm : max 1 k = k := by omega
    rw [hm]
    refine ⟨by omega, a, b, fun _ => ?_⟩
    by_cases h0 : x = 0
    · exact absurd (hz h0) hk
    · exact (c h0).2
end Go.Proofs.YtbkdloebbbmkaaaGreat
