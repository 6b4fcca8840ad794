/- A place going down the levels of a wavelet matrix, told by the lists' own counts; what Quantile, Below, Select and Distinct find level by level: plain: no program is named here. The developers' package wave: a matrix as it lies (Mx); noughts, down, up, Len, within, wide, bit, mayBe. The developers' package wave: At, behind, Rank, Quantile, Below. The developers' package wave: gather, Distinct. -/
import Derived.Test.YthbnojhcmfhnhaaWavNar
import Derived.Test.YthbnojhcmfhnhaaWavPairs
import Derived.Test.YthbnojhcmfhnhaaWavI
import Derived.Test.YthbnojhcmfhnhaaWavLev
import Derived.Test.YthbnojhcmfhnhaaVecNew
import Derived.Deep.DeepCutAuto
namespace Go.Proofs.Ythbnojhcmfhnhaa
open Pl (cnt cnt_succ cnt_congr cnt_mono cnt_le)

/-- where the place i goes, of those with the bit c: by a list's own counts. -/
def dnB (f : Nat → Bool) (n : Nat) (c : Int) (i : Nat) : Nat := if c = 0 then cnt (fun j => !f j) i else cnt (fun j => !f j) n + cnt f i
theorem dnB_zero (f : Nat → Bool) (n i : Nat) : dnB f n 0 i = cnt (fun j => !f j) i := if_pos rfl
theorem dnB_one (f : Nat → Bool) (n i : Nat) : dnB f n 1 i = cnt (fun j => !f j) n + cnt f i := if_neg (by decide)
theorem lev_zeros (V : Nat → Int) (n W k i : Nat) : cnt (fun j => !levBit V n W k j) i = aheadI (fun j => bitZ (levRow V n W k j) (W - 1 - k)) i 0 := cnt_congr fun j _ => by
  unfold levBit
  rw [← decide_not]
  refine decide_eq_decide.2 ?_
  have := bitZ_or (levRow V n W k j) (W - 1 - k)
  show ¬ bitZ (levRow V n W k j) (W - 1 - k) = 1 ↔ bitZ (levRow V n W k j) (W - 1 - k) = 0
  omega
theorem lev_ones (V : Nat → Int) (n W k i : Nat) : cnt (levBit V n W k) i = aheadI (fun j => bitZ (levRow V n W k j) (W - 1 - k)) i 1 := rfl
theorem dnB_is {V : Nat → Int} {n W k i : Nat} {c : Int} (hc : c = 0 ∨ c = 1) : dnB (levBit V n W k) n c i = down (levRow V n W k) n (W - 1 - k) c i := by
  rcases hc with rfl | rfl
  · rw [dnB_zero, lev_zeros, down_zero]
  · rw [dnB_one, lev_zeros, lev_ones, down_one]
theorem dnB_le {f : Nat → Bool} {n i : Nat} {c : Int} (hc : c = 0 ∨ c = 1) (hi : i ≤ n) : dnB f n c i ≤ n := by
  have h1 := Pl.cnt_not f n
  have h2 := cnt_mono f hi
  have h3 := cnt_mono (fun j => !f j) hi
  rcases hc with rfl | rfl
  · rw [dnB_zero]; omega
  · rw [dnB_one]; omega
theorem dnB_mono {f : Nat → Bool} {n i j : Nat} {c : Int} (h : i ≤ j) : dnB f n c i ≤ dnB f n c j := by
  have h2 := cnt_mono f h
  have h3 := cnt_mono (fun j => !f j) h
  unfold dnB
  split <;> omega
/-- the number at a place of a level stands at the place that it goes to. -/
theorem at_down {V : Nat → Int} {n W k i : Nat} {x c : Int} (hi : i < n) (h : levRow V n W k i = x) (hc : bitZ x (W - 1 - k) = c) :
    dnB (levBit V n W k) n c i < n ∧ levRow V n W (k + 1) (dnB (levBit V n W k) n c i) = x := by
  have hc2 : c = 0 ∨ c = 1 := by rw [← hc]; exact bitZ_or _ _
  have hd := down_hit hi (show bitZ (levRow V n W k i) (W - 1 - k) = c by rw [h, hc])
  have hle := down_le (R := levRow V n W k) (n := n) (b := W - 1 - k) hc2 (show i + 1 ≤ n from hi)
  rw [dnB_is hc2]
  exact ⟨by have := hd.1; omega, hd.2.trans h⟩
theorem half_at {x : Int} {W k : Nat} (hk : k < W) : x / 2 ^ (W - (k + 1)) = 2 * (x / 2 ^ (W - k)) + bitZ x (W - 1 - k) := by
  have h := half_bit x (W - 1 - k)
  rw [show W - 1 - k + 1 = W - k by omega] at h
  rw [show W - (k + 1) = W - 1 - k by omega]
  exact h
theorem div_pow_zero {x : Int} {W : Nat} (h0 : 0 ≤ x) (h1 : x < 2 ^ W) : x / 2 ^ W = 0 := Int.ediv_eq_zero_of_lt h0 h1
theorem div_pow_le {x : Int} {W : Nat} (h0 : 0 ≤ x) : 0 ≤ x / 2 ^ W ∧ x / 2 ^ W ≤ x := by
  have hp : (0 : Int) < 2 ^ W := Int.pow_pos (by decide)
  exact ⟨Int.ediv_nonneg h0 (Int.le_of_lt hp), Int.ediv_le_self _ h0⟩
theorem Nar.step2 {V : Nat → Int} {n W k A B a b : Nat} {q : Int} (h : Nar V n W k A B q a b) (hk : k < W) (hAB : A ≤ B) {c : Int} (hc : c = 0 ∨ c = 1) :
    Nar V n W (k + 1) A B (2 * q + c) (dnB (levBit V n W k) n c a) (dnB (levBit V n W k) n c b) := by
  rw [dnB_is hc, dnB_is hc]
  exact h.step hk hAB hc
/-- narrowing towards c. -/
theorem Nar.to {V : Nat → Int} {n W k A B a b : Nat} {x c : Int} (h : Nar V n W k A B (x / 2 ^ (W - k)) a b) (hk : k < W) (hAB : A ≤ B) (hc : bitZ x (W - 1 - k) = c) :
    Nar V n W (k + 1) A B (x / 2 ^ (W - (k + 1))) (dnB (levBit V n W k) n c a) (dnB (levBit V n W k) n c b) := by
  have h2 := h.step2 hk hAB (c := c) (by rw [← hc]; exact bitZ_or _ _)
  rw [half_at hk, hc]
  exact h2
theorem Nar.less2 {V : Nat → Int} {n W k A B a b : Nat} {x c : Int} (h : Nar V n W k A B (x / 2 ^ (W - k)) a b) (hk : k < W) (hAB : A ≤ B) (hc : bitZ x (W - 1 - k) = c) :
    lessK V A B (W - (k + 1)) (x / 2 ^ (W - (k + 1))) = lessK V A B (W - k) (x / 2 ^ (W - k)) + (if c = 1 then cnt (fun j => !levBit V n W k j) b - cnt (fun j => !levBit V n W k j) a else 0) := by
  have h2 := h.less hk hAB (c := c) (by rw [← hc]; exact bitZ_or _ _)
  rw [down_zero, down_zero, ← lev_zeros, ← lev_zeros] at h2
  rw [half_at hk, hc]
  exact h2
theorem lessK_start {V : Nat → Int} {n W A B : Nat} {x : Int} (hAB : A ≤ B) (hB : B ≤ n) (hV : ∀ i, i < n → 0 ≤ V i ∧ V i < 2 ^ W) (h0 : 0 ≤ x) (h1 : x < 2 ^ W) : lessK V A B W (x / 2 ^ W) = 0 := by
  rw [div_pow_zero h0 h1]
  unfold lessK
  have e := seg_congr (f := fun j => decide (V j / 2 ^ W < 0)) (g := fun _ => false) (a := A) (b := B) (fun j hj => by
    have := hV j (by omega)
    show decide (V j / 2 ^ W < 0) = false
    rw [div_pow_zero this.1 this.2]
    rfl) hAB
  rw [e]
  unfold seg
  rw [Pl.cnt_zero (fun _ _ => rfl), Nat.zero_sub]
theorem lessK_end {V : Nat → Int} {n A B : Nat} {x : Int} (hAB : A ≤ B) (hB : B ≤ n) : lessK V A B 0 x = lessR V (A : Int) (B : Int) x n := by
  unfold lessK lessR
  rw [seg_range (fun j => decide (V j < x)) hAB hB]
  unfold seg
  congr 1 <;> exact cnt_congr fun j _ => decide_eq_decide.2 (by rw [Int.pow_zero, Int.ediv_one])

/-- the number that stands at K is number r among those of the range [a, b) of level j. -/
structure QuAt (V : Nat → Int) (n W j A B : Nat) (q : Int) (a b K r : Nat) : Prop where
  nar : Nar V n W j A B q a b
  lt : r < b - a
  at_ : lessK V A B (W - j) q + r = K
  room : 0 ≤ q ∧ q < 2 ^ j
theorem QuAt.start {V : Nat → Int} {n W A B K : Nat} (hAB : A ≤ B) (hB : B ≤ n) (hV : ∀ i, i < n → 0 ≤ V i ∧ V i < 2 ^ W) (hK : K < B - A) : QuAt V n W 0 A B 0 A B K K := by
  refine ⟨Nar.start hAB hB hV, hK, ?_, by decide, by decide⟩
  have h := lessK_start (W := W) (x := 0) hAB hB hV (Int.le_refl _) (Int.pow_pos (by decide))
  rw [Int.zero_ediv] at h
  rw [Nat.sub_zero, h, Nat.zero_add]
theorem pow_up (q c : Int) (j : Nat) (h : 0 ≤ q ∧ q < 2 ^ j) (hc : c = 0 ∨ c = 1) : 0 ≤ 2 * q + c ∧ 2 * q + c < 2 ^ (j + 1) := by
  rw [Int.pow_succ]
  omega
/-- the noughts of a range. -/
def segZ (f : Nat → Bool) (a b : Nat) : Nat := cnt (fun j => !f j) b - cnt (fun j => !f j) a
theorem QuAt.more {V : Nat → Int} {n W j A B a b K r : Nat} {q : Int} (h : QuAt V n W j A B q a b K r) (hj : j < W) (hAB : A ≤ B) (hr : segZ (levBit V n W j) a b ≤ r) :
    QuAt V n W (j + 1) A B (2 * q + 1) (dnB (levBit V n W j) n 1 a) (dnB (levBit V n W j) n 1 b) K (r - segZ (levBit V n W j) a b) := by
  have hl := h.nar.less hj hAB (c := 1) (.inr rfl)
  rw [if_pos rfl, down_zero, down_zero, ← lev_zeros, ← lev_zeros] at hl
  have h1 := Pl.cnt_not (levBit V n W j) a
  have h2 := Pl.cnt_not (levBit V n W j) b
  have h3 := cnt_mono (levBit V n W j) h.nar.le
  have h4 := cnt_mono (fun i => !levBit V n W j i) h.nar.le
  have h5 := h.at_
  have h6 := h.lt
  have hl : lessK V A B (W - (j + 1)) (2 * q + 1) = lessK V A B (W - j) q + segZ (levBit V n W j) a b := hl
  refine ⟨h.nar.step2 hj hAB (.inr rfl), ?_, by omega, pow_up q 1 j h.room (.inr rfl)⟩
  rw [dnB_one, dnB_one]
  unfold segZ at hr ⊢
  omega
theorem QuAt.less {V : Nat → Int} {n W j A B a b K r : Nat} {q : Int} (h : QuAt V n W j A B q a b K r) (hj : j < W) (hAB : A ≤ B) (hr : r < segZ (levBit V n W j) a b) :
    QuAt V n W (j + 1) A B (2 * q + 0) (dnB (levBit V n W j) n 0 a) (dnB (levBit V n W j) n 0 b) K r := by
  have hl := h.nar.less hj hAB (c := 0) (.inl rfl)
  rw [if_neg (by decide), Nat.add_zero] at hl
  refine ⟨h.nar.step2 hj hAB (.inl rfl), ?_, by rw [hl]; exact h.at_, pow_up q 0 j h.room (.inl rfl)⟩
  rw [dnB_zero, dnB_zero]
  exact hr
theorem QuAt.done {V : Nat → Int} {n W A B a b K r : Nat} {q : Int} (h : QuAt V n W W A B q a b K r) (hAB : A ≤ B) (hB : B ≤ n) : quantI V n (A : Int) (B : Int) (K : Int) = q := by
  have h1 := h.at_
  have h2 := h.lt
  have h3 := h.nar.last
  rw [Nat.sub_self, lessK_end hAB hB] at h1
  refine quantI_at (by omega) ?_
  have e : lessR V (A : Int) (B : Int) (q + 1) n = lessR V (A : Int) (B : Int) q n + seg (fun j => decide (V j = q)) A B := by
    rw [← seg_range (fun j => decide (V j = q)) hAB hB]
    refine cnt_parts fun j _ => ⟨?_, fun g => ?_⟩
    · rw [← Bool.and_or_distrib_left]
      congr 1
      rw [Bool.eq_iff_iff, Bool.or_eq_true, decide_eq_true_iff, decide_eq_true_iff, decide_eq_true_iff]
      omega
    · rw [Bool.and_eq_true, decide_eq_true_iff, decide_eq_true_iff] at g
      rw [decide_eq_false (show ¬ V j = q by omega), Bool.and_false]
  rw [e]
  omega

/-- a range of which nothing lies without the row. -/
theorem clamp_part (V : Nat → Int) (a b : Int) (n : Nat) : ∀ m, m ≤ n → partL V a b m = partL V ((Pl.clamp (Pl.clamp n b) a : Nat) : Int) ((Pl.clamp n b : Nat) : Int) m
  | 0, _ => rfl
  | m + 1, h => by
    have ih := clamp_part V a b n m (by omega)
    have hiff : (a ≤ (m : Int) ∧ (m : Int) < b) ↔ (((Pl.clamp (Pl.clamp n b) a : Nat) : Int) ≤ (m : Int) ∧ (m : Int) < ((Pl.clamp n b : Nat) : Int)) := by
      unfold Pl.clamp
      omega
    by_cases g : a ≤ (m : Int) ∧ (m : Int) < b
    · rw [partL_hit g, partL_hit (hiff.1 g), ih]
    · rw [partL_miss g, partL_miss (fun h => g (hiff.2 h)), ih]
theorem clamp_quant (V : Nat → Int) (a b k : Int) (n : Nat) : quantI V n a b k = quantI V n ((Pl.clamp (Pl.clamp n b) a : Nat) : Int) ((Pl.clamp n b : Nat) : Int) k := by
  unfold quantI
  rw [← clamp_part V a b n n (Nat.le_refl _)]
theorem clamp_less (V : Nat → Int) (a b c : Int) (n : Nat) : lessR V a b c n = lessR V ((Pl.clamp (Pl.clamp n b) a : Nat) : Int) ((Pl.clamp n b : Nat) : Int) c n := by
  rw [← lessR_part, ← lessR_part, ← clamp_part V a b n n (Nat.le_refl _)]
theorem clamp_cnt (V : Nat → Int) (d a b : Int) (n : Nat) : cntR V d a b n = cntR V d ((Pl.clamp (Pl.clamp n b) a : Nat) : Int) ((Pl.clamp n b : Nat) : Int) n := by
  rw [← cntR_part, ← cntR_part, ← clamp_part V a b n n (Nat.le_refl _)]
theorem cntR_seg {V : Nat → Int} {d : Int} {A B n : Nat} (hAB : A ≤ B) (hB : B ≤ n) : cntR V d (A : Int) (B : Int) n = seg (fun j => decide (V j = d)) A B := by
  rw [← cntR_part, countP_partL, seg_range (fun j => decide (V j = d)) hAB hB]
theorem partL_size {V : Nat → Int} {A B n : Nat} (hAB : A ≤ B) (hB : B ≤ n) : (partL V (A : Int) (B : Int) n).length = B - A := partL_count hAB hB
theorem quant_none {V : Nat → Int} {A B n : Nat} {k : Int} (hAB : A ≤ B) (hB : B ≤ n) (h : k < 0 ∨ ((B - A : Nat) : Int) ≤ k) : quantI V n (A : Int) (B : Int) k = -1 := by
  refine quantI_out ?_
  rw [partL_size hAB hB]
  exact h
/-- a number that is too great, or below 0, is not there. -/
theorem cntR_far {V : Nat → Int} {d a b : Int} {n : Nat} (h : ∀ i, i < n → V i ≠ d) : cntR V d a b n = 0 := Pl.cnt_zero fun j hj => decide_eq_false fun g => h j hj g.1
theorem lessR_far {V : Nat → Int} {c : Int} {A B n : Nat} (hAB : A ≤ B) (hB : B ≤ n) (h : ∀ i, i < n → V i < c) : lessR V (A : Int) (B : Int) c n = B - A := by
  rw [lessR_all h, partL_size hAB hB]
theorem lessR_none {V : Nat → Int} {a b c : Int} {n : Nat} (h : ∀ i, i < n → ¬ V i < c) : lessR V a b c n = 0 := Pl.cnt_zero fun j hj => by
  rw [decide_eq_false (h j hj), Bool.and_false]
theorem selW_far {V : Nat → Int} {n : Nat} {c k : Int} (h : ∀ i, i < n → V i ≠ c) : selW V n c k = -1 := by
  unfold selW
  refine Pl.sel_out ?_
  rw [Pl.cnt_zero (fun j hj => decide_eq_false (h j hj))]
  omega
theorem selW_out {V : Nat → Int} {n : Nat} {c k : Int} (h : k < 0 ∨ ((cnt (fun j => decide (V j = c)) n : Nat) : Int) ≤ k) : selW V n c k = -1 := Pl.sel_out h
theorem Nar.cnt_all {V : Nat → Int} {n W a b : Nat} {q : Int} (h : Nar V n W W 0 n q a b) : b - a = cnt (fun j => decide (V j = q)) n := by
  rw [h.last]
  unfold seg
  rw [show cnt (fun j => decide (V j = q)) 0 = 0 from rfl, Nat.sub_zero]

/-- the place of number m of those in the range: at the last level. -/
theorem UpAt.top {V : Nat → Int} {n W A B a b m : Nat} {x : Int} (h : Nar V n W W A B x a b) (hAB : A ≤ B) (hm : m < b - a) : UpAt V n W W a x m (a + m) := by
  have hall := h.many (fun y => decide (y ≠ x))
  have h0 : seg (fun j => decide (V j / 2 ^ (W - W) = x) && decide (V j ≠ x)) A B = 0 := by
    have e := seg_congr (f := fun j => decide (V j / 2 ^ (W - W) = x) && decide (V j ≠ x)) (g := fun _ => false) (a := A) (b := B) (fun j _ => by
      rw [Nat.sub_self, Int.pow_zero, Int.ediv_one, ← Bool.decide_and]
      exact decide_eq_false fun g => g.2 g.1) hAB
    rw [e]
    unfold seg
    rw [Pl.cnt_zero (fun _ _ => rfl), Nat.zero_sub]
  rw [h0] at hall
  have his : ∀ p, a ≤ p → p < b → levRow V n W W p = x := fun p h1 h2 => by
    apply Classical.byContradiction
    intro g
    have h3 := Pl.cnt_at_lt (f := fun p => decide (levRow V n W W p ≠ x)) (a := p) (b := b) h2 (decide_eq_true g)
    have h4 := cnt_mono (fun p => decide (levRow V n W W p ≠ x)) h1
    unfold seg at hall
    omega
  have hr := h.room
  refine ⟨by omega, by omega, his _ (by omega) (by omega), ?_⟩
  have e := seg_split (fun _ => true) (fun p => decide (levRow V n W W p = x)) a (a + m) (by omega)
  rw [seg_all (fun _ _ => rfl) (by omega)] at e
  have h5 : seg (fun p => true && !decide (levRow V n W W p = x)) a (a + m) = 0 := by
    have h6 : ∀ k, k ≤ m → seg (fun p => true && !decide (levRow V n W W p = x)) a (a + k) = 0 := by
      intro k
      induction k with
      | zero => intro _; unfold seg; rw [Nat.add_zero, Nat.sub_self]
      | succ k ih =>
        intro hk
        have ih := ih (by omega)
        unfold seg at ih ⊢
        rw [← Nat.add_assoc, cnt_succ, if_neg (by
          rw [his (a + k) (by omega) (by omega), decide_eq_true rfl]
          decide), Nat.add_zero]
        exact ih
    exact h6 m (Nat.le_refl _)
  rw [h5] at e
  have e2 : seg (fun p => true && decide (levRow V n W W p = x)) a (a + m) = seg (fun p => decide (levRow V n W W p = x)) a (a + m) := seg_congr (fun _ _ => Bool.true_and _) (by omega)
  omega
/-- the ranges' beginnings towards x, level by level. -/
noncomputable def goI (V : Nat → Int) (n W : Nat) (x : Int) (a : Nat) : Nat → Nat
  | 0 => a
  | k + 1 => dnB (levBit V n W k) n (bitZ x (W - 1 - k)) (goI V n W x a k)
theorem goI_nar {V : Nat → Int} {n W A B : Nat} {x : Int} (hAB : A ≤ B) (hB : B ≤ n) (hV : ∀ i, i < n → 0 ≤ V i ∧ V i < 2 ^ W) (h0 : 0 ≤ x) (h1 : x < 2 ^ W) : ∀ k, k ≤ W → Nar V n W k A B (x / 2 ^ (W - k)) (goI V n W x A k) (goI V n W x B k)
  | 0, _ => by
    rw [Nat.sub_zero, div_pow_zero h0 h1]
    exact Nar.start hAB hB hV
  | k + 1, hk => (goI_nar hAB hB hV h0 h1 k (by omega)).to (by omega) hAB rfl
/-- one level up. -/
theorem up_level {V : Nat → Int} {n W k a b m p : Nat} {q x c : Int} {A B : Nat} (h : Nar V n W k A B q a b) (hc : bitZ x (W - 1 - k) = c) (hu : UpAt V n W (k + 1) (dnB (levBit V n W k) n c a) x m p) (hp : p < dnB (levBit V n W k) n c b) :
    ∃ i, i < b ∧ UpAt V n W k a x m i ∧ (c = 0 → Pl.sel (fun j => !levBit V n W k j) n (p : Int) = (i : Int)) ∧ (c = 1 → Pl.sel (levBit V n W k) n ((p : Int) - ((cnt (fun j => !levBit V n W k j) n : Nat) : Int)) = (i : Int)) := by
  have hc2 : c = 0 ∨ c = 1 := by rw [← hc]; exact bitZ_or _ _
  rw [dnB_is hc2] at hu hp
  obtain ⟨i, g1, g2, g3, g4⟩ := hu.up h hc hp
  have hn : i < n := g4.room
  refine ⟨i, g1, g4, fun e => ?_, fun e => ?_⟩
  · rw [e] at g2 g3
    rw [← g3]
    exact up_zero hn g2
  · rw [e] at g2 g3
    rw [← g3, lev_zeros, ← down_zero]
    exact up_one hn g2

/-- what of a range is less than q by its first bits. -/
def fltL (V : Nat → Int) (A B n s : Nat) (q : Int) : List Int := (partL V (A : Int) (B : Int) n).filter (fun x => decide (x / 2 ^ s < q))
theorem fltL_half (V : Nat → Int) (A B n s : Nat) (q : Int) : fltL V A B n s (2 * q) = fltL V A B n (s + 1) q := by
  unfold fltL
  refine List.filter_congr fun x _ => decide_eq_decide.2 ?_
  have := half_bit x s
  have := bitZ_or x s
  omega
theorem fltL_none {V : Nat → Int} {n W k A B a : Nat} {q : Int} (h : Nar V n W k A B q a a) : fltL V A B n (W - k) (q + 1) = fltL V A B n (W - k) q := by
  have hs := h.size
  rw [Nat.sub_self] at hs
  unfold fltL
  refine List.filter_congr fun x hx => decide_eq_decide.2 ?_
  obtain ⟨j, _, h1, h2, rfl⟩ := mem_partL.1 hx
  have hne : V j / 2 ^ (W - k) ≠ q := fun e => by
    have h3 := Pl.cnt_at_lt (f := fun j => decide (V j / 2 ^ (W - k) = q)) (a := j) (b := B) (by omega) (decide_eq_true e)
    have h4 := cnt_mono (fun j => decide (V j / 2 ^ (W - k) = q)) (show A ≤ j by omega)
    unfold seg at hs
    omega
  omega
theorem fltL_start {V : Nat → Int} {n W A B : Nat} (hV : ∀ i, i < n → 0 ≤ V i ∧ V i < 2 ^ W) : fltL V A B n W 0 = [] ∧ fltL V A B n W (0 + 1) = partL V (A : Int) (B : Int) n := by
  unfold fltL
  constructor
  · rw [List.filter_eq_nil_iff]
    intro x hx
    obtain ⟨j, h0, _, _, rfl⟩ := mem_partL.1 hx
    rw [decide_eq_true_iff, div_pow_zero (hV j h0).1 (hV j h0).2]
    omega
  · rw [List.filter_eq_self]
    intro x hx
    obtain ⟨j, h0, _, _, rfl⟩ := mem_partL.1 hx
    rw [decide_eq_true_iff, div_pow_zero (hV j h0).1 (hV j h0).2]
    omega
theorem fltL_len (V : Nat → Int) (A B n s : Nat) (q : Int) : (fltL V A B n s q).length ≤ n := Nat.le_trans (List.length_filter_le _ _) (partL_le _ _ _ _)
theorem PairsOf.short {l : List Int} {D : List (Int × Nat)} (h : PairsOf l D) : D.length ≤ l.length := by
  rw [← h.sum_all]
  have key : ∀ i, i ≤ D.length → i ≤ sumP D i := by
    intro i
    induction i with
    | zero => intro _; exact Nat.zero_le _
    | succ i ih =>
      intro hi
      have hd : D[i]? = some D[i] := List.getElem?_eq_getElem hi
      rw [sumP_succ hd]
      have := (h.many _ (List.mem_of_getElem? hd)).2
      have := ih (by omega)
      omega
  exact key _ (Nat.le_refl _)
theorem PairsOf.less {l : List Int} {D : List (Int × Nat)} (h : PairsOf l D) : ∀ d ∈ D, d.2 ≤ l.length := fun d hd => by
  rw [(h.many d hd).1]
  exact List.countP_le_length
/-- one number more. -/
theorem fltL_one {V : Nat → Int} {n W A B a b : Nat} {q : Int} {D : List (Int × Nat)} (h : Nar V n W W A B q a b) (hAB : A ≤ B) (hB : B ≤ n) (hab : a ≠ b) (hD : PairsOf (fltL V A B n 0 q) D) : PairsOf (fltL V A B n 0 (q + 1)) (D ++ [(q, b - a)]) := by
  have hl := h.last
  have hle := h.le
  rw [← seg_range (fun j => decide (V j = q)) hAB hB, ← countP_partL V (A : Int) (B : Int) (fun x => decide (x = q))] at hl
  have hlow : ∀ d ∈ D, d.1 < q := fun d hd => by
    have h1 := (hD.mem d).1 hd
    have h2 := (List.mem_filter.1 h1.1).2
    rw [decide_eq_true_iff, Int.pow_zero, Int.ediv_one] at h2
    exact h2
  have hcount : ∀ y : Int, y < q + 1 → (fltL V A B n 0 (q + 1)).countP (fun x => decide (x = y)) = (partL V (A : Int) (B : Int) n).countP (fun x => decide (x = y)) := fun y hy => by
    unfold fltL
    rw [List.countP_filter]
    refine List.countP_congr fun x _ => ?_
    rw [Bool.and_eq_true, decide_eq_true_iff, decide_eq_true_iff, Int.pow_zero, Int.ediv_one]
    exact ⟨fun g => g.1, fun g => ⟨g, by omega⟩⟩
  have hcount2 : ∀ y : Int, y < q → (fltL V A B n 0 q).countP (fun x => decide (x = y)) = (partL V (A : Int) (B : Int) n).countP (fun x => decide (x = y)) := fun y hy => by
    unfold fltL
    rw [List.countP_filter]
    refine List.countP_congr fun x _ => ?_
    rw [Bool.and_eq_true, decide_eq_true_iff, decide_eq_true_iff, Int.pow_zero, Int.ediv_one]
    exact ⟨fun g => g.1, fun g => ⟨g, by omega⟩⟩
  refine ⟨?_, fun d hd => ?_, fun x hx => ?_⟩
  · rw [List.pairwise_append]
    exact ⟨hD.rise, List.pairwise_singleton _ _, fun d hd e he => by
      obtain rfl := List.mem_singleton.1 he
      exact hlow d hd⟩
  · rcases List.mem_append.1 hd with g | g
    · have h1 := hD.many d g
      have h2 := hlow d g
      rw [hcount _ (by omega), ← hcount2 _ h2]
      exact h1
    · obtain rfl := List.mem_singleton.1 g
      rw [hcount _ (by show q < q + 1; omega)]
      exact ⟨hl, by show 0 < b - a; omega⟩
  · obtain ⟨h1, h2⟩ := List.mem_filter.1 hx
    rw [decide_eq_true_iff, Int.pow_zero, Int.ediv_one] at h2
    by_cases e : x = q
    · exact ⟨(q, b - a), List.mem_append_right _ (List.mem_singleton.2 rfl), e.symm⟩
    · obtain ⟨d, hd, hd2⟩ := hD.all x (List.mem_filter.2 ⟨h1, by rw [decide_eq_true_iff, Int.pow_zero, Int.ediv_one]; omega⟩)
      exact ⟨d, List.mem_append_left _ hd, hd2⟩
end Go.Proofs.Ythbnojhcmfhnhaa

namespace Go.Proofs.Ythbnojhcmfhnhaa
open Go.RowKit
open Pl (cnt cnt_mono cnt_le)

theorem widthN_least {x k : Nat} (h : x < 2 ^ k) (hk : 1 ≤ k) : widthN x ≤ k := widthN_pow k x h hk
theorem widthN_22 {m : Nat} (h : m < 4194304) : 1 ≤ widthN m ∧ widthN m ≤ 22 := ⟨widthN_pos m, widthN_pow 22 m (by omega) (by decide)⟩
theorem powI (W : Nat) : (2 : Int) ^ W = ((2 ^ W : Nat) : Int) := by simp [Int.natCast_pow]
/-- all numbers of a right row are below the power. -/
theorem rightW_room {V : Nat → Int} {n : Nat} {m : Nat} (h : RightW V n (m : Int)) : ∀ i, i < n → 0 ≤ V i ∧ V i < 2 ^ widthN m := fun i hi => by
  have h1 := h.2.2.2 i hi
  have h2 := lt_widthN m
  rw [powI]
  exact ⟨h1.1, by omega⟩
theorem pow_24 {W : Nat} (h : W ≤ 22) : (2 : Int) ^ W ≤ 4194304 := by
  rw [powI]
  have := Nat.pow_le_pow_right (show 0 < 2 by decide) h
  omega

section
variable {w w' : World} {B g gw n : Nat} {av : Value} {ws : List Nat} {f : Nat → Bool}
theorem noughts_any (h : Vc w B g gw av n ws f) : Calls Try.prog 51 #[.pointer (some ⟨g, 0, none⟩)] w fun e w' => e = .returned (.int .i64 ((cnt (fun j => !f j) n : Nat) : Int)) ∧ w = w' := by
  have HL := Lib.hid (vlen_any h)
  have HO := Lib.hid (vones_any h)
  have hn := Pl.cnt_not f n
  have hf := h.bits.few
  have HE : Hid ((n : Int) - ((cnt f n : Nat) : Int) = ((cnt (fun j => !f j) n : Nat) : Int)) := Lib.hid (by omega)
  have hle := cnt_le f n
  clear h hn
  generalize cnt (fun j => !f j) n = z at HE ⊢
  generalize cnt f n = m at HE HO hle
  go_enter Try.func51, Try.ntmps51
  go_wp2_with (first
    | (go_at_call 56; (with_reducible refine HL.out.mono ?_); rintro e w' ⟨rfl, rfl⟩)
    | (go_at_call 57; (with_reducible refine HO.out.mono ?_); rintro e w' ⟨rfl, rfl⟩))
  go_ret
  exact ⟨ret_i64 HE.out, rfl⟩

theorem down_any (h : Vc w B g gw av n ws f) (i : Nat) (c : Int) (hi : i ≤ n) (hc : c = 0 ∨ c = 1) :
    Calls Try.prog 39 #[.pointer (some ⟨g, 0, none⟩), .int .i64 (i : Int), .int .i64 c] w fun e w' => e = .returned (.int .i64 ((dnB f n c i : Nat) : Int)) ∧ w = w' := by
  have hZ := zeros_any h (i : Int)
  have hR := rank_any h (i : Int)
  rw [Pl.clamp_nat hi] at hZ hR
  have hf := h.bits.few
  rcases hc with rfl | rfl
  · rw [dnB_zero]
    have HZ := Lib.hid hZ
    clear h hZ hR
    go_enter Try.func39, Try.ntmps39
    go_wp2_with (go_at_call 50; (with_reducible refine HZ.out.mono ?_); rintro e w' ⟨rfl, rfl⟩)
    go_ret
    exact ⟨rfl, rfl⟩
  · rw [dnB_one]
    have HN := Lib.hid (noughts_any h)
    have HR := Lib.hid hR
    have h1 := cnt_le f i
    have h2 := cnt_le (fun j => !f j) n
    clear h hZ hR
    generalize cnt (fun j => !f j) n = z at HN h2 ⊢
    generalize cnt f i = y at HR h1 ⊢
    have e1 : IntKind.i64.wrap ((z : Int) + (y : Int)) = ((z + y : Nat) : Int) := by rw [IntWalk.i64_in _ (by omega)]; omega
    have HE := Lib.hid e1
    clear e1
    go_enter Try.func39, Try.ntmps39
    go_wp2_with (first
      | (go_at_call 51; (with_reducible refine HN.out.mono ?_); rintro e w' ⟨rfl, rfl⟩)
      | (go_at_call 52; (with_reducible refine HR.out.mono ?_); rintro e w' ⟨rfl, rfl⟩))
    go_ret
    exact ⟨ret_i64 (by omega), rfl⟩

end

/-- a matrix as it lies: its struct in block g, its lists' pointers in block gl; all of it in blocks from B on. -/
structure Mx (w : World) (B g gl cl n : Nat) (V : Nat → Int) (m : Nat) : Prop where
  head : Lies w g 52 [.int .i64 (n : Int), .slice (some ⟨gl, 0, none⟩) (widthN m) cl]
  cap : widthN m ≤ cl ∧ cl ≤ maxLen
  row : ∀ k, k < widthN m → ∃ (gv gw : Nat) (av : Value) (ws : List Nat), w.cell? ⟨gl, k, none⟩ = some (.pointer (some ⟨gv, 0, none⟩)) ∧ Vc w B gv gw av n ws (levBit V n (widthN m) k)
  lo : B ≤ g ∧ B ≤ gl ∧ gl < w.heap.size
  right : RightW V n (m : Int)
  sl : ∀ k gv, k < widthN m → w.cell? ⟨gl, k, none⟩ = some (.pointer (some ⟨gv, 0, none⟩)) → ∃ (A : Option Addr) (q c : Nat), w.cell? ⟨gv, 3, none⟩ = some (.slice A q c)
/-- as the laws see it. -/
def WavAt (B : Nat) (w : World) (v : Value) (n : Nat) (V : Nat → Int) (m : Nat) : Prop := ∃ g gl cl, v = .pointer (some ⟨g, 0, none⟩) ∧ Mx w B g gl cl n V m
/-- a list of bits, as the laws see it. -/
def VcAt (B : Nat) (w : World) (v : Value) (n : Nat) (f : Nat → Bool) : Prop := ∃ (g gw : Nat) (av : Value) (ws : List Nat), v = .pointer (some ⟨g, 0, none⟩) ∧ Vc w B g gw av n ws f

section
variable {w w' : World} {B g gl cl n m : Nat} {V : Nat → Int}
theorem Mx.keepB (h : Mx w B g gl cl n V m) (hs : w.heap.size ≤ w'.heap.size) (hb : ∀ k, B ≤ k → k < w.heap.size → w'.heap[k]? = w.heap[k]?) : Mx w' B g gl cl n V m :=
  ⟨h.head.same (hb g h.lo.1 h.head.lt), h.cap, fun k hk => by
    obtain ⟨gv, gw, av, ws, h1, h2⟩ := h.row k hk
    exact ⟨gv, gw, av, ws, (cell_of_heap (hb gl h.lo.2.1 h.lo.2.2)).trans h1, h2.keepB hs hb⟩, ⟨h.lo.1, h.lo.2.1, Nat.lt_of_lt_of_le h.lo.2.2 hs⟩, h.right, fun k gv hk hc => by
    have hc2 : w.cell? ⟨gl, k, none⟩ = some (.pointer (some ⟨gv, 0, none⟩)) := (cell_of_heap (hb gl h.lo.2.1 h.lo.2.2)).symm.trans hc
    obtain ⟨gv', gw, av, ws, h1, h2⟩ := h.row k hk
    rw [hc2] at h1
    injection h1 with h1
    injection h1 with h1
    injection h1 with h1
    injection h1 with h1
    subst h1
    obtain ⟨A, q, c, e⟩ := h.sl k gv hk hc2
    exact ⟨A, q, c, (cell_of_heap (hb gv h2.lo.1 h2.head.lt)).trans e⟩⟩
theorem Mx.keep (h : Mx w B g gl cl n V m) (hb : Below w.heap.size w w') : Mx w' B g gl cl n V m := h.keepB hb.size fun k _ hk => hb.block k hk
theorem Mx.drewN (h : Mx w B g gl cl n V m) (k : Nat) : Mx (w.drewN k) B g gl cl n V m := h.keepB (Nat.le_refl _) fun _ _ _ => rfl
theorem Mx.c0 (h : Mx w B g gl cl n V m) : w.cell? ⟨g, 0, none⟩ = some (.int .i64 (n : Int)) := h.head.cell 0
theorem Mx.c1 (h : Mx w B g gl cl n V m) : w.cell? ⟨g, 1, none⟩ = some (.slice (some ⟨gl, 0, none⟩) (widthN m) cl) := h.head.cell 1
theorem Mx.few (h : Mx w B g gl cl n V m) : n ≤ 4194304 := h.right.2.2.1
theorem Mx.most (h : Mx w B g gl cl n V m) : m < 4194304 := by have := h.right.2.1; omega
theorem Mx.w22 (h : Mx w B g gl cl n V m) : 1 ≤ widthN m ∧ widthN m ≤ 22 := widthN_22 h.most
theorem Mx.room (h : Mx w B g gl cl n V m) : ∀ i, i < n → 0 ≤ V i ∧ V i < 2 ^ widthN m := rightW_room h.right

theorem wvLen_any (h : Mx w B g gl cl n V m) : Calls Try.prog 26 #[.pointer (some ⟨g, 0, none⟩)] w fun e w' => e = .returned (.int .i64 (n : Int)) ∧ w = w' := by
  have h1 := h.c0
  clear h
  go_enter Try.func26, Try.ntmps26
  go_wp2
  go_ret
  exact ⟨rfl, rfl⟩
theorem wvLen_nil (w : World) : Calls Try.prog 26 #[.pointer none] w fun e w' => e = .returned (.int .i64 0) ∧ w = w' := by
  go_enter Try.func26, Try.ntmps26
  go_wp2
  go_ret
  exact ⟨rfl, rfl⟩

/-- within, by its answer's two bounds. -/
theorem wvWithin_of (v : Value) (a b : Int) (w : World) (hL : Calls Try.prog 26 #[v] w fun e w' => e = .returned (.int .i64 (n : Int)) ∧ w = w') :
    Calls Try.prog 30 #[v, .int .i64 a, .int .i64 b] w fun e w' => e = .returned (.tuple #[.int .i64 ((Pl.clamp (Pl.clamp n b) a : Nat) : Int), .int .i64 ((Pl.clamp n b : Nat) : Int)]) ∧ w = w' := by
  have HL := Lib.hid hL
  have e1 := Lib.hid (Pl.clamp_int n b)
  obtain ⟨q, hq⟩ : ∃ q, Pl.clamp n b = q := ⟨_, rfl⟩
  rw [hq] at e1 ⊢
  have e2 := Lib.hid (Pl.clamp_int q a)
  obtain ⟨p, hp⟩ : ∃ p, Pl.clamp q a = p := ⟨_, rfl⟩
  rw [hp] at e2 ⊢
  clear hL hq hp
  go_enter Try.func30, Try.ntmps30
  go_upto_region 1 with (fail)
  go_cut [2] from 2 to 12 (fun s wx => s = .int .i64 (q : Int) ∧ wx = w)
  case first =>
    by_cases h1 : (n : Int) < b
    · by_cases h2 : 0 < n
      all_goals
        go_wp2_with (go_at_call 26; (with_reducible refine HL.out.mono ?_); rintro e w' ⟨rfl, rfl⟩)
        go_meet
        exact ⟨by rw [← e1.out]; first | done | (congr 1 <;> omega), rfl⟩
    · by_cases h2 : 0 < b
      all_goals
        go_wp2_with (go_at_call 26; (with_reducible refine HL.out.mono ?_); rintro e w' ⟨rfl, rfl⟩)
        go_meet
        exact ⟨by rw [← e1.out]; first | done | (congr 1 <;> omega), rfl⟩
  case rest =>
  obtain ⟨rfl, rfl⟩ := hcut
  by_cases h1 : (q : Int) < a
  · by_cases h2 : 0 < q
    all_goals
      go_wp2_with fail
      go_ret2
      exact ⟨by rw [← e2.out]; first | done | (congr 3 <;> first | rfl | omega | (simp; omega) | simp), rfl⟩
  · by_cases h2 : 0 < a
    all_goals
      go_wp2_with fail
      go_ret2
      exact ⟨by rw [← e2.out]; first | done | (congr 3 <;> first | rfl | omega | (simp; omega) | simp), rfl⟩

theorem wvWide_any (h : Mx w B g gl cl n V m) (c : Int) (r : Bool) (hr : r = true ↔ 0 ≤ c ∧ c < 2 ^ widthN m) :
    Calls Try.prog 75 #[.pointer (some ⟨g, 0, none⟩), .int .i64 c] w fun e w' => e = .returned (.bool r) ∧ w = w' := by
  have h1 := h.c1
  obtain ⟨hw1, hw2⟩ := h.w22
  have hcp := h.cap
  have hcm : cl ≤ 9223372036854775807 := by have := hcp.2; unfold maxLen at this; omega
  obtain ⟨W, hW⟩ : ∃ W, widthN m = W := ⟨_, rfl⟩
  rw [hW] at h1 hw1 hw2 hcp hr
  have hcl := hcp.1
  have h64 : W ≤ 64 := by omega
  have e0 : IntKind.u64.wrap (W : Int) = (W : Int) := IntWalk.u64_in _ (by omega)
  have eT : ((W : Int)).toNat = W := Int.toNat_natCast W
  have hlt : ¬ (W : Int) < 0 := by omega
  clear h hW hcp
  by_cases h0 : 0 ≤ c
  · have g0 : decide ((0 : Int) ≤ c) = true := decide_eq_true h0
    have hp : (0 : Int) < 2 ^ W := Int.pow_pos (by decide)
    have hq : (c / 2 ^ W == 0) = r := by
      rcases r with _ | _
      · rw [beq_eq_false_iff_ne]
        intro e
        have h2 : c < 2 ^ W := by
          have := Int.lt_ediv_add_one_mul_self c hp
          rw [e] at this
          omega
        have := hr.2 ⟨h0, h2⟩
        cases this
      · rw [beq_iff_eq]
        exact Int.ediv_eq_zero_of_lt h0 (hr.1 rfl).2
    have HQ := Lib.hid hq
    clear hr hp hq
    go_enter Try.func75, Try.ntmps75
    go_wp2
    go_ret
    exact ⟨by rw [← HQ.out]; rfl, rfl⟩
  · have g0 : decide ((0 : Int) ≤ c) = false := decide_eq_false h0
    obtain rfl : r = false := Bool.eq_false_iff.2 fun e => h0 (hr.1 e).1
    clear hr
    go_enter Try.func75, Try.ntmps75
    go_wp2
    go_ret
    exact ⟨rfl, rfl⟩
theorem wvWide_nil (c : Int) (w : World) : Calls Try.prog 75 #[.pointer none, .int .i64 c] w fun e w' => e = .returned (.bool false) ∧ w = w' := by
  go_enter Try.func75, Try.ntmps75
  go_wp2
  go_ret
  exact ⟨rfl, rfl⟩

theorem and_bit {x : Int} {b : Nat} (h0 : 0 ≤ x) (h1 : x ≤ 16777216) : bits .and .i64 (x / 2 ^ b) 1 = bitZ x b := by
  obtain ⟨y, rfl⟩ : ∃ y : Nat, x = (y : Int) := ⟨x.toNat, by omega⟩
  unfold bitZ
  rw [shr_u]
  have hy : y / 2 ^ b ≤ 16777216 := Nat.le_trans (Nat.div_le_self _ _) (by omega)
  generalize y / 2 ^ b = u at hy
  show IntKind.i64.wrap ((BitVec.ofInt 64 (u : Int) &&& BitVec.ofInt 64 ((1 : Nat) : Int)).toNat : Int) = _
  rw [BitVec.toNat_and, ofInt_n u (by omega), ofInt_n 1 (by omega), Nat.and_one_is_mod]
  rw [IntWalk.i64_in _ (by omega)]
  omega
theorem wvBit_any (h : Mx w B g gl cl n V m) (c : Int) (k : Nat) (hk : k < widthN m) (h0 : 0 ≤ c) (h1 : c < 2 ^ widthN m) :
    Calls Try.prog 77 #[.pointer (some ⟨g, 0, none⟩), .int .i64 c, .int .i64 (k : Int)] w fun e w' => e = .returned (.int .i64 (bitZ c (widthN m - 1 - k))) ∧ w = w' := by
  have hc1 := h.c1
  obtain ⟨hw1, hw2⟩ := h.w22
  have hcp := h.cap
  have hcm : cl ≤ 9223372036854775807 := by have := hcp.2; unfold maxLen at this; omega
  have hb := and_bit (x := c) (b := widthN m - 1 - k) h0 (by have := pow_24 hw2; omega)
  obtain ⟨W, hW⟩ : ∃ W, widthN m = W := ⟨_, rfl⟩
  rw [hW] at hc1 hw1 hw2 hcp hb hk ⊢
  have hcl := hcp.1
  have e1 : IntKind.i64.wrap ((W : Int) - 1) = ((W - 1 : Nat) : Int) := by rw [IntWalk.i64_in _ (by omega)]; omega
  obtain ⟨s, hs⟩ : ∃ s, W - 1 - k = s := ⟨_, rfl⟩
  have e2 : IntKind.i64.wrap (((W - 1 : Nat) : Int) - (k : Int)) = (s : Int) := by rw [IntWalk.i64_in _ (by omega)]; omega
  have e3 : IntKind.i64.wrap ((W : Int) - 1 - (k : Int)) = (s : Int) := by rw [IntWalk.i64_in _ (by omega)]; omega
  have h64 : s ≤ 64 := by omega
  have hlt : ¬ (s : Int) < 0 := by omega
  rw [hs] at hb ⊢
  have HB := Lib.hid hb
  clear h hW hcp hb hs h0 h1 hk
  go_enter Try.func77, Try.ntmps77
  go_wp2
  go_ret
  exact ⟨by rw [← HB.out]; rfl, rfl⟩
end
end Go.Proofs.Ythbnojhcmfhnhaa

namespace Go.Proofs.Ythbnojhcmfhnhaa
open Go.RowKit
open Pl (cnt cnt_mono cnt_le)

theorem or_bit {q c : Int} (h0 : 0 ≤ q) (h1 : q ≤ 16777216) (hc : c = 0 ∨ c = 1) : bits .or .i64 (q * 2) c = 2 * q + c := by
  obtain ⟨a, rfl⟩ : ∃ a : Nat, q = (a : Int) := ⟨q.toNat, by omega⟩
  obtain ⟨b, rfl⟩ : ∃ b : Nat, c = (b : Int) := ⟨c.toNat, by omega⟩
  have e : ((a : Int) * 2) = ((a * 2 : Nat) : Int) := by omega
  have hor : 2 * a + b = 2 * a ||| b := by
    have := Nat.two_pow_add_eq_or_of_lt (i := 1) (show b < 2 ^ 1 by omega) a
    rwa [Nat.pow_one] at this
  rw [e]
  show IntKind.i64.wrap ((BitVec.ofInt 64 ((a * 2 : Nat) : Int) ||| BitVec.ofInt 64 (b : Int)).toNat : Int) = _
  rw [BitVec.toNat_or, ofInt_n _ (by omega), ofInt_n b (by omega), Nat.mul_comm a 2, ← hor]
  rw [IntWalk.i64_in _ (by omega)]
  omega

section
variable {w w' : World} {B g gl cl n m : Nat} {V : Nat → Int}
set_option maxRecDepth 100000 in
set_option maxHeartbeats 1600000 in
/-- narrowing to c, level by level. -/
theorem wvBehind_any (h : Mx w B g gl cl n V m) (c a b : Int) (h0 : 0 ≤ c) (h1 : c < 2 ^ widthN m) :
    Calls Try.prog 76 #[.pointer (some ⟨g, 0, none⟩), .int .i64 c, .int .i64 a, .int .i64 b] w fun e w' =>
      e = .returned (.tuple #[.int .i64 ((goI V n (widthN m) c (Pl.clamp (Pl.clamp n b) a) (widthN m) : Nat) : Int), .int .i64 ((goI V n (widthN m) c (Pl.clamp n b) (widthN m) : Nat) : Int)]) ∧ w = w' := by
  have HWi := Lib.hid (wvWithin_of _ a b w (wvLen_any h))
  have hc1 := h.c1
  have HH := Lib.hid h
  have HBt := Lib.hid (fun (k : Nat) (hk : k < widthN m) => wvBit_any h c k hk h0 h1)
  obtain ⟨hw1, hw2⟩ := h.w22
  have hcp := h.cap
  have hcm : cl ≤ 9223372036854775807 := by have := hcp.2; unfold maxLen at this; omega
  have hf := h.few
  have hBn := Pl.clamp_le n b
  have hAB := Pl.clamp_le (Pl.clamp n b) a
  generalize Pl.clamp (Pl.clamp n b) a = A0 at hAB HWi ⊢
  generalize Pl.clamp n b = B0 at hAB hBn HWi ⊢
  have HGo := Lib.hid (goI_nar hAB hBn h.room h0 h1)
  obtain ⟨W, hW⟩ : ∃ W, widthN m = W := ⟨_, rfl⟩
  have HW := Lib.hid hW
  rw [hW] at hc1 hw1 hw2 hcp HGo HBt ⊢
  have hcl := hcp.1
  clear h hW hcp h0 h1
  go_enter Try.func76, Try.ntmps76
  go_wp2_with (go_at_call 30; (with_reducible refine HWi.out.mono ?_); rintro e w' ⟨rfl, rfl⟩)
  go_loop [2, 3, 25] (fun s u v => ∃ (k p q : Nat), k ≤ W ∧ v = .int .i64 (k : Int) ∧ s = .int .i64 (p : Int) ∧ u = .int .i64 (q : Int) ∧ p ≤ q ∧ q ≤ n ∧ Hid (p = goI V n W c A0 k ∧ q = goI V n W c B0 k)) (fun _ _ v => W - (intOf v).toNat)
  case atStart => exact ⟨0, A0, B0, Nat.zero_le _, rfl, rfl, rfl, hAB, hBn, Lib.hid ⟨rfl, rfl⟩⟩
  case round =>
    obtain ⟨k, p, q, hk, rfl, rfl, rfl, hpq, hqn, hr⟩ := hrel
    by_cases hlt : k < W
    · obtain ⟨gv, gw, av, ws, hcell, hvc⟩ := HH.out.row k (by rw [HW.out]; exact hlt)
      rw [HW.out] at hvc
      have HB := Lib.hid (HBt.out k hlt)
      have hn1 := HGo.out (k + 1) hlt
      obtain ⟨d, hd⟩ : ∃ d, bitZ c (W - 1 - k) = d := ⟨_, rfl⟩
      have hd2 : d = 0 ∨ d = 1 := by rw [← hd]; exact bitZ_or _ _
      rw [hd] at HB
      have hD1 := down_any hvc p d (by omega) hd2
      have hD2 := down_any hvc q d hqn hd2
      have e1 : dnB (levBit V n W k) n d p = goI V n W c A0 (k + 1) := by rw [hr.out.1, ← hd]; rfl
      have e2 : dnB (levBit V n W k) n d q = goI V n W c B0 (k + 1) := by rw [hr.out.2, ← hd]; rfl
      have hle := hn1.le
      have hrm := hn1.room
      rw [← e1, ← e2] at hle
      rw [← e2] at hrm
      have HR : Hid (dnB (levBit V n W k) n d p = goI V n W c A0 (k + 1) ∧ dnB (levBit V n W k) n d q = goI V n W c B0 (k + 1)) := Lib.hid ⟨e1, e2⟩
      have HD1 := Lib.hid hD1
      have HD2 := Lib.hid hD2
      clear hvc hD1 hD2 e1 e2 hr hn1 hd
      generalize dnB (levBit V n W k) n d p = p2 at HR HD1 hle
      generalize dnB (levBit V n W k) n d q = q2 at HR HD2 hle hrm
      go_wp2_with (first
        | (go_at_call 77; (with_reducible refine HB.out.mono ?_); rintro e w' ⟨rfl, rfl⟩)
        | (go_at_call 39; (with_reducible refine HD1.out.mono ?_); rintro e w' ⟨rfl, rfl⟩)
        | (go_at_call 39; (with_reducible refine HD2.out.mono ?_); rintro e w' ⟨rfl, rfl⟩))
      go_round
      case rel => exact ⟨k + 1, p2, q2, by omega, by go_num, rfl, rfl, hle, hrm, HR⟩
      case measure => simp [intOf]; omega
    · have hkW : k = W := by omega
      have hge : ¬ (k : Int) < (W : Int) := by omega
      rw [hkW] at hr
      obtain ⟨rfl, rfl⟩ := hr.out
      clear hkW hr
      go_wp2_with fail
      go_ret2
      exact ⟨rfl, rfl⟩

set_option maxRecDepth 100000 in
theorem wvRank_any (h : Mx w B g gl cl n V m) (c i : Int) : Calls Try.prog 74 #[.pointer (some ⟨g, 0, none⟩), .int .i64 c, .int .i64 i] w fun e w' => e = .returned (.int .i64 ((cntR V c 0 i n : Nat) : Int)) ∧ w = w' := by
  by_cases hwd : 0 ≤ c ∧ c < 2 ^ widthN m
  · have HWd := Lib.hid (wvWide_any h c true ⟨fun _ => hwd, fun _ => rfl⟩)
    have HBe := Lib.hid (wvBehind_any h c 0 i hwd.1 hwd.2)
    have hBn := Pl.clamp_le n i
    have hAB := Pl.clamp_le (Pl.clamp n i) 0
    have hN := goI_nar hAB hBn h.room hwd.1 hwd.2 (widthN m) (Nat.le_refl _)
    have hf := h.few
    have hle := hN.le
    have hrm := hN.room
    have hlast := hN.size
    rw [Nat.sub_self, Int.pow_zero, Int.ediv_one] at hN
    have hlast := hN.last
    rw [← cntR_seg hAB hBn, ← clamp_cnt] at hlast
    have HE := Lib.hid hlast
    clear hN hlast hBn hAB h hwd
    generalize goI V n (widthN m) c (Pl.clamp (Pl.clamp n i) 0) (widthN m) = p at HBe HE hle
    generalize goI V n (widthN m) c (Pl.clamp n i) (widthN m) = q at HBe HE hle hrm
    go_enter Try.func74, Try.ntmps74
    go_wp2_with (first
      | (go_at_call 75; (with_reducible refine HWd.out.mono ?_); rintro e w' ⟨rfl, rfl⟩)
      | (go_at_call 76; (with_reducible refine HBe.out.mono ?_); rintro e w' ⟨rfl, rfl⟩))
    go_ret
    exact ⟨ret_i64 (by rw [← HE.out]; omega), rfl⟩
  · have HWd := Lib.hid (wvWide_any h c false ⟨fun e => (by cases e), fun e => absurd e hwd⟩)
    have HE : Hid (cntR V c 0 i n = 0) := Lib.hid (cntR_far fun j hj e => hwd (by rw [← e]; exact h.room j hj))
    clear h hwd
    go_enter Try.func74, Try.ntmps74
    go_wp2_with (go_at_call 75; (with_reducible refine HWd.out.mono ?_); rintro e w' ⟨rfl, rfl⟩)
    go_ret
    exact ⟨by rw [HE.out]; rfl, rfl⟩
theorem wvRank_nil (c i : Int) (w : World) : Calls Try.prog 74 #[.pointer none, .int .i64 c, .int .i64 i] w fun e w' => e = .returned (.int .i64 0) ∧ w = w' := by
  go_enter Try.func74, Try.ntmps74
  go_wp2_with (go_at_call 75; (with_reducible refine (wvWide_nil _ _).mono ?_); rintro e w' ⟨rfl, rfl⟩)
  go_ret
  exact ⟨rfl, rfl⟩
end
end Go.Proofs.Ythbnojhcmfhnhaa

namespace Go.Proofs.Ythbnojhcmfhnhaa
open Go.RowKit
open Pl (cnt cnt_mono cnt_le)

theorem step_append_pairC {ops : Array Oper} {rest : List Oper} {o : Oper} {a : Act} {Q : Exit → Act → World → Prop} (hgd : o.guard = none) (s x : Operand)
    (ho : o.op = .call { callee := .builtin .append, args := #[s, x], argTypes := #[30, 30] })
    {w : World} {B : Nat} {v : Value} {D : List (Int × Nat)} (hs : a.eval s = v) (hown : w.ownsRow B 39 2 v D.length (prcells D)) (y : Int) (c : Nat) (hx : a.eval x = .slice (some ⟨w.heap.size, 0, none⟩) 1 1) (hB : B ≤ w.heap.size) (hi : D.length ≤ 4194304)
    (h : ∀ v' w', Hid (w'.ownsRow B 39 2 v' (D ++ [(y, c)]).length (prcells (D ++ [(y, c)]))) → Below B w w' → wpList Try.prog ops Q rest (a.put o.dst v') w') :
    wpList Try.prog ops Q (o :: rest) a (w.alloc (.cells #[.int .i64 y, .int .i64 (c : Int)] 39)) := by
  obtain ⟨i0, hi0, hz0, hs0, hb0⟩ := info_parts info_pair
  have hl := lies_new w 39 [.int .i64 y, .int .i64 (c : Int)]
  refine wpList_append_own _ hgd s x 30 ho B 39 i0 _ 2 16 Try.underlying30 hi0 hz0 hs0 hb0 rfl (by decide) v D.length (prcells D) hs (hown.alloc _) ⟨w.heap.size, 0, none⟩ 1 1 [.int .i64 y, .int .i64 (c : Int)] hx rfl (fun j u hj => ?_) (fun u hu => by
      simp at hu
      rcases hu with rfl | rfl <;> rfl) (by unfold maxLen; omega) (by omega) (by rw [size_alloc]; omega) (fun v' w' h2 h3 _ => ?_)
  · rw [Addr.add_mid, Nat.zero_add, hl.cell]
    exact hj
  · refine h v' w' (Lib.hid ?_) (((Below.refl _ _).alloc hB _).grown h3 (by rw [size_alloc]; omega) (fun k hk => (hown.lt k hk).1))
    rw [prcells_append, List.length_append]
    exact h2

/-- what gather leaves: the numbers of a list, each once. -/
def GatPost (w0 : World) (L : List Int) (e : Ending) (W' : World) : Prop := ∃ (v' : Value) (D' : List (Int × Nat)), e = .returned v' ∧ W'.ownsRow w0.heap.size 39 2 v' D'.length (prcells D') ∧ PairsOf L D' ∧ Below w0.heap.size w0 W'

section
variable {w0 : World} {B g gl cl n m : Nat} {V : Nat → Int}
set_option maxRecDepth 100000 in
set_option maxHeartbeats 3200000 in
theorem wvGather_any (h : Mx w0 B g gl cl n V m) (A Z : Nat) (hAZ : A ≤ Z) (hZ : Z ≤ n) : ∀ (r k : Nat), k + r = widthN m → ∀ (W : World) (v : Value) (D : List (Int × Nat)) (q : Int) (a b : Nat), Below w0.heap.size w0 W → W.ownsRow w0.heap.size 39 2 v D.length (prcells D) →
    Nar V n (widthN m) k A Z q a b → 0 ≤ q → q < 2 ^ k → PairsOf (fltL V A Z n (widthN m - k) q) D →
    Calls Try.prog 31 #[.pointer (some ⟨g, 0, none⟩), v, .int .i64 (k : Int), .int .i64 q, .int .i64 (a : Int), .int .i64 (b : Int)] W (GatPost w0 (fltL V A Z n (widthN m - k) (q + 1))) := by
  obtain ⟨Wd, hWd⟩ : ∃ Wd, widthN m = Wd := ⟨_, rfl⟩
  have HWe := Lib.hid hWd
  have HH := Lib.hid h
  obtain ⟨hw1, hw2⟩ := h.w22
  have hcp := h.cap
  have hcm : cl ≤ 9223372036854775807 := by have := hcp.2; unfold maxLen at this; omega
  have hf := h.few
  rw [hWd] at hw1 hw2 hcp ⊢
  have hcl := hcp.1
  have hlg := h.head.lt
  have hc1' := h.c1
  rw [hWd] at hc1'
  have HC1 := Lib.hid hc1'
  clear hcp hWd h hc1'
  intro r
  induction r with
  | zero =>
    intro k hk W v D q a b hb hv hN hq0 hq1 hP
    obtain rfl : k = Wd := by omega
    have hle := hN.le
    have hrm := hN.room
    have hc1 : W.cell? ⟨g, 1, none⟩ = some (.slice (some ⟨gl, 0, none⟩) k cl) := (hb.cell (p := ⟨g, 1, none⟩) hlg).trans HC1.out
    have HV := Lib.hid hv
    have HB := Lib.hid hb
    have hlen : D.length ≤ 4194304 := by
      have := hP.short
      have := fltL_len V A Z n (k - k) q
      omega
    by_cases hab : a = b
    · subst hab
      have hfl := fltL_none hN
      have HP : Hid (PairsOf (fltL V A Z n (k - k) (q + 1)) D) := Lib.hid (by rw [hfl]; exact hP)
      have e1 : ((a : Int) == (a : Int)) = true := by rw [beq_iff_eq]
      clear hv hb hN hP hfl
      go_enter Try.func31, Try.ntmps31
      go_wp2_with fail
      go_ret
      exact ⟨_, D, rfl, HV.out, HP.out, HB.out⟩
    · have e1 : ((a : Int) == (b : Int)) = false := by rw [beq_eq_false_iff_ne]; omega
      have e2 : ((k : Int) == (k : Int)) = true := by rw [beq_iff_eq]
      have e3 : IntKind.i64.wrap ((b : Int) - (a : Int)) = ((b - a : Nat) : Int) := by rw [IntWalk.i64_in _ (by omega)]; omega
      have e4 : ¬ a = b := hab
      rw [Nat.sub_self] at hP ⊢
      have HP := Lib.hid (fltL_one hN hAZ hZ hab hP)
      have hsz := hb.size
      generalize b - a = c at e3 HP
      clear hv hb hN hP
      go_enter Try.func31, Try.ntmps31
      go_wp2_with (at_builtin; refine step_append_pairC rfl (.tmp 26) (.tmp 32) rfl rfl HV.out q c rfl hsz hlen ?_; intro v5 w5 hown5 hb5)
      go_ret
      exact ⟨_, _, rfl, hown5.out, HP.out, HB.out.trans hb5⟩
  | succ r ih =>
    intro k hk W v D q a b hb hv hN hq0 hq1 hP
    have hkW : k < Wd := by omega
    have hle := hN.le
    have hrm := hN.room
    have hc1 : W.cell? ⟨g, 1, none⟩ = some (.slice (some ⟨gl, 0, none⟩) Wd cl) := (hb.cell (p := ⟨g, 1, none⟩) hlg).trans HC1.out
    have HV := Lib.hid hv
    have HB := Lib.hid hb
    have hsub : Wd - k = (Wd - (k + 1)) + 1 := by omega
    by_cases hab : a = b
    · subst hab
      have hfl := fltL_none hN
      have HP : Hid (PairsOf (fltL V A Z n (Wd - k) (q + 1)) D) := Lib.hid (by rw [hfl]; exact hP)
      have e1 : ((a : Int) == (a : Int)) = true := by rw [beq_iff_eq]
      clear hv hb hN hP hfl ih
      go_enter Try.func31, Try.ntmps31
      go_wp2_with fail
      go_ret
      exact ⟨_, D, rfl, HV.out, HP.out, HB.out⟩
    · have e1 : ((a : Int) == (b : Int)) = false := by rw [beq_eq_false_iff_ne]; omega
      have e2 : ((k : Int) == (Wd : Int)) = false := by rw [beq_eq_false_iff_ne]; omega
      have e4 : ¬ a = b := hab
      have e5 : ¬ k = Wd := by omega
      have hkWi : (k : Int) < (Wd : Int) := by omega
      have HIH := Lib.hid ih
      have HN := Lib.hid hN
      obtain ⟨gv, gw, av, ws, hcell, _⟩ := (HH.out.keep hb).row k (by rw [HWe.out]; exact hkW)
      have hk1 : IntKind.i64.wrap ((k : Int) + 1) = ((k + 1 : Nat) : Int) := by rw [IntWalk.i64_in _ (by omega)]; omega
      have hp22 : (2 : Int) ^ k ≤ 4194304 := pow_24 (by omega)
      have hyw : IntKind.i64.wrap (q * 2) = q * 2 := IntWalk.i64_in _ (by omega)
      have hq4 : q ≤ 16777216 := by omega
      have HP0 : Hid (PairsOf (fltL V A Z n (Wd - (k + 1)) (2 * q + ((0 : Nat) : Int))) D) := Lib.hid (by
        rw [show 2 * q + ((0 : Nat) : Int) = 2 * q by omega, fltL_half, ← hsub]
        exact hP)
      have HDn : Hid (∀ (W' : World), Below w0.heap.size w0 W' → ∀ (x : Nat) (c : Int), x ≤ n → c = 0 ∨ c = 1 → Calls Try.prog 39 #[.pointer (some ⟨gv, 0, none⟩), .int .i64 (x : Int), .int .i64 c] W' fun e w' => e = .returned (.int .i64 ((dnB (levBit V n Wd k) n c x : Nat) : Int)) ∧ W' = w') := Lib.hid fun W' hW' x c hx hc => by
        obtain ⟨gv', gw', av', ws', hcell', hvc⟩ := (HH.out.keep hW').row k (by rw [HWe.out]; exact hkW)
        have he : W'.cell? ⟨gl, k, none⟩ = W.cell? ⟨gl, k, none⟩ := (hW'.cell (p := ⟨gl, k, none⟩) HH.out.lo.2.2).trans (hb.cell (p := ⟨gl, k, none⟩) HH.out.lo.2.2).symm
        rw [he, hcell] at hcell'
        injection hcell' with h1
        injection h1 with h1
        injection h1 with h1
        injection h1 with h1
        subst h1
        rw [HWe.out] at hvc
        exact down_any hvc x c hx hc
      have HE : Hid (fltL V A Z n (Wd - (k + 1)) (2 * q + ((2 : Nat) : Int)) = fltL V A Z n (Wd - k) (q + 1)) := Lib.hid (by
        rw [show 2 * q + ((2 : Nat) : Int) = 2 * (q + 1) by omega, fltL_half, ← hsub])
      have HQ : Hid (q < 2 ^ k) := Lib.hid hq1
      clear hv hb hN hP ih hq1 hp22 hsub
      go_enter Try.func31, Try.ntmps31
      go_wp2_with fail
      go_loopw [1, 41] (fun s t wr => ∃ (i : Nat) (D' : List (Int × Nat)), i ≤ 2 ∧ t = .int .i64 (i : Int) ∧ Hid (wr.ownsRow w0.heap.size 39 2 s D'.length (prcells D')) ∧ Hid (PairsOf (fltL V A Z n (Wd - (k + 1)) (2 * q + (i : Int))) D') ∧ Hid (Below w0.heap.size w0 wr)) (fun _ t _ => 2 - (intOf t).toNat)
      case atStart => exact ⟨0, D, by omega, rfl, HV, HP0, HB⟩
      case round =>
        clear HV HP0 HB
        obtain ⟨i, D', hi, rfl, hV, hP, hB⟩ := hrel
        by_cases hlt : i < 2
        · have hlti : (i : Int) < 2 := by omega
          have hi2 : (i : Int) = 0 ∨ (i : Int) = 1 := by omega
          have HD1 := Lib.hid (HDn.out _ hB.out a (i : Int) (by omega) hi2)
          have HD2 := Lib.hid (HDn.out _ hB.out b (i : Int) hrm hi2)
          have hor := or_bit hq0 hq4 hi2
          have hN2 := HN.out.step2 hkW hAZ hi2
          have hpu := pow_up q (i : Int) k ⟨hq0, HQ.out⟩ hi2
          have HRec := Lib.hid (HIH.out (k + 1) (by omega) _ _ D' (2 * q + (i : Int)) _ _ hB.out hV.out hN2 hpu.1 hpu.2 hP.out)
          obtain ⟨y, hy⟩ : ∃ y, 2 * q + (i : Int) = y := ⟨_, rfl⟩
          have HY : Hid (y + 1 = 2 * q + ((i + 1 : Nat) : Int)) := Lib.hid (by omega)
          rw [hy] at hor HRec
          rw [show ((k + 1 : Nat) : Int) = (k : Int) + 1 by omega] at HRec
          have i1 : IntKind.i64.wrap ((i : Int) + 1) = ((i + 1 : Nat) : Int) := by rw [IntWalk.i64_in _ (by omega)]; omega
          clear hy hN2 hpu hV hP hB
          generalize dnB (levBit V n Wd k) n (i : Int) a = a2 at HD1 HRec
          generalize dnB (levBit V n Wd k) n (i : Int) b = b2 at HD2 HRec
          go_wp2_with (first
            | (go_at_call 39; (with_reducible refine HD1.out.mono ?_); rintro e w' ⟨rfl, rfl⟩)
            | (go_at_call 39; (with_reducible refine HD2.out.mono ?_); rintro e w' ⟨rfl, rfl⟩)
            | (go_at_call 31; (with_reducible refine HRec.out.mono ?_); rintro e w5 ⟨v5, D5, rfl, hV5, hP5, hB5⟩))
          go_roundw
          case rel => exact ⟨i + 1, D5, by omega, by go_num, Lib.hid hV5, Lib.hid (by rw [← HY.out]; exact hP5), Lib.hid hB5⟩
          case measure => simp [intOf]; omega
        · obtain rfl : i = 2 := by omega
          have hge : ¬ ((2 : Nat) : Int) < 2 := by omega
          go_wp2_with fail
          go_ret
          exact ⟨_, D', rfl, hV.out, by rw [← HE.out]; exact hP.out, hB.out⟩

set_option maxRecDepth 100000 in
theorem wvDistinct_any (h : Mx w0 B g gl cl n V m) (a b : Int) :
    Calls Try.prog 17 #[.pointer (some ⟨g, 0, none⟩), .int .i64 a, .int .i64 b] w0 fun e w' => (∃ (A : Option Addr) (c : Nat) (D : List (Int × Nat)), e = .returned (.slice A D.length c) ∧ PairsOf (partL V a b n) D ∧ PrsR w' A D) ∧ Below w0.heap.size w0 w' := by
  have HWi := Lib.hid (wvWithin_of _ a b w0 (wvLen_any h))
  have hBn := Pl.clamp_le n b
  have hAB := Pl.clamp_le (Pl.clamp n b) a
  have hpt := clamp_part V a b n n (Nat.le_refl _)
  have hf := h.few
  generalize Pl.clamp (Pl.clamp n b) a = A0 at hAB HWi hpt
  generalize Pl.clamp n b = B0 at hAB hBn HWi hpt
  have hst := fltL_start (A := A0) (B := B0) h.room
  have HG := Lib.hid (wvGather_any h A0 B0 hAB hBn (widthN m) 0 (Nat.zero_add _) w0 (.slice none 0 0) [] 0 A0 B0 (Below.refl _ _) (World.ownsRow_nil _ _ _ _) (Nar.start hAB hBn h.room) (Int.le_refl _) (by decide) (by
    rw [Nat.sub_zero, hst.1]
    exact PairsOf.none))
  rw [Nat.sub_zero, hst.2, ← hpt, show ((0 : Nat) : Int) = 0 from rfl] at HG
  have HPt : Hid ((partL V a b n).length ≤ n) := Lib.hid (partL_le _ _ _ _)
  clear h hst hpt
  go_enter Try.func17, Try.ntmps17
  go_wp2_with (first
    | (go_at_call 30; (with_reducible refine HWi.out.mono ?_); rintro e w' ⟨rfl, rfl⟩)
    | (go_at_call 31; (with_reducible refine HG.out.mono ?_); rintro e w5 ⟨v5, D5, rfl, hV5, hP5, hB5⟩))
  have hlen := hP5.short
  have hless := hP5.less
  obtain ⟨A5, c5, rfl, hPr⟩ := PrsR.of_own hV5 (by have := HPt.out; omega) (fun d hd => by have := hless d hd; have := HPt.out; omega)
  have HPr := Lib.hid hPr
  have HP5 := Lib.hid hP5
  have HB5 := Lib.hid hB5
  clear hlen hless hPr hP5 hV5 hB5
  go_wp2_with fail
  go_ret
  exact ⟨⟨A5, c5, D5, rfl, HP5.out, HPr.out⟩, HB5.out⟩
set_option maxRecDepth 100000 in
theorem wvDistinct_nil (a b : Int) (w : World) : Calls Try.prog 17 #[.pointer none, .int .i64 a, .int .i64 b] w fun e w' => (∃ (A : Option Addr) (c : Nat), e = .returned (.slice A 0 c)) ∧ Below w.heap.size w w' := by
  have hW := wvWithin_of (n := 0) (.pointer none) a b w (wvLen_nil w)
  rw [show Pl.clamp 0 b = 0 by unfold Pl.clamp; omega, show Pl.clamp 0 a = 0 by unfold Pl.clamp; omega, show ((0 : Nat) : Int) = 0 from rfl] at hW
  have HW := Lib.hid hW
  have HG : Hid (Calls Try.prog 31 #[.pointer none, .slice none 0 0, .int .i64 0, .int .i64 0, .int .i64 0, .int .i64 0] w fun e w' => e = .returned (.slice none 0 0) ∧ w = w') := Lib.hid (by
    go_enter Try.func31, Try.ntmps31
    go_wp2_with fail
    go_ret
    exact ⟨rfl, rfl⟩)
  clear hW
  go_enter Try.func17, Try.ntmps17
  go_wp2_with (first
    | (go_at_call 30; (with_reducible refine HW.out.mono ?_); rintro e w' ⟨rfl, rfl⟩)
    | (go_at_call 31; (with_reducible refine HG.out.mono ?_); rintro e w' ⟨rfl, rfl⟩))
  go_ret
  exact ⟨⟨none, 0, rfl⟩, Below.refl _ _⟩
end
end Go.Proofs.Ythbnojhcmfhnhaa
