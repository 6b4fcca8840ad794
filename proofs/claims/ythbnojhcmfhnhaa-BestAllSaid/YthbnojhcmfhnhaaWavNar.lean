/- The row of a level out of the one ahead of it, by putting those with 0 first: plain: no program is named here. Ranges of a row: how long, how many less, how many alike: plain: no program is named here. Narrowing a range of a wavelet matrix level by level: what stands in it: plain: no program is named here. A row parted by a bit in place, those with a one laid aside: plain: no program is named here. -/
import Derived.Test.YthbnojhcmfhnhaaBwDevM
import Derived.Test.YthbnojhcmfhnhaaWavMath
namespace Go.Proofs.Ythbnojhcmfhnhaa
open Pl (cnt cnt_succ cnt_congr)

/-- a bit of a number. -/
def bitZ (x : Int) (b : Nat) : Int := x / 2 ^ b % 2
theorem bitZ_or (x : Int) (b : Nat) : bitZ x b = 0 ∨ bitZ x b = 1 := by unfold bitZ; omega
/-- a bit as a byte. -/
def bitN (x : Int) (b : Nat) : Nat := (bitZ x b).toNat
theorem bitN_int (x : Int) (b : Nat) : ((bitN x b : Nat) : Int) = bitZ x b := by
  unfold bitN
  have := bitZ_or x b
  omega
theorem bitN_lt (x : Int) (b : Nat) : bitN x b < 2 := by
  unfold bitN
  have := bitZ_or x b
  omega
open Classical in
/-- the row of the next level: by the bit alone, those with 0 first. -/
noncomputable def rowNext (R : Nat → Int) (n b : Nat) (p : Nat) : Int := if h : ∃ j, j < n ∧ stepI (fun j => bitZ (R j) b) n j = p then R h.choose else 0
theorem rowNext_at {R : Nat → Int} {n b j : Nat} (hj : j < n) : rowNext R n b (stepI (fun j => bitZ (R j) b) n j) = R j := by
  have h : ∃ j', j' < n ∧ stepI (fun j => bitZ (R j) b) n j' = stepI (fun j => bitZ (R j) b) n j := ⟨j, hj, rfl⟩
  unfold rowNext
  rw [dif_pos h]
  have h2 := h.choose_spec
  rw [stepI_inj h2.1 hj h2.2]
theorem rowNext_is {R : Nat → Int} {n b p : Nat} (hp : p < n) : ∃ j, j < n ∧ stepI (fun j => bitZ (R j) b) n j = p ∧ rowNext R n b p = R j := by
  obtain ⟨j, hj, e⟩ := stepI_onto (V := fun j => bitZ (R j) b) hp
  exact ⟨j, hj, e, by rw [← e]; exact rowNext_at hj⟩
/-- the row of level k, of a matrix of W levels. -/
noncomputable def levRow (V : Nat → Int) (n W : Nat) : Nat → Nat → Int
  | 0 => V
  | k + 1 => rowNext (levRow V n W k) n (W - 1 - k)
/-- the bits of level k. -/
noncomputable def levBit (V : Nat → Int) (n W k i : Nat) : Bool := decide (bitZ (levRow V n W k i) (W - 1 - k) = 1)
theorem levRow_room {V : Nat → Int} {n W : Nat} {lo hi : Int} (h : ∀ i, i < n → lo ≤ V i ∧ V i ≤ hi) : ∀ k i, i < n → lo ≤ levRow V n W k i ∧ levRow V n W k i ≤ hi
  | 0, i, hi' => h i hi'
  | k + 1, i, hi' => by
    obtain ⟨j, hj, _, e⟩ := rowNext_is (R := levRow V n W k) (b := W - 1 - k) hi'
    show lo ≤ rowNext (levRow V n W k) n (W - 1 - k) i ∧ rowNext (levRow V n W k) n (W - 1 - k) i ≤ hi
    rw [e]
    exact levRow_room h k j hj
/-- those with a bit less than c, and of those with c the ones ahead of i, are put in. -/
structure NxtIn (R : Nat → Int) (n b : Nat) (c : Int) (i : Nat) (m : Nat) (U : Nat → Int) : Prop where
  many : m = belowI (fun j => bitZ (R j) b) n c + aheadI (fun j => bitZ (R j) b) i c
  put : ∀ j, j < n → bitZ (R j) b < c ∨ (bitZ (R j) b = c ∧ j < i) → U (stepI (fun j => bitZ (R j) b) n j) = R j
theorem NxtIn.start (R : Nat → Int) (n b : Nat) (U : Nat → Int) : NxtIn R n b 0 0 0 U := by
  refine ⟨?_, fun j _ h => ?_⟩
  · have h0 : belowI (fun j => bitZ (R j) b) n 0 = 0 := Pl.cnt_zero fun j _ => decide_eq_false (by
      have := bitZ_or (R j) b
      show ¬ bitZ (R j) b < 0
      omega)
    rw [h0]
    rfl
  · have := bitZ_or (R j) b
    rcases h with h | h
    · omega
    · omega
theorem NxtIn.hit {R : Nat → Int} {n b i m : Nat} {c : Int} {U : Nat → Int} (h : NxtIn R n b c i m U) (hi : i < n) (hb : bitZ (R i) b = c) {U' : Nat → Int} (h1 : ∀ k, k ≠ m → U' k = U k) (h2 : U' m = R i) : NxtIn R n b c (i + 1) (m + 1) U' := by
  have hs : stepI (fun j => bitZ (R j) b) n i = m := by
    rw [h.many]
    show belowI (fun j => bitZ (R j) b) n (bitZ (R i) b) + aheadI (fun j => bitZ (R j) b) i (bitZ (R i) b) = _
    rw [hb]
  refine ⟨?_, fun j hj hc => ?_⟩
  · rw [aheadI_succ, if_pos hb, h.many, Nat.add_assoc]
  · by_cases e : j = i
    · rw [e, hs, h2]
    · rw [h1 _ (fun g => e (stepI_inj hj hi (g.trans hs.symm)))]
      exact h.put j hj (hc.imp id (fun g => ⟨g.1, by omega⟩))
theorem NxtIn.miss {R : Nat → Int} {n b i m : Nat} {c : Int} {U : Nat → Int} (h : NxtIn R n b c i m U) (hb : bitZ (R i) b ≠ c) : NxtIn R n b c (i + 1) m U := by
  refine ⟨?_, fun j hj hc => h.put j hj (hc.imp id (fun g => ⟨g.1, ?_⟩))⟩
  · rw [aheadI_succ, if_neg hb, Nat.add_zero]
    exact h.many
  · by_cases e : j = i
    · rw [e] at g
      exact absurd g.1 hb
    · omega
theorem NxtIn.next {R : Nat → Int} {n b m : Nat} {c : Int} {U : Nat → Int} (h : NxtIn R n b c n m U) : NxtIn R n b (c + 1) 0 m U := by
  refine ⟨?_, fun j hj hc => h.put j hj ?_⟩
  · rw [h.many]
    show _ = belowI _ n (c + 1) + 0
    rw [Nat.add_zero]
    unfold belowI aheadI
    rw [← cnt_or (fun j => decide (bitZ (R j) b < c)) (fun j => decide (bitZ (R j) b = c)) n (fun j _ h => by
      rw [decide_eq_true_iff, decide_eq_true_iff] at h
      have h1 : bitZ (R j) b < c := h.1
      omega)]
    refine cnt_congr fun j _ => ?_
    rw [Bool.eq_iff_iff, Bool.or_eq_true, decide_eq_true_iff, decide_eq_true_iff, decide_eq_true_iff]
    show bitZ (R j) b < c ∨ bitZ (R j) b = c ↔ bitZ (R j) b < c + 1
    omega
  · rcases hc with g | g
    · by_cases e : bitZ (R j) b < c
      · exact .inl e
      · exact .inr ⟨by omega, hj⟩
    · omega
theorem NxtIn.done {R : Nat → Int} {n b m : Nat} {U : Nat → Int} (h : NxtIn R n b 2 0 m U) : m = n ∧ ∀ p, p < n → U p = rowNext R n b p := by
  constructor
  · rw [h.many, belowI_all (fun i _ => by have := bitZ_or (R i) b; show bitZ (R i) b < 2; omega)]
    rfl
  · intro p hp
    obtain ⟨j, hj, e, e2⟩ := rowNext_is (R := R) (b := b) hp
    rw [e2, ← e]
    exact h.put j hj (.inl (by have := bitZ_or (R j) b; omega))
theorem NxtIn.le {R : Nat → Int} {n b m i : Nat} {c : Int} {U : Nat → Int} (h : NxtIn R n b c i m U) (hi : i ≤ n) : m ≤ 2 * n := by
  rw [h.many]
  have h1 := belowI_le (fun j => bitZ (R j) b) n c
  have h2 := aheadI_le (fun j => bitZ (R j) b) i c
  omega
end Go.Proofs.Ythbnojhcmfhnhaa

namespace Go.Proofs.Ythbnojhcmfhnhaa
open Pl (cnt cnt_succ cnt_congr cnt_mono cnt_at_lt)

theorem cnt_imp {f g : Nat → Bool} : ∀ {n : Nat}, (∀ j, j < n → f j = true → g j = true) → cnt f n ≤ cnt g n
  | 0, _ => Nat.le_refl _
  | n + 1, h => by
    have ih := cnt_imp (n := n) (f := f) (g := g) (fun j hj => h j (by omega))
    have h0 := h n (Nat.lt_succ_self n)
    rw [cnt_succ, cnt_succ]
    cases hf : f n with
    | false =>
      rw [if_neg (by simp)]
      omega
    | true =>
      rw [if_pos rfl, if_pos (h0 hf)]
      omega
theorem cnt_parts {f g h : Nat → Bool} : ∀ {n : Nat}, (∀ j, j < n → f j = (g j || h j) ∧ (g j = true → h j = false)) → cnt f n = cnt g n + cnt h n
  | 0, _ => rfl
  | n + 1, hh => by
    have ih := cnt_parts (n := n) (f := f) (g := g) (h := h) (fun j hj => hh j (by omega))
    obtain ⟨h1, h2⟩ := hh n (Nat.lt_succ_self n)
    rw [cnt_succ, cnt_succ, cnt_succ, ih, h1]
    cases hg : g n with
    | true => rw [h2 hg]; simp; omega
    | false => cases h n <;> simp <;> omega
theorem lessR_mono {V : Nat → Int} {a b c c' : Int} {n : Nat} (h : c ≤ c') : lessR V a b c n ≤ lessR V a b c' n :=
  cnt_imp fun j _ hj => by
    rw [Bool.and_eq_true, decide_eq_true_iff, decide_eq_true_iff] at hj ⊢
    exact ⟨hj.1, by omega⟩
theorem lessR_parts {V : Nat → Int} {x y z c : Int} {n : Nat} (h1 : x ≤ y) (h2 : y ≤ z) : lessR V x z c n = lessR V x y c n + lessR V y z c n :=
  cnt_parts fun j _ => by
    constructor
    · rw [← Bool.and_or_distrib_right]
      congr 1
      rw [Bool.eq_iff_iff, Bool.or_eq_true, decide_eq_true_iff, decide_eq_true_iff, decide_eq_true_iff]
      omega
    · intro h
      rw [Bool.and_eq_true, decide_eq_true_iff] at h
      rw [decide_eq_false (by omega), Bool.false_and]
theorem partL_len {V : Nat → Int} {p q : Nat} (hpq : p ≤ q) : ∀ {n : Nat}, (partL V (p : Int) (q : Int) n).length = Nat.min n q - Nat.min n p
  | 0 => by
    show 0 = Nat.min 0 q - Nat.min 0 p
    rw [show Nat.min 0 q = 0 from Nat.min_eq_left (Nat.zero_le _)]
    omega
  | n + 1 => by
    have ih := partL_len (V := V) hpq (n := n)
    have e1 : ∀ a b : Nat, (a ≤ b → Nat.min a b = a) ∧ (b ≤ a → Nat.min a b = b) := fun a b => ⟨Nat.min_eq_left, Nat.min_eq_right⟩
    by_cases h : (p : Int) ≤ (n : Int) ∧ (n : Int) < (q : Int)
    · rw [partL_hit h, List.length_append, ih, (e1 n q).1 (by omega), (e1 n p).2 (by omega), (e1 (n + 1) q).1 (by omega), (e1 (n + 1) p).2 (by omega)]
      show n - p + 1 = _
      omega
    · rw [partL_miss h, ih]
      by_cases hn : n < p
      · rw [(e1 n q).1 (by omega), (e1 n p).1 (by omega), (e1 (n + 1) q).1 (by omega), (e1 (n + 1) p).1 (by omega)]
        omega
      · rw [(e1 n q).2 (by omega), (e1 n p).2 (by omega), (e1 (n + 1) q).2 (by omega), (e1 (n + 1) p).2 (by omega)]
theorem partL_count {V : Nat → Int} {p q n : Nat} (hpq : p ≤ q) (hq : q ≤ n) : (partL V (p : Int) (q : Int) n).length = q - p := by
  rw [partL_len hpq, show Nat.min n q = q from Nat.min_eq_right hq, show Nat.min n p = p from Nat.min_eq_right (by omega)]
theorem lessR_all {V : Nat → Int} {a b c : Int} {n : Nat} (h : ∀ i, i < n → V i < c) : lessR V a b c n = (partL V a b n).length := by
  rw [← lessR_part, List.countP_eq_length]
  intro x hx
  obtain ⟨j, h1, _, _, h4⟩ := mem_partL.1 hx
  rw [decide_eq_true_iff, ← h4]
  exact h j h1
theorem cntR_past {V : Nat → Int} {d a b : Int} {m : Nat} (hm : b ≤ (m : Int)) : ∀ k, cntR V d a b (m + k) = cntR V d a b m
  | 0 => rfl
  | k + 1 => by
    rw [← Nat.add_assoc, cntR_miss (fun h => by omega)]
    exact cntR_past hm k
theorem cntR_upto {V : Nat → Int} {d : Int} {p n : Nat} (hp : p ≤ n) : cntR V d 0 (p : Int) n = cnt (fun j => decide (V j = d)) p := by
  obtain ⟨k, rfl⟩ : ∃ k, n = p + k := ⟨n - p, by omega⟩
  rw [cntR_past (Int.le_refl _) k]
  unfold cntR
  refine cnt_congr fun j hj => decide_eq_decide.2 ⟨fun h => h.1, fun h => ⟨h, by omega, by omega⟩⟩
theorem cntR_more {V : Nat → Int} {x : Int} {p q j n : Nat} (h1 : p ≤ j) (h2 : j < q) (hq : q ≤ n) (hx : V j = x) : cntR V x 0 (p : Int) n < cntR V x 0 (q : Int) n := by
  rw [cntR_upto (by omega), cntR_upto hq]
  exact Nat.lt_of_le_of_lt (cnt_mono _ h1) (cnt_at_lt h2 (decide_eq_true hx))
/-- how many of a range: as many ahead of its end less those ahead of its beginning. -/
theorem cntR_diff {V : Nat → Int} {d : Int} {p q n : Nat} (hpq : p ≤ q) : cntR V d 0 (q : Int) n = cntR V d 0 (p : Int) n + cntR V d (p : Int) (q : Int) n := by
  unfold cntR
  refine cnt_parts fun j _ => ⟨?_, fun h => ?_⟩
  · rw [Bool.eq_iff_iff, Bool.or_eq_true, decide_eq_true_iff, decide_eq_true_iff, decide_eq_true_iff]
    omega
  · rw [decide_eq_true_iff] at h
    exact decide_eq_false (by omega)
theorem cntR_le_n {V : Nat → Int} {d a b : Int} {n : Nat} : cntR V d a b n ≤ n := cntR_le _ _ _ _ _
/-- the only one of a range of one. -/
theorem quantI_one {V : Nat → Int} {n i : Nat} (hi : i < n) : quantI V n (i : Int) ((i : Int) + 1) 0 = V i := by
  have e : ((i : Int) + 1) = ((i + 1 : Nat) : Int) := by omega
  have hl : (partL V (i : Int) ((i + 1 : Nat) : Int) n).length = 1 := by rw [partL_count (by omega) (by omega)]; omega
  rw [e]
  obtain ⟨v, h1, h2, _⟩ := quantI_is (V := V) (n := n) (a := (i : Int)) (b := ((i + 1 : Nat) : Int)) (k := 0) (by rw [hl]; exact Nat.one_pos)
  have h1 : quantI V n (i : Int) ((i + 1 : Nat) : Int) 0 = v := h1
  rw [h1]
  obtain ⟨j, _, h4, h5, h6⟩ := mem_partL.1 h2
  obtain rfl : j = i := by omega
  exact h6.symm
/-- numbers put in order, one behind the other: k behind k - 1. -/
theorem quant_rise {V : Nat → Int} {n : Nat} {a b l x : Int} {k : Nat} (h1 : lessR V a b l n ≤ k) (h2 : k < lessR V a b (l + 1) n) (h3 : lessR V a b x n ≤ k + 1) (h4 : k + 1 < lessR V a b (x + 1) n) :
    l ≤ x ∧ (l < x → lessR V a b x n = k + 1) := by
  constructor
  · apply Int.le_of_not_gt
    intro h
    have := lessR_mono (V := V) (a := a) (b := b) (n := n) (show x + 1 ≤ l by omega)
    omega
  · intro h
    have := lessR_mono (V := V) (a := a) (b := b) (n := n) (show l + 1 ≤ x by omega)
    omega
end Go.Proofs.Ythbnojhcmfhnhaa

namespace Go.Proofs.Ythbnojhcmfhnhaa
open Pl (cnt cnt_succ cnt_congr cnt_mono cnt_le)

/-- the place of the c of number k; -1: none. -/
def selW (V : Nat → Int) (n : Nat) (c k : Int) : Int := Pl.sel (fun j => decide (V j = c)) n k
/-- how many from a on, ahead of b. -/
def seg (f : Nat → Bool) (a b : Nat) : Nat := cnt f b - cnt f a
theorem seg_congr {f g : Nat → Bool} {a b : Nat} (h : ∀ j, j < b → f j = g j) (hab : a ≤ b) : seg f a b = seg g a b := by
  unfold seg
  rw [cnt_congr h, cnt_congr (fun j hj => h j (by omega))]
theorem seg_all {f : Nat → Bool} {a b : Nat} (h : ∀ j, j < b → f j = true) (hab : a ≤ b) : seg f a b = b - a := by
  have e : ∀ m, m ≤ b → cnt f m = m := by
    intro m
    induction m with
    | zero => intro _; rfl
    | succ m ih =>
      intro hm
      rw [cnt_succ, ih (by omega), if_pos (h m (by omega))]
  unfold seg
  rw [e b (Nat.le_refl _), e a hab]
theorem seg_le (f : Nat → Bool) {a b : Nat} (hab : a ≤ b) : seg f a b ≤ b - a := by
  obtain ⟨k, rfl⟩ : ∃ k, b = a + k := ⟨b - a, by omega⟩
  unfold seg
  rw [Pl.cnt_add]
  have := cnt_le (fun j => f (a + j)) k
  omega
theorem seg_split (f g : Nat → Bool) (a b : Nat) (hab : a ≤ b) : seg f a b = seg (fun j => f j && g j) a b + seg (fun j => f j && !g j) a b := by
  have e : ∀ m, cnt f m = cnt (fun j => f j && g j) m + cnt (fun j => f j && !g j) m := fun m => cnt_parts fun j _ => by
    cases f j <;> cases g j <;> simp
  have h1 := cnt_mono (fun j => f j && g j) hab
  have h2 := cnt_mono (fun j => f j && !g j) hab
  unfold seg
  rw [e b, e a]
  omega
/-- a range's numbers, counted so. -/
theorem seg_range (P : Nat → Bool) {a b n : Nat} (hab : a ≤ b) (hb : b ≤ n) : cnt (fun j => decide ((a : Int) ≤ (j : Int) ∧ (j : Int) < (b : Int)) && P j) n = seg P a b := by
  have h1 : cnt (fun j => decide ((a : Int) ≤ (j : Int) ∧ (j : Int) < (b : Int)) && P j) n = cnt (fun j => decide ((a : Int) ≤ (j : Int) ∧ (j : Int) < (b : Int)) && P j) b := by
    obtain ⟨k, rfl⟩ : ∃ k, n = b + k := ⟨n - b, by omega⟩
    rw [Pl.cnt_add, Pl.cnt_zero (n := k) (fun j _ => by
      show (decide _ && _) = false
      rw [decide_eq_false (by omega), Bool.false_and]), Nat.add_zero]
  rw [h1]
  obtain ⟨k, rfl⟩ : ∃ k, b = a + k := ⟨b - a, by omega⟩
  unfold seg
  rw [Pl.cnt_add, Pl.cnt_add P, Pl.cnt_zero (n := a) (fun j hj => by
    show (decide _ && _) = false
    rw [decide_eq_false (by omega), Bool.false_and]), Nat.zero_add, Nat.add_sub_cancel_left]
  exact cnt_congr fun j hj => by
    show (decide _ && _) = _
    rw [decide_eq_true (by omega), Bool.true_and]

/-- where the place i goes, of those with the bit c. -/
def down (R : Nat → Int) (n b : Nat) (c : Int) (i : Nat) : Nat := belowI (fun j => bitZ (R j) b) n c + aheadI (fun j => bitZ (R j) b) i c
theorem down_hit {R : Nat → Int} {n b i : Nat} {c : Int} (hi : i < n) (h : bitZ (R i) b = c) : down R n b c (i + 1) = down R n b c i + 1 ∧ rowNext R n b (down R n b c i) = R i := by
  constructor
  · unfold down
    rw [aheadI_succ, if_pos h, Nat.add_assoc]
  · have e : down R n b c i = stepI (fun j => bitZ (R j) b) n i := by
      show _ = belowI (fun j => bitZ (R j) b) n (bitZ (R i) b) + aheadI (fun j => bitZ (R j) b) i (bitZ (R i) b)
      rw [h]
      rfl
    rw [e]
    exact rowNext_at hi
theorem down_miss {R : Nat → Int} {n b i : Nat} {c : Int} (h : bitZ (R i) b ≠ c) : down R n b c (i + 1) = down R n b c i := by
  unfold down
  rw [aheadI_succ, if_neg h, Nat.add_zero]
theorem down_mono {R : Nat → Int} {n b : Nat} {c : Int} {i j : Nat} (h : i ≤ j) : down R n b c i ≤ down R n b c j := Nat.add_le_add_left (cnt_mono _ h) _
/-- ones and noughts ahead of a place. -/
theorem ones_zeros (R : Nat → Int) (b i : Nat) : aheadI (fun j => bitZ (R j) b) i 0 + aheadI (fun j => bitZ (R j) b) i 1 = i := by
  have h := Pl.cnt_not (fun j => decide (bitZ (R j) b = 0)) i
  have e : cnt (fun j => !decide (bitZ (R j) b = 0)) i = aheadI (fun j => bitZ (R j) b) i 1 := cnt_congr fun j _ => by
    rw [← decide_not]
    refine decide_eq_decide.2 ?_
    show ¬ bitZ (R j) b = 0 ↔ bitZ (R j) b = 1
    have := bitZ_or (R j) b
    omega
  rw [e] at h
  exact h
theorem below_zero (R : Nat → Int) (n b : Nat) : belowI (fun j => bitZ (R j) b) n 0 = 0 := Pl.cnt_zero fun j _ => decide_eq_false (by
  have := bitZ_or (R j) b
  show ¬ bitZ (R j) b < 0
  omega)
theorem below_one (R : Nat → Int) (n b : Nat) : belowI (fun j => bitZ (R j) b) n 1 = aheadI (fun j => bitZ (R j) b) n 0 := cnt_congr fun j _ => decide_eq_decide.2 (by
  show bitZ (R j) b < 1 ↔ bitZ (R j) b = 0
  have := bitZ_or (R j) b
  omega)
theorem down_zero (R : Nat → Int) (n b i : Nat) : down R n b 0 i = aheadI (fun j => bitZ (R j) b) i 0 := by
  unfold down
  rw [below_zero, Nat.zero_add]
theorem down_one (R : Nat → Int) (n b i : Nat) : down R n b 1 i = aheadI (fun j => bitZ (R j) b) n 0 + aheadI (fun j => bitZ (R j) b) i 1 := by
  unfold down
  rw [below_one]
theorem down_le {R : Nat → Int} {n b i : Nat} {c : Int} (hc : c = 0 ∨ c = 1) (hi : i ≤ n) : down R n b c i ≤ n := by
  have h1 := ones_zeros R b n
  have h2 := cnt_mono (fun j => decide (bitZ (R j) b = c)) hi
  have h2 : aheadI (fun j => bitZ (R j) b) i c ≤ aheadI (fun j => bitZ (R j) b) n c := h2
  rcases hc with rfl | rfl
  · rw [down_zero]; omega
  · rw [down_one]; omega
/-- those with the bit c, in their order, stand side by side on the next level. -/
theorem down_cnt (R : Nat → Int) (n b : Nat) (c : Int) (P : Int → Bool) : ∀ i, i ≤ n →
    cnt (fun p => P (rowNext R n b p)) (down R n b c i) = cnt (fun p => P (rowNext R n b p)) (down R n b c 0) + cnt (fun j => decide (bitZ (R j) b = c) && P (R j)) i
  | 0, _ => rfl
  | i + 1, hi => by
    have ih := down_cnt R n b c P i (by omega)
    by_cases h : bitZ (R i) b = c
    · obtain ⟨h1, h2⟩ := down_hit (n := n) (show i < n by omega) h
      rw [h1, cnt_succ, cnt_succ, h2, ih, decide_eq_true h, Bool.true_and, Nat.add_assoc]
    · rw [down_miss h, cnt_succ, ih, decide_eq_false h, Bool.false_and]
      rfl
theorem down_seg (R : Nat → Int) (n b : Nat) (c : Int) (P : Int → Bool) {i j : Nat} (hij : i ≤ j) (hj : j ≤ n) :
    seg (fun p => P (rowNext R n b p)) (down R n b c i) (down R n b c j) = seg (fun p => decide (bitZ (R p) b = c) && P (R p)) i j := by
  have h1 := down_cnt R n b c P i (by omega)
  have h2 := down_cnt R n b c P j hj
  have h3 := cnt_mono (fun j => decide (bitZ (R j) b = c) && P (R j)) hij
  unfold seg
  rw [h1, h2]
  omega

/-- the range [a, b) of level k holds those of [A, B) whose first k bits are q. -/
structure Nar (V : Nat → Int) (n W k A B : Nat) (q : Int) (a b : Nat) : Prop where
  le : a ≤ b
  room : b ≤ n
  many : ∀ P : Int → Bool, seg (fun j => decide (V j / 2 ^ (W - k) = q) && P (V j)) A B = seg (fun p => P (levRow V n W k p)) a b
theorem half_bit (x : Int) (b : Nat) : x / 2 ^ b = 2 * (x / 2 ^ (b + 1)) + bitZ x b := by
  unfold bitZ
  have e : (2 : Int) ^ (b + 1) = 2 ^ b * 2 := Int.pow_succ 2 b
  rw [e, ← Int.ediv_ediv_of_nonneg (by exact Int.le_of_lt (Int.pow_pos (by decide)))]
  omega
theorem Nar.start {V : Nat → Int} {n W A B : Nat} (hAB : A ≤ B) (hB : B ≤ n) (hV : ∀ i, i < n → 0 ≤ V i ∧ V i < 2 ^ W) : Nar V n W 0 A B 0 A B := by
  refine ⟨hAB, hB, fun P => seg_congr (fun j hj => ?_) hAB⟩
  have := hV j (by omega)
  show (decide _ && P (V j)) = P (V j)
  rw [decide_eq_true (by
    show V j / 2 ^ W = 0
    exact Int.ediv_eq_zero_of_lt this.1 this.2), Bool.true_and]
theorem Nar.step {V : Nat → Int} {n W k A B a b : Nat} {q : Int} (h : Nar V n W k A B q a b) (hk : k < W) (hAB : A ≤ B) {c : Int} (hc : c = 0 ∨ c = 1) :
    Nar V n W (k + 1) A B (2 * q + c) (down (levRow V n W k) n (W - 1 - k) c a) (down (levRow V n W k) n (W - 1 - k) c b) := by
  refine ⟨down_mono h.le, down_le hc h.room, fun P => ?_⟩
  have h1 := h.many (fun x => decide (bitZ x (W - 1 - k) = c) && P x)
  have h2 := down_seg (levRow V n W k) n (W - 1 - k) c P h.le h.room
  show _ = seg (fun p => P (rowNext (levRow V n W k) n (W - 1 - k) p)) _ _
  rw [h2, ← h1]
  refine seg_congr (fun j _ => ?_) hAB
  have e : W - (k + 1) = W - 1 - k := by omega
  have e2 : W - k = (W - 1 - k) + 1 := by omega
  show (decide (V j / 2 ^ (W - (k + 1)) = 2 * q + c) && P (V j)) = (decide (V j / 2 ^ (W - k) = q) && (decide (bitZ (V j) (W - 1 - k) = c) && P (V j)))
  rw [e, e2, half_bit (V j) (W - 1 - k), ← Bool.and_assoc, ← Bool.decide_and]
  congr 1
  refine decide_eq_decide.2 ?_
  have := bitZ_or (V j) (W - 1 - k)
  generalize V j / 2 ^ (W - 1 - k + 1) = u
  omega
/-- how many there are. -/
theorem Nar.size {V : Nat → Int} {n W k A B a b : Nat} {q : Int} (h : Nar V n W k A B q a b) : b - a = seg (fun j => decide (V j / 2 ^ (W - k) = q)) A B := by
  have h1 := h.many (fun _ => true)
  rw [seg_all (fun _ _ => rfl) h.le] at h1
  rw [← h1]
  unfold seg
  congr 1 <;> exact cnt_congr fun j _ => Bool.and_true _
/-- at the last level: those that are q. -/
theorem Nar.last {V : Nat → Int} {n W A B a b : Nat} {q : Int} (h : Nar V n W W A B q a b) : b - a = seg (fun j => decide (V j = q)) A B := by
  rw [h.size, Nat.sub_self]
  unfold seg
  congr 1 <;> exact cnt_congr fun j _ => decide_eq_decide.2 (by rw [Int.pow_zero, Int.ediv_one])
/-- a range's numbers less than c, by the first k bits alone. -/
def lessK (V : Nat → Int) (A B : Nat) (s : Nat) (q : Int) : Nat := seg (fun j => decide (V j / 2 ^ s < q)) A B
theorem Nar.less {V : Nat → Int} {n W k A B a b : Nat} {q : Int} (h : Nar V n W k A B q a b) (hk : k < W) (hAB : A ≤ B) {c : Int} (hc : c = 0 ∨ c = 1) :
    lessK V A B (W - (k + 1)) (2 * q + c) = lessK V A B (W - k) q + (if c = 1 then down (levRow V n W k) n (W - 1 - k) 0 b - down (levRow V n W k) n (W - 1 - k) 0 a else 0) := by
  have hs := (h.step hk hAB (.inl rfl)).size
  rw [hs]
  have e : W - (k + 1) = W - 1 - k := by omega
  have e2 : W - k = (W - 1 - k) + 1 := by omega
  unfold lessK
  rw [e, e2]
  have key : ∀ (P : Nat → Bool), (∀ j, decide (V j / 2 ^ (W - 1 - k) < 2 * q + c) = (decide (V j / 2 ^ (W - 1 - k + 1) < q) || P j) ∧ (decide (V j / 2 ^ (W - 1 - k + 1) < q) = true → P j = false)) → seg (fun j => decide (V j / 2 ^ (W - 1 - k) < 2 * q + c)) A B = seg (fun j => decide (V j / 2 ^ (W - 1 - k + 1) < q)) A B + seg P A B := by
    intro P hP
    have e : ∀ m, cnt (fun j => decide (V j / 2 ^ (W - 1 - k) < 2 * q + c)) m = cnt (fun j => decide (V j / 2 ^ (W - 1 - k + 1) < q)) m + cnt P m := fun m => cnt_parts fun j _ => hP j
    have h1 := cnt_mono (fun j => decide (V j / 2 ^ (W - 1 - k + 1) < q)) hAB
    have h2 := cnt_mono P hAB
    unfold seg
    rw [e B, e A]
    omega
  rcases hc with rfl | rfl
  · rw [if_neg (by decide), key (fun _ => false) (fun j => by
      rw [Bool.or_false]
      refine ⟨decide_eq_decide.2 ?_, fun _ => rfl⟩
      rw [half_bit (V j) (W - 1 - k)]
      have := bitZ_or (V j) (W - 1 - k)
      omega)]
    have h0 : seg (fun _ => false) A B = 0 := by
      unfold seg
      rw [Pl.cnt_zero (fun _ _ => rfl), Nat.zero_sub]
    rw [h0]
  · rw [if_pos rfl, key (fun j => decide (V j / 2 ^ (W - 1 - k) = 2 * q + 0)) (fun j => by
      rw [← Bool.decide_or]
      refine ⟨decide_eq_decide.2 ?_, fun h => decide_eq_false ?_⟩
      · rw [half_bit (V j) (W - 1 - k)]
        have := bitZ_or (V j) (W - 1 - k)
        omega
      · rw [decide_eq_true_iff] at h
        rw [half_bit (V j) (W - 1 - k)]
        have := bitZ_or (V j) (W - 1 - k)
        omega)]

/-- the place on a level of what stands at p on the next one. -/
theorem down_onto {R : Nat → Int} {n b : Nat} {c : Int} {a : Nat} : ∀ {d p : Nat}, a ≤ d → d ≤ n → down R n b c a ≤ p → p < down R n b c d → ∃ i, a ≤ i ∧ i < d ∧ bitZ (R i) b = c ∧ down R n b c i = p
  | 0, p, h1, _, h3, h4 => by
    obtain rfl : a = 0 := by omega
    omega
  | d + 1, p, h1, h2, h3, h4 => by
    by_cases e : a = d + 1
    · subst e
      omega
    · by_cases hb : bitZ (R d) b = c
      · have hd := (down_hit (n := n) (show d < n by omega) hb).1
        by_cases hp : p = down R n b c d
        · exact ⟨d, by omega, Nat.lt_succ_self d, hb, hp.symm⟩
        · obtain ⟨i, g1, g2, g3⟩ := down_onto (d := d) (by omega) (by omega) h3 (by omega)
          exact ⟨i, g1, by omega, g3⟩
      · rw [down_miss hb] at h4
        obtain ⟨i, g1, g2, g3⟩ := down_onto (d := d) (by omega) (by omega) h3 h4
        exact ⟨i, g1, by omega, g3⟩
theorem up_zero {R : Nat → Int} {n b i : Nat} (hi : i < n) (hb : bitZ (R i) b = 0) : Pl.sel (fun j => !decide (bitZ (R j) b = 1)) n ((down R n b 0 i : Nat) : Int) = (i : Int) := by
  rw [down_zero]
  have e : aheadI (fun j => bitZ (R j) b) i 0 = cnt (fun j => !decide (bitZ (R j) b = 1)) i := cnt_congr fun j _ => by
    rw [← decide_not]
    refine decide_eq_decide.2 ?_
    show bitZ (R j) b = 0 ↔ ¬ bitZ (R j) b = 1
    have := bitZ_or (R j) b
    omega
  rw [e]
  exact Pl.sel_in hi (by rw [← decide_not]; exact decide_eq_true (by omega))
theorem up_one {R : Nat → Int} {n b i : Nat} (hi : i < n) (hb : bitZ (R i) b = 1) : Pl.sel (fun j => decide (bitZ (R j) b = 1)) n (((down R n b 1 i : Nat) : Int) - ((down R n b 0 n : Nat) : Int)) = (i : Int) := by
  rw [down_zero, down_one, show (((aheadI (fun j => bitZ (R j) b) n 0 + aheadI (fun j => bitZ (R j) b) i 1 : Nat) : Int) - ((aheadI (fun j => bitZ (R j) b) n 0 : Nat) : Int)) = ((cnt (fun j => decide (bitZ (R j) b = 1)) i : Nat) : Int) by
    show _ = ((aheadI (fun j => bitZ (R j) b) i 1 : Nat) : Int)
    omega]
  exact Pl.sel_in hi (decide_eq_true hb)
/-- the one of number m among those of the range that are x, on level k. -/
structure UpAt (V : Nat → Int) (n W k a : Nat) (x : Int) (m i : Nat) : Prop where
  lo : a ≤ i
  room : i < n
  is_ : levRow V n W k i = x
  many : seg (fun p => decide (levRow V n W k p = x)) a i = m
theorem UpAt.up {V : Nat → Int} {n W k A B a b m p : Nat} {q x c : Int} (h : Nar V n W k A B q a b) (hc : bitZ x (W - 1 - k) = c) (hu : UpAt V n W (k + 1) (down (levRow V n W k) n (W - 1 - k) c a) x m p) (hp : p < down (levRow V n W k) n (W - 1 - k) c b) :
    ∃ i, i < b ∧ bitZ (levRow V n W k i) (W - 1 - k) = c ∧ down (levRow V n W k) n (W - 1 - k) c i = p ∧ UpAt V n W k a x m i := by
  obtain ⟨i, g1, g2, g3, g4⟩ := down_onto h.le h.room hu.lo hp
  have hn : i < n := Nat.lt_of_lt_of_le g2 h.room
  refine ⟨i, g2, g3, g4, g1, hn, ?_, ?_⟩
  · have e := (down_hit hn g3).2
    rw [g4] at e
    exact e.symm.trans hu.is_
  · have e := down_seg (levRow V n W k) n (W - 1 - k) c (fun y => decide (y = x)) g1 (Nat.le_of_lt hn)
    rw [g4] at e
    have e2 := hu.many
    have e3 : seg (fun p => decide (levRow V n W (k + 1) p = x)) (down (levRow V n W k) n (W - 1 - k) c a) p = seg (fun p => decide (bitZ (levRow V n W k p) (W - 1 - k) = c) && decide (levRow V n W k p = x)) a i := e
    rw [e2] at e3
    rw [e3]
    refine seg_congr (fun j _ => ?_) g1
    rw [← Bool.decide_and]
    refine decide_eq_decide.2 ⟨fun g => ⟨by rw [g, hc], g⟩, fun g => g.2⟩
theorem UpAt.done {V : Nat → Int} {n W m i : Nat} {x : Int} (h : UpAt V n W 0 0 x m i) : selW V n x (m : Int) = (i : Int) := by
  have hm : cnt (fun j => decide (V j = x)) i = m := h.many
  unfold selW
  rw [← hm]
  exact Pl.sel_in h.room (decide_eq_true h.is_)
end Go.Proofs.Ythbnojhcmfhnhaa

namespace Go.Proofs.Ythbnojhcmfhnhaa
open Pl (cnt cnt_succ cnt_congr cnt_mono cnt_le)

/-- of the first i numbers, those with 0 stand at the row's beginning, those with 1 in another row. -/
structure PartIn (R : Nat → Int) (n b i z o : Nat) (U Y : Nat → Int) : Prop where
  zeros : z = aheadI (fun j => bitZ (R j) b) i 0
  ones : o = aheadI (fun j => bitZ (R j) b) i 1
  put0 : ∀ j, j < i → bitZ (R j) b = 0 → U (aheadI (fun j => bitZ (R j) b) j 0) = R j
  put1 : ∀ j, j < i → bitZ (R j) b = 1 → Y (aheadI (fun j => bitZ (R j) b) j 1) = R j
  rest : ∀ j, i ≤ j → j < n → U j = R j
theorem PartIn.start (R : Nat → Int) (n b : Nat) (Y : Nat → Int) : PartIn R n b 0 0 0 R Y := ⟨rfl, rfl, fun j h => absurd h (Nat.not_lt_zero j), fun j h => absurd h (Nat.not_lt_zero j), fun _ _ _ => rfl⟩
theorem PartIn.all {R U Y : Nat → Int} {n b i z o : Nat} (h : PartIn R n b i z o U Y) : z + o = i := by
  rw [h.zeros, h.ones]
  exact ones_zeros R b i
theorem ahead_lt {X : Nat → Int} {i j : Nat} {c : Int} (h : j < i) (hc : X j = c) : aheadI X j c < aheadI X i c := Pl.cnt_at_lt (f := fun j => decide (X j = c)) h (decide_eq_true hc)
theorem PartIn.zero {R U Y : Nat → Int} {n b i z o : Nat} (h : PartIn R n b i z o U Y) (hb : bitZ (R i) b = 0) : PartIn R n b (i + 1) (z + 1) o (fun p => if p = z then R i else U p) Y := by
  have hall := h.all
  refine ⟨?_, ?_, fun j hj hjb => ?_, fun j hj hjb => ?_, fun j h1 h2 => ?_⟩
  · rw [aheadI_succ, if_pos hb, h.zeros]
  · rw [aheadI_succ, if_neg (by rw [hb]; decide), h.ones, Nat.add_zero]
  · by_cases e : j = i
    · rw [e]
      exact if_pos h.zeros.symm
    · have hlt : aheadI (fun j => bitZ (R j) b) j 0 < aheadI (fun j => bitZ (R j) b) i 0 := ahead_lt (X := fun j => bitZ (R j) b) (by omega) hjb
      have hlt : aheadI (fun j => bitZ (R j) b) j 0 < z := by rw [h.zeros]; exact hlt
      show (if aheadI (fun j => bitZ (R j) b) j 0 = z then R i else _) = _
      rw [if_neg (by omega)]
      exact h.put0 j (by omega) hjb
  · have hji : j ≠ i := fun e => by
      rw [e, hb] at hjb
      exact absurd hjb (by decide)
    exact h.put1 j (by omega) hjb
  · show (if j = z then R i else U j) = R j
    rw [if_neg (by omega)]
    exact h.rest j (by omega) h2
theorem PartIn.one {R U Y Y' : Nat → Int} {n b i z o : Nat} (h : PartIn R n b i z o U Y) (hb : bitZ (R i) b = 1) (hY : ∀ p, p < o → Y' p = Y p) (ho : Y' o = R i) : PartIn R n b (i + 1) z (o + 1) U Y' := by
  refine ⟨?_, ?_, fun j hj hjb => ?_, fun j hj hjb => ?_, fun j h1 h2 => ?_⟩
  · rw [aheadI_succ, if_neg (by rw [hb]; decide), h.zeros, Nat.add_zero]
  · rw [aheadI_succ, if_pos hb, h.ones]
  · have hji : j ≠ i := fun e => by
      rw [e, hb] at hjb
      exact absurd hjb (by decide)
    exact h.put0 j (by omega) hjb
  · by_cases e : j = i
    · rw [e, ← h.ones]
      exact ho
    · have hlt : aheadI (fun j => bitZ (R j) b) j 1 < aheadI (fun j => bitZ (R j) b) i 1 := ahead_lt (X := fun j => bitZ (R j) b) (by omega) hjb
      rw [hY _ (by rw [h.ones]; exact hlt)]
      exact h.put1 j (by omega) hjb
  · exact h.rest j (by omega) h2
/-- those with 1 laid behind those with 0: the next level's row. -/
theorem PartIn.done {R U Y : Nat → Int} {n b z o : Nat} (h : PartIn R n b n z o U Y) : ∀ p, p < n → (if z ≤ p ∧ p < z + o then Y (p - z) else U p) = rowNext R n b p := fun p hp => by
  have hall := h.all
  obtain ⟨j, hj, e, e2⟩ := rowNext_is (R := R) (b := b) hp
  rw [e2, ← e]
  have hs : stepI (fun j => bitZ (R j) b) n j = belowI (fun j => bitZ (R j) b) n (bitZ (R j) b) + aheadI (fun j => bitZ (R j) b) j (bitZ (R j) b) := rfl
  rcases bitZ_or (R j) b with g | g
  · have hlt : aheadI (fun j => bitZ (R j) b) j 0 < z := by rw [h.zeros]; exact ahead_lt (X := fun j => bitZ (R j) b) hj g
    rw [hs, g, below_zero, Nat.zero_add, if_neg (by omega)]
    exact h.put0 j hj g
  · have hlt : aheadI (fun j => bitZ (R j) b) j 1 < o := by rw [h.ones]; exact ahead_lt (X := fun j => bitZ (R j) b) hj g
    rw [hs, g, below_one, ← h.zeros, if_pos (by omega), Nat.add_sub_cancel_left]
    exact h.put1 j hj g
end Go.Proofs.Ythbnojhcmfhnhaa
