/- How many bits are set: plain arithmetic; no program is named here. Counting bits, and the place of the bit of a number: plain arithmetic; no program is named here. -/
import Derived.Test.YthbnojhcmfhnhaaPlain
namespace Go.Proofs.Ythbnojhcmfhnhaa.Pl

/-- how many of the first n are so. -/
def cnt (f : Nat → Bool) : Nat → Nat
  | 0 => 0
  | n + 1 => cnt f n + (if f n then 1 else 0)
theorem cnt_congr {f g : Nat → Bool} : ∀ {n : Nat}, (∀ j, j < n → f j = g j) → cnt f n = cnt g n
  | 0, _ => rfl
  | n + 1, h => by
    unfold cnt
    rw [cnt_congr (fun j hj => h j (by omega)), h n (by omega)]
theorem cnt_add (f : Nat → Bool) (a : Nat) : ∀ b, cnt f (a + b) = cnt f a + cnt (fun j => f (a + j)) b
  | 0 => by simp [cnt]
  | b + 1 => by
    rw [← Nat.add_assoc]
    show cnt f (a + b) + (if f (a + b) then 1 else 0) = cnt f a + (cnt (fun j => f (a + j)) b + (if f (a + b) then 1 else 0))
    rw [cnt_add f a b, Nat.add_assoc]
theorem cnt_zero {f : Nat → Bool} : ∀ {n : Nat}, (∀ j, j < n → f j = false) → cnt f n = 0
  | 0, _ => rfl
  | n + 1, h => by
    unfold cnt
    rw [cnt_zero (fun j hj => h j (by omega)), h n (by omega)]
    simp
theorem cnt_le (f : Nat → Bool) : ∀ n, cnt f n ≤ n
  | 0 => Nat.le_refl _
  | n + 1 => by
    have := cnt_le f n
    unfold cnt
    split <;> omega

/-- how many bits of a word are set. -/
def pop (v : Nat) : Nat := cnt v.testBit 64
theorem pop_le (v : Nat) : pop v ≤ 64 := cnt_le _ _
theorem pop_zero : pop 0 = 0 := cnt_zero fun j _ => by simp

theorem cnt_half (v : Nat) (f : Nat) : cnt v.testBit (f + 1) = v % 2 + cnt (v / 2).testBit f := by
  rw [Nat.add_comm f 1, cnt_add]
  have e : cnt v.testBit 1 = v % 2 := by
    simp only [cnt, Nat.testBit_zero, Nat.zero_add]
    rcases Nat.mod_two_eq_zero_or_one v with h | h <;> simp [h]
  rw [e]
  congr 1
  apply cnt_congr
  intro j _
  rw [Nat.add_comm 1 j, Nat.testBit_succ]

theorem cnt_low : ∀ (f v : Nat), 0 < v → v < 2 ^ f → cnt v.testBit f = cnt (v &&& (v - 1)).testBit f + 1
  | 0, v, h, hv => by simp at hv; omega
  | f + 1, v, h, hv => by
    rw [cnt_half, cnt_half, Nat.and_div_two]
    have hm : (v &&& (v - 1)) % 2 = 0 := by
      have e : (v &&& (v - 1)) % 2 = ((v &&& (v - 1)).testBit 0).toNat := by
        rw [Nat.testBit_zero]
        rcases Nat.mod_two_eq_zero_or_one (v &&& (v - 1)) with h' | h' <;> simp [h']
      rw [e, Nat.testBit_and, Nat.testBit_zero, Nat.testBit_zero]
      rcases Nat.mod_two_eq_zero_or_one v with h' | h'
      · simp [h']
      · have : (v - 1) % 2 = 0 := by omega
        simp [this]
    rw [hm]
    rcases Nat.mod_two_eq_zero_or_one v with h' | h'
    · have e1 : (v - 1) / 2 = v / 2 - 1 := by omega
      rw [h', e1]
      have := cnt_low f (v / 2) (by omega) (by rw [Nat.pow_succ] at hv; omega)
      omega
    · have e1 : (v - 1) / 2 = v / 2 := by omega
      rw [h', e1, Nat.and_self]
      omega
theorem pop_low {v : Nat} (h : 0 < v) (hv : v < 2 ^ 64) : pop v = pop (v &&& (v - 1)) + 1 := cnt_low 64 v h hv
theorem low_lt {v : Nat} (h : 0 < v) : v &&& (v - 1) < v := by
  have : v &&& (v - 1) ≤ v - 1 := Nat.and_le_right
  omega

/-- the sum of what is counted of the first n numbers. -/
def sumPop (x : Nat → Nat) : Nat → Nat
  | 0 => 0
  | n + 1 => sumPop x n + pop (x n)
theorem sumPop_congr {x y : Nat → Nat} : ∀ {n : Nat}, (∀ j, j < n → x j = y j) → sumPop x n = sumPop y n
  | 0, _ => rfl
  | n + 1, h => by
    unfold sumPop
    rw [sumPop_congr (fun j hj => h j (by omega)), h n (by omega)]
theorem sumPop_le (x : Nat → Nat) : ∀ n, sumPop x n ≤ 64 * n
  | 0 => Nat.le_refl _
  | n + 1 => by
    have := sumPop_le x n
    have := pop_le (x n)
    unfold sumPop
    omega
theorem sumPop_mono (x : Nat → Nat) (a : Nat) : ∀ b, sumPop x a ≤ sumPop x (a + b)
  | 0 => Nat.le_refl _
  | b + 1 => by
    have := sumPop_mono x a b
    rw [← Nat.add_assoc]
    show sumPop x a ≤ sumPop x (a + b) + pop (x (a + b))
    omega

theorem words_cnt (ws : List Nat) : ∀ n, cnt (bitAt ws) (n * 64) = sumPop (fun k => ws.getD k 0) n
  | 0 => by simp [cnt, sumPop]
  | n + 1 => by
    rw [Nat.add_mul, Nat.one_mul, cnt_add, words_cnt ws n]
    show _ = _ + pop (ws.getD n 0)
    congr 1
    apply cnt_congr
    intro j hj
    unfold bitAt
    have e1 : (n * 64 + j) / 64 = n := by omega
    have e2 : (n * 64 + j) % 64 = j := by omega
    rw [e1, e2]

theorem numbers_cnt {ws : List Nat} {width n : Nat} {x : Nat → Nat} (h : Holds ws width n x) : ∀ i, i ≤ n → cnt (bitAt ws) (i * width) = sumPop x i
  | 0, _ => by simp [cnt, sumPop]
  | i + 1, hi => by
    rw [Nat.add_mul, Nat.one_mul, cnt_add, numbers_cnt h i (by omega)]
    show _ = _ + pop (x i)
    congr 1
    rw [cnt_congr (fun j hj => h.bits i j (by omega) hj)]
    unfold pop
    have e : width + (64 - width) = 64 := by have := h.w64; omega
    rw [← e, cnt_add]
    have z : cnt (fun j => (x i).testBit (width + j)) (64 - width) = 0 := cnt_zero fun j _ =>
      Nat.testBit_lt_two_pow (Nat.lt_of_lt_of_le (h.fits i (by omega)) (Nat.pow_le_pow_right (by omega) (by omega)))
    omega

/-- the words' bits are those of the numbers. -/
theorem Holds.sums {ws : List Nat} {width n : Nat} {x : Nat → Nat} (h : Holds ws width n x) : sumPop (fun k => ws.getD k 0) ws.length = sumPop x n := by
  rw [← words_cnt, ← numbers_cnt h n (Nat.le_refl _)]
  have hl : n * width ≤ ws.length * 64 := by rw [h.len]; omega
  have e : ws.length * 64 = n * width + (ws.length * 64 - n * width) := by omega
  rw [e, cnt_add]
  have z : cnt (fun j => bitAt ws (n * width + j)) (ws.length * 64 - n * width) = 0 := cnt_zero fun j _ => h.behind _ (by omega)
  omega

end Go.Proofs.Ythbnojhcmfhnhaa.Pl

namespace Go.Proofs.Ythbnojhcmfhnhaa.Pl

theorem cnt_succ (f : Nat → Bool) (n : Nat) : cnt f (n + 1) = cnt f n + (if f n then 1 else 0) := rfl
theorem cnt_mono (f : Nat → Bool) {a b : Nat} (h : a ≤ b) : cnt f a ≤ cnt f b := by
  obtain ⟨c, rfl⟩ := Nat.le.dest h
  rw [cnt_add]
  omega
theorem cnt_not (f : Nat → Bool) : ∀ n, cnt f n + cnt (fun j => !f j) n = n
  | 0 => rfl
  | n + 1 => by
    have := cnt_not f n
    rw [cnt_succ, cnt_succ]
    cases f n <;> simp <;> omega
theorem cnt_at_lt {f : Nat → Bool} {a b : Nat} (h : a < b) (ha : f a = true) : cnt f a < cnt f b := by
  have h1 := cnt_mono f (show a + 1 ≤ b from h)
  rw [cnt_succ, ha] at h1
  simp at h1
  omega

/-- the place below n of the bit of number k; -1: there is none. -/
def sel (f : Nat → Bool) : Nat → Int → Int
  | 0, _ => -1
  | n + 1, k => if f n = true ∧ ((cnt f n : Nat) : Int) = k then (n : Int) else sel f n k
theorem sel_out {f : Nat → Bool} : ∀ {n : Nat} {k : Int}, k < 0 ∨ ((cnt f n : Nat) : Int) ≤ k → sel f n k = -1
  | 0, _, _ => rfl
  | n + 1, k, h => by
    have hs := cnt_succ f n
    unfold sel
    rw [if_neg, sel_out]
    · rcases h with h | h
      · exact .inl h
      · right
        have := cnt_mono f (Nat.le_succ n)
        omega
    · rintro ⟨h1, h2⟩
      rw [h1] at hs
      simp at hs
      omega
theorem sel_in {f : Nat → Bool} : ∀ {n m : Nat}, m < n → f m = true → sel f n (cnt f m) = m
  | 0, _, h, _ => by omega
  | n + 1, m, h, hf => by
    unfold sel
    by_cases e : m = n
    · subst e
      rw [if_pos ⟨hf, rfl⟩]
    · have h1 := cnt_at_lt (f := f) (show m < n by omega) hf
      rw [if_neg (by rintro ⟨_, h2⟩; omega)]
      exact sel_in (by omega) hf
/-- what a search by counts finds. -/
theorem sel_found {f : Nat → Bool} {n m k : Nat} (hm : m ≤ n) (hk : k < cnt f n) (h1 : ∀ t, t < m → cnt f (t + 1) ≤ k) (h2 : ∀ t, m ≤ t → t < n → k < cnt f (t + 1)) :
    m < n ∧ f m = true ∧ cnt f m = k := by
  have hlt : m < n := by
    apply Nat.lt_of_not_le
    intro hge
    obtain rfl : m = n := by omega
    cases m with
    | zero => simp [cnt] at hk
    | succ m => have := h1 m (by omega); omega
  have ha := h2 m (Nat.le_refl _) hlt
  have hb : cnt f m ≤ k := by
    cases m with
    | zero => simp [cnt]
    | succ m => exact h1 m (by omega)
  rw [cnt_succ] at ha
  cases hf : f m with
  | false => rw [hf] at ha; simp at ha; omega
  | true => rw [hf] at ha; simp at ha; exact ⟨hlt, rfl, by omega⟩
theorem sel_found' {f : Nat → Bool} {n m k : Nat} (hm : m ≤ n) (hk : k < cnt f n) (h1 : ∀ t, t < m → cnt f (t + 1) ≤ k) (h2 : ∀ t, m ≤ t → t < n → k < cnt f (t + 1)) : sel f n k = m := by
  obtain ⟨a, b, c⟩ := sel_found hm hk h1 h2
  rw [← c]
  exact sel_in a b
theorem sel_congr {f g : Nat → Bool} : ∀ {n : Nat} {k : Int}, (∀ j, j < n → f j = g j) → sel f n k = sel g n k
  | 0, _, _ => rfl
  | n + 1, k, h => by
    unfold sel
    rw [h n (by omega), cnt_congr (g := g) (fun j hj => h j (by omega)), sel_congr (g := g) (fun j hj => h j (by omega))]

/-- by words. -/
theorem cnt_word (ws : List Nat) (q : Nat) : cnt (bitAt ws) (64 * (q + 1)) = cnt (bitAt ws) (64 * q) + pop (ws.getD q 0) := by
  have e : 64 * (q + 1) = 64 * q + 64 := by omega
  rw [e, cnt_add]
  congr 1
  apply cnt_congr
  intro j hj
  unfold bitAt
  have e1 : (64 * q + j) / 64 = q := by omega
  have e2 : (64 * q + j) % 64 = j := by omega
  rw [e1, e2]
theorem pop_mask (x r : Nat) (hr : r ≤ 64) : pop (x &&& (2 ^ r - 1)) = cnt x.testBit r := by
  unfold pop
  have e : 64 = r + (64 - r) := by omega
  rw [e, cnt_add]
  have h1 : cnt (x &&& (2 ^ r - 1)).testBit r = cnt x.testBit r := cnt_congr fun j hj => by
    rw [Nat.testBit_and, tb_ones]
    simp [hj]
  have h2 : cnt (fun j => (x &&& (2 ^ r - 1)).testBit (r + j)) (64 - r) = 0 := cnt_zero fun j _ => by
    rw [Nat.testBit_and, tb_ones]
    have : ¬ r + j < r := by omega
    simp [this]
  rw [h1, h2]
  rfl
theorem cnt_part (ws : List Nat) (q r : Nat) (hr : r < 64) : cnt (bitAt ws) (64 * q + r) = cnt (bitAt ws) (64 * q) + pop (ws.getD q 0 &&& (2 ^ r - 1)) := by
  rw [cnt_add, pop_mask _ r (by omega)]
  congr 1
  apply cnt_congr
  intro j hj
  unfold bitAt
  have e1 : (64 * q + j) / 64 = q := by omega
  have e2 : (64 * q + j) % 64 = j := by omega
  rw [e1, e2]

/-- the place from 0 to n that i counts as. -/
def clamp (n : Nat) (i : Int) : Nat := (max 0 (min i (n : Int))).toNat
theorem clamp_le (n : Nat) (i : Int) : clamp n i ≤ n := by unfold clamp; omega
theorem clamp_int (n : Nat) (i : Int) : max 0 (min i (n : Int)) = ((clamp n i : Nat) : Int) := by unfold clamp; omega
theorem clamp_nat {n i : Nat} (h : i ≤ n) : clamp n i = i := by unfold clamp; omega
end Go.Proofs.Ythbnojhcmfhnhaa.Pl
