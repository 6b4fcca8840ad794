/- How many bits are set: plain arithmetic; no program is named here. -/
import Derived.Test.YtpcdbmkmpphhiaaPlain
namespace Go.Proofs.Ytpcdbmkmpphhiaa.Pl

/-- how many of the first n are so. -/
def cnt (f : Nat → Bool) : Nat → Nat
  | 0 => 0
  | n + 1 => cnt f n + (if f n then 1 else 0)
theorem cnt_congr {f g : Nat → Bool} : ∀ {n : Nat}, (∀ j, j < n → f j = g j) → cnt f n = cnt g n
  | 0, _ => rfl
  | n + 1, h => by
    unfold cnt
    rw [cnt_congr (fun j hj => h j (by omega)), h n (by omega)]
theorem cnt_add (f : Nat → Bool) (a : Nat) : ∀ b, cnt f (a + b) = cnt f a + cnt (fun j => f (a + j)) b
  | 0 => by simp [cnt]
  | b + 1 => by
    rw [← Nat.add_assoc]
    show cnt f (a + b) + (if f (a + b) then 1 else 0) = cnt f a + (cnt (fun j => f (a + j)) b + (if f (a + b) then 1 else 0))
    rw [cnt_add f a b, Nat.add_assoc]
theorem cnt_zero {f : Nat → Bool} : ∀ {n : Nat}, (∀ j, j < n → f j = false) → cnt f n = 0
  | 0, _ => rfl
  | n + 1, h => by
    unfold cnt
    rw [cnt_zero (fun j hj => h j (by omega)), h n (by omega)]
    simp
theorem cnt_le (f : Nat → Bool) : ∀ n, cnt f n ≤ n
  | 0 => Nat.le_refl _
  | n + 1 => by
    have := cnt_le f n
    unfold cnt
    split <;> omega

/-- how many bits of a word are set. -/
def pop (v : Nat) : Nat := cnt v.testBit 64
theorem pop_le (v : Nat) : pop v ≤ 64 := cnt_le _ _
theorem pop_zero : pop 0 = 0 := cnt_zero fun j _ => by simp

theorem cnt_half (v : Nat) (f : Nat) : cnt v.testBit (f + 1) = v % 2 + cnt (v / 2).testBit f := by
  rw [Nat.add_comm f 1, cnt_add]
  have e : cnt v.testBit 1 = v % 2 := by
    simp only [cnt, Nat.testBit_zero, Nat.zero_add]
    rcases Nat.mod_two_eq_zero_or_one v with h | h <;> simp [h]
  rw [e]
  congr 1
  apply cnt_congr
  intro j _
  rw [Nat.add_comm 1 j, Nat.testBit_succ]

theorem cnt_low : ∀ (f v : Nat), 0 < v → v < 2 ^ f → cnt v.testBit f = cnt (v &&& (v - 1)).testBit f + 1
  | 0, v, h, hv => by simp at hv; omega
  | f + 1, v, h, hv => by
    rw [cnt_half, cnt_half, Nat.and_div_two]
    have hm : (v &&& (v - 1)) % 2 = 0 := by
      have e : (v &&& (v - 1)) % 2 = ((v &&& (v - 1)).testBit 0).toNat := by
        rw [Nat.testBit_zero]
        rcases Nat.mod_two_eq_zero_or_one (v &&& (v - 1)) with h' | h' <;> simp [h']
      rw [e, Nat.testBit_and, Nat.testBit_zero, Nat.testBit_zero]
      rcases Nat.mod_two_eq_zero_or_one v with h' | h'
      · simp [h']
      · have : (v - 1) % 2 = 0 := by omega
        simp [this]
    rw [hm]
    rcases Nat.mod_two_eq_zero_or_one v with h' | h'
    · have e1 : (v - 1) / 2 = v / 2 - 1 := by omega
      rw [h', e1]
      have := cnt_low f (v / 2) (by omega) (by rw [Nat.pow_succ] at hv; omega)
      omega
    · have e1 : (v - 1) / 2 = v / 2 := by omega
      rw [h', e1, Nat.and_self]
      omega
theorem pop_low {v : Nat} (h : 0 < v) (hv : v < 2 ^ 64) : pop v = pop (v &&& (v - 1)) + 1 := cnt_low 64 v h hv
theorem low_lt {v : Nat} (h : 0 < v) : v &&& (v - 1) < v := by
  have : v &&& (v - 1) ≤ v - 1 := Nat.and_le_right
  omega

/-- the sum of what is counted of the first n numbers. -/
def sumPop (x : Nat → Nat) : Nat → Nat
  | 0 => 0
  | n + 1 => sumPop x n + pop (x n)
theorem sumPop_congr {x y : Nat → Nat} : ∀ {n : Nat}, (∀ j, j < n → x j = y j) → sumPop x n = sumPop y n
  | 0, _ => rfl
  | n + 1, h => by
    unfold sumPop
    rw [sumPop_congr (fun j hj => h j (by omega)), h n (by omega)]
theorem sumPop_le (x : Nat → Nat) : ∀ n, sumPop x n ≤ 64 * n
  | 0 => Nat.le_refl _
  | n + 1 => by
    have := sumPop_le x n
    have := pop_le (x n)
    unfold sumPop
    omega
theorem sumPop_mono (x : Nat → Nat) (a : Nat) : ∀ b, sumPop x a ≤ sumPop x (a + b)
  | 0 => Nat.le_refl _
  | b + 1 => by
    have := sumPop_mono x a b
    rw [← Nat.add_assoc]
    show sumPop x a ≤ sumPop x (a + b) + pop (x (a + b))
    omega

theorem words_cnt (ws : List Nat) : ∀ n, cnt (bitAt ws) (n * 64) = sumPop (fun k => ws.getD k 0) n
  | 0 => by simp [cnt, sumPop]
  | n + 1 => by
    rw [Nat.add_mul, Nat.one_mul, cnt_add, words_cnt ws n]
    show _ = _ + pop (ws.getD n 0)
    congr 1
    apply cnt_congr
    intro j hj
    unfold bitAt
    have e1 : (n * 64 + j) / 64 = n := by omega
    have e2 : (n * 64 + j) % 64 = j := by omega
    rw [e1, e2]

theorem numbers_cnt {ws : List Nat} {width n : Nat} {x : Nat → Nat} (h : Holds ws width n x) : ∀ i, i ≤ n → cnt (bitAt ws) (i * width) = sumPop x i
  | 0, _ => by simp [cnt, sumPop]
  | i + 1, hi => by
    rw [Nat.add_mul, Nat.one_mul, cnt_add, numbers_cnt h i (by omega)]
    show _ = _ + pop (x i)
    congr 1
    rw [cnt_congr (fun j hj => h.bits i j (by omega) hj)]
    unfold pop
    have e : width + (64 - width) = 64 := by have := h.w64; omega
    rw [← e, cnt_add]
    have z : cnt (fun j => (x i).testBit (width + j)) (64 - width) = 0 := cnt_zero fun j _ =>
      Nat.testBit_lt_two_pow (Nat.lt_of_lt_of_le (h.fits i (by omega)) (Nat.pow_le_pow_right (by omega) (by omega)))
    omega

/-- the words' bits are those of the numbers. -/
theorem Holds.sums {ws : List Nat} {width n : Nat} {x : Nat → Nat} (h : Holds ws width n x) : sumPop (fun k => ws.getD k 0) ws.length = sumPop x n := by
  rw [← words_cnt, ← numbers_cnt h n (Nat.le_refl _)]
  have hl : n * width ≤ ws.length * 64 := by rw [h.len]; omega
  have e : ws.length * 64 = n * width + (ws.length * 64 - n * width) := by omega
  rw [e, cnt_add]
  have z : cnt (fun j => bitAt ws (n * width + j)) (ws.length * 64 - n * width) = 0 := cnt_zero fun j _ => h.behind _ (by omega)
  omega

end Go.Proofs.Ytpcdbmkmpphhiaa.Pl
