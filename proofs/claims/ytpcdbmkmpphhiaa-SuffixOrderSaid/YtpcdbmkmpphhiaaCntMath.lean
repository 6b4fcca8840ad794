/- Counting bits, and the place of the bit of a number: plain arithmetic; no program is named here. -/
import Derived.Test.YtpcdbmkmpphhiaaPop
namespace Go.Proofs.Ytpcdbmkmpphhiaa.Pl

theorem cnt_succ (f : Nat → Bool) (n : Nat) : cnt f (n + 1) = cnt f n + (if f n then 1 else 0) := rfl
theorem cnt_mono (f : Nat → Bool) {a b : Nat} (h : a ≤ b) : cnt f a ≤ cnt f b := by
  obtain ⟨c, rfl⟩ := Nat.le.dest h
  rw [cnt_add]
  omega
theorem cnt_not (f : Nat → Bool) : ∀ n, cnt f n + cnt (fun j => !f j) n = n
  | 0 => rfl
  | n + 1 => by
    have := cnt_not f n
    rw [cnt_succ, cnt_succ]
    cases f n <;> simp <;> omega
theorem cnt_at_lt {f : Nat → Bool} {a b : Nat} (h : a < b) (ha : f a = true) : cnt f a < cnt f b := by
  have h1 := cnt_mono f (show a + 1 ≤ b from h)
  rw [cnt_succ, ha] at h1
  simp at h1
  omega

/-- the place below n of the bit of number k; -1: there is none. -/
def sel (f : Nat → Bool) : Nat → Int → Int
  | 0, _ => -1
  | n + 1, k => if f n = true ∧ ((cnt f n : Nat) : Int) = k then (n : Int) else sel f n k
theorem sel_out {f : Nat → Bool} : ∀ {n : Nat} {k : Int}, k < 0 ∨ ((cnt f n : Nat) : Int) ≤ k → sel f n k = -1
  | 0, _, _ => rfl
  | n + 1, k, h => by
    have hs := cnt_succ f n
    unfold sel
    rw [if_neg, sel_out]
    · rcases h with h | h
      · exact .inl h
      · right
        have := cnt_mono f (Nat.le_succ n)
        omega
    · rintro ⟨h1, h2⟩
      rw [h1] at hs
      simp at hs
      omega
theorem sel_in {f : Nat → Bool} : ∀ {n m : Nat}, m < n → f m = true → sel f n (cnt f m) = m
  | 0, _, h, _ => by omega
  | n + 1, m, h, hf => by
    unfold sel
    by_cases e : m = n
    · subst e
      rw [if_pos ⟨hf, rfl⟩]
    · have h1 := cnt_at_lt (f := f) (show m < n by omega) hf
      rw [if_neg (by rintro ⟨_, h2⟩; omega)]
      exact sel_in (by omega) hf
/-- what a search by counts finds. -/
theorem sel_found {f : Nat → Bool} {n m k : Nat} (hm : m ≤ n) (hk : k < cnt f n) (h1 : ∀ t, t < m → cnt f (t + 1) ≤ k) (h2 : ∀ t, m ≤ t → t < n → k < cnt f (t + 1)) :
    m < n ∧ f m = true ∧ cnt f m = k := by
  have hlt : m < n := by
    apply Nat.lt_of_not_le
    intro hge
    obtain rfl : m = n := by omega
    cases m with
    | zero => simp [cnt] at hk
    | succ m => have := h1 m (by omega); omega
  have ha := h2 m (Nat.le_refl _) hlt
  have hb : cnt f m ≤ k := by
    cases m with
    | zero => simp [cnt]
    | succ m => exact h1 m (by omega)
  rw [cnt_succ] at ha
  cases hf : f m with
  | false => rw [hf] at ha; simp at ha; omega
  | true => rw [hf] at ha; simp at ha; exact ⟨hlt, rfl, by omega⟩
theorem sel_found' {f : Nat → Bool} {n m k : Nat} (hm : m ≤ n) (hk : k < cnt f n) (h1 : ∀ t, t < m → cnt f (t + 1) ≤ k) (h2 : ∀ t, m ≤ t → t < n → k < cnt f (t + 1)) : sel f n k = m := by
  obtain ⟨a, b, c⟩ := sel_found hm hk h1 h2
  rw [← c]
  exact sel_in a b
theorem sel_congr {f g : Nat → Bool} : ∀ {n : Nat} {k : Int}, (∀ j, j < n → f j = g j) → sel f n k = sel g n k
  | 0, _, _ => rfl
  | n + 1, k, h => by
    unfold sel
    rw [h n (by omega), cnt_congr (g := g) (fun j hj => h j (by omega)), sel_congr (g := g) (fun j hj => h j (by omega))]

/-- by words. -/
theorem cnt_word (ws : List Nat) (q : Nat) : cnt (bitAt ws) (64 * (q + 1)) = cnt (bitAt ws) (64 * q) + pop (ws.getD q 0) := by
  have e : 64 * (q + 1) = 64 * q + 64 := by omega
  rw [e, cnt_add]
  congr 1
  apply cnt_congr
  intro j hj
  unfold bitAt
  have e1 : (64 * q + j) / 64 = q := by omega
  have e2 : (64 * q + j) % 64 = j := by omega
  rw [e1, e2]
theorem pop_mask (x r : Nat) (hr : r ≤ 64) : pop (x &&& (2 ^ r - 1)) = cnt x.testBit r := by
  unfold pop
  have e : 64 = r + (64 - r) := by omega
  rw [e, cnt_add]
  have h1 : cnt (x &&& (2 ^ r - 1)).testBit r = cnt x.testBit r := cnt_congr fun j hj => by
    rw [Nat.testBit_and, tb_ones]
    simp [hj]
  have h2 : cnt (fun j => (x &&& (2 ^ r - 1)).testBit (r + j)) (64 - r) = 0 := cnt_zero fun j _ => by
    rw [Nat.testBit_and, tb_ones]
    have : ¬ r + j < r := by omega
    simp [this]
  rw [h1, h2]
  rfl
theorem cnt_part (ws : List Nat) (q r : Nat) (hr : r < 64) : cnt (bitAt ws) (64 * q + r) = cnt (bitAt ws) (64 * q) + pop (ws.getD q 0 &&& (2 ^ r - 1)) := by
  rw [cnt_add, pop_mask _ r (by omega)]
  congr 1
  apply cnt_congr
  intro j hj
  unfold bitAt
  have e1 : (64 * q + j) / 64 = q := by omega
  have e2 : (64 * q + j) % 64 = j := by omega
  rw [e1, e2]

/-- the place from 0 to n that i counts as. -/
def clamp (n : Nat) (i : Int) : Nat := (max 0 (min i (n : Int))).toNat
theorem clamp_le (n : Nat) (i : Int) : clamp n i ≤ n := by unfold clamp; omega
theorem clamp_int (n : Nat) (i : Int) : max 0 (min i (n : Int)) = ((clamp n i : Nat) : Int) := by unfold clamp; omega
theorem clamp_nat {n i : Nat} (h : i ≤ n) : clamp n i = i := by unfold clamp; omega
end Go.Proofs.Ytpcdbmkmpphhiaa.Pl
