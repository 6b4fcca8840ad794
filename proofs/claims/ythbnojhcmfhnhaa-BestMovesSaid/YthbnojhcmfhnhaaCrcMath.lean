/- A register that is shifted bit by bit, and what bits turned do to it: plain arithmetic; no program is named here. -/
namespace Go.Proofs.Ythbnojhcmfhnhaa.Pl

/-- what is added where a 1 falls out. -/
def poly : Nat := 3988292384
/-- all 32 bits. -/
def allOnes : Nat := 4294967295
/-- the register shifted down by a bit, one bit of the text being added to what falls out. -/
def step (r : Nat) (b : Bool) : Nat := (r / 2) ^^^ (if (r.testBit 0 ^^ b) = true then poly else 0)
/-- n bits of a text, from the register r on. -/
def run (f : Nat → Bool) (r : Nat) : Nat → Nat
  | 0 => r
  | n + 1 => step (run f r n) (f n)
/-- no bit. -/
def noBit : Nat → Bool := fun _ => false

theorem xor_half (r s : Nat) : (r ^^^ s) / 2 = (r / 2) ^^^ (s / 2) := by
  have h := Nat.shiftRight_xor_distrib (i := 1) (a := r) (b := s)
  simpa [Nat.shiftRight_eq_div_pow] using h
theorem xor_four (a b c d : Nat) : (a ^^^ b) ^^^ (c ^^^ d) = (a ^^^ c) ^^^ (b ^^^ d) := by
  rw [Nat.xor_assoc, Nat.xor_assoc, ← Nat.xor_assoc b c d, Nat.xor_comm b c, Nat.xor_assoc c b d]
theorem xor_zero_eq {a b : Nat} (h : a ^^^ b = 0) : a = b := by
  have h2 : (a ^^^ b) ^^^ b = 0 ^^^ b := by rw [h]
  rw [Nat.xor_assoc, Nat.xor_self, Nat.xor_zero, Nat.zero_xor] at h2
  exact h2
theorem step_xor (r s : Nat) (b c : Bool) : step (r ^^^ s) (b ^^ c) = step r b ^^^ step s c := by
  unfold step
  rw [xor_half, Nat.testBit_xor, xor_four]
  congr 1
  cases r.testBit 0 <;> cases s.testBit 0 <;> cases b <;> cases c <;> simp
theorem run_xor (f g : Nat → Bool) (r s : Nat) : ∀ n, run (fun i => f i ^^ g i) (r ^^^ s) n = run f r n ^^^ run g s n
  | 0 => rfl
  | n + 1 => by
    show step (run (fun i => f i ^^ g i) (r ^^^ s) n) (f n ^^ g n) = _
    rw [run_xor f g r s n, step_xor]
    rfl
theorem run_congr {f g : Nat → Bool} {r : Nat} : ∀ {n : Nat}, (∀ i, i < n → f i = g i) → run f r n = run g r n
  | 0, _ => rfl
  | n + 1, h => by
    show step (run f r n) (f n) = step (run g r n) (g n)
    rw [run_congr fun i hi => h i (by omega), h n (by omega)]
theorem run_add (f : Nat → Bool) (r n : Nat) : ∀ m, run f r (n + m) = run (fun i => f (n + i)) (run f r n) m
  | 0 => rfl
  | m + 1 => by
    show step (run f r (n + m)) (f (n + m)) = _
    rw [run_add f r n m]
    rfl
theorem step_lt {r : Nat} (h : r < 2 ^ 32) (b : Bool) : step r b < 2 ^ 32 := by
  unfold step
  refine Nat.xor_lt_two_pow (by omega) ?_
  split
  · decide
  · decide
theorem run_lt {f : Nat → Bool} {r : Nat} (h : r < 2 ^ 32) : ∀ n, run f r n < 2 ^ 32
  | 0 => h
  | n + 1 => step_lt (run_lt h n) (f n)
theorem step_zero {r : Nat} (h : r < 2 ^ 32) (e : step r false = 0) : r = 0 := by
  unfold step at e
  rw [Bool.xor_false] at e
  by_cases hb : r.testBit 0 = true
  · rw [if_pos hb] at e
    have e2 : r / 2 = poly := xor_zero_eq e
    unfold poly at e2
    omega
  · rw [if_neg hb, Nat.xor_zero] at e
    rw [Nat.testBit_zero] at hb
    simp at hb
    omega
theorem run_none_ne {r : Nat} (h : r < 2 ^ 32) (h0 : r ≠ 0) : ∀ n, run noBit r n ≠ 0
  | 0 => h0
  | n + 1 => fun e => run_none_ne h h0 n (step_zero (run_lt h n) e)
theorem run_none_zero : ∀ n, run noBit 0 n = 0
  | 0 => rfl
  | n + 1 => by
    show step (run noBit 0 n) false = 0
    rw [run_none_zero n]
    rfl
/-- a register's own bits empty it. -/
theorem run_self (t : Nat) : ∀ n, run t.testBit t n = t / 2 ^ n
  | 0 => by show t = t / 2 ^ 0; simp
  | n + 1 => by
    show step (run t.testBit t n) (t.testBit n) = _
    rw [run_self t n]
    unfold step
    have e : (t / 2 ^ n).testBit 0 = t.testBit n := by
      rw [← Nat.shiftRight_eq_div_pow, Nat.testBit_shiftRight, Nat.add_zero]
    rw [e, Bool.xor_self, if_neg (by simp), Nat.xor_zero, Nat.div_div_eq_div_mul, Nat.pow_succ]
/-- bits fed one by one are bits added at once. -/
theorem run_feed (r t n : Nat) : run noBit (r ^^^ t) n = run t.testBit r n ^^^ (t / 2 ^ n) := by
  have h := run_xor t.testBit t.testBit r t n
  rw [run_self] at h
  rw [← h]
  exact run_congr fun i _ => by unfold noBit; simp
theorem run_feed_all {r t n : Nat} (h : t < 2 ^ n) : run t.testBit r n = run noBit (r ^^^ t) n := by
  rw [run_feed, Nat.div_eq_of_lt h, Nat.xor_zero]

/-- a register whose own turned bits were fed. -/
def residue : Nat := run noBit allOnes 32
theorem residue_num : residue = 3736805603 := by decide +kernel
theorem run_residue {r : Nat} (h : r < 2 ^ 32) : run (r ^^^ allOnes).testBit r 32 = residue := by
  have hlt : r ^^^ allOnes < 2 ^ 32 := Nat.xor_lt_two_pow h (by decide)
  rw [run_feed_all hlt, ← Nat.xor_assoc, Nat.xor_self, Nat.zero_xor]
  rfl
/-- only these bits come to that. -/
theorem run_residue_only {r s : Nat} (h : r < 2 ^ 32) (hs : s < 2 ^ 32) (e : run s.testBit r 32 = residue) : s = r ^^^ allOnes := by
  rw [run_feed_all hs] at e
  unfold residue at e
  have h1 := run_xor noBit noBit (r ^^^ s) allOnes 32
  have h2 : run (fun i => noBit i ^^ noBit i) ((r ^^^ s) ^^^ allOnes) 32 = run noBit ((r ^^^ s) ^^^ allOnes) 32 := run_congr fun i _ => by unfold noBit; simp
  rw [h2, e, Nat.xor_self] at h1
  have hlt : (r ^^^ s) ^^^ allOnes < 2 ^ 32 := Nat.xor_lt_two_pow (Nat.xor_lt_two_pow h hs) (by decide)
  have h3 : (r ^^^ s) ^^^ allOnes = 0 := by
    apply Classical.byContradiction
    intro hne
    exact run_none_ne hlt hne 32 h1
  have h4 : r ^^^ s = allOnes := xor_zero_eq h3
  rw [← h4, ← Nat.xor_assoc, Nat.xor_self, Nat.zero_xor]

/-- a row of bits from a place on. -/
def burst (k t : Nat) : Nat → Bool := fun i => decide (k ≤ i) && t.testBit (i - k)
/-- a row of at most 32 bits leaves something in the register. -/
theorem run_burst {k t n : Nat} (ht : t < 2 ^ 32) (h0 : t ≠ 0) (hn : k + 32 ≤ n) : run (burst k t) 0 n ≠ 0 := by
  obtain ⟨c, hc⟩ := Nat.le.dest hn
  rw [← hc, run_add, run_add]
  have e1 : run (burst k t) 0 k = 0 := by
    rw [run_congr (g := noBit) fun i hi => by
      unfold burst noBit
      have : ¬ k ≤ i := by omega
      simp [this]]
    exact run_none_zero k
  have e2 : run (fun i => burst k t (k + i)) 0 32 = run noBit t 32 := by
    rw [run_congr (g := t.testBit) fun i _ => by
      unfold burst
      have h1 : k ≤ k + i := by omega
      have h2 : k + i - k = i := by omega
      simp [h2], run_feed_all ht, Nat.zero_xor]
  rw [e1, e2]
  have e3 : run (fun i => burst k t (k + 32 + i)) (run noBit t 32) c = run noBit (run noBit t 32) c := run_congr fun i _ => by
    unfold burst noBit
    have h2 : k + 32 + i - k = 32 + i := by omega
    rw [h2, Nat.testBit_lt_two_pow (Nat.lt_of_lt_of_le ht (Nat.pow_le_pow_right (by decide) (by omega))), Bool.and_false]
  rw [e3]
  exact run_none_ne (run_lt ht 32) (run_none_ne ht h0 32) c
/-- a text of which such a row is turned leaves another register. -/
theorem run_turned {f : Nat → Bool} {r k t n : Nat} (ht : t < 2 ^ 32) (h0 : t ≠ 0) (hn : k + 32 ≤ n) : run (fun i => f i ^^ burst k t i) r n ≠ run f r n := fun e => by
  have h := run_xor f (burst k t) r 0 n
  rw [Nat.xor_zero, e] at h
  have h2 : run f r n ^^^ run f r n = run f r n ^^^ (run f r n ^^^ run (burst k t) 0 n) := by rw [← h]
  rw [Nat.xor_self, ← Nat.xor_assoc, Nat.xor_self, Nat.zero_xor] at h2
  exact run_burst ht h0 hn h2.symm

/-- bit i of bytes, the lowest of each first. -/
def bitB (V : Nat → Nat) : Nat → Bool := fun i => (V (i / 8)).testBit (i % 8)
/-- the register behind n bytes. -/
def reg (V : Nat → Nat) (n : Nat) : Nat := run (bitB V) allOnes (8 * n)
theorem reg_lt (V : Nat → Nat) (n : Nat) : reg V n < 2 ^ 32 := run_lt (by decide) _
theorem reg_zero (V : Nat → Nat) : reg V 0 = allOnes := rfl
/-- one byte more: it is added to the lowest bits, and the register is shifted eight times. -/
theorem reg_next (V : Nat → Nat) (n : Nat) (h : V n < 256) : reg V (n + 1) = run noBit (reg V n ^^^ V n) 8 := by
  unfold reg
  rw [show 8 * (n + 1) = 8 * n + 8 by omega, run_add, ← run_feed_all (n := 8) h]
  exact run_congr fun i hi => by
    unfold bitB
    have e1 : (8 * n + i) / 8 = n := by omega
    have e2 : (8 * n + i) % 8 = i := by omega
    rw [e1, e2]
/-- one shift, as it is reckoned. -/
theorem shift_one (r : Nat) : step r false = if r % 2 = 1 then (r / 2) ^^^ poly else r / 2 := by
  unfold step
  rw [Bool.xor_false, Nat.testBit_zero]
  by_cases h : r % 2 = 1 <;> simp [h]
/-- eight shifts by a table of the lowest byte's. -/
theorem shift_eight (r : Nat) : run noBit r 8 = run noBit (r % 256) 8 ^^^ (r / 256) := by
  have e : r = (r % 256) ^^^ (r / 256 * 256) := by
    have h1 := Nat.two_pow_add_eq_or_of_lt (i := 8) (b := r % 256) (Nat.mod_lt _ (by decide)) (r / 256)
    apply Nat.eq_of_testBit_eq
    intro j
    have h2 : r = 2 ^ 8 * (r / 256) + r % 256 := by have := Nat.div_add_mod r 256; omega
    rw [Nat.testBit_xor]
    by_cases hj : j < 8
    · have a1 : (r % 256).testBit j = r.testBit j := by
        have : (256 : Nat) = 2 ^ 8 := rfl
        rw [this, Nat.testBit_mod_two_pow]
        simp [hj]
      have a2 : (r / 256 * 256).testBit j = false := by
        have : (256 : Nat) = 2 ^ 8 := rfl
        rw [this, ← Nat.shiftLeft_eq, Nat.testBit_shiftLeft]
        have : ¬ 8 ≤ j := by omega
        simp [this]
      rw [a1, a2, Bool.xor_false]
    · have a1 : (r % 256).testBit j = false := Nat.testBit_lt_two_pow (Nat.lt_of_lt_of_le (Nat.mod_lt _ (by decide)) (Nat.pow_le_pow_right (n := 2) (by decide) (show 8 ≤ j by omega)))
      have a2 : (r / 256 * 256).testBit j = r.testBit j := by
        have h256 : (256 : Nat) = 2 ^ 8 := rfl
        rw [h256, ← Nat.shiftLeft_eq, Nat.testBit_shiftLeft, ← Nat.shiftRight_eq_div_pow, Nat.testBit_shiftRight]
        have h3 : 8 ≤ j := by omega
        have h4 : 8 + (j - 8) = j := by omega
        simp [h3, h4]
      rw [a1, a2, Bool.false_xor]
  have h := run_xor noBit noBit (r % 256) (r / 256 * 256) 8
  have h2 : run (fun i => noBit i ^^ noBit i) ((r % 256) ^^^ (r / 256 * 256)) 8 = run noBit r 8 := by
    rw [← e]
    exact run_congr fun i _ => by unfold noBit; simp
  rw [h2] at h
  rw [h]
  congr 1
  have h5 := run_self (r / 256 * 256) 8
  rw [show r / 256 * 256 / 2 ^ 8 = r / 256 by have : (2 : Nat) ^ 8 = 256 := rfl; omega] at h5
  refine Eq.trans (run_congr fun i hi => ?_) h5
  · unfold noBit
    have h256 : (256 : Nat) = 2 ^ 8 := rfl
    rw [h256, ← Nat.shiftLeft_eq, Nat.testBit_shiftLeft]
    have : ¬ 8 ≤ i := by omega
    simp [this]

/-- eight shifts of the lower half of a byte, and of the upper half. -/
def lows : List Nat := [0, 1996959894, 3993919788, 2567524794, 124634137, 1886057615, 3915621685, 2657392035, 249268274, 2044508324, 3772115230, 2547177864, 162941995, 2125561021, 3887607047, 2428444049]
def ups : List Nat := [0, 498536548, 997073096, 651767980, 1994146192, 1802195444, 1303535960, 1342533948, 3988292384, 4027552580, 3604390888, 3412177804, 2607071920, 2262029012, 2685067896, 3183342108]
def lowT (i : Nat) : Nat := lows.getD i 0
def upT (i : Nat) : Nat := ups.getD i 0
theorem lowT_lt (i : Nat) (h : i < 16) : lowT i < 2 ^ 32 := by
  have all : ∀ j, j < 16 → lowT j < 2 ^ 32 := by decide +kernel
  exact all i h
theorem upT_lt (i : Nat) (h : i < 16) : upT i < 2 ^ 32 := by
  have all : ∀ j, j < 16 → upT j < 2 ^ 32 := by decide +kernel
  exact all i h
theorem halves : ∀ y, y < 256 → run noBit y 8 = lowT (y % 16) ^^^ upT (y / 16) := by decide +kernel
theorem by_halves (x : Nat) : run noBit x 8 = ((x / 256) ^^^ lowT (x % 16)) ^^^ upT (x / 16 % 16) := by
  have h := halves (x % 256) (Nat.mod_lt _ (by decide))
  rw [show x % 256 % 16 = x % 16 by omega, show x % 256 / 16 = x / 16 % 16 by omega] at h
  rw [shift_eight, h, Nat.xor_comm, Nat.xor_assoc]
/-- n bytes more, from a register on. -/
def more (r : Nat) (V : Nat → Nat) (n : Nat) : Nat := run (bitB V) r (8 * n)
theorem more_lt {r : Nat} (h : r < 2 ^ 32) (V : Nat → Nat) (n : Nat) : more r V n < 2 ^ 32 := run_lt h _
theorem more_zero (r : Nat) (V : Nat → Nat) : more r V 0 = r := rfl
theorem more_next (r : Nat) (V : Nat → Nat) (n : Nat) (h : V n < 256) : more r V (n + 1) = run noBit (more r V n ^^^ V n) 8 := by
  unfold more
  rw [show 8 * (n + 1) = 8 * n + 8 by omega, run_add, ← run_feed_all (n := 8) h]
  exact run_congr fun i hi => by
    unfold bitB
    have e1 : (8 * n + i) / 8 = n := by omega
    have e2 : (8 * n + i) % 8 = i := by omega
    rw [e1, e2]
theorem more_congr (r : Nat) {V U : Nat → Nat} {n : Nat} (h : ∀ k, k < n → V k = U k) : more r V n = more r U n :=
  run_congr fun i hi => by unfold bitB; rw [h (i / 8) (by omega)]
theorem more_more (r : Nat) (V : Nat → Nat) (n m : Nat) : more (more r V n) (fun k => V (n + k)) m = more r V (n + m) := by
  unfold more
  rw [Nat.mul_add, run_add]
  exact run_congr fun i _ => by
    unfold bitB
    show (V (n + i / 8)).testBit (i % 8) = (V ((8 * n + i) / 8)).testBit ((8 * n + i) % 8)
    rw [show (8 * n + i) / 8 = n + i / 8 by omega, show (8 * n + i) % 8 = i % 8 by omega]

/-- the sum of n bytes. -/
def sumN (V : Nat → Nat) (n : Nat) : Nat := reg V n ^^^ allOnes
theorem sumN_lt (V : Nat → Nat) (n : Nat) : sumN V n < 2 ^ 32 := Nat.xor_lt_two_pow (reg_lt V n) (by decide)
theorem sumN_sub (V : Nat → Nat) (n : Nat) : allOnes - reg V n = sumN V n := by
  have h := reg_lt V n
  unfold sumN
  generalize reg V n = r at h
  apply Nat.eq_of_testBit_eq
  intro j
  have e : allOnes - r = 2 ^ 32 - (r + 1) := by unfold allOnes; omega
  rw [e, Nat.testBit_two_pow_sub_succ h, Nat.testBit_xor, show allOnes = 2 ^ 32 - 1 from rfl, Nat.testBit_two_pow_sub_one]
  by_cases hj : j < 32
  · simp [hj]
  · have : r.testBit j = false := Nat.testBit_lt_two_pow (Nat.lt_of_lt_of_le h (Nat.pow_le_pow_right (by decide) (by omega)))
    simp [hj, this]
/-- behind the n bytes the last four: their sum's, the lowest first. -/
def Ends (V : Nat → Nat) (n : Nat) : Prop := ∀ i, i < 4 → V (n + i) = sumN V n / 256 ^ i % 256
theorem four_bits {V : Nat → Nat} {n s : Nat} (h : ∀ i, i < 4 → V (n + i) = s / 256 ^ i % 256) {i : Nat} (hi : i < 32) : bitB V (8 * n + i) = s.testBit i := by
  unfold bitB
  have e1 : (8 * n + i) / 8 = n + i / 8 := by omega
  have e2 : (8 * n + i) % 8 = i % 8 := by omega
  rw [e1, e2, h (i / 8) (by omega)]
  have h256 : (256 : Nat) = 2 ^ 8 := rfl
  rw [h256, ← Nat.pow_mul, Nat.testBit_mod_two_pow, ← Nat.shiftRight_eq_div_pow, Nat.testBit_shiftRight]
  have h1 : i % 8 < 8 := Nat.mod_lt _ (by decide)
  have h2 : 8 * (i / 8) + i % 8 = i := Nat.div_add_mod i 8
  simp [h1, h2]
/-- what ends with its sum leaves one register, whatever it is. -/
theorem reg_ends {V : Nat → Nat} {n : Nat} (h : Ends V n) : reg V (n + 4) = residue := by
  unfold reg
  rw [show 8 * (n + 4) = 8 * n + 32 by omega, run_add, ← run_residue (reg_lt V n)]
  exact run_congr fun i hi => four_bits h hi
/-- and what leaves it ends with its sum. -/
theorem ends_reg {V : Nat → Nat} {n : Nat} (hV : ∀ i, V i < 256) (h : reg V (n + 4) = residue) : Ends V n := by
  have hs : ∀ i, i < 4 → V (n + i) = (V n + 256 * V (n + 1) + 65536 * V (n + 2) + 16777216 * V (n + 3)) / 256 ^ i % 256 := fun i hi => by
    have a0 := hV n
    have a1 := hV (n + 1)
    have a2 := hV (n + 2)
    have a3 := hV (n + 3)
    have hi' : i = 0 ∨ i = 1 ∨ i = 2 ∨ i = 3 := by omega
    rcases hi' with rfl | rfl | rfl | rfl
    · simp only [Nat.add_zero, Nat.pow_zero]; omega
    · simp only [Nat.pow_one]; omega
    · rw [show (256 : Nat) ^ 2 = 65536 from rfl]; omega
    · rw [show (256 : Nat) ^ 3 = 16777216 from rfl]; omega
  have hlt : V n + 256 * V (n + 1) + 65536 * V (n + 2) + 16777216 * V (n + 3) < 2 ^ 32 := by
    have a0 := hV n
    have a1 := hV (n + 1)
    have a2 := hV (n + 2)
    have a3 := hV (n + 3)
    omega
  generalize V n + 256 * V (n + 1) + 65536 * V (n + 2) + 16777216 * V (n + 3) = s at hs hlt
  have e : run s.testBit (reg V n) 32 = residue := by
    rw [← h]
    show _ = run (bitB V) allOnes (8 * (n + 4))
    rw [show 8 * (n + 4) = 8 * n + 32 by omega, run_add]
    exact run_congr fun i hi => (four_bits hs hi).symm
  have hsum := run_residue_only (reg_lt V n) hlt e
  intro i hi
  rw [hs i hi, hsum]
  rfl
/-- its sum is one number. -/
theorem sumN_twice {V : Nat → Nat} {n : Nat} (h : Ends V n) : sumN V (n + 4) = 558161692 := by
  unfold sumN
  rw [reg_ends h, residue_num]
  decide
/-- of three texts of one length, added without carry, the sums come to the sum. -/
theorem sumN_three {A B C D : Nat → Nat} {n : Nat} (h : ∀ i, i < n → D i = (A i ^^^ B i) ^^^ C i) : (sumN A n ^^^ sumN B n) ^^^ sumN C n = sumN D n := by
  unfold sumN
  have e1 := run_xor (bitB A) (bitB B) allOnes allOnes (8 * n)
  have e2 := run_xor (fun i => bitB A i ^^ bitB B i) (bitB C) (allOnes ^^^ allOnes) allOnes (8 * n)
  have e3 : reg D n = run (fun i => (bitB A i ^^ bitB B i) ^^ bitB C i) allOnes (8 * n) := run_congr fun i hi => by
    unfold bitB
    rw [h (i / 8) (by omega), Nat.testBit_xor, Nat.testBit_xor]
  rw [Nat.xor_self, Nat.zero_xor] at e2
  rw [Nat.xor_self] at e1
  rw [e3, e2, e1]
  unfold reg
  generalize run (bitB A) allOnes (8 * n) = a
  generalize run (bitB B) allOnes (8 * n) = b
  generalize run (bitB C) allOnes (8 * n) = c
  generalize allOnes = o
  rw [xor_four a o b o, Nat.xor_self, Nat.xor_zero, ← Nat.xor_assoc]
/-- what ends with its sum, a row of at most 32 bits of it turned, doesn't end with its sum. -/
theorem turned_no {V U : Nat → Nat} {n k t : Nat} (h : Ends V n) (ht : t < 2 ^ 32) (h0 : t ≠ 0) (hk : k + 32 ≤ 8 * (n + 4)) (hU : ∀ i, i < 8 * (n + 4) → bitB U i = (bitB V i ^^ burst k t i)) : ¬ Ends U n := fun hu => by
  have e1 := reg_ends h
  have e2 := reg_ends hu
  have e3 : reg U (n + 4) = run (fun i => bitB V i ^^ burst k t i) allOnes (8 * (n + 4)) := run_congr hU
  rw [← e1, e3] at e2
  exact run_turned ht h0 hk e2
end Go.Proofs.Ythbnojhcmfhnhaa.Pl
