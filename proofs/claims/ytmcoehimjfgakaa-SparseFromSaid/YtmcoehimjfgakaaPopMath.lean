/- The usual way to count the bits of a word, two, four and eight at a time: plain arithmetic; no program is named here. -/
import Derived.Test.YtmcoehimjfgakaaPop
namespace Go.Proofs.Ytmcoehimjfgakaa.Pl

/-- bytes, the lowest first, as one number. -/
def num : List Nat → Nat
  | [] => 0
  | a :: l => a + 256 * num l
/-- a byte so many times. -/
def rep (c : Nat) : List Nat → Nat
  | [] => 0
  | _ :: l => c + 256 * rep c l

theorem and_num {a b c d : Nat} (ha : a < 256) (hc : c < 256) : (a + 256 * b) &&& (c + 256 * d) = (a &&& c) + 256 * (b &&& d) := by
  have h1 : ((a + 256 * b) &&& (c + 256 * d)) / 2 ^ 8 = b &&& d := by
    rw [Nat.and_div_two_pow]
    congr 1 <;> omega
  have h2 : ((a + 256 * b) &&& (c + 256 * d)) % 2 ^ 8 = a &&& c := by
    rw [Nat.and_mod_two_pow]
    congr 1 <;> omega
  have h3 := Nat.div_add_mod ((a + 256 * b) &&& (c + 256 * d)) (2 ^ 8)
  rw [h1, h2] at h3
  omega

def f1 (a : Nat) : Nat := (a / 2 &&& 85) + (a &&& 85)
def f2 (a : Nat) : Nat := (a / 4 &&& 51) + (a &&& 51)
def f3 (a : Nat) : Nat := (a / 16 + a) &&& 15

theorem low1 : ∀ a, a < 256 → ∀ r, r < 2 → (a / 2 + 128 * r) &&& 85 = a / 2 &&& 85 := by decide +kernel
theorem low2 : ∀ a, a < 256 → ∀ r, r < 4 → (a / 4 + 64 * r) &&& 51 = a / 4 &&& 51 := by decide +kernel
theorem low3 : ∀ a, a < 256 → a % 16 ≤ 4 → a / 16 ≤ 4 → ∀ r, r < 5 → (a / 16 + 16 * r + a) &&& 15 = (a / 16 + a) &&& 15 ∧ a / 16 + 16 * r + a < 256 := by decide +kernel
theorem f1_lt : ∀ a, a < 256 → f1 a < 256 := by decide +kernel
theorem f2_lt : ∀ a, a < 256 → f2 (f1 a) < 256 ∧ f2 (f1 a) % 16 ≤ 4 ∧ f2 (f1 a) / 16 ≤ 4 := by decide +kernel
theorem f3_pop : ∀ a, a < 256 → f3 (f2 (f1 a)) = cnt a.testBit 8 := by decide +kernel

theorem step1 : ∀ l : List Nat, (∀ a ∈ l, a < 256) → (num l / 2 &&& rep 85 l) + (num l &&& rep 85 l) = num (l.map f1)
  | [], _ => by simp [num, rep]
  | a :: l, h => by
    have ha := h a (List.mem_cons_self ..)
    have ih := step1 l (fun x hx => h x (List.mem_cons_of_mem _ hx))
    have e : (a + 256 * num l) / 2 = (a / 2 + 128 * (num l % 2)) + 256 * (num l / 2) := by omega
    show ((a + 256 * num l) / 2 &&& (85 + 256 * rep 85 l)) + ((a + 256 * num l) &&& (85 + 256 * rep 85 l)) = f1 a + 256 * num (l.map f1)
    rw [e, and_num (by omega) (by decide), and_num ha (by decide), low1 a ha _ (Nat.mod_lt _ (by decide)), ← ih]
    unfold f1
    omega
theorem step2 : ∀ l : List Nat, (∀ a ∈ l, a < 256) → (num l / 4 &&& rep 51 l) + (num l &&& rep 51 l) = num (l.map f2)
  | [], _ => by simp [num, rep]
  | a :: l, h => by
    have ha := h a (List.mem_cons_self ..)
    have ih := step2 l (fun x hx => h x (List.mem_cons_of_mem _ hx))
    have e : (a + 256 * num l) / 4 = (a / 4 + 64 * (num l % 4)) + 256 * (num l / 4) := by omega
    show ((a + 256 * num l) / 4 &&& (51 + 256 * rep 51 l)) + ((a + 256 * num l) &&& (51 + 256 * rep 51 l)) = f2 a + 256 * num (l.map f2)
    rw [e, and_num (by omega) (by decide), and_num ha (by decide), low2 a ha _ (Nat.mod_lt _ (by decide)), ← ih]
    unfold f2
    omega
theorem num_mod16 {l : List Nat} (h : ∀ a ∈ l, a % 16 ≤ 4) : num l % 16 ≤ 4 := by
  cases l with
  | nil => simp [num]
  | cons a l =>
    have := h a (List.mem_cons_self ..)
    show (a + 256 * num l) % 16 ≤ 4
    omega
theorem step3 : ∀ l : List Nat, (∀ a ∈ l, a < 256 ∧ a % 16 ≤ 4 ∧ a / 16 ≤ 4) → (num l / 16 + num l) &&& rep 15 l = num (l.map f3)
  | [], _ => by simp [num, rep]
  | a :: l, h => by
    obtain ⟨ha, ha1, ha2⟩ := h a (List.mem_cons_self ..)
    have ih := step3 l (fun x hx => h x (List.mem_cons_of_mem _ hx))
    have hm := num_mod16 (l := l) (fun x hx => (h x (List.mem_cons_of_mem _ hx)).2.1)
    obtain ⟨l1, l2⟩ := low3 a ha ha1 ha2 (num l % 16) (by omega)
    have e : (a + 256 * num l) / 16 + (a + 256 * num l) = (a / 16 + 16 * (num l % 16) + a) + 256 * (num l / 16 + num l) := by omega
    show ((a + 256 * num l) / 16 + (a + 256 * num l)) &&& (15 + 256 * rep 15 l) = f3 a + 256 * num (l.map f3)
    rw [e, and_num l2 (by decide), l1, ← ih]
    rfl

theorem cnt_num : ∀ (l : List Nat) (a : Nat), a < 256 → ∀ k, cnt (a + 256 * num l).testBit (8 + k) = cnt a.testBit 8 + cnt (num l).testBit k := fun l a ha k => by
  rw [cnt_add]
  have e : a + 256 * num l = 2 ^ 8 * num l + a := by omega
  have h1 : cnt (a + 256 * num l).testBit 8 = cnt a.testBit 8 := cnt_congr fun j hj => by
    rw [e, Nat.testBit_two_pow_mul_add _ ha, if_pos hj]
  have h2 : cnt (fun j => (a + 256 * num l).testBit (8 + j)) k = cnt (num l).testBit k := cnt_congr fun j _ => by
    show (a + 256 * num l).testBit (8 + j) = _
    rw [e, Nat.testBit_two_pow_mul_add _ ha, if_neg (by omega), Nat.add_sub_cancel_left]
  rw [h1, h2]

/-- how many bits are set in bytes. -/
def sumC : List Nat → Nat
  | [] => 0
  | a :: l => cnt a.testBit 8 + sumC l
theorem cnt_sum : ∀ l : List Nat, (∀ a ∈ l, a < 256) → cnt (num l).testBit (8 * l.length) = sumC l
  | [], _ => rfl
  | a :: l, h => by
    have e : 8 * (a :: l).length = 8 + 8 * l.length := by rw [List.length_cons]; omega
    rw [e]
    show cnt (a + 256 * num l).testBit _ = cnt a.testBit 8 + sumC l
    rw [cnt_num l a (h a (List.mem_cons_self ..)), cnt_sum l (fun x hx => h x (List.mem_cons_of_mem _ hx))]

/-- the eight bytes of a word. -/
def bytes8 (x : Nat) : List Nat := [x % 256, x / 256 % 256, x / 65536 % 256, x / 16777216 % 256, x / 4294967296 % 256, x / 1099511627776 % 256, x / 281474976710656 % 256, x / 72057594037927936 % 256]
theorem bytes8_num {x : Nat} (hx : x < 2 ^ 64) : num (bytes8 x) = x := by
  simp only [bytes8, num]
  omega
theorem bytes8_lt (x : Nat) : ∀ a ∈ bytes8 x, a < 256 := by
  intro a ha
  simp only [bytes8, List.mem_cons, List.not_mem_nil, or_false] at ha
  omega

theorem rep85 (x : Nat) : rep 85 (bytes8 x) = 6148914691236517205 := by simp only [rep, bytes8]
theorem rep51 (x : Nat) : rep 51 ((bytes8 x).map f1) = 3689348814741910323 := by simp only [rep, bytes8, List.map_cons, List.map_nil]
theorem rep15 (x : Nat) : rep 15 (((bytes8 x).map f1).map f2) = 1085102592571150095 := by simp only [rep, bytes8, List.map_cons, List.map_nil]
/-- the number of set bits, by the three steps and a sum of bytes. -/
theorem pop_steps {x y1 y2 y3 : Nat} (hx : x < 2 ^ 64) (h1 : (x / 2 &&& 6148914691236517205) + (x &&& 6148914691236517205) = y1) (h2 : (y1 / 4 &&& 3689348814741910323) + (y1 &&& 3689348814741910323) = y2)
    (h3 : (y2 / 16 + y2) &&& 1085102592571150095 = y3) :
    ∃ z0 z1 z2 z3 z4 z5 z6 z7 : Nat, z0 ≤ 8 ∧ z1 ≤ 8 ∧ z2 ≤ 8 ∧ z3 ≤ 8 ∧ z4 ≤ 8 ∧ z5 ≤ 8 ∧ z6 ≤ 8 ∧ z7 ≤ 8 ∧
      y3 = z0 + 256 * (z1 + 256 * (z2 + 256 * (z3 + 256 * (z4 + 256 * (z5 + 256 * (z6 + 256 * z7)))))) ∧ pop x = z0 + (z1 + (z2 + (z3 + (z4 + (z5 + (z6 + z7)))))) := by
  have hb := bytes8_lt x
  have hn := bytes8_num hx
  have m1 := rep85 x
  have m2 := rep51 x
  have m3 := rep15 x
  have s1 := step1 (bytes8 x) hb
  rw [m1, hn, h1] at s1
  have s2 := step2 ((bytes8 x).map f1) (fun a ha => by
    obtain ⟨b, hb', rfl⟩ := List.mem_map.1 ha
    exact f1_lt b (hb b hb'))
  rw [m2, ← s1, h2] at s2
  have s3 := step3 (((bytes8 x).map f1).map f2) (fun a ha => by
    obtain ⟨b, hb', rfl⟩ := List.mem_map.1 ha
    obtain ⟨c, hc, rfl⟩ := List.mem_map.1 hb'
    exact f2_lt c (hb c hc))
  rw [m3, ← s2, h3] at s3
  have hp : pop x = sumC (bytes8 x) := by
    have e := cnt_sum (bytes8 x) hb
    have e8 : 8 * (bytes8 x).length = 64 := by simp [bytes8]
    rw [hn, e8] at e
    exact e
  have hf : ∀ a ∈ bytes8 x, f3 (f2 (f1 a)) = cnt a.testBit 8 := fun a ha => f3_pop a (hb a ha)
  rw [hp]
  clear hn s1 s2 h1 h2 h3 m1 m2 m3 hp hb
  unfold bytes8 at *
  generalize x % 256 = a0 at *
  generalize x / 256 % 256 = a1 at *
  generalize x / 65536 % 256 = a2 at *
  generalize x / 16777216 % 256 = a3 at *
  generalize x / 4294967296 % 256 = a4 at *
  generalize x / 1099511627776 % 256 = a5 at *
  generalize x / 281474976710656 % 256 = a6 at *
  generalize x / 72057594037927936 % 256 = a7 at *
  simp only [List.map_cons, List.map_nil, num, Nat.mul_zero, Nat.add_zero] at s3
  simp only [List.mem_cons, List.not_mem_nil, or_false, forall_eq_or_imp, forall_eq] at hf
  obtain ⟨e0, e1, e2, e3, e4, e5, e6, e7⟩ := hf
  rw [e0, e1, e2, e3, e4, e5, e6, e7] at s3
  exact ⟨_, _, _, _, _, _, _, _, cnt_le _ _, cnt_le _ _, cnt_le _ _, cnt_le _ _, cnt_le _ _, cnt_le _ _, cnt_le _ _, cnt_le _ _, s3, by simp only [sumC, Nat.add_zero]⟩

theorem pop_sums {x y1 y2 y3 : Nat} (hx : x < 2 ^ 64) (h1 : (x / 2 &&& 6148914691236517205) + (x &&& 6148914691236517205) = y1) (h2 : (y1 / 4 &&& 3689348814741910323) + (y1 &&& 3689348814741910323) = y2)
    (h3 : (y2 / 16 + y2) &&& 1085102592571150095 = y3) :
    y3 ≤ 578721382704613384 ∧ (y3 + y3 / 256 + (y3 + y3 / 256) / 65536 + (y3 + y3 / 256 + (y3 + y3 / 256) / 65536) / 4294967296) % 128 = pop x := by
  obtain ⟨z0, z1, z2, z3, z4, z5, z6, z7, b0, b1, b2, b3, b4, b5, b6, b7, e, hp⟩ := pop_steps hx h1 h2 h3
  rw [hp]
  clear hp h1 h2 h3 hx
  refine ⟨by omega, ?_⟩
  have d1 : y3 / 256 = z1 + 256 * (z2 + 256 * (z3 + 256 * (z4 + 256 * (z5 + 256 * (z6 + 256 * z7))))) := by omega
  obtain ⟨u, hu⟩ : ∃ u, y3 + y3 / 256 = u := ⟨_, rfl⟩
  rw [hu]
  have eu : u = (z0 + z1) + 256 * ((z1 + z2) + 256 * ((z2 + z3) + 256 * ((z3 + z4) + 256 * ((z4 + z5) + 256 * ((z5 + z6) + 256 * ((z6 + z7) + 256 * z7)))))) := by omega
  clear d1 e hu
  have d2 : u / 65536 = (z2 + z3) + 256 * ((z3 + z4) + 256 * ((z4 + z5) + 256 * ((z5 + z6) + 256 * ((z6 + z7) + 256 * z7)))) := by omega
  obtain ⟨v, hv⟩ : ∃ v, u + u / 65536 = v := ⟨_, rfl⟩
  rw [hv]
  have ev : v = (z0 + z1 + z2 + z3) + 256 * ((z1 + z2 + z3 + z4) + 256 * ((z2 + z3 + z4 + z5) + 256 * ((z3 + z4 + z5 + z6) + 256 * ((z4 + z5 + z6 + z7) + 256 * ((z5 + z6 + z7) + 256 * ((z6 + z7) + 256 * z7)))))) := by omega
  clear d2 eu hv
  have d3 : v / 4294967296 = (z4 + z5 + z6 + z7) + 256 * ((z5 + z6 + z7) + 256 * ((z6 + z7) + 256 * z7)) := by omega
  rw [d3, ev]
  omega
end Go.Proofs.Ytmcoehimjfgakaa.Pl
