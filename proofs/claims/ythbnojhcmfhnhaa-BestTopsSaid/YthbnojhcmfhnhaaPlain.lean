/- Plain arithmetic of packed lists: no program is named here. -/
namespace Go.Proofs.Ythbnojhcmfhnhaa.Pl

/-- number i of a list of words, each number of that width, as the code reckons it. -/
def getN (ws : List Nat) (width i : Nat) : Nat :=
  let q := i * width / 64
  let r := i * width % 64
  (if 64 < r + width then ws.getD q 0 / 2 ^ r ||| ws.getD (q + 1) 0 * 2 ^ (64 - r) % 2 ^ 64 else ws.getD q 0 / 2 ^ r) &&& (2 ^ width - 1)

/-- a word whose bits under a mask are taken off, and others laid there. -/
def mixN (x m v : Nat) : Nat := (x &&& (2 ^ 64 - 1 - m)) ||| v

def setN (ws : List Nat) (width i v : Nat) : List Nat :=
  let q := i * width / 64
  let r := i * width % 64
  let ws1 := ws.set q (mixN (ws.getD q 0) ((2 ^ width - 1) * 2 ^ r % 2 ^ 64) (v * 2 ^ r % 2 ^ 64))
  if 64 < r + width then ws1.set (q + 1) (mixN (ws.getD (q + 1) 0) ((2 ^ width - 1) / 2 ^ (64 - r)) (v / 2 ^ (64 - r))) else ws1

/-- bit b of a list of words. -/
def bitAt (ws : List Nat) (b : Nat) : Bool := (ws.getD (b / 64) 0).testBit (b % 64)

theorem tb_div (x s j : Nat) : (x / 2 ^ s).testBit j = x.testBit (s + j) := by
  rw [← Nat.shiftRight_eq_div_pow, Nat.testBit_shiftRight]
theorem tb_mul (x s j : Nat) : (x * 2 ^ s).testBit j = (decide (s ≤ j) && x.testBit (j - s)) := by
  rw [← Nat.shiftLeft_eq, Nat.testBit_shiftLeft]
theorem tb_ones (k j : Nat) : (2 ^ k - 1).testBit j = decide (j < k) := Nat.testBit_two_pow_sub_one k j
theorem tb_big {x j : Nat} (h : x < 2 ^ 64) (hj : 64 ≤ j) : x.testBit j = false :=
  Nat.testBit_lt_two_pow (Nat.lt_of_lt_of_le h (Nat.pow_le_pow_right (by omega) hj))

def Small (ws : List Nat) : Prop := ∀ x ∈ ws, x < 2 ^ 64
theorem Small.at_ {ws : List Nat} (h : Small ws) (k : Nat) : ws.getD k 0 < 2 ^ 64 := by
  rw [List.getD_eq_getElem?_getD]
  by_cases hk : k < ws.length
  · rw [List.getElem?_eq_getElem hk]; exact h _ (List.getElem_mem hk)
  · rw [List.getElem?_eq_none (by omega)]; decide
theorem Small.set_ {ws : List Nat} (h : Small ws) (k : Nat) {x : Nat} (hx : x < 2 ^ 64) : Small (ws.set k x) := by
  intro y hy
  rcases List.mem_or_eq_of_mem_set hy with hy | rfl
  · exact h y hy
  · exact hx

theorem getN_testBit (ws : List Nat) (hs : Small ws) (width i j : Nat) (hw : width ≤ 64) :
    (getN ws width i).testBit j = (decide (j < width) && bitAt ws (i * width + j)) := by
  unfold getN bitAt
  generalize i * width = b
  have hr : b % 64 < 64 := Nat.mod_lt _ (by decide)
  simp only [Nat.testBit_and, tb_ones]
  by_cases hj : j < width
  · simp only [hj, decide_true, Bool.and_true, Bool.true_and]
    by_cases hc : b % 64 + j < 64
    · have e1 : (b + j) / 64 = b / 64 := by omega
      have e2 : (b + j) % 64 = b % 64 + j := by omega
      rw [e1, e2]
      split
      · rw [Nat.testBit_or, tb_div, Nat.testBit_mod_two_pow, tb_mul]
        have : ¬ 64 - b % 64 ≤ j := by omega
        simp [this]
      · rw [tb_div]
    · have e1 : (b + j) / 64 = b / 64 + 1 := by omega
      have e2 : (b + j) % 64 = j - (64 - b % 64) := by omega
      rw [e1, e2, if_pos (by omega), Nat.testBit_or, tb_div, Nat.testBit_mod_two_pow, tb_mul, tb_big (hs.at_ _) (by omega)]
      have h1 : 64 - b % 64 ≤ j := by omega
      have h2 : j < 64 := by omega
      simp [h1, h2]
  · simp [hj]

theorem mixN_testBit (x m v j : Nat) (hx : x < 2 ^ 64) (hm : m < 2 ^ 64) : (mixN x m v).testBit j = ((x.testBit j && !m.testBit j) || v.testBit j) := by
  unfold mixN
  rw [Nat.testBit_or, Nat.testBit_and]
  congr 1
  by_cases hj : j < 64
  · have e : 2 ^ 64 - 1 - m = 2 ^ 64 - (m + 1) := by omega
    rw [e, Nat.testBit_two_pow_sub_succ hm]
    simp [hj]
  · rw [tb_big hx (by omega)]
    simp
theorem mixN_lt (x m v : Nat) (hx : x < 2 ^ 64) (hv : v < 2 ^ 64) : mixN x m v < 2 ^ 64 :=
  Nat.or_lt_two_pow (Nat.lt_of_le_of_lt Nat.and_le_left hx) hv

theorem bitAt_set (ws : List Nat) (k x b : Nat) (hk : k < ws.length) : bitAt (ws.set k x) b = if b / 64 = k then x.testBit (b % 64) else bitAt ws b := by
  unfold bitAt
  simp only [List.getD_eq_getElem?_getD, List.getElem?_set]
  by_cases h : b / 64 = k
  · rw [if_pos h, if_pos h.symm, if_pos hk]
    rfl
  · rw [if_neg h, if_neg (fun e => h e.symm)]

theorem two_pow_le_64 {k : Nat} (h : k ≤ 64) : 2 ^ k ≤ 2 ^ 64 := Nat.pow_le_pow_right (by omega) h
theorem div_lt_64 {v s : Nat} (h : v < 2 ^ 64) : v / 2 ^ s < 2 ^ 64 := Nat.lt_of_le_of_lt (Nat.div_le_self _ _) h

theorem setN_length (ws : List Nat) (width i v : Nat) : (setN ws width i v).length = ws.length := by
  unfold setN
  dsimp only
  split <;> simp

theorem setN_small (ws : List Nat) (hs : Small ws) (width i v : Nat) (hw : width ≤ 64) (hv : v < 2 ^ width) : Small (setN ws width i v) := by
  have hv64 : v < 2 ^ 64 := Nat.lt_of_lt_of_le hv (two_pow_le_64 hw)
  unfold setN
  dsimp only
  have h1 := hs.set_ (i * width / 64) (mixN_lt (ws.getD (i * width / 64) 0) ((2 ^ width - 1) * 2 ^ (i * width % 64) % 2 ^ 64) (v * 2 ^ (i * width % 64) % 2 ^ 64) (hs.at_ _) (Nat.mod_lt _ (by decide)))
  split
  · exact h1.set_ _ (mixN_lt _ _ _ (hs.at_ _) (div_lt_64 hv64))
  · exact h1

theorem setN_bitAt (ws : List Nat) (hs : Small ws) (width i v b : Nat) (h0 : 1 ≤ width) (hw : width ≤ 64) (hv : v < 2 ^ width) (hl : i * width + width ≤ 64 * ws.length) :
    bitAt (setN ws width i v) b = if i * width ≤ b ∧ b < i * width + width then v.testBit (b - i * width) else bitAt ws b := by
  have hv64 : v < 2 ^ 64 := Nat.lt_of_lt_of_le hv (two_pow_le_64 hw)
  have hm64 : 2 ^ width - 1 < 2 ^ 64 := by have := two_pow_le_64 hw; have := Nat.two_pow_pos width; omega
  unfold setN
  dsimp only
  generalize i * width = c at *
  have hq : c / 64 < ws.length := by omega
  have hvj : ∀ j, width ≤ j → v.testBit j = false := fun j hj => Nat.testBit_lt_two_pow (Nat.lt_of_lt_of_le hv (Nat.pow_le_pow_right (by omega) hj))
  have hfirst : ∀ b, bitAt (ws.set (c / 64) (mixN (ws.getD (c / 64) 0) ((2 ^ width - 1) * 2 ^ (c % 64) % 2 ^ 64) (v * 2 ^ (c % 64) % 2 ^ 64))) b =
      if c ≤ b ∧ b < c + width ∧ b / 64 = c / 64 then v.testBit (b - c) else bitAt ws b := by
    intro b
    rw [bitAt_set _ _ _ _ hq]
    by_cases hb : b / 64 = c / 64
    · rw [if_pos hb, mixN_testBit _ _ _ _ (hs.at_ _) (Nat.mod_lt _ (by decide)), Nat.testBit_mod_two_pow, tb_mul, tb_ones, Nat.testBit_mod_two_pow, tb_mul]
      have h64 : b % 64 < 64 := Nat.mod_lt _ (by decide)
      simp only [h64, decide_true, Bool.true_and]
      by_cases hcb : c ≤ b
      · have e1 : c % 64 ≤ b % 64 := by omega
        have e2 : b % 64 - c % 64 = b - c := by omega
        simp only [e1, e2, decide_true, Bool.true_and]
        by_cases hbw : b < c + width
        · have e3 : b - c < width := by omega
          simp only [e3, decide_true, Bool.not_true, Bool.and_false, Bool.false_or]
          rw [if_pos ⟨hcb, hbw, hb⟩]
        · have e3 : ¬ b - c < width := by omega
          rw [if_neg (fun h => hbw h.2.1), hvj _ (by omega)]
          simp only [e3, decide_false, Bool.not_false, Bool.and_true, Bool.or_false]
          unfold bitAt; rw [hb]
      · have e1 : ¬ c % 64 ≤ b % 64 := by omega
        rw [if_neg (fun h => hcb h.1)]
        simp only [e1, decide_false, Bool.false_and, Bool.not_false, Bool.and_true, Bool.or_false]
        unfold bitAt; rw [hb]
    · rw [if_neg hb, if_neg (fun h => hb h.2.2)]
  split
  · rename_i hlong
    have hq1 : c / 64 + 1 < ws.length := by omega
    rw [bitAt_set _ _ _ _ (by rw [List.length_set]; exact hq1)]
    by_cases hb : b / 64 = c / 64 + 1
    · rw [if_pos hb, mixN_testBit _ _ _ _ (hs.at_ _) (div_lt_64 hm64), tb_div, tb_ones, tb_div]
      have e1 : 64 - c % 64 + b % 64 = b - c := by omega
      rw [e1]
      by_cases hbw : b < c + width
      · have e3 : b - c < width := by omega
        rw [if_pos ⟨by omega, hbw⟩]
        simp [e3]
      · have e3 : ¬ b - c < width := by omega
        rw [if_neg (fun h => hbw h.2), hvj _ (by omega)]
        simp only [e3, decide_false, Bool.not_false, Bool.and_true, Bool.or_false]
        unfold bitAt; rw [hb]
    · rw [if_neg hb, hfirst]
      by_cases hin : c ≤ b ∧ b < c + width
      · rw [if_pos hin, if_pos ⟨hin.1, hin.2, by omega⟩]
      · rw [if_neg hin, if_neg (fun h => hin ⟨h.1, h.2.1⟩)]
  · rename_i hshort
    rw [hfirst]
    by_cases hin : c ≤ b ∧ b < c + width
    · rw [if_pos hin, if_pos ⟨hin.1, hin.2, by omega⟩]
    · rw [if_neg hin, if_neg (fun h => hin ⟨h.1, h.2.1⟩)]

/-- These words are the list of the n numbers x of that width. -/
structure Holds (ws : List Nat) (width n : Nat) (x : Nat → Nat) : Prop where
  w1 : 1 ≤ width
  w64 : width ≤ 64
  len : ws.length = (n * width + 63) / 64
  small : Small ws
  fits : ∀ i, i < n → x i < 2 ^ width
  bits : ∀ i j, i < n → j < width → bitAt ws (i * width + j) = (x i).testBit j
  behind : ∀ b, n * width ≤ b → bitAt ws b = false

theorem mul_room {i n width : Nat} (h : i < n) : i * width + width ≤ n * width := by
  have := Nat.mul_le_mul_right width (show i + 1 ≤ n from h)
  rw [Nat.add_mul, Nat.one_mul] at this
  exact this

theorem Holds.get {ws : List Nat} {width n : Nat} {x : Nat → Nat} (h : Holds ws width n x) {i : Nat} (hi : i < n) : getN ws width i = x i := by
  apply Nat.eq_of_testBit_eq
  intro j
  rw [getN_testBit ws h.small width i j h.w64]
  by_cases hj : j < width
  · simp only [hj, decide_true, Bool.true_and]
    exact h.bits i j hi hj
  · simp only [hj, decide_false, Bool.false_and]
    exact (Nat.testBit_lt_two_pow (Nat.lt_of_lt_of_le (h.fits i hi) (Nat.pow_le_pow_right (by omega) (by omega)))).symm

theorem other_number {i k width a : Nat} (hik : i ≠ k) (ha : a < width) (hb : k * width ≤ i * width + a) (hb' : i * width + a < k * width + width) : False := by
  rcases Nat.lt_or_gt_of_ne hik with h | h
  · have := mul_room (width := width) h; omega
  · have := mul_room (width := width) h; omega

theorem Holds.set_ {ws : List Nat} {width n : Nat} {x : Nat → Nat} (h : Holds ws width n x) {i v : Nat} (hi : i < n) (hv : v < 2 ^ width) :
    Holds (setN ws width i v) width n (fun k => if k = i then v else x k) := by
  have hroom := mul_room (width := width) hi
  have hl : i * width + width ≤ 64 * ws.length := by rw [h.len]; omega
  refine ⟨h.w1, h.w64, by rw [setN_length]; exact h.len, setN_small ws h.small width i v h.w64 hv, ?_, ?_, ?_⟩
  · intro k hk
    show (if k = i then v else x k) < 2 ^ width
    split
    · exact hv
    · exact h.fits k hk
  · intro k j hk hj
    rw [setN_bitAt ws h.small width i v _ h.w1 h.w64 hv hl]
    show _ = (if k = i then v else x k).testBit j
    by_cases e : k = i
    · subst e
      rw [if_pos ⟨by omega, by omega⟩, if_pos rfl]
      congr 1; omega
    · rw [if_neg e, if_neg]
      · exact h.bits k j hk hj
      · intro hh
        exact other_number (a := j) e hj hh.1 hh.2
  · intro b hb
    rw [setN_bitAt ws h.small width i v _ h.w1 h.w64 hv hl, if_neg (by omega)]
    exact h.behind b hb

theorem small_zeros (k : Nat) : Small (List.replicate k 0) := by
  intro x hx
  rw [List.eq_of_mem_replicate hx]; decide
theorem bitAt_zeros (k b : Nat) : bitAt (List.replicate k 0) b = false := by
  unfold bitAt
  rw [List.getD_eq_getElem?_getD, List.getElem?_replicate]
  split <;> simp
theorem holds_new (width n : Nat) (h1 : 1 ≤ width) (h64 : width ≤ 64) : Holds (List.replicate ((n * width + 63) / 64) 0) width n (fun _ => 0) :=
  ⟨h1, h64, by simp, small_zeros _, fun _ _ => Nat.two_pow_pos _, fun _ _ _ _ => by rw [bitAt_zeros]; simp, fun _ _ => bitAt_zeros _ _⟩

end Go.Proofs.Ythbnojhcmfhnhaa.Pl
