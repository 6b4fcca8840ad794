/- Words that are read at any slice: contracts of copyOf, justHolds and From of package pack for them, and of vecOf of package sparse. -/
import Derived.Test.YtmcoehimjfgakaaJust
import Derived.Test.YtmcoehimjfgakaaVecNew
namespace Go.Proofs.Ytmcoehimjfgakaa
open Go.RowKit

/-- words that a slice reads as, wherever it begins. -/
def Rd (w : World) (A : Option Addr) (ws : List Nat) : Prop :=
  ∀ k, k < ws.length → ∃ ad : Addr, A = some ad ∧ ad.block < w.heap.size ∧ w.cell? (ad.add k) = some (.int .u64 ((ws.getD k 0 : Nat) : Int))
theorem add_block_ (a : Addr) (j : Nat) : (a.add j).block = a.block := by unfold Addr.add; split <;> rfl
theorem Rd.keep {w w' : World} {A : Option Addr} {ws : List Nat} (h : Rd w A ws) (hb : Below w.heap.size w w') : Rd w' A ws := fun k hk => by
  obtain ⟨ad, e, h1, h2⟩ := h k hk
  exact ⟨ad, e, Nat.lt_of_lt_of_le h1 hb.size, (hb.cell (by rw [add_block_]; exact h1)).trans h2⟩
theorem Rd.nil (w : World) (A : Option Addr) : Rd w A [] := fun _ hk => absurd hk (Nat.not_lt_zero _)
theorem Rd.of_src {w : World} {b : Nat} {ws : List Nat} (h : Src w b ws) : Rd w (some ⟨b, 0, none⟩) ws := fun k hk => by
  refine ⟨_, rfl, h.1, ?_⟩
  have e : (⟨b, 0, none⟩ : Addr).add k = ⟨b, k, none⟩ := by unfold Addr.add; split <;> simp_all
  rw [e]
  exact h.2 k hk
theorem Rd.take {w : World} {A : Option Addr} {ws : List Nat} (h : Rd w A ws) (k : Nat) : Rd w A (ws.take k) := fun j hj => by
  rw [List.length_take] at hj
  obtain ⟨ad, e, h1, h2⟩ := h j (by omega)
  refine ⟨ad, e, h1, ?_⟩
  have e2 : (ws.take k).getD j 0 = ws.getD j 0 := by
    rw [List.getD_eq_getElem?_getD, List.getD_eq_getElem?_getD, List.getElem?_take, if_pos (by omega)]
  rw [e2]
  exact h2

set_option maxHeartbeats 400000 in
theorem copyOf_rd (ws : List Nat) (A : Option Addr) (c : Nat) (w : World) (hL : ws.length ≤ 4194304) (h : Rd w A ws) :
    Calls Try.prog 59 #[.slice A ws.length c] w (CopyPost w ws) := by
  obtain ⟨L, hLL⟩ : ∃ L, ws.length = L := ⟨_, rfl⟩
  have HL := Lib.hid hLL
  rw [hLL] at hL ⊢
  clear hLL
  have hmk := make_words L hL
  obtain ⟨w2, hcp, hl2, hb2⟩ : ∃ w2, (Builtin.copy_ #[33, 33] 3 #[.slice (some ⟨w.heap.size, 0, none⟩) L L, .slice A L c]).run Try.prog (w.alloc (.cells (wcells (List.replicate L 0)).toArray 43)) = .ok (.int .i64 (L : Int)) w2 ∧ Hid (Lies w2 w.heap.size 43 (wcells ws)) ∧ Below w.heap.size w w2 := by
    have hB := (Below.refl w.heap.size w).alloc (Nat.le_refl _) (.cells (wcells (List.replicate L 0)).toArray 43)
    by_cases h0 : L = 0
    · subst h0
      have hws : ws = [] := List.length_eq_zero_iff.1 HL.out
      have hrun := run_copy_none (P := Try.prog) (w.alloc (.cells (wcells (List.replicate 0 0)).toArray 43)) 33 33 3 43 (some ⟨w.heap.size, 0, none⟩) A 0 0 0 c Try.underlying33 size_u64 rfl
      refine ⟨_, hrun, ?_, hB⟩
      rw [hws]
      exact lies_new w 43 _
    · obtain ⟨ad, rfl, _, _⟩ := h 0 (by have := HL.out; omega)
      have hsrc : ∀ (j : Nat) (v : Value), (wcells ws)[j]? = some v → (w.alloc (.cells (wcells (List.replicate L 0)).toArray 43)).cell? (ad.add j) = some v := fun j v hj => by
        have hl : j < ws.length := by
          rw [← wcells_length]
          exact (List.getElem?_eq_some_iff.1 hj).1
        obtain ⟨ad', e, h1, h2⟩ := h j hl
        cases e
        rw [hB.cell (by rw [add_block_]; exact h1), h2, ← hj]
        exact (wcells_at ws j hl).symm
      have hrun := run_copy_row (P := Try.prog) _ 33 33 3 43 w.heap.size 0 L L ad L c (wcells (List.replicate L 0)).toArray 43 (wcells ws) Try.underlying33 size_u64
        (lies_new w 43 _) (by rw [wcells_length, HL.out]; exact (Nat.min_self L).symm) hsrc (by simp [wcells_length, HL.out]) (wcells_one ws)
      rw [wcells_length, HL.out] at hrun
      refine ⟨_, hrun, ?_, ?_⟩
      · have e := setRow_heap (w.alloc (.cells (wcells (List.replicate L 0)).toArray 43)) w.heap.size (wcells (List.replicate L 0)).toArray (wcells ws).toArray 43 (0, 0) (lies_new w 43 _)
        have e1 : (List.take 0 (wcells (List.replicate L 0)).toArray.toList ++ wcells ws ++ List.drop (0 + L) (wcells (List.replicate L 0)).toArray.toList) = wcells ws := by
          simp [wcells_length]
        show Lies _ _ _ _
        unfold Lies
        rw [e1]
        exact e
      · exact below_setRow hB (Nat.le_refl _) _
  go_enter Try.func59, Try.ntmps59
  go_wp2
  go_ret
  exact ⟨w.heap.size, by rw [HL.out]; rfl, Nat.le_refl _, hl2.out, hb2⟩

set_option maxHeartbeats 800000 in
theorem justHolds_rd (ws : List Nat) (A : Option Addr) (c count : Nat) (w : World) (h : Rd w A ws) (hc : count ≤ 268435456) (hmax : ws.length ≤ 9223372036854775807) :
    Calls Try.prog 60 #[.slice A ws.length c, .int .i64 count] w fun e w' => e = .returned (.bool (justB ws count)) ∧ w = w' := by
  obtain ⟨L, hLL⟩ : ∃ L, ws.length = L := ⟨_, rfl⟩
  obtain ⟨r, hr⟩ : ∃ r, count % 64 = r := ⟨_, rfl⟩
  obtain ⟨k, hk⟩ : ∃ k, (count + 63) / 64 = k := ⟨_, rfl⟩
  have hri : (count : Int) % 64 = (r : Int) := by omega
  have hr64 : r < 64 := by omega
  have hW : ∀ W, Hid (Calls Try.prog 48 #[.int .i64 (count : Int)] W fun e w' => e = .returned (.int .i64 (k : Int)) ∧ W = w') := fun W => by rw [← hk]; exact Lib.hid (wordsOf_any _ hc W)
  by_cases h1 : L = k
  · by_cases h2 : r = 0
    · have HB := Lib.hid (show justB ws count = true by unfold justB; simp [hLL, hr, hk, h1, h2])
      rw [hLL] at hmax ⊢
      have t1 : ((L : Int) != (k : Int)) = false := by simp [h1]
      have t2 : (((count : Int) % 64) == 0) = true := by simp; omega
      clear hLL hr hk hri h1 h2
      go_enter Try.func60, Try.ntmps60
      go_wp2_with (go_at_call 48; refine (hW _).out.mono ?_; rintro e w' ⟨rfl, rfl⟩)
      go_ret
      rw [HB.out]
      exact ⟨rfl, rfl⟩
    · have hL1 : 1 ≤ L := by omega
      obtain ⟨x, hx⟩ : ∃ x, ws.getD (L - 1) 0 = x := ⟨_, rfl⟩
      obtain ⟨ad, rfl, _, hcell⟩ := h (L - 1) (by omega)
      rw [hx] at hcell
      have HB := Lib.hid (show justB ws count = decide (x / 2 ^ r = 0) by unfold justB; simp only [hLL, hr, hk, h1, h2, ← hx]; simp)
      rw [hLL] at hmax ⊢
      have t1 : ((L : Int) != (k : Int)) = false := by simp [h1]
      have t2 : ((count : Int) % 64 == 0) = false := by rw [beq_eq_false_iff_ne]; omega
      have t3 : ((L : Int) - 1) = ((L - 1 : Nat) : Int) := by omega
      have hrr := Lib.hid hr
      clear hLL hr hk hri h1 h2
      go_enter Try.func60, Try.ntmps60
      go_wp2_with (go_at_call 48; refine (hW _).out.mono ?_; rintro e w' ⟨rfl, rfl⟩)
      go_ret
      rw [HB.out, ← zero_test, ← hrr.out]
      exact ⟨rfl, rfl⟩
  · have HB := Lib.hid (show justB ws count = false by unfold justB; simp [hLL, hk, h1])
    rw [hLL] at hmax ⊢
    have t1 : ((L : Int) != (k : Int)) = true := by simp; omega
    clear hLL hr hk hri h1
    go_enter Try.func60, Try.ntmps60
    go_wp2_with (go_at_call 48; refine (hW _).out.mono ?_; rintro e w' ⟨rfl, rfl⟩)
    go_ret
    rw [HB.out]
    exact ⟨rfl, rfl⟩

set_option maxHeartbeats 400000 in
theorem from_rd_no (width n c : Nat) (A : Option Addr) (ws : List Nat) (h1 : 1 ≤ width) (h64 : width ≤ 64) (hn : n ≤ 4194304) (w : World) (h : Rd w A ws) (hmax : ws.length ≤ 9223372036854775807) (hj : justB ws (width * n) = false) :
    Calls Try.prog 44 #[.int .i64 width, .int .i64 n, .slice A ws.length c] w fun e w' => e = .returned (.tuple #[.pointer none, .int .i64 10]) ∧ w = w' := by
  have hb : rightB width n = true := by unfold rightB; simp; omega
  obtain ⟨hb1, hb2, hb3⟩ := prod_facts h64 hn
  have HJ : ∀ W, Rd W A ws → Hid (Calls Try.prog 60 #[.slice A ws.length c, .int .i64 ((width : Int) * (n : Int))] W fun e w' => e = .returned (.bool false) ∧ W = w') := fun W hW => by
    rw [← Int.natCast_mul, ← hj]; exact Lib.hid (justHolds_rd ws A c _ W hW hb3 hmax)
  have H := Lib.hid h
  clear hj h
  go_enter Try.func44, Try.ntmps44
  go_wp2_with (first
    | (go_at_call 47; refine (mayBe_any width n _).mono ?_; rintro e w' ⟨rfl, rfl⟩)
    | (go_at_call 60; refine (HJ _ H.out).out.mono ?_; rintro e w' ⟨rfl, rfl⟩))
  go_ret2
  exact ⟨rfl, rfl⟩

set_option maxHeartbeats 400000 in
theorem from_rd (width n c : Nat) (A : Option Addr) (ws : List Nat) (h1 : 1 ≤ width) (h64 : width ≤ 64) (hn : n ≤ 4194304) (w : World) (h : Rd w A ws) (hj : justB ws (width * n) = true) :
    Calls Try.prog 44 #[.int .i64 width, .int .i64 n, .slice A ws.length c] w (NewPost w width n ws) := by
  have hb : rightB width n = true := by unfold rightB; simp; omega
  obtain ⟨hb1, hb2, hb3⟩ := prod_facts h64 hn
  have hL : ws.length ≤ 4194304 := by
    unfold justB at hj
    simp only [Bool.and_eq_true, decide_eq_true_eq] at hj
    omega
  have HJ : ∀ W, Rd W A ws → Hid (Calls Try.prog 60 #[.slice A ws.length c, .int .i64 ((width : Int) * (n : Int))] W fun e w' => e = .returned (.bool true) ∧ W = w') := fun W hW => by
    rw [← Int.natCast_mul, ← hj]; exact Lib.hid (justHolds_rd ws A c _ W hW hb3 (by omega))
  have HC := Lib.hid (copyOf_rd ws A c w hL h)
  have H := Lib.hid h
  clear hj h
  go_enter Try.func44, Try.ntmps44
  go_wp2_with (first
    | (go_at_call 47; refine (mayBe_any width n _).mono ?_; rintro e w' ⟨rfl, rfl⟩)
    | (go_at_call 60; refine (HJ _ H.out).out.mono ?_; rintro e w' ⟨rfl, rfl⟩)
    | (go_at_call 59; refine HC.out.mono ?_; rintro e w1 ⟨gs, rfl, hg1, hl1, hb1⟩))
  go_ret2
  refine ⟨w1.heap.size, gs, rfl, hb1.size, hg1, ⟨?_, hl1.alloc _⟩, hb1.alloc hb1.size _⟩
  exact lies_new w1 71 [.int .i64 (width : Int), .int .i64 (n : Int), .slice (some ⟨gs, 0, none⟩) ws.length ws.length]

theorem holds_just {ws : List Nat} {k m : Nat} (hs : Pl.Small ws) (h1 : 1 ≤ k) (h64 : k ≤ 64) (hj : justB ws (k * m) = true) : Pl.Holds ws k m (Pl.getN ws k) := by
  have hc : m * k = k * m := Nat.mul_comm _ _
  unfold justB at hj
  simp only [Bool.and_eq_true, Bool.or_eq_true, decide_eq_true_eq] at hj
  obtain ⟨hl, hx⟩ := hj
  refine ⟨h1, h64, by rw [hc]; exact hl, hs, fun i _ => ?_, fun i j _ hj => ?_, fun b hb => ?_⟩
  · unfold Pl.getN
    exact Nat.and_lt_two_pow _ (by have := Nat.two_pow_pos k; omega)
  · rw [Pl.getN_testBit ws hs k i j h64]
    simp [hj]
  · rw [hc] at hb
    unfold Pl.bitAt
    by_cases hin : b / 64 < ws.length
    · have hq : b / 64 = ws.length - 1 := by omega
      have hr : ¬ k * m % 64 = 0 := by omega
      rcases hx with hx | hx
      · exact absurd hx hr
      · rw [hq]
        have e : b % 64 = k * m % 64 + (b % 64 - k * m % 64) := by omega
        rw [e, ← Pl.tb_div, hx]
        simp
    · rw [List.getD_eq_getElem?_getD, List.getElem?_eq_none (by omega)]
      simp

/-- two lists of words with the same bits are one. -/
theorem words_same {a b : List Nat} (hl : a.length = b.length) (ha : Pl.Small a) (hb : Pl.Small b) (h : ∀ i, Pl.bitAt a i = Pl.bitAt b i) : a = b := by
  apply List.ext_getElem hl
  intro k h1 h2
  apply Nat.eq_of_testBit_eq
  intro j
  have ea : a.getD k 0 = a[k] := by rw [List.getD_eq_getElem?_getD, List.getElem?_eq_getElem h1]; rfl
  have eb : b.getD k 0 = b[k] := by rw [List.getD_eq_getElem?_getD, List.getElem?_eq_getElem h2]; rfl
  by_cases hj : j < 64
  · have hi := h (64 * k + j)
    unfold Pl.bitAt at hi
    have e1 : (64 * k + j) / 64 = k := by omega
    have e2 : (64 * k + j) % 64 = j := by omega
    rw [e1, e2, ea, eb] at hi
    exact hi
  · rw [← ea, ← eb, Pl.tb_big (ha.at_ k) (by omega), Pl.tb_big (hb.at_ k) (by omega)]
theorem Bits.unique {a b : List Nat} {n : Nat} {f : Nat → Bool} (ha : Bits a n f) (hb : Bits b n f) : a = b :=
  words_same (by rw [ha.len, hb.len]) ha.small hb.small fun i => by
    by_cases hi : i < n
    · rw [ha.same i hi, hb.same i hi]
    · rw [ha.behind i (by omega), hb.behind i (by omega)]
theorem Bits.of_just {ws : List Nat} {n : Nat} (hs : Pl.Small ws) (hn : n ≤ 4194304) (hj : justB ws n = true) : Bits ws n (Pl.bitAt ws) := by
  have h := holds_just (k := 1) (m := n) hs (by decide) (by decide) (by rw [Nat.one_mul]; exact hj)
  refine ⟨hn, ?_, hs, fun _ _ => rfl, fun i hi => h.behind i (by omega)⟩
  have := h.len
  omega
theorem Bits.just {ws : List Nat} {n : Nat} {f : Nat → Bool} (h : Bits ws n f) : justB ws n = true := by
  have hh : Pl.Holds ws 1 n (Pl.getN ws 1) := ⟨by decide, by decide, by have := h.len; omega, h.small, fun i _ => by
      unfold Pl.getN
      exact Nat.and_lt_two_pow _ (by decide), fun i j _ hj => by
      rw [Pl.getN_testBit ws h.small 1 i j (by decide)]
      simp [hj], fun b hb => h.behind b (by omega)⟩
  have e := just_of_holds hh
  rw [Nat.mul_one] at e
  exact e
theorem Bits.agree {ws : List Nat} {n : Nat} {f f' : Nat → Bool} (h : Bits ws n f) (e : ∀ j, j < n → f j = f' j) : Bits ws n f' := ⟨h.few, h.len, h.small, fun i hi => (h.same i hi).trans (e i hi), h.behind⟩
theorem Vc.agree {w : World} {B g gw n : Nat} {av : Value} {ws : List Nat} {f f' : Nat → Bool} (h : Vc w B g gw av n ws f) (e : ∀ j, j < n → f j = f' j) : Vc w B g gw av n ws f' := by
  refine ⟨?_, h.body, fun k hk => ?_, h.bits.agree e, h.lo⟩
  · rw [← Pl.cnt_congr e]; exact h.head
  · obtain ⟨ga, c, h1, h2, h3, h4⟩ := h.row k hk
    refine ⟨ga, c, h1, h2, h3, ?_⟩
    rw [h4, Pl.cnt_congr (g := f') fun j hj => e j (by have := h.bits.len; omega)]
theorem Vc.down {w : World} {B B' g gw n : Nat} {av : Value} {ws : List Nat} {f : Nat → Bool} (h : Vc w B g gw av n ws f) (hB : B' ≤ B) : Vc w B' g gw av n ws f :=
  ⟨h.head, h.body, fun k hk => by
    obtain ⟨ga, c, h1, h2, h3, h4⟩ := h.row k hk
    exact ⟨ga, c, h1, Nat.le_trans hB h2, h3, h4⟩, h.bits, Nat.le_trans hB h.lo.1, Nat.le_trans hB h.lo.2⟩

/-- what vecOf leaves. -/
def VecOf (w : World) (n : Nat) (ws : List Nat) (e : Ending) (w' : World) : Prop :=
  ∃ (g gw : Nat) (av : Value), e = .returned (.tuple #[.pointer (some ⟨g, 0, none⟩), .int .i64 0]) ∧ Vc w' w.heap.size g gw av n ws (Pl.bitAt ws) ∧ Below w.heap.size w w'

set_option maxHeartbeats 400000 in
theorem vecOf_any (n c : Nat) (A : Option Addr) (ws : List Nat) (hn : n ≤ 4194304) (w : World) (h : Rd w A ws) (hs : Pl.Small ws) (hj : justB ws n = true) :
    Calls Try.prog 52 #[.int .i64 n, .slice A ws.length c] w (VecOf w n ws) := by
  have hj1 : justB ws (1 * n) = true := by rw [Nat.one_mul]; exact hj
  have HF := Lib.hid (from_rd 1 n c A ws (by decide) (by decide) hn w h hj1)
  have HB := Lib.hid (Bits.of_just hs hn hj)
  have hh := Lib.hid (holds_just (k := 1) (m := n) hs (by decide) (by decide) hj1)
  clear hj hj1 h
  go_enter Try.func52, Try.ntmps52
  go_wp2_with fail
  refine HF.out.mono ?_
  rintro e w1 ⟨g, gs, rfl, hg, hgs, hp, hb⟩
  have hfull : Full w1 g gs 1 n ws (Pl.getN ws 1) := ⟨hp, hh.out, hn⟩
  have HV := Lib.hid (vnew_any hfull)
  clear hp hfull HF
  go_wp2_with fail
  refine HV.out.mono ?_
  rintro e w2 ⟨g2, gw2, av2, ws2, rfl, hv, hb2⟩
  go_wp2_with fail
  go_ret2
  have hv2 := hv.agree (f' := Pl.bitAt ws) fun j hj => by
    have e := hh.out.bits j 0 hj (by decide)
    rw [Nat.mul_one, Nat.add_zero] at e
    exact e.symm
  have ews := hv2.bits.unique HB.out
  rw [ews] at hv2
  exact ⟨g2, gw2, av2, rfl, hv2.down hb.size, hb.trans (hb2.mono hb.size)⟩
set_option maxHeartbeats 400000 in
theorem vecOf_no (n c : Nat) (A : Option Addr) (ws : List Nat) (hn : n ≤ 4194304) (w : World) (h : Rd w A ws) (hmax : ws.length ≤ 9223372036854775807) (hj : justB ws n = false) :
    Calls Try.prog 52 #[.int .i64 n, .slice A ws.length c] w fun e w' => e = .returned (.tuple #[.pointer none, .int .i64 10]) ∧ w = w' := by
  have hj1 : justB ws (1 * n) = false := by rw [Nat.one_mul]; exact hj
  have HF := Lib.hid (from_rd_no 1 n c A ws (by decide) (by decide) hn w h hmax hj1)
  clear hj hj1 h
  go_enter Try.func52, Try.ntmps52
  go_wp2_with fail
  refine HF.out.mono ?_
  rintro e w' ⟨rfl, rfl⟩
  go_wp2_with fail
  go_ret2
  exact ⟨rfl, rfl⟩
end Go.Proofs.Ytmcoehimjfgakaa
