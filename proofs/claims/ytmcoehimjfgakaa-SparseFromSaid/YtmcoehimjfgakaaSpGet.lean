/- Contracts of Len, Bound, upTo, At of a sparse list, by its places. -/
import Derived.Test.YtmcoehimjfgakaaSp
namespace Go.Proofs.Ytmcoehimjfgakaa
open Go.RowKit

/-- a sparse list with the m places l, as it lies. -/
structure Spl (w : World) (B g h1 h2 gl gls n k m : Nat) (hs ls : List Nat) (l : Nat → Nat) : Prop where
  raw : Raw w B g h1 h2 gl gls n k m (Pl.bitsOf n m (2 ^ k)) hs ls (Pl.hi l (2 ^ k) m) (fun i => l i % 2 ^ k)
  rise : Pl.Rise n m l
  pos : 1 ≤ m

theorem below_drew' {B : Nat} {a w : World} (h : Below B a w) : Below B a w.drew := ⟨h.os, h.tape, h.output, h.size, h.block⟩

/-- what Words leaves: both rows in new memory. -/
def WordsOf (w : World) (hs ls : List Nat) (e : Ending) (w' : World) : Prop :=
  ∃ a b : Nat, e = .returned (.tuple #[.slice (some ⟨a, 0, none⟩) hs.length hs.length, .slice (some ⟨b, 0, none⟩) ls.length ls.length]) ∧ Lies w' a 43 (wcells hs) ∧ Lies w' b 43 (wcells ls) ∧ w.heap.size ≤ a ∧ w.heap.size ≤ b ∧ Below w.heap.size w w'

section
variable {w w' : World} {B g h1 h2 gl gls n k m : Nat} {hs ls : List Nat} {l : Nat → Nat}
theorem Spl.keep (h : Spl w B g h1 h2 gl gls n k m hs ls l) (hb : Below w.heap.size w w') : Spl w' B g h1 h2 gl gls n k m hs ls l := ⟨h.raw.keep hb, h.rise, h.pos⟩
theorem Spl.old {q : Nat} (h : Spl w B g h1 h2 gl gls n k m hs ls l) (hb : w.grownBy w' (some q)) (hq : q < B) : Spl w' B g h1 h2 gl gls n k m hs ls l := ⟨h.raw.old hb hq, h.rise, h.pos⟩
theorem Spl.drewN (h : Spl w B g h1 h2 gl gls n k m hs ls l) (q : Nat) : Spl (w.drewN q) B g h1 h2 gl gls n k m hs ls l := ⟨h.raw.drewN q, h.rise, h.pos⟩
theorem Spl.few_places (h : Spl w B g h1 h2 gl gls n k m hs ls l) : m ≤ 4194304 := Nat.le_trans h.rise.few h.raw.few
theorem Spl.ones (h : Spl w B g h1 h2 gl gls n k m hs ls l) : Pl.cnt (Pl.hi l (2 ^ k) m) (Pl.bitsOf n m (2 ^ k)) = m := h.rise.ones
theorem Spl.zeros (h : Spl w B g h1 h2 gl gls n k m hs ls l) : Pl.cnt (inv (Pl.hi l (2 ^ k) m)) (Pl.bitsOf n m (2 ^ k)) = (n - 1) / 2 ^ k + 1 := h.rise.noughts

theorem slen_any (h : Spl w B g h1 h2 gl gls n k m hs ls l) : Calls Try.prog 11 #[.pointer (some ⟨g, 0, none⟩)] w fun e w' => e = .returned (.int .i64 (m : Int)) ∧ w = w' := by
  have hd4 := h.raw.head.cell 4
  have HL := Lib.hid (len_any h.raw.low.pk)
  clear h
  go_enter Try.func11, Try.ntmps11
  go_wp2_with fail
  with_reducible refine HL.out.mono ?_
  rintro e w' ⟨rfl, rfl⟩
  go_wp2_with fail
  go_ret
  exact ⟨rfl, rfl⟩
theorem slen_nil (w : World) : Calls Try.prog 11 #[.pointer none] w fun e w' => e = .returned (.int .i64 0) ∧ w = w' := by
  go_enter Try.func11, Try.ntmps11
  go_wp2
  go_ret
  exact ⟨rfl, rfl⟩
theorem sbound_any (h : Spl w B g h1 h2 gl gls n k m hs ls l) : Calls Try.prog 12 #[.pointer (some ⟨g, 0, none⟩)] w fun e w' => e = .returned (.int .i64 (n : Int)) ∧ w = w' := by
  have hd0 := h.raw.head.cell 0
  clear h
  go_enter Try.func12, Try.ntmps12
  go_wp2
  go_ret
  exact ⟨rfl, rfl⟩
theorem sbound_nil (w : World) : Calls Try.prog 12 #[.pointer none] w fun e w' => e = .returned (.int .i64 0) ∧ w = w' := by
  go_enter Try.func12, Try.ntmps12
  go_wp2
  go_ret
  exact ⟨rfl, rfl⟩

set_option maxHeartbeats 800000 in
theorem upTo_any (h : Spl w B g h1 h2 gl gls n k m hs ls l) (j : Nat) (hj : j ≤ (n - 1) / 2 ^ k + 1) :
    Calls Try.prog 32 #[.pointer (some ⟨g, 0, none⟩), .int .i64 ((j : Int) - 1)] w fun e w' => e = .returned (.int .i64 ((Pl.under l (2 ^ k) m j : Nat) : Int)) ∧ Below w.heap.size w w' := by
  have hd2 := h.raw.head.cell 2
  have hd3 := h.raw.head.cell 3
  have hz := h.zeros
  have hN := hnought_any h.raw.high ((j : Int) - 1) (by omega)
  have hsel : Pl.sel (inv (Pl.hi l (2 ^ k) m)) (Pl.bitsOf n m (2 ^ k)) ((j : Int) - 1) = (j : Int) - 1 + ((Pl.under l (2 ^ k) m j : Nat) : Int) := by
    cases j with
    | zero =>
      rw [Pl.sel_out (by omega), Pl.under_zero]
      rfl
    | succ i =>
      have e := h.rise.sel_nought (P := 2 ^ k) (k := i) (by omega)
      have e1 : (((i + 1 : Nat) : Int) - 1) = (i : Int) := by omega
      rw [e1]
      refine Eq.trans (show _ = _ from e) ?_
      omega
  rw [hsel] at hN
  have hu := Pl.under_le l (2 ^ k) m j
  have hm := h.few_places
  have hn := h.raw.few
  have hq : (n - 1) / 2 ^ k ≤ n - 1 := Nat.div_le_self _ _
  unfold hv at hN
  have HN := Lib.hid hN
  generalize Pl.under l (2 ^ k) m j = u at HN hu ⊢
  clear hN hz hsel h
  have hj2 : j ≤ 4194305 := by omega
  clear hj hq
  go_enter Try.func32, Try.ntmps32
  go_wp2_with fail
  with_reducible refine HN.out.mono ?_
  rintro e w1 ⟨rfl, hb⟩
  go_wp2_with fail
  go_ret
  exact ⟨ret_i64 (by omega), hb⟩

set_option maxHeartbeats 800000 in
theorem sat_in (h : Spl w B g h1 h2 gl gls n k m hs ls l) (i : Nat) (hi : i < m) :
    Calls Try.prog 16 #[.pointer (some ⟨g, 0, none⟩), .int .i64 (i : Int)] w fun e w' => e = .returned (.int .i64 ((l i : Nat) : Int)) ∧ Below w.heap.size w w' := by
  have hd2 := h.raw.head.cell 2
  have hd3 := h.raw.head.cell 3
  have HL := Lib.hid (slen_any h)
  have hO := hone_any h.raw.high i (by rw [h.ones]; exact hi)
  rw [h.rise.sel_pos hi] at hO
  have hlt := h.rise.below i hi
  have hn := h.raw.few
  have hm := h.few_places
  have hq : l i / 2 ^ k ≤ l i := Nat.div_le_self _ _
  obtain ⟨q0, hq0⟩ : ∃ q0, l i / 2 ^ k = q0 := ⟨_, rfl⟩
  obtain ⟨b, hb⟩ : ∃ b, q0 + i = b := ⟨_, rfl⟩
  rw [hq0, hb] at hO
  rw [hq0] at hq
  unfold hv at hO
  have HO := Lib.hid hO
  have HP : ∀ W, Below w.heap.size w W → Hid (Calls Try.prog 36 #[.pointer (some ⟨g, 0, none⟩), .int .i64 (i : Int), .int .i64 (b : Int)] W fun e w' => e = .returned (.int .i64 ((l i : Nat) : Int)) ∧ Below W.heap.size W w') := fun W hW => by
    have c := place_raw (h.keep hW).raw i b hi (by omega) (by omega) (Nat.mod_lt _ (Nat.two_pow_pos k))
    have e1 : (b - i) * 2 ^ k + l i % 2 ^ k = l i := by
      rw [show b - i = q0 by omega, ← hq0, Nat.mul_comm]
      exact Nat.div_add_mod _ _
    rw [e1] at c
    exact Lib.hid c
  clear hO h hb hq hq0
  generalize l i = z at HP hlt
  go_enter Try.func16, Try.ntmps16
  go_wp2_with fail
  with_reducible refine HL.out.mono ?_
  rintro e w' ⟨rfl, rfl⟩
  go_wp2_with fail
  with_reducible refine HO.out.mono ?_
  rintro e w1 ⟨rfl, hb1⟩
  go_wp2_with fail
  with_reducible refine (HP _ hb1).out.mono ?_
  rintro e w2 ⟨rfl, hb2⟩
  go_wp2_with fail
  go_ret
  exact ⟨rfl, hb1.trans (hb2.mono hb1.size)⟩
theorem sat_out (h : Spl w B g h1 h2 gl gls n k m hs ls l) (i : Int) (hi : i < 0 ∨ (m : Int) ≤ i) :
    Calls Try.prog 16 #[.pointer (some ⟨g, 0, none⟩), .int .i64 i] w fun e w' => e = .returned (.int .i64 (-1)) ∧ w = w' := by
  have HL := Lib.hid (slen_any h)
  clear h
  by_cases h0 : i < 0
  · go_enter Try.func16, Try.ntmps16
    go_wp2_with fail
    go_ret
    exact ⟨rfl, rfl⟩
  · go_enter Try.func16, Try.ntmps16
    go_wp2_with fail
    with_reducible refine HL.out.mono ?_
    rintro e w' ⟨rfl, rfl⟩
    go_wp2_with fail
    go_ret
    exact ⟨rfl, rfl⟩

set_option maxRecDepth 100000 in
set_option maxHeartbeats 1600000 in
theorem swords_all (h : Spl w B g h1 h2 gl gls n k m hs ls l) : Calls Try.prog 17 #[.pointer (some ⟨g, 0, none⟩)] w (WordsOf w hs ls) := by
  have hd2 := h.raw.head.cell 2
  have hd3 := h.raw.head.cell 3
  have hd4 := h.raw.head.cell 4
  have HL := Lib.hid (slen_any h)
  have hm := h.pos
  have hz : ((m : Int) == 0) = false := by rw [beq_eq_false_iff_ne]; omega
  go_enter Try.func17, Try.ntmps17
  go_wp2_with fail
  with_reducible refine HL.out.mono ?_
  rintro e w' ⟨rfl, rfl⟩
  have HW1 : ∀ W, Below w.heap.size w W → Hid (Calls Try.prog 38 #[hv h1 h2] W (CopyPost W hs)) := fun W hW => Lib.hid (hwords_any (h.keep hW).raw.high)
  have HW2 : ∀ W, Below w.heap.size w W → Hid (Calls Try.prog 39 #[.pointer (some ⟨gl, 0, none⟩)] W (CopyPost W ls)) := fun W hW => Lib.hid (words_any (h.keep hW).raw.low.pk (h.keep hW).raw.low.short)
  have H := Lib.hid h
  unfold hv at HW1
  have hbd := below_drew' (Below.refl w.heap.size w)
  clear h
  go_wp2_with fail
  go_region_with (first
    | (go_at_call 38; (with_reducible refine (HW1 _ hbd).out.mono ?_); rintro e w1 ⟨a, rfl, ha, hl1, hb1⟩; have hB1 := hbd.trans (hb1.mono (Nat.le_refl _)); have hd4' := (H.out.keep hB1).raw.head.cell 4)
    | (go_at_call 39; (with_reducible refine (HW2 _ hB1).out.mono ?_); rintro e w2 ⟨b, rfl, hb, hl2, hb2⟩))
  all_goals
    go_wp2_with fail
    go_ret2
    exact ⟨a, b, rfl, hl1.below hb2 hl1.lt, hl2, ha, Nat.le_trans hB1.size hb, hB1.trans (hb2.mono hB1.size)⟩
theorem swords_nil (w : World) : Calls Try.prog 17 #[.pointer none] w fun e w' => e = .returned (.tuple #[.slice none 0 0, .slice none 0 0]) ∧ w = w' := by
  go_enter Try.func17, Try.ntmps17
  go_wp2_with fail
  with_reducible refine (slen_nil _).mono ?_
  rintro e w' ⟨rfl, rfl⟩
  go_wp2_with fail
  go_ret2
  exact ⟨rfl, rfl⟩
end
end Go.Proofs.Ytmcoehimjfgakaa
