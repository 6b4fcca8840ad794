/- Contracts of the functions of package pack: what each call returns and what it does to memory. Contracts of New, Words, Len and Width of package pack. -/
import Derived.Test.YthbnojhcmfhnhaaMem
import Derived.Deep.QuietTactic
import Derived.BigQuiet
import Derived.BigRegion
import Derived.Laws.MakeOwn
import Derived.Laws.CopyOwn
namespace Go.Proofs.Ythbnojhcmfhnhaa
open Go.RowKit

theorem ret_i64 {a b : Int} (h : a = b) : Ending.returned (.int .i64 a) = .returned (.int .i64 b) := by rw [h]
theorem ret_u64 {a b : Int} (h : a = b) : Ending.returned (.int .u64 a) = .returned (.int .u64 b) := by rw [h]

theorem ret2_i64 {a b c d : Int} (h : a = b) (k : c = d) : Ending.returned (.tuple #[.int .i64 a, .int .i64 c]) = .returned (.tuple #[.int .i64 b, .int .i64 d]) := by rw [h, k]

/-- u64 arithmetic over natural numbers. -/
theorem wrap_u (x : Nat) : IntKind.u64.wrap (x : Int) = ((x % 2 ^ 64 : Nat) : Int) := by
  rw [IntKind.wrap_u64]; omega
theorem shl_u (x s : Nat) : IntKind.u64.wrap ((x : Int) * 2 ^ s) = ((x * 2 ^ s % 2 ^ 64 : Nat) : Int) := by
  rw [← wrap_u]
  simp [Int.natCast_mul, Int.natCast_pow]
theorem shr_u (x s : Nat) : (x : Int) / 2 ^ s = ((x / 2 ^ s : Nat) : Int) := by
  simp [Int.natCast_ediv, Int.natCast_pow]
theorem or_u {x y : Nat} (hx : x < 2 ^ 64) (hy : y < 2 ^ 64) : bits .or .u64 (x : Int) (y : Int) = ((x ||| y : Nat) : Int) := u64_or_nat x y (by omega) (by omega)
theorem and_u {x y : Nat} (hx : x < 2 ^ 64) (hy : y < 2 ^ 64) : bits .and .u64 (x : Int) (y : Int) = ((x &&& y : Nat) : Int) := u64_and_nat x y (by omega) (by omega)
theorem andNot_u {x y : Nat} (hx : x < 2 ^ 64) (hy : y < 2 ^ 64) : bits .andNot .u64 (x : Int) (y : Int) = ((x &&& (2 ^ 64 - 1 - y) : Nat) : Int) := u64_andNot_nat x y (by omega) (by omega)

theorem ones_num (k : Nat) (hk : k ≤ 64) : IntKind.u64.wrap (IntKind.u64.wrap (2 ^ k) - 1) = ((2 ^ k - 1 : Nat) : Int) := by
  rw [IntKind.wrap_u64, IntKind.wrap_u64]
  have h1 := Nat.two_pow_pos k
  have h2 : 2 ^ k ≤ 2 ^ 64 := Nat.pow_le_pow_right (by omega) hk
  have e : (2 : Int) ^ k = ((2 ^ k : Nat) : Int) := by simp [Int.natCast_pow]
  rw [e]
  omega

set_option maxHeartbeats 400000 in
theorem ones_any (k : Nat) (hk : k ≤ 64) (w : World) :
    Calls Try.prog 43 #[.int .i64 k] w fun e w' => e = .returned (.int .u64 ((2 ^ k - 1 : Nat) : Int)) ∧ w = w' := by
  have HN := Lib.hid (ones_num k hk)
  go_enter Try.func43, Try.ntmps43
  go_wp2
  go_ret
  exact ⟨ret_u64 HN.out, rfl⟩

set_option maxHeartbeats 400000 in
theorem wordsOf_any (k : Nat) (hk : k ≤ 268435456) (w : World) :
    Calls Try.prog 41 #[.int .i64 k] w fun e w' => e = .returned (.int .i64 ((k + 63) / 64 : Nat)) ∧ w = w' := by
  go_enter Try.func41, Try.ntmps41
  go_wp2
  go_ret
  exact ⟨ret_i64 (by omega), rfl⟩

/-- width and n may be. -/
def rightB (width n : Int) : Bool := decide (1 ≤ width ∧ width ≤ 64 ∧ 0 ≤ n ∧ n ≤ 4194304)

set_option maxHeartbeats 400000 in
theorem mayBe_any (width n : Int) (w : World) :
    Calls Try.prog 40 #[.int .i64 width, .int .i64 n] w fun e w' => e = .returned (.bool (rightB width n)) ∧ w = w' := by
  unfold rightB
  by_cases h1 : 1 ≤ width <;> by_cases h2 : width ≤ 64 <;> by_cases h3 : 0 ≤ n <;> by_cases h4 : n ≤ 4194304
  all_goals
    go_enter Try.func40, Try.ntmps40
    go_wp2
    go_ret
    simp [h1, h2, h3, h4]

section
variable {w : World} {g gs width n : Nat} {ws : List Nat}

set_option maxHeartbeats 400000 in
theorem has_yes (h : Pk w g gs width n ws) (i : Nat) (hi : i < n) :
    Calls Try.prog 42 #[.pointer (some ⟨g, 0, none⟩), .int .i64 i] w fun e w' => e = .returned (.bool true) ∧ w = w' := by
  have h1 := h.c1
  clear h
  go_enter Try.func42, Try.ntmps42
  go_wp2
  go_ret
  simp

set_option maxHeartbeats 400000 in
theorem has_no (h : Pk w g gs width n ws) (i : Int) (hi : i < 0 ∨ (n : Int) ≤ i) :
    Calls Try.prog 42 #[.pointer (some ⟨g, 0, none⟩), .int .i64 i] w fun e w' => e = .returned (.bool false) ∧ w = w' := by
  have h1 := h.c1
  clear h
  by_cases h0 : 0 ≤ i
  all_goals
    go_enter Try.func42, Try.ntmps42
    go_wp2
    go_ret
    simp
    try omega

set_option maxHeartbeats 400000 in
theorem has_nil (i : Int) (w : World) :
    Calls Try.prog 42 #[.pointer none, .int .i64 i] w fun e w' => e = .returned (.bool false) ∧ w = w' := by
  go_enter Try.func42, Try.ntmps42
  go_wp2
  go_ret
  simp

set_option maxHeartbeats 400000 in
theorem place_any (h : Pk w g gs width n ws) (i q r : Nat) (hw : width ≤ 64) (hi : i < 4194304) (hq : i * width / 64 = q) (hr : i * width % 64 = r) :
    Calls Try.prog 44 #[.pointer (some ⟨g, 0, none⟩), .int .i64 i] w fun e w' => e = .returned (.tuple #[.int .i64 q, .int .i64 r]) ∧ w = w' := by
  have h1 := h.c0
  have hb : i * width ≤ 4194304 * 64 := Nat.mul_le_mul (by omega) hw
  have hb1 : 0 ≤ (i : Int) * (width : Int) := by rw [← Int.natCast_mul]; omega
  have hb2 : (i : Int) * (width : Int) ≤ 268435456 := by rw [← Int.natCast_mul]; omega
  have hq' : (i : Int) * (width : Int) / 64 = q := by rw [← hq, ← Int.natCast_mul]; exact (Int.natCast_ediv _ _).symm
  have hr' : (i : Int) * (width : Int) % 64 = r := by rw [← hr, ← Int.natCast_mul]; exact (Int.natCast_emod _ _).symm
  have HQ := Lib.hid hq'
  have HR := Lib.hid hr'
  clear h hq hr hq' hr'
  go_enter Try.func44, Try.ntmps44
  go_wp2
  go_ret2
  exact ⟨ret2_i64 HQ.out HR.out, rfl⟩

/-- the bounds that every place of a list keeps. -/
theorem q_small {i width n q L : Nat} (hw : width ≤ 64) (hi : i < n) (hn : n ≤ 4194304) (hq : i * width / 64 = q) (hL : n * width ≤ 64 * L) (h1 : 1 ≤ width) : q < 4194304 ∧ q < L := by
  have := Pl.mul_room (width := width) hi
  have hb : n * width ≤ 4194304 * 64 := Nat.mul_le_mul hn hw
  omega
theorem q_next {i width n q r L : Nat} (hi : i < n) (hq : i * width / 64 = q) (hr : i * width % 64 = r) (hL : n * width ≤ 64 * L) (hlong : 64 < r + width) : q + 1 < L := by
  have := Pl.mul_room (width := width) hi
  omega

theorem get_end {ws : List Nat} {width i q r x0 x1 : Nat} (hs : Pl.Small ws) (hw : width ≤ 64) (hq : i * width / 64 = q) (hr : i * width % 64 = r) (h0 : ws.getD q 0 = x0) (h1 : ws.getD (q + 1) 0 = x1) (hlong : 64 < r + width) :
    bits .and .u64 (bits .or .u64 ((x0 : Int) / 2 ^ r) (IntKind.u64.wrap ((x1 : Int) * 2 ^ (64 - r)))) ((2 ^ width - 1 : Nat) : Int) = ((Pl.getN ws width i : Nat) : Int) := by
  have b0 : x0 < 2 ^ 64 := by rw [← h0]; exact hs.at_ _
  have bw : 2 ^ width - 1 < 2 ^ 64 := by have := Pl.two_pow_le_64 hw; have := Nat.two_pow_pos width; omega
  have b1 : x1 * 2 ^ (64 - r) % 2 ^ 64 < 2 ^ 64 := Nat.mod_lt _ (by decide)
  rw [shr_u, shl_u, or_u (Pl.div_lt_64 b0) b1, and_u (Nat.or_lt_two_pow (Pl.div_lt_64 b0) b1) bw]
  unfold Pl.getN
  simp only [hq, hr, h0, h1, hlong, if_true]
theorem get_end' {ws : List Nat} {width i q r x0 : Nat} (hs : Pl.Small ws) (hw : width ≤ 64) (hq : i * width / 64 = q) (hr : i * width % 64 = r) (h0 : ws.getD q 0 = x0) (hshort : ¬ 64 < r + width) :
    bits .and .u64 ((x0 : Int) / 2 ^ r) ((2 ^ width - 1 : Nat) : Int) = ((Pl.getN ws width i : Nat) : Int) := by
  have b0 : x0 < 2 ^ 64 := by rw [← h0]; exact hs.at_ _
  have bw : 2 ^ width - 1 < 2 ^ 64 := by have := Pl.two_pow_le_64 hw; have := Nat.two_pow_pos width; omega
  rw [shr_u, and_u (Pl.div_lt_64 b0) bw]
  unfold Pl.getN
  simp only [hq, hr, h0, hshort, if_false]

end
end Go.Proofs.Ythbnojhcmfhnhaa

namespace Go.Proofs.Ythbnojhcmfhnhaa
open Go.RowKit

theorem info_u64 : (Try.prog.info? 55).map (fun i => (i.zero, i.size, i.bytes)) = some (some (.int .u64 0), 1, 8) := by kernel_rfl
theorem size_u64 : (Try.prog.info? 55).map (·.size) = some 1 := by kernel_rfl

theorem zeros_cells (L : Nat) : madeCells (Value.int .u64 0).cells (L * 1) = (wcells (List.replicate L 0)).toArray := by
  apply Array.ext'
  simp [madeCells, wcells, Value.cells, Array.toList_range]
  apply List.ext_getElem
  · simp
  · intro i h1 h2
    simp [Nat.mod_one]
theorem make_words (L : Nat) (hL : L ≤ 4194304) (W : World) :
    (Instr.makeSlice 81 (.int .i64 (L : Int)) (.int .i64 (L : Int))).run Try.prog W = .ok (.slice (some ⟨W.heap.size, 0, none⟩) L L) (W.alloc (.cells (wcells (List.replicate L 0)).toArray 55)) := by
  obtain ⟨i, hi, hz, hs, hb⟩ := info_parts info_u64
  have h := run_make (P := Try.prog) W 81 55 i _ Try.underlying81 hi hz .i64 .i64 (L : Int) (L : Int) (by omega) (by omega) (by rw [hb]; omega) (by omega)
  rw [h, hs]
  simp only [Int.toNat_natCast]
  rw [zeros_cells]

theorem wcells_one (ws : List Nat) : ∀ v ∈ wcells ws, v.oneCell' = true := by
  intro v hv
  unfold wcells at hv
  obtain ⟨x, _, rfl⟩ := List.mem_map.1 hv
  rfl
theorem size_alloc (w : World) (o : Obj) : (w.alloc o).heap.size = w.heap.size + 1 := by simp
theorem lies_new (w : World) (t : TypeId) (cs : List Value) : Lies (w.alloc (.cells cs.toArray t)) w.heap.size t cs := heap_alloc_new w _

/-- a slice, from its block's head on, that reads as these words. -/
def Src (w : World) (b : Nat) (ws : List Nat) : Prop := b < w.heap.size ∧ ∀ k, k < ws.length → w.cell? ⟨b, k, none⟩ = some (.int .u64 ((ws.getD k 0 : Nat) : Int))
theorem Src.of_lies {w : World} {b : Nat} {ws : List Nat} (h : Lies w b 55 (wcells ws)) : Src w b ws := ⟨h.lt, fun k hk => by rw [h.cell k]; exact wcells_at ws k hk⟩
theorem Src.keep {w w' : World} {b : Nat} {ws : List Nat} (h : Src w b ws) (hb : Below w.heap.size w w') : Src w' b ws :=
  ⟨Nat.lt_of_lt_of_le h.1 hb.size, fun k hk => (hb.cell (p := ⟨b, k, none⟩) h.1).trans (h.2 k hk)⟩
theorem Src.cells {w : World} {b : Nat} {ws : List Nat} (h : Src w b ws) (j : Nat) (v : Value) (hj : (wcells ws)[j]? = some v) : w.cell? ((⟨b, 0, none⟩ : Addr).add j) = some v := by
  have hl : j < ws.length := by
    rw [← wcells_length]
    exact (List.getElem?_eq_some_iff.1 hj).1
  have e : (⟨b, 0, none⟩ : Addr).add j = ⟨b, j, none⟩ := by unfold Addr.add; split <;> simp_all
  rw [e, h.2 j hl, ← hj]
  exact (wcells_at ws j hl).symm

/-- what copyOf leaves: a new row of just these words. -/
def CopyPost (w : World) (ws : List Nat) (e : Ending) (w' : World) : Prop :=
  ∃ gs : Nat, e = .returned (.slice (some ⟨gs, 0, none⟩) ws.length ws.length) ∧ w.heap.size ≤ gs ∧ Lies w' gs 55 (wcells ws) ∧ Below w.heap.size w w'

set_option maxHeartbeats 400000 in
theorem copyOf_any (ws : List Nat) (b c : Nat) (w : World) (hL : ws.length ≤ 4194304) (h : Src w b ws) :
    Calls Try.prog 53 #[.slice (some ⟨b, 0, none⟩) ws.length c] w (CopyPost w ws) := by
  obtain ⟨L, hLL⟩ : ∃ L, ws.length = L := ⟨_, rfl⟩
  have HL := Lib.hid hLL
  rw [hLL] at hL ⊢
  clear hLL
  have hmk := make_words L hL
  obtain ⟨w2, hcp, hl2, hb2⟩ : ∃ w2, (Builtin.copy_ #[81, 81] 3 #[.slice (some ⟨w.heap.size, 0, none⟩) L L, .slice (some ⟨b, 0, none⟩) L c]).run Try.prog (w.alloc (.cells (wcells (List.replicate L 0)).toArray 55)) = .ok (.int .i64 (L : Int)) w2 ∧ Hid (Lies w2 w.heap.size 55 (wcells ws)) ∧ Below w.heap.size w w2 := by
    have hsrc := h.keep (w' := w.alloc (.cells (wcells (List.replicate L 0)).toArray 55)) ((Below.refl _ _).alloc (Nat.le_refl _) _)
    have hrun := run_copy_row (P := Try.prog) _ 81 81 3 55 w.heap.size 0 L L ⟨b, 0, none⟩ L c (wcells (List.replicate L 0)).toArray 55 (wcells ws) Try.underlying81 size_u64
      (lies_new w 55 _) (by rw [wcells_length, HL.out]; exact (Nat.min_self L).symm) hsrc.cells (by simp [wcells_length, HL.out]) (wcells_one ws)
    rw [wcells_length, HL.out] at hrun
    refine ⟨_, hrun, ?_, ?_⟩
    · have e := setRow_heap (w.alloc (.cells (wcells (List.replicate L 0)).toArray 55)) w.heap.size (wcells (List.replicate L 0)).toArray (wcells ws).toArray 55 (0, 0) (lies_new w 55 _)
      have e1 : (List.take 0 (wcells (List.replicate L 0)).toArray.toList ++ wcells ws ++ List.drop (0 + L) (wcells (List.replicate L 0)).toArray.toList) = wcells ws := by
        simp [wcells_length]
      show Lies _ _ _ _
      unfold Lies
      rw [e1]
      exact e
    · exact below_setRow ((Below.refl _ _).alloc (Nat.le_refl _) _) (Nat.le_refl _) _
  go_enter Try.func53, Try.ntmps53
  go_wp2
  go_ret
  exact ⟨w.heap.size, by rw [HL.out]; rfl, Nat.le_refl _, hl2.out, hb2⟩

/-- what New and From hand back: a new packed list that shares nothing. -/
def NewPost (w : World) (width n : Nat) (ws : List Nat) (e : Ending) (w' : World) : Prop :=
  ∃ g gs : Nat, e = .returned (.tuple #[.pointer (some ⟨g, 0, none⟩), .int .i64 0]) ∧ w.heap.size ≤ g ∧ w.heap.size ≤ gs ∧ Pk w' g gs width n ws ∧ Below w.heap.size w w'

set_option maxHeartbeats 400000 in
theorem new_bad (width n : Int) (hb : rightB width n = false) (w : World) :
    Calls Try.prog 33 #[.int .i64 width, .int .i64 n] w fun e w' => e = .returned (.tuple #[.pointer none, .int .i64 2]) ∧ w = w' := by
  go_enter Try.func33, Try.ntmps33
  go_wp2_with (go_at_call 40; refine (mayBe_any width n _).mono ?_; rintro e w' ⟨rfl, rfl⟩)
  go_ret2
  exact ⟨rfl, rfl⟩

set_option maxHeartbeats 400000 in
theorem new_any (width n : Nat) (h1 : 1 ≤ width) (h64 : width ≤ 64) (hn : n ≤ 4194304) (w : World) :
    Calls Try.prog 33 #[.int .i64 width, .int .i64 n] w (NewPost w width n (List.replicate ((n * width + 63) / 64) 0)) := by
  have hb : rightB width n = true := by unfold rightB; simp; omega
  have hb0 : width * n ≤ 64 * 4194304 := Nat.mul_le_mul h64 hn
  have hb1 : 0 ≤ (width : Int) * (n : Int) := by rw [← Int.natCast_mul]; omega
  have hb2 : (width : Int) * (n : Int) ≤ 268435456 := by rw [← Int.natCast_mul]; omega
  obtain ⟨L, hL⟩ : ∃ L, (width * n + 63) / 64 = L := ⟨_, rfl⟩
  have HC : ∀ W, Hid (Calls Try.prog 41 #[.int .i64 ((width : Int) * (n : Int))] W fun e w' => e = .returned (.int .i64 (L : Int)) ∧ W = w') := fun W => by
    rw [← hL, ← Int.natCast_mul]; exact Lib.hid (wordsOf_any _ (by omega) W)
  have HL := Lib.hid (show (n * width + 63) / 64 = L by rw [Nat.mul_comm]; exact hL)
  have hL0 : L ≤ 4194304 := by omega
  clear hL
  have hmk := make_words L hL0
  go_enter Try.func33, Try.ntmps33
  go_wp2_with (first
    | (go_at_call 40; refine (mayBe_any width n _).mono ?_; rintro e w' ⟨rfl, rfl⟩)
    | (go_at_call 41; refine (HC _).out.mono ?_; rintro e w' ⟨rfl, rfl⟩))
  go_ret2
  refine ⟨w.heap.size + 1, w.heap.size, rfl, by omega, Nat.le_refl _, ?_, ?_⟩
  · rw [HL.out]
    refine ⟨?_, (lies_new w 55 _).alloc _⟩
    have e := lies_new (w.alloc (.cells (wcells (List.replicate L 0)).toArray 55)) 96 [.int .i64 (width : Int), .int .i64 (n : Int), .slice (some ⟨w.heap.size, 0, none⟩) L L]
    rw [size_alloc] at e
    rw [List.length_replicate]
    exact e
  · exact ((Below.refl _ _).alloc (Nat.le_refl _) _).alloc (by rw [size_alloc]; omega) _
section
variable {w : World} {g gs width n : Nat} {ws : List Nat}

theorem len_any (h : Pk w g gs width n ws) :
    Calls Try.prog 46 #[.pointer (some ⟨g, 0, none⟩)] w fun e w' => e = .returned (.int .i64 (n : Int)) ∧ w = w' := by
  have h1 := h.c1
  go_enter Try.func46, Try.ntmps46
  go_wp2
  go_ret
  exact ⟨rfl, rfl⟩
theorem len_nil (w : World) : Calls Try.prog 46 #[.pointer none] w fun e w' => e = .returned (.int .i64 0) ∧ w = w' := by
  go_enter Try.func46, Try.ntmps46
  go_wp2
  go_ret
  exact ⟨rfl, rfl⟩
theorem width_any (h : Pk w g gs width n ws) :
    Calls Try.prog 45 #[.pointer (some ⟨g, 0, none⟩)] w fun e w' => e = .returned (.int .i64 (width : Int)) ∧ w = w' := by
  have h1 := h.c0
  go_enter Try.func45, Try.ntmps45
  go_wp2
  go_ret
  exact ⟨rfl, rfl⟩
theorem width_nil (w : World) : Calls Try.prog 45 #[.pointer none] w fun e w' => e = .returned (.int .i64 0) ∧ w = w' := by
  go_enter Try.func45, Try.ntmps45
  go_wp2
  go_ret
  exact ⟨rfl, rfl⟩
set_option maxHeartbeats 400000 in
theorem words_any (h : Pk w g gs width n ws) (hL : ws.length ≤ 4194304) :
    Calls Try.prog 47 #[.pointer (some ⟨g, 0, none⟩)] w (CopyPost w ws) := by
  have h1 := h.c2
  have HC := Lib.hid (copyOf_any ws gs ws.length w hL (Src.of_lies h.body))
  go_enter Try.func47, Try.ntmps47
  go_wp2_with (go_at_call 53; refine HC.out.mono ?_; rintro e w' ⟨gn, rfl, hg1, hl1, hb1⟩)
  go_ret
  exact ⟨gn, rfl, hg1, hl1, hb1⟩
theorem words_nil (w : World) : Calls Try.prog 47 #[.pointer none] w fun e w' => e = .returned (.slice none 0 0) ∧ w = w' := by
  go_enter Try.func47, Try.ntmps47
  go_wp2
  go_ret
  exact ⟨rfl, rfl⟩
end
end Go.Proofs.Ythbnojhcmfhnhaa
