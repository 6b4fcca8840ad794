/- Contracts of New, From, Words, Len and Width of package pack. -/
import Derived.Test.YtlpoingajmogkaaCalls
import Derived.Laws.MakeOwn
import Derived.Laws.CopyOwn
namespace Go.Proofs.Ytlpoingajmogkaa
open Go.RowKit

theorem info_u64 : (Try.prog.info? 30).map (fun i => (i.zero, i.size, i.bytes)) = some (some (.int .u64 0), 1, 8) := by kernel_rfl
theorem size_u64 : (Try.prog.info? 30).map (·.size) = some 1 := by kernel_rfl

theorem zeros_cells (L : Nat) : madeCells (Value.int .u64 0).cells (L * 1) = (wcells (List.replicate L 0)).toArray := by
  apply Array.ext'
  simp [madeCells, wcells, Value.cells, Array.toList_range]
  apply List.ext_getElem
  · simp
  · intro i h1 h2
    simp [Nat.mod_one]
theorem make_words (L : Nat) (hL : L ≤ 4194304) (W : World) :
    (Instr.makeSlice 32 (.int .i64 (L : Int)) (.int .i64 (L : Int))).run Try.prog W = .ok (.slice (some ⟨W.heap.size, 0, none⟩) L L) (W.alloc (.cells (wcells (List.replicate L 0)).toArray 30)) := by
  obtain ⟨i, hi, hz, hs, hb⟩ := info_parts info_u64
  have h := run_make (P := Try.prog) W 32 30 i _ Try.underlying32 hi hz .i64 .i64 (L : Int) (L : Int) (by omega) (by omega) (by rw [hb]; omega) (by omega)
  rw [h, hs]
  simp only [Int.toNat_natCast]
  rw [zeros_cells]

theorem wcells_one (ws : List Nat) : ∀ v ∈ wcells ws, v.oneCell' = true := by
  intro v hv
  unfold wcells at hv
  obtain ⟨x, _, rfl⟩ := List.mem_map.1 hv
  rfl
theorem size_alloc (w : World) (o : Obj) : (w.alloc o).heap.size = w.heap.size + 1 := by simp
theorem lies_new (w : World) (t : TypeId) (cs : List Value) : Lies (w.alloc (.cells cs.toArray t)) w.heap.size t cs := heap_alloc_new w _

/-- a slice, from its block's head on, that reads as these words. -/
def Src (w : World) (b : Nat) (ws : List Nat) : Prop := b < w.heap.size ∧ ∀ k, k < ws.length → w.cell? ⟨b, k, none⟩ = some (.int .u64 ((ws.getD k 0 : Nat) : Int))
theorem Src.of_lies {w : World} {b : Nat} {ws : List Nat} (h : Lies w b 30 (wcells ws)) : Src w b ws := ⟨h.lt, fun k hk => by rw [h.cell k]; exact wcells_at ws k hk⟩
theorem Src.keep {w w' : World} {b : Nat} {ws : List Nat} (h : Src w b ws) (hb : Below w.heap.size w w') : Src w' b ws :=
  ⟨Nat.lt_of_lt_of_le h.1 hb.size, fun k hk => (hb.cell (p := ⟨b, k, none⟩) h.1).trans (h.2 k hk)⟩
theorem Src.cells {w : World} {b : Nat} {ws : List Nat} (h : Src w b ws) (j : Nat) (v : Value) (hj : (wcells ws)[j]? = some v) : w.cell? ((⟨b, 0, none⟩ : Addr).add j) = some v := by
  have hl : j < ws.length := by
    rw [← wcells_length]
    exact (List.getElem?_eq_some_iff.1 hj).1
  have e : (⟨b, 0, none⟩ : Addr).add j = ⟨b, j, none⟩ := by unfold Addr.add; split <;> simp_all
  rw [e, h.2 j hl, ← hj]
  exact (wcells_at ws j hl).symm

/-- what copyOf leaves: a new row of just these words. -/
def CopyPost (w : World) (ws : List Nat) (e : Ending) (w' : World) : Prop :=
  ∃ gs : Nat, e = .returned (.slice (some ⟨gs, 0, none⟩) ws.length ws.length) ∧ w.heap.size ≤ gs ∧ Lies w' gs 30 (wcells ws) ∧ Below w.heap.size w w'

set_option maxHeartbeats 400000 in
theorem copyOf_any (ws : List Nat) (b c : Nat) (w : World) (hL : ws.length ≤ 4194304) (h : Src w b ws) :
    Calls Try.prog 29 #[.slice (some ⟨b, 0, none⟩) ws.length c] w (CopyPost w ws) := by
  obtain ⟨L, hLL⟩ : ∃ L, ws.length = L := ⟨_, rfl⟩
  have HL := Lib.hid hLL
  rw [hLL] at hL ⊢
  clear hLL
  have hmk := make_words L hL
  obtain ⟨w2, hcp, hl2, hb2⟩ : ∃ w2, (Builtin.copy_ #[32, 32] 3 #[.slice (some ⟨w.heap.size, 0, none⟩) L L, .slice (some ⟨b, 0, none⟩) L c]).run Try.prog (w.alloc (.cells (wcells (List.replicate L 0)).toArray 30)) = .ok (.int .i64 (L : Int)) w2 ∧ Hid (Lies w2 w.heap.size 30 (wcells ws)) ∧ Below w.heap.size w w2 := by
    have hsrc := h.keep (w' := w.alloc (.cells (wcells (List.replicate L 0)).toArray 30)) ((Below.refl _ _).alloc (Nat.le_refl _) _)
    have hrun := run_copy_row (P := Try.prog) _ 32 32 3 30 w.heap.size 0 L L ⟨b, 0, none⟩ L c (wcells (List.replicate L 0)).toArray 30 (wcells ws) Try.underlying32 size_u64
      (lies_new w 30 _) (by rw [wcells_length, HL.out]; exact (Nat.min_self L).symm) hsrc.cells (by simp [wcells_length, HL.out]) (wcells_one ws)
    rw [wcells_length, HL.out] at hrun
    refine ⟨_, hrun, ?_, ?_⟩
    · have e := setRow_heap (w.alloc (.cells (wcells (List.replicate L 0)).toArray 30)) w.heap.size (wcells (List.replicate L 0)).toArray (wcells ws).toArray 30 (0, 0) (lies_new w 30 _)
      have e1 : (List.take 0 (wcells (List.replicate L 0)).toArray.toList ++ wcells ws ++ List.drop (0 + L) (wcells (List.replicate L 0)).toArray.toList) = wcells ws := by
        simp [wcells_length]
      show Lies _ _ _ _
      unfold Lies
      rw [e1]
      exact e
    · exact below_setRow ((Below.refl _ _).alloc (Nat.le_refl _) _) (Nat.le_refl _) _
  go_enter Try.func29, Try.ntmps29
  go_wp2
  go_ret
  exact ⟨w.heap.size, by rw [HL.out]; rfl, Nat.le_refl _, hl2.out, hb2⟩

/-- what New and From hand back: a new packed list that shares nothing. -/
def NewPost (w : World) (width n : Nat) (ws : List Nat) (e : Ending) (w' : World) : Prop :=
  ∃ g gs : Nat, e = .returned (.tuple #[.pointer (some ⟨g, 0, none⟩), .int .i64 0]) ∧ w.heap.size ≤ g ∧ w.heap.size ≤ gs ∧ Pk w' g gs width n ws ∧ Below w.heap.size w w'

set_option maxHeartbeats 400000 in
theorem new_bad (width n : Int) (hb : rightB width n = false) (w : World) :
    Calls Try.prog 10 #[.int .i64 width, .int .i64 n] w fun e w' => e = .returned (.tuple #[.pointer none, .int .i64 2]) ∧ w = w' := by
  go_enter Try.func10, Try.ntmps10
  go_wp2_with (go_at_call 24; refine (mayBe_any width n _).mono ?_; rintro e w' ⟨rfl, rfl⟩)
  go_ret2
  exact ⟨rfl, rfl⟩

set_option maxHeartbeats 400000 in
theorem new_any (width n : Nat) (h1 : 1 ≤ width) (h64 : width ≤ 64) (hn : n ≤ 4194304) (w : World) :
    Calls Try.prog 10 #[.int .i64 width, .int .i64 n] w (NewPost w width n (List.replicate ((n * width + 63) / 64) 0)) := by
  have hb : rightB width n = true := by unfold rightB; simp; omega
  have hb0 : width * n ≤ 64 * 4194304 := Nat.mul_le_mul h64 hn
  have hb1 : 0 ≤ (width : Int) * (n : Int) := by rw [← Int.natCast_mul]; omega
  have hb2 : (width : Int) * (n : Int) ≤ 268435456 := by rw [← Int.natCast_mul]; omega
  obtain ⟨L, hL⟩ : ∃ L, (width * n + 63) / 64 = L := ⟨_, rfl⟩
  have HC : ∀ W, Hid (Calls Try.prog 25 #[.int .i64 ((width : Int) * (n : Int))] W fun e w' => e = .returned (.int .i64 (L : Int)) ∧ W = w') := fun W => by
    rw [← hL, ← Int.natCast_mul]; exact Lib.hid (wordsOf_any _ (by omega) W)
  have HL := Lib.hid (show (n * width + 63) / 64 = L by rw [Nat.mul_comm]; exact hL)
  have hL0 : L ≤ 4194304 := by omega
  clear hL
  have hmk := make_words L hL0
  go_enter Try.func10, Try.ntmps10
  go_wp2_with (first
    | (go_at_call 24; refine (mayBe_any width n _).mono ?_; rintro e w' ⟨rfl, rfl⟩)
    | (go_at_call 25; refine (HC _).out.mono ?_; rintro e w' ⟨rfl, rfl⟩))
  go_ret2
  refine ⟨w.heap.size + 1, w.heap.size, rfl, by omega, Nat.le_refl _, ?_, ?_⟩
  · rw [HL.out]
    refine ⟨?_, (lies_new w 30 _).alloc _⟩
    have e := lies_new (w.alloc (.cells (wcells (List.replicate L 0)).toArray 30)) 55 [.int .i64 (width : Int), .int .i64 (n : Int), .slice (some ⟨w.heap.size, 0, none⟩) L L]
    rw [size_alloc] at e
    rw [List.length_replicate]
    exact e
  · exact ((Below.refl _ _).alloc (Nat.le_refl _) _).alloc (by rw [size_alloc]; omega) _
section
variable {w : World} {g gs width n : Nat} {ws : List Nat}

theorem len_any (h : Pk w g gs width n ws) :
    Calls Try.prog 12 #[.pointer (some ⟨g, 0, none⟩)] w fun e w' => e = .returned (.int .i64 (n : Int)) ∧ w = w' := by
  have h1 := h.c1
  go_enter Try.func12, Try.ntmps12
  go_wp2
  go_ret
  exact ⟨rfl, rfl⟩
theorem len_nil (w : World) : Calls Try.prog 12 #[.pointer none] w fun e w' => e = .returned (.int .i64 0) ∧ w = w' := by
  go_enter Try.func12, Try.ntmps12
  go_wp2
  go_ret
  exact ⟨rfl, rfl⟩
theorem width_any (h : Pk w g gs width n ws) :
    Calls Try.prog 13 #[.pointer (some ⟨g, 0, none⟩)] w fun e w' => e = .returned (.int .i64 (width : Int)) ∧ w = w' := by
  have h1 := h.c0
  go_enter Try.func13, Try.ntmps13
  go_wp2
  go_ret
  exact ⟨rfl, rfl⟩
theorem width_nil (w : World) : Calls Try.prog 13 #[.pointer none] w fun e w' => e = .returned (.int .i64 0) ∧ w = w' := by
  go_enter Try.func13, Try.ntmps13
  go_wp2
  go_ret
  exact ⟨rfl, rfl⟩
set_option maxHeartbeats 400000 in
theorem words_any (h : Pk w g gs width n ws) (hL : ws.length ≤ 4194304) :
    Calls Try.prog 17 #[.pointer (some ⟨g, 0, none⟩)] w (CopyPost w ws) := by
  have h1 := h.c2
  have HC := Lib.hid (copyOf_any ws gs ws.length w hL (Src.of_lies h.body))
  go_enter Try.func17, Try.ntmps17
  go_wp2_with (go_at_call 29; refine HC.out.mono ?_; rintro e w' ⟨gn, rfl, hg1, hl1, hb1⟩)
  go_ret
  exact ⟨gn, rfl, hg1, hl1, hb1⟩
theorem words_nil (w : World) : Calls Try.prog 17 #[.pointer none] w fun e w' => e = .returned (.slice none 0 0) ∧ w = w' := by
  go_enter Try.func17, Try.ntmps17
  go_wp2
  go_ret
  exact ⟨rfl, rfl⟩
end

/-- so many bits need all these words, and leave nothing set behind them. -/
def justB (ws : List Nat) (count : Nat) : Bool := decide (ws.length = (count + 63) / 64) && (decide (count % 64 = 0) || decide (ws.getD (ws.length - 1) 0 / 2 ^ (count % 64) = 0))

/-- the words of a list of numbers are just as many as are needed, and nothing is set behind. -/
theorem just_of_holds {ws : List Nat} {width n : Nat} {x : Nat → Nat} (h : Pl.Holds ws width n x) : justB ws (n * width) = true := by
  unfold justB
  simp only [Bool.and_eq_true, Bool.or_eq_true, decide_eq_true_eq]
  refine ⟨h.len, ?_⟩
  by_cases h0 : n * width % 64 = 0
  · exact .inl h0
  · refine .inr ?_
    apply Nat.eq_of_testBit_eq
    intro j
    rw [Pl.tb_div, Nat.zero_testBit]
    have hl := h.len
    by_cases hj : n * width % 64 + j < 64
    · have hb := h.behind (64 * (ws.length - 1) + (n * width % 64 + j)) (by omega)
      unfold Pl.bitAt at hb
      have e1 : (64 * (ws.length - 1) + (n * width % 64 + j)) / 64 = ws.length - 1 := by omega
      have e2 : (64 * (ws.length - 1) + (n * width % 64 + j)) % 64 = n * width % 64 + j := by omega
      rw [e1, e2] at hb
      exact hb
    · exact Pl.tb_big (h.small.at_ _) (by omega)

theorem zero_test (x s : Nat) : ((x : Int) / 2 ^ s == 0) = decide (x / 2 ^ s = 0) := by
  rw [shr_u]
  by_cases h : x / 2 ^ s = 0
  · rw [h]; rfl
  · simp only [h, decide_false]
    rw [beq_eq_false_iff_ne]
    omega

set_option maxHeartbeats 800000 in
theorem justHolds_any (ws : List Nat) (b c count : Nat) (w : World) (h : Src w b ws) (hc : count ≤ 268435456) (hmax : ws.length ≤ 9223372036854775807) :
    Calls Try.prog 30 #[.slice (some ⟨b, 0, none⟩) ws.length c, .int .i64 count] w fun e w' => e = .returned (.bool (justB ws count)) ∧ w = w' := by
  obtain ⟨L, hLL⟩ : ∃ L, ws.length = L := ⟨_, rfl⟩
  obtain ⟨r, hr⟩ : ∃ r, count % 64 = r := ⟨_, rfl⟩
  obtain ⟨k, hk⟩ : ∃ k, (count + 63) / 64 = k := ⟨_, rfl⟩
  have hri : (count : Int) % 64 = (r : Int) := by omega
  have hr64 : r < 64 := by omega
  have hW : ∀ W, Hid (Calls Try.prog 25 #[.int .i64 (count : Int)] W fun e w' => e = .returned (.int .i64 (k : Int)) ∧ W = w') := fun W => by rw [← hk]; exact Lib.hid (wordsOf_any _ hc W)
  by_cases h1 : L = k
  · by_cases h2 : r = 0
    · have HB := Lib.hid (show justB ws count = true by unfold justB; simp [hLL, hr, hk, h1, h2])
      rw [hLL] at hmax ⊢
      have t1 : ((L : Int) != (k : Int)) = false := by simp [h1]
      have t2 : (((count : Int) % 64) == 0) = true := by simp; omega
      clear hLL hr hk hri h1 h2
      go_enter Try.func30, Try.ntmps30
      go_wp2_with (go_at_call 25; refine (hW _).out.mono ?_; rintro e w' ⟨rfl, rfl⟩)
      go_ret
      rw [HB.out]
      exact ⟨rfl, rfl⟩
    · have hL1 : 1 ≤ L := by omega
      obtain ⟨x, hx⟩ : ∃ x, ws.getD (L - 1) 0 = x := ⟨_, rfl⟩
      have hcell := h.2 (L - 1) (by omega)
      rw [hx] at hcell
      have HB := Lib.hid (show justB ws count = decide (x / 2 ^ r = 0) by unfold justB; simp only [hLL, hr, hk, h1, h2, ← hx]; simp)
      rw [hLL] at hmax ⊢
      have t1 : ((L : Int) != (k : Int)) = false := by simp [h1]
      have t2 : ((count : Int) % 64 == 0) = false := by rw [beq_eq_false_iff_ne]; omega
      have t3 : ((L : Int) - 1) = ((L - 1 : Nat) : Int) := by omega
      have hrr := Lib.hid hr
      clear hLL hr hk hri h1 h2
      go_enter Try.func30, Try.ntmps30
      go_wp2_with (go_at_call 25; refine (hW _).out.mono ?_; rintro e w' ⟨rfl, rfl⟩)
      go_ret
      rw [HB.out, ← zero_test, ← hrr.out]
      exact ⟨rfl, rfl⟩
  · have HB := Lib.hid (show justB ws count = false by unfold justB; simp [hLL, hk, h1])
    rw [hLL] at hmax ⊢
    have t1 : ((L : Int) != (k : Int)) = true := by simp; omega
    clear hLL hr hk hri h1
    go_enter Try.func30, Try.ntmps30
    go_wp2_with (go_at_call 25; refine (hW _).out.mono ?_; rintro e w' ⟨rfl, rfl⟩)
    go_ret
    rw [HB.out]
    exact ⟨rfl, rfl⟩

theorem from_bad (width n : Int) (b L c : Nat) (hb : rightB width n = false) (w : World) :
    Calls Try.prog 21 #[.int .i64 width, .int .i64 n, .slice (some ⟨b, 0, none⟩) L c] w fun e w' => e = .returned (.tuple #[.pointer none, .int .i64 2]) ∧ w = w' := by
  go_enter Try.func21, Try.ntmps21
  go_wp2_with (go_at_call 24; refine (mayBe_any width n _).mono ?_; rintro e w' ⟨rfl, rfl⟩)
  go_ret2
  exact ⟨rfl, rfl⟩

theorem prod_facts {width n : Nat} (h64 : width ≤ 64) (hn : n ≤ 4194304) : 0 ≤ (width : Int) * (n : Int) ∧ (width : Int) * (n : Int) ≤ 268435456 ∧ width * n ≤ 268435456 := by
  have hb0 : width * n ≤ 64 * 4194304 := Nat.mul_le_mul h64 hn
  refine ⟨?_, ?_, by omega⟩
  · rw [← Int.natCast_mul]; omega
  · rw [← Int.natCast_mul]; omega

set_option maxHeartbeats 400000 in
theorem from_form (width n b c : Nat) (ws : List Nat) (h1 : 1 ≤ width) (h64 : width ≤ 64) (hn : n ≤ 4194304) (w : World) (h : Src w b ws) (hmax : ws.length ≤ 9223372036854775807) (hj : justB ws (width * n) = false) :
    Calls Try.prog 21 #[.int .i64 width, .int .i64 n, .slice (some ⟨b, 0, none⟩) ws.length c] w fun e w' => e = .returned (.tuple #[.pointer none, .int .i64 10]) ∧ w = w' := by
  have hb : rightB width n = true := by unfold rightB; simp; omega
  obtain ⟨hb1, hb2, hb3⟩ := prod_facts h64 hn
  have HJ : ∀ W, Src W b ws → Hid (Calls Try.prog 30 #[.slice (some ⟨b, 0, none⟩) ws.length c, .int .i64 ((width : Int) * (n : Int))] W fun e w' => e = .returned (.bool false) ∧ W = w') := fun W hW => by
    rw [← Int.natCast_mul, ← hj]; exact Lib.hid (justHolds_any ws b c _ W hW hb3 hmax)
  clear hj
  go_enter Try.func21, Try.ntmps21
  go_wp2_with (first
    | (go_at_call 24; refine (mayBe_any width n _).mono ?_; rintro e w' ⟨rfl, rfl⟩)
    | (go_at_call 30; refine (HJ _ h).out.mono ?_; rintro e w' ⟨rfl, rfl⟩))
  go_ret2
  exact ⟨rfl, rfl⟩

set_option maxHeartbeats 400000 in
theorem from_any (width n b c : Nat) (ws : List Nat) (h1 : 1 ≤ width) (h64 : width ≤ 64) (hn : n ≤ 4194304) (w : World) (h : Src w b ws) (hj : justB ws (width * n) = true) :
    Calls Try.prog 21 #[.int .i64 width, .int .i64 n, .slice (some ⟨b, 0, none⟩) ws.length c] w (NewPost w width n ws) := by
  have hb : rightB width n = true := by unfold rightB; simp; omega
  obtain ⟨hb1, hb2, hb3⟩ := prod_facts h64 hn
  have hL : ws.length ≤ 4194304 := by
    unfold justB at hj
    simp only [Bool.and_eq_true, decide_eq_true_eq] at hj
    omega
  have HJ : ∀ W, Src W b ws → Hid (Calls Try.prog 30 #[.slice (some ⟨b, 0, none⟩) ws.length c, .int .i64 ((width : Int) * (n : Int))] W fun e w' => e = .returned (.bool true) ∧ W = w') := fun W hW => by
    rw [← Int.natCast_mul, ← hj]; exact Lib.hid (justHolds_any ws b c _ W hW hb3 (by omega))
  have HC := Lib.hid (copyOf_any ws b c w hL h)
  clear hj
  go_enter Try.func21, Try.ntmps21
  go_wp2_with (first
    | (go_at_call 24; refine (mayBe_any width n _).mono ?_; rintro e w' ⟨rfl, rfl⟩)
    | (go_at_call 30; refine (HJ _ h).out.mono ?_; rintro e w' ⟨rfl, rfl⟩)
    | (go_at_call 29; refine HC.out.mono ?_; rintro e w1 ⟨gs, rfl, hg1, hl1, hb1⟩))
  go_ret2
  refine ⟨w1.heap.size, gs, rfl, hb1.size, hg1, ⟨?_, hl1.alloc _⟩, hb1.alloc hb1.size _⟩
  exact lies_new w1 55 [.int .i64 (width : Int), .int .i64 (n : Int), .slice (some ⟨gs, 0, none⟩) ws.length ws.length]
end Go.Proofs.Ytlpoingajmogkaa
