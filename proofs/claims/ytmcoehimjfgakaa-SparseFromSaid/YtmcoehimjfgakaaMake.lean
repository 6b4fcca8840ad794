/- Contracts of New, Words, Len and Width of package pack. -/
import Derived.Test.YtmcoehimjfgakaaCalls
import Derived.Laws.MakeOwn
import Derived.Laws.CopyOwn
namespace Go.Proofs.Ytmcoehimjfgakaa
open Go.RowKit

theorem info_u64 : (Try.prog.info? 43).map (fun i => (i.zero, i.size, i.bytes)) = some (some (.int .u64 0), 1, 8) := by kernel_rfl
theorem size_u64 : (Try.prog.info? 43).map (·.size) = some 1 := by kernel_rfl

theorem zeros_cells (L : Nat) : madeCells (Value.int .u64 0).cells (L * 1) = (wcells (List.replicate L 0)).toArray := by
  apply Array.ext'
  simp [madeCells, wcells, Value.cells, Array.toList_range]
  apply List.ext_getElem
  · simp
  · intro i h1 h2
    simp [Nat.mod_one]
theorem make_words (L : Nat) (hL : L ≤ 4194304) (W : World) :
    (Instr.makeSlice 33 (.int .i64 (L : Int)) (.int .i64 (L : Int))).run Try.prog W = .ok (.slice (some ⟨W.heap.size, 0, none⟩) L L) (W.alloc (.cells (wcells (List.replicate L 0)).toArray 43)) := by
  obtain ⟨i, hi, hz, hs, hb⟩ := info_parts info_u64
  have h := run_make (P := Try.prog) W 33 43 i _ Try.underlying33 hi hz .i64 .i64 (L : Int) (L : Int) (by omega) (by omega) (by rw [hb]; omega) (by omega)
  rw [h, hs]
  simp only [Int.toNat_natCast]
  rw [zeros_cells]

theorem wcells_one (ws : List Nat) : ∀ v ∈ wcells ws, v.oneCell' = true := by
  intro v hv
  unfold wcells at hv
  obtain ⟨x, _, rfl⟩ := List.mem_map.1 hv
  rfl
theorem size_alloc (w : World) (o : Obj) : (w.alloc o).heap.size = w.heap.size + 1 := by simp
theorem lies_new (w : World) (t : TypeId) (cs : List Value) : Lies (w.alloc (.cells cs.toArray t)) w.heap.size t cs := heap_alloc_new w _

/-- a slice, from its block's head on, that reads as these words. -/
def Src (w : World) (b : Nat) (ws : List Nat) : Prop := b < w.heap.size ∧ ∀ k, k < ws.length → w.cell? ⟨b, k, none⟩ = some (.int .u64 ((ws.getD k 0 : Nat) : Int))
theorem Src.of_lies {w : World} {b : Nat} {ws : List Nat} (h : Lies w b 43 (wcells ws)) : Src w b ws := ⟨h.lt, fun k hk => by rw [h.cell k]; exact wcells_at ws k hk⟩
theorem Src.keep {w w' : World} {b : Nat} {ws : List Nat} (h : Src w b ws) (hb : Below w.heap.size w w') : Src w' b ws :=
  ⟨Nat.lt_of_lt_of_le h.1 hb.size, fun k hk => (hb.cell (p := ⟨b, k, none⟩) h.1).trans (h.2 k hk)⟩
theorem Src.cells {w : World} {b : Nat} {ws : List Nat} (h : Src w b ws) (j : Nat) (v : Value) (hj : (wcells ws)[j]? = some v) : w.cell? ((⟨b, 0, none⟩ : Addr).add j) = some v := by
  have hl : j < ws.length := by
    rw [← wcells_length]
    exact (List.getElem?_eq_some_iff.1 hj).1
  have e : (⟨b, 0, none⟩ : Addr).add j = ⟨b, j, none⟩ := by unfold Addr.add; split <;> simp_all
  rw [e, h.2 j hl, ← hj]
  exact (wcells_at ws j hl).symm

/-- what copyOf leaves: a new row of just these words. -/
def CopyPost (w : World) (ws : List Nat) (e : Ending) (w' : World) : Prop :=
  ∃ gs : Nat, e = .returned (.slice (some ⟨gs, 0, none⟩) ws.length ws.length) ∧ w.heap.size ≤ gs ∧ Lies w' gs 43 (wcells ws) ∧ Below w.heap.size w w'

set_option maxHeartbeats 400000 in
theorem copyOf_any (ws : List Nat) (b c : Nat) (w : World) (hL : ws.length ≤ 4194304) (h : Src w b ws) :
    Calls Try.prog 59 #[.slice (some ⟨b, 0, none⟩) ws.length c] w (CopyPost w ws) := by
  obtain ⟨L, hLL⟩ : ∃ L, ws.length = L := ⟨_, rfl⟩
  have HL := Lib.hid hLL
  rw [hLL] at hL ⊢
  clear hLL
  have hmk := make_words L hL
  obtain ⟨w2, hcp, hl2, hb2⟩ : ∃ w2, (Builtin.copy_ #[33, 33] 3 #[.slice (some ⟨w.heap.size, 0, none⟩) L L, .slice (some ⟨b, 0, none⟩) L c]).run Try.prog (w.alloc (.cells (wcells (List.replicate L 0)).toArray 43)) = .ok (.int .i64 (L : Int)) w2 ∧ Hid (Lies w2 w.heap.size 43 (wcells ws)) ∧ Below w.heap.size w w2 := by
    have hsrc := h.keep (w' := w.alloc (.cells (wcells (List.replicate L 0)).toArray 43)) ((Below.refl _ _).alloc (Nat.le_refl _) _)
    have hrun := run_copy_row (P := Try.prog) _ 33 33 3 43 w.heap.size 0 L L ⟨b, 0, none⟩ L c (wcells (List.replicate L 0)).toArray 43 (wcells ws) Try.underlying33 size_u64
      (lies_new w 43 _) (by rw [wcells_length, HL.out]; exact (Nat.min_self L).symm) hsrc.cells (by simp [wcells_length, HL.out]) (wcells_one ws)
    rw [wcells_length, HL.out] at hrun
    refine ⟨_, hrun, ?_, ?_⟩
    · have e := setRow_heap (w.alloc (.cells (wcells (List.replicate L 0)).toArray 43)) w.heap.size (wcells (List.replicate L 0)).toArray (wcells ws).toArray 43 (0, 0) (lies_new w 43 _)
      have e1 : (List.take 0 (wcells (List.replicate L 0)).toArray.toList ++ wcells ws ++ List.drop (0 + L) (wcells (List.replicate L 0)).toArray.toList) = wcells ws := by
        simp [wcells_length]
      show Lies _ _ _ _
      unfold Lies
      rw [e1]
      exact e
    · exact below_setRow ((Below.refl _ _).alloc (Nat.le_refl _) _) (Nat.le_refl _) _
  go_enter Try.func59, Try.ntmps59
  go_wp2
  go_ret
  exact ⟨w.heap.size, by rw [HL.out]; rfl, Nat.le_refl _, hl2.out, hb2⟩

/-- what New and From hand back: a new packed list that shares nothing. -/
def NewPost (w : World) (width n : Nat) (ws : List Nat) (e : Ending) (w' : World) : Prop :=
  ∃ g gs : Nat, e = .returned (.tuple #[.pointer (some ⟨g, 0, none⟩), .int .i64 0]) ∧ w.heap.size ≤ g ∧ w.heap.size ≤ gs ∧ Pk w' g gs width n ws ∧ Below w.heap.size w w'

set_option maxHeartbeats 400000 in
theorem new_bad (width n : Int) (hb : rightB width n = false) (w : World) :
    Calls Try.prog 26 #[.int .i64 width, .int .i64 n] w fun e w' => e = .returned (.tuple #[.pointer none, .int .i64 2]) ∧ w = w' := by
  go_enter Try.func26, Try.ntmps26
  go_wp2_with (go_at_call 47; refine (mayBe_any width n _).mono ?_; rintro e w' ⟨rfl, rfl⟩)
  go_ret2
  exact ⟨rfl, rfl⟩

set_option maxHeartbeats 400000 in
theorem new_any (width n : Nat) (h1 : 1 ≤ width) (h64 : width ≤ 64) (hn : n ≤ 4194304) (w : World) :
    Calls Try.prog 26 #[.int .i64 width, .int .i64 n] w (NewPost w width n (List.replicate ((n * width + 63) / 64) 0)) := by
  have hb : rightB width n = true := by unfold rightB; simp; omega
  have hb0 : width * n ≤ 64 * 4194304 := Nat.mul_le_mul h64 hn
  have hb1 : 0 ≤ (width : Int) * (n : Int) := by rw [← Int.natCast_mul]; omega
  have hb2 : (width : Int) * (n : Int) ≤ 268435456 := by rw [← Int.natCast_mul]; omega
  obtain ⟨L, hL⟩ : ∃ L, (width * n + 63) / 64 = L := ⟨_, rfl⟩
  have HC : ∀ W, Hid (Calls Try.prog 48 #[.int .i64 ((width : Int) * (n : Int))] W fun e w' => e = .returned (.int .i64 (L : Int)) ∧ W = w') := fun W => by
    rw [← hL, ← Int.natCast_mul]; exact Lib.hid (wordsOf_any _ (by omega) W)
  have HL := Lib.hid (show (n * width + 63) / 64 = L by rw [Nat.mul_comm]; exact hL)
  have hL0 : L ≤ 4194304 := by omega
  clear hL
  have hmk := make_words L hL0
  go_enter Try.func26, Try.ntmps26
  go_wp2_with (first
    | (go_at_call 47; refine (mayBe_any width n _).mono ?_; rintro e w' ⟨rfl, rfl⟩)
    | (go_at_call 48; refine (HC _).out.mono ?_; rintro e w' ⟨rfl, rfl⟩))
  go_ret2
  refine ⟨w.heap.size + 1, w.heap.size, rfl, by omega, Nat.le_refl _, ?_, ?_⟩
  · rw [HL.out]
    refine ⟨?_, (lies_new w 43 _).alloc _⟩
    have e := lies_new (w.alloc (.cells (wcells (List.replicate L 0)).toArray 43)) 71 [.int .i64 (width : Int), .int .i64 (n : Int), .slice (some ⟨w.heap.size, 0, none⟩) L L]
    rw [size_alloc] at e
    rw [List.length_replicate]
    exact e
  · exact ((Below.refl _ _).alloc (Nat.le_refl _) _).alloc (by rw [size_alloc]; omega) _
section
variable {w : World} {g gs width n : Nat} {ws : List Nat}

theorem len_any (h : Pk w g gs width n ws) :
    Calls Try.prog 31 #[.pointer (some ⟨g, 0, none⟩)] w fun e w' => e = .returned (.int .i64 (n : Int)) ∧ w = w' := by
  have h1 := h.c1
  go_enter Try.func31, Try.ntmps31
  go_wp2
  go_ret
  exact ⟨rfl, rfl⟩
theorem len_nil (w : World) : Calls Try.prog 31 #[.pointer none] w fun e w' => e = .returned (.int .i64 0) ∧ w = w' := by
  go_enter Try.func31, Try.ntmps31
  go_wp2
  go_ret
  exact ⟨rfl, rfl⟩
theorem width_any (h : Pk w g gs width n ws) :
    Calls Try.prog 68 #[.pointer (some ⟨g, 0, none⟩)] w fun e w' => e = .returned (.int .i64 (width : Int)) ∧ w = w' := by
  have h1 := h.c0
  go_enter Try.func68, Try.ntmps68
  go_wp2
  go_ret
  exact ⟨rfl, rfl⟩
theorem width_nil (w : World) : Calls Try.prog 68 #[.pointer none] w fun e w' => e = .returned (.int .i64 0) ∧ w = w' := by
  go_enter Try.func68, Try.ntmps68
  go_wp2
  go_ret
  exact ⟨rfl, rfl⟩
set_option maxHeartbeats 400000 in
theorem words_any (h : Pk w g gs width n ws) (hL : ws.length ≤ 4194304) :
    Calls Try.prog 39 #[.pointer (some ⟨g, 0, none⟩)] w (CopyPost w ws) := by
  have h1 := h.c2
  have HC := Lib.hid (copyOf_any ws gs ws.length w hL (Src.of_lies h.body))
  go_enter Try.func39, Try.ntmps39
  go_wp2_with (go_at_call 59; refine HC.out.mono ?_; rintro e w' ⟨gn, rfl, hg1, hl1, hb1⟩)
  go_ret
  exact ⟨gn, rfl, hg1, hl1, hb1⟩
theorem words_nil (w : World) : Calls Try.prog 39 #[.pointer none] w fun e w' => e = .returned (.slice none 0 0) ∧ w = w' := by
  go_enter Try.func39, Try.ntmps39
  go_wp2
  go_ret
  exact ⟨rfl, rfl⟩
end
end Go.Proofs.Ytmcoehimjfgakaa
