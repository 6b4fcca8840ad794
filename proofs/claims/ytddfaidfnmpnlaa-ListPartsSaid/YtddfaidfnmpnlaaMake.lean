/- Contracts of the functions of package pack: what each call returns and what it does to memory. Contracts of New, Words, Len and Width of package pack. -/
import Derived.Test.YtddfaidfnmpnlaaMem
import Derived.Deep.QuietTactic
import Derived.BigQuiet
import Derived.BigRegion
import Derived.Laws.MakeOwn
import Derived.Laws.CopyOwn
namespace Go.Proofs.Ytddfaidfnmpnlaa
open Go.RowKit

theorem ret_i64 {a b : Int} (h : a = b) : Ending.returned (.int .i64 a) = .returned (.int .i64 b) := by rw [h]
theorem ret_u64 {a b : Int} (h : a = b) : Ending.returned (.int .u64 a) = .returned (.int .u64 b) := by rw [h]

theorem ret2_i64 {a b c d : Int} (h : a = b) (k : c = d) : Ending.returned (.tuple #[.int .i64 a, .int .i64 c]) = .returned (.tuple #[.int .i64 b, .int .i64 d]) := by rw [h, k]

/-- u64 arithmetic over natural numbers. -/
theorem wrap_u (x : Nat) : IntKind.u64.wrap (x : Int) = ((x % 2 ^ 64 : Nat) : Int) := by
  rw [IntKind.wrap_u64]; omega
theorem shl_u (x s : Nat) : IntKind.u64.wrap ((x : Int) * 2 ^ s) = ((x * 2 ^ s % 2 ^ 64 : Nat) : Int) := by
  rw [← wrap_u]
  simp [Int.natCast_mul, Int.natCast_pow]
theorem shr_u (x s : Nat) : (x : Int) / 2 ^ s = ((x / 2 ^ s : Nat) : Int) := by
  simp [Int.natCast_ediv, Int.natCast_pow]
theorem or_u {x y : Nat} (hx : x < 2 ^ 64) (hy : y < 2 ^ 64) : bits .or .u64 (x : Int) (y : Int) = ((x ||| y : Nat) : Int) := u64_or_nat x y (by omega) (by omega)
theorem and_u {x y : Nat} (hx : x < 2 ^ 64) (hy : y < 2 ^ 64) : bits .and .u64 (x : Int) (y : Int) = ((x &&& y : Nat) : Int) := u64_and_nat x y (by omega) (by omega)
theorem andNot_u {x y : Nat} (hx : x < 2 ^ 64) (hy : y < 2 ^ 64) : bits .andNot .u64 (x : Int) (y : Int) = ((x &&& (2 ^ 64 - 1 - y) : Nat) : Int) := u64_andNot_nat x y (by omega) (by omega)

theorem ones_num (k : Nat) (hk : k ≤ 64) : IntKind.u64.wrap (IntKind.u64.wrap (2 ^ k) - 1) = ((2 ^ k - 1 : Nat) : Int) := by
  rw [IntKind.wrap_u64, IntKind.wrap_u64]
  have h1 := Nat.two_pow_pos k
  have h2 : 2 ^ k ≤ 2 ^ 64 := Nat.pow_le_pow_right (by omega) hk
  have e : (2 : Int) ^ k = ((2 ^ k : Nat) : Int) := by simp [Int.natCast_pow]
  rw [e]
  omega

/-- width and n may be. -/
def rightB (width n : Int) : Bool := decide (1 ≤ width ∧ width ≤ 64 ∧ 0 ≤ n ∧ n ≤ 4194304)

section
variable {w : World} {g gs width n : Nat} {ws : List Nat}

/-- the bounds that every place of a list keeps. -/
theorem q_small {i width n q L : Nat} (hw : width ≤ 64) (hi : i < n) (hn : n ≤ 4194304) (hq : i * width / 64 = q) (hL : n * width ≤ 64 * L) (h1 : 1 ≤ width) : q < 4194304 ∧ q < L := by
  have := Pl.mul_room (width := width) hi
  have hb : n * width ≤ 4194304 * 64 := Nat.mul_le_mul hn hw
  omega
theorem q_next {i width n q r L : Nat} (hi : i < n) (hq : i * width / 64 = q) (hr : i * width % 64 = r) (hL : n * width ≤ 64 * L) (hlong : 64 < r + width) : q + 1 < L := by
  have := Pl.mul_room (width := width) hi
  omega

theorem get_end {ws : List Nat} {width i q r x0 x1 : Nat} (hs : Pl.Small ws) (hw : width ≤ 64) (hq : i * width / 64 = q) (hr : i * width % 64 = r) (h0 : ws.getD q 0 = x0) (h1 : ws.getD (q + 1) 0 = x1) (hlong : 64 < r + width) :
    bits .and .u64 (bits .or .u64 ((x0 : Int) / 2 ^ r) (IntKind.u64.wrap ((x1 : Int) * 2 ^ (64 - r)))) ((2 ^ width - 1 : Nat) : Int) = ((Pl.getN ws width i : Nat) : Int) := by
  have b0 : x0 < 2 ^ 64 := by rw [← h0]; exact hs.at_ _
  have bw : 2 ^ width - 1 < 2 ^ 64 := by have := Pl.two_pow_le_64 hw; have := Nat.two_pow_pos width; omega
  have b1 : x1 * 2 ^ (64 - r) % 2 ^ 64 < 2 ^ 64 := Nat.mod_lt _ (by decide)
  rw [shr_u, shl_u, or_u (Pl.div_lt_64 b0) b1, and_u (Nat.or_lt_two_pow (Pl.div_lt_64 b0) b1) bw]
  unfold Pl.getN
  simp only [hq, hr, h0, h1, hlong, if_true]
theorem get_end' {ws : List Nat} {width i q r x0 : Nat} (hs : Pl.Small ws) (hw : width ≤ 64) (hq : i * width / 64 = q) (hr : i * width % 64 = r) (h0 : ws.getD q 0 = x0) (hshort : ¬ 64 < r + width) :
    bits .and .u64 ((x0 : Int) / 2 ^ r) ((2 ^ width - 1 : Nat) : Int) = ((Pl.getN ws width i : Nat) : Int) := by
  have b0 : x0 < 2 ^ 64 := by rw [← h0]; exact hs.at_ _
  have bw : 2 ^ width - 1 < 2 ^ 64 := by have := Pl.two_pow_le_64 hw; have := Nat.two_pow_pos width; omega
  rw [shr_u, and_u (Pl.div_lt_64 b0) bw]
  unfold Pl.getN
  simp only [hq, hr, h0, hshort, if_false]

end
end Go.Proofs.Ytddfaidfnmpnlaa

namespace Go.Proofs.Ytddfaidfnmpnlaa
open Go.RowKit

theorem info_u64 : (Try.prog.info? 68).map (fun i => (i.zero, i.size, i.bytes)) = some (some (.int .u64 0), 1, 8) := by kernel_rfl
theorem size_u64 : (Try.prog.info? 68).map (·.size) = some 1 := by kernel_rfl

theorem zeros_cells (L : Nat) : madeCells (Value.int .u64 0).cells (L * 1) = (wcells (List.replicate L 0)).toArray := by
  apply Array.ext'
  simp [madeCells, wcells, Value.cells, Array.toList_range]
  apply List.ext_getElem
  · simp
  · intro i h1 h2
    simp [Nat.mod_one]
theorem wcells_one (ws : List Nat) : ∀ v ∈ wcells ws, v.oneCell' = true := by
  intro v hv
  unfold wcells at hv
  obtain ⟨x, _, rfl⟩ := List.mem_map.1 hv
  rfl
theorem size_alloc (w : World) (o : Obj) : (w.alloc o).heap.size = w.heap.size + 1 := by simp
theorem lies_new (w : World) (t : TypeId) (cs : List Value) : Lies (w.alloc (.cells cs.toArray t)) w.heap.size t cs := heap_alloc_new w _

/-- a slice, from its block's head on, that reads as these words. -/
def Src (w : World) (b : Nat) (ws : List Nat) : Prop := b < w.heap.size ∧ ∀ k, k < ws.length → w.cell? ⟨b, k, none⟩ = some (.int .u64 ((ws.getD k 0 : Nat) : Int))
theorem Src.of_lies {w : World} {b : Nat} {ws : List Nat} (h : Lies w b 68 (wcells ws)) : Src w b ws := ⟨h.lt, fun k hk => by rw [h.cell k]; exact wcells_at ws k hk⟩
theorem Src.keep {w w' : World} {b : Nat} {ws : List Nat} (h : Src w b ws) (hb : Below w.heap.size w w') : Src w' b ws :=
  ⟨Nat.lt_of_lt_of_le h.1 hb.size, fun k hk => (hb.cell (p := ⟨b, k, none⟩) h.1).trans (h.2 k hk)⟩
theorem Src.cells {w : World} {b : Nat} {ws : List Nat} (h : Src w b ws) (j : Nat) (v : Value) (hj : (wcells ws)[j]? = some v) : w.cell? ((⟨b, 0, none⟩ : Addr).add j) = some v := by
  have hl : j < ws.length := by
    rw [← wcells_length]
    exact (List.getElem?_eq_some_iff.1 hj).1
  have e : (⟨b, 0, none⟩ : Addr).add j = ⟨b, j, none⟩ := by unfold Addr.add; split <;> simp_all
  rw [e, h.2 j hl, ← hj]
  exact (wcells_at ws j hl).symm

/-- what copyOf leaves: a new row of just these words. -/
def CopyPost (w : World) (ws : List Nat) (e : Ending) (w' : World) : Prop :=
  ∃ gs : Nat, e = .returned (.slice (some ⟨gs, 0, none⟩) ws.length ws.length) ∧ w.heap.size ≤ gs ∧ Lies w' gs 68 (wcells ws) ∧ Below w.heap.size w w'

section
variable {w : World} {g gs width n : Nat} {ws : List Nat}

end
end Go.Proofs.Ytddfaidfnmpnlaa
