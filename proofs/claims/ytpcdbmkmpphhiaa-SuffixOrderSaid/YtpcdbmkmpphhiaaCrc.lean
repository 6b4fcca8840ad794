/- The contracts of package crc: a register and bytes; sums; a sum laid behind bytes, and cut off again. -/
import Derived.Test.YtpcdbmkmpphhiaaCrcMath
import Derived.Test.YtpcdbmkmpphhiaaStr
import Derived.Test.YtpcdbmkmpphhiaaBytesOwn
import Derived.RegionTactic
import Derived.Deep.QuietTactic
import Derived.BigQuiet
import Derived.WalkLawsBesides
namespace Go.Proofs.Ytpcdbmkmpphhiaa
open Go.RowKit

theorem xor_32 {x y : Nat} (hx : x < 2 ^ 32) (hy : y < 2 ^ 32) : bits .xor .u32 (x : Int) (y : Int) = ((x ^^^ y : Nat) : Int) := u32_xor_nat x y (by omega) (by omega)

theorem and_15 (x : Nat) (h : x < 2 ^ 32) : bits .and .u32 (x : Int) 15 = ((x % 16 : Nat) : Int) := by
  have e := u32_and_nat x 15 (by omega) (by omega)
  rw [show x &&& 15 = x % 16 from Nat.and_two_pow_sub_one_eq_mod x 4] at e
  exact e

/-- byte i of a sum, the lowest first. -/
def byteOf (s i : Nat) : Nat := s / 256 ^ i % 256
/-- a sum as it is laid. -/
def quad (s : Nat) : List Value := [.int .u8 ((byteOf s 0 : Nat) : Int), .int .u8 ((byteOf s 1 : Nat) : Int), .int .u8 ((byteOf s 2 : Nat) : Int), .int .u8 ((byteOf s 3 : Nat) : Int)]
/-- the first i of them. -/
def quadTo (s i : Nat) : List Value := (List.range 4).map fun k => if k < i then .int .u8 ((byteOf s k : Nat) : Int) else .int .u8 0

theorem quadTo_all (s : Nat) : quadTo s 4 = quad s := rfl
theorem quadTo_at (s i : Nat) (h : i < 4) : (quadTo s i)[i]? = some (.int .u8 0) := by
  have hi : i = 0 ∨ i = 1 ∨ i = 2 ∨ i = 3 := by omega
  rcases hi with rfl | rfl | rfl | rfl <;> rfl
theorem quadTo_set (s i : Nat) (h : i < 4) : (quadTo s i).set i (.int .u8 ((byteOf s i : Nat) : Int)) = quadTo s (i + 1) := by
  have hi : i = 0 ∨ i = 1 ∨ i = 2 ∨ i = 3 := by omega
  rcases hi with rfl | rfl | rfl | rfl <;> rfl
theorem byteOf_lt (s i : Nat) : byteOf s i < 256 := Nat.mod_lt _ (by decide)
theorem byte_num (s i : Nat) : (s : Int) / 2 ^ (8 * i) % 256 = ((byteOf s i : Nat) : Int) := by
  unfold byteOf
  rw [shr_u, Nat.pow_mul]
  rfl

/-- a part of what is summed: where it lies, its length, its room, its bytes. -/
structure Part where
  A : Option Addr
  n : Nat
  c : Nat
  V : Nat → Nat
/-- parts, as they lie. -/
def Parts (w : World) (B : Nat) (P : Addr) (L : List Part) : Prop :=
  P.block < B ∧ ∀ (j : Nat) (p : Part), L[j]? = some p → w.cell? (P.add j) = some (.slice p.A p.n p.c) ∧ p.n ≤ 4194304 ∧ Bys w B p.A p.n p.V
theorem Parts.below {w w' : World} {B : Nat} {P : Addr} {L : List Part} (h : Parts w B P L) (hb : Below B w w') : Parts w' B P L :=
  ⟨h.1, fun j p hj => by
    obtain ⟨h1, h2, h3⟩ := h.2 j p hj
    exact ⟨(hb.cell (by rw [add_block]; exact h.1)).trans h1, h2, h3.below hb⟩⟩
/-- the register behind parts. -/
def regAll (r : Nat) : List Part → Nat
  | [] => r
  | p :: L => regAll (Pl.more r p.V p.n) L
theorem regAll_lt : ∀ (L : List Part) (r : Nat), r < 2 ^ 32 → regAll r L < 2 ^ 32
  | [], _, h => h
  | _ :: L, _, h => regAll_lt L _ (Pl.more_lt h _ _)
theorem regAll_take (r : Nat) : ∀ (L : List Part) (i : Nat) (p : Part), L[i]? = some p → regAll r (L.take (i + 1)) = Pl.more (regAll r (L.take i)) p.V p.n
  | [], i, p, h => by simp at h
  | q :: L, 0, p, h => by simp at h; subst h; rfl
  | q :: L, i + 1, p, h => regAll_take (Pl.more r q.V q.n) L i p (by simpa using h)

theorem make_room (C : Nat) (hC : C ≤ 16777216) (W : World) :
    (Instr.makeSlice 30 (.int .i64 0) (.int .i64 (C : Int))).run Try.prog W = .ok (.slice (some ⟨W.heap.size, 0, none⟩) 0 C) (W.alloc (.cells (madeCells (Value.int .u8 0).cells (C * 1)) 5)) := by
  obtain ⟨i, hi, hz, hs, hb⟩ := info_parts info_u8
  have h := run_make (P := Try.prog) W 30 5 i _ Try.underlying30 hi hz .i64 .i64 0 (C : Int) (by omega) (by omega) (by rw [hb]; omega) (by omega)
  rw [h, hs]
  simp only [Int.toNat_natCast]
  rfl
theorem room_size (C : Nat) : (madeCells (Value.int .u8 0).cells (C * 1)).size = C * 1 := by simp [madeCells, Value.cells]

/-- bytes and their sum behind them. -/
def behind (V : Nat → Nat) (n : Nat) : Nat → Nat := both V (byteOf (Pl.sumN V n)) n
theorem behind_lt {V : Nat → Nat} {n : Nat} (hV : ∀ k, k < n → V k < 256) (j : Nat) : behind V n j < 256 := by
  unfold behind both
  split
  · exact hV j (by assumption)
  · exact byteOf_lt _ _
theorem quad_cells (s : Nat) : quad s = ycells (byteOf s) 4 := rfl
theorem quad_bys {w : World} {g : Nat} {s : Nat} {t : TypeId} (h : Lies w g t (quad s)) : Bys w w.heap.size (some ⟨g, 0, none⟩) 4 (byteOf s) := fun k hk => by
  refine ⟨⟨g, 0, none⟩, rfl, h.lt, ?_, byteOf_lt _ _⟩
  have e : (⟨g, 0, none⟩ : Addr).add k = ⟨g, k, none⟩ := by unfold Addr.add; split <;> simp_all
  rw [e, h.cell k, quad_cells]
  exact ycells_at _ _ _ hk

theorem ownsRow_keep {w w' : World} {B n : Nat} {t : TypeId} {v : Value} {cs : List Value} (h : w.ownsRow B t 1 v n cs) (hb : Below w.heap.size w w') : w'.ownsRow B t 1 v n cs := by
  refine h.kept (row := none) ⟨hb.os, hb.tape, hb.output, hb.size, fun i hi _ => hb.block i hi⟩ ?_
  by_cases e : v.ownBlock = none
  · exact .inl e
  · exact .inr e

/-- what Put leaves. -/
def PutPost (w : World) (n : Nat) (V : Nat → Nat) (e : Ending) (w' : World) : Prop :=
  ∃ v, e = .returned v ∧ w'.ownsRow w.heap.size 5 1 v (n + 4) (ycells (behind V n) (n + 4)) ∧ Below w.heap.size w w'

/-- what Clone leaves. -/
def ClonePost (w : World) (n : Nat) (V : Nat → Nat) (e : Ending) (w' : World) : Prop :=
  ∃ v, e = .returned v ∧ w'.ownsRow w.heap.size 5 1 v n (ycells V n) ∧ Below w.heap.size w w'
end Go.Proofs.Ytpcdbmkmpphhiaa
