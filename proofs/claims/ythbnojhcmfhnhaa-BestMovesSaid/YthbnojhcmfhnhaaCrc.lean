/- Strings out of slices of bytes. The contracts of package crc: a register and bytes; sums; a sum laid behind bytes, and cut off again. The contract of crc.Cut. -/
import Derived.Test.YthbnojhcmfhnhaaBytesOwn
import Derived.Laws.BytesArg
import Derived.Test.YthbnojhcmfhnhaaCrcMath
import Derived.RegionTactic
import Derived.Deep.QuietTactic
import Derived.BigQuiet
import Derived.WalkLawsBesides
import Derived.Deep.RegionHeld3
import Derived.Deep.CutBlock
import Derived.Deep.DeepCutAuto
import Derived.Stop.BytesEq
namespace Go.Proofs.Ythbnojhcmfhnhaa
open Go.RowKit

/-- n bytes as a string. -/
def bstr (V : Nat → Nat) (n : Nat) : ByteArray := ⟨((List.range n).map fun k => UInt8.ofNat (V k)).toArray⟩
theorem bstr_size (V : Nat → Nat) (n : Nat) : (bstr V n).size = n := by simp [bstr, ByteArray.size]
theorem bstr_congr {V U : Nat → Nat} {n : Nat} (h : ∀ k, k < n → V k = U k) : bstr V n = bstr U n := by
  unfold bstr
  congr 2
  apply List.map_congr_left
  intro k hk
  rw [h k (List.mem_range.1 hk)]
theorem u8_same {x y : Nat} (hx : x < 256) (hy : y < 256) (h : UInt8.ofNat x = UInt8.ofNat y) : x = y := by
  have e := congrArg UInt8.toNat h
  rw [UInt8.toNat_ofNat', UInt8.toNat_ofNat'] at e
  omega
theorem bstr_same {V U : Nat → Nat} {n m : Nat} (hV : ∀ k, k < n → V k < 256) (hU : ∀ k, k < m → U k < 256) (h : bstr V n = bstr U m) : n = m ∧ ∀ k, k < n → V k = U k := by
  have hs := congrArg ByteArray.size h
  rw [bstr_size, bstr_size] at hs
  subst hs
  refine ⟨rfl, fun k hk => ?_⟩
  have hd := congrArg (fun b : ByteArray => b.data.toList[k]?) h
  simp only [bstr, List.getElem?_map, List.getElem?_range hk, Option.map_some, Option.some.injEq] at hd
  exact u8_same (hV k hk) (hU k hk) hd

/-- how the walk holds two strings against each other. -/
theorem str_eq (a b : ByteArray) : (a.toList == b.toList) = decide (a = b) := by
  rw [Bool.eq_iff_iff, beq_iff_eq, decide_eq_true_eq, ByteArray.toList_eq, ByteArray.toList_eq]
  exact ⟨fun h => ByteArray.ext (Array.toList_inj.1 h), fun h => by rw [h]⟩
theorem str_same {a b : ByteArray} (h : a = b) : (a.toList == b.toList) = true := by rw [str_eq]; simpa using h
theorem str_unlike {a b : ByteArray} (h : a ≠ b) : (a.toList == b.toList) = false := by rw [str_eq]; simpa using h

end Go.Proofs.Ythbnojhcmfhnhaa

namespace Go.Proofs.Ythbnojhcmfhnhaa
open Go.RowKit

theorem xor_32 {x y : Nat} (hx : x < 2 ^ 32) (hy : y < 2 ^ 32) : bits .xor .u32 (x : Int) (y : Int) = ((x ^^^ y : Nat) : Int) := u32_xor_nat x y (by omega) (by omega)

theorem and_15 (x : Nat) (h : x < 2 ^ 32) : bits .and .u32 (x : Int) 15 = ((x % 16 : Nat) : Int) := by
  have e := u32_and_nat x 15 (by omega) (by omega)
  rw [show x &&& 15 = x % 16 from Nat.and_two_pow_sub_one_eq_mod x 4] at e
  exact e

/-- byte i of a sum, the lowest first. -/
def byteOf (s i : Nat) : Nat := s / 256 ^ i % 256
/-- a sum as it is laid. -/
def quad (s : Nat) : List Value := [.int .u8 ((byteOf s 0 : Nat) : Int), .int .u8 ((byteOf s 1 : Nat) : Int), .int .u8 ((byteOf s 2 : Nat) : Int), .int .u8 ((byteOf s 3 : Nat) : Int)]
/-- the first i of them. -/
def quadTo (s i : Nat) : List Value := (List.range 4).map fun k => if k < i then .int .u8 ((byteOf s k : Nat) : Int) else .int .u8 0

theorem quadTo_all (s : Nat) : quadTo s 4 = quad s := rfl
theorem quadTo_at (s i : Nat) (h : i < 4) : (quadTo s i)[i]? = some (.int .u8 0) := by
  have hi : i = 0 ∨ i = 1 ∨ i = 2 ∨ i = 3 := by omega
  rcases hi with rfl | rfl | rfl | rfl <;> rfl
theorem quadTo_set (s i : Nat) (h : i < 4) : (quadTo s i).set i (.int .u8 ((byteOf s i : Nat) : Int)) = quadTo s (i + 1) := by
  have hi : i = 0 ∨ i = 1 ∨ i = 2 ∨ i = 3 := by omega
  rcases hi with rfl | rfl | rfl | rfl <;> rfl
theorem byteOf_lt (s i : Nat) : byteOf s i < 256 := Nat.mod_lt _ (by decide)
theorem byte_num (s i : Nat) : (s : Int) / 2 ^ (8 * i) % 256 = ((byteOf s i : Nat) : Int) := by
  unfold byteOf
  rw [shr_u, Nat.pow_mul]
  rfl

/-- a part of what is summed: where it lies, its length, its room, its bytes. -/
structure Part where
  A : Option Addr
  n : Nat
  c : Nat
  V : Nat → Nat
/-- parts, as they lie. -/
def Parts (w : World) (B : Nat) (P : Addr) (L : List Part) : Prop :=
  P.block < B ∧ ∀ (j : Nat) (p : Part), L[j]? = some p → w.cell? (P.add j) = some (.slice p.A p.n p.c) ∧ p.n ≤ 4194304 ∧ Bys w B p.A p.n p.V
theorem Parts.below {w w' : World} {B : Nat} {P : Addr} {L : List Part} (h : Parts w B P L) (hb : Below B w w') : Parts w' B P L :=
  ⟨h.1, fun j p hj => by
    obtain ⟨h1, h2, h3⟩ := h.2 j p hj
    exact ⟨(hb.cell (by rw [add_block]; exact h.1)).trans h1, h2, h3.below hb⟩⟩
/-- the register behind parts. -/
def regAll (r : Nat) : List Part → Nat
  | [] => r
  | p :: L => regAll (Pl.more r p.V p.n) L
theorem regAll_lt : ∀ (L : List Part) (r : Nat), r < 2 ^ 32 → regAll r L < 2 ^ 32
  | [], _, h => h
  | _ :: L, _, h => regAll_lt L _ (Pl.more_lt h _ _)
theorem regAll_take (r : Nat) : ∀ (L : List Part) (i : Nat) (p : Part), L[i]? = some p → regAll r (L.take (i + 1)) = Pl.more (regAll r (L.take i)) p.V p.n
  | [], i, p, h => by simp at h
  | q :: L, 0, p, h => by simp at h; subst h; rfl
  | q :: L, i + 1, p, h => regAll_take (Pl.more r q.V q.n) L i p (by simpa using h)

theorem room_size (C : Nat) : (madeCells (Value.int .u8 0).cells (C * 1)).size = C * 1 := by simp [madeCells, Value.cells]

/-- bytes and their sum behind them. -/
def behind (V : Nat → Nat) (n : Nat) : Nat → Nat := both V (byteOf (Pl.sumN V n)) n
theorem behind_lt {V : Nat → Nat} {n : Nat} (hV : ∀ k, k < n → V k < 256) (j : Nat) : behind V n j < 256 := by
  unfold behind both
  split
  · exact hV j (by assumption)
  · exact byteOf_lt _ _
theorem quad_cells (s : Nat) : quad s = ycells (byteOf s) 4 := rfl
theorem quad_bys {w : World} {g : Nat} {s : Nat} {t : TypeId} (h : Lies w g t (quad s)) : Bys w w.heap.size (some ⟨g, 0, none⟩) 4 (byteOf s) := fun k hk => by
  refine ⟨⟨g, 0, none⟩, rfl, h.lt, ?_, byteOf_lt _ _⟩
  have e : (⟨g, 0, none⟩ : Addr).add k = ⟨g, k, none⟩ := by unfold Addr.add; split <;> simp_all
  rw [e, h.cell k, quad_cells]
  exact ycells_at _ _ _ hk

theorem ownsRow_keep {w w' : World} {B n : Nat} {t : TypeId} {v : Value} {cs : List Value} (h : w.ownsRow B t 1 v n cs) (hb : Below w.heap.size w w') : w'.ownsRow B t 1 v n cs := by
  refine h.kept (row := none) ⟨hb.os, hb.tape, hb.output, hb.size, fun i hi _ => hb.block i hi⟩ ?_
  by_cases e : v.ownBlock = none
  · exact .inl e
  · exact .inr e

/-- what Put leaves. -/
def PutPost (w : World) (n : Nat) (V : Nat → Nat) (e : Ending) (w' : World) : Prop :=
  ∃ v, e = .returned v ∧ w'.ownsRow w.heap.size 5 1 v (n + 4) (ycells (behind V n) (n + 4)) ∧ Below w.heap.size w w'

/-- what Clone leaves. -/
def ClonePost (w : World) (n : Nat) (V : Nat → Nat) (e : Ending) (w' : World) : Prop :=
  ∃ v, e = .returned v ∧ w'.ownsRow w.heap.size 5 1 v n (ycells V n) ∧ Below w.heap.size w w'
end Go.Proofs.Ythbnojhcmfhnhaa

namespace Go.Proofs.Ythbnojhcmfhnhaa
open Go.RowKit

theorem below_drew' {B : Nat} {a w : World} (h : Below B a w) : Below B a w.drew := ⟨h.os, h.tape, h.output, h.size, h.block⟩
theorem ownsRow_lower {w : World} {B B' n : Nat} {t : TypeId} {v : Value} {cs : List Value} (h : w.ownsRow B t 1 v n cs) (hB : B' ≤ B) : w.ownsRow B' t 1 v n cs := by
  refine ⟨h.1, ?_⟩
  rcases h.2 with h' | ⟨g, cap, cur, e, hb, rest⟩
  · exact .inl h'
  · exact .inr ⟨g, cap, cur, e, Nat.le_trans hB hb, rest⟩
/-- what Cut leaves: too short, another sum, or the bytes ahead of the sum. -/
def CutPost (w : World) (n : Nat) (V : Nat → Nat) (e : Ending) (w' : World) : Prop :=
  (n < 4 → e = .returned (.tuple #[.slice none 0 0, .int .i64 50])) ∧
  (∀ m, n = m + 4 → ¬ Pl.Ends V m → e = .returned (.tuple #[.slice none 0 0, .int .i64 40])) ∧
  (∀ m, n = m + 4 → Pl.Ends V m → ∃ v, e = .returned (.tuple #[v, .int .i64 0]) ∧ w'.ownsRow w.heap.size 5 1 v m (ycells V m)) ∧ Below w.heap.size w w'

/-- bytes as the model's own. -/
theorem u8_list (a b c d : Nat) (ha : a < 256) (hb : b < 256) (hc : c < 256) (hd : d < 256) :
    (#[.int .u8 (a : Int), .int .u8 (b : Int), .int .u8 (c : Int), .int .u8 (d : Int)] : Array Value) = ([UInt8.ofNat a, UInt8.ofNat b, UInt8.ofNat c, UInt8.ofNat d].map Extern.Stop.cell).toArray := by
  simp [Extern.Stop.cell]
  omega
theorem size_u8 (w : World) : (sizeOf 5).run Try.prog w = .ok 1 w := by
  obtain ⟨i, hi, hz, hs, hb⟩ := info_parts info_u8
  simp [sizeOf, typeInfo, hi, hs]
/-- a row of the call's own, as a slice of bytes. -/
theorem row_bys {w : World} {base n : Nat} {v : Value} {V : Nat → Nat} (h : w.ownsRow base 5 1 v n (ycells V n)) (hV : ∀ j, j < n → V j < 256) :
    ∃ (A : Option Addr) (c : Nat), v = .slice A n c ∧ (A = none → n = 0 ∧ c = 0) ∧ n ≤ c ∧ Bys w w.heap.size A n V := by
  have hc := h
  rcases h.2 with ⟨rfl, rfl⟩ | ⟨g, cap, cur, rfl, hb, hg, hcap, rest⟩
  · exact ⟨none, 0, rfl, fun _ => ⟨rfl, rfl⟩, Nat.le_refl _, fun k hk => absurd hk (by omega)⟩
  · refine ⟨some ⟨g, 0, none⟩, cap, rfl, fun e => (by cases e), hcap, fun k hk => ⟨⟨g, 0, none⟩, rfl, (hc.lt g rfl).2, ?_, hV k hk⟩⟩
    exact hc.cells rfl k _ (ycells_at V n k hk)
theorem sumN_congr {V U : Nat → Nat} {n : Nat} (h : ∀ k, k < n → V k = U k) : Pl.sumN V n = Pl.sumN U n := by
  unfold Pl.sumN
  exact congrArg (· ^^^ Pl.allOnes) (Pl.more_congr Pl.allOnes h)
theorem behind_old (V : Nat → Nat) (n k : Nat) (h : k < n) : behind V n k = V k := by unfold behind both; rw [if_pos h]
theorem behind_new (V : Nat → Nat) (n i : Nat) : behind V n (n + i) = byteOf (Pl.sumN V n) i := by
  unfold behind both
  rw [if_neg (by omega), show n + i - n = i by omega]
theorem behind_ends (V : Nat → Nat) (n : Nat) : Pl.Ends (behind V n) n := fun i _ => by
  rw [behind_new, sumN_congr (fun k hk => behind_old V n k hk)]
  rfl
theorem ycells_congr {V U : Nat → Nat} {n : Nat} (h : ∀ k, k < n → V k = U k) : ycells V n = ycells U n := by
  unfold ycells
  apply List.map_congr_left
  intro k hk
  rw [h k (List.mem_range.1 hk)]
end Go.Proofs.Ythbnojhcmfhnhaa
