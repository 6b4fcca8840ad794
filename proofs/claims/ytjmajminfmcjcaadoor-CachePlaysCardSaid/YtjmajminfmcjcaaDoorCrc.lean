/- The contracts of package crc: a register and bytes; sums; a sum laid behind bytes, and cut off again. -/
import Derived.Test.YtjmajminfmcjcaaDoorCrcMath
import Derived.Test.YtjmajminfmcjcaaDoorStr
import Derived.Test.YtjmajminfmcjcaaDoorBytesOwn
import Derived.RegionTactic
import Derived.Deep.QuietTactic
import Derived.BigQuiet
import Derived.WalkLawsBesides
namespace Go.Proofs.YtjmajminfmcjcaaDoor
open Go.RowKit

/-- the program's two tables, as they lie. -/
structure Tabs (w : World) : Prop where
  low : ∀ i, i < 16 → w.cell? ⟨0, i, none⟩ = some (.int .u32 ((Pl.lowT i : Nat) : Int))
  up : ∀ i, i < 16 → w.cell? ⟨1, i, none⟩ = some (.int .u32 ((Pl.upT i : Nat) : Int))
theorem Tabs.keep {w w' : World} (h : Tabs w) (hb : Below w.heap.size w w') : Tabs w' :=
  ⟨fun i hi => (hb.cell (p := ⟨_, i, none⟩) (cell_in (h.low i hi))).trans (h.low i hi), fun i hi => (hb.cell (p := ⟨_, i, none⟩) (cell_in (h.up i hi))).trans (h.up i hi)⟩

theorem xor_32 {x y : Nat} (hx : x < 2 ^ 32) (hy : y < 2 ^ 32) : bits .xor .u32 (x : Int) (y : Int) = ((x ^^^ y : Nat) : Int) := u32_xor_nat x y (by omega) (by omega)

theorem and_15 (x : Nat) (h : x < 2 ^ 32) : bits .and .u32 (x : Int) 15 = ((x % 16 : Nat) : Int) := by
  have e := u32_and_nat x 15 (by omega) (by omega)
  rw [show x &&& 15 = x % 16 from Nat.and_two_pow_sub_one_eq_mod x 4] at e
  exact e

set_option maxRecDepth 100000 in
set_option maxHeartbeats 800000 in
theorem added_any (A : Option Addr) (n c : Nat) (V : Nat → Nat) (r : Nat) (hr : r < 2 ^ 32) (B : Nat) (w : World) (hn : n ≤ 4194304) (hB : B ≤ w.heap.size) (ho : Bys w B A n V) (ht : Tabs w) :
    Calls Tryd.prog 59 #[.int .u32 (r : Int), .slice A n c] w fun e w' => e = .returned (.int .u32 ((Pl.more r V n : Nat) : Int)) ∧ Below w.heap.size w w' := by
  have HO := Lib.hid ho
  have HT := Lib.hid ht
  clear ho ht
  go_enter Tryd.func59, Tryd.ntmps59
  go_wp2_with fail
  go_loopw [0, 9] (fun s v wr => ∃ i : Nat, i ≤ n ∧ v = .int .i64 (i : Int) ∧ s = .int .u32 ((Pl.more r V i : Nat) : Int) ∧ Below w.heap.size w wr) (fun _ v _ => n - (intOf v).toNat)
  case atStart => exact ⟨0, Nat.zero_le _, rfl, rfl, Below.refl _ _⟩
  case round =>
    obtain ⟨i, hi, rfl, rfl, hb⟩ := hrel
    by_cases hlt : i < n
    · obtain ⟨ad, rfl, had, hV, hV8⟩ := (HO.out.below (hb.mono hB)) i hlt
      have hm := Pl.more_lt hr V i
      have hnext := Pl.more_next r V i hV8
      generalize Pl.more r V i = m at hm hnext ⊢
      generalize V i = v at hV8 hV hnext ⊢
      have hxl : m ^^^ v < 2 ^ 32 := Nat.xor_lt_two_pow hm (by omega)
      have hx := xor_32 (y := v) hm (by omega)
      rw [Pl.by_halves] at hnext
      generalize m ^^^ v = x at hxl hx hnext
      have hl := and_15 x hxl
      have hu := and_15 (x / 16) (by omega)
      have hT := HT.out.keep hb
      have hlc := hT.low (x % 16) (by omega)
      have huc := hT.up (x / 16 % 16) (by omega)
      have hll := Pl.lowT_lt (x % 16) (by omega)
      have hul := Pl.upT_lt (x / 16 % 16) (by omega)
      generalize Pl.lowT (x % 16) = ll at hlc hll hnext
      generalize Pl.upT (x / 16 % 16) = uu at huc hul hnext
      generalize hq : x % 16 = q at hl hlc
      generalize hp : x / 16 % 16 = p at hu huc
      have hql : (q : Int) < 16 := by omega
      have hpl : (p : Int) < 16 := by omega
      have e1 : bits .xor .u32 ((x : Int) / 256) (ll : Int) = (((x / 256) ^^^ ll : Nat) : Int) := by
        rw [← xor_32 (by omega) hll]; rfl
      have hxx : (x / 256) ^^^ ll < 2 ^ 32 := Nat.xor_lt_two_pow (by omega) hll
      have e2 : bits .xor .u32 (((x / 256) ^^^ ll : Nat) : Int) (uu : Int) = ((((x / 256) ^^^ ll) ^^^ uu : Nat) : Int) := xor_32 hxx hul
      have HN := Lib.hid hnext
      clear hnext hT hq hp hm hxl
      rw [show ((x / 16 : Nat) : Int) = (x : Int) / 16 by omega] at hu
      go_wp2_with fail
      go_quiet (fail)
      go_wp2_with fail
      go_roundw
      case rel => exact ⟨i + 1, by omega, by go_num, by rw [HN.out], below_drewN' hb _⟩
      case measure => simp [intOf]; omega
    · have hin : i = n := by omega
      subst hin
      go_wp2_with fail
      go_ret
      exact ⟨rfl, hb⟩

/-- byte i of a sum, the lowest first. -/
def byteOf (s i : Nat) : Nat := s / 256 ^ i % 256
/-- a sum as it is laid. -/
def quad (s : Nat) : List Value := [.int .u8 ((byteOf s 0 : Nat) : Int), .int .u8 ((byteOf s 1 : Nat) : Int), .int .u8 ((byteOf s 2 : Nat) : Int), .int .u8 ((byteOf s 3 : Nat) : Int)]
/-- the first i of them. -/
def quadTo (s i : Nat) : List Value := (List.range 4).map fun k => if k < i then .int .u8 ((byteOf s k : Nat) : Int) else .int .u8 0

theorem quadTo_all (s : Nat) : quadTo s 4 = quad s := rfl
theorem quadTo_at (s i : Nat) (h : i < 4) : (quadTo s i)[i]? = some (.int .u8 0) := by
  have hi : i = 0 ∨ i = 1 ∨ i = 2 ∨ i = 3 := by omega
  rcases hi with rfl | rfl | rfl | rfl <;> rfl
theorem quadTo_set (s i : Nat) (h : i < 4) : (quadTo s i).set i (.int .u8 ((byteOf s i : Nat) : Int)) = quadTo s (i + 1) := by
  have hi : i = 0 ∨ i = 1 ∨ i = 2 ∨ i = 3 := by omega
  rcases hi with rfl | rfl | rfl | rfl <;> rfl
theorem byteOf_lt (s i : Nat) : byteOf s i < 256 := Nat.mod_lt _ (by decide)
theorem byte_num (s i : Nat) : (s : Int) / 2 ^ (8 * i) % 256 = ((byteOf s i : Nat) : Int) := by
  unfold byteOf
  rw [shr_u, Nat.pow_mul]
  rfl

set_option maxRecDepth 100000 in
set_option maxHeartbeats 800000 in
theorem laid_any (s : Nat) (w : World) : Calls Tryd.prog 55 #[.int .u32 (s : Int)] w fun e w' => e = .returned (.agg (quad s).toArray) ∧ Below w.heap.size w w' := by
  go_enter Tryd.func55, Tryd.ntmps55
  go_wp2_with fail
  go_loopw [5] (fun v wr => ∃ i : Nat, i ≤ 4 ∧ v = .int .i64 (i : Int) ∧ Hid (Lies wr w.heap.size 108 (quadTo 0 0)) ∧ Hid (Lies wr (w.heap.size + 1) 108 (quadTo s i)) ∧ Below w.heap.size w wr) (fun v _ => 4 - (intOf v).toNat)
  case atStart =>
    refine ⟨0, by decide, rfl, Lib.hid ?_, Lib.hid ?_, ?_⟩
    · exact (lies_new w _ _).alloc _
    · have e := lies_new (w.alloc (.cells (quadTo 0 0).toArray 108)) 108 (quadTo s 0)
      rw [size_alloc] at e
      exact e
    · exact ((Below.refl _ _).alloc (Nat.le_refl _) _).alloc (by rw [size_alloc]; omega) _
  case round =>
    obtain ⟨i, hi, rfl, H1, H2, hb⟩ := hrel
    by_cases hlt : i < 4
    · have hc := (H2.out.cell i).trans (quadTo_at s i hlt)
      have hf := H2.out.free i
      have HB := Lib.hid (byte_num s i)
      have hi4 : (i : Int) < 4 := by omega
      go_wp2_with fail
      go_roundw
      case rel =>
        rw [HB.out]
        refine ⟨i + 1, by omega, by go_num, Lib.hid (H1.out.far (by show w.heap.size ≠ w.heap.size + 1; omega) _), Lib.hid ?_, hb.setCell (by show w.heap.size ≤ w.heap.size + 1; omega) _⟩
        rw [← quadTo_set s i hlt]
        exact H2.out.put i _
      case measure => simp [intOf]; omega
    · have hin : i = 4 := by omega
      subst hin
      have c0 := H1.out.cell 0
      have c1 := H1.out.cell 1
      have c2 := H1.out.cell 2
      have c3 := H1.out.cell 3
      have f0 := H1.out.free 0
      have f1 := H1.out.free 1
      have f2 := H1.out.free 2
      have f3 := H1.out.free 3
      have d0 := H2.out.cell 0
      have d1 := H2.out.cell 1
      have d2 := H2.out.cell 2
      have d3 := H2.out.cell 3
      rw [show (quadTo s 4)[0]? = some (.int .u8 ((byteOf s 0 : Nat) : Int)) from rfl] at d0
      rw [show (quadTo s 4)[1]? = some (.int .u8 ((byteOf s 1 : Nat) : Int)) from rfl] at d1
      rw [show (quadTo s 4)[2]? = some (.int .u8 ((byteOf s 2 : Nat) : Int)) from rfl] at d2
      rw [show (quadTo s 4)[3]? = some (.int .u8 ((byteOf s 3 : Nat) : Int)) from rfl] at d3
      rw [show (quadTo 0 0)[0]? = some (.int .u8 0) from rfl] at c0
      rw [show (quadTo 0 0)[1]? = some (.int .u8 0) from rfl] at c1
      rw [show (quadTo 0 0)[2]? = some (.int .u8 0) from rfl] at c2
      rw [show (quadTo 0 0)[3]? = some (.int .u8 0) from rfl] at c3
      go_wp2_with fail
      have L : Lies _ w.heap.size 108 (quad s) := (((H1.out.put 0 (.int .u8 ((byteOf s 0 : Nat) : Int))).put 1 (.int .u8 ((byteOf s 1 : Nat) : Int))).put 2 (.int .u8 ((byteOf s 2 : Nat) : Int))).put 3 (.int .u8 ((byteOf s 3 : Nat) : Int))
      have hB := (((hb.setCell (p := ⟨w.heap.size, 0, none⟩) (Nat.le_refl _) (.int .u8 ((byteOf s 0 : Nat) : Int))).setCell (p := ⟨w.heap.size, 1, none⟩) (Nat.le_refl _) (.int .u8 ((byteOf s 1 : Nat) : Int))).setCell (p := ⟨w.heap.size, 2, none⟩) (Nat.le_refl _) (.int .u8 ((byteOf s 2 : Nat) : Int))).setCell (p := ⟨w.heap.size, 3, none⟩) (Nat.le_refl _) (.int .u8 ((byteOf s 3 : Nat) : Int))
      generalize ((((wr.setCell ⟨w.heap.size, 0, none⟩ (.int .u8 ((byteOf s 0 : Nat) : Int))).setCell ⟨w.heap.size, 1, none⟩ (.int .u8 ((byteOf s 1 : Nat) : Int))).setCell ⟨w.heap.size, 2, none⟩ (.int .u8 ((byteOf s 2 : Nat) : Int))).setCell ⟨w.heap.size, 3, none⟩ (.int .u8 ((byteOf s 3 : Nat) : Int))) = wf at L hB ⊢
      have g0 := L.cell 0
      have g1 := L.cell 1
      have g2 := L.cell 2
      have g3 := L.cell 3
      rw [show (quad s)[0]? = some (.int .u8 ((byteOf s 0 : Nat) : Int)) from rfl] at g0
      rw [show (quad s)[1]? = some (.int .u8 ((byteOf s 1 : Nat) : Int)) from rfl] at g1
      rw [show (quad s)[2]? = some (.int .u8 ((byteOf s 2 : Nat) : Int)) from rfl] at g2
      rw [show (quad s)[3]? = some (.int .u8 ((byteOf s 3 : Nat) : Int)) from rfl] at g3
      exact bodyPost_ret (v := .agg (quad s).toArray) (by simp [results, Tryd.results55, go_sem, g0, g1, g2, g3, quad]) rfl ⟨rfl, hB⟩

theorem laid_lit (s : Nat) (w : World) : Calls Tryd.prog 55 #[.int .u32 (s : Int)] w fun e w' => e = .returned (.agg #[.int .u8 ((byteOf s 0 : Nat) : Int), .int .u8 ((byteOf s 1 : Nat) : Int), .int .u8 ((byteOf s 2 : Nat) : Int), .int .u8 ((byteOf s 3 : Nat) : Int)]) ∧ Below w.heap.size w w' := laid_any s w

/-- a part of what is summed: where it lies, its length, its room, its bytes. -/
structure Part where
  A : Option Addr
  n : Nat
  c : Nat
  V : Nat → Nat
/-- parts, as they lie. -/
def Parts (w : World) (B : Nat) (P : Addr) (L : List Part) : Prop :=
  P.block < B ∧ ∀ (j : Nat) (p : Part), L[j]? = some p → w.cell? (P.add j) = some (.slice p.A p.n p.c) ∧ p.n ≤ 4194304 ∧ Bys w B p.A p.n p.V
theorem Parts.below {w w' : World} {B : Nat} {P : Addr} {L : List Part} (h : Parts w B P L) (hb : Below B w w') : Parts w' B P L :=
  ⟨h.1, fun j p hj => by
    obtain ⟨h1, h2, h3⟩ := h.2 j p hj
    exact ⟨(hb.cell (by rw [add_block]; exact h.1)).trans h1, h2, h3.below hb⟩⟩
/-- the register behind parts. -/
def regAll (r : Nat) : List Part → Nat
  | [] => r
  | p :: L => regAll (Pl.more r p.V p.n) L
theorem regAll_lt : ∀ (L : List Part) (r : Nat), r < 2 ^ 32 → regAll r L < 2 ^ 32
  | [], _, h => h
  | _ :: L, _, h => regAll_lt L _ (Pl.more_lt h _ _)
theorem regAll_take (r : Nat) : ∀ (L : List Part) (i : Nat) (p : Part), L[i]? = some p → regAll r (L.take (i + 1)) = Pl.more (regAll r (L.take i)) p.V p.n
  | [], i, p, h => by simp at h
  | q :: L, 0, p, h => by simp at h; subst h; rfl
  | q :: L, i + 1, p, h => regAll_take (Pl.more r q.V q.n) L i p (by simpa using h)

set_option maxRecDepth 100000 in
set_option maxHeartbeats 800000 in
theorem sum_any (P : Addr) (c : Nat) (L : List Part) (w : World) (hL : L.length ≤ 4) (ho : Parts w w.heap.size P L) (ht : Tabs w) :
    Calls Tryd.prog 56 #[.slice (some P) L.length c] w fun e w' => e = .returned (.int .u32 ((regAll Pl.allOnes L ^^^ Pl.allOnes : Nat) : Int)) ∧ Below w.heap.size w w' := by
  have HO := Lib.hid ho
  have HT := Lib.hid ht
  clear ho ht
  generalize hk : L.length = k at hL ⊢
  have HK := Lib.hid hk
  clear hk
  go_enter Tryd.func56, Tryd.ntmps56
  go_wp2_with fail
  go_loopw [3, 8] (fun s v wr => ∃ i : Nat, i ≤ k ∧ v = .int .i64 (i : Int) ∧ s = .int .u32 ((regAll Pl.allOnes (L.take i) : Nat) : Int) ∧ Below w.heap.size w wr) (fun _ v _ => k - (intOf v).toNat)
  case atStart => exact ⟨0, Nat.zero_le _, rfl, rfl, Below.refl _ _⟩
  case round =>
    obtain ⟨i, hi, rfl, rfl, hb⟩ := hrel
    have hr := regAll_lt (L.take i) Pl.allOnes (by decide)
    by_cases hlt : i < k
    · obtain ⟨p, hp⟩ : ∃ p, L[i]? = some p := ⟨_, List.getElem?_eq_getElem (by rw [HK.out]; exact hlt)⟩
      obtain ⟨h1, h2, h3⟩ := (HO.out.below hb).2 i p hp
      have HN := Lib.hid (regAll_take Pl.allOnes L i p hp)
      obtain ⟨A, n, cc, V⟩ := p
      have HA := fun (r : Nat) (hr : r < 2 ^ 32) => Lib.hid (added_any A n cc V r hr w.heap.size wr h2 hb.size h3 (HT.out.keep hb))
      generalize regAll Pl.allOnes (L.take i) = r at hr HN ⊢
      have HA1 := HA r hr
      clear hp HA h3
      go_wp2_with fail
      refine HA1.out.mono ?_
      rintro e w1 ⟨rfl, hb1⟩
      go_wp2_with fail
      go_roundw
      case rel => exact ⟨i + 1, by omega, by go_num, by rw [HN.out], hb.trans (hb1.mono hb.size)⟩
      case measure => simp [intOf]; omega
    · have hin : i = k := by omega
      subst hin
      rw [← HK.out, List.take_length] at hr ⊢
      obtain ⟨r, er⟩ : ∃ r, regAll Pl.allOnes L = r := ⟨_, rfl⟩
      have hr2 : r < 2 ^ 32 := by rw [← er]; exact hr
      have hx : bits .xor .u32 IntKind.u32.max (r : Int) = ((4294967295 ^^^ r : Nat) : Int) := u32_xor_nat 4294967295 r (by omega) (by omega)
      have HX := Lib.hid (show (regAll Pl.allOnes L ^^^ Pl.allOnes : Nat) = 4294967295 ^^^ r by rw [er]; exact Nat.xor_comm _ _)
      have hsg : IntKind.u32.signed = false := rfl
      rw [er] at hr ⊢
      clear er
      go_wp2_with fail
      go_ret
      exact ⟨by rw [HX.out]; rfl, hb⟩

/-- the sum of one part. -/
theorem sum_one (A : Option Addr) (n c : Nat) (V : Nat → Nat) (w : World) (hn : n ≤ 4194304) (ho : Bys w w.heap.size A n V) (ht : Tabs w) :
    Calls Tryd.prog 56 #[.slice (some ⟨w.heap.size, 0, none⟩) 1 1] (w.alloc (.cells #[.slice A n c] 31)) fun e w' => e = .returned (.int .u32 ((Pl.sumN V n : Nat) : Int)) ∧ Below w.heap.size w w' := by
  have hb : Below w.heap.size w (w.alloc (.cells #[.slice A n c] 31)) := (Below.refl _ _).alloc (Nat.le_refl _) _
  have hl := lies_new w 31 [.slice A n c]
  refine (sum_any ⟨w.heap.size, 0, none⟩ 1 [⟨A, n, c, V⟩] _ (by show 1 ≤ 4; decide) ⟨hl.lt, fun j p hj => ?_⟩ (ht.keep hb)).mono ?_
  · rcases j with _ | j
    · simp at hj
      subst hj
      exact ⟨hl.cell 0, hn, (ho.below hb).mono_ hb.size⟩
    · simp at hj
  · rintro e w' ⟨rfl, hb'⟩
    exact ⟨rfl, hb.trans (hb'.mono hb.size)⟩

/-- the sum of more parts. -/
theorem sum_parts (L : List Part) (w : World) (g : Nat) (hg : g = w.heap.size) (hL : L.length ≤ 4) (hp : ∀ p ∈ L, p.n ≤ 4194304 ∧ Bys w w.heap.size p.A p.n p.V) (ht : Tabs w) :
    Calls Tryd.prog 56 #[.slice (some ⟨g, 0, none⟩) L.length L.length] (w.alloc (.cells (L.map fun p => Value.slice p.A p.n p.c).toArray 31)) fun e w' => e = .returned (.int .u32 ((regAll Pl.allOnes L ^^^ Pl.allOnes : Nat) : Int)) ∧ Below w.heap.size w w' := by
  subst hg
  have hb : Below w.heap.size w (w.alloc (.cells (L.map fun p => Value.slice p.A p.n p.c).toArray 31)) := (Below.refl _ _).alloc (Nat.le_refl _) _
  have hl := lies_new w 31 (L.map fun p => Value.slice p.A p.n p.c)
  refine (sum_any ⟨w.heap.size, 0, none⟩ L.length L _ hL ⟨hl.lt, fun j p hj => ?_⟩ (ht.keep hb)).mono ?_
  · obtain ⟨h1, h2⟩ := hp p (List.mem_of_getElem? hj)
    have e : (⟨w.heap.size, 0, none⟩ : Addr).add j = ⟨w.heap.size, j, none⟩ := by unfold Addr.add; split <;> simp_all
    refine ⟨?_, h1, (h2.below hb).mono_ hb.size⟩
    rw [e, hl.cell j, List.getElem?_map, hj]
    rfl
  · rintro e w' ⟨rfl, hb'⟩
    exact ⟨rfl, hb.trans (hb'.mono hb.size)⟩

theorem make_room (C : Nat) (hC : C ≤ 16777216) (W : World) :
    (Instr.makeSlice 31 (.int .i64 0) (.int .i64 (C : Int))).run Tryd.prog W = .ok (.slice (some ⟨W.heap.size, 0, none⟩) 0 C) (W.alloc (.cells (madeCells (Value.int .u8 0).cells (C * 1)) 5)) := by
  obtain ⟨i, hi, hz, hs, hb⟩ := info_parts info_u8
  have h := run_make (P := Tryd.prog) W 31 5 i _ Tryd.underlying31 hi hz .i64 .i64 0 (C : Int) (by omega) (by omega) (by rw [hb]; omega) (by omega)
  rw [h, hs]
  simp only [Int.toNat_natCast]
  rfl
theorem room_size (C : Nat) : (madeCells (Value.int .u8 0).cells (C * 1)).size = C * 1 := by simp [madeCells, Value.cells]

/-- bytes and their sum behind them. -/
def behind (V : Nat → Nat) (n : Nat) : Nat → Nat := both V (byteOf (Pl.sumN V n)) n
theorem behind_lt {V : Nat → Nat} {n : Nat} (hV : ∀ k, k < n → V k < 256) (j : Nat) : behind V n j < 256 := by
  unfold behind both
  split
  · exact hV j (by assumption)
  · exact byteOf_lt _ _
theorem quad_cells (s : Nat) : quad s = ycells (byteOf s) 4 := rfl
theorem quad_bys {w : World} {g : Nat} {s : Nat} {t : TypeId} (h : Lies w g t (quad s)) : Bys w w.heap.size (some ⟨g, 0, none⟩) 4 (byteOf s) := fun k hk => by
  refine ⟨⟨g, 0, none⟩, rfl, h.lt, ?_, byteOf_lt _ _⟩
  have e : (⟨g, 0, none⟩ : Addr).add k = ⟨g, k, none⟩ := by unfold Addr.add; split <;> simp_all
  rw [e, h.cell k, quad_cells]
  exact ycells_at _ _ _ hk

theorem ownsRow_keep {w w' : World} {B n : Nat} {t : TypeId} {v : Value} {cs : List Value} (h : w.ownsRow B t 1 v n cs) (hb : Below w.heap.size w w') : w'.ownsRow B t 1 v n cs := by
  refine h.kept (row := none) ⟨hb.os, hb.tape, hb.output, hb.size, fun i hi _ => hb.block i hi⟩ ?_
  by_cases e : v.ownBlock = none
  · exact .inl e
  · exact .inr e

/-- what Put leaves. -/
def PutPost (w : World) (n : Nat) (V : Nat → Nat) (e : Ending) (w' : World) : Prop :=
  ∃ v, e = .returned v ∧ w'.ownsRow w.heap.size 5 1 v (n + 4) (ycells (behind V n) (n + 4)) ∧ Below w.heap.size w w'

set_option maxRecDepth 100000 in
set_option maxHeartbeats 1600000 in
theorem put_any (A : Option Addr) (n c : Nat) (V : Nat → Nat) (w : World) (hn : n ≤ 1048576) (hA : A = none → n = 0 ∧ c = 0) (ho : Bys w w.heap.size A n V) (ht : Tabs w) :
    Calls Tryd.prog 50 #[.slice A n c] w (PutPost w n V) := by
  have HO := Lib.hid ho
  have HT := Lib.hid ht
  have hmk := make_room (n + 4) (by omega) w
  rw [show ((n + 4 : Nat) : Int) = (n : Int) + 4 by omega] at hmk
  have HW := Lib.hid (World.ownsRow_made (base := w.heap.size) (e := 5) (size := 1) w (madeCells (Value.int .u8 0).cells ((n + 4) * 1)) (n + 4) (Nat.le_refl _) (by unfold maxLen; omega) (room_size _))
  have hb0 : Below w.heap.size w (w.alloc (.cells (madeCells (Value.int .u8 0).cells ((n + 4) * 1)) 5)) := (Below.refl _ _).alloc (Nat.le_refl _) _
  have HS : ∀ W, Below w.heap.size w W → Hid (Calls Tryd.prog 56 #[.slice (some ⟨W.heap.size, 0, none⟩) 1 1] (W.alloc (.cells #[.slice A n c] 31)) fun e w' => e = .returned (.int .u32 ((Pl.sumN V n : Nat) : Int)) ∧ Below W.heap.size W w') := fun W hW =>
    Lib.hid (sum_one A n c V W (by omega) ((HO.out.below hW).mono_ hW.size) (HT.out.keep hW))
  clear ho ht
  generalize (w.alloc (.cells (madeCells (Value.int .u8 0).cells ((n + 4) * 1)) 5)) = w0 at hmk HW hb0
  go_enter Tryd.func50, Tryd.ntmps50
  go_wp2_with (at_builtin; refine step_append_bytes rfl (.tmp 9) (.tmp 10) rfl rfl HW.out rfl hA (HO.out.below hb0) hb0.size (by omega) ?_; intro v1 w1 hown1 hb1)
  have hbA := hb0.trans hb1
  have HS1 := HS w1 hbA
  refine HS1.out.mono ?_
  rintro e w2 ⟨rfl, hb2⟩
  go_wp2_with fail
  refine (laid_lit _ _).mono ?_
  rintro e w3 ⟨rfl, hb3⟩
  have hb13 := hb2.trans (hb3.mono hb2.size)
  have hown3 := Lib.hid (ownsRow_keep hown1.out hb13)
  have hbC := hbA.trans (hb13.mono hbA.size)
  have hL := lies_new w3 108 (quad (Pl.sumN V n))
  have HY := Lib.hid (quad_bys hL)
  have hown4 := Lib.hid (hown3.out.alloc (.cells (quad (Pl.sumN V n)).toArray 108))
  have hbD := hbC.alloc hbC.size (.cells (quad (Pl.sumN V n)).toArray 108)

  clear hb2 hb3 hb13 hown1 hb1 HS1 HS hmk HW hown3 hL
  go_wp2_with (at_builtin; refine step_append_bytes rfl (.tmp 16) (.tmp 17) rfl rfl hown4.out rfl (fun e => (by cases e)) HY.out hbD.size (by omega) ?_; intro v5 w5 hown5 hb5)
  go_ret
  refine ⟨v5, rfl, ?_, hbD.trans hb5⟩
  have h := hown5.out
  rw [List.nil_append, Nat.zero_add] at h
  rw [ycells_both] at h
  exact h

/-- what Clone leaves. -/
def ClonePost (w : World) (n : Nat) (V : Nat → Nat) (e : Ending) (w' : World) : Prop :=
  ∃ v, e = .returned v ∧ w'.ownsRow w.heap.size 5 1 v n (ycells V n) ∧ Below w.heap.size w w'
set_option maxRecDepth 100000 in
theorem clone_any (ad : Addr) (n c : Nat) (V : Nat → Nat) (w : World) (hn : n ≤ 1048576) (ho : Bys w w.heap.size (some ad) n V) :
    Calls Tryd.prog 23 #[.slice (some ad) n c] w (ClonePost w n V) := by
  have HO := Lib.hid ho
  have hnil := fun W => Lib.run_eql_slice_nil (P := Tryd.prog) W 31 5 (some ad) n c 0 0 Tryd.underlying31
  have HW := Lib.hid (World.ownsRow_made (base := w.heap.size) (e := 5) (size := 1) w #[] 0 (Nat.le_refl _) (by unfold maxLen; omega) rfl)
  have hb0 : Below w.heap.size w (w.alloc (.cells #[] 5)) := (Below.refl _ _).alloc (Nat.le_refl _) _
  clear ho
  go_enter Tryd.func23, Tryd.ntmps23
  go_wp2_with (at_builtin; refine step_append_bytes rfl (.tmp 5) (.tmp 6) rfl rfl HW.out rfl (fun e => (by cases e)) (HO.out.below hb0) hb0.size (by omega) ?_; intro v1 w1 hown1 hb1)
  go_ret
  refine ⟨v1, rfl, ?_, hb0.trans hb1⟩
  have h := hown1.out
  rw [List.nil_append, Nat.zero_add] at h
  exact h
end Go.Proofs.YtjmajminfmcjcaaDoor
