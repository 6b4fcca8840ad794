/- The contracts of package page: the number that lies in a leaf, Put, Get, Many. -/
import Derived.Test.YtjmajminfmcjcaaDoorPageMath
import Derived.Deep.WholeRow
import Derived.Deep.MidRow
import Derived.StillTailTactics
import Derived.Laws.CopyOwn
import Derived.Lib.SmallJoins
namespace Go.Proofs.YtjmajminfmcjcaaDoor
open Go.RowKit

/-- a leaf's cells of which the first i bytes of the number are laid. -/
def numTo (U : Nat → Nat) (t i : Nat) : Nat → Nat := fun k => if 256 ≤ k ∧ k < 256 + i then byteOf t (k - 256) else U k
theorem numTo_zero (U : Nat → Nat) (t : Nat) : numTo U t 0 = U := by
  funext k
  unfold numTo
  rw [if_neg (by omega)]
theorem ycells_set (U : Nat → Nat) (n q y : Nat) : (ycells U n).set q (.int .u8 (y : Int)) = ycells (fun j => if q = j then y else U j) n := by
  apply List.ext_getElem
  · simp [ycells_length]
  · intro i h1 h2
    simp only [List.getElem_set, ycells, List.getElem_map, List.getElem_range]
    by_cases e : q = i
    · rw [if_pos e, if_pos e]
    · rw [if_neg e, if_neg e]
theorem numTo_next (U : Nat → Nat) (t i : Nat) : numTo U t (i + 1) = fun j => if 256 + i = j then byteOf t i else numTo U t i j := by
  funext j
  unfold numTo
  by_cases h : 256 + i = j
  · subst h
    rw [if_pos ⟨by omega, by omega⟩, if_pos rfl, show 256 + i - 256 = i by omega]
  · rw [if_neg h]
    by_cases h2 : 256 ≤ j ∧ j < 256 + i
    · rw [if_pos h2, if_pos ⟨h2.1, by omega⟩]
    · rw [if_neg h2, if_neg (by omega)]
theorem numTo_cell (U : Nat → Nat) (t i n : Nat) (h : 256 + i < n) : (ycells (numTo U t i) n)[256 + i]? = some (.int .u8 ((U (256 + i) : Nat) : Int)) := by
  rw [ycells_at _ _ _ h]
  unfold numTo
  rw [if_neg (by omega)]

/-- the number's first i bytes. -/
def sofar (U : Nat → Nat) : Nat → Nat
  | 0 => 0
  | i + 1 => sofar U i + U (256 + i) * 256 ^ i
theorem sofar_all (U : Nat → Nat) : sofar U 4 = numberOf U := by
  simp only [sofar, numberOf, Nat.pow_zero, Nat.pow_succ, Nat.add_zero, Nat.reduceAdd]
  omega
theorem sofar_lt {U : Nat → Nat} (hU : ∀ k, k < 260 → U k < 256) (i : Nat) (hi : i ≤ 4) : sofar U i < 256 ^ i := by
  have a0 := hU 256 (by omega)
  have a1 := hU 257 (by omega)
  have a2 := hU 258 (by omega)
  have a3 := hU 259 (by omega)
  have h : i = 0 ∨ i = 1 ∨ i = 2 ∨ i = 3 ∨ i = 4 := by omega
  rcases h with rfl | rfl | rfl | rfl | rfl <;> simp only [sofar, Nat.pow_zero, Nat.pow_succ, Nat.add_zero, Nat.reduceAdd] <;> omega
theorem sofar_next {U : Nat → Nat} (hU : ∀ k, k < 260 → U k < 256) (i : Nat) (hi : i < 4) : bits .or .u32 ((sofar U i : Nat) : Int) (((U (256 + i) : Nat) : Int) * 2 ^ (8 * i) % 4294967296) = ((sofar U (i + 1) : Nat) : Int) := by
  have h1 := sofar_lt hU i (by omega)
  have h2 := hU (256 + i) (by omega)
  have h3 := sofar_lt hU (i + 1) (by omega)
  have h4 : sofar U (i + 1) = sofar U i + U (256 + i) * 256 ^ i := rfl
  generalize sofar U i = x at h1 h4 ⊢
  generalize U (256 + i) = y at h2 h4 ⊢
  have h5 : 256 ^ (i + 1) ≤ 256 ^ 4 := Nat.pow_le_pow_right (by decide) (by omega)
  have hp : (256 : Nat) ^ i = 2 ^ (8 * i) := by rw [Nat.pow_mul]
  rw [h4] at h3 ⊢
  rw [hp] at h1 h3 ⊢
  have e : ((y : Nat) : Int) * 2 ^ (8 * i) % 4294967296 = ((y * 2 ^ (8 * i) : Nat) : Int) := by
    have h6 : ((y * 2 ^ (8 * i) : Nat) : Int) = (y : Int) * 2 ^ (8 * i) := by simp
    rw [← h6]
    exact Int.emod_eq_of_lt (Int.natCast_nonneg _) (by have : y * 2 ^ (8 * i) < 256 ^ 4 := by omega
                                                       omega)
  rw [e]
  have h7 : x < 2 ^ 32 := by omega
  have h8 : y * 2 ^ (8 * i) < 2 ^ 32 := by omega
  have h9 := u32_or_nat x (y * 2 ^ (8 * i)) (by omega) (by omega)
  rw [h9]
  have h10 : x ||| y * 2 ^ (8 * i) = x + y * 2 ^ (8 * i) := by
    rw [← Nat.shiftLeft_eq, Nat.or_comm, ← Nat.shiftLeft_add_eq_or_of_lt h1, Nat.add_comm]
  rw [h10]

set_option maxRecDepth 100000 in
set_option maxHeartbeats 800000 in
theorem setNumber_any (g t : Nat) (U : Nat → Nat) (w : World) (h : Lies w g 99 (ycells U 260)) :
    Calls Tryd.prog 49 #[.pointer (some ⟨g, 0, none⟩), .int .u32 (t : Int)] w fun e w' => e = .returned (.tuple #[]) ∧ Lies w' g 99 (ycells (numTo U t 4) 260) ∧ w.grownBy w' (some g) := by
  have HL := Lib.hid h
  clear h
  go_enter Tryd.func49, Tryd.ntmps49
  go_wp2_with fail
  go_loopw [5] (fun v wr => ∃ i : Nat, i ≤ 4 ∧ v = .int .i64 (i : Int) ∧ Hid (Lies wr g 99 (ycells (numTo U t i) 260)) ∧ w.grownBy wr (some g)) (fun v _ => 4 - (intOf v).toNat)
  case atStart => exact ⟨0, by decide, rfl, by rw [numTo_zero]; exact HL, World.grownBy.refl _ _⟩
  case round =>
    obtain ⟨i, hi, rfl, H1, hb⟩ := hrel
    by_cases hlt : i < 4
    · have hc := (H1.out.cell (256 + i)).trans (numTo_cell U t i 260 (by omega))
      have hf := H1.out.free (256 + i)
      have HB := Lib.hid (byte_num t i)
      have hi4 : (i : Int) < 4 := by omega
      have e1 : IntKind.i64.wrap (256 + (i : Int)) = 256 + (i : Int) := IntWalk.i64_in _ (by omega)
      have e2 : 0 ≤ 256 + (i : Int) := by omega
      have e3 : (256 + (i : Int)).toNat = 256 + i := by omega
      have e4 : 256 + (i : Int) < 260 := by omega
      have e5 : IntKind.i64.wrap (8 * (i : Int)) = 8 * (i : Int) := IntWalk.i64_in _ (by omega)
      have e6 : 0 ≤ 8 * (i : Int) := by omega
      have e7 : (8 * (i : Int)).toNat = 8 * i := by omega
      have HN := Lib.hid (numTo_next U t i)
      go_wp2_with fail
      go_still_tail 10, (by kernel_rfl)
      go_wp2_with fail
      go_roundw
      case rel =>
        rw [HB.out]
        refine ⟨i + 1, by omega, by go_num, Lib.hid ?_, grownBy_drew (grownBy_put hb (256 + i) _)⟩
        rw [HN.out, ← ycells_set]
        exact (H1.out.put (256 + i) _).drew
      case measure => simp [intOf]; omega
    · have hin : i = 4 := by omega
      subst hin
      go_wp2_with fail
      go_end0
      exact ⟨rfl, H1.out, hb⟩

set_option maxRecDepth 100000 in
set_option maxHeartbeats 800000 in
theorem number_any (g : Nat) (U : Nat → Nat) (w : World) (hU : ∀ k, k < 260 → U k < 256) (h : Lies w g 99 (ycells U 260)) :
    Calls Tryd.prog 58 #[.pointer (some ⟨g, 0, none⟩)] w fun e w' => e = .returned (.int .u32 ((numberOf U : Nat) : Int)) ∧ w = w' := by
  have HL := Lib.hid h
  have HU := Lib.hid hU
  clear h hU
  go_enter Tryd.func58, Tryd.ntmps58
  go_wp2_with fail
  go_loop [3, 5] (fun s v => ∃ i : Nat, i ≤ 4 ∧ v = .int .i64 (i : Int) ∧ s = .int .u32 ((sofar U i : Nat) : Int)) (fun _ v => 4 - (intOf v).toNat)
  case atStart => exact ⟨0, by decide, rfl, rfl⟩
  case round =>
    obtain ⟨i, hi, rfl, rfl⟩ := hrel
    by_cases hlt : i < 4
    · have hc := (HL.out.cell (256 + i)).trans (ycells_at _ _ _ (show 256 + i < 260 by omega))
      have HN := Lib.hid (sofar_next HU.out i hlt)
      have hy : ((U (256 + i) : Nat) : Int) % 4294967296 = ((U (256 + i) : Nat) : Int) := by have := HU.out (256 + i) (by omega); omega
      have hi4 : (i : Int) < 4 := by omega
      have e1 : IntKind.i64.wrap (256 + (i : Int)) = 256 + (i : Int) := IntWalk.i64_in _ (by omega)
      have e2 : 0 ≤ 256 + (i : Int) := by omega
      have e3 : (256 + (i : Int)).toNat = 256 + i := by omega
      have e4 : 256 + (i : Int) < 260 := by omega
      have e5 : IntKind.i64.wrap (8 * (i : Int)) = 8 * (i : Int) := IntWalk.i64_in _ (by omega)
      have e6 : 0 ≤ 8 * (i : Int) := by omega
      have e7 : (8 * (i : Int)).toNat = 8 * i := by omega
      go_wp2_with fail
      go_round
      case rel => exact ⟨i + 1, by omega, by go_num, by rw [HN.out]⟩
      case measure => simp [intOf]; omega
    · have hin : i = 4 := by omega
      subst hin
      go_wp2_with fail
      go_ret
      exact ⟨by rw [sofar_all]; rfl, rfl⟩

theorem info_leaf : (Tryd.prog.info? 99).map (fun i => (i.zero, i.size)) = some (some (.agg (ycells (fun _ => 0) 260).toArray), 260) := by kernel_rfl
theorem size_u8i : (Tryd.prog.info? 5).map (·.size) = some 1 := by kernel_rfl
theorem padded_cells (V : Nat → Nat) (n m : Nat) (h : n ≤ m) : ycells V n ++ (ycells (fun _ => 0) m).drop n = ycells (padded V n) m := by
  apply List.ext_getElem?
  intro k
  by_cases hk : k < m
  · rw [ycells_at _ _ _ hk]
    unfold padded
    by_cases h1 : k < n
    · rw [List.getElem?_append_left (by rw [ycells_length]; exact h1), ycells_at _ _ _ h1, if_pos h1]
    · rw [List.getElem?_append_right (by rw [ycells_length]; omega), List.getElem?_drop, ycells_length, show n + (k - n) = k by omega, ycells_at _ _ _ hk, if_neg h1]
  · rw [List.getElem?_eq_none (by simp [ycells_length]; omega), List.getElem?_eq_none (by rw [ycells_length]; omega)]
/-- the copy into a leaf of noughts. -/
theorem copy_leaf (A : Option Addr) (n c : Nat) (V : Nat → Nat) (w : World) (hn : n ≤ 256) (hA : A = none → n = 0 ∧ c = 0) (ho : Bys w w.heap.size A n V) :
    ∃ w2, (Builtin.copy_ #[31, 31] 3 #[.slice (some ⟨w.heap.size, 0, none⟩) 256 260, .slice A n c]).run Tryd.prog (w.alloc (.cells (ycells (fun _ => 0) 260).toArray 99)) = .ok (.int .i64 (n : Int)) w2 ∧
      Hid (Lies w2 w.heap.size 99 (ycells (padded V n) 260)) ∧ Below w.heap.size w w2 := by
  have hb : Below w.heap.size w (w.alloc (.cells (ycells (fun _ => 0) 260).toArray 99)) := (Below.refl _ _).alloc (Nat.le_refl _) _
  have hl := lies_new w 99 (ycells (fun _ => 0) 260)
  have hp := padded_cells V n 260 (by omega)
  by_cases h0 : n = 0
  · subst h0
    have hrun := run_copy_none (P := Tryd.prog) (w.alloc (.cells (ycells (fun _ => 0) 260).toArray 99)) 31 31 3 5 (some ⟨w.heap.size, 0, none⟩) A 256 260 0 c Tryd.underlying31 size_u8i rfl
    refine ⟨_, hrun, Lib.hid ?_, hb⟩
    rw [← hp]
    exact hl
  · rcases A with _ | ad
    · exact absurd (hA rfl).1 h0
    · have hrun := run_copy_row (P := Tryd.prog) (w.alloc (.cells (ycells (fun _ => 0) 260).toArray 99)) 31 31 3 5 w.heap.size 0 256 260 ad n c (ycells (fun _ => 0) 260).toArray 99 (ycells V n) Tryd.underlying31 size_u8i
        hl (by rw [ycells_length]; exact (Nat.min_eq_left hn).symm) (fun j v hj => by
          have hjn : j < n := by
            have := (List.getElem?_eq_some_iff.1 hj).1
            rw [ycells_length] at this
            exact this
          rw [ycells_at V n j hjn] at hj
          obtain ⟨ad', e, _, hc, _⟩ := ho.below hb j hjn
          cases e
          rw [← hj, ← hc]) (by simp [ycells_length]; omega) (ycells_one V n)
      rw [ycells_length] at hrun
      refine ⟨_, hrun, Lib.hid ?_, below_setRow hb (Nat.le_refl _) _⟩
      have e := setRow_heap (w.alloc (.cells (ycells (fun _ => 0) 260).toArray 99)) w.heap.size (ycells (fun _ => 0) 260).toArray (ycells (padded V n) 260).toArray 99 (0, 0) hl
      have e1 : (List.take 0 (ycells (fun _ => 0) 260).toArray.toList ++ ycells V n ++ List.drop (0 + n) (ycells (fun _ => 0) 260).toArray.toList) = ycells (padded V n) 260 := by
        rw [List.take_zero, List.nil_append, Nat.zero_add]
        exact hp
      unfold Lies
      rw [e1]
      exact e
theorem leaf_bys {w : World} {g n : Nat} {t : TypeId} {U : Nat → Nat} (h : Lies w g t (ycells U n)) (hU : ∀ k, k < n → U k < 256) : Bys w w.heap.size (some ⟨g, 0, none⟩) n U := fun k hk => by
  refine ⟨⟨g, 0, none⟩, rfl, h.lt, ?_, hU k hk⟩
  have e : (⟨g, 0, none⟩ : Addr).add k = ⟨g, k, none⟩ := by unfold Addr.add; split <;> simp_all
  rw [e, h.cell k]
  exact ycells_at _ _ _ hk
theorem behind_congr {V U : Nat → Nat} {n : Nat} (h : ∀ k, k < n → V k = U k) (k : Nat) : behind V n k = behind U n k := by
  unfold behind both
  rw [sumN_congr h]
  split
  · exact h k (by assumption)
  · rfl
theorem numTo_body (V : Nat → Nat) (n t k : Nat) (hk : k < 260) : numTo (padded V n) t 4 k = bodyOf V n t k := by
  unfold numTo bodyOf both
  by_cases h : k < 256
  · rw [if_pos h, if_neg (by omega)]
  · rw [if_neg h, if_pos (by omega)]
theorem page_cells (V : Nat → Nat) (n t m : Nat) : ycells (behind (numTo (padded V n) t 4) 260) m = ycells (pageOf V n t) m :=
  ycells_congr fun k _ => behind_congr (fun j hj => numTo_body V n t j hj) k
theorem numTo_lt {V : Nat → Nat} {n t k : Nat} (hV : ∀ k, k < n → V k < 256) : numTo (padded V n) t 4 k < 256 := by
  unfold numTo
  split
  · exact byteOf_lt _ _
  · exact padded_lt hV k
/-- what Put leaves. -/
def PagePost (w : World) (a : Int) (n : Nat) (V : Nat → Nat) (e : Ending) (w' : World) : Prop :=
  ((a < 0 ∨ 4095 < a) → e = .returned (.tuple #[.slice none 0 0, .int .i64 2])) ∧
  ((0 ≤ a ∧ a ≤ 4095) → 256 < n → e = .returned (.tuple #[.slice none 0 0, .int .i64 80])) ∧
  (∀ t : Nat, a = (t : Int) → t ≤ 4095 → n ≤ 256 → ∃ v, e = .returned (.tuple #[v, .int .i64 0]) ∧ w'.ownsRow w.heap.size 5 1 v 264 (ycells (pageOf V n t) 264)) ∧ Below w.heap.size w w'

set_option maxRecDepth 100000 in
set_option maxHeartbeats 800000 in
theorem pagePut_good (A : Option Addr) (n c : Nat) (V : Nat → Nat) (t : Nat) (w : World) (ht4 : t ≤ 4095) (hn : n ≤ 256) (hA : A = none → n = 0 ∧ c = 0) (ho : Bys w w.heap.size A n V) (ht : Tabs w) :
    Calls Tryd.prog 35 #[.int .i64 (t : Int), .slice A n c] w fun e w' => ∃ v, e = .returned (.tuple #[v, .int .i64 0]) ∧ w'.ownsRow w.heap.size 5 1 v 264 (ycells (pageOf V n t) 264) ∧ Below w.heap.size w w' := by
  have HO := Lib.hid ho
  have HT := Lib.hid ht
  have hz := (zero_of_info info_leaf).1
  have h1 : decide ((t : Int) < 0) = false := by simp
  have h2 : decide ((4096 : Int) ≤ (t : Int)) = false := by simp; omega
  have h3 : decide ((256 : Int) < (n : Int)) = false := by simp; omega
  obtain ⟨w2, hcp, hl2, hb2⟩ := copy_leaf A n c V w hn hA ho
  have h4 : IntKind.u32.wrap (t : Int) = (t : Int) := by rw [IntKind.wrap_u32]; omega
  have hV : ∀ k, k < n → V k < 256 := fun k hk => (ho k hk).elim fun _ h => h.2.2.2
  have HV := Lib.hid hV
  clear ho ht hV
  go_enter Tryd.func35, Tryd.ntmps35
  go_wp2_with fail
  refine (setNumber_any w.heap.size t (padded V n) w2 hl2.out).mono ?_
  rintro e w3 ⟨rfl, hl3, hg3⟩
  have hb3 := hb2.trans (below_of_grownBy hg3 (Nat.le_refl _) hb2.size)
  have HP := Lib.hid (put_any (some ⟨w.heap.size, 0, none⟩) 260 260 _ w3 (by decide) (fun e => (by cases e)) (leaf_bys hl3 (fun k _ => numTo_lt HV.out)) (HT.out.keep hb3))
  clear hcp hl2 hb2 hl3 hg3
  go_wp2_with fail
  refine HP.out.mono ?_
  rintro e w4 ⟨v, rfl, hv, hb4⟩
  rw [page_cells] at hv
  go_wp2_with fail
  go_ret2
  exact ⟨v, rfl, ownsRow_lower hv hb3.size, hb3.trans (hb4.mono hb3.size)⟩

set_option maxRecDepth 100000 in
set_option maxHeartbeats 800000 in
theorem pagePut_any (A : Option Addr) (n c : Nat) (V : Nat → Nat) (a : Int) (w : World) (hA : A = none → n = 0 ∧ c = 0) (ho : Bys w w.heap.size A n V) (ht : Tabs w) :
    Calls Tryd.prog 35 #[.int .i64 a, .slice A n c] w (PagePost w a n V) := by
  by_cases ha : a < 0 ∨ 4095 < a
  · have hx : (decide (a < 0) = true) ∨ (decide (a < 0) = false ∧ decide ((4096 : Int) ≤ a) = true) := by
      simp only [decide_eq_true_eq, decide_eq_false_iff_not]
      omega
    rcases hx with h1 | ⟨h1, h2⟩
    all_goals
      go_enter Tryd.func35, Tryd.ntmps35
      go_wp2_with fail
      go_ret2
      exact ⟨fun _ => rfl, fun h => absurd ha (by omega), fun t h h4 => absurd ha (by omega), Below.refl _ _⟩
  · obtain ⟨t, rfl⟩ : ∃ t : Nat, a = (t : Int) := ⟨a.toNat, by omega⟩
    have h1 : decide ((t : Int) < 0) = false := by simp
    have h2 : decide ((4096 : Int) ≤ (t : Int)) = false := by simp; omega
    by_cases hn : n ≤ 256
    · refine (pagePut_good A n c V t w (by omega) hn hA ho ht).mono ?_
      rintro e w' ⟨v, rfl, hv, hb⟩
      exact ⟨fun h => absurd h ha, fun _ h => by omega, fun t' h _ _ => by
        obtain rfl : t' = t := by omega
        exact ⟨v, rfl, hv⟩, hb⟩
    · have h3 : decide ((256 : Int) < (n : Int)) = true := by simp; omega
      go_enter Tryd.func35, Tryd.ntmps35
      go_wp2_with fail
      go_ret2
      exact ⟨fun h => absurd h ha, fun _ _ => rfl, fun _ _ _ h => absurd h hn, Below.refl _ _⟩

/-- what Get leaves. -/
def GetPost (w : World) (n : Nat) (V : Nat → Nat) (e : Ending) (w' : World) : Prop :=
  (n < 264 → e = .returned (.tuple #[.int .i64 0, .slice none 0 0, .int .i64 50])) ∧
  (264 < n → e = .returned (.tuple #[.int .i64 0, .slice none 0 0, .int .i64 51])) ∧
  (n = 264 → ¬ Pl.Ends V 260 → e = .returned (.tuple #[.int .i64 0, .slice none 0 0, .int .i64 40])) ∧
  (n = 264 → Pl.Ends V 260 → 4096 ≤ numberOf V → e = .returned (.tuple #[.int .i64 0, .slice none 0 0, .int .i64 10])) ∧
  (n = 264 → Pl.Ends V 260 → numberOf V < 4096 → ∃ v, e = .returned (.tuple #[.int .i64 ((numberOf V : Nat) : Int), v, .int .i64 0]) ∧ w'.ownsRow w.heap.size 5 1 v 256 (ycells V 256)) ∧ Below w.heap.size w w'

theorem leaf_size : (Tryd.prog.info? 99).map (·.size) = some 260 := by kernel_rfl
theorem ycells_all (V : Nat → Nat) (n : Nat) : (ycells V n).toArray.all (·.oneCell') = true := by
  rw [Array.all_eq_true_iff_forall_mem]
  intro v hv
  exact ycells_one V n v (by simpa using hv)
theorem leaf_range {w : World} {B g cap : Nat} {V : Nat → Nat} (h : w.ownsRow B 5 1 (.slice (some ⟨g, 0, none⟩) 260 cap) 260 (ycells V 260)) : w.rangeAt g 0 (ycells V 260) := fun j v hj => by
  have e : (⟨g, 0, none⟩ : Addr).add j = ⟨g, 0 + j, none⟩ := Addr.add_mid g 0 j
  rw [← e]
  exact h.cells rfl j v hj
theorem leaf_store (w : World) (V : Nat → Nat) : (Instr.storeAt 99 (.pointer (some ⟨w.heap.size, 0, none⟩)) (.agg (ycells V 260).toArray)).run Tryd.prog (w.alloc (.cells (ycells (fun _ => 0) 260).toArray 99)) = .ok () (w.alloc (.cells (ycells V 260).toArray 99)) :=
  run_storeAt_new w 99 _ _ (by rw [List.size_toArray, ycells_length]; exact leaf_size) (by rw [List.size_toArray, List.size_toArray, ycells_length, ycells_length]) (ycells_all V 260)
/-- a leaf laid whole into the variable that was made last. -/
theorem step_store_leaf {ops : Array Oper} {rest : List Oper} {o : Oper} {a : Act} {Q : Exit → Act → World → Prop} (hgd : o.guard = none) (x y : Operand) (ho : o.op = .store 99 x y)
    {w : World} {V : Nat → Nat} (hx : a.eval x = .pointer (some ⟨w.heap.size, 0, none⟩)) (hy : a.eval y = .agg (ycells V 260).toArray)
    (h : wpList Tryd.prog ops Q rest (a.put o.dst undef) (w.alloc (.cells (ycells V 260).toArray 99))) :
    wpList Tryd.prog ops Q (o :: rest) a (w.alloc (.cells (ycells (fun _ => 0) 260).toArray 99)) := by
  refine wpList_plain hgd fun K hK => ?_
  unfold Oper.wp execOp
  simp only [ho, hx, hy, Sem.run_bind, Sem.run_pure, Result.andThen_ok, leaf_store w V]
  exact hK _ _ h
theorem number_lt {V : Nat → Nat} (hV : ∀ k, k < 264 → V k < 256) : numberOf V < 4294967296 := by
  have a0 := hV 256 (by omega)
  have a1 := hV 257 (by omega)
  have a2 := hV 258 (by omega)
  have a3 := hV 259 (by omega)
  unfold numberOf
  omega
theorem Bys.take_ {w : World} {B n m : Nat} {A : Option Addr} {V : Nat → Nat} (h : Bys w B A n V) (hm : m ≤ n) : Bys w B A m V := fun k hk => h k (by omega)

set_option maxRecDepth 100000 in
set_option maxHeartbeats 800000 in
theorem pageGet_sized (A : Option Addr) (c : Nat) (V : Nat → Nat) (w : World) (hA : A = none → 264 = 0 ∧ c = 0) (hc : 264 ≤ c) (ho : Bys w w.heap.size A 264 V) (ht : Tabs w) :
    Calls Tryd.prog 51 #[.slice A 264 c] w (GetPost w 264 V) := by
  have HK := Lib.hid (cut_any A 264 c V w (by decide) hA hc ho ht)
  have HV := Lib.hid (show ∀ k, k < 264 → V k < 256 from fun k hk => (ho k hk).elim fun _ h => h.2.2.2)
  have hz := (zero_of_info info_leaf).1
  clear ho ht hA
  go_enter Tryd.func51, Tryd.ntmps51
  go_wp2_with fail
  refine HK.out.mono ?_
  rintro e w1 ⟨_, hbad, hgood, hb1⟩
  by_cases hE : Pl.Ends V 260
  · obtain ⟨v, rfl, hv⟩ := hgood 260 rfl hE
    obtain ⟨g, cap, rfl⟩ := Joins.ownsRow_form hv (by omega)
    have hat := run_arrayAt (P := Tryd.prog) w1 99 _ 260 (some ⟨g, 0, none⟩) 260 cap Tryd.underlying99 (by omega)
    have HL := Lib.hid (lies_new w1 99 (ycells V 260))
    have hb2 := hb1.alloc hb1.size (.cells (ycells V 260).toArray 99)
    have HNB := Lib.hid (number_any w1.heap.size V _ (fun k hk => HV.out k (by omega)) HL.out)
    have HR := Lib.hid hv
    clear hbad hgood hv HK hz
    have HG := Lib.hid (leaf_range HR.out)
    have hz := (zero_of_info info_leaf).1
    go_wp2_with (first
      | (refine wpList_load_mid rfl 99 (.tmp 24) rfl g 0 rfl (ycells V 260) _ HG.out Tryd.underlying99 rfl (by rw [ycells_length]; exact leaf_size) ?_)
      | (refine step_store_leaf rfl (.tmp 7) (.tmp 25) rfl rfl rfl ?_))
    refine HNB.out.mono ?_
    rintro e w3 ⟨rfl, rfl⟩
    have hNl := number_lt HV.out
    have hconv : IntKind.i64.wrap ((numberOf V : Nat) : Int) = ((numberOf V : Nat) : Int) := IntWalk.i64_in _ (by omega)
    by_cases hN : numberOf V < 4096
    · have hd : decide ((4096 : Int) ≤ ((numberOf V : Nat) : Int)) = false := by simp; omega
      have HC := Lib.hid (clone_any ⟨w1.heap.size, 0, none⟩ 256 260 V _ (by decide) ((leaf_bys HL.out (fun k hk => HV.out k (by omega))).take_ (by decide)))
      have HN := Lib.hid hN
      obtain ⟨N, hNN⟩ : ∃ N, numberOf V = N := ⟨_, rfl⟩
      rw [hNN] at hconv hd
      have HNN := Lib.hid hNN
      rw [hNN]
      clear hNN hN hNl HNB HR HG HL hat hz
      go_wp2_with fail
      refine HC.out.mono ?_
      rintro e w4 ⟨v, rfl, hv, hb4⟩
      go_wp2_with fail
      go_ret3
      exact ⟨fun h => by omega, fun h => by omega, fun _ h => absurd hE h, fun _ _ h => absurd h (by have := HN.out; omega), fun _ _ _ => ⟨v, by rw [HNN.out]; rfl, ownsRow_lower hv hb2.size⟩, hb2.trans (hb4.mono hb2.size)⟩
    · have hd : decide ((4096 : Int) ≤ ((numberOf V : Nat) : Int)) = true := by simp; omega
      clear hconv
      go_wp2_with fail
      go_ret3
      exact ⟨fun h => by omega, fun h => by omega, fun _ h => absurd hE h, fun _ _ _ => rfl, fun _ _ h => absurd h hN, hb2⟩
  · obtain rfl := hbad 260 rfl hE
    go_wp2_with fail
    go_ret3
    exact ⟨fun h => by omega, fun h => by omega, fun _ _ => rfl, fun _ h => absurd h hE, fun _ h => absurd h hE, hb1⟩

set_option maxRecDepth 100000 in
set_option maxHeartbeats 800000 in
theorem pageGet_any (A : Option Addr) (n c : Nat) (V : Nat → Nat) (w : World) (hA : A = none → n = 0 ∧ c = 0) (hc : n ≤ c) (ho : Bys w w.heap.size A n V) (ht : Tabs w) :
    Calls Tryd.prog 51 #[.slice A n c] w (GetPost w n V) := by
  by_cases h1 : n < 264
  · have hd : decide ((n : Int) < 264) = true := by simp; omega
    go_enter Tryd.func51, Tryd.ntmps51
    go_wp2_with fail
    go_ret3
    exact ⟨fun _ => rfl, fun h => by omega, fun h => by omega, fun h => by omega, fun h => by omega, Below.refl _ _⟩
  · by_cases h2 : 264 < n
    · have hd : decide ((n : Int) < 264) = false := by simp; omega
      have hd2 : decide ((264 : Int) < (n : Int)) = true := by simp; omega
      go_enter Tryd.func51, Tryd.ntmps51
      go_wp2_with fail
      go_ret3
      exact ⟨fun h => by omega, fun _ => rfl, fun h => by omega, fun h => by omega, fun h => by omega, Below.refl _ _⟩
    · obtain rfl : n = 264 := by omega
      exact pageGet_sized A c V w (fun e => absurd (hA e).1 (by decide)) hc ho ht

/-- how many pages. -/
def manyOf (a : Int) : Int := if a ≤ 0 then 0 else (a - 1) / 256 + 1
set_option maxRecDepth 100000 in
theorem many_any (a : Int) (w : World) (ha : (Lit.int .i64 a).wf = true) : Calls Tryd.prog 45 #[.int .i64 a] w fun e w' => e = .returned (.int .i64 (manyOf a)) ∧ w = w' := by
  have hx : a ≤ 9223372036854775807 := by
    simp [Lit.wf, IntKind.min, IntKind.max, IntKind.bits, IntKind.signed] at ha
    omega
  by_cases h : a ≤ 0
  · have hm : manyOf a = 0 := by unfold manyOf; rw [if_pos h]
    rw [hm]
    go_enter Tryd.func45, Tryd.ntmps45
    go_wp2_with fail
    go_ret
    exact ⟨rfl, rfl⟩
  · obtain ⟨m, hm⟩ : ∃ m, manyOf a = m := ⟨_, rfl⟩
    have h1 : IntKind.i64.wrap (a - 1) = a - 1 := IntWalk.i64_in _ (by omega)
    have h2 : (a - 1).tdiv 256 = (a - 1) / 256 := Int.tdiv_eq_ediv_of_nonneg (by omega)
    have hm2 : (a - 1) / 256 + 1 = m := by rw [← hm]; unfold manyOf; rw [if_neg h]
    have h3 : IntKind.i64.wrap ((a - 1) / 256) = (a - 1) / 256 := IntWalk.i64_in _ (by omega)
    have h4 : IntKind.i64.wrap m = m := IntWalk.i64_in _ (by omega)
    rw [hm]
    clear hm
    go_enter Tryd.func45, Tryd.ntmps45
    go_wp2_with fail
    go_ret
    exact ⟨rfl, rfl⟩
end Go.Proofs.YtjmajminfmcjcaaDoor
