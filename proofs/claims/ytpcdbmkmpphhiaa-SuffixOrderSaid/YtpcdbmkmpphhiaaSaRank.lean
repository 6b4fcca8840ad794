/- slices.Sorted of slices.Values; the developers' suffix.ranked. -/
import Derived.Test.YtpcdbmkmpphhiaaSaVals
import Derived.Lib.SortBridge
namespace Go.Proofs.Ytpcdbmkmpphhiaa
open Go.RowKit Go.Shelf

theorem below_cells {B b : Nat} (hb : B ≤ b) : ∀ (vs : List Value) (o : Nat) (w : World), Below B w (w.setCells b o vs)
  | [], _, _ => Below.refl _ _
  | v :: r, o, w => ((Below.refl B w).setCell (p := ⟨b, o, none⟩) hb v).trans (below_cells hb r (o + 1) _)
theorem below_grow_ {B : Nat} {w : World} (hB : B ≤ w.heap.size) (os : Array Obj) : Below B w (Go.Sort.grow w os) := ⟨rfl, rfl, rfl, by simp [Go.Sort.grow], fun k hk => by
  have : k < w.heap.size := by omega
  simp [Go.Sort.grow, Array.getElem?_append, this]⟩
/-- sorted numbers in new memory. -/
def SortedAt (w : World) (lo n : Nat) (V : Nat → Int) (v : Value) : Prop :=
  (n = 0 → ∃ A c, v = .slice A 0 c) ∧ (0 < n → ∃ g c, ∃ ys : List Int, v = .slice (some ⟨g, 0, none⟩) n c ∧ lo ≤ g ∧ g < w.heap.size ∧ ys.length = n ∧ ys.Perm ((List.range n).map V) ∧ ys.Pairwise (· ≤ ·) ∧ ∀ j, j < n → w.cell? ⟨g, j, none⟩ = some (.int .i64 (ys.getD j 0)))
set_option maxRecDepth 100000 in
set_option maxHeartbeats 3200000 in
theorem sorted_any (A : Option Addr) (n c b1 : Nat) (V : Nat → Int) (w : World) (hn : n ≤ 4194304) (h1 : b1 < w.heap.size) (c1 : w.cell? ⟨b1, 0, none⟩ = some (.slice A n c)) (ho : Its w w.heap.size A n V) :
    Calls Try.prog 28 #[.func (.func 41) #[] #[.pointer (some ⟨b1, 0, none⟩)]] w fun e w' => ∃ v, e = .returned v ∧ SortedAt w' w.heap.size n V v ∧ Below w.heap.size w w' := by
  have HA := Lib.hid (appendSeq_any A n c b1 V w hn h1 c1 ho)
  have HV := Lib.hid (fun i (hi : i < n) => (by obtain ⟨_, _, _, _, h⟩ := ho i hi; exact h : -9223372036854775808 ≤ V i ∧ V i ≤ 9223372036854775807))
  obtain ⟨lo, hlo⟩ : ∃ lo, w.heap.size = lo := ⟨_, rfl⟩
  rw [hlo] at HA ⊢
  have HCo : Hid (Calls Try.prog 39 #[.func (.func 41) #[] #[.pointer (some ⟨b1, 0, none⟩)]] w fun e w' => ∃ v, e = .returned v ∧ w'.ownsRow lo 3 1 v n (icells V n) ∧ Below lo w w') := Lib.hid (by
    clear ho
    go_enter Try.func39, Try.ntmps39
    go_wp2_with fail
    refine HA.out.mono ?_
    rintro e w1 ⟨v1, rfl, ho1, k1⟩
    have HO := Lib.hid ho1
    clear HA ho1
    go_wp2_with fail
    go_ret
    exact ⟨_, rfl, HO.out, k1⟩)
  clear HA ho c1
  go_enter Try.func28, Try.ntmps28
  go_wp2_with fail
  refine HCo.out.mono ?_
  rintro e w1 ⟨v1, rfl, ho1, k1⟩
  clear HCo
  rcases Nat.eq_zero_or_pos n with rfl | hn0
  · obtain ⟨A', c', rfl, _⟩ := ItsR.of_own ho1 (fun i hi => absurd hi (Nat.not_lt_zero i))
    have hS : Calls Try.prog 40 #[.slice A' 0 c'] w1 fun e w' => e = .returned (.tuple #[]) ∧ w' = w1 := Any.slices_Sort_int_none sortLays A' c' w1
    have HS := Lib.hid hS
    clear ho1 hS
    go_wp2_with fail
    refine HS.out.mono ?_
    rintro e w2 ⟨rfl, rfl⟩
    clear HS
    go_wp2_with fail
    go_ret
    exact ⟨_, rfl, ⟨fun _ => ⟨_, _, rfl⟩, fun h => absurd h (Nat.lt_irrefl 0)⟩, k1⟩
  · obtain ⟨g, cap, rfl, hg1, hg2, hc1, hc2⟩ := owns_some ho1 hn0
    obtain ⟨zs, hzs⟩ : ∃ zs, (List.range n).map V = zs := ⟨_, rfl⟩
    have hzl : zs.length = n := by rw [← hzs]; simp
    have hzd : ∀ j, j < n → zs.getD j 0 = V j := fun j hj => by
      rw [← hzs, List.getD_eq_getElem?_getD, List.getElem?_map, List.getElem?_range hj]
      rfl
    have hcell : ∀ j, j < zs.length → w1.cell? ⟨g, 0 + j, none⟩ = some (.int .i64 (zs.getD j 0)) := fun j hj => by
      rw [hzl] at hj
      rw [Nat.zero_add, hzd j hj, ho1.cellAt j (by omega)]
      exact icells_at V n j hj
    have hH := Lib.holds_of_ints (n := zs.length) (Nat.le_refl _) hcell (fun j _ => owns_free ho1 (0 + j))
    rw [List.take_of_length_le (Nat.le_refl _)] at hH
    have hS := Any.slices_Sort_int sortLays g 0 cap zs w1 hH hg2 (by omega)
    have hyl : (zs.mergeSort fun x y => decide (x ≤ y)).length = zs.length := by simp
    have hS2 : Calls Try.prog 40 #[.slice (some ⟨g, 0, none⟩) n cap] w1 fun e w' => e = .returned (.tuple #[]) ∧ SortedAt w' lo n V (.slice (some ⟨g, 0, none⟩) n cap) ∧ Below lo w1 w' := by
      rw [hzl] at hS
      refine Calls.mono hS ?_
      rintro e w2 ⟨rfl, q, os, rfl⟩
      rw [Lib.sorted_world _ w1 g 0 q _ _ os hH (by simp)]
      have hb : Below lo w1 (Go.Sort.grow ((w1.drewN q).setCells g 0 ((zs.mergeSort fun x y => decide (x ≤ y)).map (Value.int .i64))) os) := by
        have h3 : Below lo w1 ((w1.drewN q).setCells g 0 ((zs.mergeSort fun x y => decide (x ≤ y)).map (Value.int .i64))) := (below_drewN' (Below.refl lo w1) q).trans (below_cells hg1 _ _ _)
        exact h3.trans (below_grow_ (by have := h3.size; have := k1.size; omega) os)
      refine ⟨rfl, ⟨fun h => by omega, fun _ => ⟨g, cap, zs.mergeSort fun x y => decide (x ≤ y), rfl, hg1, Nat.lt_of_lt_of_le hg2 hb.size, hyl.trans hzl, by rw [hzs]; exact List.mergeSort_perm _ _, ?_, fun j hj => ?_⟩⟩, hb⟩
      · have := List.pairwise_mergeSort (le := fun (x y : Int) => decide (x ≤ y)) (fun a b c h1 h2 => by simp at h1 h2 ⊢; omega) (fun a b => by simp; omega) zs
        exact this.imp (by simp)
      · have := Lib.cells_sorted_ints (W := w1) (b := g) (off := 0) (n := zs.length) (q := q) (zs := zs) (ys := zs.mergeSort fun x y => decide (x ≤ y)) (os := os) (Nat.le_refl _) hyl hcell j (by simp [hzl]; omega)
        rw [Nat.zero_add] at this
        rw [this]
        congr 2
        rw [List.getD_eq_getElem?_getD, List.getD_eq_getElem?_getD, List.getElem?_append_left (by simp [hzl]; exact hj)]
    have HS := Lib.hid hS2
    clear hS hS2 hH hcell hzd ho1
    go_wp2_with fail
    refine HS.out.mono ?_
    rintro e w2 ⟨rfl, h2, k2⟩
    have H2 := Lib.hid h2
    clear HS h2
    go_wp2_with fail
    go_ret
    exact ⟨_, rfl, H2.out, k1.trans k2⟩

/-- how many lesser numbers there are. -/
def rkN (V : Nat → Int) (n p : Nat) : Nat := Pl.cnt (fun q => decide (V q < V p)) n
theorem countP_cnt (V : Nat → Int) (x : Int) : ∀ n, ((List.range n).map V).countP (· < x) = Pl.cnt (fun q => decide (V q < x)) n
  | 0 => rfl
  | n + 1 => by
    rw [List.range_succ, List.map_append, List.countP_append, countP_cnt V x n, Pl.cnt_succ]
    by_cases h : V n < x <;> simp [h]
theorem cnt_less {f g : Nat → Bool} {n i : Nat} (h : ∀ q, q < n → f q = true → g q = true) (hi : i < n) (hg : g i = true) (hf : f i = false) : Pl.cnt f n < Pl.cnt g n := by
  obtain ⟨s, h1, h2⟩ := sel_nat f n
  exact pigeon_more (fun j hj => ⟨(h1 j hj).1, h _ (h1 j hj).1 (h1 j hj).2⟩) h2 hi hg (fun j hj e => by
    have := (h1 j hj).2
    rw [e, hf] at this
    cases this)
theorem rkN_lt {V : Nat → Int} {n p : Nat} (hp : p < n) : rkN V n p < n := by
  have := cnt_less (f := fun q => decide (V q < V p)) (g := fun _ => true) (n := n) (i := p) (fun _ _ _ => rfl) hp rfl (by simp)
  rw [cnt_all _ n (fun _ _ => rfl)] at this
  exact this
theorem rkN_iff {V : Nat → Int} {n i j : Nat} (hi : i < n) (hj : j < n) : V i < V j ↔ xi (rkN V n) i < xi (rkN V n) j := by
  have up : ∀ a b, a < n → b < n → V a < V b → rkN V n a < rkN V n b := fun a b ha _ h =>
    cnt_less (i := a) (fun q _ hq => by simp at hq ⊢; omega) ha (by simp [h]) (by simp)
  constructor
  · intro h
    show ((rkN V n i : Nat) : Int) < ((rkN V n j : Nat) : Int)
    have := up i j hi hj h
    omega
  · intro h
    have h : ((rkN V n i : Nat) : Int) < ((rkN V n j : Nat) : Int) := h
    rcases Int.lt_trichotomy (V i) (V j) with g | g | g
    · exact g
    · have : rkN V n i = rkN V n j := by unfold rkN; rw [g]
      omega
    · have := up j i hj hi g
      omega
end Go.Proofs.Ytpcdbmkmpphhiaa
