/- slices.Sort of a row of ints; what stores in a block and growth leave as they were. -/
import Derived.Test.YtddfaidfnmpnlaaIntPut
import Derived.Shelf.Sort.Plain
import Derived.Shelf.Slices.In.SortNone
import Derived.Lib.SortBridge
namespace Go.Proofs.Ytddfaidfnmpnlaa
open Go.RowKit Go.Shelf

theorem below_cells {B b : Nat} (hb : B ≤ b) : ∀ (vs : List Value) (o : Nat) (w : World), Below B w (w.setCells b o vs)
  | [], _, _ => Below.refl _ _
  | v :: r, o, w => ((Below.refl B w).setCell (p := ⟨b, o, none⟩) hb v).trans (below_cells hb r (o + 1) _)
theorem below_grow_ {B : Nat} {w : World} (hB : B ≤ w.heap.size) (os : Array Obj) : Below B w (Go.Sort.grow w os) := ⟨rfl, rfl, rfl, by simp [Go.Sort.grow], fun k hk => by
  have : k < w.heap.size := by omega
  simp [Go.Sort.grow, Array.getElem?_append, this]⟩
def sortLays_ren : Go.Shelf.Ren := ⟨fun | 189 => 15 | 125 => 24 | 257 => 23 | 128 => 34 | 129 => 35 | 294 => 25 | 295 => 26 | 296 => 27 | 297 => 28 | 298 => 29 | 299 => 30 | 216 => 31 | 300 => 32 | 301 => 33 | 328 => 36 | 329 => 37 | 330 => 38 | 331 => 39 | 332 => 40 | 215 => 41 | 343 => 42 | n => n, fun | 28 => 22 | 3 => 3 | 46 => 33 | 0 => 0 | 51 => 66 | 53 => 68 | 4 => 4 | 183 => 60 | 182 => 59 | 131 => 57 | 5 => 5 | 9 => 9 | 218 => 69 | 222 => 73 | 228 => 76 | 229 => 77 | n => n, fun | n => n⟩
theorem sortLays : Go.Proofs.Lays.n189 Try.prog sortLays_ren := {
  mixed := by kernel_rfl
  f125 := Try.func24.trans (congrArg some (by kernel_rfl))
  f128 := Try.func34.trans (congrArg some (by kernel_rfl))
  f129 := Try.func35.trans (congrArg some (by kernel_rfl))
  f189 := Try.func15.trans (congrArg some (by kernel_rfl))
  f215 := Try.func41.trans (congrArg some (by kernel_rfl))
  f216 := Try.func31.trans (congrArg some (by kernel_rfl))
  f257 := Try.func23.trans (congrArg some (by kernel_rfl))
  f294 := Try.func25.trans (congrArg some (by kernel_rfl))
  f295 := Try.func26.trans (congrArg some (by kernel_rfl))
  f296 := Try.func27.trans (congrArg some (by kernel_rfl))
  f297 := Try.func28.trans (congrArg some (by kernel_rfl))
  f298 := Try.func29.trans (congrArg some (by kernel_rfl))
  f299 := Try.func30.trans (congrArg some (by kernel_rfl))
  f300 := Try.func32.trans (congrArg some (by kernel_rfl))
  f301 := Try.func33.trans (congrArg some (by kernel_rfl))
  f328 := Try.func36.trans (congrArg some (by kernel_rfl))
  f329 := Try.func37.trans (congrArg some (by kernel_rfl))
  f330 := Try.func38.trans (congrArg some (by kernel_rfl))
  f331 := Try.func39.trans (congrArg some (by kernel_rfl))
  f332 := Try.func40.trans (congrArg some (by kernel_rfl))
  f343 := Try.func42.trans (congrArg some (by kernel_rfl))
  t0 := Try.underlying0
  a0 := Try.isAgg0
  z0 := Try.sizeOf0
  v0 := Try.zeroValue0
  t3 := Try.underlying3
  a3 := Try.isAgg3
  z3 := Try.sizeOf3
  v3 := Try.zeroValue3
  t4 := Try.underlying4
  a4 := Try.isAgg4
  z4 := Try.sizeOf4
  v4 := Try.zeroValue4
  t5 := Try.underlying5
  a5 := Try.isAgg5
  z5 := Try.sizeOf5
  v5 := Try.zeroValue5
  t9 := Try.underlying9
  a9 := Try.isAgg9
  z9 := Try.sizeOf9
  v9 := Try.zeroValue9
  t28 := Try.underlying22
  a28 := Try.isAgg22
  z28 := Try.sizeOf22
  v28 := Try.zeroValue22
  t46 := Try.underlying33
  a46 := Try.isAgg33
  z46 := Try.sizeOf33
  v46 := Try.zeroValue33
  t51 := Try.underlying66
  a51 := Try.isAgg66
  z51 := Try.sizeOf66
  v51 := Try.zeroValue66
  t53 := Try.underlying68
  a53 := Try.isAgg68
  z53 := Try.sizeOf68
  v53 := Try.zeroValue68
  t131 := Try.underlying57
  a131 := Try.isAgg57
  z131 := Try.sizeOf57
  v131 := Try.zeroValue57
  t182 := Try.underlying59
  a182 := Try.isAgg59
  z182 := Try.sizeOf59
  v182 := Try.zeroValue59
  t183 := Try.underlying60
  a183 := Try.isAgg60
  z183 := Try.sizeOf60
  v183 := Try.zeroValue60
  t218 := Try.underlying69
  a218 := Try.isAgg69
  z218 := Try.sizeOf69
  v218 := Try.zeroValue69
  t222 := Try.underlying73
  a222 := Try.isAgg73
  z222 := Try.sizeOf73
  v222 := Try.zeroValue73
  t228 := Try.underlying76
  a228 := Try.isAgg76
  z228 := Try.sizeOf76
  v228 := Try.zeroValue76
  t229 := Try.underlying77
  a229 := Try.isAgg77
  z229 := Try.sizeOf77
  v229 := Try.zeroValue77 }
/-- slices.Sort of a row that is known whole. -/
theorem sortRow_in {w1 : World} {G n cap lo : Nat} {V : Nat → Int} (hlo : lo ≤ G) (hn : n ≤ 4194304) (hlt : G < w1.heap.size) (hce : ∀ j, j < n → w1.cell? ⟨G, j, none⟩ = some (.int .i64 (V j))) (hfr : ∀ j, j < n → w1.frozen? ⟨G, j, none⟩ = false) :
    Calls Try.prog 15 #[.slice (some ⟨G, 0, none⟩) n cap] w1 fun e w' => e = .returned (.tuple #[]) ∧ (G < w'.heap.size ∧ ∃ ys : List Int, ys.length = n ∧ ys.Perm ((List.range n).map V) ∧ ys.Pairwise (· ≤ ·) ∧ ∀ j, j < n → w'.cell? ⟨G, j, none⟩ = some (.int .i64 (ys.getD j 0))) ∧ Below lo w1 w' := by
  obtain ⟨zs, hzs⟩ : ∃ zs, (List.range n).map V = zs := ⟨_, rfl⟩
  have hzl : zs.length = n := by rw [← hzs]; simp
  have hzd : ∀ j, j < n → zs.getD j 0 = V j := fun j hj => by
    rw [← hzs, List.getD_eq_getElem?_getD, List.getElem?_map, List.getElem?_range hj]
    rfl
  have hcell : ∀ j, j < zs.length → w1.cell? ⟨G, 0 + j, none⟩ = some (.int .i64 (zs.getD j 0)) := fun j hj => by
    rw [hzl] at hj
    rw [Nat.zero_add, hzd j hj]
    exact hce j hj
  have hH := Lib.holds_of_ints (n := zs.length) (Nat.le_refl _) hcell (fun j hj => by
    rw [hzl] at hj
    rw [Nat.zero_add]
    exact hfr j hj)
  rw [List.take_of_length_le (Nat.le_refl _)] at hH
  have hS := Any.slices_Sort_int sortLays G 0 cap zs w1 hH hlt (by omega)
  have hyl : (zs.mergeSort fun x y => decide (x ≤ y)).length = zs.length := by simp
  rw [hzl] at hS
  refine Calls.mono hS ?_
  rintro e w2 ⟨rfl, q, os, rfl⟩
  rw [Lib.sorted_world _ w1 G 0 q _ _ os hH (by simp)]
  have hb : Below lo w1 (Go.Sort.grow ((w1.drewN q).setCells G 0 ((zs.mergeSort fun x y => decide (x ≤ y)).map (Value.int .i64))) os) := by
    have h3 : Below lo w1 ((w1.drewN q).setCells G 0 ((zs.mergeSort fun x y => decide (x ≤ y)).map (Value.int .i64))) := (below_drewN' (Below.refl lo w1) q).trans (below_cells hlo _ _ _)
    exact h3.trans (below_grow_ (by have := h3.size; have := hlt; omega) os)
  refine ⟨rfl, ⟨Nat.lt_of_lt_of_le hlt hb.size, zs.mergeSort fun x y => decide (x ≤ y), hyl.trans hzl, by rw [hzs]; exact List.mergeSort_perm _ _, ?_, fun j hj => ?_⟩, hb⟩
  · have := List.pairwise_mergeSort (le := fun (x y : Int) => decide (x ≤ y)) (fun a b c h1 h2 => by simp at h1 h2 ⊢; omega) (fun a b => by simp; omega) zs
    exact this.imp (by simp)
  · have := Lib.cells_sorted_ints (W := w1) (b := G) (off := 0) (n := zs.length) (q := q) (zs := zs) (ys := zs.mergeSort fun x y => decide (x ≤ y)) (os := os) (Nat.le_refl _) hyl hcell j (by simp [hzl]; omega)
    rw [Nat.zero_add] at this
    rw [this]
    congr 2
    rw [List.getD_eq_getElem?_getD, List.getD_eq_getElem?_getD, List.getElem?_append_left (by simp [hzl]; exact hj)]
/-- of a row that is known whole. -/
theorem sortRow_any {w1 : World} {G n lo : Nat} {V : Nat → Int} (hlo : lo ≤ G) (hn : n ≤ 4194304) (hl : Lies w1 G 3 (icells V n)) :
    Calls Try.prog 15 #[.slice (some ⟨G, 0, none⟩) n n] w1 fun e w' => e = .returned (.tuple #[]) ∧ (G < w'.heap.size ∧ ∃ ys : List Int, ys.length = n ∧ ys.Perm ((List.range n).map V) ∧ ys.Pairwise (· ≤ ·) ∧ ∀ j, j < n → w'.cell? ⟨G, j, none⟩ = some (.int .i64 (ys.getD j 0))) ∧ Below lo w1 w' :=
  sortRow_in hlo hn hl.lt (fun j hj => by rw [hl.cell]; exact icells_at V n j hj) (fun j _ => hl.free j)
end Go.Proofs.Ytddfaidfnmpnlaa
