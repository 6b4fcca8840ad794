/- A region that draws its order, inside a round of a range over a function: what is proved of it outside of one holds there, too; where all its operations but the last few only read. No program is named here. The developers' suffix.rowOf: what lies while the row of numbers is made. The developers' suffix.rowOf: the row of numbers. -/
import Derived.Test.YtlcgigiphlmjpaaRange
import Derived.StillTailTactics
import Derived.Test.YtlcgigiphlmjpaaRegion
import Derived.Test.YtlcgigiphlmjpaaSaGround
namespace Go.Proofs.Ytlcgigiphlmjpaa
open Go.RowKit

section
variable {P : Program} {ops : Array Oper} {Q : Exit → Act → World → Prop} {r : Nat}
/-- no operation defers. -/
def noDeferB (ops : Array Oper) : Bool := ops.all fun o => match o.op with
  | .defer _ => false
  | _ => true
theorem noDefer {i : Nat} {o : Oper} (h : noDeferB ops = true) (ho : ops[i]? = some o) : ∀ c, o.op ≠ .defer c := fun c e => by
  unfold noDeferB at h
  rw [Array.all_eq_true] at h
  obtain ⟨hi, rfl⟩ := Array.getElem?_eq_some_iff.1 ho
  have := h i hi
  rw [e] at this
  cases this
theorem op_in_round {o : Oper} {K : Act → World → Prop} {a : Act} {w : World} (hd : ∀ c, o.op ≠ .defer c) (h : o.wp P a w K Q) : o.wpIn (Fence.wide.inRound r) 0 P a w K Q := by
  refine ⟨fun _ _ => trivial, ?_⟩
  rw [Oper.semAt_eq _ _ _ hd]
  unfold Oper.wp at h
  revert h
  cases (execOp a.eval o).run P w with
  | ok x w' =>
    cases x with
    | value v => exact fun h => h
    | skip => exact fun h => h
    | defer d => exact fun h => h
    | enter f args =>
      intro h
      exact ⟨fun e => (by cases e), CallsIn.inRound r (callsIn_wide.2 h)⟩
    | row s args =>
      intro h
      refine ⟨fun e => (by cases e), fun c cs _ => ?_⟩
      obtain ⟨v, w'', hR, hs⟩ := h c cs
      exact ⟨v, w'', hR, stepsIn_wide.2 hs⟩
    | _ => exact fun h => h.elim
  | halt x w' =>
    cases x <;> first | exact fun h => h | exact fun h => h.elim
theorem any_in_round (hd : noDeferB ops = true) (hQ : ¬ LetsOut Q) : ∀ fuel listed a w, wpAny P .any ops Q fuel listed a w → wpAnyIn (Fence.wide.inRound r) 0 P .any ops Q fuel listed a w := by
  intro fuel
  induction fuel with
  | zero => intro listed a w h; exact h
  | succ fuel ih =>
    intro listed a w h
    refine ⟨h.1, fun i hi => ?_⟩
    have h2 := h.2 i hi
    unfold wpOp at h2
    unfold wpOpIn
    rcases ho : ops[i]? with _ | o
    · rw [ho] at h2
      exact ih _ _ _ h2
    · rw [ho] at h2
      have h2 : if Region.wanted o (yielded ops a.tmps) then o.wp P a w (wpAny P .any ops Q fuel (listed.setIfInBounds i true)) Q ∨ (o.asks P a w ∧ LetsOut Q) else wpAny P .any ops Q fuel (listed.setIfInBounds i true) (a.put o.dst undef) w := h2
      show if Region.wanted o (yielded ops a.tmps) then o.wpIn (Fence.wide.inRound r) 0 P a w (wpAnyIn (Fence.wide.inRound r) 0 P .any ops Q fuel (listed.setIfInBounds i true)) Q else (∀ f, o.about P w a.eval = some f → (Fence.wide.inRound r).fn f) ∧ wpAnyIn (Fence.wide.inRound r) 0 P .any ops Q fuel (listed.setIfInBounds i true) (a.put o.dst undef) w
      by_cases hw : Region.wanted o (yielded ops a.tmps) = true
      · rw [if_pos hw] at h2 ⊢
        rcases h2 with h2 | h2
        · exact op_in_round (noDefer hd ho) (Oper.wp_mono (fun a w h => ih _ _ _ h) h2)
        · exact absurd h2.2 hQ
      · rw [if_neg hw] at h2 ⊢
        exact ⟨fun _ _ => trivial, ih _ _ _ h2⟩
/-- all but the last few only read: the region as a list. -/
theorem still_any {a : Act} {w : World} {l : List Oper} (n : Nat) (hB : Region.lexTailB .any l.toArray n = true) (h : wpStill P l.toArray w (fun a' => wpList P l.toArray Q (l.drop n) a' w) (l.take n) a) :
    wpAny P .any l.toArray Q l.toArray.size (Array.replicate l.toArray.size false) a w := by
  unfold Region.lexTailB at hB
  rw [Bool.and_eq_true, Bool.and_eq_true, Bool.and_eq_true, Bool.and_eq_true, decide_eq_true_eq] at hB
  obtain ⟨⟨⟨⟨b1, b2⟩, b3⟩, b4⟩, b5⟩ := hB
  have e1 : (l.take n).length = n := by
    have : n < l.length := by simpa using b2
    simp; omega
  have e2 : (l.drop n).length = l.toArray.size - n := by simp
  have inv : HeadInv .any l.toArray n (Array.replicate l.toArray.size false) := by
    refine ⟨by simp, fun j oj _ hl => ?_, fun t _ ht => getD_in (by simpa using ht) (getD_replicate_false _ _)⟩
    rw [getD_replicate_false] at hl
    cases hl
  have h1 := wpAnyL_lex (md := .any) (g := l.toArray.size - n) b1 b3 b4 b2 (l.take n) 0 _ a (fun j hj => by
    rw [e1] at hj
    simp [hj]) (by rw [e1, Nat.zero_add]) inv (by rw [e1]; exact b5) h
  have h2 := wpAny_of_head (Q' := Q) (g := l.toArray.size - n) (fun listed a' hL => by
    have := wpAny_of_seq (md := .any) (Q' := Q) (l.drop n) n listed a' w (fun j => by simp [List.getElem?_drop]) (by rw [e2]; exact hL.1) hL.2
    rw [e2] at this
    exact this) _ _ _ h1
  rw [e1, show n + (l.toArray.size - n) = l.toArray.size by omega] at h2
  exact h2
theorem still_in_round {id : Nat} {a : Act} {w : World} {l : List Oper} (n : Nat) (hm : P.follows .mixedOrders = true) (hB : Region.lexTailB .any l.toArray n = true) (hd : noDeferB l.toArray = true) (hQ : ¬ LetsOut Q)
    (h : ∀ ops, l.toArray = ops → wpStill P ops w.drew (fun a' => wpList P ops Q (l.drop n) a' w.drew) (l.take n) a) : (Code.region id l.toArray true).wpIn (Fence.wide.inRound r) 0 P Q a w :=
  wpIn_region_any hm (any_in_round hd hQ _ _ _ _ (still_any n hB (h _ rfl)))
/-- an operation that only reads, behind a guard that lets it out. -/
theorem still_passed {o : Oper} {rest : List Oper} {a : Act} {w : World} {Qs : Act → Prop} {g d : Nat} {b : Bool} {u : Value} (hg : o.guard = some (g, b)) (hd : dstOf ops g = some d) (hv : a.tmps.getD d undef = u) (hu : u ≠ .bool b)
    (h : ∀ K : Act → Prop, (∀ a, wpStill P ops w Qs rest a → K a) → K (a.put o.dst undef)) : wpStill P ops w Qs (o :: rest) a := by
  refine wpStill_step fun K hK => ?_
  rw [if_neg (by
    unfold Region.wanted
    rw [hg]
    show ¬ (yielded ops a.tmps g == some b) = true
    intro e
    rw [beq_iff_eq] at e
    exact hu ((yielded_at hd hv b).1 e))]
  exact h K hK
/-- behind a guard that lets it run. -/
theorem still_wanted {o : Oper} {rest : List Oper} {a : Act} {w : World} {Qs : Act → Prop} {g d : Nat} {b : Bool} (hg : o.guard = some (g, b)) (hd : dstOf ops g = some d) (hv : a.tmps.getD d undef = .bool b)
    (h : ∀ K : Act → Prop, (∀ a, wpStill P ops w Qs rest a → K a) → o.still P a w K) : wpStill P ops w Qs (o :: rest) a := by
  refine wpStill_step fun K hK => ?_
  rw [if_pos (by
    unfold Region.wanted
    rw [hg]
    show (yielded ops a.tmps g == some b) = true
    rw [(yielded_at hd hv b).2 rfl]
    simp)]
  exact h K hK
end
end Go.Proofs.Ytlcgigiphlmjpaa

namespace Go.Proofs.Ytlcgigiphlmjpaa
open Go.RowKit Go.Shelf

attribute [local go_sem] Oper.semAt_some

theorem four_allocs {w1 : World} {s : Nat} (z1 : w1.heap.size = s) (o1 o2 o3 o4 : Obj) :
    ((((w1.alloc o1).alloc o2).alloc o3).alloc o4).drew.heap[s]? = some o1 ∧ ((((w1.alloc o1).alloc o2).alloc o3).alloc o4).drew.heap[s + 1]? = some o2 ∧ ((((w1.alloc o1).alloc o2).alloc o3).alloc o4).drew.heap[s + 1 + 1]? = some o3 ∧
      ((((w1.alloc o1).alloc o2).alloc o3).alloc o4).drew.heap[s + 1 + 1 + 1]? = some o4 ∧ Below s w1 ((((w1.alloc o1).alloc o2).alloc o3).alloc o4).drew ∧ ((((w1.alloc o1).alloc o2).alloc o3).alloc o4).drew.heap.size = s + 4 := by
  have y1 : (w1.alloc o1).heap.size = s + 1 := by rw [size_alloc, z1]
  have y2 : ((w1.alloc o1).alloc o2).heap.size = s + 1 + 1 := by rw [size_alloc, y1]
  have y3 : (((w1.alloc o1).alloc o2).alloc o3).heap.size = s + 1 + 1 + 1 := by rw [size_alloc, y2]
  have y4 : ((((w1.alloc o1).alloc o2).alloc o3).alloc o4).heap.size = s + 4 := by rw [size_alloc, y3]
  have n1 := World.alloc_heap_new w1 o1
  have n2 := World.alloc_heap_new (w1.alloc o1) o2
  have n3 := World.alloc_heap_new ((w1.alloc o1).alloc o2) o3
  have n4 := World.alloc_heap_new (((w1.alloc o1).alloc o2).alloc o3) o4
  rw [z1] at n1
  rw [y1] at n2
  rw [y2] at n3
  rw [y3] at n4
  have h2 : ∀ k, k < s + 1 → ((w1.alloc o1).alloc o2).heap[k]? = (w1.alloc o1).heap[k]? := fun k hk => Below.heap_alloc _ _ _ (by omega)
  have h3 : ∀ k, k < s + 1 + 1 → (((w1.alloc o1).alloc o2).alloc o3).heap[k]? = ((w1.alloc o1).alloc o2).heap[k]? := fun k hk => Below.heap_alloc _ _ _ (by omega)
  have h4 : ∀ k, k < s + 1 + 1 + 1 → ((((w1.alloc o1).alloc o2).alloc o3).alloc o4).heap[k]? = (((w1.alloc o1).alloc o2).alloc o3).heap[k]? := fun k hk => Below.heap_alloc _ _ _ (by omega)
  refine ⟨(h4 s (by omega)).trans ((h3 s (by omega)).trans ((h2 s (by omega)).trans n1)), (h4 _ (by omega)).trans ((h3 _ (by omega)).trans n2), (h4 _ (by omega)).trans n3, n4, ?_, y4⟩
  exact (((((Below.refl s w1).alloc (by omega) _).alloc (by omega) _).alloc (by omega) _).alloc (by omega) _).drew
theorem info_bool0 : (Try.prog.info? 4).map (fun i => (i.zero, i.size, i.bytes)) = some (some (Value.bool false), 1, 1) := by kernel_rfl
theorem zero_bools (n : Nat) : madeCells (Value.bool false).cells (n * 1) = (blcells (fun _ => false) n).toArray := by
  apply Array.ext'
  simp [madeCells, blcells, Value.cells, Array.toList_range]
  intro i h1
  simp [Nat.mod_one]
/-- make of ints: all 0. -/
theorem make_ints1 (w : World) (n : Nat) (hn : n ≤ 70000000) : (Instr.makeSlice 22 (.int .i64 (n : Int)) (.int .i64 (n : Int))).run Try.prog w = .ok (.slice (some ⟨w.heap.size, 0, none⟩) n n) (w.alloc (.cells (icells (fun _ => 0) n).toArray 3)) := by
  obtain ⟨i0, hi0, hz0, hs0, hb0⟩ := info_parts info_i64
  have h := run_make (P := Try.prog) w 22 3 i0 _ Try.underlying22 hi0 hz0 .i64 .i64 (n : Int) (n : Int) (by omega) (Int.le_refl _) (by rw [hb0]; omega) (by omega)
  rw [hs0, Int.toNat_natCast, zero_ints] at h
  exact h
/-- make of bools: all false. -/
theorem make_bools0 (w : World) (n : Nat) (hn : n ≤ 4194304) : (Instr.makeSlice 72 (.int .i64 (n : Int)) (.int .i64 (n : Int))).run Try.prog w = .ok (.slice (some ⟨w.heap.size, 0, none⟩) n n) (w.alloc (.cells (blcells (fun _ => false) n).toArray 4)) := by
  obtain ⟨i0, hi0, hz0, hs0, hb0⟩ := info_parts info_bool0
  have h := run_make (P := Try.prog) w 72 4 i0 _ Try.underlying72 hi0 hz0 .i64 .i64 (n : Int) (n : Int) (by omega) (Int.le_refl _) (by rw [hb0]; omega) (by omega)
  rw [hs0, Int.toNat_natCast, zero_bools] at h
  exact h
/-- how many of the numbers from place k on are y - 1. -/
def cI (X : Nat → Nat) (n k y : Nat) : Int := if y = 0 then 0 else ((Pl.cnt (fun p => decide (X p = y - 1)) n - Pl.cnt (fun p => decide (X p = y - 1)) k : Nat) : Int)
/-- as far as place k: the rising suffixes. -/
def upFrom (X : Nat → Nat) (n k q : Nat) : Bool := decide (k ≤ q) && up X n q
theorem cI_off {X : Nat → Nat} {n k y : Nat} (h : y ≠ X k + 1) : cI X n k y = cI X n (k + 1) y := by
  unfold cI
  by_cases h0 : y = 0
  · rw [if_pos h0, if_pos h0]
  · rw [if_neg h0, if_neg h0, Pl.cnt_succ, if_neg (by simp; omega)]
    rfl
theorem cI_at {X : Nat → Nat} {n k : Nat} (hk : k < n) : cI X n k (X k + 1) = cI X n (k + 1) (X k + 1) + 1 ∧ 0 ≤ cI X n (k + 1) (X k + 1) ∧ cI X n (k + 1) (X k + 1) ≤ (n : Int) := by
  have h1 := Pl.cnt_mono (fun p => decide (X p = X k + 1 - 1)) (show k + 1 ≤ n from hk)
  have h2 : Pl.cnt (fun p => decide (X p = X k + 1 - 1)) (k + 1) = Pl.cnt (fun p => decide (X p = X k + 1 - 1)) k + 1 := by rw [Pl.cnt_succ, if_pos (by simp)]
  have h3 := cnt_to (fun p => decide (X p = X k + 1 - 1)) n
  unfold cI
  rw [if_neg (by omega), if_neg (by omega)]
  omega
theorem cI_none (X : Nat → Nat) (n y : Nat) : cI X n n y = 0 := by
  unfold cI
  split
  · rfl
  · rw [Nat.sub_self]; rfl
theorem blcells_set (F : Nat → Bool) (n j : Nat) (x : Bool) : (blcells F n).set j (.bool x) = blcells (fun i => if i = j then x else F i) n := by
  apply List.ext_getElem?
  intro k
  rw [List.getElem?_set]
  by_cases hk : k < n
  · by_cases h : j = k
    · subst h
      rw [if_pos rfl, if_pos (by rw [blcells_length]; omega), blcells_at (fun i => if i = j then x else F i) n j hk]
      simp
    · have h' : k ≠ j := fun e => h e.symm
      simp [blcells_at _ _ _ hk, h, h']
  · rw [List.getElem?_eq_none (l := blcells (fun i => if i = j then x else F i) n) (by rw [blcells_length]; omega)]
    split
    · rw [if_neg (by rw [blcells_length]; omega)]
    · rw [List.getElem?_eq_none (by rw [blcells_length]; omega)]

/-- as far as x: the heads; behind them: how many of each. -/
def hI2 (X : Nat → Nat) (n x y : Nat) : Int := if y ≤ x then ((hd X n y : Nat) : Int) else cI X n 0 y
theorem hI2_zero {X : Nat → Nat} {n : Nat} (y : Nat) : cI X n 0 y = hI2 X n 0 y := by
  unfold hI2
  split
  · obtain rfl : y = 0 := by omega
    rw [hd_zero]
    rfl
  · rfl
theorem hI2_step {X : Nat → Nat} {n x : Nat} : hI2 X n x (x + 1) + hI2 X n x x = hI2 X n (x + 1) (x + 1) ∧ 0 ≤ hI2 X n x (x + 1) ∧ hI2 X n x (x + 1) ≤ (n : Int) ∧ 0 ≤ hI2 X n x x ∧ hI2 X n x x ≤ (n : Int) := by
  have h1 := cnt_below X x n
  have h2 := cnt_to (fun p => decide (X p = x)) n
  have h3 := hd_to (X := X) (n := n) x
  unfold hI2 cI
  rw [if_neg (by omega), if_neg (by omega), if_pos (Nat.le_refl _), if_pos (Nat.le_refl _), Nat.add_sub_cancel]
  have h4 : Pl.cnt (fun p => decide (X p = x)) 0 = 0 := rfl
  rw [h4]
  unfold hd at h3 ⊢
  omega
theorem hI2_off {X : Nat → Nat} {n x y : Nat} (h : y ≠ x + 1) : hI2 X n x y = hI2 X n (x + 1) y := by
  unfold hI2
  by_cases h1 : y ≤ x
  · rw [if_pos h1, if_pos (by omega)]
  · rw [if_neg h1, if_neg (by omega)]
/-- what lies while the row is made. -/
structure RIn (w : World) (lo : Nat) (A : Option Addr) (n c b : Nat) (X : Nat → Nat) (g e h v : Nat) (ms : List Nat) (F : Nat → Bool) (H : Nat → Int) (W : World) : Prop where
  t0 : W.cell? ⟨lo, 0, none⟩ = some (.slice A n c)
  head : Lies W g 74 [.slice A n c, .slice (some ⟨e, 0, none⟩) n n, .slice (some ⟨h, 0, none⟩) (b + 1) (b + 1)]
  less : Lies W e 4 (blcells F n)
  heads : Lies W h 3 (icells H (b + 1))
  var : Lies W v 62 [.pointer (some ⟨g, 0, none⟩)]
  its : Its W lo A n (xi X)
  below : Below lo w W
  size : lo + 5 ≤ W.heap.size
  marks : ∀ d ∈ ms, W.heap[d]? = some (.deferred (some []))
section
variable {w W W' : World} {lo n c b g e h v : Nat} {A : Option Addr} {X : Nat → Nat} {ms : List Nat} {F : Nat → Bool} {H : Nat → Int}
theorem RIn.off {p : Nat → Prop} (r : RIn w lo A n c b X g e h v ms F H W) (hO : Off p W W') (hp : ∀ k, k < lo + 5 → p k) (hm : ∀ d ∈ ms, p d) (hlt : e < lo + 5 ∧ h < lo + 5 ∧ g < lo + 5 ∧ v < lo + 5) : RIn w lo A n c b X g e h v ms F H W' := by
  have hb : Below lo W W' := hO.below (by have := r.size; omega) (fun k hk => hp k (by omega))
  exact ⟨hO.cell r.t0 (hp _ (by show lo < lo + 5; omega)), r.head.same (hO.block _ r.head.lt (hp _ hlt.2.2.1)), r.less.same (hO.block _ r.less.lt (hp _ hlt.1)), r.heads.same (hO.block _ r.heads.lt (hp _ hlt.2.1)), r.var.same (hO.block _ r.var.lt (hp _ hlt.2.2.2)),
    r.its.below hb, r.below.trans hb, Nat.le_trans r.size hO.size, fun d hd => (hO.block d (Array.getElem?_eq_some_iff.1 (r.marks d hd)).1 (hm d hd)).trans (r.marks d hd)⟩
theorem RIn.grown {r0 : Nat} (r : RIn w lo A n c b X g e h v ms F H W) (hg : W.grownBy W' (some r0)) (hr : lo + 5 ≤ r0) (hm : ∀ d ∈ ms, d ≠ r0) (hlt : e < lo + 5 ∧ h < lo + 5 ∧ g < lo + 5 ∧ v < lo + 5) : RIn w lo A n c b X g e h v ms F H W' :=
  r.off (p := fun k => k ≠ r0) (Off.grown hg (fun k e' => by cases e'; exact fun hh => hh rfl)) (fun k hk => by omega) hm hlt
theorem RIn.drew (r : RIn w lo A n c b X g e h v ms F H W) : RIn w lo A n c b X g e h v ms F H W.drew :=
  ⟨r.t0, r.head.drew, r.less.drew, r.heads.drew, r.var.drew, fun k hk => r.its k hk, r.below.drew, r.size, r.marks⟩
theorem RIn.put_h (r : RIn w lo A n c b X g e h v ms F H W) (hm : ∀ d ∈ ms, d ≠ h) (hlo : lo + 1 ≤ h) (j : Nat) (x : Int) : RIn w lo A n c b X g e h v ms F (putI H j x) (W.setCell ⟨h, j, none⟩ (.int .i64 x)) := by
  have n1 : g ≠ h := r.head.unlike r.heads (by decide)
  have n2 : e ≠ h := r.less.unlike r.heads (by decide)
  have n3 : v ≠ h := r.var.unlike r.heads (by decide)
  have hb : Below lo W (W.setCell ⟨h, j, none⟩ (.int .i64 x)) := (Below.refl lo W).setCell (p := ⟨h, j, none⟩) (by show lo ≤ h; omega) _
  refine ⟨(World.cell?_of_block (Below.heap_setCell W ⟨h, j, none⟩ _ lo (by show lo ≠ h; omega))).trans r.t0, r.head.far (p := ⟨h, j, none⟩) n1 _, r.less.far (p := ⟨h, j, none⟩) n2 _, ?_, r.var.far (p := ⟨h, j, none⟩) n3 _, r.its.below hb, r.below.trans hb, Nat.le_trans r.size hb.size, fun d hd => (Below.heap_setCell W ⟨h, j, none⟩ _ d (hm d hd)).trans (r.marks d hd)⟩
  have := r.heads.put j (.int .i64 x)
  rw [icells_put] at this
  exact this
theorem RIn.put_e (r : RIn w lo A n c b X g e h v ms F H W) (hm : ∀ d ∈ ms, d ≠ e) (hlo : lo + 1 ≤ e) (j : Nat) (x : Bool) : RIn w lo A n c b X g e h v ms (fun i => if i = j then x else F i) H (W.setCell ⟨e, j, none⟩ (.bool x)) := by
  have n1 : g ≠ e := r.head.unlike r.less (by decide)
  have n2 : h ≠ e := r.heads.unlike r.less (by decide)
  have n3 : v ≠ e := r.var.unlike r.less (by decide)
  have hb : Below lo W (W.setCell ⟨e, j, none⟩ (.bool x)) := (Below.refl lo W).setCell (p := ⟨e, j, none⟩) (by show lo ≤ e; omega) _
  refine ⟨(World.cell?_of_block (Below.heap_setCell W ⟨e, j, none⟩ _ lo (by show lo ≠ e; omega))).trans r.t0, r.head.far (p := ⟨e, j, none⟩) n1 _, ?_, r.heads.far (p := ⟨e, j, none⟩) n2 _, r.var.far (p := ⟨e, j, none⟩) n3 _, r.its.below hb, r.below.trans hb, Nat.le_trans r.size hb.size, fun d hd => (Below.heap_setCell W ⟨e, j, none⟩ _ d (hm d hd)).trans (r.marks d hd)⟩
  have := r.less.put j (.bool x)
  rw [blcells_set] at this
  exact this
theorem RIn.congr {F' : Nat → Bool} {H' : Nat → Int} (r : RIn w lo A n c b X g e h v ms F H W) (hF : ∀ q, q < n → F q = F' q) (hH : ∀ y, y < b + 1 → H y = H' y) : RIn w lo A n c b X g e h v ms F' H' W :=
  ⟨r.t0, r.head, by rw [← blcells_congr hF]; exact r.less, by rw [← icells_congr hH]; exact r.heads, r.var, r.its, r.below, r.size, r.marks⟩
end
end Go.Proofs.Ytlcgigiphlmjpaa

namespace Go.Proofs.Ytlcgigiphlmjpaa
open Go.RowKit Go.Shelf

attribute [local go_sem] Oper.semAt_some

set_option maxRecDepth 100000 in
set_option maxHeartbeats 3200000 in
theorem rowOf_any (A : Option Addr) (n c b : Nat) (X : Nat → Nat) (w : World) (hn0 : 0 < n) (hn : n ≤ 4194304) (hb : b ≤ 4194304) (hnc : n ≤ c) (hc : c ≤ maxLen) (hX : ∀ p, p < n → X p < b) (ht : Its w w.heap.size A n (xi X)) :
    Calls Try.prog 40 #[.slice A n c, .int .i64 (b : Int)] w fun e' w' => ∃ g e h T, e' = .returned (.pointer (some ⟨g, 0, none⟩)) ∧ Rw w' T A n c X b g e h ∧ T ≤ w'.heap.size ∧ Below w.heap.size w w' := by
  obtain ⟨ad0, hA0, _⟩ := ht 0 hn0
  subst hA0
  have htA := Lib.hid ht
  obtain ⟨lo, hlo⟩ : ∃ lo, w.heap.size = lo := ⟨_, rfl⟩
  rw [hlo] at htA ⊢
  obtain ⟨w1, hw1⟩ : ∃ w1, w.alloc (.cells #[.slice (some ad0) n c] 22) = w1 := ⟨_, rfl⟩
  have z1 : w1.heap.size = lo + 1 := by rw [← hw1, size_alloc, hlo]
  have l1 : Lies w1 lo 22 [.slice (some ad0) n c] := by rw [← hw1, ← hlo]; exact lies_new w _ _
  have k1 : Below lo w w1 := by rw [← hw1, ← hlo]; exact (Below.refl _ _).alloc (Nat.le_refl _) _
  have v1 := l1.cell 0
  have hmix : Try.prog.follows .mixedOrders = true := by kernel_rfl
  have e1 : IntKind.i64.wrap ((b : Int) + 1) = (b : Int) + 1 := IntWalk.i64_in _ (by omega)
  have hMi : ∀ W : World, (Instr.makeSlice 22 (.int .i64 ((b : Int) + 1)) (.int .i64 ((b : Int) + 1))).run Try.prog W = .ok (.slice (some ⟨W.heap.size, 0, none⟩) (b + 1) (b + 1)) (W.alloc (.cells (icells (fun _ => 0) (b + 1)).toArray 3)) := fun W => by
    have h := make_ints1 W (b + 1) (by omega)
    rw [show ((b + 1 : Nat) : Int) = (b : Int) + 1 by omega] at h
    exact h
  have hMb := fun W => make_bools0 W n (by omega)
  clear ht
  refine (callsIn_wide (n := 0)).1 ?_
  refine callsIn_of_wp_marks Try.func40 rfl trivial ?_ rfl
  simp only [Try.ntmps40, List.size_toArray, List.length_cons, List.length_nil, Nat.reduceAdd, Nat.reduceSub, Array.replicate_succ, Array.replicate_zero, List.push_toArray, List.append_toArray, List.nil_append, List.cons_append]
  gi_wp2
  rename_i Q' K hK
  have hrest : ∀ (e h g v : Nat) (W : World), Lies W g 74 [.slice (some ad0) n c, .slice (some ⟨e, 0, none⟩) n n, .slice (some ⟨h, 0, none⟩) (b + 1) (b + 1)] → Lies W e 4 (blcells (fun _ => false) n) → Lies W h 3 (icells (fun _ => 0) (b + 1)) →
      Lies W v 62 [.pointer (some ⟨g, 0, none⟩)] → Below (lo + 1) w1 W → W.heap.size = lo + 5 → (lo + 1 ≤ e ∧ e < lo + 5 ∧ lo + 1 ≤ h ∧ h < lo + 5 ∧ lo + 1 ≤ g ∧ g < lo + 5 ∧ lo + 1 ≤ v ∧ v < lo + 5) →
      K { tmps := #[.slice (some ad0) n c, .int .i64 (b : Int), .pointer (some ⟨lo, 0, none⟩), undef, .pointer none, .pointer (some ⟨v, 0, none⟩), undef, undef, undef, .slice (some ad0) n c, .slice (some ad0) n c, .int .i64 (n : Int), .slice (some ⟨e, 0, none⟩) n n, .int .i64 (b : Int), .int .i64 ((b : Int) + 1), .slice (some ⟨h, 0, none⟩) (b + 1) (b + 1), .agg #[.slice (some ad0) n c, .slice (some ⟨e, 0, none⟩) n n, .slice (some ⟨h, 0, none⟩) (b + 1) (b + 1)], .pointer (some ⟨g, 0, none⟩), undef, undef, undef, undef, undef, undef, undef, undef, undef, undef, undef, undef, undef, undef, undef, undef, undef, undef, undef, undef, undef, undef, undef, undef, undef, undef, undef, undef, undef, undef, undef, undef, undef, undef, undef, undef, undef, undef, undef, undef, undef, undef, undef, undef, undef, undef, undef, undef, undef, undef, undef, undef, undef, undef, undef, undef, undef, undef, undef, undef, undef, undef, undef, undef, undef, undef, undef, undef, undef, undef, undef, undef, undef, undef], defers := [] } W := by
    intro e h g v W lg le lh lv kW zW hlt
    refine hK _ _ ?_
    have HB : Below lo w W := k1.trans (kW.mono (by omega))
    have c0 := (l1.below kW (by omega)).cell 0
    have HBk := Lib.hid (backward_any (some ad0) n c W)
    gi_wp2
    refine ⟨trivial, rfl, (callsIn_wide.2 HBk.out).mono ?_⟩
    rintro e' W1 ⟨rfl, hW1⟩
    rw [zW]
    have zW1 : W1.heap.size = lo + 6 := by rw [hW1, size_alloc, zW]
    have kW1 : Below (lo + 5) W W1 := by rw [hW1, ← zW]; exact (Below.refl _ _).alloc (Nat.le_refl _) _
    have lb : Lies W1 (lo + 5) 22 [.slice (some ad0) n c] := by rw [hW1, ← zW]; exact lies_new W _ _
    gi_wp2
    rw [← hW1]
    have hl2 : e < lo + 5 ∧ h < lo + 5 ∧ g < lo + 5 ∧ v < lo + 5 := by omega
    have R0 : RIn w lo (some ad0) n c b X g e h v [] (upFrom X n n) (cI X n n) W1 := by
      have k2 : Below (lo + 5) W W1 := kW1
      refine ⟨((l1.below kW (by omega)).below k2 (by omega)).cell 0, lg.below k2 hl2.2.2.1, ?_, ?_, lv.below k2 hl2.2.2.2, (htA.out.below (HB.trans (k2.mono (by omega)))), HB.trans (k2.mono (by omega)), by omega, fun d hd => by cases hd⟩
      · rw [blcells_congr (f := upFrom X n n) (f' := fun _ => false) (fun j hj => by unfold upFrom; rw [decide_eq_false (by omega)]; rfl)]
        exact le.below k2 hl2.1
      · rw [icells_congr (U := cI X n n) (U' := fun _ => 0) (fun j _ => cI_none X n j)]
        exact lh.below k2 hl2.2.1
    clear HBk lg le lh lv kW c0
    refine back_law (some ad0) n c (lo + 5) zW1 (by omega) (by omega) (lb.cell 0) (ints_of_its R0.its) rfl rfl
      (fun i W => Hid (RIn w lo (some ad0) n c b X g e h v [] (upFrom X n (n - i)) (cI X n (n - i)) W)) ?inv (Lib.hid (by rw [Nat.sub_zero]; exact R0)) (fun x => { tmps := #[.slice (some ad0) n c, .int .i64 (b : Int), .pointer (some ⟨lo, 0, none⟩), undef, .pointer none, .pointer (some ⟨v, 0, none⟩), .int .i64 (x.1 : Int), .int .i64 x.2, undef, .slice (some ad0) n c, .slice (some ad0) n c, .int .i64 (n : Int), .slice (some ⟨e, 0, none⟩) n n, .int .i64 (b : Int), .int .i64 ((b : Int) + 1), .slice (some ⟨h, 0, none⟩) (b + 1) (b + 1), .agg #[.slice (some ad0) n c, .slice (some ⟨e, 0, none⟩) n n, .slice (some ⟨h, 0, none⟩) (b + 1) (b + 1)], .pointer (some ⟨g, 0, none⟩), .slice (some ad0) n c, .func (.func 61) #[] #[.pointer (some ⟨lo + 5, 0, none⟩)], .int .i64 (x.1 : Int), .int .i64 x.2, undef, undef, undef, undef, undef, undef, undef, undef, undef, undef, undef, undef, undef, undef, undef, undef, undef, undef, undef, undef, undef, undef, undef, undef, undef, undef, undef, undef, undef, undef, undef, undef, undef, undef, undef, undef, undef, undef, undef, undef, undef, undef, undef, undef, undef, undef, undef, undef, undef, undef, undef, undef, undef, undef, undef, undef, undef, undef, undef, undef, undef, undef, undef, undef, undef, undef, undef, undef, undef, undef], defers := [] }) ?assign ?body ?done
    case inv =>
      intro i A1 A2 hi hg
      exact Lib.hid (hi.out.grown hg (by omega) (fun d hd => by cases hd) hl2)
    case assign =>
      intro l x W K hK
      gi_wp2
      exact hK
    case body =>
      rintro l i ⟨k, vx⟩ W hs hi ⟨hx1, ad, hA, hc⟩ hR
      cases hA
      have hx1 : k + i + 1 = n := hx1
      have hkn : k < n := by omega
      have hc : W.cell? (ad0.add k) = some (.int .i64 vx) := hc
      rw [show n - i = k + 1 by omega] at hR
      rw [show n - (i + 1) = k by omega]
      obtain ⟨ad', e', _, hc', _⟩ := hR.out.its k hkn
      have hvx : vx = ((X k : Nat) : Int) := by
        cases e'
        rw [hc'] at hc
        injection hc with hc
        injection hc with _ hc
        exact hc.symm
      subst hvx
      clear hc hc' e'
      have hxb := hX k hkn
      obtain ⟨hc1, hc2, hc3⟩ := cI_at (X := X) hkn
      obtain ⟨y, hy⟩ : ∃ y, X k + 1 = y := ⟨_, rfl⟩
      rw [hy] at hc1 hc2 hc3
      obtain ⟨u, hu⟩ : ∃ u, cI X n (k + 1) y = u := ⟨_, rfl⟩
      rw [hu] at hc1 hc2 hc3
      have hyx : IntKind.i64.wrap (((X k : Nat) : Int) + 1) = (y : Int) := by rw [IntWalk.i64_in _ (by omega)]; omega
      have hu1 : IntKind.i64.wrap (u + 1) = u + 1 := IntWalk.i64_in _ (by omega)
      have hyb : (y : Int) < (b : Int) + 1 := by omega
      have v1 := hR.out.var.cell 0
      have g2 := hR.out.head.cell 2
      have hy2 : W.cell? ⟨h, y, none⟩ = some (.int .i64 u) := by
        rw [hR.out.heads.cell, ← hu]
        exact icells_at _ _ _ (by omega)
      have fy := hR.out.heads.free y
      -- behind the first store
      obtain ⟨W2, hW2⟩ : ∃ W2, W.setCell ⟨h, y, none⟩ (.int .i64 (u + 1)) = W2 := ⟨_, rfl⟩
      have R2 : RIn w lo (some ad0) n c b X g e h v [] (upFrom X n (k + 1)) (cI X n k) W2 := by
        rw [← hW2]
        refine (hR.out.put_h (fun d hd => by cases hd) (by omega) y (u + 1)).congr (fun _ _ => rfl) (fun z _ => ?_)
        by_cases hz : z = y
        · rw [hz, putI_at, hc1]
        · rw [putI_off _ hz]
          exact (cI_off (by omega)).symm
      have hO2 : Off (fun q => q ≠ h) W W2 := by rw [← hW2]; exact Off.setCell (fun hh => hh rfl) _
      obtain ⟨k1, hk1e⟩ : ∃ k1, k + 1 = k1 := ⟨_, rfl⟩
      have hkw : IntKind.i64.wrap ((k : Int) + 1) = (k1 : Int) := by rw [IntWalk.i64_in _ (by omega)]; omega
      have t2 := R2.t0
      clear hR hu hc1 hc2 hc3 hs hi hx1
      by_cases hlast : k + 1 = n
      · have hcond : ¬ ((k1 : Int) < (n : Int)) := by omega
        have HR3 : Hid (RIn w lo (some ad0) n c b X g e h v [] (upFrom X n k) (cI X n k) W2) := Lib.hid (R2.congr (fun q hq => by
          unfold upFrom
          by_cases hqk : q = k
          · subst hqk
            rw [show q = n - 1 by omega, up_last, Bool.and_false, Bool.and_false]
          · by_cases hq2 : k ≤ q
            · omega
            · rw [decide_eq_false hq2, decide_eq_false (by omega)]) (fun _ _ => rfl))
        have HI3 := Lib.hid (ints_of_its R2.its)
        clear R2
        gi_wp2
        exact ⟨⟨hO2.less (fun q hq => by rcases hq with rfl | rfl | rfl <;> omega), HI3.out⟩, HR3⟩
      · have hcond : (k1 : Int) < (n : Int) := by omega
        have hk1 : k + 1 < n := by omega
        have v2 := R2.drew.var.cell 0
        have g1 := R2.drew.head.cell 1
        have t3 := R2.drew.t0
        obtain ⟨ad2, hA2, _, hcx, _⟩ := R2.its (k + 1) hk1
        cases hA2
        have hcx : W2.drew.cell? (ad0.add k1) = some (.int .i64 ((X (k + 1) : Nat) : Int)) := by rw [← hk1e]; exact hcx
        have hce : W2.drew.cell? ⟨e, k, none⟩ = some (.bool (upFrom X n (k + 1) k)) := by
          rw [R2.drew.less.cell]
          exact blcells_at _ _ _ hkn
        have hce1 : W2.drew.cell? ⟨e, k1, none⟩ = some (.bool (up X n (k + 1))) := by
          rw [← hk1e, R2.drew.less.cell, blcells_at _ _ _ hk1]
          unfold upFrom
          rw [decide_eq_true (Nat.le_refl _)]
          rfl
        have fe := R2.drew.less.free k
        have hks : (k : Int) < (n : Int) := by omega
        have hup := up_at (X := X) hk1
        obtain ⟨W3, hW3⟩ : ∃ W3, W2.drew.setCell ⟨e, k, none⟩ (.bool (up X n k)) = W3 := ⟨_, rfl⟩
        have R3 : RIn w lo (some ad0) n c b X g e h v [] (upFrom X n k) (cI X n k) W3 := by
          rw [← hW3]
          refine (R2.drew.put_e (fun d hd => by cases hd) (by omega) k (up X n k)).congr (fun q _ => ?_) (fun _ _ => rfl)
          show (if q = k then up X n k else upFrom X n (k + 1) q) = upFrom X n k q
          unfold upFrom
          by_cases hqk : q = k
          · rw [if_pos hqk, hqk, decide_eq_true (Nat.le_refl _)]
            rfl
          · rw [if_neg hqk]
            by_cases hq2 : k ≤ q
            · rw [decide_eq_true hq2, decide_eq_true (show k + 1 ≤ q by omega)]
            · rw [decide_eq_false hq2, decide_eq_false (by omega)]
        have hO3 : Off (fun q => q ≠ h ∧ q ≠ e) W W3 := by
          rw [← hW3]
          exact (hO2.less (fun q hq => hq.1)).trans ((off_drew _ _).trans (Off.setCell (fun hh => hh.2 rfl) _))
        have HR3 := Lib.hid R3
        have HI3 := Lib.hid (ints_of_its R3.its)
        have HO3 := Lib.hid hO3
        clear R2 R3 hO3 hO2
        by_cases hlt : X k < X (k + 1)
        · have hu3 : up X n k = true := by rw [hup, decide_eq_true hlt]; rfl
          rw [hu3] at hW3
          have d1 : decide (((X k : Nat) : Int) < ((X (k + 1) : Nat) : Int)) = true := decide_eq_true (by omega)
          have d2 : decide (X k < X (k + 1)) = true := decide_eq_true hlt
          generalize X (k + 1) = x1 at *
          generalize X k = x0 at *
          clear hup hu3 hk1 hlast hk1e
          gi_wp2
          refine still_in_round 32 hmix (by kernel_rfl) (by kernel_rfl) (fun ⟨_, _, hh⟩ => hh) fun ops hops => ?_
          have hd12 : dstOf ops 12 = some 49 := by rw [← hops]; kernel_rfl
          have hd20 : dstOf ops 20 = some 57 := by rw [← hops]; kernel_rfl
          clear hops
          simp only [List.take_succ_cons, List.take_zero, List.drop_succ_cons, List.drop_zero]
          iterate 13
            refine wpStill_step (fun K hK => ?_)
            have HK := Lib.hid hK
            clear hK
            go_simp
            refine HK.out _ ?_
            clear HK K
          iterate 8
            refine still_passed (g := 12) (d := 49) (b := false) (u := .bool true) rfl hd12 rfl (by simp) fun K hK => ?_
            have HK := Lib.hid hK
            clear hK
            go_simp
            refine HK.out _ ?_
            clear HK K
          iterate 8
            refine still_passed (g := 20) (d := 57) (b := true) (u := undef) rfl hd20 rfl (by simp [undef]) fun K hK => ?_
            have HK := Lib.hid hK
            clear hK
            go_simp
            refine HK.out _ ?_
            clear HK K
          iterate 1
            refine still_passed (g := 12) (d := 49) (b := false) (u := .bool true) rfl hd12 rfl (by simp) fun K hK => ?_
            have HK := Lib.hid hK
            clear hK
            go_simp
            refine HK.out _ ?_
            clear HK K
          iterate 2
            refine wpStill_step (fun K hK => ?_)
            have HK := Lib.hid hK
            clear hK
            go_simp
            refine HK.out _ ?_
            clear HK K
          refine wpStill_nil ?_
          go_wp2
          exact ⟨⟨HO3.out.less (fun q hq => by rcases hq with rfl | rfl | rfl <;> exact ⟨by omega, by omega⟩), HI3.out⟩, HR3⟩
        · by_cases heq : X k = X (k + 1)
          · have hu3 : up X n k = up X n (k + 1) := by rw [hup, decide_eq_false hlt, decide_eq_true heq]; rfl
            rw [hu3] at hW3
            rw [← heq] at hcx
            clear hup hu3 hk1 hlast hk1e hlt heq
            generalize up X n (k + 1) = ub at *
            generalize X k = x0 at *
            gi_wp2
            refine still_in_round 32 hmix (by kernel_rfl) (by kernel_rfl) (fun ⟨_, _, hh⟩ => hh) fun ops hops => ?_
            have hd12 : dstOf ops 12 = some 49 := by rw [← hops]; kernel_rfl
            have hd20 : dstOf ops 20 = some 57 := by rw [← hops]; kernel_rfl
            clear hops
            simp only [List.take_succ_cons, List.take_zero, List.drop_succ_cons, List.drop_zero]
            iterate 13
              refine wpStill_step (fun K hK => ?_)
              have HK := Lib.hid hK
              clear hK
              go_simp
              refine HK.out _ ?_
              clear HK K
            iterate 8
              refine still_wanted (g := 12) (d := 49) (b := false) rfl hd12 rfl fun K hK => ?_
              have HK := Lib.hid hK
              clear hK
              go_simp
              refine HK.out _ ?_
              clear HK K
            iterate 8
              refine still_wanted (g := 20) (d := 57) (b := true) rfl hd20 rfl fun K hK => ?_
              have HK := Lib.hid hK
              clear hK
              go_simp
              refine HK.out _ ?_
              clear HK K
            iterate 1
              refine still_wanted (g := 12) (d := 49) (b := false) rfl hd12 rfl fun K hK => ?_
              have HK := Lib.hid hK
              clear hK
              go_simp
              refine HK.out _ ?_
              clear HK K
            iterate 2
              refine wpStill_step (fun K hK => ?_)
              have HK := Lib.hid hK
              clear hK
              go_simp
              refine HK.out _ ?_
              clear HK K
            refine wpStill_nil ?_
            go_wp2
            exact ⟨⟨HO3.out.less (fun q hq => by rcases hq with rfl | rfl | rfl <;> exact ⟨by omega, by omega⟩), HI3.out⟩, HR3⟩
          · have hu3 : up X n k = false := by rw [hup, decide_eq_false hlt, decide_eq_false heq]; rfl
            rw [hu3] at hW3
            have d1 : decide (((X k : Nat) : Int) < ((X (k + 1) : Nat) : Int)) = false := decide_eq_false (by omega)
            have d2 : decide (X k < X (k + 1)) = false := decide_eq_false hlt
            have d4 : (((X k : Nat) : Int) == ((X (k + 1) : Nat) : Int)) = false := by rw [beq_eq_false_iff_ne]; omega
            generalize X (k + 1) = x1 at *
            generalize X k = x0 at *
            clear hup hu3 hk1 hlast hk1e
            gi_wp2
            refine still_in_round 32 hmix (by kernel_rfl) (by kernel_rfl) (fun ⟨_, _, hh⟩ => hh) fun ops hops => ?_
            have hd12 : dstOf ops 12 = some 49 := by rw [← hops]; kernel_rfl
            have hd20 : dstOf ops 20 = some 57 := by rw [← hops]; kernel_rfl
            clear hops
            simp only [List.take_succ_cons, List.take_zero, List.drop_succ_cons, List.drop_zero]
            iterate 13
              refine wpStill_step (fun K hK => ?_)
              have HK := Lib.hid hK
              clear hK
              go_simp
              refine HK.out _ ?_
              clear HK K
            iterate 8
              refine still_wanted (g := 12) (d := 49) (b := false) rfl hd12 rfl fun K hK => ?_
              have HK := Lib.hid hK
              clear hK
              go_simp
              refine HK.out _ ?_
              clear HK K
            iterate 8
              refine still_passed (g := 20) (d := 57) (b := true) (u := .bool false) rfl hd20 rfl (by simp) fun K hK => ?_
              have HK := Lib.hid hK
              clear hK
              go_simp
              refine HK.out _ ?_
              clear HK K
            iterate 1
              refine still_wanted (g := 12) (d := 49) (b := false) rfl hd12 rfl fun K hK => ?_
              have HK := Lib.hid hK
              clear hK
              go_simp
              refine HK.out _ ?_
              clear HK K
            iterate 2
              refine wpStill_step (fun K hK => ?_)
              have HK := Lib.hid hK
              clear hK
              go_simp
              refine HK.out _ ?_
              clear HK K
            refine wpStill_nil ?_
            go_wp2
            exact ⟨⟨HO3.out.less (fun q hq => by rcases hq with rfl | rfl | rfl <;> exact ⟨by omega, by omega⟩), HI3.out⟩, HR3⟩
    case done =>
      rintro D1 W hD1 hR hk1
      rw [Nat.sub_self] at hR
      have hD1l := (Array.getElem?_eq_some_iff.1 hk1).1
      have R1 : RIn w lo (some ad0) n c b X g e h v [D1] (upFrom X n 0) (hI2 X n 0) W :=
        ⟨hR.out.t0, hR.out.head, hR.out.less, by rw [icells_congr (U := hI2 X n 0) (U' := cI X n 0) (fun j _ => (hI2_zero j).symm)]; exact hR.out.heads, hR.out.var, hR.out.its, hR.out.below, hR.out.size, fun d hd => by
          obtain rfl : d = D1 := by simpa using hd
          exact hk1⟩
      have HR1 := Lib.hid R1
      clear hR R1 hk1
      gi_wp2
      gi_loopw [70] (fun s wr => ∃ x : Nat, x ≤ b ∧ s = .int .i64 (x : Int) ∧ Hid (RIn w lo (some ad0) n c b X g e h v [D1] (upFrom X n 0) (hI2 X n x) wr)) (fun s _ => b - (intOf s).toNat)
      case atStart => exact ⟨0, Nat.zero_le _, rfl, HR1⟩
      case round =>
        clear HR1
        obtain ⟨x, hx, rfl, hR⟩ := hrel
        by_cases hlt : x < b
        · have hltx : (x : Int) < (b : Int) := by omega
          have hltb : (x : Int) < (b : Int) + 1 := by omega
          obtain ⟨s1, s2, s3, s4, s5⟩ := hI2_step (X := X) (n := n) (x := x)
          have hRd := hR.out.drew
          have v1 := hRd.var.cell 0
          have g2 := hRd.head.cell 2
          have cx : wr.drew.cell? ⟨h, x, none⟩ = some (.int .i64 (hI2 X n x x)) := by
            rw [hRd.heads.cell]
            exact icells_at _ _ _ (by omega)
          have cy : wr.drew.cell? ⟨h, x + 1, none⟩ = some (.int .i64 (hI2 X n x (x + 1))) := by
            rw [hRd.heads.cell]
            exact icells_at _ _ _ (by omega)
          have fy := hRd.heads.free (x + 1)
          have hne : D1 ≠ h := by omega
          have HR2 : Hid (RIn w lo (some ad0) n c b X g e h v [D1] (upFrom X n 0) (hI2 X n (x + 1)) (wr.drew.setCell ⟨h, x + 1, none⟩ (.int .i64 (hI2 X n x (x + 1) + hI2 X n x x)))) :=
            Lib.hid ((hRd.put_h (fun d hd => by
              obtain rfl : d = D1 := by simpa using hd
              exact hne) (by omega) (x + 1) (hI2 X n x (x + 1) + hI2 X n x x)).congr (fun _ _ => rfl) (fun z _ => by
                by_cases hz : z = x + 1
                · rw [hz, putI_at, s1]
                · rw [putI_off _ hz]
                  exact hI2_off hz))
          have hsum : IntKind.i64.wrap (hI2 X n x (x + 1) + hI2 X n x x) = hI2 X n x (x + 1) + hI2 X n x x := IntWalk.i64_in _ (by omega)
          obtain ⟨y, hy⟩ : ∃ y, x + 1 = y := ⟨_, rfl⟩
          have hxy : IntKind.i64.wrap ((x : Int) + 1) = (y : Int) := by rw [IntWalk.i64_in _ (by omega)]; omega
          have hyb : (y : Int) < (b : Int) + 1 := by omega
          rw [hy] at cy fy HR2 hsum
          generalize hI2 X n x y = a1 at *
          generalize hI2 X n x x = a2 at *
          clear s1 s2 s3 s4 s5 hRd hR
          gi_wp2
          refine wpIn_wide.2 ?_
          go_still_tail 17, (by kernel_rfl)
          change wpList _ _ _ _ _ wr.drew
          go_wp2
          gi_wp2
          go_roundw
          case rel => exact ⟨x + 1, by omega, by go_num, by rw [hy]; exact HR2⟩
          case measure => simp [intOf]; omega
        · have hxb : x = b := by omega
          have hge : ¬ ((x : Int) < (b : Int)) := by omega
          rw [hxb] at hR
          have hk1 := hR.out.marks D1 (List.mem_singleton.2 rfl)
          have hDl := (Array.getElem?_eq_some_iff.1 hk1).1
          have v1 := hR.out.var.cell 0
          have hMM : Marks (lo + 5) wr.heap.size ({ target := .collected D1, args := #[] } :: []) wr := ⟨D1, rfl, by omega, hDl, hk1, trivial⟩
          have HRw : Hid (Rw wr (lo + 5) (some ad0) n c X b g e h) := Lib.hid ⟨hR.out.head, hR.out.its.mono_ (by omega), by
            rw [← blcells_congr (f := upFrom X n 0) (f' := up X n) (fun j _ => by unfold upFrom; rw [decide_eq_true (Nat.zero_le _)]; rfl)]
            exact hR.out.less, by
            rw [← icells_congr (U := hI2 X n b) (U' := hdI X n) (fun j hj => by unfold hI2; rw [if_pos (by omega)]; rfl)]
            exact hR.out.heads, by omega, ⟨hn0, hn, hb, hnc, hc⟩, hX⟩
          have HB4 := Lib.hid hR.out.below
          have hsz := hR.out.size
          clear hR
          gi_wp2
          exact hMM.out (by omega) fun w' hw' => ⟨.pointer (some ⟨g, 0, none⟩), by simp [results, Try.results40, go_sem], g, rfl, e, h, lo + 5, HRw.out.below hw' (Nat.le_refl _), Nat.le_trans hsz hw'.size, HB4.out.trans (hw'.mono (by omega))⟩
  gi_region
  all_goals
    refine hrest _ _ _ _ _ ?_ ?_ ?_ ?_ ?_ ?_ ?_
  all_goals first
    | exact (four_allocs z1 _ _ _ _).1
    | exact (four_allocs z1 _ _ _ _).2.1
    | exact (four_allocs z1 _ _ _ _).2.2.1
    | exact (four_allocs z1 _ _ _ _).2.2.2.1
    | exact (four_allocs z1 _ _ _ _).2.2.2.2.1
    | exact (four_allocs z1 _ _ _ _).2.2.2.2.2
    | omega
end Go.Proofs.Ytlcgigiphlmjpaa
