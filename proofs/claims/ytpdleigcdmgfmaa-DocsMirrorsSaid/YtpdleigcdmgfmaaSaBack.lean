/- slices.Backward over ints: what it hands over, told by number, read when it is come to. A range over slices.Backward whose rounds all end as they should: the law. -/
import Derived.Test.YtpdleigcdmgfmaaRange
import Derived.Test.YtpdleigcdmgfmaaSaParts
import Derived.Test.YtpdleigcdmgfmaaSaTurn
import Derived.StillTailTactics
namespace Go.Proofs.Ytpdleigcdmgfmaa
open Go.RowKit Go.Shelf

attribute [local go_sem] Oper.semAt_some

/-- nothing has turned but the count of draws. -/
structure Still (A A' : World) : Prop where
  heap : A'.heap = A.heap
  os : A'.os = A.os
  tape : A'.tape = A.tape
  output : A'.output = A.output
theorem Still.below {A A' : World} (h : Still A A') (B : Nat) : Below B A A' := ⟨h.os, h.tape, h.output, by rw [h.heap]; exact Nat.le_refl _, fun k _ => by rw [h.heap]⟩
theorem Still.cell {A A' : World} (h : Still A A') (p : Addr) : A'.cell? p = A.cell? p := World.cell?_of_block (by rw [h.heap])
theorem still_drew (w : World) : Still w w.drew := ⟨rfl, rfl, rfl, rfl⟩
/-- all cells of a slice hold ints. -/
def IntsAt (w : World) (A : Option Addr) (n : Nat) : Prop := ∀ j, j < n → ∃ (ad : Addr) (v : Int), A = some ad ∧ w.cell? (ad.add j) = some (.int .i64 v)
/-- the i-th one from behind: its place, what lies there. -/
def BackOk (A : Option Addr) (n i : Nat) (x : Nat × Int) (w : World) : Prop := x.1 + i + 1 = n ∧ ∃ ad : Addr, A = some ad ∧ w.cell? (ad.add x.1) = some (.int .i64 x.2)

set_option maxRecDepth 100000 in
theorem backward_any (A : Option Addr) (n c : Nat) (w : World) :
    Calls Try.prog 27 #[.slice A n c] w fun e w' => e = .returned (.func (.func 32) #[] #[.pointer (some ⟨w.heap.size, 0, none⟩)]) ∧ w' = w.alloc (.cells #[.slice A n c] 23) := by
  go_enter Try.func27, Try.ntmps27
  go_wp2_with fail
  go_ret
  exact ⟨rfl, rfl⟩

set_option maxRecDepth 100000 in
set_option maxHeartbeats 1600000 in
theorem backward_gives (A : Option Addr) (n c b1 : Nat) (w : World) (hn : n ≤ 4194304) (h1 : b1 < w.heap.size) (c1 : w.cell? ⟨b1, 0, none⟩ = some (.slice A n c)) (hI : IntsAt w A n) :
    Gives Try.prog 32 #[.pointer (some ⟨b1, 0, none⟩)] (fun x : Nat × Int => #[.int .i64 (x.1 : Int), .int .i64 x.2]) (BackOk A n) n Still
      (fun A1 A2 => A2.heap[b1]? = A1.heap[b1]? ∧ (IntsAt A1 A n → IntsAt A2 A n)) w := by
  intro l J Jx W hW _ hJ hJx hY h0
  have C1 := (hW.cell (p := ⟨b1, 0, none⟩) h1).trans c1
  have HI : Hid (IntsAt W A n) := Lib.hid fun j hj => by
    obtain ⟨ad, v, e, hc⟩ := hI j hj
    have hlt := cell_in hc
    exact ⟨ad, v, e, (hW.cell hlt).trans hc⟩
  have HY := Lib.hid hY
  have HJ := Lib.hid hJ
  have HJx := Lib.hid hJx
  have hz : IntKind.i64.wrap ((n : Int) - 1) = (n : Int) - 1 := IntWalk.i64_in _ (by omega)
  clear hY hJ hJx c1 hW h1 hI
  refine (callsIn_wide (n := 0)).1 ?_
  refine callsIn_of_wp Try.func32 rfl trivial ?_ rfl
  simp only [Try.ntmps32, List.size_toArray, List.length_cons, List.length_nil, Nat.reduceAdd, Nat.reduceSub, Array.replicate_succ, Array.replicate_zero, List.push_toArray, List.append_toArray, List.nil_append, List.cons_append]
  gi_wp2
  gi_loopw [3] (fun i wr => ∃ (m : Nat) (z : Int), m ≤ n ∧ z + 1 = (m : Int) ∧ i = .int .i64 z ∧ Hid (J (n - m) wr) ∧ wr.cell? ⟨b1, 0, none⟩ = some (.slice A n c) ∧ Hid (IntsAt wr A n)) (fun i _ => (intOf i + 1).toNat)
  case atStart => exact ⟨n, (n : Int) - 1, Nat.le_refl _, by omega, rfl, Lib.hid (by rw [Nat.sub_self]; exact h0), C1, HI⟩
  case round =>
    clear C1 HI
    obtain ⟨m, z, hm, hzm, rfl, hJs, C1, HIs⟩ := hrel
    rcases m with _ | q
    · obtain rfl : z = -1 := by omega
      gi_wp2
      go_end0
      exact ⟨⟨_, rfl⟩, .inl hJs.out⟩
    · obtain rfl : z = (q : Int) := by omega
      have hge : decide ((0 : Int) ≤ (q : Int)) = true := by simp
      have hqn : (q : Int) < (n : Int) := by omega
      obtain ⟨ad, v, rfl, hc⟩ := HIs.out q (by omega)
      have hw : IntKind.i64.wrap ((q : Int) - 1) = (q : Int) - 1 := IntWalk.i64_in _ (by omega)
      have hy0 := HY.out (n - (q + 1)) (q, v) wr (by omega) ⟨by show q + (n - (q + 1)) + 1 = n; omega, ad, rfl, hc⟩ hJs.out
      rw [show n - (q + 1) + 1 = n - q by omega] at hy0
      obtain ⟨fn, tmps, assign, body, hy, hR⟩ := hy0
      clear hzm hJs
      gi_wp2
      refine ⟨rfl, hR.mono ?_⟩
      rintro e W3 (⟨rfl, hJ3, hk1, hk2⟩ | ⟨rfl, hJx3, _⟩)
      · have C13 : W3.cell? ⟨b1, 0, none⟩ = some (.slice (some ad) n c) := (World.cell?_of_block (w := wr) (a := ⟨b1, 0, none⟩) hk1).trans C1
        have HJ3 := Lib.hid hJ3
        have HI3 := Lib.hid (hk2 HIs.out)
        clear hk1 hk2 hJ3 hy hR HIs
        gi_wp2
        go_roundw
        case rel => exact ⟨q, (q : Int) - 1, by omega, by omega, rfl, HJ3, C13, HI3⟩
        case measure => simp [intOf]
      · gi_wp2
        refine bodyPost_ret (results_none rfl _ _ _) rfl ?_
        exact ⟨⟨_, rfl⟩, .inr hJx3⟩
end Go.Proofs.Ytpdleigcdmgfmaa

namespace Go.Proofs.Ytpdleigcdmgfmaa
open Go.RowKit

attribute [local go_sem] Oper.semAt_some

/-- what a round must leave as it was: the slice's cell, the loop's own two blocks; and the row's cells are ints still. -/
def RoundKeeps (A : Option Addr) (n b1 z : Nat) (W W' : World) : Prop := Off (fun k => k = b1 ∨ k = z ∨ k = z + 1) W W' ∧ IntsAt W' A n
theorem back_law {g : Operand} {ps : Array Tmp} {assign body : Code} {Q : Exit → Act → World → Prop} {a : Act} {w : World} {nn z : Nat}
    (A : Option Addr) (n c b1 : Nat) (hz : w.heap.size = z) (hn : n ≤ 4194304) (h1 : b1 < z) (c1 : w.cell? ⟨b1, 0, none⟩ = some (.slice A n c)) (hI0 : IntsAt w A n)
    (hg : a.eval g = .func (.func 32) #[] #[.pointer (some ⟨b1, 0, none⟩)]) (hps : ps.size = 2)
    (I : Nat → World → Prop) (hI : ∀ i A1 A2, I i A1 → A1.grownBy A2 (some (z + 1)) → I i A2) (h0 : I 0 w) (a₁ : Nat × Int → Act)
    (hassign : ∀ (l : Nat) (x : Nat × Int) (W : World) (K : Act → World → Prop), K (a₁ x) W →
      assign.wpIn (Fence.wide.inRound l) 0 Try.prog (Exit.then K (fun _ _ _ => False)) { tmps := (ps.zip #[.int .i64 (x.1 : Int), .int .i64 x.2]).foldl (fun t (p, v) => t.setIfInBounds p v) a.tmps, defers := [] } W)
    (hbody : ∀ (l i : Nat) (x : Nat × Int) (W : World), z + 2 ≤ W.heap.size → i < n → BackOk A n i x W → I i W →
      body.wpIn (Fence.wide.inRound l) 0 Try.prog (roundOut (RoundKeeps A n b1 z) (I (i + 1)) (fun _ _ => False) W) (a₁ x) W)
    (hdone : ∀ (D : Nat) (W : World), z ≤ D → I n W → W.heap[D]? = some (.deferred (some [])) → Q .normal { a with defers := { target := .collected D, args := #[] } :: a.defers } W) :
    (Code.rangeFunc g ps assign body).wpIn Fence.wide nn Try.prog Q a w := by
  have hG := backward_gives A n c b1 w hn (by omega) c1 hI0
  have hlo : ∀ ad, A = some ad → 0 < n → ad.block < z := fun ad e hn0 => by
    obtain ⟨ad', v, e', hc⟩ := hI0 0 hn0
    rw [e] at e'
    cases e'
    have := cell_in hc
    rw [add_block] at this
    omega
  refine range_law (gf := 32) (lb := #[.pointer (some ⟨b1, 0, none⟩)]) hg (enters_of Try.func32 (by kernel_rfl) rfl) hG (fun _ => hps.symm)
    (RoundKeeps A n b1 z) I (fun _ _ => False) (fun A1 A2 h k _ _ _ => by rw [h.heap]) (fun A1 A2 h k h2 h3 h4 => h.1.block k h4 (by omega)) ?kp ?inv (fun _ _ _ h _ => h.elim) ?ok h0 a₁ hassign ?body ?done (fun _ _ _ _ h _ => h.elim)
  case kp =>
    intro A1 B1 C1 D1 hs g1 g2 g3
    rw [hz] at g1 g3 hs
    have s1 := g1.size
    have s2 := g2.1.size
    refine ⟨(g3.block b1 (by omega) (fun e => by injection e with e; omega)).trans ((g2.1.block b1 (by omega) (.inl rfl)).trans (g1.block b1 (by omega) (fun e => by injection e with e; omega))), fun _ j hj => ?_⟩
    obtain ⟨ad, v, e, hc⟩ := g2.2 j hj
    refine ⟨ad, v, e, (World.cell?_of_block (g3.block _ (cell_in hc) (fun e' => ?_))).trans hc⟩
    injection e' with e'
    have := hlo ad e (by omega)
    rw [add_block] at e'
    omega
  case inv =>
    intro i A1 A2 h g
    rcases g with g | g
    · rw [hz] at g
      exact hI i A1 A2 h g
    · exact hI i A1 A2 h ⟨g.os, g.tape, g.output, by rw [g.heap]; exact Nat.le_refl _, fun k _ _ => by rw [g.heap]⟩
  case ok =>
    rintro i x A1 A2 r ⟨e1, ad, e2, hc⟩ hr h
    refine ⟨e1, ad, e2, (World.cell?_of_block (h.block _ (cell_in hc) (fun e' => ?_))).trans hc⟩
    injection e' with e'
    have := hlo ad e2 (by omega)
    rw [add_block] at e'
    omega
  case body =>
    intro l i x W hs hi hx hIi
    rw [hz] at hs
    exact hbody l i x W hs hi hx hIi
  case done =>
    intro D W hD hIn hk
    rw [hz] at hD
    exact hdone D W hD hIn hk
theorem ints_of_own {w : World} {B n c g : Nat} {U : Nat → Int} (h : w.ownsRow B 3 1 (.slice (some ⟨g, 0, none⟩) n c) n (icells U n)) : IntsAt w (some ⟨g, 0, none⟩) n := fun j hj =>
  ⟨_, U j, rfl, by rw [Addr.add_mid, Nat.zero_add, h.cellAt j (by omega)]; exact icells_at U n j hj⟩
theorem ints_of_its {w : World} {B n : Nat} {A : Option Addr} {U : Nat → Int} (h : Its w B A n U) : IntsAt w A n := fun j hj => by
  obtain ⟨ad, e, _, hc, _⟩ := h j hj
  exact ⟨ad, U j, e, hc⟩
end Go.Proofs.Ytpdleigcdmgfmaa
