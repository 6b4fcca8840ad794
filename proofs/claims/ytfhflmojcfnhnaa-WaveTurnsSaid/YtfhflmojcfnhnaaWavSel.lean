/- slices.Backward over lists of bits (pointers): what it hands over, told by number, read when it is come to. A range over it whose rounds all end as they should: the law. The developers' package wave: Select. -/
import Derived.Test.YtfhflmojcfnhnaaRange
import Derived.Test.YtfhflmojcfnhnaaWavWalk
import Derived.StillTailTactics
import Derived.Test.YtfhflmojcfnhnaaSaRound
import Derived.Test.YtfhflmojcfnhnaaHeld
namespace Go.Proofs.Ytfhflmojcfnhnaa
open Go.RowKit

attribute [local go_sem] Oper.semAt_some

/-- nothing has turned but the count of draws. -/
structure VStill (A A' : World) : Prop where
  heap : A'.heap = A.heap
  os : A'.os = A.os
  tape : A'.tape = A.tape
  output : A'.output = A.output
theorem VStill.below {A A' : World} (h : VStill A A') (B : Nat) : Below B A A' := ⟨h.os, h.tape, h.output, by rw [h.heap]; exact Nat.le_refl _, fun k _ => by rw [h.heap]⟩
theorem VStill.cell {A A' : World} (h : VStill A A') (p : Addr) : A'.cell? p = A.cell? p := World.cell?_of_block (by rw [h.heap])
theorem vstill_drew (w : World) : VStill w w.drew := ⟨rfl, rfl, rfl, rfl⟩
/-- all cells of a slice hold something. -/
def ValsAt (w : World) (A : Option Addr) (n : Nat) : Prop := ∀ j, j < n → ∃ (ad : Addr) (v : Value), A = some ad ∧ w.cell? (ad.add j) = some v
/-- the i-th one from behind: its place, what lies there. -/
def VBackOk (A : Option Addr) (n i : Nat) (x : Nat × Value) (w : World) : Prop := x.1 + i + 1 = n ∧ ∃ ad : Addr, A = some ad ∧ w.cell? (ad.add x.1) = some x.2

set_option maxRecDepth 100000 in
theorem vbackward_any (A : Option Addr) (n c : Nat) (w : World) :
    Calls Try.prog 35 #[.slice A n c] w fun e w' => e = .returned (.func (.func 48) #[] #[.pointer (some ⟨w.heap.size, 0, none⟩)]) ∧ w' = w.alloc (.cells #[.slice A n c] 30) := by
  go_enter Try.func35, Try.ntmps35
  go_wp2_with fail
  go_ret
  exact ⟨rfl, rfl⟩

set_option maxRecDepth 100000 in
set_option maxHeartbeats 1600000 in
theorem vbackward_gives (A : Option Addr) (n c b1 : Nat) (w : World) (hn : n ≤ 4194304) (h1 : b1 < w.heap.size) (c1 : w.cell? ⟨b1, 0, none⟩ = some (.slice A n c)) (hI : ValsAt w A n) :
    Gives Try.prog 48 #[.pointer (some ⟨b1, 0, none⟩)] (fun x : Nat × Value => #[.int .i64 (x.1 : Int), x.2]) (VBackOk A n) n VStill
      (fun A1 A2 => A2.heap[b1]? = A1.heap[b1]? ∧ (ValsAt A1 A n → ValsAt A2 A n)) w := by
  intro l J Jx W hW _ hJ hJx hY h0
  have C1 := (hW.cell (p := ⟨b1, 0, none⟩) h1).trans c1
  have HI : Hid (ValsAt W A n) := Lib.hid fun j hj => by
    obtain ⟨ad, v, e, hc⟩ := hI j hj
    have hlt := cell_in hc
    exact ⟨ad, v, e, (hW.cell hlt).trans hc⟩
  have HY := Lib.hid hY
  have HJ := Lib.hid hJ
  have HJx := Lib.hid hJx
  have hz : IntKind.i64.wrap ((n : Int) - 1) = (n : Int) - 1 := IntWalk.i64_in _ (by omega)
  clear hY hJ hJx c1 hW h1 hI
  refine (callsIn_wide (n := 0)).1 ?_
  refine callsIn_of_wp Try.func48 rfl trivial ?_ rfl
  simp only [Try.ntmps48, List.size_toArray, List.length_cons, List.length_nil, Nat.reduceAdd, Nat.reduceSub, Array.replicate_succ, Array.replicate_zero, List.push_toArray, List.append_toArray, List.nil_append, List.cons_append]
  gi_wp2
  gi_loopw [3] (fun i wr => ∃ (m : Nat) (z : Int), m ≤ n ∧ z + 1 = (m : Int) ∧ i = .int .i64 z ∧ Hid (J (n - m) wr) ∧ wr.cell? ⟨b1, 0, none⟩ = some (.slice A n c) ∧ Hid (ValsAt wr A n)) (fun i _ => (intOf i + 1).toNat)
  case atStart => exact ⟨n, (n : Int) - 1, Nat.le_refl _, by omega, rfl, Lib.hid (by rw [Nat.sub_self]; exact h0), C1, HI⟩
  case round =>
    clear C1 HI
    obtain ⟨m, z, hm, hzm, rfl, hJs, C1, HIs⟩ := hrel
    rcases m with _ | q
    · obtain rfl : z = -1 := by omega
      gi_wp2
      go_end0
      exact ⟨⟨_, rfl⟩, .inl hJs.out⟩
    · obtain rfl : z = (q : Int) := by omega
      have hge : decide ((0 : Int) ≤ (q : Int)) = true := by simp
      have hqn : (q : Int) < (n : Int) := by omega
      obtain ⟨ad, v, rfl, hc⟩ := HIs.out q (by omega)
      have hw : IntKind.i64.wrap ((q : Int) - 1) = (q : Int) - 1 := IntWalk.i64_in _ (by omega)
      have hy0 := HY.out (n - (q + 1)) (q, v) wr (by omega) ⟨by show q + (n - (q + 1)) + 1 = n; omega, ad, rfl, hc⟩ hJs.out
      rw [show n - (q + 1) + 1 = n - q by omega] at hy0
      obtain ⟨fn, tmps, assign, body, hy, hR⟩ := hy0
      clear hzm hJs
      gi_wp2
      refine ⟨rfl, hR.mono ?_⟩
      rintro e W3 (⟨rfl, hJ3, hk1, hk2⟩ | ⟨rfl, hJx3, _⟩)
      · have C13 : W3.cell? ⟨b1, 0, none⟩ = some (.slice (some ad) n c) := (World.cell?_of_block (w := wr) (a := ⟨b1, 0, none⟩) hk1).trans C1
        have HJ3 := Lib.hid hJ3
        have HI3 := Lib.hid (hk2 HIs.out)
        clear hk1 hk2 hJ3 hy hR HIs
        gi_wp2
        go_roundw
        case rel => exact ⟨q, (q : Int) - 1, by omega, by omega, rfl, HJ3, C13, HI3⟩
        case measure => simp [intOf]
      · gi_wp2
        refine bodyPost_ret (results_none rfl _ _ _) rfl ?_
        exact ⟨⟨_, rfl⟩, .inr hJx3⟩
end Go.Proofs.Ytfhflmojcfnhnaa

namespace Go.Proofs.Ytfhflmojcfnhnaa
open Go.RowKit

attribute [local go_sem] Oper.semAt_some

/-- what a round must leave as it was: the slice's cell, the loop's own two blocks; and the row's cells are ints still. -/
def VRoundKeeps (A : Option Addr) (n b1 z : Nat) (W W' : World) : Prop := Off (fun k => k = b1 ∨ k = z ∨ k = z + 1) W W' ∧ ValsAt W' A n
theorem vback_law {g : Operand} {ps : Array Tmp} {assign body : Code} {Q : Exit → Act → World → Prop} {a : Act} {w : World} {nn z : Nat}
    (A : Option Addr) (n c b1 : Nat) (hz : w.heap.size = z) (hn : n ≤ 4194304) (h1 : b1 < z) (c1 : w.cell? ⟨b1, 0, none⟩ = some (.slice A n c)) (hI0 : ValsAt w A n)
    (hg : a.eval g = .func (.func 48) #[] #[.pointer (some ⟨b1, 0, none⟩)]) (hps : ps.size = 2)
    (I : Nat → World → Prop) (hI : ∀ i A1 A2, I i A1 → A1.grownBy A2 (some (z + 1)) → I i A2) (h0 : I 0 w) (a₁ : Nat × Value → Act)
    (hassign : ∀ (l : Nat) (x : Nat × Value) (W : World) (K : Act → World → Prop), K (a₁ x) W →
      assign.wpIn (Fence.wide.inRound l) 0 Try.prog (Exit.then K (fun _ _ _ => False)) { tmps := (ps.zip #[.int .i64 (x.1 : Int), x.2]).foldl (fun t (p, v) => t.setIfInBounds p v) a.tmps, defers := [] } W)
    (hbody : ∀ (l i : Nat) (x : Nat × Value) (W : World), z + 2 ≤ W.heap.size → i < n → VBackOk A n i x W → I i W →
      body.wpIn (Fence.wide.inRound l) 0 Try.prog (roundOut (VRoundKeeps A n b1 z) (I (i + 1)) (fun _ _ => False) W) (a₁ x) W)
    (hdone : ∀ (D : Nat) (W : World), z ≤ D → I n W → W.heap[D]? = some (.deferred (some [])) → Q .normal { a with defers := { target := .collected D, args := #[] } :: a.defers } W) :
    (Code.rangeFunc g ps assign body).wpIn Fence.wide nn Try.prog Q a w := by
  have hG := vbackward_gives A n c b1 w hn (by omega) c1 hI0
  have hlo : ∀ ad, A = some ad → 0 < n → ad.block < z := fun ad e hn0 => by
    obtain ⟨ad', v, e', hc⟩ := hI0 0 hn0
    rw [e] at e'
    cases e'
    have := cell_in hc
    rw [add_block] at this
    omega
  refine range_law (gf := 48) (lb := #[.pointer (some ⟨b1, 0, none⟩)]) hg (enters_of Try.func48 (by kernel_rfl) rfl) hG (fun _ => hps.symm)
    (VRoundKeeps A n b1 z) I (fun _ _ => False) (fun A1 A2 h k _ _ _ => by rw [h.heap]) (fun A1 A2 h k h2 h3 h4 => h.1.block k h4 (by omega)) ?kp ?inv (fun _ _ _ h _ => h.elim) ?ok h0 a₁ hassign ?body ?done (fun _ _ _ _ h _ => h.elim)
  case kp =>
    intro A1 B1 C1 D1 hs g1 g2 g3
    rw [hz] at g1 g3 hs
    have s1 := g1.size
    have s2 := g2.1.size
    refine ⟨(g3.block b1 (by omega) (fun e => by injection e with e; omega)).trans ((g2.1.block b1 (by omega) (.inl rfl)).trans (g1.block b1 (by omega) (fun e => by injection e with e; omega))), fun _ j hj => ?_⟩
    obtain ⟨ad, v, e, hc⟩ := g2.2 j hj
    refine ⟨ad, v, e, (World.cell?_of_block (g3.block _ (cell_in hc) (fun e' => ?_))).trans hc⟩
    injection e' with e'
    have := hlo ad e (by omega)
    rw [add_block] at e'
    omega
  case inv =>
    intro i A1 A2 h g
    rcases g with g | g
    · rw [hz] at g
      exact hI i A1 A2 h g
    · exact hI i A1 A2 h ⟨g.os, g.tape, g.output, by rw [g.heap]; exact Nat.le_refl _, fun k _ _ => by rw [g.heap]⟩
  case ok =>
    rintro i x A1 A2 r ⟨e1, ad, e2, hc⟩ hr h
    refine ⟨e1, ad, e2, (World.cell?_of_block (h.block _ (cell_in hc) (fun e' => ?_))).trans hc⟩
    injection e' with e'
    have := hlo ad e2 (by omega)
    rw [add_block] at e'
    omega
  case body =>
    intro l i x W hs hi hx hIi
    rw [hz] at hs
    exact hbody l i x W hs hi hx hIi
  case done =>
    intro D W hD hIn hk
    rw [hz] at hD
    exact hdone D W hD hIn hk
end Go.Proofs.Ytfhflmojcfnhnaa

namespace Go.Proofs.Ytfhflmojcfnhnaa
open Go.RowKit
open Pl (cnt cnt_mono cnt_le)

attribute [local go_sem] Oper.semAt_some

/-- what lies when levels from k on are gone up: the boxes of the matrix, the number, the place. -/
structure SelIn (w : World) (lo g : Nat) (V : Nat → Int) (n Wd : Nat) (c : Int) (K k : Nat) (W : World) : Prop where
  bm : Lies W lo 24 [.pointer (some ⟨g, 0, none⟩)]
  bc : Lies W (lo + 1) 3 [.int .i64 c]
  bi : ∃ p : Nat, Lies W (lo + 2) 3 [.int .i64 (p : Int)] ∧ p < goI V n Wd c n k ∧ UpAt V n Wd k (goI V n Wd c 0 k) c K p
  below : Below lo w W
  size : lo + 4 ≤ W.heap.size
theorem SelIn.grown {w W W' : World} {lo g n Wd K k : Nat} {V : Nat → Int} {c : Int} {row : Option Nat} (h : SelIn w lo g V n Wd c K k W) (_ : w.heap.size = lo) (hg : W.grownBy W' row) (hr : ∀ k, row = some k → lo + 4 ≤ k) : SelIn w lo g V n Wd c K k W' := by
  have hne : ∀ k, k < lo + 4 → some k ≠ row := fun k hk e => by have := hr k e.symm; omega
  obtain ⟨p, h1, h2⟩ := h.bi
  have hs := h.size
  exact ⟨h.bm.grown hg (hne _ (by omega)), h.bc.grown hg (hne _ (by omega)), ⟨p, h1.grown hg (hne _ (by omega)), h2⟩, h.below.grown hg (by omega) (fun k e => by have := hr k e; omega), Nat.le_trans hs hg.size⟩

set_option maxRecDepth 100000 in
set_option maxHeartbeats 3200000 in
theorem wvSelect_in {w : World} {B g gl cl n m : Nat} {V : Nat → Int} (h : Mx w B g gl cl n V m) (c : Int) (K : Nat) (h0 : 0 ≤ c) (h1 : c < 2 ^ widthN m) (hK : K < cnt (fun j => decide (V j = c)) n) :
    Calls Try.prog 21 #[.pointer (some ⟨g, 0, none⟩), .int .i64 c, .int .i64 (K : Int)] w fun e w' => e = .returned (.int .i64 (selW V n c (K : Int))) ∧ Below w.heap.size w w' := by
  have HH := Lib.hid h
  obtain ⟨lo, hlo⟩ : ∃ lo, w.heap.size = lo := ⟨_, rfl⟩
  rw [hlo]
  have hgl := h.lo.2.2
  have hgh := h.head.lt
  rw [hlo] at hgl hgh
  obtain ⟨hw1, hw2⟩ := h.w22
  have hcp := h.cap
  have hcm : cl ≤ 9223372036854775807 := by have := hcp.2; unfold maxLen at this; omega
  have hf := h.few
  have HBn := Lib.hid h.room
  have hmix : Try.prog.follows .mixedOrders = true := by kernel_rfl
  obtain ⟨w1, hw1'⟩ : ∃ w1, w.alloc (.cells #[.pointer (some ⟨g, 0, none⟩)] 24) = w1 := ⟨_, rfl⟩
  have z1 : w1.heap.size = lo + 1 := by rw [← hw1', size_alloc, hlo]
  have l1 : Lies w1 lo 24 [.pointer (some ⟨g, 0, none⟩)] := by rw [← hw1', ← hlo]; exact lies_new w _ _
  have k1 : Below lo w w1 := by rw [← hw1', ← hlo]; exact (Below.refl _ _).alloc (Nat.le_refl _) _
  obtain ⟨w2, hw2'⟩ : ∃ w2, w1.alloc (.cells #[.int .i64 c] 3) = w2 := ⟨_, rfl⟩
  have z2 : w2.heap.size = lo + 2 := by rw [← hw2', size_alloc, z1]
  have l2 : Lies w2 (lo + 1) 3 [.int .i64 c] := by rw [← hw2', ← z1]; exact lies_new w1 _ _
  have k2 : Below lo w w2 := by rw [← hw2']; exact k1.alloc (by omega) _
  have l1' : Lies w2 lo 24 [.pointer (some ⟨g, 0, none⟩)] := by rw [← hw2']; exact l1.alloc _
  have v1 := l1'.cell 0
  have v2 := l2.cell 0
  have M2 : Mx w2 B g gl cl n V m := h.keep (by rw [hlo]; exact k2)
  have m0 := M2.c0
  have m1 := M2.c1
  have HWd := Lib.hid (wvWide_any M2 c true ⟨fun _ => ⟨h0, h1⟩, fun _ => rfl⟩)
  have HBe : ∀ q, Hid (Calls Try.prog 34 #[.pointer (some ⟨g, 0, none⟩), .int .i64 c, .int .i64 0, .int .i64 (n : Int)] (w2.drewN q) fun e w' =>
      e = .returned (.tuple #[.int .i64 ((goI V n (widthN m) c 0 (widthN m) : Nat) : Int), .int .i64 ((goI V n (widthN m) c n (widthN m) : Nat) : Int)]) ∧ ∃ j, w' = w2.drewN j) := fun q => Lib.hid (by
    have := wvBehind_any (M2.drewN q) c 0 (n : Int) h0 h1
    rw [Pl.clamp_nat (Nat.le_refl n), show Pl.clamp n 0 = 0 by unfold Pl.clamp; omega] at this
    exact this.mono fun e w' ⟨a, b⟩ => ⟨a, q, b.symm⟩)
  have hN := goI_nar (Nat.zero_le n) (Nat.le_refl n) h.room h0 h1
  have hNW := hN (widthN m) (Nat.le_refl _)
  rw [Nat.sub_self, Int.pow_zero, Int.ediv_one] at hNW
  have hcnt := hNW.cnt_all
  have hle := hNW.le
  have hrm := hNW.room
  have HTop := Lib.hid (UpAt.top hNW (Nat.zero_le n) (m := K) (by omega))
  have HN := Lib.hid hN
  have HBt := Lib.hid (fun (W : World) (hW : Below lo w W) (k : Nat) (hk : k < widthN m) => wvBit_any (h.keep (w' := W) (by rw [hlo]; exact hW)) c k hk h0 h1)
  obtain ⟨Wd, hWd⟩ : ∃ Wd, widthN m = Wd := ⟨_, rfl⟩
  have HWe := Lib.hid hWd
  rw [hWd] at m1 hw1 hw2 hcp HBe HTop HN HBt hcnt hle hrm
  have hcl := hcp.1
  obtain ⟨p, hp⟩ : ∃ p, goI V n Wd c 0 Wd = p := ⟨_, rfl⟩
  obtain ⟨q, hq⟩ : ∃ q, goI V n Wd c n Wd = q := ⟨_, rfl⟩
  rw [hp, hq] at HBe hcnt hle
  rw [hq] at hrm
  rw [hp] at HTop
  have HP := Lib.hid (And.intro hp hq)
  have hKq : K < q - p := by omega
  have g1 : decide ((K : Int) < 0) = false := decide_eq_false (by omega)
  have e0 : IntKind.i64.wrap ((q : Int) - (p : Int)) = ((q - p : Nat) : Int) := by rw [IntWalk.i64_in _ (by omega)]; omega
  obtain ⟨y, hy⟩ : ∃ y, q - p = y := ⟨_, rfl⟩
  rw [hy] at e0 hKq
  have g2 : decide ((y : Int) ≤ (K : Int)) = false := decide_eq_false (by omega)
  have g3 : decide (y ≤ K) = false := decide_eq_false (by omega)
  obtain ⟨s, hs⟩ : ∃ s, p + K = s := ⟨_, rfl⟩
  have e2 : IntKind.i64.wrap ((p : Int) + (K : Int)) = (s : Int) := by rw [IntWalk.i64_in _ (by omega)]; omega
  rw [hs] at HTop
  have hsq : s < q := by omega
  clear h hWd hcp hp hq hN hNW hcnt h1 hK hy hs hle hrm
  refine (callsIn_wide (n := 0)).1 ?_
  refine callsIn_of_wp_marks Try.func21 rfl trivial ?_ rfl
  simp only [Try.ntmps21, List.size_toArray, List.length_cons, List.length_nil, Nat.reduceAdd, Nat.reduceSub, Array.replicate_succ, Array.replicate_zero, List.push_toArray, List.append_toArray, List.nil_append, List.cons_append]
  gi_wp2
  refine ⟨trivial, rfl, (callsIn_wide.2 HWd.out).mono ?_⟩
  rintro e' W1 ⟨rfl, rfl⟩
  gi_wp2
  refine wpIn_wide.2 ?_
  go_quiet ((go_at_call 34; with_reducible exact (HBe _).out))
  obtain ⟨w3, hw3⟩ : ∃ w3, w2.drewN nq = w3 := ⟨_, rfl⟩
  have z3 : w3.heap.size = lo + 2 := by rw [← hw3]; exact z2
  have l3a : Lies w3 lo 24 [.pointer (some ⟨g, 0, none⟩)] := by rw [← hw3]; exact l1'
  have l3b : Lies w3 (lo + 1) 3 [.int .i64 c] := by rw [← hw3]; exact l2
  have k3 : Below lo w w3 := by rw [← hw3]; exact below_drewN' k2 nq
  have M3 : Mx w3 B g gl cl n V m := by rw [← hw3]; exact M2.drewN nq
  rw [hw3]
  clear hw3 M2 l1' l2 k2 k1 l1 v1 v2 m0 m1 HWd HBe z1 z2 hw1' hw2'
  obtain ⟨w4, hw4⟩ : ∃ w4, w3.alloc (.cells #[.int .i64 (s : Int)] 3) = w4 := ⟨_, rfl⟩
  have z4 : w4.heap.size = lo + 3 := by rw [← hw4, size_alloc, z3]
  have g34 : w3.grownBy w4 none := by rw [← hw4]; exact World.grownBy_alloc _ _ _
  have l4a := l3a.grown g34 (by simp)
  have l4b := l3b.grown g34 (by simp)
  have l4c : Lies w4 (lo + 2) 3 [.int .i64 (s : Int)] := by rw [← hw4, ← z3]; exact lies_new w3 _ _
  have k4 : Below lo w w4 := by rw [← hw4]; exact k3.alloc (by omega) _
  have M4 : Mx w4 B g gl cl n V m := M3.keep (by rw [← hw4]; exact (Below.refl _ _).alloc (Nat.le_refl _) _)
  have v4 := l4a.cell 0
  have m4 := M4.c1
  rw [HWe.out] at m4
  have HBk := Lib.hid (vbackward_any (some ⟨gl, 0, none⟩) Wd cl w4)
  clear M3 g34 l3a l3b k3 
  gi_wp2
  refine ⟨trivial, rfl, (callsIn_wide.2 HBk.out).mono ?_⟩
  rintro e' W1 ⟨rfl, hW1⟩
  rw [z4]
  have zW1 : W1.heap.size = lo + 4 := by rw [hW1, size_alloc, z4]
  have gW1 : w4.grownBy W1 none := by rw [hW1]; exact World.grownBy_alloc _ _ _
  have lb : Lies W1 (lo + 3) 30 [.slice (some ⟨gl, 0, none⟩) Wd cl] := by rw [hW1, ← z4]; exact lies_new _ _ _
  have R0 : SelIn w lo g V n Wd c K Wd W1 := ⟨l4a.grown gW1 (by simp), l4b.grown gW1 (by simp), ⟨s, l4c.grown gW1 (by simp), by rw [HP.out.2]; exact hsq, by rw [HP.out.1]; exact HTop.out⟩, k4.grown gW1 (by omega) (fun k e => by cases e), by omega⟩
  have hvals : ∀ W : World, Below lo w W → ValsAt W (some ⟨gl, 0, none⟩) Wd := fun W hW j hj => by
    obtain ⟨gv, gw, av, ws, hcell, _⟩ := (HH.out.keep (w' := W) (by rw [hlo]; exact hW)).row j (by rw [HWe.out]; exact hj)
    exact ⟨_, _, rfl, by rw [Addr.add_mid, Nat.zero_add]; exact hcell⟩
  have HV := Lib.hid hvals
  clear HBk gW1 l4a l4b l4c M4 k4 hvals HTop HP hsq
  gi_wp2
  rw [← hW1]
  clear hW1
  refine vback_law (some ⟨gl, 0, none⟩) Wd cl (lo + 3) zW1 (by omega) (by omega) (lb.cell 0) (HV.out _ R0.below) rfl rfl
    (fun i W => Hid (SelIn w lo g V n Wd c K (Wd - i) W)) ?inv (Lib.hid (by rw [Nat.sub_zero]; exact R0)) (fun x => { tmps := #[.pointer (some ⟨g, 0, none⟩), .int .i64 c, .int .i64 (K : Int), .pointer (some ⟨lo, 0, none⟩), .pointer (some ⟨lo + 1, 0, none⟩), undef, .int .i64 0, .int .i64 (p : Int), .int .i64 (q : Int), .pointer (some ⟨lo + 2, 0, none⟩), .int .i64 (x.1 : Int), x.2, .pointer (some ⟨g, 0, none⟩), .int .i64 c, .bool true, .bool false, .tuple #[.int .i64 (p : Int), .int .i64 (q : Int)], .pointer (some ⟨g, 0, none⟩), .int .i64 c, .pointer (some ⟨g, 0, none⟩), .pointer (some ⟨g, 0, none⟩), .pointer (some ⟨g, 0, none⟩), .int .i64 (n : Int), .tuple #[.int .i64 (p : Int), .int .i64 (q : Int)], .int .i64 (p : Int), .int .i64 (q : Int), .int .i64 (K : Int), .bool false, .bool false, .int .i64 (K : Int), .int .i64 (q : Int), .int .i64 (p : Int), .int .i64 (y : Int), .bool false, .bool false, .int .i64 (p : Int), .int .i64 (K : Int), .int .i64 (s : Int), .pointer (some ⟨g, 0, none⟩), .pointer (some ⟨g, 0, none⟩), .pointer (some ⟨g, 1, none⟩), .slice (some ⟨gl, 0, none⟩) Wd cl, .func (.func 48) #[] #[.pointer (some ⟨lo + 3, 0, none⟩)], .int .i64 (x.1 : Int), x.2, undef, undef, undef, undef, undef, undef, undef, undef], defers := [] }) ?assign ?body ?done
  case inv =>
    intro i A1 A2 hi hg
    exact Lib.hid (hi.out.grown hlo hg (fun k e => by cases e; omega))
  case assign =>
    intro l x W K hK
    gi_wp2
    exact hK
  case body =>
    rintro l i ⟨kk, pv⟩ W hs hi ⟨hx1', ad, hA, hc'⟩ hR
    obtain rfl : (⟨gl, 0, none⟩ : Addr) = ad := Option.some.inj hA
    have hx1 : kk + i + 1 = Wd := hx1'
    have hkk : kk < Wd := by omega
    have hc' : W.cell? ((⟨gl, 0, none⟩ : Addr).add kk) = some pv := hc'
    rw [show Wd - i = kk + 1 by omega] at hR
    rw [show Wd - (i + 1) = kk by omega]
    have M := HH.out.keep (w' := W) (by rw [hlo]; exact hR.out.below)
    obtain ⟨gv, gw, av, ws, hcell, hvc⟩ := M.row kk (by rw [HWe.out]; exact hkk)
    obtain rfl : .pointer (some ⟨gv, 0, none⟩) = pv := by
      rw [Addr.add_mid, Nat.zero_add, hcell] at hc'
      exact Option.some.inj hc'
    rw [HWe.out] at hvc
    obtain ⟨p0, l2, hp2, hu⟩ := hR.out.bi
    obtain ⟨d, hd⟩ : ∃ d, bitZ c (Wd - 1 - kk) = d := ⟨_, rfl⟩
    have hd2 : d = 0 ∨ d = 1 := by rw [← hd]; exact bitZ_or _ _
    have hgo1 : goI V n Wd c 0 (kk + 1) = dnB (levBit V n Wd kk) n d (goI V n Wd c 0 kk) := by rw [← hd]; rfl
    have hgo2 : goI V n Wd c n (kk + 1) = dnB (levBit V n Wd kk) n d (goI V n Wd c n kk) := by rw [← hd]; rfl
    have hp0n : p0 < n := hu.room
    rw [hgo1] at hu
    rw [hgo2] at hp2
    obtain ⟨j, hj1, hj2, hj3, hj4⟩ := up_level (HN.out kk (by omega)) hd hu hp2
    have HUp : Hid (Calls Try.prog 36 #[.pointer (some ⟨gv, 0, none⟩), .int .i64 (p0 : Int), .int .i64 d] W.drew fun e w' => e = .returned (.int .i64 (j : Int)) ∧ Below W.drew.heap.size W.drew w') := Lib.hid (by
      rcases hd2 with rfl | rfl
      · exact up0_any (hvc.drewN 1) p0 j (hj3 rfl)
      · exact up1_any (hvc.drewN 1) p0 j (Nat.le_of_lt hp0n) (hj4 rfl))
    have hB := HBt.out W.drew (below_drewN' hR.out.below 1) kk hkk
    rw [hd] at hB
    have HB := hB.mono fun e w' ⟨h1, h2⟩ => (⟨h1, h2.symm⟩ : e = Ending.returned (.int .i64 d) ∧ w' = W.drew)
    have HB := Lib.hid HB
    have c0 : W.drew.cell? ⟨lo, 0, none⟩ = some (.pointer (some ⟨g, 0, none⟩)) := hR.out.bm.cell 0
    have c1 : W.drew.cell? ⟨lo + 1, 0, none⟩ = some (.int .i64 c) := hR.out.bc.cell 0
    have c2 : W.drew.cell? ⟨lo + 2, 0, none⟩ = some (.int .i64 (p0 : Int)) := l2.cell 0
    have HL2 := Lib.hid l2
    have HJ : Hid (j < goI V n Wd c n kk ∧ UpAt V n Wd kk (goI V n Wd c 0 kk) c K j) := Lib.hid ⟨hj1, hj2⟩
    have hsz := hR.out.size
    clear hvc hcell hc' hu hp2 hgo1 hgo2 hj1 hj2 hj3 hj4 hd hd2 hB M l2 hA hx1'
    gi_wp2
    refine still_in_round 6 hmix (by kernel_rfl) (by kernel_rfl) (fun ⟨_, _, hh⟩ => hh) fun ops hops => ?_
    clear hops
    simp only [List.take_succ_cons, List.take_zero, List.drop_succ_cons, List.drop_zero]
    iterate 5
      refine wpStill_step (fun K hK => ?_)
      have HK := Lib.hid hK
      clear hK
      go_simp
      refine HK.out _ ?_
      clear HK K
    still_call HB.out
    refine wpStill_nil ?_
    go_wp2_with (go_at_call 36; (with_reducible refine HUp.out.mono ?_); rintro e w3 ⟨rfl, hb3⟩; have hl3 := HL2.out.drew.below hb3 (HL2.out.drew.lt); have hc3 := hl3.cell 0; have hf3 := hl3.free 0)
    have hbW : Below lo w (w3.setCell ⟨lo + 2, 0, none⟩ (.int .i64 (j : Int))) := ((below_drewN' hR.out.below 1).trans (hb3.mono (by show lo ≤ W.heap.size; omega))).setCell (p := ⟨lo + 2, 0, none⟩) (by show lo ≤ lo + 2; omega) _
    exact ⟨⟨((⟨rfl, rfl, rfl, Nat.le_refl _, fun _ _ _ => rfl⟩ : Off _ W W.drew).trans (Off.call hb3)).trans (Off.setCell (by show ¬ (lo + 2 = lo + 3 ∨ lo + 2 = lo + 4 ∨ lo + 2 = lo + 4 + 1); omega) _), HV.out _ hbW⟩, Lib.hid
      ⟨(hR.out.bm.drew.below hb3 hR.out.bm.drew.lt).far (p := ⟨lo + 2, 0, none⟩) (by show lo ≠ lo + 2; omega) _, (hR.out.bc.drew.below hb3 hR.out.bc.drew.lt).far (p := ⟨lo + 2, 0, none⟩) (by show lo + 1 ≠ lo + 2; omega) _, ⟨j, hl3.put 0 (.int .i64 (j : Int)), HJ.out⟩, hbW, Nat.le_trans hsz (Nat.le_trans hb3.size (Below.setCell (B := 0) (Below.refl 0 w3) (Nat.zero_le _) _).size)⟩⟩
  case done =>
    intro D W hD hR hk1
    rw [Nat.sub_self] at hR
    have hDl := (Array.getElem?_eq_some_iff.1 hk1).1
    obtain ⟨p0, l2, _, hu⟩ := hR.out.bi
    have HE := Lib.hid hu.done
    have c2 := l2.cell 0
    have hMM : Marks (lo + 4) W.heap.size ({ target := .collected D, args := #[] } :: []) W := ⟨D, rfl, by omega, hDl, hk1, trivial⟩
    have HB4 := Lib.hid hR.out.below
    have hsz := hR.out.size
    clear hR l2 hu
    gi_wp2
    exact hMM.out (by omega) fun w' hw' => ⟨.int .i64 (p0 : Int), by simp [results, Try.results21, go_sem], by rw [HE.out], HB4.out.trans (hw'.mono (by omega))⟩

set_option maxRecDepth 100000 in
theorem wvSelect_out {w : World} {B g gl cl n m : Nat} {V : Nat → Int} (h : Mx w B g gl cl n V m) (c k : Int) (h0 : 0 ≤ c) (h1 : c < 2 ^ widthN m) (hk : k < 0 ∨ ((cnt (fun j => decide (V j = c)) n : Nat) : Int) ≤ k) :
    Calls Try.prog 21 #[.pointer (some ⟨g, 0, none⟩), .int .i64 c, .int .i64 k] w fun e w' => e = .returned (.int .i64 (-1)) ∧ Below w.heap.size w w' := by
  obtain ⟨lo, hlo⟩ : ∃ lo, w.heap.size = lo := ⟨_, rfl⟩
  rw [hlo]
  have hf := h.few
  obtain ⟨w1, hw1'⟩ : ∃ w1, w.alloc (.cells #[.pointer (some ⟨g, 0, none⟩)] 24) = w1 := ⟨_, rfl⟩
  have z1 : w1.heap.size = lo + 1 := by rw [← hw1', size_alloc, hlo]
  have l1 : Lies w1 lo 24 [.pointer (some ⟨g, 0, none⟩)] := by rw [← hw1', ← hlo]; exact lies_new w _ _
  have k1 : Below lo w w1 := by rw [← hw1', ← hlo]; exact (Below.refl _ _).alloc (Nat.le_refl _) _
  obtain ⟨w2, hw2'⟩ : ∃ w2, w1.alloc (.cells #[.int .i64 c] 3) = w2 := ⟨_, rfl⟩
  have l2 : Lies w2 (lo + 1) 3 [.int .i64 c] := by rw [← hw2', ← z1]; exact lies_new w1 _ _
  have k2 : Below lo w w2 := by rw [← hw2']; exact k1.alloc (by omega) _
  have l1' : Lies w2 lo 24 [.pointer (some ⟨g, 0, none⟩)] := by rw [← hw2']; exact l1.alloc _
  have v1 := l1'.cell 0
  have v2 := l2.cell 0
  have M2 : Mx w2 B g gl cl n V m := h.keep (by rw [hlo]; exact k2)
  have m0 := M2.c0
  have HWd := Lib.hid (wvWide_any M2 c true ⟨fun _ => ⟨h0, h1⟩, fun _ => rfl⟩)
  have HBe : ∀ q, Hid (Calls Try.prog 34 #[.pointer (some ⟨g, 0, none⟩), .int .i64 c, .int .i64 0, .int .i64 (n : Int)] (w2.drewN q) fun e w' =>
      e = .returned (.tuple #[.int .i64 ((goI V n (widthN m) c 0 (widthN m) : Nat) : Int), .int .i64 ((goI V n (widthN m) c n (widthN m) : Nat) : Int)]) ∧ ∃ j, w' = w2.drewN j) := fun q => Lib.hid (by
    have := wvBehind_any (M2.drewN q) c 0 (n : Int) h0 h1
    rw [Pl.clamp_nat (Nat.le_refl n), show Pl.clamp n 0 = 0 by unfold Pl.clamp; omega] at this
    exact this.mono fun e w' ⟨a, b⟩ => ⟨a, q, b.symm⟩)
  have hNW := goI_nar (Nat.zero_le n) (Nat.le_refl n) h.room h0 h1 (widthN m) (Nat.le_refl _)
  rw [Nat.sub_self, Int.pow_zero, Int.ediv_one] at hNW
  have hcnt := hNW.cnt_all
  have hle := hNW.le
  have hrm := hNW.room
  generalize goI V n (widthN m) c 0 (widthN m) = p at HBe hcnt hle
  generalize goI V n (widthN m) c n (widthN m) = q at HBe hcnt hle hrm
  have e0 : IntKind.i64.wrap ((q : Int) - (p : Int)) = ((q - p : Nat) : Int) := by rw [IntWalk.i64_in _ (by omega)]; omega
  rw [← hcnt] at hk
  generalize q - p = y at e0 hk
  clear h hNW hcnt h1 hle hrm M2 l1 l2 l1' k1
  by_cases hk0 : k < 0
  · have g1 : decide (k < 0) = true := decide_eq_true hk0
    go_enter Try.func21, Try.ntmps21
    go_wp2_with (go_at_call 33; (with_reducible refine HWd.out.mono ?_); rintro e w' ⟨rfl, rfl⟩)
    go_quiet ((go_at_call 34; with_reducible exact (HBe _).out))
    go_wp2_with fail
    go_ret
    exact ⟨rfl, below_drewN' k2 _⟩
  · have g1 : decide (k < 0) = false := decide_eq_false hk0
    have hz : (y : Int) ≤ k := by omega
    have g2 : decide ((y : Int) ≤ k) = true := decide_eq_true hz
    clear hk
    go_enter Try.func21, Try.ntmps21
    go_wp2_with (go_at_call 33; (with_reducible refine HWd.out.mono ?_); rintro e w' ⟨rfl, rfl⟩)
    go_quiet ((go_at_call 34; with_reducible exact (HBe _).out))
    go_wp2_with fail
    go_ret
    exact ⟨rfl, below_drewN' k2 _⟩
set_option maxRecDepth 100000 in
theorem wvSelect_far (pa : Option Addr) (c k : Int) (w : World) (hd : ∀ W, Below w.heap.size w W → Calls Try.prog 33 #[.pointer pa, .int .i64 c] W fun e w' => e = .returned (.bool false) ∧ W = w') :
    Calls Try.prog 21 #[.pointer pa, .int .i64 c, .int .i64 k] w fun e w' => e = .returned (.int .i64 (-1)) ∧ Below w.heap.size w w' := by
  obtain ⟨lo, hlo⟩ : ∃ lo, w.heap.size = lo := ⟨_, rfl⟩
  rw [hlo] at hd ⊢
  obtain ⟨w1, hw1'⟩ : ∃ w1, w.alloc (.cells #[.pointer pa] 24) = w1 := ⟨_, rfl⟩
  have z1 : w1.heap.size = lo + 1 := by rw [← hw1', size_alloc, hlo]
  have l1 : Lies w1 lo 24 [.pointer pa] := by rw [← hw1', ← hlo]; exact lies_new w _ _
  have k1 : Below lo w w1 := by rw [← hw1', ← hlo]; exact (Below.refl _ _).alloc (Nat.le_refl _) _
  obtain ⟨w2, hw2'⟩ : ∃ w2, w1.alloc (.cells #[.int .i64 c] 3) = w2 := ⟨_, rfl⟩
  have l2 : Lies w2 (lo + 1) 3 [.int .i64 c] := by rw [← hw2', ← z1]; exact lies_new w1 _ _
  have k2 : Below lo w w2 := by rw [← hw2']; exact k1.alloc (by omega) _
  have l1' : Lies w2 lo 24 [.pointer pa] := by rw [← hw2']; exact l1.alloc _
  have v1 := l1'.cell 0
  have v2 := l2.cell 0
  have HWd := Lib.hid (hd w2 k2)
  clear hd l1 l2 l1' k1
  go_enter Try.func21, Try.ntmps21
  go_wp2_with (go_at_call 33; (with_reducible refine HWd.out.mono ?_); rintro e w' ⟨rfl, rfl⟩)
  go_ret
  exact ⟨rfl, k2⟩
theorem wvSelect_any {w : World} {B g gl cl n m : Nat} {V : Nat → Int} (h : Mx w B g gl cl n V m) (c k : Int) :
    Calls Try.prog 21 #[.pointer (some ⟨g, 0, none⟩), .int .i64 c, .int .i64 k] w fun e w' => e = .returned (.int .i64 (selW V n c k)) ∧ Below w.heap.size w w' := by
  by_cases hwd : 0 ≤ c ∧ c < 2 ^ widthN m
  · by_cases hk : k < 0 ∨ ((cnt (fun j => decide (V j = c)) n : Nat) : Int) ≤ k
    · rw [selW_out hk]
      exact wvSelect_out h c k hwd.1 hwd.2 hk
    · obtain ⟨K, rfl⟩ : ∃ K : Nat, k = (K : Int) := ⟨k.toNat, by omega⟩
      exact wvSelect_in h c K hwd.1 hwd.2 (by omega)
  · rw [selW_far fun j hj e => hwd (by rw [← e]; exact h.room j hj)]
    exact wvSelect_far _ c k w fun W hW => wvWide_any (h.keep hW) c false ⟨fun e => (by cases e), fun e => absurd e hwd⟩
theorem wvSelect_nil (c k : Int) (w : World) : Calls Try.prog 21 #[.pointer none, .int .i64 c, .int .i64 k] w fun e w' => e = .returned (.int .i64 (-1)) ∧ Below w.heap.size w w' :=
  wvSelect_far _ c k w fun W _ => wvWide_nil c W
end Go.Proofs.Ytfhflmojcfnhnaa
