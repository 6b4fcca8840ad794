/- A range over slices.Backward whose rounds all end as they should: the law. -/
import Derived.Test.YtpcdbmkmpphhiaaSaGround
namespace Go.Proofs.Ytpcdbmkmpphhiaa
open Go.RowKit

attribute [local go_sem] Oper.semAt_some

/-- what a round must leave as it was: the slice's cell, the loop's own two blocks; and the row's cells are ints still. -/
def RoundKeeps (A : Option Addr) (n b1 z : Nat) (W W' : World) : Prop := Off (fun k => k = b1 ∨ k = z ∨ k = z + 1) W W' ∧ IntsAt W' A n
theorem back_law {g : Operand} {ps : Array Tmp} {assign body : Code} {Q : Exit → Act → World → Prop} {a : Act} {w : World} {nn z : Nat}
    (A : Option Addr) (n c b1 : Nat) (hz : w.heap.size = z) (hn : n ≤ 4194304) (h1 : b1 < z) (c1 : w.cell? ⟨b1, 0, none⟩ = some (.slice A n c)) (hI0 : IntsAt w A n)
    (hg : a.eval g = .func (.func 47) #[] #[.pointer (some ⟨b1, 0, none⟩)]) (hps : ps.size = 2)
    (I : Nat → World → Prop) (hI : ∀ i A1 A2, I i A1 → A1.grownBy A2 (some (z + 1)) → I i A2) (h0 : I 0 w) (a₁ : Nat × Int → Act)
    (hassign : ∀ (l : Nat) (x : Nat × Int) (W : World) (K : Act → World → Prop), K (a₁ x) W →
      assign.wpIn (Fence.wide.inRound l) 0 Try.prog (Exit.then K (fun _ _ _ => False)) { tmps := (ps.zip #[.int .i64 (x.1 : Int), .int .i64 x.2]).foldl (fun t (p, v) => t.setIfInBounds p v) a.tmps, defers := [] } W)
    (hbody : ∀ (l i : Nat) (x : Nat × Int) (W : World), z + 2 ≤ W.heap.size → i < n → BackOk A n i x W → I i W →
      body.wpIn (Fence.wide.inRound l) 0 Try.prog (roundOut (RoundKeeps A n b1 z) (I (i + 1)) (fun _ _ => False) W) (a₁ x) W)
    (hdone : ∀ (D : Nat) (W : World), z ≤ D → I n W → W.heap[D]? = some (.deferred (some [])) → Q .normal { a with defers := { target := .collected D, args := #[] } :: a.defers } W) :
    (Code.rangeFunc g ps assign body).wpIn Fence.wide nn Try.prog Q a w := by
  have hG := backward_gives A n c b1 w hn (by omega) c1 hI0
  have hlo : ∀ ad, A = some ad → 0 < n → ad.block < z := fun ad e hn0 => by
    obtain ⟨ad', v, e', hc⟩ := hI0 0 hn0
    rw [e] at e'
    cases e'
    have := cell_in hc
    rw [add_block] at this
    omega
  refine range_law (gf := 47) (lb := #[.pointer (some ⟨b1, 0, none⟩)]) hg (enters_of Try.func47 (by kernel_rfl) rfl) hG (fun _ => hps.symm)
    (RoundKeeps A n b1 z) I (fun _ _ => False) (fun A1 A2 h k _ _ _ => by rw [h.heap]) (fun A1 A2 h k h2 h3 h4 => h.1.block k h4 (by omega)) ?kp ?inv (fun _ _ _ h _ => h.elim) ?ok h0 a₁ hassign ?body ?done (fun _ _ _ _ h _ => h.elim)
  case kp =>
    intro A1 B1 C1 D1 hs g1 g2 g3
    rw [hz] at g1 g3 hs
    have s1 := g1.size
    have s2 := g2.1.size
    refine ⟨(g3.block b1 (by omega) (fun e => by injection e with e; omega)).trans ((g2.1.block b1 (by omega) (.inl rfl)).trans (g1.block b1 (by omega) (fun e => by injection e with e; omega))), fun _ j hj => ?_⟩
    obtain ⟨ad, v, e, hc⟩ := g2.2 j hj
    refine ⟨ad, v, e, (World.cell?_of_block (g3.block _ (cell_in hc) (fun e' => ?_))).trans hc⟩
    injection e' with e'
    have := hlo ad e (by omega)
    rw [add_block] at e'
    omega
  case inv =>
    intro i A1 A2 h g
    rcases g with g | g
    · rw [hz] at g
      exact hI i A1 A2 h g
    · exact hI i A1 A2 h ⟨g.os, g.tape, g.output, by rw [g.heap]; exact Nat.le_refl _, fun k _ _ => by rw [g.heap]⟩
  case ok =>
    rintro i x A1 A2 r ⟨e1, ad, e2, hc⟩ hr h
    refine ⟨e1, ad, e2, (World.cell?_of_block (h.block _ (cell_in hc) (fun e' => ?_))).trans hc⟩
    injection e' with e'
    have := hlo ad e2 (by omega)
    rw [add_block] at e'
    omega
  case body =>
    intro l i x W hs hi hx hIi
    rw [hz] at hs
    exact hbody l i x W hs hi hx hIi
  case done =>
    intro D W hD hIn hk
    rw [hz] at hD
    exact hdone D W hD hIn hk
theorem ints_of_own {w : World} {B n c g : Nat} {U : Nat → Int} (h : w.ownsRow B 3 1 (.slice (some ⟨g, 0, none⟩) n c) n (icells U n)) : IntsAt w (some ⟨g, 0, none⟩) n := fun j hj =>
  ⟨_, U j, rfl, by rw [Addr.add_mid, Nat.zero_add, h.cellAt j (by omega)]; exact icells_at U n j hj⟩
theorem ints_of_its {w : World} {B n : Nat} {A : Option Addr} {U : Nat → Int} (h : Its w B A n U) : IntsAt w A n := fun j hj => by
  obtain ⟨ad, e, _, hc, _⟩ := h j hj
  exact ⟨ad, U j, e, hc⟩
end Go.Proofs.Ytpcdbmkmpphhiaa
