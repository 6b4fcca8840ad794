/- A range over a function, where what the iterator may turn and what a round must keep are the prover's to choose, and its elements are told by number: the law; marks of several such loops, one behind the other, taken off at a function's end. -/
import Derived.Test.YthbnojhcmfhnhaaLaw
import Derived.RangeFuncNested
import Derived.RangeFuncBound
import Derived.RangeFuncCalls
import Derived.RangeFuncLeaves
import Derived.Shelf.Abstract
import Derived.Shelf.RegionOpen
import Derived.OwnWalkIn
import Derived.TacticsInMore
import Derived.LoopNIn
import Derived.LoopIn
namespace Go.Proofs.Ythbnojhcmfhnhaa
open Go.RowKit

theorem wide_room (k : Nat) : Fence.wide.room k := fun d h => by cases h
theorem round_any {m m' : Nat} {P : Program} {l : Nat} {f : FuncId} {tmps : Array Value} {assign body : Code} {w : World} {R : Ending → World → Prop} (h : RoundIn Fence.wide m P l f tmps assign body w R) : RoundIn Fence.wide m' P l f tmps assign body w R :=
  ⟨h.1, fun c cs _ => h.2 c cs (wide_room _)⟩

/-- nothing has turned below lo, nor from hi on. -/
structure Gap (lo hi : Nat) (W W' : World) : Prop where
  os : W'.os = W.os
  tape : W'.tape = W.tape
  output : W'.output = W.output
  size : W.heap.size ≤ W'.heap.size
  block : ∀ k, k < W.heap.size → (k < lo ∨ hi ≤ k) → W'.heap[k]? = W.heap[k]?
theorem Gap.refl (lo hi : Nat) (W : World) : Gap lo hi W W := ⟨rfl, rfl, rfl, Nat.le_refl _, fun _ _ _ => rfl⟩
theorem Gap.trans {lo hi : Nat} {A B C : World} (h : Gap lo hi A B) (k : Gap lo hi B C) : Gap lo hi A C :=
  ⟨k.os.trans h.os, k.tape.trans h.tape, k.output.trans h.output, Nat.le_trans h.size k.size, fun i hi hb => (k.block i (Nat.lt_of_lt_of_le hi h.size) hb).trans (h.block i hi hb)⟩
/-- a call that turns nothing that lay. -/
theorem Gap.call {lo hi : Nat} {A B : World} (h : Below A.heap.size A B) : Gap lo hi A B := ⟨h.os, h.tape, h.output, h.size, fun k hk _ => h.block k hk⟩
theorem Gap.grown {lo hi : Nat} {A B : World} {row : Option Nat} (h : A.grownBy B row) (hr : ∀ k, row = some k → lo ≤ k ∧ k < hi) : Gap lo hi A B :=
  ⟨h.os, h.tape, h.output, h.size, fun k hk hb => h.block k hk fun e => by have := hr k e.symm; omega⟩
theorem Gap.setCell {lo hi : Nat} {A : World} {p : Addr} (h1 : lo ≤ p.block) (h2 : p.block < hi) (u : Value) : Gap lo hi A (A.setCell p u) :=
  ⟨rfl, rfl, rfl, by simp [World.setCell], fun k _ hb => Below.heap_setCell _ _ _ _ (by omega)⟩
theorem Gap.wider {lo hi lo' hi' : Nat} {A B : World} (h : Gap lo hi A B) (h1 : lo' ≤ lo) (h2 : hi ≤ hi') : Gap lo' hi' A B :=
  ⟨h.os, h.tape, h.output, h.size, fun k hk hb => h.block k hk (by omega)⟩
theorem Gap.below {lo hi : Nat} {A B : World} (h : Gap lo hi A B) (hs : lo ≤ A.heap.size) : Below lo A B := ⟨h.os, h.tape, h.output, h.size, fun k hk => h.block k (by omega) (.inl hk)⟩
theorem below_row {B : Nat} {A A' : World} {row : Option Nat} (h : A.grownBy A' row) (hB : B ≤ A.heap.size) (hr : ∀ k, row = some k → B ≤ k) : Below B A A' := (Below.refl B A).grown h hB hr

/-- the blocks of which p speaks have not turned. -/
structure Off (p : Nat → Prop) (W W' : World) : Prop where
  os : W'.os = W.os
  tape : W'.tape = W.tape
  output : W'.output = W.output
  size : W.heap.size ≤ W'.heap.size
  block : ∀ k, k < W.heap.size → p k → W'.heap[k]? = W.heap[k]?
theorem Off.refl (p : Nat → Prop) (W : World) : Off p W W := ⟨rfl, rfl, rfl, Nat.le_refl _, fun _ _ _ => rfl⟩
theorem Off.trans {p : Nat → Prop} {A B C : World} (h : Off p A B) (k : Off p B C) : Off p A C :=
  ⟨k.os.trans h.os, k.tape.trans h.tape, k.output.trans h.output, Nat.le_trans h.size k.size, fun i hi hb => (k.block i (Nat.lt_of_lt_of_le hi h.size) hb).trans (h.block i hi hb)⟩
theorem Off.call {p : Nat → Prop} {A B : World} (h : Below A.heap.size A B) : Off p A B := ⟨h.os, h.tape, h.output, h.size, fun k hk _ => h.block k hk⟩
theorem Off.grown {p : Nat → Prop} {A B : World} {row : Option Nat} (h : A.grownBy B row) (hr : ∀ k, row = some k → ¬ p k) : Off p A B :=
  ⟨h.os, h.tape, h.output, h.size, fun k hk hp => h.block k hk fun e => hr k e.symm hp⟩
theorem Off.setCell {p : Nat → Prop} {A : World} {q : Addr} (h : ¬ p q.block) (u : Value) : Off p A (A.setCell q u) :=
  ⟨rfl, rfl, rfl, by simp [World.setCell], fun k _ hp => Below.heap_setCell _ _ _ _ (fun e => h (by rw [← e]; exact hp))⟩
theorem Off.less {p q : Nat → Prop} {A B : World} (h : Off p A B) (hq : ∀ k, q k → p k) : Off q A B := ⟨h.os, h.tape, h.output, h.size, fun k hk hp => h.block k hk (hq k hp)⟩
theorem Off.below {p : Nat → Prop} {A B : World} {n : Nat} (h : Off p A B) (hs : n ≤ A.heap.size) (hp : ∀ k, k < n → p k) : Below n A B := ⟨h.os, h.tape, h.output, h.size, fun k hk => h.block k (by omega) (hp k hk)⟩
theorem Off.cell {p : Nat → Prop} {A B : World} (h : Off p A B) {q : Addr} {v : Value} (hc : A.cell? q = some v) (hp : p q.block) : B.cell? q = some v :=
  (World.cell?_of_block (h.block q.block (cell_in hc) hp)).trans hc
theorem Off.free {p : Nat → Prop} {A B : World} (h : Off p A B) {q : Addr} {v : Value} (hc : A.cell? q = some v) (hf : A.frozen? q = false) (hp : p q.block) : B.frozen? q = false :=
  (World.frozen?_of_block (h.block q.block (cell_in hc) hp)).trans hf

/-- an iterator that hands over N elements, the i-th one such that Ok i: what it turns between two rounds is within St, what it wants kept in a round is Kp. w: the world in which the loop begins (two blocks are laid ahead of the call). -/
def Gives {α : Type} (P : Program) (g : Nat) (lb : Array Value) (encs : α → Array Value) (Ok : Nat → α → World → Prop) (N : Nat) (St Kp : World → World → Prop) (w : World) : Prop :=
  ∀ (l : Nat) (J : Nat → World → Prop) (Jx : World → Prop) (W : World), Below w.heap.size w W → W.heap.size = w.heap.size + 2 →
    (∀ i A A', J i A → St A A' → J i A') → (∀ A A', Jx A → St A A' → Jx A') →
    (∀ i x W1, i < N → Ok i x W1 → J i W1 → YieldAt Fence.wide 0 P l (encs x) W1 fun e W' => (e = .returned (.bool true) ∧ J (i + 1) W' ∧ Kp W1 W') ∨ (e = .returned (.bool false) ∧ Jx W' ∧ Kp W1 W')) →
    J 0 W → Calls P g (#[.func (.yield l) #[] #[]] ++ lb) W fun e W' => (∃ v, e = .returned v) ∧ (J N W' ∨ Jx W')

/-- how the body of a round may be left. -/
def roundOut (R : World → World → Prop) (I : World → Prop) (Ix : Code → World → Prop) (W : World) : Exit → Act → World → Prop
  | .normal, _, W' => R W W' ∧ I W'
  | .ret, _, W' => R W W' ∧ Ix .ret W'
  | .exit id, _, W' => R W W' ∧ Ix (.exit id) W'
  | .goto t, _, W' => R W W' ∧ Ix (.goto t) W'
  | .panic _, _, _ => False
  | .outgrown, _, _ => False

theorem range_law {α : Type} {P : Program} {g : Operand} {ps : Array Tmp} {assign body : Code} {Q : Exit → Act → World → Prop} {a : Act} {w : World} {n : Nat}
    {gf : Nat} {lb : Array Value} (hg : a.eval g = .func (.func gf) #[] lb) (eg : ∀ args w, (callFunc gf args).run P w = .ok (.enter gf args) w)
    {encs : α → Array Value} {Ok : Nat → α → World → Prop} {N : Nat} {St Kp : World → World → Prop} (hseq : Gives P gf lb encs Ok N St Kp w) (hps : ∀ x, (encs x).size = ps.size)
    (R : World → World → Prop) (I : Nat → World → Prop) (Ix : Code → World → Prop)
    (hSt : ∀ A A', St A A' → ∀ k, w.heap.size ≤ k → k < w.heap.size + 2 → k < A.heap.size → A'.heap[k]? = A.heap[k]?)
    (hR : ∀ A A', R A A' → ∀ k, w.heap.size ≤ k → k < w.heap.size + 2 → k < A.heap.size → A'.heap[k]? = A.heap[k]?)
    (hKp : ∀ A B C D, w.heap.size + 2 ≤ A.heap.size → A.grownBy B (some (w.heap.size + 1)) → R B C → C.grownBy D (some (w.heap.size + 1)) → Kp A D)
    (hI : ∀ i A A', I i A → A.grownBy A' (some (w.heap.size + 1)) ∨ St A A' → I i A') (hIx : ∀ c A A', Ix c A → A.grownBy A' (some (w.heap.size + 1)) ∨ St A A' → Ix c A')
    (hOk : ∀ i x A A' (r : Loop), Ok i x A → A.heap[w.heap.size + 1]? = some (.loop r) → A.grownBy A' (some (w.heap.size + 1)) → Ok i x A')
    (h0 : I 0 w) (a₁ : α → Act)
    (hassign : ∀ (l : Nat) (x : α) (W : World) (K : Act → World → Prop), K (a₁ x) W →
      assign.wpIn (Fence.wide.inRound l) 0 P (Exit.then K (fun _ _ _ => False)) { tmps := (ps.zip (encs x)).foldl (fun t (p, v) => t.setIfInBounds p v) a.tmps, defers := [] } W)
    (hbody : ∀ (l i : Nat) (x : α) (W : World), w.heap.size + 2 ≤ W.heap.size → i < N → Ok i x W → I i W → body.wpIn (Fence.wide.inRound l) 0 P (roundOut R (I (i + 1)) Ix W) (a₁ x) W)
    (hdone : ∀ (D : Nat) (W : World), w.heap.size ≤ D → I N W → W.heap[D]? = some (.deferred (some [])) → Q .normal { a with defers := { target := .collected D, args := #[] } :: a.defers } W)
    (hstop : ∀ (D : Nat) (c : Code) (W : World), w.heap.size ≤ D → Ix c W → W.heap[D]? = some (.deferred (some [])) → c.wpIn Fence.wide n P Q { a with defers := { target := .collected D, args := #[] } :: a.defers } W) :
    (Code.rangeFunc g ps assign body).wpIn Fence.wide n P Q a w := by
  refine wpIn_rangeFunc fun fn hfn => ?_
  obtain ⟨rec, hrec⟩ : ∃ rec : LoopState → Option Code → Loop, rec = fun st pe => { state := st, pending := pe, fn, tmps := a.tmps, params := ps, assign, body, defers := w.heap.size } := ⟨_, rfl⟩
  obtain ⟨s, hs⟩ : ∃ s, w.heap.size = s := ⟨_, rfl⟩
  obtain ⟨W1, hW1⟩ : ∃ W1, (w.alloc (.deferred (some []))).alloc (.loop (rec .ready none)) = W1 := ⟨_, rfl⟩
  have hz1 : W1.heap.size = s + 2 := by rw [← hW1, ← hs]; simp
  have hL1 : W1.heap[s + 1]? = some (.loop (rec .ready none)) := by
    rw [← hW1, ← hs]
    have := World.alloc_heap_new (w.alloc (.deferred (some []))) (.loop (rec .ready none))
    rwa [World.size_alloc] at this
  have hK1 : W1.heap[s]? = some (.deferred (some [])) := by
    rw [← hW1, ← hs]
    exact (Below.heap_alloc _ _ _ (by simp)).trans (World.alloc_heap_new w _)
  have hb1 : Below s w W1 := by
    rw [← hW1, ← hs]
    exact ((Below.refl _ w).alloc (Nat.le_refl _) _).alloc (by simp) _
  have hI1 : I 0 W1 := by
    rw [← hW1]
    exact hI _ _ _ (hI _ _ _ h0 (.inl (World.grownBy_alloc _ _ _))) (.inl (World.grownBy_alloc _ _ _))
  have hgb : ∀ (W : World) (r : Loop), W.grownBy (W.putObj (s + 1) (.loop r)) (some (w.heap.size + 1)) := fun W r => by rw [hs]; exact grownBy_putObj' W (s + 1) _
  refine ⟨s + 1, [{ target := .collected s, args := #[] }], W1, { target := .fn (.func gf) lb, args := #[.func (.yield (s + 1)) #[] #[]] }, W1, gf, #[.func (.yield (s + 1)) #[] #[]] ++ lb, W1, ?_, ?_, fun _ _ => trivial, ?_, (fun h => by cases h), ?_⟩
  · rw [← hW1, hrec, ← hs]
    exact run_enterLoop_outer _ _ _ _ _
  · simp only [resolve, hg]
    simp [go_sem]
  · simp [invoke, go_sem, eg]
  · rw [callsIn_wide]
    refine (hseq (s + 1) (fun i W => I i W ∧ W.heap[s + 1]? = some (.loop (rec .ready none)) ∧ W.heap[s]? = some (.deferred (some [])))
      (fun W => ∃ c, Ix c W ∧ W.heap[s + 1]? = some (.loop (rec .done (some c))) ∧ W.heap[s]? = some (.deferred (some []))) W1 (by rw [hs]; exact hb1) (by rw [hs]; exact hz1)
      (fun i A A' h hst => ⟨hI _ _ _ h.1 (.inr hst), (hSt _ _ hst _ (by omega) (by omega) (Array.getElem?_eq_some_iff.1 h.2.1).1).trans h.2.1, (hSt _ _ hst _ (by omega) (by omega) (Array.getElem?_eq_some_iff.1 h.2.2).1).trans h.2.2⟩)
      (fun A A' h hst => by
        obtain ⟨c, hc, hl, hk⟩ := h
        exact ⟨c, hIx _ _ _ hc (.inr hst), (hSt _ _ hst _ (by omega) (by omega) (Array.getElem?_eq_some_iff.1 hl).1).trans hl, (hSt _ _ hst _ (by omega) (by omega) (Array.getElem?_eq_some_iff.1 hk).1).trans hk⟩)
      ?_ ⟨hI1, hL1, hK1⟩).mono ?_
    · rintro i x W hiN hox ⟨hi, hl, hk⟩
      have hlt := (Array.getElem?_eq_some_iff.1 hl).1
      have hy := run_yield (P := P) (args := encs x) hl (by rw [hrec]; exact hps x)
      rw [hrec] at hy
      refine ⟨fn, _, assign, body, hy, roundIn_of_wpIn hfn (hassign _ x W _ ⟨_, run_beginRound hl (by rw [hrec]), ?_⟩)⟩
      obtain ⟨W2, hW2⟩ : ∃ W2, W.putObj (s + 1) (.loop { rec .ready none with state := .busy }) = W2 := ⟨_, rfl⟩
      have hg2 := hgb W { rec .ready none with state := .busy }
      have hl2 : W2.heap[s + 1]? = some (.loop { rec .ready none with state := .busy }) := by rw [← hW2]; exact World.putObj_heap_same hlt
      have hk2 : W2.heap[s]? = some (.deferred (some [])) := by rw [← hW2]; exact (World.putObj_heap_other (by omega)).trans hk
      have hz2 : w.heap.size + 2 ≤ W2.heap.size := by rw [← hW2]; simp; omega
      rw [hW2] at hg2 ⊢
      refine wpIn_mono (hbody _ i x W2 hz2 hiN (hOk _ _ _ _ _ hox (by rw [hs]; exact hl) hg2) (hI _ _ _ hi (.inl hg2))) ?_
      have fin : ∀ (jump : Option Code) (W3 : World), R W2 W3 →
          (Instr.endRound (s + 1) jump).run P W3 = .ok (.bool jump.isNone) (W3.putObj (s + 1) (.loop (rec (if jump.isNone then .ready else .done) jump))) ∧
          (W3.putObj (s + 1) (.loop (rec (if jump.isNone then .ready else .done) jump))).heap[s + 1]? = some (.loop (rec (if jump.isNone then .ready else .done) jump)) ∧
          (W3.putObj (s + 1) (.loop (rec (if jump.isNone then .ready else .done) jump))).heap[s]? = some (.deferred (some [])) := fun jump W3 h3 => by
        have hl3 := (hR _ _ h3 (s + 1) (by omega) (by omega) (Array.getElem?_eq_some_iff.1 hl2).1).trans hl2
        have hk3 := (hR _ _ h3 s (by omega) (by omega) (Array.getElem?_eq_some_iff.1 hk2).1).trans hk2
        have := run_endRound (P := P) jump hl3
        rw [hrec] at this ⊢
        exact ⟨this, World.putObj_heap_same (Array.getElem?_eq_some_iff.1 hl3).1, (World.putObj_heap_other (by omega)).trans hk3⟩
      rintro e a3 W3 hp
      cases e with
      | normal =>
        obtain ⟨h3, hi3⟩ := hp
        obtain ⟨hr, hl4, hk4⟩ := fin none W3 h3
        exact ⟨_, _, hr, .inl ⟨rfl, ⟨hI _ _ _ hi3 (.inl (hgb _ _)), hl4, hk4⟩, hKp _ _ _ _ (by omega) hg2 h3 (hgb _ _)⟩⟩
      | ret =>
        obtain ⟨h3, hi3⟩ := hp
        obtain ⟨hr, hl4, hk4⟩ := fin (some .ret) W3 h3
        exact ⟨_, _, hr, .inr ⟨rfl, ⟨.ret, hIx _ _ _ hi3 (.inl (hgb _ _)), hl4, hk4⟩, hKp _ _ _ _ (by omega) hg2 h3 (hgb _ _)⟩⟩
      | exit id =>
        obtain ⟨h3, hi3⟩ := hp
        obtain ⟨hr, hl4, hk4⟩ := fin (some (.exit id)) W3 h3
        exact ⟨_, _, hr, .inr ⟨rfl, ⟨.exit id, hIx _ _ _ hi3 (.inl (hgb _ _)), hl4, hk4⟩, hKp _ _ _ _ (by omega) hg2 h3 (hgb _ _)⟩⟩
      | goto t =>
        obtain ⟨h3, hi3⟩ := hp
        obtain ⟨hr, hl4, hk4⟩ := fin (some (.goto t)) W3 h3
        exact ⟨_, _, hr, .inr ⟨rfl, ⟨.goto t, hIx _ _ _ hi3 (.inl (hgb _ _)), hl4, hk4⟩, hKp _ _ _ _ (by omega) hg2 h3 (hgb _ _)⟩⟩
      | panic ch => exact hp.elim
      | outgrown => exact hp.elim
    · rintro e W2 ⟨⟨v, rfl⟩, (⟨hi, hl, hk⟩ | ⟨c, hi, hl, hk⟩)⟩
      · have h := run_endLoop (P := P) hl (by rw [hrec]; simp)
        rw [hrec] at h
        exact ⟨none, _, h, hdone _ _ (by omega) (hI _ _ _ hi (.inl (hgb _ _))) ((World.putObj_heap_other (by omega)).trans hk)⟩
      · have h := run_endLoop (P := P) hl (by rw [hrec]; simp)
        rw [hrec] at h
        exact ⟨some c, _, h, hstop _ c _ (by omega) (hIx _ _ _ hi (.inl (hgb _ _))) ((World.putObj_heap_other (by omega)).trans hk)⟩

/-- marks of loops that are over, the last one first, all in blocks from B on. -/
def Marks (B : Nat) : Nat → List Deferred → World → Prop
  | _, [], _ => True
  | T, d :: ds, w => ∃ D, d = { target := .collected D, args := #[] } ∧ B ≤ D ∧ D < T ∧ w.heap[D]? = some (.deferred (some [])) ∧ Marks B D ds w
theorem Marks.keep {B : Nat} {w w' : World} : ∀ {ds : List Deferred} {T : Nat}, Marks B T ds w → (∀ D, B ≤ D → D < T → w.heap[D]? = some (.deferred (some [])) → w'.heap[D]? = some (.deferred (some []))) → Marks B T ds w'
  | [], _, _, _ => trivial
  | _ :: _, _, ⟨D, h1, h2, h3, h4, h5⟩, h => ⟨D, h1, h2, h3, h D h2 h3 h4, h5.keep fun E a b => h E a (by omega)⟩
theorem Marks.higher {B : Nat} {w : World} : ∀ {ds : List Deferred} {T T' : Nat}, Marks B T ds w → T ≤ T' → Marks B T' ds w
  | [], _, _, _, _ => trivial
  | _ :: _, _, _, ⟨D, h1, h2, h3, h4, h5⟩, h => ⟨D, h1, h2, by omega, h4, h5⟩
/-- at a function's end. -/
theorem Marks.out {B : Nat} {n : Nat} {P : Program} {fn : Func} {tmps : Array Value} {R : Ending → World → Prop} : ∀ {ds : List Deferred} {T : Nat} {w : World}, Marks B T ds w → B ≤ w.heap.size →
    (∀ w', Below B w w' → LeavesIn Fence.wide n P fn tmps R [] .returning w') → LeavesInM Fence.wide n P fn tmps R ds .returning w
  | [], _, w, _, _, h => h w (Below.refl _ _)
  | _ :: _, _, w, ⟨D, h1, h2, h3, h4, h5⟩, hB, h => by
    subst h1
    have hb := below_row (grownBy_putObj' w D (.deferred none)) hB (fun k e => by cases e; exact h2)
    refine ⟨by simp, .inl ⟨_, _, rfl, run_takeDeferred h4, ?_⟩⟩
    exact (h5.keep fun E _ hE hk => (World.putObj_heap_other (by omega)).trans hk).out (by simp; exact hB) fun w' hw' => h w' (hb.trans hw')
end Go.Proofs.Ythbnojhcmfhnhaa
