/- The developers' Range: from the pattern's end on, over slices.Backward, with two ways out ahead of its end. The developers' suffix.laid: the memory that its closures write; the two closures. The library's own contracts of slices.Sort, slices.BinarySearch, slices.Equal, slices.Clone at ints and of bits.Mul, laid at this program; a copy of ints into a row of the call's own; slices.Repeat. slices.Values, slices.AppendSeq, slices.Collect over ints: a copy. slices.Sorted of slices.Values; the developers' suffix.ranked. The developers' Places: place by place, put in order; or by going over all suffixes; and of a nil finder. The document's functions of layer 11: Make, Ends, Is, Back. What layer 11's laws ask of package bwt, as one word (BwtI); the laws' opening. math/bits.Len: how many bits a number has. -/
import Derived.Test.YtbkdloebbbmkaaaGreatB07
import Derived.Test.YtbkdloebbbmkaaaGreatB09
import Derived.StillTailTactics
import Derived.Shelf.Sort.Plain
import Derived.Shelf.Slices.In.SortNone
import Derived.Shelf.Bits.Mul64
import Derived.Shelf.Slices.Equal
import Derived.Shelf.Slices.Empties2
import Derived.Shelf.Slices.Clone
import Derived.Shelf.Slices.SearchI
import Derived.Laws.CopyOwn
import Derived.Maps.AppendAt
import Derived.Maps.OwnIn
import Derived.Lib.SortBridge
import Derived.Test.YtbkdloebbbmkaaaGreatB04
import Derived.Test.YtbkdloebbbmkaaaGreatB02
import Derived.Test.YtbkdloebbbmkaaaGreatB03
import Derived.Test.YtbkdloebbbmkaaaGreatB06
import Derived.Test.YtbkdloebbbmkaaaGreatB01
namespace Go.Proofs.YtbkdloebbbmkaaaGreat
open Go.RowKit

attribute [local go_sem] Oper.semAt_some

/-- as back_law, where a round may leave the function. -/
theorem back_lawX {g : Operand} {ps : Array Tmp} {assign body : Code} {Q : Exit → Act → World → Prop} {a : Act} {w : World} {nn z : Nat}
    (A : Option Addr) (n c b1 : Nat) (hz : w.heap.size = z) (hn : n ≤ 9223372036854775807) (h1 : b1 < z) (c1 : w.cell? ⟨b1, 0, none⟩ = some (.slice A n c)) (hI0 : IntsAt w A n)
    (hg : a.eval g = .func (.func 52) #[] #[.pointer (some ⟨b1, 0, none⟩)]) (hps : ps.size = 2)
    (I : Nat → World → Prop) (Ix : Code → World → Prop) (hI : ∀ i A1 A2, I i A1 → A1.grownBy A2 (some (z + 1)) → I i A2) (hIx : ∀ c A1 A2, Ix c A1 → A1.grownBy A2 (some (z + 1)) → Ix c A2) (h0 : I 0 w) (a₁ : Nat × Int → Act)
    (hassign : ∀ (l : Nat) (x : Nat × Int) (W : World) (K : Act → World → Prop), K (a₁ x) W →
      assign.wpIn (Fence.wide.inRound l) 0 Tryz.prog (Exit.then K (fun _ _ _ => False)) { tmps := (ps.zip #[.int .i64 (x.1 : Int), .int .i64 x.2]).foldl (fun t (p, v) => t.setIfInBounds p v) a.tmps, defers := [] } W)
    (hbody : ∀ (l i : Nat) (x : Nat × Int) (W : World), z + 2 ≤ W.heap.size → i < n → BackOk A n i x W → I i W →
      body.wpIn (Fence.wide.inRound l) 0 Tryz.prog (roundOut (RoundKeeps A n b1 z) (I (i + 1)) Ix W) (a₁ x) W)
    (hdone : ∀ (D : Nat) (W : World), z ≤ D → I n W → W.heap[D]? = some (.deferred (some [])) → Q .normal { a with defers := { target := .collected D, args := #[] } :: a.defers } W)
    (hstop : ∀ (D : Nat) (c : Code) (W : World), z ≤ D → Ix c W → W.heap[D]? = some (.deferred (some [])) → c.wpIn Fence.wide nn Tryz.prog Q { a with defers := { target := .collected D, args := #[] } :: a.defers } W) :
    (Code.rangeFunc g ps assign body).wpIn Fence.wide nn Tryz.prog Q a w := by
  have hG := backward_gives A n c b1 w hn (by omega) c1 hI0
  have hlo : ∀ ad, A = some ad → 0 < n → ad.block < z := fun ad e hn0 => by
    obtain ⟨ad', v, e', hc⟩ := hI0 0 hn0
    rw [e] at e'
    cases e'
    have := cell_in hc
    rw [add_block] at this
    omega
  have hSt : ∀ A1 A2 : World, (A1.grownBy A2 (some (w.heap.size + 1)) ∨ Still A1 A2) → A1.grownBy A2 (some (z + 1)) := fun A1 A2 g => by
    rcases g with g | g
    · rw [hz] at g
      exact g
    · exact ⟨g.os, g.tape, g.output, by rw [g.heap]; exact Nat.le_refl _, fun k _ _ => by rw [g.heap]⟩
  refine range_law (gf := 52) (lb := #[.pointer (some ⟨b1, 0, none⟩)]) hg (enters_of Tryz.func52 (by kernel_rfl) rfl) hG (fun _ => hps.symm)
    (RoundKeeps A n b1 z) I Ix (fun A1 A2 h k _ _ _ => by rw [h.heap]) (fun A1 A2 h k h2 h3 h4 => h.1.block k h4 (by omega)) ?kp (fun i A1 A2 h g => hI i A1 A2 h (hSt A1 A2 g)) (fun c A1 A2 h g => hIx c A1 A2 h (hSt A1 A2 g)) ?ok h0 a₁ hassign ?body ?done ?stop
  case kp =>
    intro A1 B1 C1 D1 hs g1 g2 g3
    rw [hz] at g1 g3 hs
    have s1 := g1.size
    have s2 := g2.1.size
    refine ⟨(g3.block b1 (by omega) (fun e => by injection e with e; omega)).trans ((g2.1.block b1 (by omega) (.inl rfl)).trans (g1.block b1 (by omega) (fun e => by injection e with e; omega))), fun _ j hj => ?_⟩
    obtain ⟨ad, v, e, hc⟩ := g2.2 j hj
    refine ⟨ad, v, e, (World.cell?_of_block (g3.block _ (cell_in hc) (fun e' => ?_))).trans hc⟩
    injection e' with e'
    have := hlo ad e (by omega)
    rw [add_block] at e'
    omega
  case ok =>
    rintro i x A1 A2 r ⟨e1, ad, e2, hc⟩ hr h
    refine ⟨e1, ad, e2, (World.cell?_of_block (h.block _ (cell_in hc) (fun e' => ?_))).trans hc⟩
    injection e' with e'
    have := hlo ad e2 (by omega)
    rw [add_block] at e'
    omega
  case body =>
    intro l i x W hs hi hx hIi
    rw [hz] at hs
    exact hbody l i x W hs hi hx hIi
  case done =>
    intro D W hD hIn hk
    rw [hz] at hD
    exact hdone D W hD hIn hk
  case stop =>
    intro D c W hD hIn hk
    rw [hz] at hD
    exact hstop D c W hD hIn hk

/-- the last i of a pattern's m numbers. -/
def lastP (P : Nat → Int) (m i : Nat) : Nat → Int := fun t => P (m - i + t)
theorem lastP_all (P : Nat → Int) (m : Nat) : lastP P m m = P := funext fun t => by unfold lastP; rw [Nat.sub_self, Nat.zero_add]
theorem lastP_cons {P : Nat → Int} {m i : Nat} (hi : i < m) : lastP P m (i + 1) = consF (P (m - (i + 1))) (lastP P m i) := funext fun t => by
  cases t with
  | zero => rfl
  | succ t =>
    show P _ = P _
    congr 1
    omega
theorem lastP_stands {T P : Nat → Int} {n m i a : Nat} (hi : i ≤ m) (h : StN T n P m a) : StN T n (lastP P m i) i (a + (m - i)) := ⟨by have := h.1; omega, fun t ht => by
  have := h.2 (m - i + t) (by omega)
  rw [show a + (m - i) + t = a + (m - i + t) by omega]
  exact this⟩
/-- where the last ones stand nowhere, the whole doesn't. -/
theorem lastP_none {T P : Nat → Int} {n m i : Nat} {s : Nat → Nat} (hs : IsSA T n s) (hi : i ≤ m) (hi0 : 0 < i) (h : rngF (fun j => stB T n (lastP P m i) i (s j)) n = (0, 0)) : rngF (fun j => stB T n P m (s j)) n = (0, 0) := by
  refine rngF_nil fun j hj => ?_
  rw [Bool.eq_false_iff]
  intro g
  have g1 := lastP_stands hi (stB_iff.1 g)
  obtain ⟨q, hq, e⟩ := hs.onto (show s j + (m - i) < n by have := g1.1; omega)
  have g2 := (rngF_in (P := lastP P m i) (m := i) hs hq).1 (by rw [e]; exact stB_iff.2 g1)
  rw [h] at g2
  omega
/-- Range's boxes, with the range from x on, ahead of y. -/
structure RgIn (w : World) (lo g : Nat) (A : Option Addr) (m c x y : Nat) (W : World) : Prop where
  bf : Lies W lo 25 [.pointer (some ⟨g, 0, none⟩)]
  bp : Lies W (lo + 1) 22 [.slice A m c]
  r0 : Lies W (lo + 2) 3 [.int .i64 0]
  r1 : Lies W (lo + 3) 3 [.int .i64 0]
  xa : Lies W (lo + 4) 3 [.int .i64 (x : Int)]
  xb : Lies W (lo + 5) 3 [.int .i64 (y : Int)]
  below : Below lo w W
  size : lo + 6 ≤ W.heap.size
theorem RgIn.grown {w W W' : World} {lo g m c x y : Nat} {A : Option Addr} {row : Option Nat} (h : RgIn w lo g A m c x y W) (hw : w.heap.size = lo) (hg : W.grownBy W' row) (hr : ∀ k, row = some k → lo + 6 ≤ k) : RgIn w lo g A m c x y W' := by
  have hne : ∀ k, k < lo + 6 → some k ≠ row := fun k hk e => by have := hr k e.symm; omega
  exact ⟨h.bf.grown hg (hne _ (by omega)), h.bp.grown hg (hne _ (by omega)), h.r0.grown hg (hne _ (by omega)), h.r1.grown hg (hne _ (by omega)), h.xa.grown hg (hne _ (by omega)), h.xb.grown hg (hne _ (by omega)),
    h.below.grown hg (by have := h.below.size; omega) (fun k e => by have := hr k e; omega), Nat.le_trans h.size hg.size⟩
theorem RgIn.put {w W : World} {lo g m c x y : Nat} {A : Option Addr} (h : RgIn w lo g A m c x y W) (x' y' : Nat) : RgIn w lo g A m c x' y' ((W.setCell ⟨lo + 4, 0, none⟩ (.int .i64 (x' : Int))).setCell ⟨lo + 5, 0, none⟩ (.int .i64 (y' : Int))) := by
  have hf : ∀ {q : Nat} {t : TypeId} {cs : List Value}, Lies W q t cs → q ≠ lo + 4 → q ≠ lo + 5 → Lies ((W.setCell ⟨lo + 4, 0, none⟩ (.int .i64 (x' : Int))).setCell ⟨lo + 5, 0, none⟩ (.int .i64 (y' : Int))) q t cs := fun hl h1 h2 => (hl.far (p := ⟨lo + 4, 0, none⟩) h1 _).far (p := ⟨lo + 5, 0, none⟩) h2 _
  refine ⟨hf h.bf (by omega) (by omega), hf h.bp (by omega) (by omega), hf h.r0 (by omega) (by omega), hf h.r1 (by omega) (by omega), ?_, ?_, (h.below.setCell (p := ⟨lo + 4, 0, none⟩) (by show lo ≤ lo + 4; omega) _).setCell (p := ⟨lo + 5, 0, none⟩) (by show lo ≤ lo + 5; omega) _, by simp [World.setCell]; exact h.size⟩
  · exact (h.xa.put 0 _).far (p := ⟨lo + 5, 0, none⟩) (by show lo + 4 ≠ lo + 5; omega) _
  · exact (h.xb.far (p := ⟨lo + 4, 0, none⟩) (by show lo + 5 ≠ lo + 4; omega) _).put 0 _

theorem RgIn.drewN {w W : World} {lo g m c x y : Nat} {A : Option Addr} (h : RgIn w lo g A m c x y W) (j : Nat) : RgIn w lo g A m c x y (W.drewN j) := ⟨h.bf, h.bp, h.r0, h.r1, h.xa, h.xb, below_drewN' h.below j, h.size⟩
theorem RgIn.zeros {w W : World} {lo g m c x y : Nat} {A : Option Addr} (h : RgIn w lo g A m c x y W) : RgIn w lo g A m c x y ((W.setCell ⟨lo + 2, 0, none⟩ (.int .i64 0)).setCell ⟨lo + 3, 0, none⟩ (.int .i64 0)) ∧ Off (fun k => k = lo + 6 ∨ k = lo + 7 ∨ k = lo + 7 + 1) W ((W.setCell ⟨lo + 2, 0, none⟩ (.int .i64 0)).setCell ⟨lo + 3, 0, none⟩ (.int .i64 0)) := by
  have hf : ∀ {q : Nat} {t : TypeId} {cs : List Value}, Lies W q t cs → q ≠ lo + 2 → q ≠ lo + 3 → Lies ((W.setCell ⟨lo + 2, 0, none⟩ (.int .i64 0)).setCell ⟨lo + 3, 0, none⟩ (.int .i64 0)) q t cs := fun hl h1 h2 => (hl.far (p := ⟨lo + 2, 0, none⟩) h1 _).far (p := ⟨lo + 3, 0, none⟩) h2 _
  refine ⟨⟨hf h.bf (by omega) (by omega), hf h.bp (by omega) (by omega), ?_, ?_, hf h.xa (by omega) (by omega), hf h.xb (by omega) (by omega), (h.below.setCell (p := ⟨lo + 2, 0, none⟩) (by show lo ≤ lo + 2; omega) _).setCell (p := ⟨lo + 3, 0, none⟩) (by show lo ≤ lo + 3; omega) _, by simp [World.setCell]; exact h.size⟩, ?_⟩
  · exact (h.r0.put 0 _).far (p := ⟨lo + 3, 0, none⟩) (by show lo + 2 ≠ lo + 3; omega) _
  · exact (h.r1.far (p := ⟨lo + 2, 0, none⟩) (by show lo + 3 ≠ lo + 2; omega) _).put 0 _
  · exact (Off.setCell (q := ⟨lo + 2, 0, none⟩) (by show ¬ (lo + 2 = lo + 6 ∨ lo + 2 = lo + 7 ∨ lo + 2 = lo + 7 + 1); omega) _).trans (Off.setCell (q := ⟨lo + 3, 0, none⟩) (by show ¬ (lo + 3 = lo + 6 ∨ lo + 3 = lo + 7 ∨ lo + 3 = lo + 7 + 1); omega) _)
theorem off_drewN (p : Nat → Prop) (W : World) (j : Nat) : Off p W (W.drewN j) := ⟨rfl, rfl, rfl, Nat.le_refl _, fun _ _ _ => rfl⟩
theorem narF_is {w : World} {B g n al k x y i : Nat} {T P : Nat → Int} {s : Nat → Nat} {a : FdA} {c : Int} (h : Fd w B g n T s al k a) (hc : c ≠ T (n - 1) ∨ i = 0) (hab : rngF (fun j => stB T n P i (s j)) n = (x, y)) :
    narF T n s al (x : Int) (y : Int) c = ((((rngF (fun j => stB T n (consF c P) (i + 1) (s j)) n).1 : Nat) : Int), (((rngF (fun j => stB T n (consF c P) (i + 1) (s j)) n).2 : Nat) : Int)) := by
  have hle := rngF_le (fun j => stB T n P i (s j)) n
  rw [hab] at hle
  have hle : x ≤ y ∧ y ≤ n := hle
  rw [nar_range h.once h.sa hc hab]
  unfold narF
  rw [Int.toNat_natCast, Int.toNat_natCast]
  by_cases e : trnC T n s c x = trnC T n s c y
  · rw [if_neg (fun g => g.2 e), if_neg (fun g => g e)]
    rfl
  · have hb : 0 ≤ c ∧ c < (al : Int) := by
      have hne : trnC T n s c y ≠ 0 ∨ trnC T n s c x ≠ 0 := by omega
      rcases hne with g1 | g1
      · obtain ⟨i, hi, e⟩ := trnC_some (by omega) g1
        rw [← e]
        exact ⟨(h.turned hi).1, (h.turned hi).2.2⟩
      · obtain ⟨i, hi, e⟩ := trnC_some (by omega) g1
        rw [← e]
        exact ⟨(h.turned hi).1, (h.turned hi).2.2⟩
    rw [if_pos ⟨⟨by omega, by omega, by omega, hb⟩, e⟩, if_pos e]
theorem its_roundF {w W : World} {lo n : Nat} {A : Option Addr} {V : Nat → Int} (h : Its w lo A n V) (hb : Below lo w W) : IntsAt W A n := fun j hj => by
  obtain ⟨ad, e, hl, hc, _⟩ := h j hj
  exact ⟨ad, V j, e, (hb.cell (by rw [add_block]; exact hl)).trans hc⟩

set_option maxRecDepth 100000 in
set_option maxHeartbeats 3200000 in
theorem fdRange_any {B g n al k : Nat} {T : Nat → Int} {s : Nat → Nat} {a : FdA} {w : World} (h : Fd w B g n T s al k a) (A : Option Addr) (m c : Nat) (P : Nat → Int) (ho : ItsR w A m c P) :
    Calls Tryz.prog 18 #[.pointer (some ⟨g, 0, none⟩), .slice A m c] w fun e w' => e = .returned (.tuple #[.int .i64 (((rngF (fun i => stB T n P m (s i)) n).1 : Nat) : Int), .int .i64 (((rngF (fun i => stB T n P m (s i)) n).2 : Nat) : Int)]) ∧ Below w.heap.size w w' := by
  have HO := Lib.hid ho.2.2.2
  have H := Lib.hid h
  have hm : m ≤ 9223372036854775807 := by
    have h1 := ho.2.1
    have h2 := ho.2.2.1
    unfold maxLen at h2
    omega
  have hn := h.few
  have hn0 := h.once.1
  obtain ⟨lo, hlo⟩ : ∃ lo, w.heap.size = lo := ⟨_, rfl⟩
  rw [hlo] at HO ⊢
  obtain ⟨w1, hw1⟩ : ∃ w1, w.alloc (.cells #[.pointer (some ⟨g, 0, none⟩)] 25) = w1 := ⟨_, rfl⟩
  have z1 : w1.heap.size = lo + 1 := by rw [← hw1, size_alloc, hlo]
  have l1 : Lies w1 lo 25 [.pointer (some ⟨g, 0, none⟩)] := by rw [← hw1, ← hlo]; exact lies_new w _ _
  have k1 : Below lo w w1 := by rw [← hw1, ← hlo]; exact (Below.refl _ _).alloc (Nat.le_refl _) _
  obtain ⟨w2, hw2⟩ : ∃ w2, w1.alloc (.cells #[.slice A m c] 22) = w2 := ⟨_, rfl⟩
  have z2 : w2.heap.size = lo + 2 := by rw [← hw2, size_alloc, z1]
  have l2 : Lies w2 (lo + 1) 22 [.slice A m c] := by rw [← hw2, ← z1]; exact lies_new w1 _ _
  have k2 : Below (lo + 1) w1 w2 := by rw [← hw2, ← z1]; exact (Below.refl _ _).alloc (Nat.le_refl _) _
  obtain ⟨w3, hw3⟩ : ∃ w3, w2.alloc (.cells #[.int .i64 0] 3) = w3 := ⟨_, rfl⟩
  have z3 : w3.heap.size = lo + 3 := by rw [← hw3, size_alloc, z2]
  have l3 : Lies w3 (lo + 2) 3 [.int .i64 0] := by rw [← hw3, ← z2]; exact lies_new w2 _ _
  have k3 : Below (lo + 2) w2 w3 := by rw [← hw3, ← z2]; exact (Below.refl _ _).alloc (Nat.le_refl _) _
  obtain ⟨w4, hw4⟩ : ∃ w4, w3.alloc (.cells #[.int .i64 0] 3) = w4 := ⟨_, rfl⟩
  have z4 : w4.heap.size = lo + 4 := by rw [← hw4, size_alloc, z3]
  have l4 : Lies w4 (lo + 3) 3 [.int .i64 0] := by rw [← hw4, ← z3]; exact lies_new w3 _ _
  have k4 : Below (lo + 3) w3 w4 := by rw [← hw4, ← z3]; exact (Below.refl _ _).alloc (Nat.le_refl _) _
  have K4 : Below lo w w4 := ((k1.trans (k2.mono (by omega))).trans (k3.mono (by omega))).trans (k4.mono (by omega))
  have f4 : Lies w4 lo 25 [.pointer (some ⟨g, 0, none⟩)] := ((l1.below k2 (by omega)).below k3 (by omega)).below k4 (by omega)
  have v4 := f4.cell 0
  have HLn := Lib.hid (fdLen_any (h.keep (by rw [hlo]; exact K4)))
  obtain ⟨w5, hw5⟩ : ∃ w5, w4.alloc (.cells #[.int .i64 0] 3) = w5 := ⟨_, rfl⟩
  have z5 : w5.heap.size = lo + 5 := by rw [← hw5, size_alloc, z4]
  have l5 : Lies w5 (lo + 4) 3 [.int .i64 0] := by rw [← hw5, ← z4]; exact lies_new w4 _ _
  have k5 : Below (lo + 4) w4 w5 := by rw [← hw5, ← z4]; exact (Below.refl _ _).alloc (Nat.le_refl _) _
  obtain ⟨w6, hw6⟩ : ∃ w6, w5.alloc (.cells #[.int .i64 0] 3) = w6 := ⟨_, rfl⟩
  have z6 : w6.heap.size = lo + 6 := by rw [← hw6, size_alloc, z5]
  have l6 : Lies w6 (lo + 5) 3 [.int .i64 0] := by rw [← hw6, ← z5]; exact lies_new w5 _ _
  have k6 : Below (lo + 5) w5 w6 := by rw [← hw6, ← z5]; exact (Below.refl _ _).alloc (Nat.le_refl _) _
  have K46 : Below (lo + 4) w4 w6 := k5.trans (k6.mono (by omega))
  have R6 : RgIn w lo g A m c 0 0 w6 := ⟨f4.below K46 (by omega), (((l2.below k3 (by omega)).below k4 (by omega)).below K46 (by omega)), ((l3.below k4 (by omega)).below K46 (by omega)), l4.below K46 (by omega), l5.below k6 (by omega), l6, K4.trans (K46.mono (by omega)), by omega⟩
  have R8 := R6.put 0 n
  have c64 : w6.cell? ⟨lo + 4, 0, none⟩ = some (.int .i64 0) := R6.xa.cell 0
  have c64f := R6.xa.free 0
  have c65 : w6.cell? ⟨lo + 5, 0, none⟩ = some (.int .i64 0) := R6.xb.cell 0
  have c65f := R6.xb.free 0
  have z8 : ((w6.setCell ⟨lo + 4, 0, none⟩ (.int .i64 ((0 : Nat) : Int))).setCell ⟨lo + 5, 0, none⟩ (.int .i64 (n : Int))).heap.size = lo + 6 := by simp [World.setCell]; exact z6
  rw [show ((0 : Nat) : Int) = 0 from rfl] at R8 z8
  have c75 : (w6.setCell ⟨lo + 4, 0, none⟩ (.int .i64 0)).cell? ⟨lo + 5, 0, none⟩ = some (.int .i64 0) := (R6.xb.far (p := ⟨lo + 4, 0, none⟩) (by show lo + 5 ≠ lo + 4; omega) _).cell 0
  have c75f : (w6.setCell ⟨lo + 4, 0, none⟩ (.int .i64 0)).frozen? ⟨lo + 5, 0, none⟩ = false := (R6.xb.far (p := ⟨lo + 4, 0, none⟩) (by show lo + 5 ≠ lo + 4; omega) _).free 0
  obtain ⟨w7, hw7⟩ : ∃ w7, w6.setCell ⟨lo + 4, 0, none⟩ (.int .i64 0) = w7 := ⟨_, rfl⟩
  rw [hw7] at R8 z8 c75 c75f
  obtain ⟨w8, hw8⟩ : ∃ w8, w7.setCell ⟨lo + 5, 0, none⟩ (.int .i64 (n : Int)) = w8 := ⟨_, rfl⟩
  rw [hw8] at R8 z8
  have v8 := R8.bp.cell 0
  have HBk := Lib.hid (backward_any A m c w8)
  have HR8 := Lib.hid R8
  clear l1 l2 l3 l4 l5 l6 k1 k2 k3 k4 k5 k6 K4 K46 f4 R6 R8 h ho
  refine (callsIn_wide (n := 0)).1 ?_
  refine callsIn_of_wp_marks Tryz.func18 rfl trivial ?_ rfl
  simp only [Tryz.ntmps18, List.size_toArray, List.length_cons, List.length_nil, Nat.reduceAdd, Nat.reduceSub, Array.replicate_succ, Array.replicate_zero, List.push_toArray, List.append_toArray, List.nil_append, List.cons_append]
  gi_wp2
  refine ⟨trivial, rfl, (callsIn_wide.2 HLn.out).mono ?_⟩
  rintro e' W1 ⟨rfl, rfl⟩
  gi_wp2
  refine ⟨trivial, rfl, (callsIn_wide.2 HBk.out).mono ?_⟩
  rintro e' W1 ⟨rfl, hW1⟩
  rw [z8]
  have zW1 : W1.heap.size = lo + 7 := by rw [hW1, size_alloc, z8]
  have gW1 : w8.grownBy W1 none := by rw [hW1]; exact World.grownBy_alloc _ _ _
  have lb : Lies W1 (lo + 6) 22 [.slice A m c] := by rw [hW1, ← z8]; exact lies_new _ _ _
  have R0 := HR8.out.grown hlo gW1 (fun k e => by cases e)
  clear HBk HLn gW1 HR8
  gi_wp2
  rw [← hW1]
  clear hW1
  refine back_lawX A m c (lo + 6) zW1 hm (by omega) (lb.cell 0) (its_roundF HO.out R0.below) rfl rfl
    (fun i W => Hid (∃ x y, RgIn w lo g A m c x y W ∧ x < y ∧ rngF (fun j => stB T n (lastP P m i) i (s j)) n = (x, y)))
    (fun c' W => c' = .ret ∧ Hid (rngF (fun j => stB T n P m (s j)) n = (0, 0)) ∧ Hid (∃ x y, RgIn w lo g A m c x y W)) ?inv ?ix
    (Lib.hid ⟨0, n, R0, hn0, rngF_all fun j hj => stB_iff.2 ⟨by have := H.out.sa.1 j hj; omega, fun t ht => absurd ht (Nat.not_lt_zero t)⟩⟩)
    (fun x => { tmps := #[.pointer (some ⟨g, 0, none⟩), .slice A m c, .pointer (some ⟨lo, 0, none⟩), .pointer (some ⟨lo + 1, 0, none⟩), .pointer (some ⟨lo + 2, 0, none⟩), .pointer (some ⟨lo + 3, 0, none⟩), .pointer (some ⟨lo + 4, 0, none⟩), .pointer (some ⟨lo + 5, 0, none⟩), .int .i64 (x.1 : Int), .int .i64 x.2, .pointer (some ⟨g, 0, none⟩), .bool false, .pointer (some ⟨g, 0, none⟩), .int .i64 (n : Int), .slice A m c, .func (.func 52) #[] #[.pointer (some ⟨lo + 6, 0, none⟩)], .int .i64 (x.1 : Int), .int .i64 x.2, undef, undef, undef, undef, undef, undef, undef, undef, undef, undef, undef, undef, undef, undef, undef, undef, undef, undef, undef, undef, undef, undef, undef, undef, undef, undef], defers := [] }) ?assign ?body ?done ?stop
  case inv =>
    intro i A1 A2 hi hg
    obtain ⟨x, y, h1, h2⟩ := hi.out
    exact Lib.hid ⟨x, y, h1.grown hlo hg (fun k e => by cases e; omega), h2⟩
  case ix =>
    rintro c' A1 A2 ⟨h1, h2, h3⟩ hg
    obtain ⟨x, y, h4⟩ := h3.out
    exact ⟨h1, h2, Lib.hid ⟨x, y, h4.grown hlo hg (fun k e => by cases e; omega)⟩⟩
  case assign =>
    intro l x W K hK
    gi_wp2
    exact hK
  case body =>
    rintro l i ⟨km, vx⟩ W hs hi ⟨hx1', ad, hA, hc'⟩ hR
    obtain rfl : A = some ad := hA
    have hx1 : km + i + 1 = m := hx1'
    have hc : W.cell? (ad.add km) = some (.int .i64 vx) := hc'
    clear hx1' hc'
    obtain ⟨x, y, hG, hxy, hrng⟩ := hR.out
    obtain ⟨ad', e', _, hc', hv1, hv2⟩ := (HO.out.below hG.below) km (by omega)
    have hvx : vx = P km := by
      cases e'
      rw [hc'] at hc
      injection hc with hc
      injection hc with _ hc
      exact hc.symm
    have hPt : lastP P m (i + 1) = consF vx (lastP P m i) := by
      rw [lastP_cons (by omega), hvx, show m - (i + 1) = km by omega]
    have hFd := H.out.keep (w' := W) (by rw [hlo]; exact hG.below)
    obtain ⟨lst, hlst⟩ : ∃ lst, T (n - 1) = lst := ⟨_, rfl⟩
    have d0 := hFd.c0
    rw [hlst] at d0
    have HKeep : Hid (∀ W' x' y', RgIn w lo g (some ad) m c x' y' W' → IntsAt W' (some ad) m) := Lib.hid fun W' x' y' h => its_roundF HO.out h.below
    have b0 := hG.bf.cell 0
    have b1 := hG.bp.cell 0
    have e2 : IntKind.i64.wrap ((km : Int) + 1) = ((km + 1 : Nat) : Int) := by rw [IntWalk.i64_in _ (by omega)]; omega
    obtain ⟨k1, hk1⟩ : ∃ k1, km + 1 = k1 := ⟨_, rfl⟩
    rw [hk1] at e2
    by_cases hret : vx = lst ∧ 0 < i
    · obtain ⟨rfl, hi0⟩ := hret
      have e1 : (vx == vx) = true := by simp
      have e3 : (k1 : Int) < (m : Int) := by omega
      have e4 : decide ((k1 : Int) < (m : Int)) = true := decide_eq_true e3
      have HNone : Hid (rngF (fun j => stB T n P m (s j)) n = (0, 0)) := Lib.hid (lastP_none H.out.sa (i := i + 1) (by omega) (by omega) (by
        rw [hPt]
        exact rngF_nil fun j hj => by rw [← hlst]; exact nar_last H.out.once hi0))
      have r0 := hG.r0.cell 0
      have r0f := hG.r0.free 0
      have r1 : (W.setCell ⟨lo + 2, 0, none⟩ (.int .i64 0)).cell? ⟨lo + 3, 0, none⟩ = some (.int .i64 0) := (hG.r1.far (p := ⟨lo + 2, 0, none⟩) (by show lo + 3 ≠ lo + 2; omega) _).cell 0
      have r1f : (W.setCell ⟨lo + 2, 0, none⟩ (.int .i64 0)).frozen? ⟨lo + 3, 0, none⟩ = false := (hG.r1.far (p := ⟨lo + 2, 0, none⟩) (by show lo + 3 ≠ lo + 2; omega) _).free 0
      have HG2 := Lib.hid hG.zeros
      clear hc hG hrng hPt hFd hc' hv1 hv2 hvx hlst hR
      gi_wp2
      exact ⟨⟨HG2.out.2, HKeep.out _ _ _ HG2.out.1⟩, by trivial, HNone, Lib.hid ⟨_, _, HG2.out.1⟩⟩
    · have hcc : vx ≠ T (n - 1) ∨ i = 0 := by rw [hlst]; omega
      obtain ⟨p, q, hpq⟩ : ∃ p q, rngF (fun j => stB T n (lastP P m (i + 1)) (i + 1) (s j)) n = (p, q) := ⟨_, _, rfl⟩
      have hNa := fdNarrow_any hFd (x : Int) (y : Int) vx
      rw [narF_is hFd hcc hrng, ← hPt, hpq] at hNa
      have hNa : Calls Tryz.prog 25 #[.pointer (some ⟨g, 0, none⟩), .int .i64 (x : Int), .int .i64 (y : Int), .int .i64 vx] W fun e w' => e = .returned (.tuple #[.int .i64 (p : Int), .int .i64 (q : Int)]) ∧ ∃ j, w' = W.drewN j := hNa
      have HNa := Lib.hid hNa
      have hle := rngF_le (fun j => stB T n (lastP P m (i + 1)) (i + 1) (s j)) n
      have hlt := rngF_lt (f := fun j => stB T n (lastP P m (i + 1)) (i + 1) (s j)) (k := n)
      rw [hpq] at hle hlt
      have hle : p ≤ q ∧ q ≤ n := hle
      have hlt : q ≠ 0 → p < q := hlt
      have b4 := hG.xa.cell 0
      have b5 := hG.xb.cell 0
      have HG := Lib.hid hG
      have HPq := Lib.hid hpq
      have HSt : Hid (∀ j, RgIn w lo g (some ad) m c p q (((W.drewN j).setCell ⟨lo + 4, 0, none⟩ (.int .i64 (p : Int))).setCell ⟨lo + 5, 0, none⟩ (.int .i64 (q : Int))) ∧ Off (fun k => k = lo + 6 ∨ k = lo + 7 ∨ k = lo + 7 + 1) W (((W.drewN j).setCell ⟨lo + 4, 0, none⟩ (.int .i64 (p : Int))).setCell ⟨lo + 5, 0, none⟩ (.int .i64 (q : Int)))) := Lib.hid fun j => ⟨(HG.out.drewN j).put p q, ((off_drewN _ _ _).trans (Off.setCell (q := ⟨lo + 4, 0, none⟩) (by show ¬ (lo + 4 = lo + 6 ∨ lo + 4 = lo + 7 ∨ lo + 4 = lo + 7 + 1); omega) _)).trans (Off.setCell (q := ⟨lo + 5, 0, none⟩) (by show ¬ (lo + 5 = lo + 6 ∨ lo + 5 = lo + 7 ∨ lo + 5 = lo + 7 + 1); omega) _)⟩
      clear hc hG hrng hFd hc' hv1 hv2 hvx hlst hR hNa hpq hcc
      have b2 := HG.out.r0.cell 0
      have b2f := HG.out.r0.free 0
      have b3 := HG.out.r1.cell 0
      have b3f := HG.out.r1.free 0
      have b4f := HG.out.xa.free 0
      have b5f := HG.out.xb.free 0
      by_cases hpe : p = q
      · have HNone : Hid (rngF (fun j => stB T n P m (s j)) n = (0, 0)) := Lib.hid (lastP_none H.out.sa (i := i + 1) (by omega) (by omega) (by rw [HPq.out, show p = 0 by omega, show q = 0 by omega]))
        subst hpe
        have f0 : ((p : Int) == (p : Int)) = true := by simp
        clear hle hlt HPq
        by_cases hv : vx = lst
        · subst hv
          have f1 : (vx == vx) = true := by simp
          have f2 : ¬ (k1 : Int) < (m : Int) := by omega
          have f3 : decide ((k1 : Int) < (m : Int)) = false := decide_eq_false f2
          have f4 : decide (k1 < m) = false := decide_eq_false (by omega)
          clear hret
          gi_wp2_with (refine ⟨trivial, rfl, ?_⟩; gi_at_call 25; refine (CallsIn.inRound l (callsIn_wide.2 HNa.out)).mono ?_; rintro e w2 ⟨rfl, j, rfl⟩; have HR2 := Lib.hid (HSt.out j))
          exact ⟨⟨HR2.out.2.trans HR2.out.1.zeros.2, HKeep.out _ _ _ HR2.out.1.zeros.1⟩, by trivial, HNone, Lib.hid ⟨_, _, HR2.out.1.zeros.1⟩⟩
        · have f1 : (vx == lst) = false := by rw [beq_eq_false_iff_ne]; exact hv
          clear hret
          gi_wp2_with (refine ⟨trivial, rfl, ?_⟩; gi_at_call 25; refine (CallsIn.inRound l (callsIn_wide.2 HNa.out)).mono ?_; rintro e w2 ⟨rfl, j, rfl⟩; have HR2 := Lib.hid (HSt.out j))
          exact ⟨⟨HR2.out.2.trans HR2.out.1.zeros.2, HKeep.out _ _ _ HR2.out.1.zeros.1⟩, by trivial, HNone, Lib.hid ⟨_, _, HR2.out.1.zeros.1⟩⟩
      · have f0 : ((p : Int) == (q : Int)) = false := by rw [beq_eq_false_iff_ne]; omega
        have HLt : Hid (p < q) := Lib.hid (by omega)
        clear hle hlt
        by_cases hv : vx = lst
        · subst hv
          have f1 : (vx == vx) = true := by simp
          have f2 : ¬ (k1 : Int) < (m : Int) := by omega
          have f3 : decide ((k1 : Int) < (m : Int)) = false := decide_eq_false f2
          have f4 : decide (k1 < m) = false := decide_eq_false (by omega)
          clear hret
          gi_wp2_with (refine ⟨trivial, rfl, ?_⟩; gi_at_call 25; refine (CallsIn.inRound l (callsIn_wide.2 HNa.out)).mono ?_; rintro e w2 ⟨rfl, j, rfl⟩; have HR2 := Lib.hid (HSt.out j))
          exact ⟨⟨HR2.out.2, HKeep.out _ _ _ HR2.out.1⟩, Lib.hid ⟨_, _, HR2.out.1, HLt.out, HPq.out⟩⟩
        · have f1 : (vx == lst) = false := by rw [beq_eq_false_iff_ne]; exact hv
          clear hret
          gi_wp2_with (refine ⟨trivial, rfl, ?_⟩; gi_at_call 25; refine (CallsIn.inRound l (callsIn_wide.2 HNa.out)).mono ?_; rintro e w2 ⟨rfl, j, rfl⟩; have HR2 := Lib.hid (HSt.out j))
          exact ⟨⟨HR2.out.2, HKeep.out _ _ _ HR2.out.1⟩, Lib.hid ⟨_, _, HR2.out.1, HLt.out, HPq.out⟩⟩
  case done =>
    intro D W hD hR hk1
    obtain ⟨x, y, hG, hxy, hrng⟩ := hR.out
    rw [lastP_all] at hrng
    have HRg := Lib.hid hrng
    have hDl := (Array.getElem?_eq_some_iff.1 hk1).1
    have b2 := hG.r0.cell 0
    have b2f := hG.r0.free 0
    have b3 := hG.r1.cell 0
    have b3f := hG.r1.free 0
    have b4 := hG.xa.cell 0
    have b5 := hG.xb.cell 0
    have HB := Lib.hid hG.below
    clear hR hrng
    gi_wp2
    gi_region
    gi_wp2
    obtain ⟨W2, hW2⟩ : ∃ W2, ((W.setCell ⟨lo + 2, 0, none⟩ (.int .i64 (x : Int))).setCell ⟨lo + 3, 0, none⟩ (.int .i64 (y : Int))).drew = W2 := ⟨_, rfl⟩
    have g2 : W2.cell? ⟨lo + 2, 0, none⟩ = some (.int .i64 (x : Int)) := by rw [← hW2]; exact ((hG.r0.put 0 _).far (p := ⟨lo + 3, 0, none⟩) (by show lo + 2 ≠ lo + 3; omega) _).cell 0
    have g3 : W2.cell? ⟨lo + 3, 0, none⟩ = some (.int .i64 (y : Int)) := by rw [← hW2]; exact ((hG.r1.far (p := ⟨lo + 2, 0, none⟩) (by show lo + 3 ≠ lo + 2; omega) _).put 0 _).cell 0
    have gk : W2.heap[D]? = some (.deferred (some [])) := by
      rw [← hW2]
      exact ((Below.heap_setCell _ _ _ _ (by show D ≠ lo + 3; omega)).trans (Below.heap_setCell _ _ _ _ (by show D ≠ lo + 2; omega))).trans hk1
    have gz : W2.heap.size = W.heap.size := by rw [← hW2]; simp [World.setCell]
    have gb : Below lo w W2 := by
      rw [← hW2]
      exact ((HB.out.setCell (p := ⟨lo + 2, 0, none⟩) (by show lo ≤ lo + 2; omega) _).setCell (p := ⟨lo + 3, 0, none⟩) (by show lo ≤ lo + 3; omega) _).drew
    have hMM : Marks (lo + 6) W2.heap.size ({ target := .collected D, args := #[] } :: []) W2 := ⟨D, rfl, by omega, by omega, gk, trivial⟩
    rw [hW2]
    exact hMM.out (by omega) fun w' hw' => by
      have q2 : w'.cell? ⟨lo + 2, 0, none⟩ = some (.int .i64 (x : Int)) := (hw'.cell (p := ⟨lo + 2, 0, none⟩) (by show lo + 2 < lo + 6; omega)).trans g2
      have q3 : w'.cell? ⟨lo + 3, 0, none⟩ = some (.int .i64 (y : Int)) := (hw'.cell (p := ⟨lo + 3, 0, none⟩) (by show lo + 3 < lo + 6; omega)).trans g3
      exact ⟨.tuple #[.int .i64 (x : Int), .int .i64 (y : Int)], by simp [results, Tryz.results18, go_sem, q2, q3], by rw [HRg.out], gb.trans (hw'.mono (by omega))⟩
  case stop =>
    rintro D c' W hD ⟨rfl, hz, hG⟩ hk1
    obtain ⟨x, y, hG⟩ := hG.out
    have hDl := (Array.getElem?_eq_some_iff.1 hk1).1
    have b2 := hG.r0.cell 0
    have b3 := hG.r1.cell 0
    have HB := Lib.hid hG.below
    have hMM : Marks (lo + 6) W.heap.size ({ target := .collected D, args := #[] } :: []) W := ⟨D, rfl, by omega, hDl, hk1, trivial⟩
    gi_wp2
    exact hMM.out (by omega) fun w' hw' => by
      have g2 : w'.cell? ⟨lo + 2, 0, none⟩ = some (.int .i64 0) := (hw'.cell (p := ⟨lo + 2, 0, none⟩) (by show lo + 2 < lo + 6; omega)).trans b2
      have g3 : w'.cell? ⟨lo + 3, 0, none⟩ = some (.int .i64 0) := (hw'.cell (p := ⟨lo + 3, 0, none⟩) (by show lo + 3 < lo + 6; omega)).trans b3
      exact ⟨.tuple #[.int .i64 0, .int .i64 0], by simp [results, Tryz.results18, go_sem, g2, g3], by rw [hz.out]; rfl, HB.out.trans (hw'.mono (by omega))⟩
end Go.Proofs.YtbkdloebbbmkaaaGreat

namespace Go.Proofs.YtbkdloebbbmkaaaGreat
open Go.RowKit

/-- the ground on which places are laid: the row; the variables' cells; the list of places (block s); where the next one goes (block y). -/
structure Lg (w : World) (T : Nat) (A : Option Addr) (n c : Nat) (X : Nat → Nat) (b g e h : Nat) (b2 b5 b6 s y cs cy : Nat) (S N : Nat → Int) : Prop where
  row : Rw w T A n c X b g e h
  v2 : w.cell? ⟨b2, 0, none⟩ = some (.pointer (some ⟨g, 0, none⟩))
  v5 : w.cell? ⟨b5, 0, none⟩ = some (.slice (some ⟨s, 0, none⟩) n cs)
  v6 : w.cell? ⟨b6, 0, none⟩ = some (.slice (some ⟨y, 0, none⟩) b cy)
  sa : w.ownsRow T 3 1 (.slice (some ⟨s, 0, none⟩) n cs) n (icells S n)
  nx : w.ownsRow T 3 1 (.slice (some ⟨y, 0, none⟩) b cy) b (icells N b)
  ge : T ≤ b2 ∧ T ≤ b5 ∧ T ≤ b6 ∧ T ≤ s ∧ T ≤ y
  ne : s ≠ y ∧ s ≠ b2 ∧ s ≠ b5 ∧ s ≠ b6 ∧ y ≠ b2 ∧ y ≠ b5 ∧ y ≠ b6
section
variable {w w' : World} {T n c b g e h b2 b5 b6 s y cs cy : Nat} {A : Option Addr} {X : Nat → Nat} {S N : Nat → Int}
theorem Lg.sa_cell (l : Lg w T A n c X b g e h b2 b5 b6 s y cs cy S N) {k : Nat} (hk : k < n) : w.cell? ⟨s, k, none⟩ = some (.int .i64 (S k)) := by
  rw [l.sa.cellAt k (by omega)]
  exact icells_at S n k hk
theorem Lg.nx_cell (l : Lg w T A n c X b g e h b2 b5 b6 s y cs cy S N) {k : Nat} (hk : k < b) : w.cell? ⟨y, k, none⟩ = some (.int .i64 (N k)) := by
  rw [l.nx.cellAt k (by omega)]
  exact icells_at N b k hk
theorem Lg.put_sa (l : Lg w T A n c X b g e h b2 b5 b6 s y cs cy S N) (k : Nat) (x : Int) : Lg (w.setCell ⟨s, k, none⟩ (.int .i64 x)) T A n c X b g e h b2 b5 b6 s y cs cy (putI S k x) N := by
  obtain ⟨n1, n2, n3, n4, n5, n6, n7⟩ := l.ne
  have hb : Below T w (w.setCell ⟨s, k, none⟩ (.int .i64 x)) := (Below.refl T w).setCell (p := ⟨s, k, none⟩) l.ge.2.2.2.1 _
  have far : ∀ z, s ≠ z → (w.setCell ⟨s, k, none⟩ (.int .i64 x)).cell? ⟨z, 0, none⟩ = w.cell? ⟨z, 0, none⟩ := fun z hz => World.cell?_of_block (Below.heap_setCell w ⟨s, k, none⟩ _ z (fun e => hz e.symm))
  refine ⟨l.row.below hb (Nat.le_refl _), (far b2 n2).trans l.v2, (far b5 n3).trans l.v5, (far b6 n4).trans l.v6, ?_, owns_far l.nx (fun e => n1 (by injection e with e; exact e.symm)) _, l.ge, l.ne⟩
  have := owns_put l.sa k (.int .i64 x)
  rw [icells_put] at this
  exact this
theorem Lg.put_nx (l : Lg w T A n c X b g e h b2 b5 b6 s y cs cy S N) (k : Nat) (x : Int) : Lg (w.setCell ⟨y, k, none⟩ (.int .i64 x)) T A n c X b g e h b2 b5 b6 s y cs cy S (putI N k x) := by
  obtain ⟨n1, n2, n3, n4, n5, n6, n7⟩ := l.ne
  have hb : Below T w (w.setCell ⟨y, k, none⟩ (.int .i64 x)) := (Below.refl T w).setCell (p := ⟨y, k, none⟩) l.ge.2.2.2.2 _
  have far : ∀ z, y ≠ z → (w.setCell ⟨y, k, none⟩ (.int .i64 x)).cell? ⟨z, 0, none⟩ = w.cell? ⟨z, 0, none⟩ := fun z hz => World.cell?_of_block (Below.heap_setCell w ⟨y, k, none⟩ _ z (fun e => hz e.symm))
  refine ⟨l.row.below hb (Nat.le_refl _), (far b2 n5).trans l.v2, (far b5 n6).trans l.v5, (far b6 n7).trans l.v6, owns_far l.sa (fun e => n1 (by injection e)) _, ?_, l.ge, l.ne⟩
  have := owns_put l.nx k (.int .i64 x)
  rw [icells_put] at this
  exact this
theorem Lg.drew (l : Lg w T A n c X b g e h b2 b5 b6 s y cs cy S N) : Lg w.drew T A n c X b g e h b2 b5 b6 s y cs cy S N :=
  ⟨l.row.below ((Below.refl T w).drew) (Nat.le_refl _), l.v2, l.v5, l.v6, l.sa, l.nx, l.ge, l.ne⟩

theorem two_off {k x0 : Nat} (x x' : Value) : Off (fun q => q ≠ s ∧ q ≠ y) w (((w.setCell ⟨y, x0, none⟩ x).drew.setCell ⟨s, k, none⟩ x').drew) := by
  have h1 : Off (fun q => q ≠ s ∧ q ≠ y) w (w.setCell ⟨y, x0, none⟩ x) := Off.setCell (fun hq => hq.2 rfl) x
  have h2 : Off (fun q => q ≠ s ∧ q ≠ y) (w.setCell ⟨y, x0, none⟩ x).drew ((w.setCell ⟨y, x0, none⟩ x).drew.setCell ⟨s, k, none⟩ x') := Off.setCell (fun hq => hq.1 rfl) x'
  exact ((h1.trans (off_drew _ _)).trans h2).trans (off_drew _ _)
theorem two_off' {k x0 : Nat} (x x' : Value) : Off (fun q => q ≠ s ∧ q ≠ y) w (((w.setCell ⟨s, k, none⟩ x').drew.setCell ⟨y, x0, none⟩ x).drew) := by
  have h1 : Off (fun q => q ≠ s ∧ q ≠ y) w (w.setCell ⟨s, k, none⟩ x') := Off.setCell (fun hq => hq.1 rfl) x'
  have h2 : Off (fun q => q ≠ s ∧ q ≠ y) (w.setCell ⟨s, k, none⟩ x').drew ((w.setCell ⟨s, k, none⟩ x').drew.setCell ⟨y, x0, none⟩ x) := Off.setCell (fun hq => hq.2 rfl) x
  exact ((h1.trans (off_drew _ _)).trans h2).trans (off_drew _ _)

set_option maxRecDepth 100000 in
set_option maxHeartbeats 800000 in
theorem laid1_any (l : Lg w T A n c X b g e h b2 b5 b6 s y cs cy S N) {p k : Nat} (hp : p < n) (hk : k < n) (hN : N (X p) = ((k + 1 : Nat) : Int)) :
    Calls Tryz.prog 117 #[.int .i64 (p : Int), .pointer (some ⟨b6, 0, none⟩), .pointer (some ⟨b2, 0, none⟩), .pointer (some ⟨b5, 0, none⟩)] w fun e' w' => e' = .returned (.tuple #[]) ∧
      Lg w' T A n c X b g e h b2 b5 b6 s y cs cy (putI S k (p : Int)) (putI N (X p) (k : Int)) ∧ Off (fun q => q ≠ s ∧ q ≠ y) w w' := by
  have hx := l.row.right p hp
  have hn := l.row.small.2.1
  have hL1 := Lib.hid ((l.put_nx (X p) (k : Int)).drew)
  have hL2 := Lib.hid ((((l.put_nx (X p) (k : Int)).drew).put_sa k (p : Int)).drew)
  obtain ⟨ad, rfl, _, ct0, _⟩ := l.row.t p hp
  have ct : w.cell? (ad.add p) = some (.int .i64 ((X p : Nat) : Int)) := ct0
  clear ct0
  have cn := l.nx_cell hx
  rw [hN] at cn
  have fn := owns_free l.nx (X p)
  have hO : ∀ x x' : Value, Off (fun q => q ≠ s ∧ q ≠ y) w (((w.setCell ⟨y, X p, none⟩ x).drew.setCell ⟨s, k, none⟩ x').drew) := fun x x' => two_off x x'
  have HO := Lib.hid hO
  have v2 := l.v2
  have v5 := l.v5
  have v6 := l.v6
  have c0 := l.row.c0
  have L1 := hL1.out
  clear hL1
  obtain ⟨w1, hw1⟩ : ∃ w1, (w.setCell ⟨y, X p, none⟩ (.int .i64 (k : Int))).drew = w1 := ⟨_, rfl⟩
  have HW1 := Lib.hid hw1
  rw [hw1] at L1 hL2
  obtain ⟨ad', e', _, ct2, _⟩ := L1.row.t p hp
  obtain rfl : ad = ad' := by injection e'
  have ct1 : w1.cell? (ad.add p) = some (.int .i64 ((X p : Nat) : Int)) := ct2
  clear ct2
  have cn1 := L1.nx_cell hx
  rw [putI_at] at cn1
  have cs1 := L1.sa_cell hk
  have fs1 := owns_free L1.sa k
  have w2 := L1.v2
  have w5 := L1.v5
  have w6 := L1.v6
  have d0 := L1.row.c0
  have hw : IntKind.i64.wrap (((k + 1 : Nat) : Int) - 1) = (k : Int) := by rw [IntWalk.i64_in _ (by omega)]; omega
  have hxb : ((X p : Nat) : Int) < (b : Int) := by omega
  have hpn : (p : Int) < (n : Int) := by omega
  have hkn : (k : Int) < (n : Int) := by omega
  obtain ⟨k1, hk1⟩ : ∃ k1, k + 1 = k1 := ⟨_, rfl⟩
  rw [hk1] at hw cn
  obtain ⟨sv, hsv⟩ : ∃ sv, S k = sv := ⟨_, rfl⟩
  rw [hsv] at cs1
  clear hw1 l L1 e' hN hk1 hsv hn hO hx
  go_enter Tryz.func117, Tryz.ntmps117
  go_wp2_with fail
  go_still_tail 12, (by kernel_rfl)
  go_wp2_with fail
  rw [HW1.out]
  go_still_tail 13, (by kernel_rfl)
  go_wp2_with fail
  go_end0
  refine ⟨rfl, hL2.out, ?_⟩
  rw [← HW1.out]
  exact HO.out _ _
set_option maxRecDepth 100000 in
set_option maxHeartbeats 800000 in
theorem laid2_any (l : Lg w T A n c X b g e h b2 b5 b6 s y cs cy S N) {p k : Nat} (hp : p < n) (hk : k < n) (hN : N (X p) = (k : Int)) :
    Calls Tryz.prog 118 #[.int .i64 (p : Int), .pointer (some ⟨b5, 0, none⟩), .pointer (some ⟨b6, 0, none⟩), .pointer (some ⟨b2, 0, none⟩)] w fun e' w' => e' = .returned (.tuple #[]) ∧
      Lg w' T A n c X b g e h b2 b5 b6 s y cs cy (putI S k (p : Int)) (putI N (X p) ((k + 1 : Nat) : Int)) ∧ Off (fun q => q ≠ s ∧ q ≠ y) w w' := by
  have hx := l.row.right p hp
  have hn := l.row.small.2.1
  have hL1 := Lib.hid ((l.put_sa k (p : Int)).drew)
  have hL2 := Lib.hid ((((l.put_sa k (p : Int)).drew).put_nx (X p) ((k + 1 : Nat) : Int)).drew)
  obtain ⟨ad, rfl, _, ct0, _⟩ := l.row.t p hp
  have ct : w.cell? (ad.add p) = some (.int .i64 ((X p : Nat) : Int)) := ct0
  clear ct0
  have cn := l.nx_cell hx
  rw [hN] at cn
  have fs := owns_free l.sa k
  have cs0 := l.sa_cell hk
  have hO : ∀ x x' : Value, Off (fun q => q ≠ s ∧ q ≠ y) w (((w.setCell ⟨s, k, none⟩ x').drew.setCell ⟨y, X p, none⟩ x).drew) := fun x x' => two_off' x x'
  have HO := Lib.hid hO
  have v2 := l.v2
  have v5 := l.v5
  have v6 := l.v6
  have c0 := l.row.c0
  have L1 := hL1.out
  clear hL1
  obtain ⟨w1, hw1⟩ : ∃ w1, (w.setCell ⟨s, k, none⟩ (.int .i64 (p : Int))).drew = w1 := ⟨_, rfl⟩
  have HW1 := Lib.hid hw1
  rw [hw1] at L1 hL2
  obtain ⟨ad', e', _, ct2, _⟩ := L1.row.t p hp
  obtain rfl : ad = ad' := by injection e'
  have ct1 : w1.cell? (ad.add p) = some (.int .i64 ((X p : Nat) : Int)) := ct2
  clear ct2
  have cn1 := L1.nx_cell hx
  rw [hN] at cn1
  have fn1 := owns_free L1.nx (X p)
  have w2 := L1.v2
  have w5 := L1.v5
  have w6 := L1.v6
  have d0 := L1.row.c0
  have hw : IntKind.i64.wrap ((k : Int) + 1) = ((k + 1 : Nat) : Int) := by rw [IntWalk.i64_in _ (by omega)]; omega
  have hxb : ((X p : Nat) : Int) < (b : Int) := by omega
  have hpn : (p : Int) < (n : Int) := by omega
  have hkn : (k : Int) < (n : Int) := by omega
  obtain ⟨k1, hk1⟩ : ∃ k1, k + 1 = k1 := ⟨_, rfl⟩
  rw [hk1] at hw hL2
  obtain ⟨sv, hsv⟩ : ∃ sv, S k = sv := ⟨_, rfl⟩
  rw [hsv] at cs0
  clear hw1 l L1 e' hN hsv hn hO hx
  go_enter Tryz.func118, Tryz.ntmps118
  go_wp2_with fail
  go_still_tail 13, (by kernel_rfl)
  go_wp2_with fail
  rw [HW1.out]
  go_still_tail 12, (by kernel_rfl)
  go_wp2_with fail
  go_end0
  rw [hk1]
  refine ⟨rfl, hL2.out, ?_⟩
  rw [← HW1.out]
  exact HO.out _ _
end
end Go.Proofs.YtbkdloebbbmkaaaGreat

namespace Go.Proofs.YtbkdloebbbmkaaaGreat
open Go.RowKit
open Go.Shelf

def sortLays_ren : Go.Shelf.Ren := ⟨fun | 189 => 36 | 125 => 54 | 257 => 53 | 128 => 91 | 129 => 92 | 294 => 82 | 295 => 83 | 296 => 84 | 297 => 85 | 298 => 86 | 299 => 87 | 216 => 88 | 300 => 89 | 301 => 90 | 328 => 108 | 329 => 109 | 330 => 110 | 331 => 111 | 332 => 112 | 215 => 113 | 343 => 124 | n => n, fun | 28 => 22 | 3 => 3 | 46 => 38 | 0 => 0 | 51 => 111 | 53 => 70 | 4 => 4 | 183 => 105 | 182 => 104 | 131 => 108 | 5 => 5 | 9 => 9 | 218 => 125 | 222 => 129 | 228 => 138 | 229 => 39 | n => n, fun | n => n⟩
theorem sortLays : Go.Proofs.Lays.n189 Tryz.prog sortLays_ren := {
  mixed := by kernel_rfl
  f125 := Tryz.func54.trans (congrArg some (by kernel_rfl))
  f128 := Tryz.func91.trans (congrArg some (by kernel_rfl))
  f129 := Tryz.func92.trans (congrArg some (by kernel_rfl))
  f189 := Tryz.func36.trans (congrArg some (by kernel_rfl))
  f215 := Tryz.func113.trans (congrArg some (by kernel_rfl))
  f216 := Tryz.func88.trans (congrArg some (by kernel_rfl))
  f257 := Tryz.func53.trans (congrArg some (by kernel_rfl))
  f294 := Tryz.func82.trans (congrArg some (by kernel_rfl))
  f295 := Tryz.func83.trans (congrArg some (by kernel_rfl))
  f296 := Tryz.func84.trans (congrArg some (by kernel_rfl))
  f297 := Tryz.func85.trans (congrArg some (by kernel_rfl))
  f298 := Tryz.func86.trans (congrArg some (by kernel_rfl))
  f299 := Tryz.func87.trans (congrArg some (by kernel_rfl))
  f300 := Tryz.func89.trans (congrArg some (by kernel_rfl))
  f301 := Tryz.func90.trans (congrArg some (by kernel_rfl))
  f328 := Tryz.func108.trans (congrArg some (by kernel_rfl))
  f329 := Tryz.func109.trans (congrArg some (by kernel_rfl))
  f330 := Tryz.func110.trans (congrArg some (by kernel_rfl))
  f331 := Tryz.func111.trans (congrArg some (by kernel_rfl))
  f332 := Tryz.func112.trans (congrArg some (by kernel_rfl))
  f343 := Tryz.func124.trans (congrArg some (by kernel_rfl))
  t0 := Tryz.underlying0
  a0 := Tryz.isAgg0
  z0 := Tryz.sizeOf0
  v0 := Tryz.zeroValue0
  t3 := Tryz.underlying3
  a3 := Tryz.isAgg3
  z3 := Tryz.sizeOf3
  v3 := Tryz.zeroValue3
  t4 := Tryz.underlying4
  a4 := Tryz.isAgg4
  z4 := Tryz.sizeOf4
  v4 := Tryz.zeroValue4
  t5 := Tryz.underlying5
  a5 := Tryz.isAgg5
  z5 := Tryz.sizeOf5
  v5 := Tryz.zeroValue5
  t9 := Tryz.underlying9
  a9 := Tryz.isAgg9
  z9 := Tryz.sizeOf9
  v9 := Tryz.zeroValue9
  t28 := Tryz.underlying22
  a28 := Tryz.isAgg22
  z28 := Tryz.sizeOf22
  v28 := Tryz.zeroValue22
  t46 := Tryz.underlying38
  a46 := Tryz.isAgg38
  z46 := Tryz.sizeOf38
  v46 := Tryz.zeroValue38
  t51 := Tryz.underlying111
  a51 := Tryz.isAgg111
  z51 := Tryz.sizeOf111
  v51 := Tryz.zeroValue111
  t53 := Tryz.underlying70
  a53 := Tryz.isAgg70
  z53 := Tryz.sizeOf70
  v53 := Tryz.zeroValue70
  t131 := Tryz.underlying108
  a131 := Tryz.isAgg108
  z131 := Tryz.sizeOf108
  v131 := Tryz.zeroValue108
  t182 := Tryz.underlying104
  a182 := Tryz.isAgg104
  z182 := Tryz.sizeOf104
  v182 := Tryz.zeroValue104
  t183 := Tryz.underlying105
  a183 := Tryz.isAgg105
  z183 := Tryz.sizeOf105
  v183 := Tryz.zeroValue105
  t218 := Tryz.underlying125
  a218 := Tryz.isAgg125
  z218 := Tryz.sizeOf125
  v218 := Tryz.zeroValue125
  t222 := Tryz.underlying129
  a222 := Tryz.isAgg129
  z222 := Tryz.sizeOf129
  v222 := Tryz.zeroValue129
  t228 := Tryz.underlying138
  a228 := Tryz.isAgg138
  z228 := Tryz.sizeOf138
  v228 := Tryz.zeroValue138
  t229 := Tryz.underlying39
  a229 := Tryz.isAgg39
  z229 := Tryz.sizeOf39
  v229 := Tryz.zeroValue39 }
def equalLays_ren : Go.Shelf.Ren := ⟨fun | 111 => 45 | n => n, fun | 28 => 22 | 3 => 3 | 4 => 4 | 0 => 0 | n => n, fun | n => n⟩
theorem equalLays : Go.Proofs.Lays.n111 Tryz.prog equalLays_ren := {
  mixed := by kernel_rfl
  f111 := Tryz.func45.trans (congrArg some (by kernel_rfl))
  t0 := Tryz.underlying0
  a0 := Tryz.isAgg0
  z0 := Tryz.sizeOf0
  v0 := Tryz.zeroValue0
  t3 := Tryz.underlying3
  a3 := Tryz.isAgg3
  z3 := Tryz.sizeOf3
  v3 := Tryz.zeroValue3
  t4 := Tryz.underlying4
  a4 := Tryz.isAgg4
  z4 := Tryz.sizeOf4
  v4 := Tryz.zeroValue4
  t28 := Tryz.underlying22
  a28 := Tryz.isAgg22
  z28 := Tryz.sizeOf22
  v28 := Tryz.zeroValue22 }
def cloneLays_ren : Go.Shelf.Ren := ⟨fun | 15 => 70 | n => n, fun | 22 => 22 | 3 => 3 | 4 => 4 | n => n, fun | n => n⟩
theorem cloneLays : Go.Proofs.Lays2.n15 Tryz.prog cloneLays_ren := {
  mixed := by kernel_rfl
  f15 := Tryz.func70.trans (congrArg some (by kernel_rfl))
  t3 := Tryz.underlying3
  a3 := Tryz.isAgg3
  z3 := Tryz.sizeOf3
  v3 := Tryz.zeroValue3
  t4 := Tryz.underlying4
  a4 := Tryz.isAgg4
  z4 := Tryz.sizeOf4
  v4 := Tryz.zeroValue4
  t22 := Tryz.underlying22
  a22 := Tryz.isAgg22
  z22 := Tryz.sizeOf22
  v22 := Tryz.zeroValue22
  i3 := by kernel_rfl }
def searchLays_ren : Go.Shelf.Ren := ⟨fun | 25 => 103 | 31 => 88 | 32 => 122 | 37 => 113 | n => n, fun | 22 => 22 | 3 => 3 | 4 => 4 | 40 => 38 | 0 => 0 | n => n, fun | n => n⟩
theorem searchLays : Go.Proofs.Lays2.n25 Tryz.prog searchLays_ren := {
  mixed := by kernel_rfl
  f25 := Tryz.func103.trans (congrArg some (by kernel_rfl))
  f31 := Tryz.func88.trans (congrArg some (by kernel_rfl))
  f32 := Tryz.func122.trans (congrArg some (by kernel_rfl))
  f37 := Tryz.func113.trans (congrArg some (by kernel_rfl))
  t0 := Tryz.underlying0
  a0 := Tryz.isAgg0
  z0 := Tryz.sizeOf0
  v0 := Tryz.zeroValue0
  t3 := Tryz.underlying3
  a3 := Tryz.isAgg3
  z3 := Tryz.sizeOf3
  v3 := Tryz.zeroValue3
  t4 := Tryz.underlying4
  a4 := Tryz.isAgg4
  z4 := Tryz.sizeOf4
  v4 := Tryz.zeroValue4
  t22 := Tryz.underlying22
  a22 := Tryz.isAgg22
  z22 := Tryz.sizeOf22
  v22 := Tryz.zeroValue22
  t40 := Tryz.underlying38
  a40 := Tryz.isAgg38
  z40 := Tryz.sizeOf38
  v40 := Tryz.zeroValue38 }

end Go.Proofs.YtbkdloebbbmkaaaGreat

namespace Go.Proofs.YtbkdloebbbmkaaaGreat
open Go.RowKit Go.Shelf

attribute [local go_sem] Oper.semAt_some

/-- the i-th one. -/
def ValOk (A : Option Addr) (i : Nat) (x : Int) (w : World) : Prop := ∃ ad : Addr, A = some ad ∧ w.cell? (ad.add i) = some (.int .i64 x)
set_option maxRecDepth 100000 in
theorem values_any (A : Option Addr) (n c : Nat) (w : World) :
    Calls Tryz.prog 102 #[.slice A n c] w fun e w' => e = .returned (.func (.func 121) #[] #[.pointer (some ⟨w.heap.size, 0, none⟩)]) ∧ w' = w.alloc (.cells #[.slice A n c] 22) := by
  go_enter Tryz.func102, Tryz.ntmps102
  go_wp2_with fail
  go_ret
  exact ⟨rfl, rfl⟩
set_option maxRecDepth 100000 in
set_option maxHeartbeats 1600000 in
theorem values_gives (A : Option Addr) (n c b1 : Nat) (w : World) (hn : n ≤ 4194304) (h1 : b1 < w.heap.size) (c1 : w.cell? ⟨b1, 0, none⟩ = some (.slice A n c)) (hI : IntsAt w A n) :
    Gives Tryz.prog 121 #[.pointer (some ⟨b1, 0, none⟩)] (fun x : Int => #[.int .i64 x]) (ValOk A) n Still (fun A1 A2 => IntsAt A1 A n → IntsAt A2 A n) w := by
  intro l J Jx W hW _ hJ hJx hY h0
  have C1 := (hW.cell (p := ⟨b1, 0, none⟩) h1).trans c1
  have HI : Hid (IntsAt W A n) := Lib.hid fun j hj => by
    obtain ⟨ad, v, e, hc⟩ := hI j hj
    have hlt := cell_in hc
    exact ⟨ad, v, e, (hW.cell hlt).trans hc⟩
  have HY := Lib.hid hY
  clear hY hJ hJx c1 hW h1 hI
  refine (callsIn_wide (n := 0)).1 ?_
  refine callsIn_of_wp Tryz.func121 rfl trivial ?_ rfl
  simp only [Tryz.ntmps121, List.size_toArray, List.length_cons, List.length_nil, Nat.reduceAdd, Nat.reduceSub, Array.replicate_succ, Array.replicate_zero, List.push_toArray, List.append_toArray, List.nil_append, List.cons_append]
  gi_wp2
  gi_loopw [7] (fun i wr => ∃ k : Nat, k ≤ n ∧ i = .int .i64 (k : Int) ∧ Hid (J k wr) ∧ Hid (IntsAt wr A n)) (fun i _ => n - (intOf i).toNat)
  case atStart => exact ⟨0, Nat.zero_le _, rfl, Lib.hid h0, HI⟩
  case round =>
    clear C1 HI
    obtain ⟨k, hk, rfl, hJs, HIs⟩ := hrel
    by_cases hlt : k < n
    · have hltk : (k : Int) < (n : Int) := by omega
      obtain ⟨ad, v, rfl, hc⟩ := HIs.out k hlt
      have hy0 := HY.out k v wr hlt ⟨ad, rfl, hc⟩ hJs.out
      obtain ⟨fn, tmps, assign, body, hy, hR⟩ := hy0
      clear hJs
      gi_wp2
      refine ⟨rfl, hR.mono ?_⟩
      rintro e W3 (⟨rfl, hJ3, hk2⟩ | ⟨rfl, hJx3, _⟩)
      · have HJ3 := Lib.hid hJ3
        have HI3 := Lib.hid (hk2 HIs.out)
        clear hk2 hJ3 hy hR HIs
        gi_wp2
        go_roundw
        case rel => exact ⟨k + 1, by omega, by go_num, HJ3, HI3⟩
        case measure => simp [intOf]; omega
      · gi_wp2
        refine bodyPost_ret (results_none rfl _ _ _) rfl ?_
        exact ⟨⟨_, rfl⟩, .inr hJx3⟩
    · have hkn : k = n := by omega
      have hge : ¬ (k : Int) < (n : Int) := by omega
      rw [hkn] at hJs
      clear hkn
      gi_wp2
      go_end0
      exact ⟨⟨_, rfl⟩, .inl hJs.out⟩

/-- what lies while the numbers are gathered: s: the slice so far, in box lo. -/
structure GIn (w : World) (lo : Nat) (A : Option Addr) (n : Nat) (V : Nat → Int) (i : Nat) (W : World) : Prop where
  box : ∃ s, W.cell? ⟨lo, 0, none⟩ = some s ∧ W.frozen? ⟨lo, 0, none⟩ = false ∧ W.ownsRow (lo + 3) 3 1 s i (icells V i)
  its : Its W lo A n V
  below : Below lo w W
/-- a row of cells is no mark. -/
theorem ownsRow_putObj2 {w : World} {B n D : Nat} {t : TypeId} {v : Value} {cs : List Value} {o : Obj} (h : w.ownsRow B t 1 v n cs) (o' : Obj) (hD : w.heap[D]? = some o) (ho : (match o with | .cells _ _ _ => true | _ => false) = false) : (w.putObj D o').ownsRow B t 1 v n cs := by
  refine ⟨h.1, ?_⟩
  rcases h.2 with h0 | ⟨g, cap, cur, e, h1, h2, h3⟩
  · exact .inl h0
  · refine .inr ⟨g, cap, cur, e, h1, (World.putObj_heap_other (fun e' => ?_)).trans h2, h3⟩
    subst e'
    rw [hD] at h2
    cases h2
    cases ho
theorem own_less {w : World} {B B' n : Nat} {t : TypeId} {v : Value} {cs : List Value} (h : w.ownsRow B t 1 v n cs) (hB : B' ≤ B) : w.ownsRow B' t 1 v n cs := by
  refine ⟨h.1, ?_⟩
  rcases h.2 with h0 | ⟨g, cap, cur, e, h1, h2⟩
  · exact .inl h0
  · exact .inr ⟨g, cap, cur, e, by omega, h2⟩
set_option maxRecDepth 100000 in
set_option maxHeartbeats 3200000 in
theorem appendSeq_any (A : Option Addr) (n c b1 : Nat) (V : Nat → Int) (w : World) (hn : n ≤ 4194304) (h1 : b1 < w.heap.size) (c1 : w.cell? ⟨b1, 0, none⟩ = some (.slice A n c)) (ho : Its w w.heap.size A n V) :
    Calls Tryz.prog 125 #[.slice none 0 0, .func (.func 121) #[] #[.pointer (some ⟨b1, 0, none⟩)]] w fun e w' => ∃ v, e = .returned v ∧ w'.ownsRow w.heap.size 3 1 v n (icells V n) ∧ Below w.heap.size w w' := by
  obtain ⟨lo, hlo⟩ : ∃ lo, w.heap.size = lo := ⟨_, rfl⟩
  rw [hlo] at ho h1 ⊢
  obtain ⟨w1, hw1⟩ : ∃ w1, w.alloc (.cells #[.slice none 0 0] 22) = w1 := ⟨_, rfl⟩
  have z1 : w1.heap.size = lo + 1 := by rw [← hw1, size_alloc, hlo]
  have k1 : Below lo w w1 := by rw [← hw1, ← hlo]; exact (Below.refl _ _).alloc (Nat.le_refl _) _
  have l1 : Lies w1 lo 22 [.slice none 0 0] := by rw [← hw1, ← hlo]; exact lies_new w _ _
  have c11 := (k1.cell (p := ⟨b1, 0, none⟩) h1).trans c1
  have G0 : GIn w lo A n V 0 w1 := ⟨⟨_, l1.cell 0, l1.free 0, World.ownsRow_nil _ _ _ _⟩, ho.below k1, k1⟩
  have hG := values_gives A n c b1 w1 hn (by omega) c11 (ints_of_its G0.its)
  have hlA : ∀ ad, A = some ad → 0 < n → ad.block < lo := fun ad e hn0 => by
    obtain ⟨ad', e', hb, _⟩ := ho 0 hn0
    rw [e] at e'
    cases e'
    exact hb
  obtain ⟨i0, hi0, hz0, hs0, hb0⟩ := info_parts info_i64
  clear ho c1 c11
  refine (callsIn_wide (n := 0)).1 ?_
  refine callsIn_of_wp_marks Tryz.func125 rfl trivial ?_ rfl
  simp only [Tryz.ntmps125, List.size_toArray, List.length_cons, List.length_nil, Nat.reduceAdd, Nat.reduceSub, Array.replicate_succ, Array.replicate_zero, List.push_toArray, List.append_toArray, List.nil_append, List.cons_append]
  gi_wp2
  refine range_law (gf := 121) (lb := #[.pointer (some ⟨b1, 0, none⟩)]) rfl (enters_of Tryz.func121 (by kernel_rfl) rfl) hG (fun _ => rfl)
    (fun W W' => Off (fun k => k < lo ∨ k = lo + 1 ∨ k = lo + 2) W W' ∧ IntsAt W' A n) (fun i W => Hid (GIn w lo A n V i W)) (fun _ _ => False)
    (fun A1 A2 h k _ _ _ => by rw [h.heap]) (fun A1 A2 h k h2 h3 h4 => h.1.block k h4 (by omega)) ?kp ?inv (fun _ _ _ h _ => h.elim) ?ok (Lib.hid G0)
    (fun x => { tmps := #[.slice none 0 0, .func (.func 121) #[] #[.pointer (some ⟨b1, 0, none⟩)], .pointer (some ⟨lo, 0, none⟩), undef, .slice none 0 0, .int .i64 x, .func (.func 121) #[] #[.pointer (some ⟨b1, 0, none⟩)], .int .i64 x, undef, undef, undef, undef, undef], defers := [] }) ?assign ?body ?done (fun _ _ _ _ h _ => h.elim)
  case kp =>
    intro A1 B1 C1 D1 hs g1 g2 g3 _ j hj
    rw [z1] at g1 g3
    obtain ⟨ad, v, e, hc⟩ := g2.2 j hj
    refine ⟨ad, v, e, (World.cell?_of_block (g3.block _ (cell_in hc) (fun e' => ?_))).trans hc⟩
    injection e' with e'
    have := hlA ad e (by omega)
    rw [add_block] at e'
    omega
  case inv =>
    intro i A1 A2 h g
    have hg : A1.grownBy A2 (some (lo + 2)) := by
      rcases g with g | g
      · rw [z1] at g
        exact g
      · exact ⟨g.os, g.tape, g.output, by rw [g.heap]; exact Nat.le_refl _, fun k _ _ => by rw [g.heap]⟩
    obtain ⟨s, b1', b2', b3'⟩ := h.out.box
    have hO : Off (fun k => k ≠ lo + 2) A1 A2 := Off.grown hg (fun k e' => by cases e'; exact fun hh => hh rfl)
    have hb : Below lo A1 A2 := hO.below (by have := cell_in b1'; have : lo < A1.heap.size := this; omega) (fun k hk => by omega)
    refine Lib.hid ⟨⟨s, hO.cell b1' (by show lo ≠ lo + 2; omega), hO.free b1' b2' (by show lo ≠ lo + 2; omega), b3'.kept hg ?_⟩, h.out.its.below hb, h.out.below.trans hb⟩
    rcases e : s.ownBlock with _ | q
    · exact .inl rfl
    · have := (b3'.lt q e).1
      exact .inr (fun e' => by injection e' with e'; omega)
  case ok =>
    rintro i x A1 A2 r ⟨ad, e2, hc⟩ hr h
    refine ⟨ad, e2, (World.cell?_of_block (h.block _ (cell_in hc) (fun e' => ?_))).trans hc⟩
    injection e' with e'
    rw [add_block] at e'
    have hcc := hc
    unfold World.cell? at hcc
    rw [add_block, e', hr] at hcc
    cases hcc
  case assign =>
    intro l x W K hK
    gi_wp2
    exact hK
  case body =>
    rintro l i x W hs hi ⟨ad, hA, hc⟩ hG
    rw [z1] at hs
    obtain ⟨sv, b1', b2', b3'⟩ := hG.out.box
    have hx : x = V i := by
      obtain ⟨ad', e', _, hc', _⟩ := hG.out.its i hi
      rw [hA] at e'
      cases e'
      rw [hc] at hc'
      injection hc' with hc'
      injection hc' with _ hc'
    have HX := Lib.hid hx
    have hlt : lo < W.heap.size := by omega
    have HB3 := Lib.hid b3'
    have HCl : Hid (∀ (z : Nat) (u : Value), [Value.int .i64 x][z]? = some u → (W.alloc (.cells #[.int .i64 x] 3)).cell? ((⟨W.heap.size, 0, none⟩ : Addr).add z) = some u) := Lib.hid fun z u hz => by
      rw [Addr.add_mid, Nat.zero_add]
      exact ((lies_new W 3 [.int .i64 x]).cell z).trans hz
    have HIts := Lib.hid hG.out.its
    have HBw := Lib.hid hG.out.below
    have f1 := b2'
    clear hx hA hc hG b3'
    gi_wp2_with (gi_at_builtin; refine wpListIn_append_own _ rfl (.tmp 8) (.tmp 10) 22 rfl (lo + 3) 3 i0 (.int .i64 0) 1 8 Tryz.underlying22 hi0 hz0 hs0 hb0 rfl (by decide) _ i _ rfl (HB3.out.alloc _) ⟨W.heap.size, 0, none⟩ 1 1 [.int .i64 x] rfl rfl HCl.out (fun u hu => by simp at hu; subst hu; rfl) (by unfold maxLen; omega) (by omega) (by rw [size_alloc]; omega) ?_; intro v3 w3 hr3 hg3 _; obtain ⟨g3, cc3, rfl, hg3l, _, _, _⟩ := owns_some hr3 (Nat.succ_pos i); have HR3 := Lib.hid hr3; have HG3 := Lib.hid hg3; have hO3 : Off (fun k => k < lo + 3) W w3 := (Off.grown (World.grownBy_alloc W (.cells #[.int .i64 x] 3) none) (fun k e' => by cases e')).trans (Off.grown hg3 (fun k e' => by have := (HB3.out.lt k e').1; omega)); have n1 := hO3.cell b1' (by show lo < lo + 3; omega); have n2 := hO3.free b1' b2' (by show lo < lo + 3; omega); have HO3 := Lib.hid hO3)
    have hO4 : Off (fun k => k < lo ∨ k = lo + 1 ∨ k = lo + 2) W (w3.setCell ⟨lo, 0, none⟩ (.slice (some ⟨g3, 0, none⟩) (i + 1) cc3)) := (HO3.out.less (fun q hq => by omega)).trans (Off.setCell (fun hq => by have : lo < lo ∨ lo = lo + 1 ∨ lo = lo + 2 := hq; omega) _)
    have hb4 : Below lo W (w3.setCell ⟨lo, 0, none⟩ (.slice (some ⟨g3, 0, none⟩) (i + 1) cc3)) := hO4.below (by omega) (fun k hk => .inl hk)
    have hI4 := HIts.out.below hb4
    refine ⟨⟨hO4, ints_of_its hI4⟩, Lib.hid ⟨⟨_, World.cell?_setCell_same' _ _ _ (by rw [n1]; rfl), (World.frozen?_setCell _ _ _ _).trans n2, ?_⟩, hI4, HBw.out.trans hb4⟩⟩
    have h5 := HR3.out
    rw [HX.out, ← icells_snoc] at h5
    exact owns_far h5 (fun e => by injection e with e; have : g3 = lo := e; omega) _
  case done =>
    rintro D1 W hD hG hk
    rw [z1] at hD
    obtain ⟨sv, b1', b2', b3'⟩ := hG.out.box
    have hDl := (Array.getElem?_eq_some_iff.1 hk).1
    have hb2 : Below (lo + 1) W (W.putObj D1 (.deferred none)) := below_row (grownBy_putObj' _ D1 _) (by omega) (fun z e => by cases e; exact hD)
    have hrow := ownsRow_putObj2 b3' (.deferred none) hk rfl
    have HF : Hid ((W.putObj D1 (.deferred none)).ownsRow lo 3 1 sv n (icells V n) ∧ Below lo w (W.putObj D1 (.deferred none))) := Lib.hid ⟨own_less hrow (by omega), hG.out.below.trans (hb2.mono (by omega))⟩
    clear hG b3' hrow
    gi_wp2
    refine ⟨by simp, .inl ⟨_, _, rfl, run_takeDeferred hk, ?_⟩⟩
    exact ⟨sv, by simp [results, Tryz.results125, go_sem], sv, rfl, HF.out.1, HF.out.2⟩
end Go.Proofs.YtbkdloebbbmkaaaGreat

namespace Go.Proofs.YtbkdloebbbmkaaaGreat
open Go.RowKit Go.Shelf

theorem below_cells {B b : Nat} (hb : B ≤ b) : ∀ (vs : List Value) (o : Nat) (w : World), Below B w (w.setCells b o vs)
  | [], _, _ => Below.refl _ _
  | v :: r, o, w => ((Below.refl B w).setCell (p := ⟨b, o, none⟩) hb v).trans (below_cells hb r (o + 1) _)
theorem below_grow_ {B : Nat} {w : World} (hB : B ≤ w.heap.size) (os : Array Obj) : Below B w (Go.Sort.grow w os) := ⟨rfl, rfl, rfl, by simp [Go.Sort.grow], fun k hk => by
  have : k < w.heap.size := by omega
  simp [Go.Sort.grow, Array.getElem?_append, this]⟩
/-- sorted numbers in new memory. -/
def SortedAt (w : World) (lo n : Nat) (V : Nat → Int) (v : Value) : Prop :=
  (n = 0 → ∃ A c, v = .slice A 0 c) ∧ (0 < n → ∃ g c, ∃ ys : List Int, v = .slice (some ⟨g, 0, none⟩) n c ∧ lo ≤ g ∧ g < w.heap.size ∧ ys.length = n ∧ ys.Perm ((List.range n).map V) ∧ ys.Pairwise (· ≤ ·) ∧ ∀ j, j < n → w.cell? ⟨g, j, none⟩ = some (.int .i64 (ys.getD j 0)))
set_option maxRecDepth 100000 in
set_option maxHeartbeats 3200000 in
theorem sorted_any (A : Option Addr) (n c b1 : Nat) (V : Nat → Int) (w : World) (hn : n ≤ 4194304) (h1 : b1 < w.heap.size) (c1 : w.cell? ⟨b1, 0, none⟩ = some (.slice A n c)) (ho : Its w w.heap.size A n V) :
    Calls Tryz.prog 101 #[.func (.func 121) #[] #[.pointer (some ⟨b1, 0, none⟩)]] w fun e w' => ∃ v, e = .returned v ∧ SortedAt w' w.heap.size n V v ∧ Below w.heap.size w w' := by
  have HA := Lib.hid (appendSeq_any A n c b1 V w hn h1 c1 ho)
  have HV := Lib.hid (fun i (hi : i < n) => (by obtain ⟨_, _, _, _, h⟩ := ho i hi; exact h : -9223372036854775808 ≤ V i ∧ V i ≤ 9223372036854775807))
  obtain ⟨lo, hlo⟩ : ∃ lo, w.heap.size = lo := ⟨_, rfl⟩
  rw [hlo] at HA ⊢
  have HCo : Hid (Calls Tryz.prog 120 #[.func (.func 121) #[] #[.pointer (some ⟨b1, 0, none⟩)]] w fun e w' => ∃ v, e = .returned v ∧ w'.ownsRow lo 3 1 v n (icells V n) ∧ Below lo w w') := Lib.hid (by
    clear ho
    go_enter Tryz.func120, Tryz.ntmps120
    go_wp2_with fail
    refine HA.out.mono ?_
    rintro e w1 ⟨v1, rfl, ho1, k1⟩
    have HO := Lib.hid ho1
    clear HA ho1
    go_wp2_with fail
    go_ret
    exact ⟨_, rfl, HO.out, k1⟩)
  clear HA ho c1
  go_enter Tryz.func101, Tryz.ntmps101
  go_wp2_with fail
  refine HCo.out.mono ?_
  rintro e w1 ⟨v1, rfl, ho1, k1⟩
  clear HCo
  rcases Nat.eq_zero_or_pos n with rfl | hn0
  · obtain ⟨A', c', rfl, _⟩ := ItsR.of_own ho1 (fun i hi => absurd hi (Nat.not_lt_zero i))
    have hS : Calls Tryz.prog 36 #[.slice A' 0 c'] w1 fun e w' => e = .returned (.tuple #[]) ∧ w' = w1 := Any.slices_Sort_int_none sortLays A' c' w1
    have HS := Lib.hid hS
    clear ho1 hS
    go_wp2_with fail
    refine HS.out.mono ?_
    rintro e w2 ⟨rfl, rfl⟩
    clear HS
    go_wp2_with fail
    go_ret
    exact ⟨_, rfl, ⟨fun _ => ⟨_, _, rfl⟩, fun h => absurd h (Nat.lt_irrefl 0)⟩, k1⟩
  · obtain ⟨g, cap, rfl, hg1, hg2, hc1, hc2⟩ := owns_some ho1 hn0
    obtain ⟨zs, hzs⟩ : ∃ zs, (List.range n).map V = zs := ⟨_, rfl⟩
    have hzl : zs.length = n := by rw [← hzs]; simp
    have hzd : ∀ j, j < n → zs.getD j 0 = V j := fun j hj => by
      rw [← hzs, List.getD_eq_getElem?_getD, List.getElem?_map, List.getElem?_range hj]
      rfl
    have hcell : ∀ j, j < zs.length → w1.cell? ⟨g, 0 + j, none⟩ = some (.int .i64 (zs.getD j 0)) := fun j hj => by
      rw [hzl] at hj
      rw [Nat.zero_add, hzd j hj, ho1.cellAt j (by omega)]
      exact icells_at V n j hj
    have hH := Lib.holds_of_ints (n := zs.length) (Nat.le_refl _) hcell (fun j _ => owns_free ho1 (0 + j))
    rw [List.take_of_length_le (Nat.le_refl _)] at hH
    have hS := Any.slices_Sort_int sortLays g 0 cap zs w1 hH hg2 (by omega)
    have hyl : (zs.mergeSort fun x y => decide (x ≤ y)).length = zs.length := by simp
    have hS2 : Calls Tryz.prog 36 #[.slice (some ⟨g, 0, none⟩) n cap] w1 fun e w' => e = .returned (.tuple #[]) ∧ SortedAt w' lo n V (.slice (some ⟨g, 0, none⟩) n cap) ∧ Below lo w1 w' := by
      rw [hzl] at hS
      refine Calls.mono hS ?_
      rintro e w2 ⟨rfl, q, os, rfl⟩
      rw [Lib.sorted_world _ w1 g 0 q _ _ os hH (by simp)]
      have hb : Below lo w1 (Go.Sort.grow ((w1.drewN q).setCells g 0 ((zs.mergeSort fun x y => decide (x ≤ y)).map (Value.int .i64))) os) := by
        have h3 : Below lo w1 ((w1.drewN q).setCells g 0 ((zs.mergeSort fun x y => decide (x ≤ y)).map (Value.int .i64))) := (below_drewN' (Below.refl lo w1) q).trans (below_cells hg1 _ _ _)
        exact h3.trans (below_grow_ (by have := h3.size; have := k1.size; omega) os)
      refine ⟨rfl, ⟨fun h => by omega, fun _ => ⟨g, cap, zs.mergeSort fun x y => decide (x ≤ y), rfl, hg1, Nat.lt_of_lt_of_le hg2 hb.size, hyl.trans hzl, by rw [hzs]; exact List.mergeSort_perm _ _, ?_, fun j hj => ?_⟩⟩, hb⟩
      · have := List.pairwise_mergeSort (le := fun (x y : Int) => decide (x ≤ y)) (fun a b c h1 h2 => by simp at h1 h2 ⊢; omega) (fun a b => by simp; omega) zs
        exact this.imp (by simp)
      · have := Lib.cells_sorted_ints (W := w1) (b := g) (off := 0) (n := zs.length) (q := q) (zs := zs) (ys := zs.mergeSort fun x y => decide (x ≤ y)) (os := os) (Nat.le_refl _) hyl hcell j (by simp [hzl]; omega)
        rw [Nat.zero_add] at this
        rw [this]
        congr 2
        rw [List.getD_eq_getElem?_getD, List.getD_eq_getElem?_getD, List.getElem?_append_left (by simp [hzl]; exact hj)]
    have HS := Lib.hid hS2
    clear hS hS2 hH hcell hzd ho1
    go_wp2_with fail
    refine HS.out.mono ?_
    rintro e w2 ⟨rfl, h2, k2⟩
    have H2 := Lib.hid h2
    clear HS h2
    go_wp2_with fail
    go_ret
    exact ⟨_, rfl, H2.out, k1.trans k2⟩

/-- how many lesser numbers there are. -/
def rkN (V : Nat → Int) (n p : Nat) : Nat := Pl.cnt (fun q => decide (V q < V p)) n
theorem countP_cnt (V : Nat → Int) (x : Int) : ∀ n, ((List.range n).map V).countP (· < x) = Pl.cnt (fun q => decide (V q < x)) n
  | 0 => rfl
  | n + 1 => by
    rw [List.range_succ, List.map_append, List.countP_append, countP_cnt V x n, Pl.cnt_succ]
    by_cases h : V n < x <;> simp [h]
theorem cnt_less {f g : Nat → Bool} {n i : Nat} (h : ∀ q, q < n → f q = true → g q = true) (hi : i < n) (hg : g i = true) (hf : f i = false) : Pl.cnt f n < Pl.cnt g n := by
  obtain ⟨s, h1, h2⟩ := sel_nat f n
  exact pigeon_more (fun j hj => ⟨(h1 j hj).1, h _ (h1 j hj).1 (h1 j hj).2⟩) h2 hi hg (fun j hj e => by
    have := (h1 j hj).2
    rw [e, hf] at this
    cases this)
theorem rkN_lt {V : Nat → Int} {n p : Nat} (hp : p < n) : rkN V n p < n := by
  have := cnt_less (f := fun q => decide (V q < V p)) (g := fun _ => true) (n := n) (i := p) (fun _ _ _ => rfl) hp rfl (by simp)
  rw [cnt_all _ n (fun _ _ => rfl)] at this
  exact this
theorem rkN_iff {V : Nat → Int} {n i j : Nat} (hi : i < n) (hj : j < n) : V i < V j ↔ xi (rkN V n) i < xi (rkN V n) j := by
  have up : ∀ a b, a < n → b < n → V a < V b → rkN V n a < rkN V n b := fun a b ha _ h =>
    cnt_less (i := a) (fun q _ hq => by simp at hq ⊢; omega) ha (by simp [h]) (by simp)
  constructor
  · intro h
    show ((rkN V n i : Nat) : Int) < ((rkN V n j : Nat) : Int)
    have := up i j hi hj h
    omega
  · intro h
    have h : ((rkN V n i : Nat) : Int) < ((rkN V n j : Nat) : Int) := h
    rcases Int.lt_trichotomy (V i) (V j) with g | g | g
    · exact g
    · have : rkN V n i = rkN V n j := by unfold rkN; rw [g]
      omega
    · have := up j i hj hi g
      omega
end Go.Proofs.YtbkdloebbbmkaaaGreat

namespace Go.Proofs.YtbkdloebbbmkaaaGreat
open Go.RowKit Go.Shelf

/-- where the last number stands in the order. -/
theorem last_at {T : Nat → Int} {n : Nat} {s : Nat → Nat} (hE : OnceT T n) (hs : IsSA T n s) : trnB T n s (T (n - 1)) < n ∧ s (trnB T n s (T (n - 1))) = n - 1 := by
  obtain ⟨i, hi, e⟩ := hs.onto hE.1
  have hc : trnF T n s i = T (n - 1) := by
    rw [trnF_at hs hi, e]
    unfold aheadN
    rw [if_pos rfl]
  have h0 : trnC T n s (T (n - 1)) i = 0 := trnC_none' fun j hj g => by
    have hjn : j < n := by omega
    rw [trnF_at hs hjn] at g
    have hl := aheadN_lt (hs.1 j hjn)
    have : aheadN n (s j) = n - 1 := by
      by_cases q : aheadN n (s j) + 1 < n
      · exact absurd g (hE.2 _ q)
      · omega
    have : s j = 0 := by
      unfold aheadN at this
      split at this
      · assumption
      · have := hs.1 j hjn
        omega
    have := hs.inj hjn hi (by omega)
    omega
  have h1 : lfF T n s i = trnB T n s (T (n - 1)) := by
    unfold lfF
    rw [hc, h0, Nat.add_zero]
  rw [← h1]
  refine ⟨lfF_lt hi, ?_⟩
  rw [lfF_at hE hs hi, e]
  unfold aheadN
  rw [if_pos rfl]
theorem plsF_more (V : Nat → Int) (n : Nat) (P : Nat → Int) (m q : Nat) : ∀ d, ∃ R, plsF V n P m (q + d) = plsF V n P m q ++ R
  | 0 => ⟨[], (List.append_nil _).symm⟩
  | d + 1 => by
    obtain ⟨R, h⟩ := plsF_more V n P m q d
    rw [show q + (d + 1) = q + d + 1 by omega]
    by_cases g : 0 < m ∧ stB V n P m (q + d) = true
    · exact ⟨R ++ [((q + d : Nat) : Int)], by rw [plsF_hit g, h, List.append_assoc]⟩
    · exact ⟨R, by rw [plsF_miss g, h]⟩
theorem plsF_get {V : Nat → Int} {n : Nat} {P : Nat → Int} {m q : Nat} (hq : q < n) (g : 0 < m ∧ stB V n P m q = true) : lstI (plsF V n P m n) (plsF V n P m q).length = ((q : Nat) : Int) := by
  obtain ⟨R, h⟩ := plsF_more V n P m (q + 1) (n - (q + 1))
  rw [show q + 1 + (n - (q + 1)) = n by omega, plsF_hit g] at h
  unfold lstI
  rw [h, List.append_assoc, List.getD_eq_getElem?_getD, List.getElem?_append_right (Nat.le_refl _), Nat.sub_self]
  rfl
theorem lstI_room (V : Nat → Int) (n : Nat) (P : Nat → Int) (m k : Nat) (hk : k ≤ 4194304) (j : Nat) : -9223372036854775808 ≤ lstI (plsF V n P m k) j ∧ lstI (plsF V n P m k) j ≤ 9223372036854775807 := by
  unfold lstI
  by_cases h : j < (plsF V n P m k).length
  · rw [List.getD_eq_getElem?_getD, List.getElem?_eq_getElem h]
    obtain ⟨a, h1, _, _, h4⟩ := mem_plsF.1 (List.getElem_mem h)
    show _ ≤ (plsF V n P m k)[j] ∧ (plsF V n P m k)[j] ≤ _
    rw [h4]
    omega
  · rw [List.getD_eq_getElem?_getD, List.getElem?_eq_none (by omega)]
    decide

section
variable {w : World} {B g n al k : Nat} {T : Nat → Int} {s : Nat → Nat} {a : FdA}
set_option maxRecDepth 100000 in
set_option maxHeartbeats 3200000 in
theorem fdPassed_any (h : Fd w B g n T s al k a) (P : Nat → Int) (m x y L : Nat) (hm : 0 < m) (hxy : x < y) (hyn : y ≤ n) (hL : y - x = L) (hin : ∀ i, i < n → (stB T n P m (s i) = true ↔ x ≤ i ∧ i < y)) (hlen : (plsF T n P m n).length = L) :
    Calls Tryz.prog 35 #[.pointer (some ⟨g, 0, none⟩), .int .i64 (x : Int), .int .i64 (y : Int)] w fun e w' => (∃ G, e = .returned (.slice (some ⟨G, 0, none⟩) L L) ∧ ItsR w' (some ⟨G, 0, none⟩) L L (lstI (plsF T n P m n))) ∧ Below w.heap.size w w' := by
  have H := Lib.hid h
  have HN := Lib.hid hin
  have hn := h.few
  have hn0 := h.once.1
  obtain ⟨hi1, hi2⟩ := last_at h.once h.sa
  obtain ⟨i0, hi0⟩ : ∃ i0, trnB T n s (T (n - 1)) = i0 := ⟨_, rfl⟩
  rw [hi0] at hi1 hi2
  obtain ⟨c, hc⟩ : ∃ c : Nat, T (n - 1) = (c : Int) := ⟨(T (n - 1)).toNat, by have := (h.most (n - 1) (by omega)).1; omega⟩
  have hcm : c ≤ a.m := by have := (h.most (n - 1) (by omega)).2; omega
  have e1 : IntKind.i64.wrap ((y : Int) - (x : Int)) = (L : Int) := by rw [IntWalk.i64_in _ (by omega)]; omega
  have hMk := make_ints0 w L (by omega)
  have l2 := lies_new w 3 (icells (fun _ => 0) L)
  have b2 : Below w.heap.size w (w.alloc (.cells (icells (fun _ => 0) L).toArray 3)) := (Below.refl _ _).alloc (Nat.le_refl _) _
  obtain ⟨w2, hw2⟩ : ∃ w2, w.alloc (.cells (icells (fun _ => 0) L).toArray 3) = w2 := ⟨_, rfl⟩
  obtain ⟨G, hG⟩ : ∃ G, w.heap.size = G := ⟨_, rfl⟩
  rw [hw2] at hMk l2 b2
  rw [hG] at hMk l2
  have hF2 := h.keep b2
  have HG : ∀ q, Hid (Calls Tryz.prog 40 #[.pointer (some ⟨a.gb, 0, none⟩), .int .i64 (c : Int)] (w2.drewN q) fun e w' => e = .returned (.int .u64 (i0 : Int)) ∧ w2.drewN q = w') := fun q => Lib.hid (by
    have := (hF2.drewN q).below.get c (by omega)
    rw [show trnB T n s (c : Int) = i0 by rw [← hc, hi0]] at this
    exact this)
  have c0 := hF2.c0
  rw [hc] at c0
  have c3 := hF2.c3
  have e2 : IntKind.i64.wrap (i0 : Int) = (i0 : Int) := IntWalk.i64_in _ (by omega)
  have HLn := fun q => Lib.hid (fdLen_any (hF2.drewN q))
  have e3 : IntKind.i64.wrap ((n : Int) - 1) = (n : Int) - 1 := IntWalk.i64_in _ (by omega)
  have HU0 : Hid (∃ U, Lies w2 G 3 (icells U L) ∧ ∀ j, (plsF T n P m n).length ≤ j → j < L → U j = lstI (plsF T n P m n) j) := Lib.hid ⟨_, l2, fun j h1 h2 => by omega⟩
  have HLe := Lib.hid hlen
  have HB2 := Lib.hid b2
  have HI0 : Hid (s i0 + 1 = n) := Lib.hid (by omega)
  have HL := Lib.hid hL
  have hLn : L ≤ n := by omega
  clear l2 b2 hi0 hi2 hin h hF2 hlen hc hcm hL
  go_enter Tryz.func35, Tryz.ntmps35
  go_wp2_with fail
  go_quiet ((go_at_call 40; with_reducible exact quiet_keep (HG _).out))
  go_wp2_with (go_at_call 16; (with_reducible refine (HLn _).out.mono ?_); rintro e w' ⟨rfl, rfl⟩)
  go_loopw [8, 9, 10] (fun u v p wr => ∃ i q l : Nat, ∃ z : Int, q ≤ n ∧ i < n ∧ u = .int .i64 (i : Int) ∧ v = .int .i64 (l : Int) ∧ p = .int .i64 z ∧ z + 1 = (q : Int) ∧ Hid ((0 < q → s i + 1 = q) ∧ (plsF T n P m q).length = l) ∧ Hid (∃ U, Lies wr G 3 (icells U L) ∧ ∀ j, l ≤ j → j < L → U j = lstI (plsF T n P m n) j) ∧ Below w.heap.size w wr) (fun _ _ p _ => (intOf p + 1).toNat)
  case atStart => exact ⟨i0, n, L, (n : Int) - 1, Nat.le_refl _, hi1, rfl, rfl, rfl, by omega, Lib.hid ⟨fun _ => HI0.out, HLe.out⟩, Lib.hid (by
    obtain ⟨U, h1, h2⟩ := HU0.out
    exact ⟨U, h1, fun j g1 g2 => h2 j (by rw [HLe.out]; exact g1) g2⟩), below_drewN' HB2.out _⟩
  case round =>
    clear HG HLn HU0 HB2 HI0 hMk hw2
    obtain ⟨i, q, l, z, hq, hi, rfl, rfl, rfl, hz, hst, hU, hb⟩ := hrel
    by_cases hl0 : l = 0
    · subst hl0
      have g1 : decide ((0 : Int) < ((0 : Nat) : Int)) = false := by decide
      go_wp2_with fail
      go_ret
      obtain ⟨U, h1, h2⟩ := hU.out
      exact ⟨⟨G, rfl, itsR_alike h1 (by omega) (fun j hj => h2 j (Nat.zero_le _) hj) (fun j _ => lstI_room T n P m n (by omega) j)⟩, hb⟩
    · have g1 : (0 : Int) < (l : Int) := by omega
      have hq0 : 0 < q := by
        rcases Nat.eq_zero_or_pos q with e | e
        · exact absurd (by rw [← hst.out.2, e]; rfl) hl0
        · exact e
      obtain ⟨p, rfl⟩ : ∃ p, q = p + 1 := ⟨q - 1, by omega⟩
      obtain rfl : z = (p : Int) := by omega
      have hsi : s i = p := by have := hst.out.1 hq0; omega
      have hFd := H.out.keep hb
      obtain ⟨i2, hi2⟩ : ∃ i2, lfF T n s i = i2 := ⟨_, rfl⟩
      have hi2n : i2 < n := by rw [← hi2]; exact lfF_lt hi
      have HI2 : Hid (0 < p → s i2 + 1 = p) := Lib.hid fun hp => by
        rw [← hi2, lfF_at H.out.once H.out.sa hi, hsi]
        unfold aheadN
        rw [if_neg (by omega)]
        omega
      have ez : IntKind.i64.wrap ((p : Int) - 1) = (p : Int) - 1 := IntWalk.i64_in _ (by omega)
      by_cases hh : x ≤ i ∧ i < y
      · have hit : 0 < m ∧ stB T n P m p = true := ⟨hm, by rw [← hsi]; exact (HN.out i hi).2 hh⟩
        have hl1 : (plsF T n P m p).length + 1 = l := by
          have := hst.out.2
          rw [plsF_hit hit, List.length_append] at this
          exact this
        obtain ⟨l1, hl1e⟩ : ∃ l1, (plsF T n P m p).length = l1 := ⟨_, rfl⟩
        rw [hl1e] at hl1
        have hlL : l ≤ L := by
          obtain ⟨R, hR⟩ := plsF_more T n P m (p + 1) (n - (p + 1))
          rw [show p + 1 + (n - (p + 1)) = n by omega] at hR
          have h1 := HLe.out
          rw [hR, List.length_append, hst.out.2] at h1
          omega
        have hv : lstI (plsF T n P m n) l1 = (p : Int) := by rw [← hl1e]; exact plsF_get (by omega) hit
        obtain ⟨U, hU1, hU2⟩ := hU.out
        have cm : wr.cell? ⟨G, l1, none⟩ = some (.int .i64 (U l1)) := by rw [hU1.cell]; exact icells_at _ _ _ (by omega)
        have fm := hU1.free l1
        have hb3 : Below w.heap.size w (wr.setCell ⟨G, l1, none⟩ (.int .i64 (p : Int))) := hb.setCell (p := ⟨G, l1, none⟩) (by show w.heap.size ≤ G; omega) _
        have hAh := fdAhead_any (H.out.keep hb3) i hi
        rw [hi2] at hAh
        have HAh := Lib.hid hAh
        have HU3 : Hid (∃ U, Lies (wr.setCell ⟨G, l1, none⟩ (.int .i64 (p : Int))) G 3 (icells U L) ∧ ∀ j, l1 ≤ j → j < L → U j = lstI (plsF T n P m n) j) := Lib.hid ⟨putI U l1 (p : Int), by
          have := hU1.put l1 (.int .i64 (p : Int))
          rw [icells_put] at this
          exact this, fun j h1 h2 => by
            by_cases e : j = l1
            · rw [e, putI_at, hv]
            · rw [putI_off _ e]
              exact hU2 j (by omega) h2⟩
        have el : IntKind.i64.wrap ((l : Int) - 1) = (l1 : Int) := by rw [IntWalk.i64_in _ (by omega)]; omega
        have hlL1 : (l1 : Int) < (L : Int) := by omega
        have g2 : (x : Int) ≤ (i : Int) := by omega
        have g3 : decide ((x : Int) ≤ (i : Int)) = true := decide_eq_true g2
        have g4 : (i : Int) < (y : Int) := by omega
        have g5 : decide ((i : Int) < (y : Int)) = true := decide_eq_true g4
        have HS2 : Hid ((0 < p → s i2 + 1 = p) ∧ (plsF T n P m p).length = l1) := Lib.hid ⟨HI2.out, hl1e⟩
        obtain ⟨w3, hw3⟩ : ∃ w3, wr.setCell ⟨G, l1, none⟩ (.int .i64 (p : Int)) = w3 := ⟨_, rfl⟩
        rw [hw3] at hb3 HAh HU3
        clear hit hl1 hl1e hv hU1 hU2 hU hsi hst hAh hFd HI2 hi2 hh
        go_wp2_with (go_at_call 39; (with_reducible refine HAh.out.mono ?_); rintro e w4 ⟨rfl, j, rfl⟩)
        go_roundw
        case rel => exact ⟨i2, p, l1, (p : Int) - 1, by omega, hi2n, rfl, rfl, rfl, by omega, HS2, Lib.hid HU3.out, below_drewN' hb3 j⟩
        case measure => simp [intOf]
      · have hmi : ¬ (0 < m ∧ stB T n P m p = true) := fun g => hh ((HN.out i hi).1 (by rw [hsi]; exact g.2))
        have HS2 : Hid ((0 < p → s i2 + 1 = p) ∧ (plsF T n P m p).length = l) := Lib.hid ⟨HI2.out, by rw [← plsF_miss hmi]; exact hst.out.2⟩
        have hAh := fdAhead_any hFd i hi
        rw [hi2] at hAh
        have HAh := Lib.hid hAh
        clear hmi hsi hst hAh hFd HI2 hi2
        by_cases hxi : x ≤ i
        · have g2 : (x : Int) ≤ (i : Int) := by omega
          have g3 : decide ((x : Int) ≤ (i : Int)) = true := decide_eq_true g2
          have g4 : ¬ (i : Int) < (y : Int) := by omega
          have g5 : decide ((i : Int) < (y : Int)) = false := decide_eq_false g4
          have g6 : decide (i < y) = false := decide_eq_false (by omega)
          clear hh
          go_wp2_with (go_at_call 39; (with_reducible refine HAh.out.mono ?_); rintro e w4 ⟨rfl, j, rfl⟩)
          go_roundw
          case rel => exact ⟨i2, p, l, (p : Int) - 1, by omega, hi2n, rfl, rfl, rfl, by omega, HS2, Lib.hid hU.out, below_drewN' hb j⟩
          case measure => simp [intOf]
        · have g3 : decide ((x : Int) ≤ (i : Int)) = false := decide_eq_false (by omega)
          have g6 : decide (x ≤ i) = false := decide_eq_false (by omega)
          clear hh
          go_wp2_with (go_at_call 39; (with_reducible refine HAh.out.mono ?_); rintro e w4 ⟨rfl, j, rfl⟩)
          go_roundw
          case rel => exact ⟨i2, p, l, (p : Int) - 1, by omega, hi2n, rfl, rfl, rfl, by omega, HS2, Lib.hid hU.out, below_drewN' hb j⟩
          case measure => simp [intOf]

/-- slices.Sort of a row that is known whole. -/
theorem sortRow_any {w1 : World} {G n lo : Nat} {V : Nat → Int} (hlo : lo ≤ G) (hn : n ≤ 4194304) (hl : Lies w1 G 3 (icells V n)) :
    Calls Tryz.prog 36 #[.slice (some ⟨G, 0, none⟩) n n] w1 fun e w' => e = .returned (.tuple #[]) ∧ (G < w'.heap.size ∧ ∃ ys : List Int, ys.length = n ∧ ys.Perm ((List.range n).map V) ∧ ys.Pairwise (· ≤ ·) ∧ ∀ j, j < n → w'.cell? ⟨G, j, none⟩ = some (.int .i64 (ys.getD j 0))) ∧ Below lo w1 w' := by
  obtain ⟨zs, hzs⟩ : ∃ zs, (List.range n).map V = zs := ⟨_, rfl⟩
  have hzl : zs.length = n := by rw [← hzs]; simp
  have hzd : ∀ j, j < n → zs.getD j 0 = V j := fun j hj => by
    rw [← hzs, List.getD_eq_getElem?_getD, List.getElem?_map, List.getElem?_range hj]
    rfl
  have hcell : ∀ j, j < zs.length → w1.cell? ⟨G, 0 + j, none⟩ = some (.int .i64 (zs.getD j 0)) := fun j hj => by
    rw [hzl] at hj
    rw [Nat.zero_add, hzd j hj, hl.cell]
    exact icells_at V n j hj
  have hH := Lib.holds_of_ints (n := zs.length) (Nat.le_refl _) hcell (fun j _ => hl.free (0 + j))
  rw [List.take_of_length_le (Nat.le_refl _)] at hH
  have hS := Any.slices_Sort_int sortLays G 0 n zs w1 hH hl.lt (by omega)
  have hyl : (zs.mergeSort fun x y => decide (x ≤ y)).length = zs.length := by simp
  rw [hzl] at hS
  refine Calls.mono hS ?_
  rintro e w2 ⟨rfl, q, os, rfl⟩
  rw [Lib.sorted_world _ w1 G 0 q _ _ os hH (by simp)]
  have hb : Below lo w1 (Go.Sort.grow ((w1.drewN q).setCells G 0 ((zs.mergeSort fun x y => decide (x ≤ y)).map (Value.int .i64))) os) := by
    have h3 : Below lo w1 ((w1.drewN q).setCells G 0 ((zs.mergeSort fun x y => decide (x ≤ y)).map (Value.int .i64))) := (below_drewN' (Below.refl lo w1) q).trans (below_cells hlo _ _ _)
    exact h3.trans (below_grow_ (by have := h3.size; have := hl.lt; omega) os)
  refine ⟨rfl, ⟨Nat.lt_of_lt_of_le hl.lt hb.size, zs.mergeSort fun x y => decide (x ≤ y), hyl.trans hzl, by rw [hzs]; exact List.mergeSort_perm _ _, ?_, fun j hj => ?_⟩, hb⟩
  · have := List.pairwise_mergeSort (le := fun (x y : Int) => decide (x ≤ y)) (fun a b c h1 h2 => by simp at h1 h2 ⊢; omega) (fun a b => by simp; omega) zs
    exact this.imp (by simp)
  · have := Lib.cells_sorted_ints (W := w1) (b := G) (off := 0) (n := zs.length) (q := q) (zs := zs) (ys := zs.mergeSort fun x y => decide (x ≤ y)) (os := os) (Nat.le_refl _) hyl hcell j (by simp [hzl]; omega)
    rw [Nat.zero_add] at this
    rw [this]
    congr 2
    rw [List.getD_eq_getElem?_getD, List.getD_eq_getElem?_getD, List.getElem?_append_left (by simp [hzl]; exact hj)]
/-- the places of a range, put in order. -/
theorem sorted_pls {T P : Nat → Int} {n m x L : Nat} {s : Nat → Nat} {ys : List Int} (hs : IsSA T n s) (hm : 0 < m) (hx : x + L ≤ n) (hin : ∀ i, i < n → (stB T n P m (s i) = true ↔ x ≤ i ∧ i < x + L)) (hp : ys.Perm ((List.range L).map fun j => ((s (x + j) : Nat) : Int))) (hy : ys.Pairwise (· ≤ ·)) : ys = plsF T n P m n := by
  have hr := plsF_rise T n P m n
  have hnd : (plsF T n P m n).Nodup := hr.imp fun h => by omega
  have hnd2 : ((List.range L).map fun j => ((s (x + j) : Nat) : Int)).Nodup := by
    refine List.pairwise_map.2 (List.Pairwise.imp_of_mem (fun {a b} ha hb h => ?_) List.nodup_range)
    rw [List.mem_range] at ha hb
    intro e
    have := hs.inj (show x + a < n by omega) (show x + b < n by omega) (by omega)
    exact h (by omega)
  have hpp : ((List.range L).map fun j => ((s (x + j) : Nat) : Int)).Perm (plsF T n P m n) := (List.perm_ext_iff_of_nodup hnd2 hnd).2 fun z => by
    rw [List.mem_map, mem_plsF]
    constructor
    · rintro ⟨j, hj, rfl⟩
      rw [List.mem_range] at hj
      exact ⟨s (x + j), hs.1 _ (by omega), hm, stB_iff.1 ((hin (x + j) (by omega)).2 ⟨by omega, by omega⟩), rfl⟩
    · rintro ⟨a, h1, _, h3, rfl⟩
      obtain ⟨i, hi, rfl⟩ := hs.onto h1
      have := (hin i hi).1 (stB_iff.2 h3)
      exact ⟨i - x, List.mem_range.2 (by omega), by rw [show x + (i - x) = i by omega]⟩
  exact List.Perm.eq_of_pairwise (le := fun a b : Int => a ≤ b) (fun a b _ _ h1 h2 => by omega) hy (hr.imp fun h => by omega) (hp.trans hpp)

set_option maxRecDepth 100000 in
set_option maxHeartbeats 3200000 in
theorem fdPlaces_any (h : Fd w B g n T s al k a) (A : Option Addr) (m c : Nat) (P : Nat → Int) (ho : ItsR w A m c P) :
    Calls Tryz.prog 20 #[.pointer (some ⟨g, 0, none⟩), .slice A m c] w fun e w' => (∃ (A2 : Option Addr) (c2 : Nat), e = .returned (.slice A2 (plsF T n P m n).length c2) ∧ ItsR w' A2 (plsF T n P m n).length c2 (lstI (plsF T n P m n))) ∧ Below w.heap.size w w' := by
  have hnone : ∀ W, (plsF T n P m n).length = 0 → ItsR W none (plsF T n P m n).length 0 (lstI (plsF T n P m n)) := fun W e => by
    rw [e]
    exact ⟨fun _ => ⟨rfl, rfl⟩, Nat.le_refl _, Nat.zero_le _, fun j hj => absurd hj (Nat.not_lt_zero j)⟩
  have hm2 : m ≤ 9223372036854775807 := by
    have h1 := ho.2.1
    have h2 := ho.2.2.1
    unfold maxLen at h2
    omega
  rcases Nat.eq_zero_or_pos m with rfl | hm
  · have HE : Hid ((plsF T n P 0 n).length = 0) := Lib.hid (by rw [plsF_none]; rfl)
    have HN := Lib.hid (hnone w HE.out)
    clear h ho hnone
    go_enter Tryz.func20, Tryz.ntmps20
    go_wp2_with fail
    go_ret
    exact ⟨⟨none, 0, by rw [HE.out]; rfl, HN.out⟩, Below.refl _ _⟩
  · have H := Lib.hid h
    have HRa := fdRange_any h A m c P ho
    obtain ⟨x, y, hxy⟩ : ∃ x y, rngF (fun i => stB T n P m (s i)) n = (x, y) := ⟨_, _, rfl⟩
    rw [hxy] at HRa
    have HRa : Hid (Calls Tryz.prog 18 #[.pointer (some ⟨g, 0, none⟩), .slice A m c] w fun e w' => e = .returned (.tuple #[.int .i64 (x : Int), .int .i64 (y : Int)]) ∧ Below w.heap.size w w') := Lib.hid HRa
    have hle := rngF_le (fun i => stB T n P m (s i)) n
    rw [hxy] at hle
    have hle : x ≤ y ∧ y ≤ n := hle
    have hlen := rngF_places (T := T) (P := P) h.sa hm
    rw [hxy] at hlen
    have hlen : y - x = (plsF T n P m n).length := hlen
    have hin : ∀ i, i < n → (stB T n P m (s i) = true ↔ x ≤ i ∧ i < y) := fun i hi => by
      have := rngF_in (P := P) (m := m) h.sa hi
      rwa [hxy] at this
    have hn := h.few
    have HNo := Lib.hid hnone
    have g0 : ((m : Int) == 0) = false := by rw [beq_eq_false_iff_ne]; omega
    have g0' : ¬ m = 0 := by omega
    obtain ⟨L, hL⟩ : ∃ L, y - x = L := ⟨_, rfl⟩
    by_cases he : x = y
    · subst he
      have HE : Hid ((plsF T n P m n).length = 0) := Lib.hid (by omega)
      have g1 : ((x : Int) == (x : Int)) = true := by simp
      clear h ho hnone hxy hle hlen hin hL
      go_enter Tryz.func20, Tryz.ntmps20
      go_wp2_with fail
      refine HRa.out.mono ?_
      rintro e w1 ⟨rfl, hb⟩
      have HB := Lib.hid hb
      clear hb
      go_wp2_with fail
      go_ret
      exact ⟨⟨none, 0, by rw [HE.out]; rfl, HNo.out _ HE.out⟩, HB.out⟩
    · have g1 : ((x : Int) == (y : Int)) = false := by rw [beq_eq_false_iff_ne]; omega
      have g2 : ¬ x = y := he
      have e1 : IntKind.i64.wrap ((y : Int) - (x : Int)) = (L : Int) := by rw [IntWalk.i64_in _ (by omega)]; omega
      have HP := Lib.hid (And.intro hlen (And.intro hin hL))
      have hLn : L ≤ n := by omega
      have hxL : x + L ≤ n := by omega
      have hL0 : 0 < L := by omega
      clear h ho hnone hxy hlen hin hL he
      go_enter Tryz.func20, Tryz.ntmps20
      go_wp2_with fail
      refine HRa.out.mono ?_
      rintro e w1 ⟨rfl, hb⟩
      have HB := Lib.hid hb
      have HDe := Lib.hid (fdDear_any (H.out.keep hb) L (by omega))
      clear hb HRa
      go_wp2_with fail
      refine HDe.out.mono ?_
      rintro e w2 ⟨r, rfl, q, rfl⟩
      have hb2 := below_drewN' HB.out q
      clear HDe
      rcases r with _ | _
      · have hMk := make_ints0 (w1.drewN q) L (by omega)
        have l2 := lies_new (w1.drewN q) 3 (icells (fun _ => 0) L)
        have b2 : Below (w1.drewN q).heap.size (w1.drewN q) ((w1.drewN q).alloc (.cells (icells (fun _ => 0) L).toArray 3)) := (Below.refl _ _).alloc (Nat.le_refl _) _
        obtain ⟨w3, hw3⟩ : ∃ w3, (w1.drewN q).alloc (.cells (icells (fun _ => 0) L).toArray 3) = w3 := ⟨_, rfl⟩
        have hsz := hb2.size
        obtain ⟨G, hG⟩ : ∃ G, (w1.drewN q).heap.size = G := ⟨_, rfl⟩
        rw [hw3] at hMk l2 b2
        rw [hG] at hMk l2 hsz
        have hB3 := hb2.trans (b2.mono hb2.size)
        have HL2 := Lib.hid l2
        clear hw3 hG b2 l2 hb2
        go_wp2_with fail
        go_loopw [36] (fun v wr => ∃ i : Nat, i ≤ L ∧ v = .int .i64 (i : Int) ∧ Hid (∃ U, Lies wr G 3 (icells U L) ∧ ∀ j, j < i → U j = ((s (x + j) : Nat) : Int)) ∧ Below w.heap.size w wr) (fun v _ => L - (intOf v).toNat)
        case atStart => exact ⟨0, Nat.zero_le _, rfl, Lib.hid ⟨_, HL2.out, fun j hj => absurd hj (Nat.not_lt_zero j)⟩, hB3⟩
        case round =>
          clear HL2 hB3 hMk
          obtain ⟨i, hi, rfl, hU, hb⟩ := hrel
          obtain ⟨U, hU1, hU2⟩ := hU.out
          by_cases hlt : i < L
          · have hlti : (i : Int) < (L : Int) := by omega
            have hPl := fdPlace_in (H.out.keep hb) (x + i) (by omega)
            obtain ⟨z, hz⟩ : ∃ z, x + i = z := ⟨_, rfl⟩
            have e2 : IntKind.i64.wrap ((x : Int) + (i : Int)) = (z : Int) := by rw [IntWalk.i64_in _ (by omega)]; omega
            rw [hz] at hPl
            obtain ⟨p, hp⟩ : ∃ p, s z = p := ⟨_, rfl⟩
            obtain ⟨t, ht⟩ : ∃ t, p % k = t := ⟨_, rfl⟩
            rw [hp, ht] at hPl
            have HPl := Lib.hid hPl
            have cm : wr.cell? ⟨G, i, none⟩ = some (.int .i64 (U i)) := by rw [hU1.cell]; exact icells_at _ _ _ hlt
            have fm := hU1.free i
            have HU3 : Hid (∀ j, (∃ U, Lies ((wr.drewN j).setCell ⟨G, i, none⟩ (.int .i64 (p : Int))) G 3 (icells U L) ∧ ∀ j, j < i + 1 → U j = ((s (x + j) : Nat) : Int)) ∧ Below w.heap.size w ((wr.drewN j).setCell ⟨G, i, none⟩ (.int .i64 (p : Int)))) := Lib.hid fun j => ⟨⟨putI U i (p : Int), by
              have := (hU1.drewN_ j).put i (.int .i64 (p : Int))
              rw [icells_put] at this
              exact this, fun j hj => by
                by_cases e : j = i
                · rw [e, putI_at, hz, hp]
                · rw [putI_off _ e]
                  exact hU2 j (by omega)⟩, (below_drewN' hb j).setCell (p := ⟨G, i, none⟩) hsz _⟩
            clear hPl hU1 hU2 hU hp ht hz hb
            go_wp2_with (go_at_call 23; (with_reducible refine HPl.out.mono ?_); rintro e w4 ⟨rfl, j, rfl⟩; have HU4 := Lib.hid (HU3.out j))
            go_roundw
            case rel => exact ⟨i + 1, by omega, by go_num, Lib.hid HU4.out.1, HU4.out.2⟩
            case measure => simp [intOf]; omega
          · obtain rfl : i = L := by omega
            have hge : ¬ (i : Int) < (i : Int) := by omega
            have HSo := Lib.hid (sortRow_any (lo := w.heap.size) hsz (by omega) hU1)
            have HU := Lib.hid hU2
            clear hU hU1 hU2
            go_wp2_with (go_at_call 36; (with_reducible refine HSo.out.mono ?_); rintro e w4 ⟨rfl, hys, hb4⟩; have HYs := Lib.hid hys; have HB4 := Lib.hid hb4; clear hys hb4)
            go_ret
            obtain ⟨hlt4, ys, hy1, hy2, hy3, hy4⟩ := HYs.out
            obtain ⟨hlen, hin, hL⟩ := HP.out
            have hye : ys = plsF T n P m n := sorted_pls (x := x) (L := i) H.out.sa hm hxL (fun j hj => by rw [hin j hj]; omega) (hy2.trans (List.Perm.of_eq (List.map_congr_left fun j hj => HU.out j (List.mem_range.1 hj)))) hy3
            have hli : (plsF T n P m n).length = i := by rw [← hye, hy1]
            refine ⟨⟨some ⟨G, 0, none⟩, i, by rw [hli]; rfl, ?_⟩, hb.trans HB4.out⟩
            rw [hli]
            refine ⟨fun e => (by cases e), Nat.le_refl _, by unfold maxLen; omega, fun j hj => ⟨_, rfl, hlt4, ?_, lstI_room T n P m n (by omega) j⟩⟩
            rw [Addr.add_mid, Nat.zero_add, hy4 j hj, hye]
            rfl
      · have HPa := Lib.hid (fdPassed_any ((H.out.keep HB.out).drewN q) P m x y L hm (by omega) (by omega) HP.out.2.2 HP.out.2.1 (by rw [← HP.out.1]; exact HP.out.2.2))
        have hs2 := hb2.size
        go_wp2_with fail
        refine HPa.out.mono ?_
        rintro e w3 ⟨⟨G, rfl, hi⟩, hb3⟩
        have HI := Lib.hid hi
        have HB3 : Hid (Below w.heap.size w w3) := Lib.hid (hb2.trans (hb3.mono hb2.size))
        clear hi hb3 hb2 HPa
        go_wp2_with fail
        go_ret
        have hli : (plsF T n P m n).length = L := by rw [← HP.out.1]; exact HP.out.2.2
        exact ⟨⟨some ⟨G, 0, none⟩, L, by rw [hli]; rfl, by rw [hli]; exact HI.out⟩, HB3.out⟩
end

theorem fdNarrow_nil (x y c : Int) (w : World) : Calls Tryz.prog 25 #[.pointer none, .int .i64 x, .int .i64 y, .int .i64 c] w fun e w' => e = .returned (.tuple #[.int .i64 0, .int .i64 0]) ∧ w = w' := by
  have HL := Lib.hid (fdLen_nil w)
  by_cases h0 : x < 0
  · have d0 : decide (x < 0) = true := decide_eq_true h0
    go_enter Tryz.func25, Tryz.ntmps25
    go_wp2_with fail
    go_ret2
    exact ⟨rfl, rfl⟩
  have d0 : decide (x < 0) = false := decide_eq_false h0
  by_cases h1 : y ≤ x
  · have d1 : decide (y ≤ x) = true := decide_eq_true h1
    go_enter Tryz.func25, Tryz.ntmps25
    go_wp2_with fail
    go_ret2
    exact ⟨rfl, rfl⟩
  have d1 : decide (y ≤ x) = false := decide_eq_false h1
  have d2 : decide (0 < y) = true := decide_eq_true (by omega)
  go_enter Tryz.func25, Tryz.ntmps25
  go_wp2_with (go_at_call 16; (with_reducible refine HL.out.mono ?_); rintro e w' ⟨rfl, rfl⟩)
  go_ret2
  exact ⟨rfl, rfl⟩
end Go.Proofs.YtbkdloebbbmkaaaGreat

namespace Go.Proofs.YtbkdloebbbmkaaaGreat
open Go.RowKit

theorem turnedOf_one {V T : Nat → Int} {n wh : Nat} {s : Nat → Nat} (hs : IsSA T n s) (hw : wh < n) : TurnedOf V n wh T ↔ s wh = 0 ∧ ∀ i, i < n → turnI T n (fun j => ((s j : Nat) : Int)) i = V i := by
  constructor
  · rintro ⟨s', hs', h0, hV⟩
    have e := hs.one hs'
    refine ⟨by rw [e wh hw, h0], fun i hi => ?_⟩
    rw [turnI_nat, e i hi, hV i hi]
  · rintro ⟨h0, hV⟩
    exact ⟨s, hs, h0, fun i hi => by rw [← hV i hi, turnI_nat]⟩
/-- of the first j, those like number i and ahead of it. -/
def aheadU (V : Nat → Int) (i j : Nat) : Nat := Pl.cnt (fun l => decide (V l = V i) && decide (l < i)) j
theorem aheadU_succ (V : Nat → Int) (i j : Nat) : aheadU V i (j + 1) = aheadU V i j + (if V j = V i ∧ j < i then 1 else 0) := by
  unfold aheadU
  rw [Pl.cnt_succ]
  by_cases h1 : V j = V i <;> by_cases h2 : j < i <;> simp [h1, h2]
theorem aheadU_all (V : Nat → Int) {i n : Nat} (h : i ≤ n) : aheadU V i n = aheadI V i (V i) := cnt_upto (fun l => decide (V l = V i)) i n h
/-- the list while it is found. -/
def foundB (V : Nat → Int) (n wh m : Nat) : Nat → Int := fun j => if n - m ≤ j then backT V n wh j else 0
theorem foundB_step (V : Nat → Int) (n wh m : Nat) (hm : m < n) : icells (fun j => if j = n - 1 - m then V (backAt V n wh m) else foundB V n wh m j) n = icells (foundB V n wh (m + 1)) n := icells_congr fun j hj => by
  show (if j = n - 1 - m then V (backAt V n wh m) else foundB V n wh m j) = foundB V n wh (m + 1) j
  unfold foundB
  by_cases e : j = n - 1 - m
  · rw [if_pos e, if_pos (by omega)]
    unfold backT
    rw [show n - 1 - j = m by omega]
  · rw [if_neg e]
    by_cases h : n - m ≤ j
    · rw [if_pos h, if_pos (by omega)]
    · rw [if_neg h, if_neg (by omega)]
end Go.Proofs.YtbkdloebbbmkaaaGreat

namespace Go.Proofs.YtbkdloebbbmkaaaGreat
open Go.RowKit

/-- what Make leaves. -/
def BMakePost (w : World) (n n' : Nat) (V S : Nat → Int) (e : Ending) (w' : World) : Prop :=
  (n = n' ∧ IsPerm S n → ∃ (A2 : Option Addr) (c2 : Nat), e = .returned (.tuple #[.slice A2 n c2, .int .i64 0]) ∧ ItsR w' A2 n c2 (turnI V n S)) ∧
  (¬ (n = n' ∧ IsPerm S n) → ∃ (A2 : Option Addr) (c2 : Nat), e = .returned (.tuple #[.slice A2 0 c2, .int .i64 2])) ∧ Below w.heap.size w w'
/-- what Counts leaves. -/
def BCountsPost (w : World) (n : Nat) (V : Nat → Int) (al : Int) (e : Ending) (w' : World) : Prop :=
  (RightS V n al → ∃ (A2 : Option Addr) (c2 : Nat), e = .returned (.tuple #[.slice A2 (al.toNat + 1) c2, .int .i64 0]) ∧ ItsR w' A2 (al.toNat + 1) c2 (fun x => ((belowI V n (x : Int) : Nat) : Int))) ∧
  (¬ RightS V n al → ∃ (A2 : Option Addr) (c2 : Nat), e = .returned (.tuple #[.slice A2 0 c2, .int .i64 2])) ∧ Below w.heap.size w w'
/-- what Back leaves. -/
def BBackPost (w : World) (n : Nat) (V : Nat → Int) (wh al : Int) (e : Ending) (w' : World) : Prop :=
  (¬ (RightS V n al ∧ 0 ≤ wh ∧ wh < ((max n 1 : Nat) : Int)) → ∃ (A2 : Option Addr) (c2 : Nat), e = .returned (.tuple #[.slice A2 0 c2, .int .i64 2])) ∧
  (RightS V n al → n = 0 → wh = 0 → ∃ (A2 : Option Addr) (c2 : Nat), e = .returned (.tuple #[.slice A2 0 c2, .int .i64 0])) ∧
  (RightS V n al → ∀ h : Nat, wh = (h : Int) → h < n → BackOK V n h → ∃ (A2 : Option Addr) (c2 : Nat), e = .returned (.tuple #[.slice A2 n c2, .int .i64 0]) ∧ ItsR w' A2 n c2 (backT V n h)) ∧
  (RightS V n al → ∀ h : Nat, wh = (h : Int) → h < n → ¬ BackOK V n h → ∃ (A2 : Option Addr) (c2 : Nat), e = .returned (.tuple #[.slice A2 0 c2, .int .i64 10])) ∧ Below w.heap.size w w'
theorem itsR_lit7 (w : World) (xs : List Int) (hm : xs.length ≤ maxLen) (hx : ∀ x ∈ xs, -9223372036854775808 ≤ x ∧ x ≤ 9223372036854775807) : ItsR (w.alloc (.cells (xs.map fun x => Value.int .i64 x).toArray 3)) (some ⟨w.heap.size, 0, none⟩) xs.length xs.length (litI xs) := ⟨fun e => (by cases e), Nat.le_refl _, hm, its_lit w xs hx⟩
/-- the chapter's example. -/
def bxT : Nat → Int := litI [2, 1, 3, 1, 3, 1, 0]
def bxS : Nat → Int := litI [6, 5, 3, 1, 0, 4, 2]
def bxs : Nat → Nat := fun i => [6, 5, 3, 1, 0, 4, 2].getD i 0
def bxB : Nat → Int := litI [1, 3, 3, 2, 0, 1, 1]
theorem seven {P : Nat → Prop} (h0 : P 0) (h1 : P 1) (h2 : P 2) (h3 : P 3) (h4 : P 4) (h5 : P 5) (h6 : P 6) : ∀ i, i < 7 → P i := fun i hi => by
  have h : i = 0 ∨ i = 1 ∨ i = 2 ∨ i = 3 ∨ i = 4 ∨ i = 5 ∨ i = 6 := by omega
  rcases h with rfl | rfl | rfl | rfl | rfl | rfl | rfl <;> assumption
theorem bxPerm : IsPerm bxS 7 := ⟨seven (by decide) (by decide) (by decide) (by decide) (by decide) (by decide) (by decide), fun i j hij hj => by
  revert i
  exact seven (P := fun j => ∀ i, i < j → bxS i ≠ bxS j) (by decide) (by decide) (by decide) (by decide) (by decide) (by decide) (by decide) j hj⟩
theorem bxTurn : ∀ i, i < 7 → turnI bxT 7 bxS i = bxB i := seven (by decide) (by decide) (by decide) (by decide) (by decide) (by decide) (by decide)
theorem sless_at {V : Nat → Int} {n a b : Nat} (k : Nat) (h : (List.range k).all (fun i => decide (V (a + i) = V (b + i))) = true) (h1 : b + k < n) (h2 : a + k < n) (h3 : V (a + k) < V (b + k)) : SLess V n a b := ⟨k, fun i hi => by
  have := List.all_eq_true.1 h i (List.mem_range.2 hi)
  rwa [decide_eq_true_iff] at this, h1, Nat.le_of_lt h2, .inr h3⟩
theorem bxSA : IsSA bxT 7 bxs := by
  refine isSA_of_next (seven (by decide) (by decide) (by decide) (by decide) (by decide) (by decide) (by decide)) (fun i hi => ?_)
  have h : i = 0 ∨ i = 1 ∨ i = 2 ∨ i = 3 ∨ i = 4 ∨ i = 5 := by omega
  rcases h with rfl | rfl | rfl | rfl | rfl | rfl
  · exact sless_at 0 (by decide) (by decide) (by decide) (by decide)
  · exact sless_at 1 (by decide) (by decide) (by decide) (by decide)
  · exact sless_at 3 (by decide) (by decide) (by decide) (by decide)
  · exact sless_at 0 (by decide) (by decide) (by decide) (by decide)
  · exact sless_at 0 (by decide) (by decide) (by decide) (by decide)
  · exact sless_at 2 (by decide) (by decide) (by decide) (by decide)
theorem bxEnds : EndsT bxT 7 := ⟨by decide, fun i hi => by
  have h : i = 0 ∨ i = 1 ∨ i = 2 ∨ i = 3 ∨ i = 4 ∨ i = 5 := by omega
  rcases h with rfl | rfl | rfl | rfl | rfl | rfl <;> decide⟩
theorem bxOf {V : Nat → Int} (hV : ∀ i, i < 7 → V i = bxB i) : TurnedOf V 7 4 bxT := ⟨bxs, bxSA, by decide, fun i hi => (hV i hi).trans (seven (P := fun i => bxB i = bxT (aheadN 7 (bxs i))) (by decide) (by decide) (by decide) (by decide) (by decide) (by decide) (by decide) i hi)⟩
theorem stepI_congr {V V' : Nat → Int} {n : Nat} (h : ∀ i, i < n → V i = V' i) {i : Nat} (hi : i < n) : stepI V n i = stepI V' n i := by
  unfold stepI
  rw [h i hi, belowI_congr h, aheadI_congr (fun j hj => h j (by omega))]
theorem backAt_congr {V V' : Nat → Int} {n wh : Nat} (h : ∀ i, i < n → V i = V' i) (hw : wh < n) : ∀ m, backAt V n wh m = backAt V' n wh m
  | 0 => rfl
  | m + 1 => by
    show stepI V n (backAt V n wh m) = stepI V' n (backAt V' n wh m)
    rw [stepI_congr h (backAt_lt hw m), backAt_congr h hw m]
theorem backT_congr {V V' : Nat → Int} {n wh : Nat} (h : ∀ i, i < n → V i = V' i) (hw : wh < n) (k : Nat) : backT V n wh k = backT V' n wh k := by
  unfold backT
  rw [h _ (backAt_lt hw _), backAt_congr h hw]
theorem bxNot {V : Nat → Int} (hV : ∀ i, i < 7 → V i = bxB i) : ¬ BackOK V 7 3 := fun h => by
  have h1 := h.1.2 0 (by decide)
  rw [backT_congr hV (by decide), backT_congr hV (by decide)] at h1
  exact absurd h1 (by decide)
theorem bxRight {V : Nat → Int} (hV : ∀ i, i < 7 → V i = bxB i) : RightS V 7 4 := ⟨by decide, fun i hi => by
  rw [hV i hi]
  exact seven (P := fun i => 0 ≤ bxB i ∧ bxB i < 4) (by decide) (by decide) (by decide) (by decide) (by decide) (by decide) (by decide) i hi⟩

end Go.Proofs.YtbkdloebbbmkaaaGreat

namespace Go.Proofs.YtbkdloebbbmkaaaGreat
open Go.RowKit

theorem l_aux_blen : ∀ (f x : Nat), x < 2 ^ f → Lib.bitLenAux f x = Pl.blen x
  | 0, x, h => by
    have : x = 0 := by simpa using h
    rw [this, Pl.blen_zero]; rfl
  | f + 1, x, h => by
    by_cases h0 : x = 0
    · subst h0; rw [Pl.blen_zero]; simp [Lib.bitLenAux]
    · have e : Lib.bitLenAux (f + 1) x = 1 + Lib.bitLenAux f (x / 2) := by simp [Lib.bitLenAux, h0]
      rw [Pl.blen_pos (by omega), ← l_aux_blen f (x / 2) (by rw [Nat.pow_succ] at h; omega), e]
      omega
set_option maxHeartbeats 400000 in
theorem lblen_any (x : Nat) (hx : x < 2 ^ 64) (w : World) :
    Calls Tryz.prog 54 #[.int .u64 (x : Int)] w fun e w' => e = .returned (.int .i64 (Pl.blen x : Nat)) ∧ w = w' := by
  have h := len64_any x hx w
  have e : Lib.bitLen x = Pl.blen x := l_aux_blen 64 x hx
  rw [e] at h
  have HH := Lib.hid h
  clear h e
  go_enter Tryz.func54, Tryz.ntmps54
  go_wp2_with fail
  refine HH.out.mono ?_
  rintro e w' ⟨rfl, rfl⟩
  go_wp2_with fail
  go_ret
  exact ⟨rfl, rfl⟩

end Go.Proofs.YtbkdloebbbmkaaaGreat
