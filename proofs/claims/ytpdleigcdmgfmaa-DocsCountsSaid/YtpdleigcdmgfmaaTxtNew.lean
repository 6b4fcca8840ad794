/- The developers' package text: New. -/
import Derived.Test.YtpdleigcdmgfmaaTxtRow
import Derived.Deep.RegionHeld3
import Derived.Deep.RegionLaw
import Derived.Deep.DeepCutAuto
import Derived.Deep.CutBlock
import Derived.Deep.AppendLies
import Derived.Deep.DrawnRows
namespace Go.Proofs.Ytpdleigcdmgfmaa
open Go.RowKit
attribute [local go_sem ↓] Go.wp_at_zero Go.wp_at_succ

theorem owns_ne {w : World} {B n g : Nat} {t t' : TypeId} {v : Value} {cs cs' : List Value} (h : w.ownsRow B t 1 v n cs) (hl : Lies w g t' cs') (ht : t ≠ t') : v.ownBlock ≠ some g := by
  intro e
  rcases h.2 with ⟨rfl, _⟩ | ⟨g', cap, cur, rfl, _, hg, _⟩
  · cases e
  · have e : some g' = some g := e
    cases e
    unfold Lies at hl
    rw [hl] at hg
    simp at hg
    exact ht hg.2.symm
/-- what lies when i documents are taken, j of their beginnings. -/
structure NIn (w wr : World) (L : List Part) (g i j : Nat) (dv sv : Value) (T : List Part) : Prop where
  head : Lies wr g 47 [dv, sv]
  lo : w.heap.size ≤ g
  docs : wr.ownsRow w.heap.size 44 1 dv i (pcells T)
  many : T.length = i
  same : ∀ (q : Nat) (p p0 : Part), T[q]? = some p → L[q]? = some p0 → p.sec = p0.sec
  parts : ∀ (q : Nat) (p : Part), T[q]? = some p → OwnPart wr w.heap.size p
  starts : wr.ownsRow w.heap.size 3 1 sv (j + 1) (icells (offI (docsP L)) (j + 1))
  below : Below w.heap.size w wr

section
variable {w wr w1 w2 : World} {L T : List Part} {g i j : Nat} {dv sv : Value}
theorem NIn.keep (h : NIn w wr L g i j dv sv T) (hb : Below wr.heap.size wr w1) : NIn w w1 L g i j dv sv T :=
  ⟨h.head.below hb h.head.lt, h.lo, ownsRow_keep h.docs hb, h.many, h.same, fun q p hq => (h.parts q p hq).below hb, ownsRow_keep h.starts hb, h.below.trans (hb.mono h.below.size)⟩
theorem NIn.ne1 (h : NIn w wr L g i j dv sv T) : dv.ownBlock ≠ some g := owns_ne h.docs h.head (by decide)
theorem NIn.ne2 (h : NIn w wr L g i j dv sv T) : sv.ownBlock ≠ some g := owns_ne h.starts h.head (by decide)
theorem NIn.ne3 (h : NIn w wr L g i j dv sv T) : sv.ownBlock = none ∨ sv.ownBlock ≠ dv.ownBlock := by
  rcases h.docs.2 with ⟨e, _⟩ | ⟨g', cap, cur, e, _, hg, _⟩
  · subst e
    by_cases hn : sv.ownBlock = none
    · exact .inl hn
    · exact .inr hn
  · subst e
    exact .inr (owns_ne (g := g') (cs' := cur.toList) h.starts (by unfold Lies; rw [hg]) (by decide))
/-- one more document. -/
theorem NIn.snoc {x : Part} {gg cap : Nat} (h : NIn w w1 L g i j dv sv T) (p : Part) (hp : L[i]? = some p) (hx : x.sec = p.sec) (hxo : OwnPart w1 w.heap.size x)
    (hown : w2.ownsRow w.heap.size 44 1 (.slice (some ⟨gg, 0, none⟩) (i + 1) cap) (i + 1) (pcells T ++ [.slice x.A x.n x.c])) (hgrow : (w1.alloc (.cells #[.slice x.A x.n x.c] 44)).grownBy w2 dv.ownBlock) :
    NIn w (w2.setCell ⟨g, 0, none⟩ (.slice (some ⟨gg, 0, none⟩) (i + 1) cap)) L g (i + 1) j (.slice (some ⟨gg, 0, none⟩) (i + 1) cap) sv (T ++ [x]) := by
  have ha : w1.grownBy w2 dv.ownBlock := grownBy_trans (World.grownBy_alloc w1 _ _) hgrow
  have h1 := h.head.grown ha (fun e => h.ne1 e.symm)
  have hgg : g ≠ gg := fun e => by
    have h2 := owns_ne hown h1 (by decide)
    exact h2 (by rw [e]; rfl)
  have hpart : ∀ (p : Part), OwnPart w1 w.heap.size p → OwnPart (w2.setCell ⟨g, 0, none⟩ (.slice (some ⟨gg, 0, none⟩) (i + 1) cap)) w.heap.size p := fun p hp => by
    have h2 := hp.grown h.docs ha
    rcases h2 with h2 | ⟨gp, cur, e1, e2, e3, e4⟩
    · exact .inl h2
    · refine .inr ⟨gp, cur, e1, e2, (Below.heap_setCell w2 ⟨g, 0, none⟩ _ gp (fun e => ?_)).trans e3, e4⟩
      have e : gp = g := e
      subst e
      unfold Lies at h1
      rw [h1] at e3
      simp at e3
  refine ⟨h1.put 0 _, h.lo, ?_, by rw [List.length_append, h.many]; rfl, fun q p' p0 hq h0 => ?_, fun q p' hq => ?_, ?_, ?_⟩
  · rw [pcells_snoc]
    exact hown.kept (grownBy_put (g := g) (grownBy_of_below (Below.refl _ _) _) 0 _) (.inr (fun e => hgg (by injection e with e; exact e.symm)))
  · rcases snoc_at h.many hq with ⟨e1, e2⟩ | ⟨rfl, rfl⟩
    · exact h.same q p' p0 e2 h0
    · rw [hp] at h0
      cases h0
      exact hx
  · rcases snoc_at h.many hq with ⟨e1, e2⟩ | ⟨rfl, rfl⟩
    · exact hpart _ (h.parts q p' e2)
    · exact hpart _ hxo
  · have h2 := h.starts.kept ha h.ne3
    exact h2.kept (grownBy_put (g := g) (grownBy_of_below (Below.refl _ _) _) 0 _) (.inr h.ne2)
  · exact (h.below.grown ha h.below.size (fun k hk => (h.docs.lt k hk).1)).setCell h.lo _
/-- one more beginning. -/
theorem NIn.next {gg cap : Nat} {x : Int} (h : NIn w wr L g i j dv sv T) (hx : x = offI (docsP L) (j + 1)) (hg : wr.grownBy w1 none)
    (hown : w2.ownsRow w.heap.size 3 1 (.slice (some ⟨gg, 0, none⟩) (j + 1 + 1) cap) (j + 1 + 1) (icells (offI (docsP L)) (j + 1) ++ [.int .i64 x])) (hgrow : w1.grownBy w2 sv.ownBlock) :
    NIn w (w2.setCell ⟨g, 1, none⟩ (.slice (some ⟨gg, 0, none⟩) (j + 1 + 1) cap)) L g i (j + 1) dv (.slice (some ⟨gg, 0, none⟩) (j + 1 + 1) cap) T := by
  subst hx
  have ha : wr.grownBy w2 sv.ownBlock := grownBy_trans ⟨hg.os, hg.tape, hg.output, hg.size, fun k hk _ => hg.block k hk (by simp)⟩ hgrow
  have h1 := h.head.grown ha (fun e => h.ne2 e.symm)
  have hgg : g ≠ gg := fun e => by
    have h2 := owns_ne hown h1 (by decide)
    exact h2 (by rw [e]; rfl)
  have hne : dv.ownBlock = none ∨ dv.ownBlock ≠ sv.ownBlock := by
    rcases h.ne3 with e | e
    · by_cases hd : dv.ownBlock = none
      · exact .inl hd
      · exact .inr (by rw [e]; exact hd)
    · exact .inr (fun e' => e e'.symm)
  refine ⟨h1.put 1 _, h.lo, ?_, h.many, h.same, fun q p hq => ?_, ?_, ?_⟩
  · have h2 := h.docs.kept ha hne
    exact h2.kept (grownBy_put (g := g) (grownBy_of_below (Below.refl _ _) _) 1 _) (.inr h.ne1)
  · rcases h.parts q p hq with h2 | ⟨gp, cur, e1, e2, e3, e4⟩
    · exact .inl h2
    · have hlt := (Array.getElem?_eq_some_iff.1 e3).1
      have e5 : w2.heap[gp]? = wr.heap[gp]? := ha.block gp hlt (fun e => by
        have h2 := owns_ne (g := gp) (cs' := cur.toList) h.starts (by unfold Lies; rw [e3]) (by decide)
        exact h2 e.symm)
      refine .inr ⟨gp, cur, e1, e2, (Below.heap_setCell w2 ⟨g, 1, none⟩ _ gp (fun e => ?_)).trans (e5.trans e3), e4⟩
      have e : gp = g := e
      subst e
      have h3 := h.head
      unfold Lies at h3
      rw [h3] at e3
      simp at e3
  · rw [icells_snoc]
    exact hown.kept (grownBy_put (g := g) (grownBy_of_below (Below.refl _ _) _) 1 _) (.inr (fun e => hgg (by injection e with e; exact e.symm)))
  · exact (h.below.grown ha h.below.size (fun k hk => (h.starts.lt k hk).1)).setCell h.lo _
theorem NIn.txt {P : Option Addr} {k : Nat} (h : NIn w wr L g k k dv sv T) (hk : L.length = k) (hr : RightT (docsP L)) (ho : Secs w w.heap.size P L) : ∃ (y cx cy : Nat) (X : Option Addr), Txt w.heap.size wr g X cx y cy T (docsP L) := by
  have hS : (docsP L).length = k := by rw [docsP_length, hk]
  have hd : docsP T = docsP L := by
    apply List.ext_getElem?
    intro q
    by_cases hq : q < k
    · obtain ⟨p', hp'⟩ : ∃ p, T[q]? = some p := ⟨_, List.getElem?_eq_getElem (by rw [h.many]; exact hq)⟩
      obtain ⟨p, hp⟩ : ∃ p, L[q]? = some p := ⟨_, List.getElem?_eq_getElem (by rw [hk]; exact hq)⟩
      rw [docsP_at hp', docsP_at hp, h.same q p' p hp' hp]
    · rw [List.getElem?_eq_none (by rw [docsP_length, h.many]; omega), List.getElem?_eq_none (by rw [docsP_length, hk]; omega)]
  obtain ⟨X, cx, rfl⟩ : ∃ (X : Option Addr) (cx : Nat), dv = .slice X k cx := by
    rcases h.docs.2 with ⟨e, h0⟩ | ⟨g', cap, cur, e, _⟩
    · exact ⟨none, 0, by rw [e, h0]⟩
    · exact ⟨_, cap, e⟩
  obtain ⟨y, cy, rfl, _, _⟩ := h.starts.form (by omega)
  refine ⟨y, cx, cy, X, ?_, h.lo, ?_, hd, h.parts, ?_, hr, fun x hx j hj => ?_⟩
  · rw [hS]; exact h.head
  · rw [hS]; exact h.docs
  · rw [hS]; exact h.starts
  · unfold docsP at hx
    obtain ⟨p, hp, rfl⟩ := List.mem_map.1 hx
    obtain ⟨q, hq⟩ := List.getElem?_of_mem hp
    obtain ⟨_, _, _, _, _, _, _, hb⟩ := ho q p hq
    exact (hb j hj).elim fun _ h => h.2.2.2
end

set_option maxRecDepth 100000 in
set_option maxHeartbeats 3200000 in
theorem tnew_any (P : Option Addr) (c : Nat) (L : List Part) (w : World) (hl : L.length ≤ c) (hcm : c ≤ maxLen) (ho : Secs w w.heap.size P L) :
    Calls Try.prog 9 #[.slice P L.length c] w fun e w' =>
      (RightT (docsP L) → ∃ (g y cx cy : Nat) (X : Option Addr) (T : List Part), e = .returned (.tuple #[.pointer (some ⟨g, 0, none⟩), .int .i64 0]) ∧ Txt w.heap.size w' g X cx y cy T (docsP L)) ∧ (¬ RightT (docsP L) → e = .returned (.tuple #[.pointer none, .int .i64 80])) ∧ Below w.heap.size w w' := by
  have HF := Lib.hid (tfit_any P c L w.heap.size w (by omega) ho)
  have HO := Lib.hid ho
  obtain ⟨k, hk⟩ : ∃ k, L.length = k := ⟨_, rfl⟩
  rw [hk] at HF hl ⊢
  have HK := Lib.hid hk
  have hkc : k ≤ 9223372036854775807 := by unfold maxLen at hcm; omega
  have HRt : Hid (RightT (docsP L) ↔ (k ≤ 256 ∧ bytesT (docsP L) ≤ 65536)) := Lib.hid (by unfold RightT; rw [docsP_length, hk])
  clear ho hk hcm
  by_cases hr : k ≤ 256 ∧ bytesT (docsP L) ≤ 65536
  · rw [decide_eq_true hr] at HF
    obtain ⟨i0, hi0, hz0, hs0, hb0⟩ := info_parts info_sl
    obtain ⟨i1, hi1, hz1, hs1, hb1⟩ := info_parts info_i64
    obtain ⟨W0, hW0⟩ : ∃ W, (w.alloc (.cells #[.int .i64 0] 3)).alloc (.cells #[.slice none 0 0, .slice (some ⟨w.heap.size, 0, none⟩) 1 1] 47) = W := ⟨_, rfl⟩
    have hB0 : Below w.heap.size w W0 := by rw [← hW0]; exact ((Below.refl _ _).alloc (Nat.le_refl _) _).alloc (by rw [size_alloc]; omega) _
    have l1 := lies_new (w.alloc (.cells #[.int .i64 0] 3)) 47 [.slice none 0 0, .slice (some ⟨w.heap.size, 0, none⟩) 1 1]
    have hrow0 : (w.alloc (.cells #[.int .i64 0] 3)).ownsRow w.heap.size 3 1 (.slice (some ⟨w.heap.size, 0, none⟩) 1 1) 1 (icells (offI (docsP L)) 1) := World.ownsRow_lit w #[.int .i64 0] 1 (Nat.le_refl _) (by unfold maxLen; omega) rfl
    have hN0 : NIn w W0 L (w.heap.size + 1) 0 0 (.slice none 0 0) (.slice (some ⟨w.heap.size, 0, none⟩) 1 1) [] := by
      rw [← hW0]
      refine ⟨by rw [size_alloc] at l1; exact l1, by omega, World.ownsRow_nil _ _ _ _, rfl, fun q p p0 hq => by simp at hq, fun q p hq => by simp at hq, hrow0.alloc _, by rw [hW0]; exact hB0⟩
    have HN0 := Lib.hid hN0
    have HW0 := Lib.hid hW0
    obtain ⟨g, hg⟩ : ∃ g, w.heap.size + 1 = g := ⟨_, rfl⟩
    rw [hg] at HN0
    have HG := Lib.hid hg
    clear hN0 hW0 hB0 l1 hrow0 hg
    go_enter Try.func9, Try.ntmps9
    go_wp2_with (go_at_call 21; (with_reducible refine HF.out.mono ?_); rintro e w' ⟨rfl, rfl⟩)
    rw [HW0.out, HG.out]
    clear HW0
    go_loopw [15] (fun v wr => ∃ (i : Nat) (dv sv : Value) (T : List Part), i ≤ k ∧ v = .int .i64 (i : Int) ∧ Hid (NIn w wr L g i i dv sv T)) (fun v _ => k - (intOf v).toNat)
    case atStart => exact ⟨0, _, _, _, Nat.zero_le _, rfl, HN0⟩
    case round =>
      clear HN0
      obtain ⟨i, dv, sv, T, hi, rfl, H⟩ := hrel
      have hb := H.out.below
      have hbs := hb.size
      by_cases hlt : i < k
      · have hlti : (i : Int) < (k : Int) := by omega
        obtain ⟨p, hp⟩ : ∃ p, L[i]? = some p := ⟨_, List.getElem?_eq_getElem (by rw [HK.out]; exact hlt)⟩
        obtain ⟨ad, rfl, _, hc, hnc, hcm, hpA, hpb⟩ := (HO.out.below hb) i p hp
        have hpn : p.n ≤ 65536 := by
          have h1 := bytesT_mem (List.mem_of_getElem? (docsP_at hp))
          have h1 : p.n ≤ bytesT (docsP L) := h1
          omega
        have HC : Hid (∀ W, Below wr.heap.size wr W → Hid (Calls Try.prog 22 #[.slice p.A p.n p.c] W fun e w' => ∃ q : Part, e = .returned (.slice q.A q.n q.c) ∧ q.sec = p.sec ∧ OwnPart w' w.heap.size q ∧ Below wr.heap.size wr w')) := Lib.hid fun W hW => Lib.hid ((tclone_any p W (by omega) hpA ((hpb.below (hW.mono hbs)).mono_ (by have := hW.size; omega))).mono fun e w' ⟨q, h1, h2, _, h4, h5⟩ => ⟨q, h1, h2, h4.lower (Nat.le_trans hbs hW.size), hW.trans (h5.mono hW.size)⟩)
        have HP := Lib.hid hp
        have hpm : p.c ≤ 9223372036854775807 := by unfold maxLen at hcm; omega
        have hc0 : wr.cell? ⟨g, 0, none⟩ = some dv := H.out.head.cell 0
        have hi256 : i + 1 ≤ 257 := by omega
        have lg := H.out.head.lt
        have hbd := below_drew' (Below.refl wr.heap.size wr)
        clear hp hpA hpb hcm
        obtain ⟨A, z, cc, V⟩ := p
        have HC : Hid (∀ W, Below wr.heap.size wr W → Hid (Calls Try.prog 22 #[.slice A z cc] W fun e w' => ∃ q : Part, e = .returned (.slice q.A q.n q.c) ∧ q.sec = (⟨z, V⟩ : Sec) ∧ OwnPart w' w.heap.size q ∧ Below wr.heap.size wr w')) := HC
        go_upto_region 7 with (fail)
        go_cut [] (fun wx => ∃ (dv' : Value) (x : Part), NIn w wx L g (i + 1) i dv' sv (T ++ [x]))
        case first =>
          go_region_law
            ((first
              | (go_simp; go_at_call 22; (with_reducible refine (HC.out _ hbd).out.mono ?_); rintro e w1 ⟨q, rfl, hq, hqo, hb1⟩; have H1 := Lib.hid (H.out.keep hb1); have hc1 : w1.cell? ⟨g, 0, none⟩ = some dv := H1.out.head.cell 0; have lg1 := H1.out.head.lt; have hs1 := H1.out.below.size)
              | (refine step_append_lies _ (by rfl) (.tmp 24) (.tmp 27) _ (by rfl) w.heap.size 44 i0 _ 1 24 Try.underlying22 hi0 hz0 hs0 hb0 rfl (by omega) dv i (pcells T) (by rfl) (H1.out.docs.alloc _)
                  ⟨w1.heap.size, 0, none⟩ 1 1 [.slice q.A q.n q.c] (by rfl) (by rfl) (World.news_of_block (cs := #[.slice q.A q.n q.c]) (t := 44) (fr := (0, 0)) (heap_alloc_new w1 _)) (by simp [Value.oneCell'])
                  (by omega) (by unfold maxLen; omega) (by omega) (by simp; omega) (w1.heap.size + 1) (by simp) ?_; intro gg cap w2 hown2 hgrow hat hlt2; have hfz : w2.frozen? ⟨g, 0, none⟩ = false := (World.frozen?_of_block (a := ⟨g, 0, none⟩) (hgrow.block g (by simp; omega) (fun e => H1.out.ne1 e.symm))).trans ((H1.out.head.alloc _).free 0); have hcx : w2.cell? ⟨g, 0, none⟩ = some dv := (World.cell?_of_block (a := ⟨g, 0, none⟩) (hgrow.block g (by simp; omega) (fun e => H1.out.ne1 e.symm))).trans ((H1.out.head.alloc _).cell 0))))
          all_goals
            go_wp2_with fail
            go_meet
            exact ⟨_, q, H1.out.snoc _ HP.out hq hqo hown2 hgrow⟩
        case rest =>
          obtain ⟨dv', x, hN⟩ := hcut
          have hT1 : (docsP L)[i]? = some ⟨z, V⟩ := docsP_at HP.out
          have hof := offT_succ hT1
          have hle : offT (docsP L) i + (z + 1) ≤ 65792 := by
            have h1 := offT_in hT1
            have h2 := lenT_is (docsP L)
            rw [docsP_length, HK.out] at h2
            have h1 : offT (docsP L) i + (z + 1) ≤ lenT (docsP L) := h1
            omega
          have hof : offT (docsP L) (i + 1) = offT (docsP L) i + (z + 1) := hof
          obtain ⟨y, cy, rfl, _, hyl⟩ := hN.starts.form (by omega)
          have hcy := owns_room hN.starts
          have hci : wc.cell? ⟨y, i, none⟩ = some (.int .i64 ((offT (docsP L) i : Nat) : Int)) := by
            rw [hN.starts.cellAt i (by omega)]
            exact icells_at (offI (docsP L)) (i + 1) i (by omega)
          obtain ⟨oi, ho⟩ : ∃ o, offT (docsP L) i = o := ⟨_, rfl⟩
          rw [ho] at hci hof hle
          have hx : ((oi + (z + 1) : Nat) : Int) = offI (docsP L) (i + 1) := by unfold offI; rw [hof]
          have hw1 : IntKind.i64.wrap ((oi : Int) + (z : Int)) = ((oi + z : Nat) : Int) := by rw [IntWalk.i64_in _ (by omega)]; omega
          have hw2 : IntKind.i64.wrap (((oi + z : Nat) : Int) + 1) = ((oi + (z + 1) : Nat) : Int) := by rw [IntWalk.i64_in _ (by omega)]; omega
          have hw3 : IntKind.i64.wrap ((oi : Int) + (z : Int) + 1) = ((oi + (z + 1) : Nat) : Int) := by rw [IntWalk.i64_in _ (by omega)]; omega
          have hii : (i : Int) < (i : Int) + 1 := by omega
          have hc1 : wc.cell? ⟨g, 1, none⟩ = some (.slice (some ⟨y, 0, none⟩) (i + 1) cy) := hN.head.cell 1
          have hcm : cy ≤ 9223372036854775807 := by have := hcy.2; unfold maxLen at this; omega
          have hcl := hcy.1
          have hsz := hN.below.size
          have lg2 := hN.head.lt
          have HN := Lib.hid hN
          have HX := Lib.hid hx
          have hne := hN.ne2
          have hgn : wc.grownBy ((wc.alloc (.cells #[.int .i64 ((oi + (z + 1) : Nat) : Int)] 3)).drew) none := grownBy_drew (World.grownBy_alloc wc _ _)
          have HGn := Lib.hid hgn
          clear hN hx ho hof hT1 hgn hcy HC H hbd hc0 hb hbs lg
          go_upto_region 8 with (fail)
          go_region_law
            ((refine step_append_lies _ (by rfl) (.tmp 35) (.tmp 47) _ (by rfl) w.heap.size 3 i1 _ 1 8 Try.underlying23 hi1 hz1 hs1 hb1 rfl (by omega) (.slice (some ⟨y, 0, none⟩) (i + 1) cy) (i + 1) (icells (offI (docsP L)) (i + 1)) (by rfl) ((HN.out.starts.alloc _).drew)
                  ⟨wc.heap.size, 0, none⟩ 1 1 [.int .i64 ((oi + (z + 1) : Nat) : Int)] (by rfl) (by rfl) (World.news_of_block (cs := #[.int .i64 ((oi + (z + 1) : Nat) : Int)]) (t := 3) (fr := (0, 0)) (heap_alloc_new wc _)) (by simp [Value.oneCell'])
                  (by omega) (by unfold maxLen; omega) (by omega) (by simp; omega) (wc.heap.size + 1) (by simp) ?_; intro gg cap w2 hown2 hgrow hat hlt2; have hfz : w2.frozen? ⟨g, 1, none⟩ = false := (World.frozen?_of_block (a := ⟨g, 1, none⟩) (hgrow.block g (by simp; omega) (fun e => hne e.symm))).trans (((HN.out.head.alloc _).drew).free 1); have hcx : w2.cell? ⟨g, 1, none⟩ = some (.slice (some ⟨y, 0, none⟩) (i + 1) cy) := (World.cell?_of_block (a := ⟨g, 1, none⟩) (hgrow.block g (by simp; omega) (fun e => hne e.symm))).trans (((HN.out.head.alloc _).drew).cell 1)))
          all_goals
            go_wp2_with fail
            go_roundw
            case rel => exact ⟨i + 1, _, _, _, by omega, by go_num, Lib.hid (HN.out.next HX.out HGn.out hown2 hgrow)⟩
            case measure => simp [intOf]; omega
      · obtain rfl : i = k := by omega
        obtain ⟨y, cx, cy, X, hX⟩ := H.out.txt HK.out (HRt.out.2 hr) HO.out
        go_wp2_with fail
        go_ret2
        exact ⟨fun _ => ⟨g, y, cx, cy, X, T, rfl, hX⟩, fun h => absurd (HRt.out.2 hr) h, hb⟩
  · rw [decide_eq_false hr] at HF
    go_enter Try.func9, Try.ntmps9
    go_wp2_with (go_at_call 21; (with_reducible refine HF.out.mono ?_); rintro e w' ⟨rfl, rfl⟩)
    go_ret2
    exact ⟨fun h => absurd (HRt.out.1 h) hr, fun _ => rfl, Below.refl _ _⟩
end Go.Proofs.Ytpdleigcdmgfmaa
