/- The document's function of layer 18: Ranked. -/
import Derived.Test.YthbnojhcmfhnhaaBestMath
import Derived.Deep.AppendLies
import Derived.Deep.QuietTactic
import Derived.BigQuiet
namespace Go.Proofs.Ythbnojhcmfhnhaa
open Go.RowKit

/-- pairs that are written out. -/
theorem prs_lit (w : World) (D : List (Int × Nat)) (hl : D.length ≤ 4194304) (hd : ∀ d ∈ D, d.2 ≤ 4194304) : PrsR (w.alloc (.cells (prcells D).toArray 39)) (some ⟨w.heap.size, 0, none⟩) D := by
  have h := lies_new w 39 (prcells D)
  refine ⟨hl, fun i d hi => ⟨w.heap.size, 0, rfl, by rw [size_alloc]; omega, ?_, ?_, hd d (List.mem_of_getElem? hi)⟩⟩
  · rw [Nat.zero_add, h.cell]
    exact (prcells_at hi).1
  · rw [Nat.zero_add, h.cell]
    exact (prcells_at hi).2
/-- append of an empty pair: where the new row lies. -/
theorem step_append_pair0 {ops : Array Oper} {rest : List Oper} {o : Oper} {a : Act} {Q : Exit → Act → World → Prop} (hgd : o.guard = none) (s x : Operand)
    (ho : o.op = .call { callee := .builtin .append, args := #[s, x], argTypes := #[30, 30] })
    {w : World} {B : Nat} {v : Value} {i : Nat} {xs : List Value} (hs : a.eval s = v) (hown : w.ownsRow B 39 2 v i xs) (hx : a.eval x = .slice (some ⟨w.heap.size, 0, none⟩) 1 1) (hB : B ≤ w.heap.size) (hi : i ≤ 4194304) (N : Nat) (hN : i + 1 = N)
    (h : ∀ g cap w', Hid (w'.ownsRow B 39 2 (.slice (some ⟨g, 0, none⟩) N cap) N (xs ++ [.int .i64 0, .int .i64 0])) → Hid (w.grownBy w' v.ownBlock ∧ (v.ownBlock = some g ∨ w.heap.size ≤ g)) → Below B w w' → wpList Try.prog ops Q rest (a.put o.dst (.slice (some ⟨g, 0, none⟩) N cap)) w') :
    wpList Try.prog ops Q (o :: rest) a (w.alloc (.cells #[.int .i64 0, .int .i64 0] 39)) := by
  obtain ⟨i0, hi0, hz0, hs0, hb0⟩ := info_parts info_pair
  subst hN
  refine wpList_append_lies (w.alloc (.cells #[.int .i64 0, .int .i64 0] 39)) hgd s x 30 ho B 39 i0 (.agg #[.int .i64 0, .int .i64 0]) 2 16 Try.underlying30 hi0 hz0 hs0 hb0 rfl (by decide) v i xs hs (hown.alloc _) ⟨w.heap.size, 0, none⟩ 1 1 [.int .i64 0, .int .i64 0] hx rfl
    (World.news_of_block (cs := #[.int .i64 0, .int .i64 0]) (t := 39) (fr := (0, 0)) (heap_alloc_new w _)) (by simp [Value.oneCell']) (by decide) (by unfold maxLen; omega) (by omega) (by rw [size_alloc]; omega) (w.heap.size + 1) (by rw [size_alloc]) (fun g cap w' h1 h2 h3 _ => ?_)
  have hg := grownBy_trans (World.grownBy_alloc w _ _) h2
  refine h g cap w' (Lib.hid h1) (Lib.hid ⟨hg, h3.imp id (fun e => by omega)⟩) ?_
  exact ((Below.refl _ _).alloc hB _).grown h2 (by rw [size_alloc]; omega) (fun k hk => (hown.lt k hk).1)
/-- the row so far, the pair that is put in, and what has turned. -/
structure RkS (w1 w : World) (B : Nat) (u : Value) (i : Nat) (R : List (Int × Nat)) (gp : Nat) (s : Int) (t : Nat) : Prop where
  own : w.ownsRow B 39 2 u i (prcells R)
  one : w.cell? ⟨gp, 0, none⟩ = some (.int .i64 s)
  two : w.cell? ⟨gp, 1, none⟩ = some (.int .i64 (t : Int))
  lt : gp < w.heap.size
  below : Below B w1 w
/-- a pair stored whole. -/
theorem RkS.put {w1 w : World} {B g M cg : Nat} {R R' : List (Int × Nat)} {gp : Nat} {s : Int} {t : Nat} (h : RkS w1 w B (.slice (some ⟨g, 0, none⟩) M cg) M R gp s t) (hg : g ≠ gp) (j : Nat) (x : Int) (y : Nat) (hR : R.set j (x, y) = R') : RkS w1 ((w.setCell ⟨g, j * 2, none⟩ (.int .i64 x)).setCell ⟨g, j * 2 + 1, none⟩ (.int .i64 (y : Int))) B (.slice (some ⟨g, 0, none⟩) M cg) M R' gp s t := by
  have hgB := (h.own.lt g rfl).1
  have ho := owns_put2 (owns_put2 h.own (j * 2) (.int .i64 x)) (j * 2 + 1) (.int .i64 (y : Int))
  rw [prcells_set2 R j (x, y), hR] at ho
  have hk : ((w.setCell ⟨g, j * 2, none⟩ (.int .i64 x)).setCell ⟨g, j * 2 + 1, none⟩ (.int .i64 (y : Int))).heap[gp]? = w.heap[gp]? := (Below.heap_setCell _ ⟨g, j * 2 + 1, none⟩ _ gp (fun e => hg e.symm)).trans (Below.heap_setCell _ ⟨g, j * 2, none⟩ _ gp (fun e => hg e.symm))
  refine ⟨ho, (World.cell?_of_block hk).trans h.one, (World.cell?_of_block hk).trans h.two, ?_, (h.below.setCell (p := ⟨g, j * 2, none⟩) hgB _).setCell (p := ⟨g, j * 2 + 1, none⟩) hgB _⟩
  have := h.lt
  simpa [World.setCell] using this
theorem RkS.drew {w1 w : World} {B : Nat} {u : Value} {i : Nat} {R : List (Int × Nat)} {gp : Nat} {s : Int} {t : Nat} (h : RkS w1 w B u i R gp s t) (n : Nat) : RkS w1 (w.drewN n) B u i R gp s t := ⟨h.own, h.one, h.two, h.lt, below_drewN' h.below n⟩

set_option maxRecDepth 100000 in
set_option maxHeartbeats 3200000 in
theorem refRanked_any (A : Option Addr) (n c : Nat) (V : Nat → Int) (w : World) (hn : n ≤ 4000000) (ho : Its w w.heap.size A n V) :
    Calls Try.prog 10 #[.slice A n c] w fun e w' => ∃ (u : Value) (R : List (Int × Nat)), e = .returned u ∧ BestOf (takeL V n) R ∧ R.length ≤ n ∧ w'.ownsRow w.heap.size 39 2 u R.length (prcells R) ∧ Below w.heap.size w w' := by
  have HPr := Lib.hid (refPairs_any A n c V w hn ho)
  obtain ⟨B, hB⟩ : ∃ B, w.heap.size = B := ⟨_, rfl⟩
  rw [hB] at HPr ⊢
  have HBs := Lib.hid hB
  clear ho hB
  go_enter Try.func10, Try.ntmps10
  go_wp2_with fail
  refine HPr.out.mono ?_
  rintro e w1 ⟨u, D, rfl, hP, hDn, hown, hb1⟩
  obtain ⟨k, hk⟩ : ∃ k, D.length = k := ⟨_, rfl⟩
  obtain ⟨X, cX, hX⟩ : ∃ Y cY, u = .slice Y k cY := by
    rcases owns_slice2 hown with ⟨h, e⟩ | ⟨g, c, e, _⟩
    · exact ⟨none, 0, by rw [e, ← hk, h]⟩
    · exact ⟨_, _, by rw [← hk]; exact e⟩
  subst hX
  rw [hk] at hDn hown
  have HR := Lib.hid hown
  have HP := Lib.hid hP
  have HK := Lib.hid hk
  have hB1 : B ≤ w1.heap.size := by have := hb1.size; have := HBs.out; omega
  clear hown HPr hP hk
  go_wp2_with fail
  obtain ⟨B1, hB1e⟩ : ∃ B1, w1.heap.size = B1 := ⟨_, rfl⟩
  have HB1 := Lib.hid hB1e
  rw [hB1e] at hB1
  clear hB1e
  go_loopw [3, 11] (fun u v wr => ∃ (i : Nat) (R : List (Int × Nat)), i ≤ k ∧ v = .int .i64 (i : Int) ∧ Hid (RkOf (D.take i) R) ∧ Hid (wr.ownsRow B1 39 2 u i (prcells R)) ∧ Hid (Below B1 w1 wr)) (fun _ v _ => k - (intOf v).toNat)
  case atStart => exact ⟨0, [], Nat.zero_le _, rfl, Lib.hid RkOf.none, Lib.hid (World.ownsRow_nil w1 _ _ _), Lib.hid (Below.refl _ _)⟩
  case round =>
    obtain ⟨i, R, hi, rfl, hK, hrow, hb⟩ := hrel
    by_cases hlt : i < k
    · have hlti : (i : Int) < (k : Int) := by omega
      obtain ⟨d, hd⟩ : ∃ d, D[i]? = some d := ⟨_, List.getElem?_eq_getElem (by rw [HK.out]; exact hlt)⟩
      obtain ⟨gX, cX', eX, hgB, hgs⟩ : ∃ g c, Value.slice X k cX = .slice (some ⟨g, 0, none⟩) k c ∧ B ≤ g ∧ g < w1.heap.size := by
        rcases owns_slice2 HR.out with ⟨h0, _⟩ | h
        · omega
        · exact h
      cases eX
      have hcells := prcells_at hd
      have hX1 : wr.cell? ⟨gX, i * 2, none⟩ = some (.int .i64 d.1) := by
        have h := HR.out.cells rfl (i * 2) _ hcells.1
        rw [Addr.add_mid, Nat.zero_add] at h
        exact (World.cell?_of_block (hb.out.block gX (by rw [← HB1.out]; exact hgs))).trans h
      have hX2 : wr.cell? ⟨gX, i * 2 + 1, none⟩ = some (.int .i64 ((d.2 : Nat) : Int)) := by
        have h := HR.out.cells rfl (i * 2 + 1) _ hcells.2
        rw [Addr.add_mid, Nat.zero_add] at h
        exact (World.cell?_of_block (hb.out.block gX (by rw [← HB1.out]; exact hgs))).trans h
      have HD := Lib.hid hd
      have hBw : B1 ≤ wr.heap.size := by have := hb.out.size; rw [HB1.out] at this; exact this
      obtain ⟨s, t⟩ := d
      replace hX1 : wr.cell? ⟨gX, i * 2, none⟩ = some (.int .i64 s) := hX1
      replace hX2 : wr.cell? ⟨gX, i * 2 + 1, none⟩ = some (.int .i64 (t : Int)) := hX2
      clear hcells hd
      obtain ⟨Y, cY, hY⟩ : ∃ Y cY, u3 = .slice Y i cY := by
        rcases owns_slice2 hrow.out with ⟨h, e⟩ | ⟨g, c, e, _⟩
        · exact ⟨none, 0, by rw [e, h]⟩
        · exact ⟨_, _, e⟩
      subst hY
      have hba : Below wr.heap.size wr (wr.alloc (.cells #[.int .i64 s, .int .i64 (t : Int)] 39)) := (Below.refl _ _).alloc (Nat.le_refl _) _
      have hl := lies_new wr 39 [.int .i64 s, .int .i64 (t : Int)]
      have HS0 : Hid (RkS w1 (wr.alloc (.cells #[.int .i64 s, .int .i64 (t : Int)] 39)) B1 (.slice Y i cY) i R wr.heap.size s t) := Lib.hid ⟨hrow.out.alloc _, hl.cell 0, hl.cell 1, by rw [size_alloc]; omega, hb.out.trans (hba.mono (by omega))⟩
      have HOld : Hid (∀ g, (Value.slice Y i cY).ownBlock = some g → g < wr.heap.size) := Lib.hid fun g hg => (hrow.out.lt g hg).2
      have HRl : Hid (R.length = i) := Lib.hid (by have h := hrow.out.1; rw [prcells_length] at h; omega)
      clear hba hl hb hrow
      go_upto_region 5 with (fail)
      obtain ⟨gp, hgp⟩ : ∃ g, wr.heap.size = g := ⟨_, rfl⟩
      obtain ⟨wx, hwx⟩ : ∃ W, wr.alloc (.cells #[.int .i64 s, .int .i64 (t : Int)] 39) = W := ⟨_, rfl⟩
      rw [hwx, hgp] at HS0
      rw [hgp] at HOld hBw
      rw [hwx, hgp]
      clear hwx hX1 hX2 hgp
      go_upto_block 2 with (fail)
      go_cut [6] from 15 to 30 (fun v wz => ∃ p : Nat, p ≤ i ∧ v = .int .i64 (p : Int) ∧ Hid (RkS w1 wz B1 (.slice Y i cY) i R gp s t) ∧ Hid ((∀ j d, j < p → R[j]? = some d → t ≤ d.2) ∧ ∀ d, R[p]? = some d → d.2 < t))
      case first =>
        go_wp2_with fail
        go_loopw [6] (fun v wz => ∃ p : Nat, p ≤ i ∧ v = .int .i64 (p : Int) ∧ Hid (RkS w1 wz B1 (.slice Y i cY) i R gp s t) ∧ Hid (∀ j d, j < p → R[j]? = some d → t ≤ d.2)) (fun v _ => i - (intOf v).toNat)
        case atStart => exact ⟨0, Nat.zero_le _, rfl, HS0, Lib.hid fun j d hj _ => absurd hj (Nat.not_lt_zero j)⟩
        case round =>
          clear HS0
          obtain ⟨p, hp, rfl, hS, hlow⟩ := hrel
          rename World => wz
          have HSd : ∀ q, Hid (RkS w1 (wz.drewN q) B1 (.slice Y i cY) i R gp s t) := fun q => Lib.hid (hS.out.drew q)
          by_cases hpi : p < i
          · have hpii : (p : Int) < (i : Int) := by omega
            obtain ⟨g, c', e', _⟩ : ∃ g c, Value.slice Y i cY = .slice (some ⟨g, 0, none⟩) i c ∧ B1 ≤ g ∧ g < wz.heap.size := by
              rcases owns_slice2 hS.out.own with ⟨h0, _⟩ | h
              · omega
              · exact h
            cases e'
            obtain ⟨d, hd⟩ : ∃ d, R[p]? = some d := ⟨_, List.getElem?_eq_getElem (by rw [HRl.out]; exact hpi)⟩
            have hc1 : wz.cell? ⟨g, p * 2 + 1, none⟩ = some (.int .i64 ((d.2 : Nat) : Int)) := by
              have h := hS.out.own.cells rfl (p * 2 + 1) _ (prcells_at hd).2
              rw [Addr.add_mid, Nat.zero_add] at h
              exact h
            have hc2 := hS.out.two
            obtain ⟨x, y⟩ := d
            replace hc1 : wz.cell? ⟨g, p * 2 + 1, none⟩ = some (.int .i64 (y : Int)) := hc1
            by_cases hyt : t ≤ y
            · have g1 : decide ((t : Int) ≤ (y : Int)) = true := decide_eq_true (by omega)
              have g2 : decide (t ≤ y) = true := decide_eq_true hyt
              have HL2 : Hid (∀ j d, j < p + 1 → R[j]? = some d → t ≤ d.2) := Lib.hid fun j d hj hd2 => by
                by_cases e : j = p
                · rw [e, hd] at hd2
                  cases hd2
                  exact hyt
                · exact hlow.out j d (by omega) hd2
              clear hlow hd hS
              go_wp2_with fail
              go_quiet (fail)
              go_wp2_with fail
              go_roundw
              case rel => exact ⟨p + 1, by omega, by go_num, HSd _, HL2⟩
              case measure => simp [intOf]; omega
            · have g1 : decide ((t : Int) ≤ (y : Int)) = false := decide_eq_false (by omega)
              have g2 : decide (t ≤ y) = false := decide_eq_false hyt
              have HT : Hid ((∀ j d, j < p → R[j]? = some d → t ≤ d.2) ∧ ∀ d, R[p]? = some d → d.2 < t) := Lib.hid ⟨hlow.out, fun d hd2 => by
                rw [hd] at hd2
                cases hd2
                show y < t
                omega⟩
              clear hlow hd hS
              go_wp2_with fail
              go_quiet (fail)
              go_wp2_with fail
              go_meet
              exact ⟨p, hp, rfl, HSd _, HT⟩
          · have g1 : decide ((p : Int) < (i : Int)) = false := decide_eq_false (by omega)
            have g1' : ¬ (p : Int) < (i : Int) := by omega
            have g2 : decide (p < i) = false := decide_eq_false hpi
            have HT : Hid ((∀ j d, j < p → R[j]? = some d → t ≤ d.2) ∧ ∀ d, R[p]? = some d → d.2 < t) := Lib.hid ⟨hlow.out, fun d hd2 => by
              have := (List.getElem?_eq_some_iff.1 hd2).1
              have := HRl.out
              omega⟩
            clear hlow hS
            go_wp2_with fail
            go_quiet (fail)
            go_wp2_with fail
            go_meet
            exact ⟨p, hp, rfl, HSd _, HT⟩
      case rest =>
        obtain ⟨p, hp, rfl, hS, hT⟩ := hcut
        rename World => wz
        have hBz : B1 ≤ wz.heap.size := by have := hS.out.lt; omega
        have hi4 : i ≤ 4194304 := by omega
        obtain ⟨M, hM⟩ : ∃ M, i + 1 = M := ⟨_, rfl⟩
        have HM := Lib.hid hM
        have hiM : i < M := by omega
        have hM4 : M ≤ 4194304 := by omega
        have w1' : IntKind.i64.wrap ((M : Int) - 1) = (i : Int) := by rw [IntWalk.i64_in _ (by omega)]; omega
        have HNx : Hid (RkOf (D.take M) (R.take p ++ (s, t) :: R.drop p)) := Lib.hid (by
          rw [← hM, List.take_add_one, HD.out]
          exact hK.out.ins (by rw [HRl.out]; exact hp) (fun d hd => by
            obtain ⟨j, hj⟩ := List.getElem?_of_mem hd
            have hr := HP.out.rise
            rw [List.pairwise_iff_getElem] at hr
            have hji : j < i := by
              have := (List.getElem?_eq_some_iff.1 hj).1
              rw [List.length_take] at this
              omega
            rw [List.getElem?_take_of_lt hji] at hj
            obtain ⟨q1, q2⟩ := List.getElem?_eq_some_iff.1 hj
            obtain ⟨q3, q4⟩ := List.getElem?_eq_some_iff.1 HD.out
            have := hr j i q1 q3 hji
            rw [q2, q4] at this
            exact this) hT.out.1 hT.out.2)
        clear hM hT hK HD
        go_wp2_with (at_builtin; refine step_append_pair0 rfl (.tmp 31) (.tmp 33) rfl rfl hS.out.own rfl hBz hi4 M HM.out ?_; intro g cg w4 hown4 hgr4 hb4)
        have hgp : g ≠ gp := by
          rcases hgr4.out.2 with e | e
          · have := HOld.out g e
            omega
          · have := hS.out.lt
            omega
        have hgB : B1 ≤ g := (hown4.out.lt g rfl).1
        have HS4 : Hid (RkS w1 w4 B1 (.slice (some ⟨g, 0, none⟩) M cg) M (R.take i ++ (0, 0) :: R.drop i) gp s t) := Lib.hid (by
          have hk : w4.heap[gp]? = wz.heap[gp]? := hgr4.out.1.block gp hS.out.lt (fun e => by
            have := HOld.out gp e.symm
            omega)
          refine ⟨?_, (World.cell?_of_block hk).trans hS.out.one, (World.cell?_of_block hk).trans hS.out.two, Nat.lt_of_lt_of_le hS.out.lt hb4.size, hS.out.below.trans hb4⟩
          have h := hown4.out
          rw [List.take_of_length_le (by rw [HRl.out]; exact Nat.le_refl _), List.drop_of_length_le (by rw [HRl.out]; exact Nat.le_refl _), prcells_append]
          exact h)
        clear hS hown4 hgr4 hb4 HOld hBz
        rename World => wy
        go_loopw [7] (fun v wr => ∃ (q : Nat) (y : Int × Nat), p ≤ q ∧ q ≤ i ∧ v = .int .i64 (q : Int) ∧ Hid (RkS w1 wr B1 (.slice (some ⟨g, 0, none⟩) M cg) M (R.take q ++ y :: R.drop q) gp s t)) (fun v _ => (intOf v).toNat)
        case atStart => exact ⟨i, (0, 0), hp, Nat.le_refl _, rfl, HS4⟩
        case round =>
          clear HS4
          obtain ⟨q, y, hpq, hqi, rfl, hS⟩ := hrel
          rename World => wv
          by_cases hlt2 : p < q
          · have hlti2 : (p : Int) < (q : Int) := by omega
            obtain ⟨q', rfl⟩ : ∃ q', q = q' + 1 := ⟨q - 1, by omega⟩
            have w2 : IntKind.i64.wrap (((q' + 1 : Nat) : Int) - 1) = (q' : Int) := by rw [IntWalk.i64_in _ (by omega)]; omega
            obtain ⟨d, hd⟩ : ∃ d, R[q']? = some d := ⟨_, List.getElem?_eq_getElem (by rw [HRl.out]; omega)⟩
            have hcA := prcells_at (shift_low y hd)
            have hcB := prcells_at (shift_at (R := R) (q := q' + 1) y (by rw [HRl.out]; exact hqi))
            obtain ⟨x1, x2⟩ := d
            obtain ⟨y1, y2⟩ := y
            have c1 : wv.cell? ⟨g, q' * 2, none⟩ = some (.int .i64 x1) := by
              have h := hS.out.own.cells rfl (q' * 2) _ hcA.1
              rw [Addr.add_mid, Nat.zero_add] at h
              exact h
            have c2 : wv.cell? ⟨g, q' * 2 + 1, none⟩ = some (.int .i64 (x2 : Int)) := by
              have h := hS.out.own.cells rfl (q' * 2 + 1) _ hcA.2
              rw [Addr.add_mid, Nat.zero_add] at h
              exact h
            have c3 : wv.cell? ⟨g, (q' + 1) * 2, none⟩ = some (.int .i64 y1) := by
              have h := hS.out.own.cells rfl ((q' + 1) * 2) _ hcB.1
              rw [Addr.add_mid, Nat.zero_add] at h
              exact h
            have c4 : wv.cell? ⟨g, (q' + 1) * 2 + 1, none⟩ = some (.int .i64 (y2 : Int)) := by
              have h := hS.out.own.cells rfl ((q' + 1) * 2 + 1) _ hcB.2
              rw [Addr.add_mid, Nat.zero_add] at h
              exact h
            have f1 := owns_free2 hS.out.own ((q' + 1) * 2)
            have f2 := owns_free2 hS.out.own ((q' + 1) * 2 + 1)
            have HN : Hid (RkS w1 ((wv.setCell ⟨g, (q' + 1) * 2, none⟩ (.int .i64 x1)).setCell ⟨g, (q' + 1) * 2 + 1, none⟩ (.int .i64 (x2 : Int))) B1 (.slice (some ⟨g, 0, none⟩) M cg) M (R.take q' ++ (x1, x2) :: R.drop q') gp s t) := Lib.hid (hS.out.put hgp (q' + 1) x1 x2 (shift_down hd))
            generalize hq1 : q' + 1 = q1 at w2 c3 c4 f1 f2 hlti2 hlt2 hqi hpq HN
            have b1 : (q' : Int) < (M : Int) := by omega
            have b2 : (q1 : Int) < (M : Int) := by omega
            have b3 : q' < M := by omega
            have b4 : q1 < M := by omega
            have b5 : p ≤ q' := by omega
            have b6 : q' ≤ i := by omega
            have b7 : q' < q1 := by omega
            clear hcA hcB hd hq1 hS
            go_wp2_with fail
            go_roundw
            case rel => exact ⟨q', (x1, x2), b5, b6, rfl, HN⟩
            case measure => simp [intOf]; omega
          · have hqp : q = p := by omega
            subst hqp
            have hge : ¬ (q : Int) < (q : Int) := by omega
            have hcB := prcells_at (shift_at (R := R) (q := q) y (by rw [HRl.out]; exact hqi))
            obtain ⟨y1, y2⟩ := y
            have c3 : wv.cell? ⟨g, q * 2, none⟩ = some (.int .i64 y1) := by
              have h := hS.out.own.cells rfl (q * 2) _ hcB.1
              rw [Addr.add_mid, Nat.zero_add] at h
              exact h
            have c4 : wv.cell? ⟨g, q * 2 + 1, none⟩ = some (.int .i64 (y2 : Int)) := by
              have h := hS.out.own.cells rfl (q * 2 + 1) _ hcB.2
              rw [Addr.add_mid, Nat.zero_add] at h
              exact h
            have f1 := owns_free2 hS.out.own (q * 2)
            have f2 := owns_free2 hS.out.own (q * 2 + 1)
            have p1 := hS.out.one
            have p2 := hS.out.two
            have HN : Hid (RkS w1 ((wv.setCell ⟨g, q * 2, none⟩ (.int .i64 s)).setCell ⟨g, q * 2 + 1, none⟩ (.int .i64 (t : Int))) B1 (.slice (some ⟨g, 0, none⟩) M cg) M (R.take q ++ (s, t) :: R.drop q) gp s t) := Lib.hid (hS.out.put hgp q s t (shift_put (s, t) (y1, y2) (by rw [HRl.out]; exact hqi)))
            have HOw := Lib.hid HN.out.own
            have HBl := Lib.hid HN.out.below
            have b1 : (q : Int) < (M : Int) := by omega
            have b4 : q < M := by omega
            clear hcB hS HN
            go_wp2_with fail
            go_roundw
            case rel => exact ⟨M, _, by have := HM.out; omega, by rw [← HM.out]; go_num, HNx, HOw, HBl⟩
            case measure => simp [intOf]; have := HM.out; omega
    · have hin : i = k := by omega
      have hge : ¬ (i : Int) < (k : Int) := by omega
      have HF : Hid (∃ R : List (Int × Nat), BestOf (takeL V n) R ∧ R.length ≤ n ∧ wr.ownsRow B 39 2 u3 R.length (prcells R)) := Lib.hid ⟨R, (by
        have h := hK.out
        rw [hin, ← HK.out, List.take_length] at h
        exact h.best HP.out), (by
        have h := hrow.out.1
        rw [prcells_length] at h
        omega), by
        have h := hrow.out
        have hl : R.length = i := by
          have := h.1
          rw [prcells_length] at this
          omega
        rw [hl]
        refine ⟨h.1, ?_⟩
        rcases h.2 with h0 | ⟨g, cap, cur, e1, h2, h3⟩
        · exact .inl h0
        · exact .inr ⟨g, cap, cur, e1, by omega, h3⟩⟩
      have HB2 : Hid (Below B w wr) := Lib.hid (hb1.trans (hb.out.mono hB1))
      clear hin hrow hb hK
      go_wp2_with fail
      go_ret
      obtain ⟨R, h1, h2, h3⟩ := HF.out
      exact ⟨_, rfl, R, h1, h2, h3, HB2.out⟩
end Go.Proofs.Ythbnojhcmfhnhaa
