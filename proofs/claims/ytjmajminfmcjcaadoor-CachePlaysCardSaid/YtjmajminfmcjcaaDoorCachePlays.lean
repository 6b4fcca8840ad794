/- For every input colophonlaw07.CachePlays returns true, and its arguments read as they read. No condition but that the two tables lie as the program's text lays them (the card ties it). -/
import Derived.Test.YtjmajminfmcjcaaDoorCacLaw
import Derived.Deep.SlicePairs
namespace Go.Proofs.YtjmajminfmcjcaaDoor.cachePlays
open Go.ChangeShapes Go.WideShapes Go.ChangeAt Go.RowKit

/-- a script, as it lies. -/
def Scr (w : World) (B : Nat) (A : Option Addr) (n : Nat) (V : Nat → Int × Int) : Prop :=
  ∀ k, k < n → ∃ ad : Addr, A = some ad ∧ ad.block < B ∧ w.cell? (ad.add (k * 2)) = some (.int .i64 (V k).1) ∧ w.cell? ⟨(ad.add (k * 2)).block, (ad.add (k * 2)).off + 1, none⟩ = some (.int .i64 (V k).2)
theorem Scr.below {w w' : World} {B : Nat} {A : Option Addr} {n : Nat} {V : Nat → Int × Int} (h : Scr w B A n V) (hb : Below B w w') : Scr w' B A n V := fun k hk => by
  obtain ⟨ad, e, h1, h2, h3⟩ := h k hk
  exact ⟨ad, e, h1, (hb.cell (by rw [add_block]; exact h1)).trans h2, (hb.cell (by show (ad.add (k * 2)).block < B; rw [add_block]; exact h1)).trans h3⟩
theorem cells_op : Tryd.prog.cellsOf 30 = 2 := by kernel_rfl
section
variable {H : Type} {enc : TypeId × Value → H}
set_option maxRecDepth 100000 in
theorem open_scr {W : World} {v : Value} {d : DataW H} {p : List MemPlace} {b : Nat} {r : Reach} (hv : Value.okWide Tryd.prog W r b 22 v) (h : DataW.Trod enc Tryd.prog W 0 (fun _ => true) true 22 v d p) :
    ∃ (A : Option Addr) (n c : Nat) (V : Nat → Int × Int), v = .slice A n c ∧ n ≤ maxLen ∧ (A = none → n = 0 ∧ c = 0) ∧ Scr W W.heap.size A n V := by
  obtain ⟨a0, len, cap, rfl⟩ := okWide_slice Tryd.underlying22 hv
  obtain ⟨fuel, hf⟩ := h
  rcases Go.Deep.open_slice_pairs Tryd.underlying22 Tryd.underlying30 cells_op rfl rfl cells_int cells_int hf with ⟨hcs, _⟩ | ⟨a, n, c, m, k, V0, V1, D0, D1, P0, P1, hcs, _, hl, hm, hmm, _, hi⟩
  · simp [Value.cells] at hcs
    obtain ⟨rfl, rfl, rfl⟩ := hcs
    exact ⟨none, 0, 0, fun _ => (0, 0), rfl, Nat.zero_le _, fun _ => ⟨rfl, rfl⟩, fun k hk => absurd hk (by omega)⟩
  · simp [Value.cells] at hcs
    obtain ⟨rfl, rfl, rfl⟩ := hcs
    have hnm : len ≤ m := by rw [hmm]; split <;> omega
    refine ⟨some a, len, cap, fun k => (intOf (V0 k), intOf (V1 k)), rfl, Nat.le_trans hl hm, fun e => (by cases e), fun k hk => ?_⟩
    obtain ⟨e0, e1, t0, t1⟩ := hi k (by omega)
    obtain ⟨z0, f0, _, g0⟩ := DataW.trod_int Tryd.underlying3 t0
    obtain ⟨z1, f1, _, g1⟩ := DataW.trod_int Tryd.underlying3 t1
    have q0 : V0 k = .int .i64 z0 := by simpa using f0
    have q1 : V1 k = .int .i64 z1 := by simpa using f1
    rw [q0] at e0
    rw [q1] at e1
    have hlt := cell_in e0
    rw [add_block] at hlt
    have qI : intOf (V0 k) = z0 := by rw [q0]; rfl
    have qV : intOf (V1 k) = z1 := by rw [q1]; rfl
    refine ⟨a, rfl, hlt, ?_, ?_⟩
    · show W.cell? _ = some (.int .i64 (intOf (V0 k)))
      rw [qI]; exact e0
    · show W.cell? ((a.add (k * 2)).add 1) = some (.int .i64 (intOf (V1 k)))
      rw [qV, Go.Deep.add_add]; exact e1
end

/-- has one of the first frames the page? -/
def anyTo (F : List Fr) (y : Int) (j : Nat) : Bool := (F.take j).any fun f => decide (0 ≤ y) && (f.page == y)
theorem anyTo_next {F : List Fr} {y : Int} {j : Nat} {f : Fr} (h : F[j]? = some f) : anyTo F y (j + 1) = (anyTo F y j || (decide (0 ≤ y) && (f.page == y))) := by
  unfold anyTo
  rw [List.take_add_one, h, List.any_append]
  simp
theorem anyTo_all {c : CS} (y : Int) : anyTo c.F y c.F.length = hasR c y := by
  unfold anyTo hasR
  rw [List.take_length]
  by_cases hy : 0 ≤ y
  · rw [decide_eq_true hy]
    simp only [Bool.true_and]
    unfold findF
    rw [List.findIdx?_isSome]
  · rw [decide_eq_false hy]
    simp
theorem hold_page {c : CS} {y : Int} (h : (holdR c y).2.2 = 0) : 0 ≤ y ∧ y < (c.n : Int) := by
  unfold holdR at h
  split at h
  · cases h
  · omega
theorem refHold_low {lo : Nat} {w : World} {g gs cap : Nat} {sp : List Value} {c : CS} (h : RC w g gs cap sp c) (hq : Calm c) (hlo : lo ≤ w.heap.size) (hg : lo ≤ g) (hgs : lo ≤ gs) (x : Int) :
    Calls Tryd.prog 11 #[.pointer (some ⟨g, 0, none⟩), .int .i64 x] w fun e w' => ∃ gs' cap' sp', e = .returned (.tuple #[.bool (holdR c x).2.1, .int .i64 ((holdR c x).2.2 : Int)]) ∧ RC w' g gs' cap' sp' (holdR c x).1 ∧ Own2 g gs w w' ∧ (gs' = gs ∨ w.heap.size ≤ gs') ∧ lo ≤ gs' ∧ Below lo w w' := by
  refine (refHold_any h hq x).mono ?_
  rintro e w' ⟨gs', cap', sp', rfl, h1, h2, h3⟩
  exact ⟨gs', cap', sp', rfl, h1, h2, h3, by rcases h3 with rfl | h3 <;> omega, Off.below h2 hlo fun k hk => ⟨by omega, by omega⟩⟩

theorem own_same {w w' : World} {B gb n cb : Nat} {t : TypeId} {cs : List Value} (h : w.ownsRow B t 1 (.slice (some ⟨gb, 0, none⟩) n cb) n cs) (e : w'.heap[gb]? = w.heap[gb]?) : w'.ownsRow B t 1 (.slice (some ⟨gb, 0, none⟩) n cb) n cs := by
  refine ⟨h.1, ?_⟩
  rcases h.2 with ⟨h1, _⟩ | ⟨g', cap, cur, h1, h2, h3, h4⟩
  · cases h1
  · cases h1
    exact .inr ⟨gb, cb, cur, rfl, h2, e.trans h3, h4⟩
set_option maxRecDepth 100000 in
set_option maxHeartbeats 6400000 in
theorem walk (a x : Int) (A : Option Addr) (n c : Nat) (V : Nat → Int × Int) (w : World) (_ : (Lit.int .i64 a).wf = true) (_ : (Lit.int .i64 x).wf = true) (_ : n ≤ maxLen) (_ : A = none → n = 0 ∧ c = 0) (ho : Scr w w.heap.size A n V) (ht : Tabs w) :
    Calls Tryd.prog 3 #[.int .i64 a, .int .i64 x, .slice A n c] w fun e w' => e = .returned (.bool true) ∧ Below w.heap.size w w' := by
  have HF := Lib.hid (first_any w ht)
  have HT := Lib.hid ht
  have HO := Lib.hid ho
  obtain ⟨N, hk, hk1, hk20⟩ : ∃ N : Nat, wrap64 (1 + wrap64 ((IntKind.u64.wrap a).tmod 20)) = (N : Int) ∧ 1 ≤ N ∧ N ≤ 20 := by
    obtain ⟨j, hj, hj20⟩ := turn_n a 20 (by decide) (by decide)
    have hj' : wrap64 ((IntKind.u64.wrap a).tmod 20) = (j : Int) := hj
    refine ⟨j + 1, ?_, by omega, by omega⟩
    rw [hj']
    unfold wrap64
    omega
  have HK := Lib.hid hk
  clear ht ho hk
  go_enter Tryd.func3, Tryd.ntmps3
  go_wp2_with fail
  refine HF.out.mono ?_
  rintro e w0 ⟨rfl, hb0⟩
  have HM := Lib.hid (made_any N ⟨hk1, hk20⟩ x w0 (HT.out.keep hb0))
  clear HF
  go_wp2_with fail
  rw [HK.out]
  refine HM.out.mono ?_
  rintro e w1 ⟨hm1, hm2, hb1⟩
  have hB1 := hb0.trans (hb1.mono hb0.size)
  by_cases hx : 1 ≤ x ∧ x ≤ 4096
  · obtain ⟨v0, f0, L, rfl, hC0, hl0, hV⟩ := hm1 hx
    obtain ⟨k, rfl⟩ : ∃ k : Nat, x = (k : Int) := ⟨x.toNat, by omega⟩
    rw [Int.toNat_natCast] at hC0
    obtain ⟨av, rfl⟩ := hC0.ptr
    have hd1 : decide ((k : Int) < 1) = false := by simp; omega
    have hd2 : decide ((4096 : Int) < (k : Int)) = false := by simp; omega
    have hNw : IntKind.i64.wrap ((N : Int) + 1) = (N : Int) + 1 := IntWalk.i64_in _ (by omega)
    have HR : Hid (Calls Tryd.prog 9 #[.int .i64 ((N : Int) + 1), .int .i64 (k : Int)] w1 fun e w' => ∃ g gs cap sp, e = .returned (.pointer (some ⟨g, 0, none⟩)) ∧ RC w' g gs cap sp (newC (N + 1) k) ∧ w1.heap.size ≤ g ∧ w1.heap.size ≤ gs ∧ Below w1.heap.size w1 w') := Lib.hid (refCacheNew_any (N + 1) k w1 (by omega))
    have HC0 := Lib.hid hC0
    have HV : Hid (∀ y : Nat, 1 ≤ y → y ≤ N → imageOf L (264 * y) = y) := Lib.hid fun y h1 h2 => by rw [hV _ (by omega), madeS_byte h1 h2]
    have hla : ∀ j, f0 j → w.heap.size ≤ j := fun j h => Nat.le_trans hb0.size (hl0 j h)
    clear hm1 hm2 HM hC0 hl0 hV
    go_wp2_with fail
    refine HR.out.mono ?_
    rintro e w2 ⟨g, gs0, cap0, sp0, rfl, hR, hg, hgs, hb2⟩
    have hB2 := hB1.trans (hb2.mono hB1.size)
    have hs1 := hB1.size
    have HC2 := Lib.hid (HC0.out.keep hb2)
    have HRc := Lib.hid hR
    have HU : Hid (Upto (newC (N + 1) k) 0 ∧ (newC (N + 1) k).n = N + 1) := Lib.hid ⟨Upto.new _ _, rfl⟩
    have hng : ¬ f0 g := fun h => by have := HC0.out.lt h; omega
    have hngs : ¬ f0 gs0 := fun h => by have := HC0.out.lt h; omega
    have hlg : w.heap.size ≤ g := by omega
    have hlgs : w.heap.size ≤ gs0 := by omega
    generalize newC (N + 1) k = p0 at HC2 HRc HU
    clear HR HC0 hR hg hgs hb2 hB1 hb1
    go_upto_block 0 with (fail)
    go_cut [] (fun wx => Below w.heap.size w wx)
    case first =>
      go_wp2_with fail
      go_loopw [45] (fun v wr => ∃ (i : Nat) (p : CS) (fp : Nat → Prop) (gs cap : Nat) (sp : List Value), i ≤ n ∧ i ≤ 100 ∧ v = .int .i64 (i : Int) ∧ Hid (Upto p i ∧ p.n = N + 1) ∧ Hid (CacAt fp wr (.pointer (some av)) p L) ∧ Hid (RC wr g gs cap sp p) ∧ Hid (∀ j, fp j → w.heap.size ≤ j) ∧ Hid (¬ fp g ∧ ¬ fp gs) ∧ Hid (w.heap.size ≤ gs) ∧ Below w.heap.size w wr) (fun v _ => n - (intOf v).toNat)
      case atStart => exact ⟨0, p0, f0, gs0, cap0, sp0, Nat.zero_le _, Nat.zero_le _, rfl, HU, HC2, HRc, Lib.hid hla, Lib.hid ⟨hng, hngs⟩, Lib.hid hlgs, hB2⟩
      case round =>
        clear HU HC2 HRc hla hng hngs hlgs hB2
        obtain ⟨i, p, fp, gs, cap, sp, hin, hi100, rfl, hup, hC, hR, hlow, hng, hlgs, hB⟩ := hrel
        by_cases hlt : i < n
        · obtain ⟨ad, rfl, had, hV1, hV2⟩ := (HO.out.below hB) i hlt
          obtain ⟨y, hy⟩ : ∃ y, (V i).2 = y := ⟨_, rfl⟩
          obtain ⟨z, hz⟩ : ∃ z, (V i).1 = z := ⟨_, rfl⟩
          rw [hy] at hV2
          rw [hz] at hV1
          obtain ⟨W1, hW1⟩ : ∃ W, wr.alloc (.cells #[.int .i64 z, .int .i64 y] 30) = W := ⟨_, rfl⟩
          have hb1 : Below wr.heap.size wr W1 := by rw [← hW1]; exact (Below.refl _ _).alloc (Nat.le_refl _) _
          obtain ⟨b, hb⟩ : ∃ b, wr.heap.size = b := ⟨_, rfl⟩
          have hOb : Lies W1 b 30 [.int .i64 z, .int .i64 y] := by rw [← hW1, ← hb]; exact lies_new wr _ _
          have hC1 := hC.out.keep hb1
          have hR1 := hR.out.same (hb1.block g hR.out.head.lt) (hb1.block gs hR.out.body.lt)
          have hB1 := hB.trans (hb1.mono hB.size)
          have hbg : b ≠ g := by rw [← hb]; have := hR.out.head.lt; omega
          have hbgs : b ≠ gs := by rw [← hb]; have := hR.out.body.lt; omega
          have hbf : ¬ fp b := fun h => by have := hC.out.lt h; omega
          have o0 := hOb.cell 0
          have o1 := hOb.cell 1
          rw [show ([.int .i64 z, .int .i64 y] : List Value)[0]? = some (.int .i64 z) from rfl] at o0
          rw [show ([.int .i64 z, .int .i64 y] : List Value)[1]? = some (.int .i64 y) from rfl] at o1
          rw [hb] at hb1
          have hbs := hB.size
          rw [hb] at hbs
          by_cases h100 : i < 100
          · have hcalm : Calm p := hup.out.1.calm (by omega) (by rw [hup.out.2]; omega)
            have HCalm := Lib.hid hcalm
            obtain ⟨d, hd, hd3⟩ : ∃ d : Nat, (IntKind.u64.wrap z).tmod 3 = (d : Int) ∧ d < 3 := by
              have hw : 0 ≤ IntKind.u64.wrap z := by rw [IntKind.wrap_u64]; omega
              rw [Int.tmod_eq_emod_of_nonneg hw]
              exact ⟨((IntKind.u64.wrap z) % 3).toNat, by omega, by omega⟩
            have HC1 := Lib.hid hC1
            have HR1 := Lib.hid hR1
            have HOb := Lib.hid hOb
            clear hC1 hR1 hOb hcalm
            have hd012 : d = 0 ∨ d = 1 ∨ d = 2 := by omega
            rcases hd012 with rfl | rfl | rfl
            · have H1 := Lib.hid (lowHold HC1.out HCalm.out hB1.size hlow.out y)
              have hf1 : (∀ j, fp j → j ≠ g ∧ j ≠ gs) := fun j hj => ⟨fun e => hng.out.1 (e ▸ hj), fun e => hng.out.2 (e ▸ hj)⟩
              have HF1 := Lib.hid hf1
              have HUp : Hid (Upto (holdR p y).1 (i + 1) ∧ (holdR p y).1.n = N + 1) := Lib.hid ⟨hup.out.1.hold _, by rw [holdR_n]; exact hup.out.2⟩
              clear hf1
              go_wp2_with fail
              refine H1.out.mono ?_
              rintro e w3 ⟨fp2, u, rfl, hC3, hl3, hsub, hon, hb3, hrow, hnone⟩
              have hs13 := hon.size
              have hB3 := hB1.trans hb3
              have hg1 := HR1.out.head.lt
              have hgs1 := HR1.out.body.lt
              have hbl := HOb.out.lt
              have hR3 := HR1.out.same (hon.block g hg1 hng.out.1) (hon.block gs hgs1 hng.out.2)
              have hO3 : Lies w3 b 30 [.int .i64 z, .int .i64 y] := HOb.out.same (hon.block b hbl hbf)
              have hf2 : ∀ j, fp2 j → j ≠ g ∧ j ≠ gs := fun j hj => (hsub j hj).elim (HF1.out j) (fun h => ⟨by omega, by omega⟩)
              have H2 := Lib.hid (refHold_low hR3 HCalm.out hB3.size hlg hlgs.out y)
              have o3 : w3.cell? ⟨b, 1, none⟩ = some (.int .i64 y) := hO3.cell 1
              have HO3 := Lib.hid hO3
              have HC3 := Lib.hid hC3
              have HF2 := Lib.hid hf2
              have HL3 := Lib.hid hl3
              have HRow := Lib.hid hrow
              have HNone := Lib.hid hnone
              clear hR3 hO3 hC3 hf2 hl3 hsub hon hb3 hrow hnone H1 o0 o1
              go_wp2_with fail
              refine H2.out.mono ?_
              rintro e w4 ⟨gsj, capj, spj, rfl, hR4, hown, hgs', hlgs', hb4⟩
              have hs34 := hown.size
              have hB4 := hB3.trans hb4
              have hC4 := HC3.out.keepOn hown.size (fun j hj => hown.block j (HC3.out.lt hj) (HF2.out j hj))
              have hO4 : Lies w4 b 30 [.int .i64 z, .int .i64 y] := HO3.out.same (hown.block b (by omega) ⟨hbg, hbgs⟩)
              have Hnj : Hid (¬ fp2 g ∧ ¬ fp2 gsj) := Lib.hid ⟨fun h => (HF2.out g h).1 rfl, fun h => by
                rcases hgs' with rfl | h'
                · exact (HF2.out _ h).2 rfl
                · have := HC3.out.lt h; omega⟩
              have Hgj := Lib.hid hlgs'
              obtain ⟨er, her⟩ : ∃ er, (holdR p y).2.2 = er := ⟨_, rfl⟩
              obtain ⟨cj, hcj⟩ : ∃ cj, (holdR p y).1 = cj := ⟨_, rfl⟩
              rw [hcj] at hR4 hC4 HUp
              have HUj := HUp
              have HOw := Lib.hid hown
              have hbpos : Hid (b < W1.heap.size) := Lib.hid hbl
              rw [her]
              generalize (holdR p y).2.1 = hit
              have hq : ∀ q, (w4.drewN q).cell? ⟨b, 1, none⟩ = some (.int .i64 y) := fun q => hO4.cell 1
              have HR4 := Lib.hid hR4
              have HC4 := Lib.hid hC4
              have HO4 := Lib.hid hO4
              clear H2 hR4 hC4 hO4 hown hb4 o3 HUp
              by_cases he : er = 0
              · subst he
                obtain ⟨hy0, hyn⟩ := hold_page her
                obtain ⟨m, rfl⟩ : ∃ m : Nat, y = (m : Int) := ⟨y.toNat, by omega⟩
                rw [hup.out.2] at hyn
                obtain ⟨gb, cb, rfl, hgb2, hgbW, hrw⟩ := HRow.out her
                have hgbl := (hrw.lt gb rfl).2
                have hgg : gb ≠ g ∧ gb ≠ gs := ⟨by omega, by omega⟩
                have hrw4 := own_same hrw (HOw.out.block gb hgbl hgg)
                rw [Int.toNat_natCast] at hrw4
                have hU0 : ∀ j, imageOf L (264 * m + j) < 256 := fun j => HC4.out.facts.2.2.2.2.2.byte _
                have hb0 : ∀ q, (w4.drewN q).cell? ⟨gb, 0, none⟩ = some (.int .u8 ((imageOf L (264 * m) : Nat) : Int)) := fun q => by
                  have h := hrw4.cells rfl 0 _ (ycells_at _ 256 0 (by decide))
                  rw [Addr.add_mid] at h
                  exact h
                have HRw4 := Lib.hid hrw4
                have HU0 := Lib.hid hU0
                have hgbw : w.heap.size ≤ gb := by have := hB1.size; omega
                have hgsj : gb ≠ gsj := by
                  rcases hgs' with rfl | h'
                  · exact hgg.2
                  · omega
                have HGb2 := Lib.hid hgb2
                clear hrw hrw4 hU0 HRow HNone HC3 HO3 her hgb2
                by_cases hm0 : m = 0
                · subst hm0
                  go_wp2_with fail
                  go_quiet (fail)
                  go_wp2_with fail
                  go_loopw [142] (fun v wy => ∃ (j : Nat) (U : Nat → Nat), j ≤ 256 ∧ v = .int .i64 (j : Int) ∧ Hid (wy.ownsRow W1.heap.size 5 1 (.slice (some ⟨gb, 0, none⟩) 256 cb) 256 (ycells U 256)) ∧ Hid (∀ q, U q < 256) ∧ Off (fun q => q ≠ gb) w4 wy) (fun v _ => 256 - (intOf v).toNat)
                  case atStart => exact ⟨0, _, Nat.zero_le _, rfl, Lib.hid (own_same HRw4.out rfl), HU0, ⟨rfl, rfl, rfl, Nat.le_refl _, fun _ _ _ => rfl⟩⟩
                  case round =>
                    rename World => wy
                    obtain ⟨j, U, hj, rfl, hrw, hU, hoff⟩ := hrel
                    by_cases hjl : j < 256
                    · have hji : (j : Int) < 256 := by omega
                      have hcell := row_cell hrw.out hjl
                      have hfz := hrw.out.frozenAt j
                      have hx8 : bits .xor .u8 ((U j : Nat) : Int) 255 = ((U j ^^^ 255 : Nat) : Int) := u8_xor_nat (U j) 255 (hU.out j) (by decide)
                      have HST := Lib.hid (row_store (q := j) (y := U j ^^^ 255) hrw.out)
                      have hUx : U j ^^^ 255 < 2 ^ 8 := Nat.xor_lt_two_pow (hU.out j) (by decide)
                      have HU2 : Hid (∀ q, (fun q => if j = q then U j ^^^ 255 else U q) q < 256) := Lib.hid fun q => by
                        dsimp only
                        split
                        · exact hUx
                        · exact hU.out q
                      have hof2 : Off (fun q => q ≠ gb) w4 (wy.setCell ⟨gb, j, none⟩ (.int .u8 ((U j ^^^ 255 : Nat) : Int))) := hoff.trans (Off.setCell (fun h => h rfl) _)
                      clear hUx
                      go_wp2_with fail
                      go_roundw
                      case rel => exact ⟨j + 1, _, by omega, by go_num, HST, HU2, hof2⟩
                      case measure => simp [intOf]; omega
                    · obtain rfl : j = 256 := by omega
                      have hws4 := hB4.size
                      have hBj : Below w.heap.size w wy := hB4.trans (Off.below hoff hws4 (fun q hq => by omega))
                      have HCj := Lib.hid (HC4.out.keepOn hoff.size (fun q hq => hoff.block q (HC4.out.lt hq) (fun e => HGb2.out (e ▸ hq))))
                      have HRj := Lib.hid (HR4.out.same (hoff.block g HR4.out.head.lt hgg.1.symm) (hoff.block gsj HR4.out.body.lt hgsj.symm))
                      obtain ⟨fpj, hfpj⟩ : ∃ T, fp2 = T := ⟨_, rfl⟩
                      have Hlj := HL3
                      rw [hfpj] at HCj Hlj Hnj
                      clear hrw hU hoff HRw4 HU0 hb0 hq
                      have HSt1 := Lib.hid (atStats HCj.out)
                      unfold statsV at HSt1
                      go_wp2_with fail
                      refine HSt1.out.mono ?_
                      rintro e w8 ⟨rfl, hb8⟩
                      have hB8 := hBj.trans (hb8.mono hBj.size)
                      have HR8 := Lib.hid (HRj.out.same (hb8.block g HRj.out.head.lt) (hb8.block gsj HRj.out.body.lt))
                      have HC8 := Lib.hid (HCj.out.keep hb8)
                      have HSt2 := Lib.hid (refStats_any HR8.out)
                      clear HSt1 HCj HRj hb8
                      go_wp2_with fail
                      refine HSt2.out.mono ?_
                      rintro e w9 ⟨rfl, hb9⟩
                      have hB9 := hB8.trans (hb9.mono hB8.size)
                      have HR9 := Lib.hid (HR8.out.same (hb9.block g HR8.out.head.lt) (hb9.block gsj HR8.out.body.lt))
                      have HC9 := Lib.hid (HC8.out.keep hb9)
                      clear HSt2 HR8 HC8 hb9
                      go_wp2_with fail
                      go_roundw
                      case rel => exact ⟨i + 1, cj, fpj, gsj, capj, spj, by omega, by omega, by go_num, HUj, HC9, HR9, Hlj, Hnj, Hgj, hB9⟩
                      case measure => simp [intOf]; omega
                · have hmp : (0 : Int) < (m : Int) := by omega
                  have hmp2 : decide (0 < m) = true := by simp; omega
                  have hmp3 : 0 < m := by omega
                  have hm := HV.out m (by omega) (by omega)
                  rw [hm] at hb0
                  have hmw : IntKind.i64.wrap (m : Int) = (m : Int) := IntWalk.i64_in _ (by omega)
                  go_wp2_with fail
                  go_quiet (fail)
                  go_wp2_with fail
                  go_loopw [142] (fun v wy => ∃ (j : Nat) (U : Nat → Nat), j ≤ 256 ∧ v = .int .i64 (j : Int) ∧ Hid (wy.ownsRow W1.heap.size 5 1 (.slice (some ⟨gb, 0, none⟩) 256 cb) 256 (ycells U 256)) ∧ Hid (∀ q, U q < 256) ∧ Off (fun q => q ≠ gb) w4 wy) (fun v _ => 256 - (intOf v).toNat)
                  case atStart => exact ⟨0, _, Nat.zero_le _, rfl, Lib.hid (own_same HRw4.out rfl), HU0, ⟨rfl, rfl, rfl, Nat.le_refl _, fun _ _ _ => rfl⟩⟩
                  case round =>
                    rename World => wy
                    obtain ⟨j, U, hj, rfl, hrw, hU, hoff⟩ := hrel
                    by_cases hjl : j < 256
                    · have hji : (j : Int) < 256 := by omega
                      have hcell := row_cell hrw.out hjl
                      have hfz := hrw.out.frozenAt j
                      have hx8 : bits .xor .u8 ((U j : Nat) : Int) 255 = ((U j ^^^ 255 : Nat) : Int) := u8_xor_nat (U j) 255 (hU.out j) (by decide)
                      have HST := Lib.hid (row_store (q := j) (y := U j ^^^ 255) hrw.out)
                      have hUx : U j ^^^ 255 < 2 ^ 8 := Nat.xor_lt_two_pow (hU.out j) (by decide)
                      have HU2 : Hid (∀ q, (fun q => if j = q then U j ^^^ 255 else U q) q < 256) := Lib.hid fun q => by
                        dsimp only
                        split
                        · exact hUx
                        · exact hU.out q
                      have hof2 : Off (fun q => q ≠ gb) w4 (wy.setCell ⟨gb, j, none⟩ (.int .u8 ((U j ^^^ 255 : Nat) : Int))) := hoff.trans (Off.setCell (fun h => h rfl) _)
                      clear hUx
                      go_wp2_with fail
                      go_roundw
                      case rel => exact ⟨j + 1, _, by omega, by go_num, HST, HU2, hof2⟩
                      case measure => simp [intOf]; omega
                    · obtain rfl : j = 256 := by omega
                      have hws4 := hB4.size
                      have hBj : Below w.heap.size w wy := hB4.trans (Off.below hoff hws4 (fun q hq => by omega))
                      have HCj := Lib.hid (HC4.out.keepOn hoff.size (fun q hq => hoff.block q (HC4.out.lt hq) (fun e => HGb2.out (e ▸ hq))))
                      have HRj := Lib.hid (HR4.out.same (hoff.block g HR4.out.head.lt hgg.1.symm) (hoff.block gsj HR4.out.body.lt hgsj.symm))
                      obtain ⟨fpj, hfpj⟩ : ∃ T, fp2 = T := ⟨_, rfl⟩
                      have Hlj := HL3
                      rw [hfpj] at HCj Hlj Hnj
                      clear hrw hU hoff HRw4 HU0 hb0 hq
                      have HSt1 := Lib.hid (atStats HCj.out)
                      unfold statsV at HSt1
                      go_wp2_with fail
                      refine HSt1.out.mono ?_
                      rintro e w8 ⟨rfl, hb8⟩
                      have hB8 := hBj.trans (hb8.mono hBj.size)
                      have HR8 := Lib.hid (HRj.out.same (hb8.block g HRj.out.head.lt) (hb8.block gsj HRj.out.body.lt))
                      have HC8 := Lib.hid (HCj.out.keep hb8)
                      have HSt2 := Lib.hid (refStats_any HR8.out)
                      clear HSt1 HCj HRj hb8
                      go_wp2_with fail
                      refine HSt2.out.mono ?_
                      rintro e w9 ⟨rfl, hb9⟩
                      have hB9 := hB8.trans (hb9.mono hB8.size)
                      have HR9 := Lib.hid (HR8.out.same (hb9.block g HR8.out.head.lt) (hb9.block gsj HR8.out.body.lt))
                      have HC9 := Lib.hid (HC8.out.keep hb9)
                      clear HSt2 HR8 HC8 hb9
                      go_wp2_with fail
                      go_roundw
                      case rel => exact ⟨i + 1, cj, fpj, gsj, capj, spj, by omega, by omega, by go_num, HUj, HC9, HR9, Hlj, Hnj, Hgj, hB9⟩
                      case measure => simp [intOf]; omega
              · obtain rfl := HNone.out (by rw [her]; exact he)
                have hez : (((er : Nat) : Int) == 0) = false := by rw [beq_eq_false_iff_ne]; omega
                clear HRow HNone HC3 HO3 her
                go_wp2_with fail
                go_quiet (fail)
                go_wp2_with fail
                go_loopw [142] (fun v wy => v = .int .i64 0 ∧ Off (fun _ => True) w4 wy) (fun _ _ => 0)
                case atStart => exact ⟨rfl, ⟨rfl, rfl, rfl, Nat.le_refl _, fun _ _ _ => rfl⟩⟩
                case round =>
                  rename World => wy
                  obtain ⟨rfl, hoff⟩ := hrel
                  have hws4 := hB4.size
                  have hBj : Below w.heap.size w wy := hB4.trans (Off.below hoff hws4 (fun q hq => trivial))
                  have HCj := Lib.hid (HC4.out.keepOn hoff.size (fun q hq => hoff.block q (HC4.out.lt hq) trivial))
                  have HRj := Lib.hid (HR4.out.same (hoff.block g HR4.out.head.lt trivial) (hoff.block gsj HR4.out.body.lt trivial))
                  obtain ⟨fpj, hfpj⟩ : ∃ T, fp2 = T := ⟨_, rfl⟩
                  have Hlj := HL3
                  rw [hfpj] at HCj Hlj Hnj
                  clear hoff hq
                  have HSt1 := Lib.hid (atStats HCj.out)
                  unfold statsV at HSt1
                  go_wp2_with fail
                  refine HSt1.out.mono ?_
                  rintro e w8 ⟨rfl, hb8⟩
                  have hB8 := hBj.trans (hb8.mono hBj.size)
                  have HR8 := Lib.hid (HRj.out.same (hb8.block g HRj.out.head.lt) (hb8.block gsj HRj.out.body.lt))
                  have HC8 := Lib.hid (HCj.out.keep hb8)
                  have HSt2 := Lib.hid (refStats_any HR8.out)
                  clear HSt1 HCj HRj hb8
                  go_wp2_with fail
                  refine HSt2.out.mono ?_
                  rintro e w9 ⟨rfl, hb9⟩
                  have hB9 := hB8.trans (hb9.mono hB8.size)
                  have HR9 := Lib.hid (HR8.out.same (hb9.block g HR8.out.head.lt) (hb9.block gsj HR8.out.body.lt))
                  have HC9 := Lib.hid (HC8.out.keep hb9)
                  clear HSt2 HR8 HC8 hb9
                  go_wp2_with fail
                  go_roundw
                  case rel => exact ⟨i + 1, cj, fpj, gsj, capj, spj, by omega, by omega, by go_num, HUj, HC9, HR9, Hlj, Hnj, Hgj, hB9⟩
                  case measure => simp [intOf]; omega
            · obtain ⟨db, hdb⟩ : ∃ db, (dropR p y).2 = db := ⟨_, rfl⟩
              have hCD : CacAt fp W1.drew (.pointer (some av)) p L := by exact HC1.out.keepOn (Nat.le_refl _) fun _ _ => rfl
              have hRD : RC W1.drew g gs cap sp p := by exact HR1.out.same rfl rfl
              have hOD : Lies W1.drew b 30 [.int .i64 z, .int .i64 y] := by exact HOb.out
              have hBD : Below w.heap.size w W1.drew := by exact below_drew' hB1
              have oD : W1.drew.cell? ⟨b, 1, none⟩ = some (.int .i64 y) := hOD.cell 1
              have hHD1 := atDrop hCD HCalm.out y
              rw [hdb] at hHD1
              have HD1 := Lib.hid hHD1
              have HRef : Hid (∀ W, RC W g gs cap sp p → Hid (Calls Tryd.prog 13 #[.pointer (some ⟨g, 0, none⟩), .int .i64 y] W fun e w' => e = .returned (.bool db) ∧ RC w' g gs cap sp (dropR p y).1 ∧ Own2 g gs W w')) := Lib.hid fun W hW => Lib.hid (by
                have h := refDrop_any hW HCalm.out.held y
                rw [hdb] at h
                exact h)
              have HUj : Hid (Upto (dropR p y).1 (i + 1) ∧ (dropR p y).1.n = N + 1) := Lib.hid ⟨by
                have h := hup.out.1.drop y
                exact ⟨fun f hf => by have := h.held f hf; omega, by have := h.hits; omega, by have := h.misses; omega⟩, by rw [(dropR_rest _ _).1]; exact hup.out.2⟩
              have HRD := Lib.hid hRD
              have HOD := Lib.hid hOD
              have hlgs' := hlgs.out
              generalize (dropR p y).1 = cj at HD1 HRef HUj
              clear hHD1 hCD hRD hOD hdb
              go_upto_region 34 with (fail)
              go_cut [162] (fun s162 wx => s162 = .bool false ∧ Hid (CacAt fp wx (.pointer (some av)) cj L) ∧ Hid (RC wx g gs cap sp cj) ∧ Below w.heap.size w wx)
              case first =>
                go_region_held3 (fun w' => w'.cell? ⟨b, 1, none⟩ = some (.int .i64 y) ∧ Below w.heap.size w w')
                  ((first
                    | exact ⟨oD, hBD⟩
                    | exact ⟨oA, hBA⟩
                    | exact ⟨oB, hBB⟩))
                  ((first
                    | (go_at_call 12; (with_reducible refine HD1.out.mono ?_); rintro e wa ⟨rfl, hca, hoa⟩; have hRA : RC wa g gs cap sp p := HRD.out.same (hoa.block g HRD.out.head.lt hng.out.1) (hoa.block gs HRD.out.body.lt hng.out.2); have hOA : Lies wa b 30 [.int .i64 z, .int .i64 y] := HOD.out.same (hoa.block b HOD.out.lt hbf); have oA : wa.cell? ⟨b, 1, none⟩ = some (.int .i64 y) := hOA.cell 1; have hBA : Below w.heap.size w wa := hBD.trans (hoa.below hBD.size hlow.out); have HD2 := HRef.out wa hRA; have HCA := Lib.hid hca; have HOA := Lib.hid hOA; clear hRA hOA hoa hca)
                    | (go_at_call 13; (with_reducible refine HD2.out.mono ?_); rintro e wb ⟨rfl, hrb, hob⟩; have hOB : Lies wb b 30 [.int .i64 z, .int .i64 y] := HOA.out.same (hob.block b HOA.out.lt ⟨hbg, hbgs⟩); have oB : wb.cell? ⟨b, 1, none⟩ = some (.int .i64 y) := hOB.cell 1; have hBB : Below w.heap.size w wb := hBA.trans (Off.below hob hBA.size fun q hq => ⟨by omega, by omega⟩); have HRB := Lib.hid hrb; have HCB := Lib.hid (HCA.out.keepOn hob.size fun q hq => hob.block q (HCA.out.lt hq) ⟨fun e => hng.out.1 (e ▸ hq), fun e => hng.out.2 (e ▸ hq)⟩); clear hOB hob hrb)))
                all_goals
                  go_wp2_with fail
                  go_meet
                  exact ⟨rfl, HCB, HRB, hBB⟩
              case rest =>
                obtain ⟨rfl, HCj, HRj, hBj⟩ := hcut
                obtain ⟨fpj, hfpj⟩ : ∃ T, fp = T := ⟨_, rfl⟩
                obtain ⟨gsj, hgsj⟩ : ∃ T, gs = T := ⟨_, rfl⟩
                have Hlj := hlow
                have Hnj := hng
                have Hgj := hlgs
                rw [hfpj] at HCj Hlj Hnj
                rw [hgsj] at HRj Hnj Hgj
                obtain ⟨capj, hcapj⟩ : ∃ T, cap = T := ⟨_, rfl⟩
                obtain ⟨spj, hspj⟩ : ∃ T, sp = T := ⟨_, rfl⟩
                rw [hcapj, hspj] at HRj
                have HSt1 := Lib.hid (atStats HCj.out)
                unfold statsV at HSt1
                go_wp2_with fail
                refine HSt1.out.mono ?_
                rintro e w8 ⟨rfl, hb8⟩
                have hB8 := hBj.trans (hb8.mono hBj.size)
                have HR8 := Lib.hid (HRj.out.same (hb8.block g HRj.out.head.lt) (hb8.block gsj HRj.out.body.lt))
                have HC8 := Lib.hid (HCj.out.keep hb8)
                have HSt2 := Lib.hid (refStats_any HR8.out)
                clear HSt1 HCj HRj hb8
                go_wp2_with fail
                refine HSt2.out.mono ?_
                rintro e w9 ⟨rfl, hb9⟩
                have hB9 := hB8.trans (hb9.mono hB8.size)
                have HR9 := Lib.hid (HR8.out.same (hb9.block g HR8.out.head.lt) (hb9.block gsj HR8.out.body.lt))
                have HC9 := Lib.hid (HC8.out.keep hb9)
                clear HSt2 HR8 HC8 hb9
                go_wp2_with fail
                go_roundw
                case rel => exact ⟨i + 1, cj, fpj, gsj, capj, spj, by omega, by omega, by go_num, HUj, HC9, HR9, Hlj, Hnj, Hgj, hB9⟩
                case measure => simp [intOf]; omega
            · obtain ⟨k2, hk2⟩ : ∃ k2, p.F.length = k2 := ⟨_, rfl⟩
              have hfew := HR1.out.few
              have r1 := HR1.out.head.cell 1
              rw [hk2] at hfew r1
              have HK2 := Lib.hid hk2
              have HUj : Hid (Upto p (i + 1) ∧ p.n = N + 1) := Lib.hid ⟨by
                have h := hup.out.1
                exact ⟨fun f hf => by have := h.held f hf; omega, by have := h.hits; omega, by have := h.misses; omega⟩, hup.out.2⟩
              have hw11 : W1.heap.size ≤ W1.heap.size := Nat.le_refl _
              clear hk2
              go_wp2_with fail
              go_loopw [18, 61] (fun s18 v wy => ∃ j : Nat, j ≤ k2 ∧ s18 = .bool (anyTo p.F y j) ∧ v = .int .i64 (j : Int) ∧ Below W1.heap.size W1 wy) (fun _ v _ => k2 - (intOf v).toNat)
              case atStart => exact ⟨0, Nat.zero_le _, rfl, rfl, Below.refl _ _⟩
              case round =>
                rename World => wy
                obtain ⟨j, hj, rfl, rfl, hby⟩ := hrel
                by_cases hjl : j < k2
                · have hji : (j : Int) < (k2 : Int) := by omega
                  have hRy := HR1.out.same (hby.block g HR1.out.head.lt) (hby.block gs HR1.out.body.lt)
                  obtain ⟨f, hf⟩ : ∃ f, p.F[j]? = some f := ⟨_, List.getElem?_eq_getElem (by rw [HK2.out]; exact hjl)⟩
                  have e0 : wy.cell? ⟨gs, j * 3, none⟩ = some (.int .i64 f.page) := hRy.field (j := 0) hf (by decide)
                  have e1 : wy.cell? ⟨gs, j * 3 + 1, none⟩ = some (.int .i64 (f.held : Int)) := hRy.field (j := 1) hf (by decide)
                  have e2 : wy.cell? ⟨gs, j * 3 + 2, none⟩ = some (.bool f.mark) := hRy.field (j := 2) hf (by decide)
                  have oy : ∀ o : Obj, (wy.alloc o).cell? ⟨b, 1, none⟩ = some (.int .i64 y) := fun o => ((HOb.out.below hby HOb.out.lt).alloc o).cell 1
                  have HNx : Hid (anyTo p.F y (j + 1) = (anyTo p.F y j || (decide (0 ≤ y) && (f.page == y)))) := Lib.hid (anyTo_next hf)
                  have hb2 : ∀ o : Obj, Below W1.heap.size W1 (wy.alloc o) := fun o => hby.alloc hby.size o
                  clear hf hRy
                  cases hs : anyTo p.F y j
                  · by_cases hy0 : 0 ≤ y
                    · have hyd : decide ((0 : Int) ≤ y) = true := decide_eq_true hy0
                      cases hpy : (f.page == y)
                      · have HN2 : Hid (anyTo p.F y (j + 1) = false) := Lib.hid (by rw [HNx.out, hs, hpy]; simp)
                        clear HNx hs
                        go_wp2_with fail
                        go_roundw
                        case rel => exact ⟨j + 1, by omega, by rw [HN2.out], by go_num, hb2 _⟩
                        case measure => simp [intOf]; omega
                      · have HN2 : Hid (anyTo p.F y (j + 1) = true) := Lib.hid (by rw [HNx.out, hs, hpy, hyd]; rfl)
                        clear HNx hs
                        go_wp2_with fail
                        go_roundw
                        case rel => exact ⟨j + 1, by omega, by rw [HN2.out], by go_num, hb2 _⟩
                        case measure => simp [intOf]; omega
                    · have hyd : decide ((0 : Int) ≤ y) = false := decide_eq_false hy0
                      have HN2 : Hid (anyTo p.F y (j + 1) = false) := Lib.hid (by rw [HNx.out, hs, hyd]; rfl)
                      clear HNx hs
                      go_wp2_with fail
                      go_roundw
                      case rel => exact ⟨j + 1, by omega, by rw [HN2.out], by go_num, hb2 _⟩
                      case measure => simp [intOf]; omega
                  · have HN2 : Hid (anyTo p.F y (j + 1) = true) := Lib.hid (by rw [HNx.out, hs]; rfl)
                    clear HNx hs
                    go_wp2_with fail
                    go_roundw
                    case rel => exact ⟨j + 1, by omega, by rw [HN2.out], by go_num, hb2 _⟩
                    case measure => simp [intOf]; omega
                · obtain rfl : j = k2 := by omega
                  have hall : anyTo p.F y j = hasR p y := by rw [← HK2.out]; exact anyTo_all y
                  rw [hall]
                  have HHas := Lib.hid (atHas (HC1.out.keep hby) y)
                  generalize hasR p y = hv at HHas ⊢
                  have hBy := hB1.trans (hby.mono hB1.size)
                  have HCy := Lib.hid (HC1.out.keep hby)
                  have HRy := Lib.hid (HR1.out.same (hby.block g HR1.out.head.lt) (hby.block gs HR1.out.body.lt))
                  have oy : wy.cell? ⟨b, 1, none⟩ = some (.int .i64 y) := (HOb.out.below hby HOb.out.lt).cell 1
                  clear hall
                  go_wp2_with fail
                  refine HHas.out.mono ?_
                  rintro e w7 ⟨rfl, hb7⟩
                  have hBj := hBy.trans (hb7.mono hBy.size)
                  have HCj := Lib.hid (HCy.out.keep hb7)
                  have HRj := Lib.hid (HRy.out.same (hb7.block g HRy.out.head.lt) (hb7.block gs HRy.out.body.lt))
                  obtain ⟨cj, hcj⟩ : ∃ T, p = T := ⟨_, rfl⟩
                  obtain ⟨fpj, hfpj⟩ : ∃ T, fp = T := ⟨_, rfl⟩
                  obtain ⟨gsj, hgsj⟩ : ∃ T, gs = T := ⟨_, rfl⟩
                  have Hlj := hlow
                  have Hnj := hng
                  have Hgj := hlgs
                  rw [hcj, hfpj] at HCj
                  rw [hcj] at HUj
                  rw [hfpj] at Hlj Hnj
                  rw [hcj, hgsj] at HRj
                  rw [hgsj] at Hnj Hgj
                  obtain ⟨capj, hcapj⟩ : ∃ T, cap = T := ⟨_, rfl⟩
                  obtain ⟨spj, hspj⟩ : ∃ T, sp = T := ⟨_, rfl⟩
                  rw [hcapj, hspj] at HRj
                  clear HHas HCy HRy oy
                  have HSt1 := Lib.hid (atStats HCj.out)
                  unfold statsV at HSt1
                  go_wp2_with fail
                  refine HSt1.out.mono ?_
                  rintro e w8 ⟨rfl, hb8⟩
                  have hB8 := hBj.trans (hb8.mono hBj.size)
                  have HR8 := Lib.hid (HRj.out.same (hb8.block g HRj.out.head.lt) (hb8.block gsj HRj.out.body.lt))
                  have HC8 := Lib.hid (HCj.out.keep hb8)
                  have HSt2 := Lib.hid (refStats_any HR8.out)
                  clear HSt1 HCj HRj hb8
                  go_wp2_with fail
                  refine HSt2.out.mono ?_
                  rintro e w9 ⟨rfl, hb9⟩
                  have hB9 := hB8.trans (hb9.mono hB8.size)
                  have HR9 := Lib.hid (HR8.out.same (hb9.block g HR8.out.head.lt) (hb9.block gsj HR8.out.body.lt))
                  have HC9 := Lib.hid (HC8.out.keep hb9)
                  clear HSt2 HR8 HC8 hb9
                  go_wp2_with fail
                  go_roundw
                  case rel => exact ⟨i + 1, cj, fpj, gsj, capj, spj, by omega, by omega, by go_num, HUj, HC9, HR9, Hlj, Hnj, Hgj, hB9⟩
                  case measure => simp [intOf]; omega
          · go_wp2_with fail
            go_meet
            exact hB1
        · go_wp2_with fail
          go_meet
          exact hB
    case rest =>
      go_wp2_with fail
      go_ret
      exact ⟨rfl, hcut⟩
  · obtain rfl := hm2 hx
    clear hm1 hm2 HM
    by_cases h1 : x < 1
    · have hd1 : decide (x < 1) = true := by simpa using h1
      go_wp2_with fail
      go_ret
      exact ⟨rfl, hB1⟩
    · have hd1 : decide (x < 1) = false := by simpa using h1
      have hd2 : decide (4096 < x) = true := by
        have : 4096 < x := by omega
        simpa using this
      go_wp2_with fail
      go_ret
      exact ⟨rfl, hB1⟩

theorem own : ownKnob Tryd.prog.godebug = none := by kernel_rfl
theorem laidOut : laidOutB Tryd.prog = true := by kernel_rfl

set_option maxRecDepth 100000 in
theorem lifted (os : Os) (started : os.Started) (H : Type) (enc : TypeId × Value → H) :
    ReturnsInHanded {} Tryd.checked os 3 .any (fun w args => (Rows.cachePlaysSpec.pre enc Tryd.prog Tryd.f3 [] false w args ∧ laidMetH Tryd.prog laidL w) ∧ sizedMet enc Tryd.prog Tryd.f3 (OpenSpec.ofChange Rows.cachePlaysSpec) false w args)
      (Rows.cachePlaysSpec.post enc Tryd.prog Tryd.f3 false true false false) := by
  refine returnsInHanded_of_change_and (C := Tryd.checked) (X := fun w _ => laidMetH Tryd.prog laidL w) (fun _ _ _ hh h => h.of_heap hh) own started (by kernel_rfl) Tryd.func3
    (ChangeSpec.witness_shaped (enc := enc) (C := Tryd.checked) (os := os) (X := fun w _ => laidMetH Tryd.prog laidL w) false (World.doorLaid Tryd.prog 400 os) #[.int .i64 0, .int .i64 0, .slice none 0 0] 8 rfl (World.shaped_of_RefB (by kernel_rfl) (by kernel_rfl)) (by kernel_rfl) (by kernel_rfl) (by kernel_rfl) (door_met os _)) ?_
  intro W base args ds gs before hval0 hW _ _ hL _
  have hval : ∀ (j : Nat) t v, Tryd.f3.params[j]? = some t → args[j]? = some v → Value.okWide Tryd.prog W .any base t v := hval0
  have hW' := hW
  obtain ⟨p, q, hA0, hV, rfl, hfz, hnd⟩ := hW
  have hA : DataW.TrodAll enc Tryd.prog W 0 (fun _ => true) true Tryd.f3.params.toList args.toList ds p := hA0
  rw [Tryd.params3] at hA hval
  obtain ⟨v0, v1, v2, d0, d1, d2, p0, p1, p2, rfl, rfl, rfl, h0, h1, h2⟩ := trodAll_three hA
  obtain ⟨rfl, rfl⟩ := trodVars_none hV
  obtain ⟨a0, rfl, rfl, rfl, wa0⟩ := open_int Tryd.underlying3 (hval 0 3 v0 rfl rfl) h0
  obtain ⟨a1, rfl, rfl, rfl, wa1⟩ := open_int Tryd.underlying3 (hval 1 3 v1 rfl rfl) h1
  obtain ⟨A2, n2, c2, V2, rfl, hn2, hz2, ho2⟩ := open_scr (hval 2 22 v2 rfl rfl) h2
  clear hA0 hval0
  refine (walk a0 a1 A2 n2 c2 V2 W wa0 wa1 hn2 hz2 ho2 (tabs_of_laid hL)).mono fun e W' ⟨he, hg⟩ => ?_
  subst he
  exact ⟨_, rfl, law_post laidOut rfl rfl rfl (by rw [Tryd.params3]; decide +kernel) hW' hg⟩

/-- The row. -/
theorem holds : Rows.CachePlaysSaid :=
  OpenClaim.holds_of_wide 3 Tryd.f3 rfl rfl rfl rfl rfl rfl rfl ⟨rfl, rfl, rfl, rfl, rfl⟩ rfl rfl rfl rfl rfl (by kernel_rfl) Tryd.func3 (by kernel_rfl)
    (of_decide_eq_true (by kernel_rfl)) (by unfold Func.isWrapper; first | (rw [if_pos (by decide +kernel)]; kernel_rfl) | (rw [if_neg (by decide +kernel)]; exact ⟨rfl, rfl⟩))
    (fun os started H enc _ => lifted os started H enc)
/-- The statement: the row's card. -/
theorem proved : Rows.CachePlaysCardSaid :=
  Claim7.holds_tied_plain_at .later [] Rows.cachePlaysCard.laidKinds Rows.cachePlaysCard.laidTests Rows.cachePlaysCard.stood.harness Rows.cachePlaysCard.stood.looks
    holds (fun _ h => by cases h) (by kernel_rfl) (fun _ h => by cases h) cachePlays_row_tie rfl ⟨rfl, rfl⟩ (by kernel_rfl) rfl
    (fun f fn hf hfn => by
      obtain rfl : f = 3 := Option.some.inj ((show Tryd.prog.funcNamed "colophon/colophonlaw07.CachePlays" = some 3 by kernel_rfl).symm.trans hf) |>.symm
      obtain rfl : fn = Tryd.f3 := (Option.some.inj (Tryd.func3.symm.trans hfn)).symm
      exact ⟨by kernel_rfl, fun j t ht => by
        have hm : t ∈ Tryd.f3.params.toList := by simpa using Array.mem_of_getElem? ht
        have hall : (Tryd.f3.params.toList.all fun u => !Tryd.prog.wantsStandIn u) = true := by kernel_rfl
        exact (show Tryd.prog.wantsStandIn t = false by simpa using List.all_eq_true.1 hall t hm)⟩)
    (by kernel_rfl)
#print axioms proved
end Go.Proofs.YtjmajminfmcjcaaDoor.cachePlays
