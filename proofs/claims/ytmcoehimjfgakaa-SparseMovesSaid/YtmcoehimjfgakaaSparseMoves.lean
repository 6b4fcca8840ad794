/- For every input colophonlaw03.SparseMoves returns true, and its arguments read as they read. No condition. -/
import Derived.Test.YtmcoehimjfgakaaSpRows
namespace Go.Proofs.Ytmcoehimjfgakaa.sparseMoves
open Go.ChangeShapes Go.WideShapes Go.ChangeAt Go.RowKit

theorem moved {N m k : Nat} {l : Nat → Nat} (h : Pl.Rise N m l) : Pl.Rise (N + k) m (fun i => l i + k) :=
  ⟨fun i hi => by have := h.below i hi; show l i + k < N + k; omega, fun i hi => by have := h.up i hi; show l i + k < l (i + 1) + k; omega⟩

theorem u16_nat {a : Int} (h : (Lit.int .u16 a).wf = true) : ∃ x : Nat, x < 65536 ∧ a = (x : Int) := by
  simp [Lit.wf, IntKind.min, IntKind.max, IntKind.bits, IntKind.signed] at h
  exact ⟨a.toNat, by omega, by omega⟩

set_option maxRecDepth 100000 in
set_option maxHeartbeats 6400000 in
/-- right places. -/
theorem walk_right (N : Nat) (A : Option Addr) (m c : Nat) (l : Nat → Nat) (V : Nat → Int) (by_ : Nat) (w : World) (hm : m ≤ 500) (hN : N ≤ 20000) (hby : by_ < 65536) (ho : Its w w.heap.size A m V) (hr : Pl.Rise N m l) (he : ∀ i, i < m → V i = ((l i : Nat) : Int)) :
    Calls Try.prog 7 #[.int .i64 (N : Int), .slice A m c, .int .u16 (by_ : Int)] w fun e w' => e = .returned (.bool true) ∧ Below w.heap.size w w' := by
  have HF := Lib.hid (sfirst_any w)
  have hright := sright_yes (show N ≤ 4194304 by omega) hr he
  have HRi : ∀ W, Below w.heap.size w W → Hid (Calls Try.prog 10 #[.int .i64 (N : Int), .slice A m c] W fun e w' => e = .returned (.bool true) ∧ W = w') := fun W hW => by
    have e := sright_any (N : Int) A m c V w.heap.size W (by omega) (ho.below hW)
    rw [hright] at e
    exact Lib.hid e
  have hnts := ho.nts he
  have HN1 : ∀ W, Below w.heap.size w W → Hid (Calls Try.prog 9 #[.int .i64 (N : Int), .slice A m c] W (NewSt W N m l)) := fun W hW => Lib.hid (snew_right N m A c l w.heap.size W (by omega) (by omega) hW.size (hnts.below hW) hr)
  obtain ⟨k, hk⟩ : ∃ k, by_ % 5000 = k := ⟨_, rfl⟩
  have hk5 : k < 5000 := by omega
  have ek : (by_ : Int) % 5000 = (k : Int) := by omega
  have d1 : decide ((500 : Int) < (m : Int)) = false := by simp; omega
  have d2 : decide ((20000 : Int) < (N : Int)) = false := by simp; omega
  have HO := Lib.hid hnts
  have HR := Lib.hid hr
  have HR2 := Lib.hid (moved (k := k) hr)
  clear ho hr he hright hnts hk
  go_enter Try.func7, Try.ntmps7
  go_wp2_with fail
  with_reducible refine HF.out.mono ?_
  rintro e w1 ⟨rfl, hb1⟩
  go_wp2_with fail
  with_reducible refine (HRi _ hb1).out.mono ?_
  rintro e w' ⟨rfl, rfl⟩
  clear HRi
  have hw01 := hb1.size
  go_wp2_with fail
  rw [ek]
  go_loopw [8, 36] (fun u v wr => ∃ (i : Nat) (lv : Value), i ≤ m ∧ v = .int .i64 (i : Int) ∧ lv = u ∧ Hid (wr.ownsRow w1.heap.size 3 1 lv i (icells (fun t => ((l t + k : Nat) : Int)) i)) ∧ Below w.heap.size w wr ∧ Below w1.heap.size w1 wr) (fun _ v _ => m - (intOf v).toNat)
  case atStart => exact ⟨0, _, Nat.zero_le _, rfl, rfl, Lib.hid (World.ownsRow_nil _ _ _ _), hb1, Below.refl _ _⟩
  case round =>
    clear hb1
    obtain ⟨i, lv, hi, rfl, rfl, HOw, hBw, hBw1⟩ := hrel
    by_cases hlt : i < m
    · obtain ⟨ad, rfl, had, hV⟩ := (HO.out.below hBw) i hlt
      have hbel := HR.out.below i hlt
      have HSn := Lib.hid (icells_snoc (fun t => ((l t + k : Nat) : Int)) i)
      obtain ⟨z, hz⟩ : ∃ z, l i = z := ⟨_, rfl⟩
      rw [hz] at hV hbel
      have HZ := Lib.hid hz
      have hBs := hBw1.size
      have hi4 : i ≤ 4194304 := by omega
      clear hz
      go_wp2_with (at_builtin; refine step_append_int rfl (.tmp 40) (.tmp 44) rfl rfl HOw.out _ rfl hBs hi4 ?_; intro v' w2 HO2 hb2)
      go_roundw
      case rel =>
        refine ⟨i + 1, _, by omega, by go_num, rfl, Lib.hid ?_, hBw.trans (hb2.mono hw01), hBw1.trans hb2⟩
        rw [HSn.out, HZ.out]
        exact HO2.out
      case measure => simp [intOf]; omega
    · have him : i = m := by omega
      rw [him] at HOw
      go_wp2_with fail
      with_reducible refine (HN1 _ hBw).out.mono ?_
      rintro e w2 ⟨g, hs, ls, rfl, hst, hb2⟩
      have hB2 := hBw.trans (hb2.mono hBw.size)
      obtain ⟨A2, c2, rfl, hits⟩ := Its.of_own (ownsRow_keep HOw.out hb2) (fun t ht => by
        have := HR.out.below t ht
        constructor <;> (show _ ≤ _; omega))
      have hnew := snew_right (N + k) m A2 c2 (fun t => l t + k) w2.heap.size w2 (by omega) (by omega) (Nat.le_refl _) (hits.nts fun _ _ => rfl) HR2.out
      rw [Int.natCast_add] at hnew
      have HN2 := Lib.hid hnew
      have HS := Lib.hid hst
      clear hnew hst hb2 hits
      generalize wr.heap.size = B1 at HS
      go_wp2_with fail
      with_reducible refine HN2.out.mono ?_
      rintro e w3 ⟨g2, hs2, ls2, rfl, hst2, hb3⟩
      have hB3 := hB2.trans (hb3.mono hB2.size)
      have HS3 := Lib.hid (HS.out.keep hb3)
      have HT3 := Lib.hid hst2
      have HBd1 := Lib.hid (st_bound HS3.out)
      have hbd2 := st_bound HT3.out
      rw [Int.natCast_add] at hbd2
      have HBd2 := Lib.hid hbd2
      clear hst2 hb3 HS hB2 hbd2
      generalize w2.heap.size = B2 at HT3
      go_wp2_with fail
      with_reducible refine HBd2.out.mono ?_
      rintro e w' ⟨rfl, rfl⟩
      go_wp2_with fail
      with_reducible refine HBd1.out.mono ?_
      rintro e w' ⟨rfl, rfl⟩
      go_wp2_with fail
      clear HBd1 HBd2
      go_loopw [78] (fun v wr => ∃ i : Nat, i ≤ m ∧ v = .int .i64 (i : Int) ∧ Below w.heap.size w wr ∧ Hid (St wr B1 g N m hs ls l) ∧ Hid (St wr B2 g2 (N + k) m hs2 ls2 (fun t => l t + k))) (fun v _ => m - (intOf v).toNat)
      case atStart => exact ⟨0, Nat.zero_le _, rfl, hB3, HS3, HT3⟩
      case round =>
        clear HS3 HT3 hB3
        obtain ⟨j, hj, rfl, hBx, HS, HT⟩ := hrel
        by_cases hltj : j < m
        · obtain ⟨ad, rfl, had, hV⟩ := (HO.out.below hBx) j hltj
          have hbel := HR.out.below j hltj
          have HA1 : ∀ {W : World}, Below wr.heap.size wr W → Hid (Calls Try.prog 16 #[.pointer (some ⟨g, 0, none⟩), .int .i64 (j : Int)] W fun e w' => e = .returned (.int .i64 ((l j : Nat) : Int)) ∧ Below W.heap.size W w') := fun h => Lib.hid (st_at (HS.out.keep h) j hltj)
          have HA2 : ∀ {W : World}, Below wr.heap.size wr W → Hid (Calls Try.prog 16 #[.pointer (some ⟨g2, 0, none⟩), .int .i64 (j : Int)] W fun e w' => e = .returned (.int .i64 (((l j : Nat) : Int) + (k : Int))) ∧ Below W.heap.size W w') := fun h => Lib.hid (st_at (HT.out.keep h) j hltj)
          have HK1 : ∀ {W : World}, Below wr.heap.size wr W → Hid (Calls Try.prog 13 #[.pointer (some ⟨g, 0, none⟩), .int .i64 ((l j : Nat) : Int)] W fun e w' => e = .returned (.int .i64 (j : Int)) ∧ Below W.heap.size W w') := fun h => by
            have c := st_rank (HS.out.keep h) ((l j : Nat) : Int)
            rw [Rise.belowN_at HR.out hltj] at c
            exact Lib.hid c
          have HK2 : ∀ {W : World}, Below wr.heap.size wr W → Hid (Calls Try.prog 13 #[.pointer (some ⟨g2, 0, none⟩), .int .i64 (((l j : Nat) : Int) + (k : Int))] W fun e w' => e = .returned (.int .i64 (j : Int)) ∧ Below W.heap.size W w') := fun h => by
            have c := st_rank (HT.out.keep h) ((l j + k : Nat) : Int)
            rw [Rise.belowN_at HR2.out hltj] at c
            exact Lib.hid c
          have HH2 : ∀ {W : World}, Below wr.heap.size wr W → Hid (Calls Try.prog 15 #[.pointer (some ⟨g2, 0, none⟩), .int .i64 (((l j : Nat) : Int) + (k : Int))] W fun e w' => e = .returned (.bool true) ∧ Below W.heap.size W w') := fun h => by
            have c := st_has (HT.out.keep h) ((l j + k : Nat) : Int)
            rw [Rise.hasB_at HR2.out hltj] at c
            exact Lib.hid c
          have HV : ∀ W, Below wr.heap.size wr W → W.cell? (ad.add j) = some (.int .i64 ((l j : Nat) : Int)) ∧ Below wr.heap.size wr W := fun W h => ⟨by
            obtain ⟨ad', e, _, hc⟩ := (HO.out.below (hBx.trans (h.mono hBx.size))) j hltj
            cases e
            exact hc, h⟩
          generalize l j = z at *
          have ew : IntKind.i64.wrap ((z : Int) + (k : Int)) = (z : Int) + (k : Int) := IntWalk.i64_in _ (by omega)
          have hbd0 := below_drew' (Below.refl wr.heap.size wr)
          have HVV := Lib.hid HV
          clear HV
          go_upto_region 19 with (fail)
          go_cut [117] (fun s wx => s = .bool false ∧ Below wr.heap.size wr wx)
          case first =>
            go_region_held3 (fun w' => w'.cell? (ad.add j) = some (.int .i64 (z : Int)) ∧ Below wr.heap.size wr w')
              ((first
                | exact HVV.out _ hbd0
                | exact HVV.out _ hC5
                | exact HVV.out _ hC4
                | exact HVV.out _ hC3
                | exact HVV.out _ hC2
                | exact HVV.out _ hC1))
              (first
                | (go_at_call 16; (with_reducible refine (HA2 hbd0).out.mono ?_); rintro e x1 ⟨rfl, hc1⟩; have hC1 := hbd0.trans (hc1.mono (Nat.le_refl _)))
                | (go_at_call 16; (with_reducible refine (HA1 hC1).out.mono ?_); rintro e x2 ⟨rfl, hc2⟩; have hC2 := hC1.trans (hc2.mono hC1.size))
                | (go_at_call 13; (with_reducible refine (HK2 hC2).out.mono ?_); rintro e x3 ⟨rfl, hc3⟩; have hC3 := hC2.trans (hc3.mono hC2.size))
                | (go_at_call 13; (with_reducible refine (HK1 hC3).out.mono ?_); rintro e x4 ⟨rfl, hc4⟩; have hC4 := hC3.trans (hc4.mono hC3.size))
                | (go_at_call 15; (with_reducible refine (HH2 hC4).out.mono ?_); rintro e x5 ⟨rfl, hc5⟩; have hC5 := hC4.trans (hc5.mono hC4.size)))
            all_goals
              go_wp2_with fail
              go_meet
              exact ⟨rfl, hC5⟩
          case rest =>
            obtain ⟨rfl, hCx⟩ := hcut
            have hBc := hBx.trans (hCx.mono hBx.size)
            have HS' := Lib.hid (HS.out.keep hCx)
            have HT' := Lib.hid (HT.out.keep hCx)
            clear hV ew hbd0 hCx
            go_wp2_with fail
            go_roundw
            case rel => exact ⟨j + 1, by omega, by go_num, hBc, HS', HT'⟩
            case measure => simp [intOf]; omega
        · have hjm : j = m := by omega
          have hk1 := st_rank HT.out (k : Int)
          have e0 : belowN (fun t => l t + k) m (k : Int) = 0 := Pl.cnt_zero fun t _ => by simp; omega
          rw [e0] at hk1
          have HK := Lib.hid hk1
          clear hk1 e0
          go_wp2_with fail
          with_reducible refine HK.out.mono ?_
          rintro e x1 ⟨rfl, hc1⟩
          go_wp2_with fail
          go_ret
          exact ⟨rfl, hBx.trans (hc1.mono hBx.size)⟩

set_option maxRecDepth 100000 in
set_option maxHeartbeats 1600000 in
theorem walk (n : Int) (A : Option Addr) (m c : Nat) (V : Nat → Int) (x : Int) (w : World) (_hn : (Lit.int .i64 n).wf = true) (hm : m ≤ maxLen) (_hA : A = none → m = 0 ∧ c = 0) (ho : Its w w.heap.size A m V) (hx : (Lit.int .u16 x).wf = true) :
    Calls Try.prog 7 #[.int .i64 n, .slice A m c, .int .u16 x] w fun e w' => e = .returned (.bool true) ∧ Below w.heap.size w w' := by
  unfold maxLen at hm
  have HF := Lib.hid (sfirst_any w)
  by_cases h1 : 500 < m
  · clear ho
    go_enter Try.func7, Try.ntmps7
    go_wp2_with fail
    with_reducible refine HF.out.mono ?_
    rintro e w1 ⟨rfl, hb1⟩
    go_wp2_with fail
    go_ret
    exact ⟨rfl, hb1⟩
  · by_cases h2 : 20000 < n
    · clear ho
      go_enter Try.func7, Try.ntmps7
      go_wp2_with fail
      with_reducible refine HF.out.mono ?_
      rintro e w1 ⟨rfl, hb1⟩
      go_wp2_with fail
      go_ret
      exact ⟨rfl, hb1⟩
    · cases hr : rightS n V m with
      | false =>
        have HRi : ∀ W, Below w.heap.size w W → Hid (Calls Try.prog 10 #[.int .i64 n, .slice A m c] W fun e w' => e = .returned (.bool false) ∧ W = w') := fun W hW => by
          have e := sright_any n A m c V w.heap.size W (by omega) (ho.below hW)
          rw [hr] at e
          exact Lib.hid e
        clear ho hr
        go_enter Try.func7, Try.ntmps7
        go_wp2_with fail
        with_reducible refine HF.out.mono ?_
        rintro e w1 ⟨rfl, hb1⟩
        go_wp2_with fail
        with_reducible refine (HRi _ hb1).out.mono ?_
        rintro e w' ⟨rfl, rfl⟩
        go_wp2_with fail
        go_ret
        exact ⟨rfl, hb1⟩
      | true =>
        obtain ⟨N, l, rfl, hN, hrise, he⟩ := right_nat hr
        obtain ⟨y, hy, rfl⟩ := u16_nat hx
        exact walk_right N A m c l V y w (by omega) (by omega) hy ho hrise he

theorem own : ownKnob Try.prog.godebug = none := by kernel_rfl
theorem laidOut : laidOutB Try.prog = true := by kernel_rfl

set_option maxRecDepth 100000 in
theorem lifted (os : Os) (started : os.Started) (H : Type) (enc : TypeId × Value → H) :
    ReturnsInHanded {} Try.checked os 7 .any (Rows.sparseMovesSpec.pre6 enc Try.prog Try.f7 Rows.sparseMovesRow.domain false) (Rows.sparseMovesSpec.post enc Try.prog Try.f7 false true false false) := by
  refine returnsInHanded_of_change (C := Try.checked) own started (by kernel_rfl) Try.func7
    (ChangeSpec.witness6 (enc := enc) (C := Try.checked) false ⟨#[], #[.int .i64 0, .slice none 0 0, .int .u16 0], []⟩ 8 (by kernel_rfl) (by kernel_rfl) (by kernel_rfl) (by kernel_rfl)) ?_
  intro W base args ds gs before hval0 hW hcnd _
  have hval : ∀ (j : Nat) t v, Try.f7.params[j]? = some t → args[j]? = some v → Value.okWide Try.prog W .any base t v := hval0
  have hW' := hW
  obtain ⟨p, q, hA0, hV, rfl, hfz, hnd⟩ := hW
  have hA : DataW.TrodAll enc Try.prog W 0 (fun _ => true) true Try.f7.params.toList args.toList ds p := hA0
  rw [Try.params7] at hA hval
  obtain ⟨v0, v1, v2, d0, d1, d2, p0, p1, p2, rfl, rfl, rfl, h0, h1, h2⟩ := trodAll_three hA
  obtain ⟨rfl, rfl⟩ := trodVars_none hV
  obtain ⟨a0, rfl, rfl, rfl, wa0⟩ := open_int Try.underlying3 (hval 0 3 v0 rfl rfl) h0
  obtain ⟨A1, n1, c1, V1, rfl, hn1, hz1, ho1⟩ := open_list (hval 1 22 v1 rfl rfl) h1
  obtain ⟨a2, rfl, rfl, rfl, wa2⟩ := open_int Try.underlying44 (hval 2 44 v2 rfl rfl) h2
  clear hA0 hval0
  refine (walk a0 A1 n1 c1 V1 a2 W wa0 hn1 hz1 ho1 wa2).mono fun e W' ⟨he, hg⟩ => ?_
  subst he
  exact ⟨_, rfl, law_post laidOut rfl rfl rfl (by rw [Try.params7]; decide +kernel) hW' hg⟩

/-- The statement. -/
theorem proved : Rows.SparseMovesSaid :=
  OpenClaim.holds_of_wide 7 Try.f7 rfl rfl rfl rfl rfl rfl rfl ⟨rfl, rfl, rfl, rfl, rfl⟩ rfl rfl rfl rfl rfl (by kernel_rfl) Try.func7 (by kernel_rfl)
    (of_decide_eq_true (by kernel_rfl)) (by unfold Func.isWrapper; first | (rw [if_pos (by decide +kernel)]; kernel_rfl) | (rw [if_neg (by decide +kernel)]; exact ⟨rfl, rfl⟩))
    (fun os started H enc _ => lifted os started H enc)
#print axioms proved
end Go.Proofs.Ytmcoehimjfgakaa.sparseMoves
