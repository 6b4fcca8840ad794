/- For every input colophonlaw03.SparseHas returns true, and its arguments read as they read. No condition. -/
import Derived.Test.YtmcoehimjfgakaaSpRows
namespace Go.Proofs.Ytmcoehimjfgakaa.sparseHas
open Go.ChangeShapes Go.WideShapes Go.ChangeAt Go.RowKit

theorem below_same {m : Nat} {l : Nat → Nat} {V : Nat → Int} (he : ∀ i, i < m → V i = ((l i : Nat) : Int)) (x : Int) : Pl.cnt (fun i => decide (V i < x)) m = belowN l m x := Pl.cnt_congr fun i hi => by rw [he i hi]

theorem Fits.short {n m : Nat} {hs ls : List Nat} {l : Nat → Nat} (h : Fits n m hs ls l) : hs.length ≤ 8388608 ∧ ls.length ≤ 8388608 := by
  rcases h with ⟨_, rfl, rfl⟩ | ⟨_, h⟩
  · simp
  · have h1 := h.high.len
    have h2 := h.high.few
    have h3 := h.low.len
    have h4 := h.rise.few
    have h5 : m ≤ 4194304 := by
      unfold Pl.bitsOf at h2
      generalize (n - 1) / 2 ^ Pl.lw n m = q at h2
      omega
    have h6 : m * max 1 (Pl.lw n m) ≤ 4194304 * 64 := Nat.mul_le_mul h5 h.low.w64
    omega

set_option maxRecDepth 100000 in
set_option maxHeartbeats 3200000 in
/-- too many places, or a bound too great. -/
theorem walk_far (n : Int) (A : Option Addr) (m c : Nat) (x : Int) (w : World) (h : 1000 < m ∨ (50000 < n ∧ 0 < m)) :
    Calls Try.prog 3 #[.int .i64 n, .slice A m c, .int .i64 x] w fun e w' => e = .returned (.bool true) ∧ Below w.heap.size w w' := by
  have HF := Lib.hid (sfirst_any w)
  by_cases h1 : 1000 < m
  · clear h
    go_enter Try.func3, Try.ntmps3
    go_wp2_with fail
    with_reducible refine HF.out.mono ?_
    rintro e w1 ⟨rfl, hb1⟩
    go_wp2_with fail
    go_ret
    exact ⟨rfl, hb1⟩
  · obtain ⟨h2, h3⟩ : 50000 < n ∧ 0 < m := by omega
    clear h
    go_enter Try.func3, Try.ntmps3
    go_wp2_with fail
    with_reducible refine HF.out.mono ?_
    rintro e w1 ⟨rfl, hb1⟩
    go_wp2_with fail
    go_ret
    exact ⟨rfl, hb1⟩

set_option maxRecDepth 100000 in
set_option maxHeartbeats 3200000 in
/-- places that are not right. -/
theorem walk_bad (n : Int) (A : Option Addr) (m c : Nat) (V : Nat → Int) (x : Int) (w : World) (hm : m ≤ 1000) (hn : n ≤ 50000 ∨ m = 0) (ho : Its w w.heap.size A m V) (hA : A = none → m = 0 ∧ c = 0) (hr : rightS n V m = false) :
    Calls Try.prog 3 #[.int .i64 n, .slice A m c, .int .i64 x] w fun e w' => e = .returned (.bool true) ∧ Below w.heap.size w w' := by
  have HF := Lib.hid (sfirst_any w)
  have HR : ∀ W, Below w.heap.size w W → Hid (Calls Try.prog 10 #[.int .i64 n, .slice A m c] W fun e w' => e = .returned (.bool false) ∧ W = w') := fun W hW => by
    have e := sright_any n A m c V w.heap.size W (by omega) (ho.below hW)
    rw [hr] at e
    exact Lib.hid e
  have HO := Lib.hid ho
  have HA := Lib.hid hA
  have HRr := Lib.hid hr
  have hV : Hid (∀ i, i < m → -9223372036854775808 ≤ V i ∧ V i ≤ 9223372036854775807) := Lib.hid fun i hi => by
    obtain ⟨_, _, _, _, h⟩ := ho i hi
    exact h
  clear ho hr hA
  by_cases hn5 : n ≤ 50000
  · clear hn
    go_enter Try.func3, Try.ntmps3
    go_wp2_with fail
    with_reducible refine HF.out.mono ?_
    rintro e w1 ⟨rfl, hb1⟩
    have HW := Lib.hid ((HO.out.below hb1).mono_ hb1.size)
    have hm4 : m ≤ 4194304 := by omega
    go_wp2_with (at_builtin; refine step_append_list rfl (.tmp 30) (.tmp 31) rfl rfl rfl hm4 HA.out HW.out ?_; intro g c' w2 HOw hb2)
    obtain ⟨A2, c2, e2, hits⟩ := Its.of_own HOw.out hV.out
    have hB2 := hb1.trans (hb2.mono hb1.size)
    have HN := snew_bad n A2 m c2 V w2.heap.size w2 (by omega) hits HRr.out
    rw [← e2] at HN
    have HNN := Lib.hid HN
    have HR2 := HR w2 hB2
    clear HN hits e2 hb1 hb2
    go_wp2_with fail
    with_reducible refine HNN.out.mono ?_
    rintro e w3 ⟨rfl, hb3⟩
    have hB3 := hB2.trans (hb3.mono hB2.size)
    go_wp2_with fail
    with_reducible refine (HR _ hB3).out.mono ?_
    rintro e w' ⟨rfl, rfl⟩
    go_wp2_with fail
    go_ret
    exact ⟨rfl, hB3⟩
  · have hn6 : 50000 < n := by omega
    obtain rfl : m = 0 := by omega
    clear hn hn5
    go_enter Try.func3, Try.ntmps3
    go_wp2_with fail
    with_reducible refine HF.out.mono ?_
    rintro e w1 ⟨rfl, hb1⟩
    have HW := Lib.hid ((HO.out.below hb1).mono_ hb1.size)
    go_wp2_with (at_builtin; refine step_append_list rfl (.tmp 30) (.tmp 31) rfl rfl rfl (Nat.zero_le _) (fun e => ⟨rfl, (HA.out e).2⟩) HW.out ?_; intro g c' w2 HOw hb2)
    obtain ⟨A2, c2, e2, hits⟩ := Its.of_own HOw.out hV.out
    have hB2 := hb1.trans (hb2.mono hb1.size)
    have HN := snew_bad n A2 0 c2 V w2.heap.size w2 (by omega) hits HRr.out
    rw [← e2] at HN
    have HNN := Lib.hid HN
    clear HN hits e2 hb1 hb2
    go_wp2_with fail
    with_reducible refine HNN.out.mono ?_
    rintro e w3 ⟨rfl, hb3⟩
    have hB3 := hB2.trans (hb3.mono hB2.size)
    go_wp2_with fail
    with_reducible refine (HR _ hB3).out.mono ?_
    rintro e w' ⟨rfl, rfl⟩
    go_wp2_with fail
    go_ret
    exact ⟨rfl, hB3⟩

/-- a row of the call's own in which places may be laid anew. -/
def Some' (w : World) (B g m c : Nat) : Prop := ∃ xs, w.ownsRow B 3 1 (.slice (some ⟨g, 0, none⟩) m c) m xs
theorem Some'.cell {w : World} {B g m c : Nat} (h : Some' w B g m c) {i : Nat} (hi : i < m) : (∃ v, w.cell? ⟨g, i, none⟩ = some v) ∧ w.frozen? ⟨g, i, none⟩ = false := by
  obtain ⟨xs, h⟩ := h
  refine ⟨?_, h.frozenAt i⟩
  have hl := h.1
  rw [h.cellAt i (by omega)]
  exact ⟨_, List.getElem?_eq_getElem (by omega)⟩
theorem Some'.put {w : World} {B g m c : Nat} (h : Some' w B g m c) (i : Nat) (y : Int) : Some' (w.setCell ⟨g, i, none⟩ (.int .i64 y)) B g m c := by
  obtain ⟨xs, h⟩ := h
  exact ⟨_, (h.stored i (.int .i64 y)).1⟩

set_option maxRecDepth 100000 in
set_option maxHeartbeats 6400000 in
/-- right places. -/
theorem walk_right (N : Nat) (A : Option Addr) (m c : Nat) (l : Nat → Nat) (V : Nat → Int) (x : Int) (w : World) (hm : m ≤ 1000) (hN : N ≤ 50000 ∨ m = 0) (hN4 : N ≤ 4194304) (ho : Its w w.heap.size A m V) (hA : A = none → m = 0 ∧ c = 0) (hr : Pl.Rise N m l) (he : ∀ i, i < m → V i = ((l i : Nat) : Int)) :
    Calls Try.prog 3 #[.int .i64 (N : Int), .slice A m c, .int .i64 x] w fun e w' => e = .returned (.bool true) ∧ Below w.heap.size w w' := by
  have HF := Lib.hid (sfirst_any w)
  have hright := sright_yes hN4 hr he
  have HRi : ∀ W, Below w.heap.size w W → Hid (Calls Try.prog 10 #[.int .i64 (N : Int), .slice A m c] W fun e w' => e = .returned (.bool true) ∧ W = w') := fun W hW => by
    have e := sright_any (N : Int) A m c V w.heap.size W (by omega) (ho.below hW)
    rw [hright] at e
    exact Lib.hid e
  have hbl := belowN_le l m x
  obtain ⟨r, hrr⟩ : ∃ r, belowN l m x = r := ⟨_, rfl⟩
  rw [hrr] at hbl
  have HBe : ∀ W, Below w.heap.size w W → Hid (Calls Try.prog 14 #[.slice A m c, .int .i64 x] W fun e w' => e = .returned (.int .i64 (r : Int)) ∧ W = w') := fun W hW => by
    have e := below_any A m c V x w.heap.size W (by omega) (ho.below hW)
    rw [below_same he x, hrr] at e
    exact Lib.hid e
  have HWd : ∀ W, Below w.heap.size w W → Hid (Calls Try.prog 18 #[.int .i64 (N : Int), .slice A m c] W fun e w' => ∃ hs ls, Fits N m hs ls l ∧ TwoRds W hs ls e w') := fun W hW => Lib.hid (by
    refine ref_words N m A c l w.heap.size W hN (by omega) ?_ hW.size ((ho.nts he).below hW) hr
    have := Pl.lw_le (m := m) hN4
    have h22 : max 1 (Pl.lw N m) ≤ 22 := by omega
    have := Nat.mul_le_mul hm h22
    omega)
  have HO := Lib.hid ho
  have HNt := Lib.hid (ho.nts he)
  have HA := Lib.hid hA
  have HR := Lib.hid hr
  have HE := Lib.hid he
  have HRR := Lib.hid hrr
  have HHas : Hid (hasB l m x = (decide (r < m) && decide (((l r : Nat) : Int) = x))) := Lib.hid (by unfold hasB; rw [hrr])
  have hV : Hid (∀ i, i < m → -9223372036854775808 ≤ V i ∧ V i ≤ 9223372036854775807) := Lib.hid fun i hi => by
    obtain ⟨_, _, _, _, h⟩ := ho i hi
    exact h
  have hm4 : m ≤ 4194304 := by omega
  clear ho hr he hA hright hrr
  have hshort : ∀ hs ls, Fits N m hs ls l → hs.length ≤ 8388608 ∧ ls.length ≤ 8388608 := fun hs ls h => Fits.short h
  have HSh := Lib.hid hshort
  have d1 : decide ((1000 : Int) < (m : Int)) = false := by simp; omega
  clear hshort
  by_cases hN5 : (N : Int) ≤ 50000
  all_goals
    first
      | have d2 : decide ((50000 : Int) < (N : Int)) = false := by simp; omega
      | (have d0 : decide (0 < m) = false := by simp; omega
         have d00 : decide ((0 : Int) < (m : Int)) = false := by simp; omega)
    have hNm : m = 0 ∨ N + m ≤ 4194304 := by omega
    have HNm := Lib.hid hNm
    clear hN hNm
    go_enter Try.func3, Try.ntmps3
    go_wp2_with fail
    with_reducible refine HF.out.mono ?_
    rintro e w1 ⟨rfl, hb1⟩
    have HW := Lib.hid ((HO.out.below hb1).mono_ hb1.size)
    go_wp2_with (at_builtin; refine step_append_list rfl (.tmp 30) (.tmp 31) rfl rfl rfl hm4 HA.out HW.out ?_; intro go co w2 HOw hb2)
    obtain ⟨A2, c2, e2, hits⟩ := Its.of_own HOw.out hV.out
    injection e2 with e3 _ e4
    subst e3
    subst e4
    have hB2 := hb1.trans (hb2.mono hb1.size)
    have hgo := HOw.out.lt go rfl
    have HN := Lib.hid (snew_right N m (some ⟨go, 0, none⟩) co l w2.heap.size w2 hN4 HNm.out (Nat.le_refl _) (hits.nts HE.out) HR.out)
    have hw01 := hb1.size
    clear hits hb1 hb2 HW
    go_wp2_with fail
    with_reducible refine HN.out.mono ?_
    rintro e w3 ⟨g, hs, ls, rfl, hst, hb3⟩
    have hB3 := hB2.trans (hb3.mono hB2.size)
    have HS3 := Lib.hid hst
    have HOw3 : Hid (Some' w3 w1.heap.size go m co) := Lib.hid ⟨_, ownsRow_keep HOw.out hb3⟩
    have HRi3 := HRi w3 hB3
    have hB := hgo.2
    clear hst hb3 hB2 HN HOw HRi
    generalize w2.heap.size = B at HS3 hB
    go_wp2_with fail
    with_reducible refine HRi3.out.mono ?_
    rintro e w' ⟨rfl, rfl⟩
    go_wp2_with fail
    go_loopw [51] (fun v wr => ∃ i : Nat, i ≤ m ∧ v = .int .i64 (i : Int) ∧ Hid (Some' wr w1.heap.size go m co) ∧ Hid (St wr B g N m hs ls l) ∧ Below w.heap.size w wr) (fun v _ => m - (intOf v).toNat)
    case atStart => exact ⟨0, Nat.zero_le _, rfl, HOw3, HS3, hB3⟩
    case round =>
      clear HOw3 HS3 hB3 HRi3
      obtain ⟨i, hi, rfl, HOw, HS, hBw⟩ := hrel
      by_cases hlt : i < m
      · obtain ⟨⟨vo, hold⟩, hfz⟩ := HOw.out.cell hlt
        have HOw2 := Lib.hid (HOw.out.put i 0)
        have HS2 := Lib.hid (HS.out.old (grownBy_put (g := go) (grownBy_of_below (Below.refl wr.heap.size wr) _) i (.int .i64 0)) hB)
        have hB2 := hBw.setCell (p := ⟨go, i, none⟩) (Nat.le_trans hw01 hgo.1) (.int .i64 0)
        go_wp2_with fail
        go_roundw
        case rel => exact ⟨i + 1, by omega, by go_num, HOw2, HS2, hB2⟩
        case measure => simp [intOf]; omega
      · clear HOw
        go_upto_region 14 with (fail)
        go_cut [107] (fun s wx => s = .bool false ∧ Below wr.heap.size wr wx)
        case first =>
          have HLen := Lib.hid (st_len HS.out)
          have HBd := Lib.hid (st_bound HS.out)
          have HRk := Lib.hid (st_rank HS.out x)
          rw [HRR.out] at HRk
          have HHs : ∀ {W : World}, Below wr.heap.size wr W → Hid (Calls Try.prog 15 #[.pointer (some ⟨g, 0, none⟩), .int .i64 x] W fun e w' => e = .returned (.bool (decide (r < m) && decide (((l r : Nat) : Int) = x))) ∧ Below W.heap.size W w') := fun h => by
            have c := st_has (HS.out.keep h) x
            rw [HHas.out] at c
            exact Lib.hid c
          by_cases hrm : r < m
          · obtain ⟨ad, rfl, had, hV⟩ := (HNt.out.below hBw) r hrm
            have HVc : ∀ W, Below wr.heap.size wr W → W.cell? (ad.add r) = some (.int .i64 ((l r : Nat) : Int)) := fun W h => by
              obtain ⟨ad', e, _, hc⟩ := (HNt.out.below (hBw.trans (h.mono hBw.size))) r hrm
              cases e
              exact hc
            have em : min (r : Int) ((m : Int) - 1) = (r : Int) := by omega
            have dr : decide (r < m) = true := by simpa using hrm
            rw [dr] at HHs
            have HVV := Lib.hid HVc
            clear HVc hV dr
            generalize l r = z at *
            by_cases hzx : (z : Int) = x
            · subst hzx
              have HHs1 : ∀ {W : World}, Below wr.heap.size wr W → Hid (Calls Try.prog 15 #[.pointer (some ⟨g, 0, none⟩), .int .i64 (z : Int)] W fun e w' => e = .returned (.bool true) ∧ Below W.heap.size W w') := fun h => by
                have c := (HHs h).out
                simp only [decide_true, Bool.and_true] at c
                exact Lib.hid c
              clear HHs
              go_wp2_with fail
              with_reducible refine HLen.out.mono ?_
              rintro e w' ⟨rfl, rfl⟩
              go_wp2_with fail
              with_reducible refine HBd.out.mono ?_
              rintro e w' ⟨rfl, rfl⟩
              go_wp2_with fail
              with_reducible refine HRk.out.mono ?_
              rintro e x1 ⟨rfl, hc1⟩
              have HB1 := HBe x1 (hBw.trans (hc1.mono hBw.size))
              go_wp2_with fail
              with_reducible refine HB1.out.mono ?_
              rintro e w' ⟨rfl, rfl⟩
              go_wp2_with fail
              with_reducible refine (HHs1 hc1).out.mono ?_
              rintro e x2 ⟨rfl, hc2⟩
              have hC2 := hc1.trans (hc2.mono hc1.size)
              have HB2 := HBe x2 (hBw.trans (hC2.mono hBw.size))
              have hVx := HVV.out x2 hC2
              go_wp2_with fail
              with_reducible refine HB2.out.mono ?_
              rintro e w' ⟨rfl, rfl⟩
              go_wp2_with fail
              with_reducible refine HB2.out.mono ?_
              rintro e w' ⟨rfl, rfl⟩
              go_wp2_with fail
              go_meet
              exact ⟨rfl, hC2⟩
            · have dz : ((z : Int) == x) = false := by rw [beq_eq_false_iff_ne]; exact hzx
              have HHs1 : ∀ {W : World}, Below wr.heap.size wr W → Hid (Calls Try.prog 15 #[.pointer (some ⟨g, 0, none⟩), .int .i64 x] W fun e w' => e = .returned (.bool false) ∧ Below W.heap.size W w') := fun h => by
                have c := (HHs h).out
                have e : decide ((z : Int) = x) = false := by simpa using hzx
                rw [e, Bool.and_false] at c
                exact Lib.hid c
              clear HHs hzx
              go_wp2_with fail
              with_reducible refine HLen.out.mono ?_
              rintro e w' ⟨rfl, rfl⟩
              go_wp2_with fail
              with_reducible refine HBd.out.mono ?_
              rintro e w' ⟨rfl, rfl⟩
              go_wp2_with fail
              with_reducible refine HRk.out.mono ?_
              rintro e x1 ⟨rfl, hc1⟩
              have HB1 := HBe x1 (hBw.trans (hc1.mono hBw.size))
              go_wp2_with fail
              with_reducible refine HB1.out.mono ?_
              rintro e w' ⟨rfl, rfl⟩
              go_wp2_with fail
              with_reducible refine (HHs1 hc1).out.mono ?_
              rintro e x2 ⟨rfl, hc2⟩
              have hC2 := hc1.trans (hc2.mono hc1.size)
              have HB2 := HBe x2 (hBw.trans (hC2.mono hBw.size))
              have hVx := HVV.out x2 hC2
              go_wp2_with fail
              with_reducible refine HB2.out.mono ?_
              rintro e w' ⟨rfl, rfl⟩
              go_wp2_with fail
              with_reducible refine HB2.out.mono ?_
              rintro e w' ⟨rfl, rfl⟩
              go_wp2_with fail
              go_meet
              exact ⟨rfl, hC2⟩
          · have dr : decide (r < m) = false := by simpa using hrm
            rw [dr] at HHs
            have HHs1 : ∀ {W : World}, Below wr.heap.size wr W → Hid (Calls Try.prog 15 #[.pointer (some ⟨g, 0, none⟩), .int .i64 x] W fun e w' => e = .returned (.bool false) ∧ Below W.heap.size W w') := fun h => by
              have c := (HHs h).out
              rw [Bool.false_and] at c
              exact Lib.hid c
            clear HHs
            go_wp2_with fail
            with_reducible refine HLen.out.mono ?_
            rintro e w' ⟨rfl, rfl⟩
            go_wp2_with fail
            with_reducible refine HBd.out.mono ?_
            rintro e w' ⟨rfl, rfl⟩
            go_wp2_with fail
            with_reducible refine HRk.out.mono ?_
            rintro e x1 ⟨rfl, hc1⟩
            have HB1 := HBe x1 (hBw.trans (hc1.mono hBw.size))
            go_wp2_with fail
            with_reducible refine HB1.out.mono ?_
            rintro e w' ⟨rfl, rfl⟩
            go_wp2_with fail
            with_reducible refine (HHs1 hc1).out.mono ?_
            rintro e x2 ⟨rfl, hc2⟩
            have hC2 := hc1.trans (hc2.mono hc1.size)
            have HB2 := HBe x2 (hBw.trans (hC2.mono hBw.size))
            go_wp2_with fail
            with_reducible refine HB2.out.mono ?_
            rintro e w' ⟨rfl, rfl⟩
            go_wp2_with fail
            go_meet
            exact ⟨rfl, hC2⟩
        case rest =>
          obtain ⟨rfl, hCx⟩ := hcut
          have hBc := hBw.trans (hCx.mono hBw.size)
          have HSc := Lib.hid (HS.out.keep hCx)
          clear HS hBw hCx
          go_wp2_with fail
          go_loopw [110] (fun v wx => ∃ j : Nat, j ≤ m ∧ v = .int .i64 (j : Int) ∧ Hid (St wx B g N m hs ls l) ∧ Below w.heap.size w wx) (fun v _ => m - (intOf v).toNat)
          case atStart => exact ⟨0, Nat.zero_le _, rfl, HSc, hBc⟩
          case round =>
            clear HSc hBc
            obtain ⟨j, hj, rfl, HS, hBx⟩ := hrel
            by_cases hltj : j < m
            · obtain ⟨ad, rfl, had, hV⟩ := (HNt.out.below hBx) j hltj
              have HA1 : ∀ {W : World}, Below wr.heap.size wr W → Hid (Calls Try.prog 16 #[.pointer (some ⟨g, 0, none⟩), .int .i64 (j : Int)] W fun e w' => e = .returned (.int .i64 ((l j : Nat) : Int)) ∧ Below W.heap.size W w') := fun h => Lib.hid (st_at (HS.out.keep h) j hltj)
              have HVc : ∀ W, Below wr.heap.size wr W → W.cell? (ad.add j) = some (.int .i64 ((l j : Nat) : Int)) ∧ Below wr.heap.size wr W := fun W h => ⟨by
                obtain ⟨ad', e, _, hc⟩ := (HNt.out.below (hBx.trans (h.mono hBx.size))) j hltj
                cases e
                exact hc, h⟩
              generalize l j = z at *
              have hbd0 := below_drew' (Below.refl wr.heap.size wr)
              have HVV := Lib.hid HVc
              clear HVc
              go_upto_region 19 with (fail)
              go_cut [120] (fun s wx => s = .bool false ∧ Below wr.heap.size wr wx)
              case first =>
                go_region_held3 (fun w' => w'.cell? (ad.add j) = some (.int .i64 (z : Int)) ∧ Below wr.heap.size wr w')
                  ((first
                    | exact HVV.out _ hbd0
                    | exact HVV.out _ hC1))
                  (first
                    | (go_at_call 16; (with_reducible refine (HA1 hbd0).out.mono ?_); rintro e x1 ⟨rfl, hc1⟩; have hC1 := hbd0.trans (hc1.mono (Nat.le_refl _))))
                all_goals
                  go_wp2_with fail
                  go_meet
                  exact ⟨rfl, hC1⟩
              case rest =>
                obtain ⟨rfl, hCx⟩ := hcut
                have hBc := hBx.trans (hCx.mono hBx.size)
                have HS' := Lib.hid (HS.out.keep hCx)
                clear hV hbd0 hCx
                go_wp2_with fail
                go_roundw
                case rel => exact ⟨j + 1, by omega, by go_num, HS', hBc⟩
                case measure => simp [intOf]; omega
            · have HWs := Lib.hid (st_words HS.out)
              go_wp2_with fail
              with_reducible refine HWs.out.mono ?_
              rintro e y1 ⟨hs1, ls1, hf1, _, v1, v2, rfl, hr1, hr2, hc1⟩
              have hB1 := hBx.trans (hc1.mono hBx.size)
              have HS1 := Lib.hid (HS.out.keep hc1)
              have HW2 := HWd y1 hB1
              obtain ⟨A1, c1, rfl, hr1⟩ := hr1
              obtain ⟨A2, c2, rfl, hr2⟩ := hr2
              clear HS hc1 HWs hBx
              go_wp2_with fail
              with_reducible refine HW2.out.mono ?_
              rintro e y2 ⟨hs2, ls2, hf2, v3, v4, rfl, hr3, hr4, hc2⟩
              obtain ⟨rfl, rfl⟩ := hf2.unique hf1
              obtain ⟨hl1, hl2⟩ := HSh.out _ _ hf2
              have hB2 := hB1.trans (hc2.mono hB1.size)
              have HS2 := Lib.hid (HS1.out.keep hc2)
              have hr1' : Rds y2 (.slice A1 hs2.length c1) hs2 := Rds.keep ⟨A1, c1, rfl, hr1⟩ hc2
              have hr2' : Rds y2 (.slice A2 ls2.length c2) ls2 := Rds.keep ⟨A2, c2, rfl, hr2⟩ hc2
              have HSa := Lib.hid (same_rds hl1 hr1' hr3)
              have HSb : ∀ W, Below y2.heap.size y2 W → Hid (Calls Try.prog 19 #[.slice A2 ls2.length c2, v4] W fun e w' => e = .returned (.bool true) ∧ Below W.heap.size W w') := fun W h => Lib.hid (same_rds hl2 (hr2'.keep h) (hr4.keep h))
              obtain ⟨A3, c3, rfl, hr3⟩ := hr3
              obtain ⟨A4, c4, rfl, hr4⟩ := hr4
              clear hr1 hr2 hr1' hr2' hr3 hr4 HS1 hc2 HW2 hB1
              go_wp2_with fail
              with_reducible refine HSa.out.mono ?_
              rintro e y3 ⟨rfl, hc3⟩
              go_wp2_with fail
              with_reducible refine (HSb _ hc3).out.mono ?_
              rintro e y4 ⟨rfl, hc4⟩
              have hC4 := hc3.trans (hc4.mono hc3.size)
              have hB4 := hB2.trans (hC4.mono hB2.size)
              have hS4 := HS2.out.keep hC4
              have HA1 := Lib.hid (st_at_out hS4 (m : Int) (by omega))
              have HA2 := Lib.hid (st_at_out hS4 (-1) (by omega))
              clear hC4 hc3 hc4 HS2
              go_wp2_with fail
              with_reducible refine HA1.out.mono ?_
              rintro e w' ⟨rfl, rfl⟩
              go_wp2_with fail
              with_reducible refine HA2.out.mono ?_
              rintro e w' ⟨rfl, rfl⟩
              go_wp2_with fail
              go_ret
              exact ⟨rfl, hB4⟩

set_option maxRecDepth 100000 in
theorem walk (n : Int) (A : Option Addr) (m c : Nat) (V : Nat → Int) (x : Int) (w : World) (_hn : (Lit.int .i64 n).wf = true) (hm : m ≤ maxLen) (hA : A = none → m = 0 ∧ c = 0) (ho : Its w w.heap.size A m V) (_hx : (Lit.int .i64 x).wf = true) :
    Calls Try.prog 3 #[.int .i64 n, .slice A m c, .int .i64 x] w fun e w' => e = .returned (.bool true) ∧ Below w.heap.size w w' := by
  unfold maxLen at hm
  by_cases hfar : 1000 < m ∨ (50000 < n ∧ 0 < m)
  · exact walk_far n A m c x w hfar
  · cases hr : rightS n V m with
    | false => exact walk_bad n A m c V x w (by omega) (by omega) ho hA hr
    | true =>
      obtain ⟨N, l, rfl, hN, hrise, he⟩ := right_nat hr
      exact walk_right N A m c l V x w (by omega) (by omega) hN ho hA hrise he

theorem own : ownKnob Try.prog.godebug = none := by kernel_rfl
theorem laidOut : laidOutB Try.prog = true := by kernel_rfl

set_option maxRecDepth 100000 in
theorem lifted (os : Os) (started : os.Started) (H : Type) (enc : TypeId × Value → H) :
    ReturnsInHanded {} Try.checked os 3 .any (Rows.sparseHasSpec.pre6 enc Try.prog Try.f3 Rows.sparseHasRow.domain false) (Rows.sparseHasSpec.post enc Try.prog Try.f3 false true false false) := by
  refine returnsInHanded_of_change (C := Try.checked) own started (by kernel_rfl) Try.func3
    (ChangeSpec.witness6 (enc := enc) (C := Try.checked) false ⟨#[], #[.int .i64 0, .slice none 0 0, .int .i64 0], []⟩ 8 (by kernel_rfl) (by kernel_rfl) (by kernel_rfl) (by kernel_rfl)) ?_
  intro W base args ds gs before hval0 hW hcnd _
  have hval : ∀ (j : Nat) t v, Try.f3.params[j]? = some t → args[j]? = some v → Value.okWide Try.prog W .any base t v := hval0
  have hW' := hW
  obtain ⟨p, q, hA0, hV, rfl, hfz, hnd⟩ := hW
  have hA : DataW.TrodAll enc Try.prog W 0 (fun _ => true) true Try.f3.params.toList args.toList ds p := hA0
  rw [Try.params3] at hA hval
  obtain ⟨v0, v1, v2, d0, d1, d2, p0, p1, p2, rfl, rfl, rfl, h0, h1, h2⟩ := trodAll_three hA
  obtain ⟨rfl, rfl⟩ := trodVars_none hV
  obtain ⟨a0, rfl, rfl, rfl, wa0⟩ := open_int Try.underlying3 (hval 0 3 v0 rfl rfl) h0
  obtain ⟨A1, n1, c1, V1, rfl, hn1, hz1, ho1⟩ := open_list (hval 1 22 v1 rfl rfl) h1
  obtain ⟨a2, rfl, rfl, rfl, wa2⟩ := open_int Try.underlying3 (hval 2 3 v2 rfl rfl) h2
  clear hA0 hval0
  refine (walk a0 A1 n1 c1 V1 a2 W wa0 hn1 hz1 ho1 wa2).mono fun e W' ⟨he, hg⟩ => ?_
  subst he
  exact ⟨_, rfl, law_post laidOut rfl rfl rfl (by rw [Try.params3]; decide +kernel) hW' hg⟩

/-- The statement. -/
theorem proved : Rows.SparseHasSaid :=
  OpenClaim.holds_of_wide 3 Try.f3 rfl rfl rfl rfl rfl rfl rfl ⟨rfl, rfl, rfl, rfl, rfl⟩ rfl rfl rfl rfl rfl (by kernel_rfl) Try.func3 (by kernel_rfl)
    (of_decide_eq_true (by kernel_rfl)) (by unfold Func.isWrapper; first | (rw [if_pos (by decide +kernel)]; kernel_rfl) | (rw [if_neg (by decide +kernel)]; exact ⟨rfl, rfl⟩))
    (fun os started H enc _ => lifted os started H enc)
#print axioms proved
end Go.Proofs.Ytmcoehimjfgakaa.sparseHas
