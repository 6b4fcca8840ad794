/- For every input colophonlaw03.SparseOrder returns true, and its arguments read as they read. No condition. -/
import Derived.Test.YtmcoehimjfgakaaSpLaw
namespace Go.Proofs.Ytmcoehimjfgakaa.sparseOrder
open Go.ChangeShapes Go.WideShapes Go.ChangeAt Go.RowKit

set_option maxRecDepth 100000 in
set_option maxHeartbeats 3200000 in
/-- places that are not right. -/
theorem walk_bad (n : Int) (A : Option Addr) (m c : Nat) (V : Nat → Int) (x : Int) (w : World) (hm : m ≤ 1000) (hn : n ≤ 50000) (ho : Its w w.heap.size A m V) (hr : rightS n V m = false) :
    Calls Try.prog 6 #[.int .i64 n, .slice A m c, .int .i64 x] w fun e w' => e = .returned (.bool true) ∧ Below w.heap.size w w' := by
  have HF := Lib.hid (sfirst_any w)
  have HN : ∀ W, Below w.heap.size w W → Hid (Calls Try.prog 9 #[.int .i64 n, .slice A m c] W (NoSt 2 W)) := fun W hW => Lib.hid (snew_bad n A m c V w.heap.size W (by omega) (ho.below hW) hr)
  clear ho hr
  go_enter Try.func6, Try.ntmps6
  go_wp2_with fail
  with_reducible refine HF.out.mono ?_
  rintro e w1 ⟨rfl, hb1⟩
  go_wp2_with fail
  with_reducible refine (HN _ hb1).out.mono ?_
  rintro e w2 ⟨rfl, hb2⟩
  have hB2 := hb1.trans (hb2.mono hb1.size)
  clear hb1 hb2
  go_wp2_with fail
  with_reducible refine (slen_nil _).mono ?_
  rintro e w' ⟨rfl, rfl⟩
  go_wp2_with fail
  with_reducible refine (sbound_nil _).mono ?_
  rintro e w' ⟨rfl, rfl⟩
  go_wp2_with fail
  with_reducible refine (at_none _ _).mono ?_
  rintro e w' ⟨rfl, rfl⟩
  go_wp2_with fail
  with_reducible refine (srank_nil _ _).mono ?_
  rintro e w3 ⟨rfl, hb3⟩
  have hB3 := hB2.trans (hb3.mono hB2.size)
  clear hB2 hb3
  go_wp2_with fail
  with_reducible refine (has_none _ _).mono ?_
  rintro e w4 ⟨rfl, hb4⟩
  have hB4 := hB3.trans (hb4.mono hB3.size)
  go_wp2_with fail
  go_ret
  exact ⟨rfl, hB4⟩

set_option maxRecDepth 100000 in
set_option maxHeartbeats 6400000 in
/-- right places. -/
theorem walk_right (N : Nat) (A : Option Addr) (m c : Nat) (l : Nat → Nat) (x : Int) (w : World) (hm : m ≤ 1000) (hN : N ≤ 50000) (ho : Nts w w.heap.size A m l) (hr : Pl.Rise N m l) :
    Calls Try.prog 6 #[.int .i64 (N : Int), .slice A m c, .int .i64 x] w fun e w' => e = .returned (.bool true) ∧ Below w.heap.size w w' := by
  have HF := Lib.hid (sfirst_any w)
  have HN : ∀ W, Below w.heap.size w W → Hid (Calls Try.prog 9 #[.int .i64 (N : Int), .slice A m c] W (NewSt W N m l)) := fun W hW => Lib.hid (snew_right N m A c l w.heap.size W (by omega) (by omega) hW.size (ho.below hW) hr)
  have HO := Lib.hid ho
  have HR := Lib.hid hr
  have hbl := belowN_le l m x
  clear ho hr
  go_enter Try.func6, Try.ntmps6
  go_wp2_with fail
  with_reducible refine HF.out.mono ?_
  rintro e w1 ⟨rfl, hb1⟩
  go_wp2_with fail
  with_reducible refine (HN _ hb1).out.mono ?_
  rintro e w2 ⟨g, hs, ls, rfl, hst, hb2⟩
  have hB2 := hb1.trans (hb2.mono hb1.size)
  have HRk := Lib.hid (st_rank hst x)
  have HS := Lib.hid hst
  clear hb1 hb2 hst
  generalize w1.heap.size = B at HS
  obtain ⟨r, hr⟩ : ∃ r, belowN l m x = r := ⟨_, rfl⟩
  rw [hr] at HRk hbl
  have HRr := Lib.hid hr
  clear hr
  go_wp2_with fail
  with_reducible refine HRk.out.mono ?_
  rintro e w3 ⟨rfl, hb3⟩
  have hB3 := hB2.trans (hb3.mono hB2.size)
  have HS3 := Lib.hid (HS.out.keep hb3)
  clear hB2 hb3 HS HRk
  go_wp2_with fail
  go_loopw [56] (fun v wr => ∃ i : Nat, i ≤ m ∧ v = .int .i64 (i : Int) ∧ Below w.heap.size w wr ∧ Hid (St wr B g N m hs ls l)) (fun v _ => m - (intOf v).toNat)
  case atStart => exact ⟨0, Nat.zero_le _, rfl, hB3, HS3⟩
  case round =>
    clear HS3 hB3
    obtain ⟨i, hi, rfl, hBw, HS⟩ := hrel
    by_cases hlt : i < m
    · obtain ⟨ad, rfl, had, hV⟩ := (HO.out.below hBw) i hlt
      have hcut := belowN_cut HR.out x hlt
      rw [HRr.out] at hcut
      have hat := Rise.belowN_at HR.out hlt
      have hhas := Rise.hasB_at HR.out hlt
      have hbel := HR.out.below i hlt
      have HA : ∀ {W : World}, St W B g N m hs ls l → Hid (Calls Try.prog 16 #[.pointer (some ⟨g, 0, none⟩), .int .i64 (i : Int)] W fun e w' => e = .returned (.int .i64 ((l i : Nat) : Int)) ∧ Below W.heap.size W w') := fun h => Lib.hid (st_at h i hlt)
      have HRk : ∀ {W : World}, St W B g N m hs ls l → Hid (Calls Try.prog 13 #[.pointer (some ⟨g, 0, none⟩), .int .i64 ((l i : Nat) : Int)] W fun e w' => e = .returned (.int .i64 (i : Int)) ∧ Below W.heap.size W w') := fun h => by
        have c := st_rank h ((l i : Nat) : Int)
        rw [hat] at c
        exact Lib.hid c
      have HH : ∀ {W : World}, St W B g N m hs ls l → Hid (Calls Try.prog 15 #[.pointer (some ⟨g, 0, none⟩), .int .i64 ((l i : Nat) : Int)] W fun e w' => e = .returned (.bool true) ∧ Below W.heap.size W w') := fun h => by
        have c := st_has h ((l i : Nat) : Int)
        rw [hhas] at c
        exact Lib.hid c
      clear hat hhas
      have hAll : ∀ W W', Below w.heap.size w W → St W B g N m hs ls l → Below W.heap.size W W' → Below w.heap.size w W' ∧ W'.cell? (ad.add i) = some (.int .i64 ((l i : Nat) : Int)) ∧ St W' B g N m hs ls l := fun W W' h1 h2 h3 => by
        have h4 := h1.trans (h3.mono h1.size)
        exact ⟨h4, by
          obtain ⟨ad', e, _, hc⟩ := (HO.out.below h4) i hlt
          cases e
          exact hc, h2.keep h3⟩
      have HAll := Lib.hid hAll
      clear hAll
      generalize l i = z at *
      by_cases hzx : (z : Int) < x
      all_goals
        first
          | have hir : i < r := hcut.2 hzx
          | have hir : ¬ i < r := fun h => hzx (hcut.1 h)
        clear hcut
        go_wp2_with fail
        with_reducible refine (HA HS.out).out.mono ?_
        rintro e w4 ⟨rfl, hb4⟩
        obtain ⟨hB4, hV4, hS4⟩ := HAll.out _ _ hBw HS.out hb4
        clear hb4 hV
        go_wp2_with fail
        with_reducible refine (HRk hS4).out.mono ?_
        rintro e w5 ⟨rfl, hb5⟩
        obtain ⟨hB5, hV5, hS5⟩ := HAll.out _ _ hB4 hS4 hb5
        clear hb5 hB4 hV4 hS4
        go_wp2_with fail
        with_reducible refine (HH hS5).out.mono ?_
        rintro e w6 ⟨rfl, hb6⟩
        obtain ⟨hB6, hV6, hS6⟩ := HAll.out _ _ hB5 hS5 hb6
        clear hb6 hB5 hV5 hS5
        go_wp2_with fail
        with_reducible refine (HA hS6).out.mono ?_
        rintro e w7 ⟨rfl, hb7⟩
        obtain ⟨hB7, hV7, hS7⟩ := HAll.out _ _ hB6 hS6 hb7
        clear hb7 hB6 hV6 hS6 hV7
        have HS7 := Lib.hid hS7
        clear hS7
        go_wp2_with fail
        go_roundw
        case rel => exact ⟨i + 1, by omega, by go_num, hB7, HS7⟩
        case measure => simp [intOf]; omega
    · have him : i = m := by omega
      have HR1 := Lib.hid (st_rank HS.out (N : Int))
      rw [belowN_all HR.out] at HR1
      go_wp2_with fail
      with_reducible refine HR1.out.mono ?_
      rintro e w4 ⟨rfl, hb4⟩
      have hB4 := hBw.trans (hb4.mono hBw.size)
      have hS4 := HS.out.keep hb4
      have HR2 := Lib.hid (st_rank hS4 0)
      rw [belowN_zero l m (Int.le_refl 0)] at HR2
      clear hb4 hBw
      go_wp2_with fail
      with_reducible refine HR2.out.mono ?_
      rintro e w5 ⟨rfl, hb5⟩
      have hB5 := hB4.trans (hb5.mono hB4.size)
      have hS5 := hS4.keep hb5
      have HR3 := Lib.hid (st_has hS5 (-1))
      rw [hasB_neg l m (by decide)] at HR3
      clear hb5 hB4 hS4
      go_wp2_with fail
      with_reducible refine HR3.out.mono ?_
      rintro e w6 ⟨rfl, hb6⟩
      have hB6 := hB5.trans (hb6.mono hB5.size)
      have hS6 := hS5.keep hb6
      have HR4 := Lib.hid (st_has hS6 (N : Int))
      rw [hasB_none HR.out] at HR4
      clear hb6 hB5 hS5
      go_wp2_with fail
      with_reducible refine HR4.out.mono ?_
      rintro e w7 ⟨rfl, hb7⟩
      have hB7 := hB6.trans (hb7.mono hB6.size)
      go_wp2_with fail
      go_ret
      exact ⟨rfl, hB7⟩

set_option maxRecDepth 100000 in
set_option maxHeartbeats 1600000 in
theorem walk (n : Int) (A : Option Addr) (m c : Nat) (V : Nat → Int) (x : Int) (w : World) (_hn : (Lit.int .i64 n).wf = true) (hm : m ≤ maxLen) (_hA : A = none → m = 0 ∧ c = 0) (ho : Its w w.heap.size A m V) (_hx : (Lit.int .i64 x).wf = true) :
    Calls Try.prog 6 #[.int .i64 n, .slice A m c, .int .i64 x] w fun e w' => e = .returned (.bool true) ∧ Below w.heap.size w w' := by
  unfold maxLen at hm
  by_cases hbig : 1000 < m ∨ 50000 < n
  · have HF := Lib.hid (sfirst_any w)
    clear ho
    by_cases h1 : 1000 < m
    · clear hbig
      go_enter Try.func6, Try.ntmps6
      go_wp2_with fail
      with_reducible refine HF.out.mono ?_
      rintro e w1 ⟨rfl, hb1⟩
      go_wp2_with fail
      go_ret
      exact ⟨rfl, hb1⟩
    · have h2 : 50000 < n := by omega
      clear hbig
      go_enter Try.func6, Try.ntmps6
      go_wp2_with fail
      with_reducible refine HF.out.mono ?_
      rintro e w1 ⟨rfl, hb1⟩
      go_wp2_with fail
      go_ret
      exact ⟨rfl, hb1⟩
  · cases hr : rightS n V m with
    | false => exact walk_bad n A m c V x w (by omega) (by omega) ho hr
    | true =>
      obtain ⟨N, l, rfl, hN, hrise, he⟩ := right_nat hr
      exact walk_right N A m c l x w (by omega) (by omega) (ho.nts he) hrise

theorem own : ownKnob Try.prog.godebug = none := by kernel_rfl
theorem laidOut : laidOutB Try.prog = true := by kernel_rfl

set_option maxRecDepth 100000 in
theorem lifted (os : Os) (started : os.Started) (H : Type) (enc : TypeId × Value → H) :
    ReturnsInHanded {} Try.checked os 6 .any (Rows.sparseOrderSpec.pre6 enc Try.prog Try.f6 Rows.sparseOrderRow.domain false) (Rows.sparseOrderSpec.post enc Try.prog Try.f6 false true false false) := by
  refine returnsInHanded_of_change (C := Try.checked) own started (by kernel_rfl) Try.func6
    (ChangeSpec.witness6 (enc := enc) (C := Try.checked) false ⟨#[], #[.int .i64 0, .slice none 0 0, .int .i64 0], []⟩ 8 (by kernel_rfl) (by kernel_rfl) (by kernel_rfl) (by kernel_rfl)) ?_
  intro W base args ds gs before hval0 hW hcnd _
  have hval : ∀ (j : Nat) t v, Try.f6.params[j]? = some t → args[j]? = some v → Value.okWide Try.prog W .any base t v := hval0
  have hW' := hW
  obtain ⟨p, q, hA0, hV, rfl, hfz, hnd⟩ := hW
  have hA : DataW.TrodAll enc Try.prog W 0 (fun _ => true) true Try.f6.params.toList args.toList ds p := hA0
  rw [Try.params6] at hA hval
  obtain ⟨v0, v1, v2, d0, d1, d2, p0, p1, p2, rfl, rfl, rfl, h0, h1, h2⟩ := trodAll_three hA
  obtain ⟨rfl, rfl⟩ := trodVars_none hV
  obtain ⟨a0, rfl, rfl, rfl, wa0⟩ := open_int Try.underlying3 (hval 0 3 v0 rfl rfl) h0
  obtain ⟨A1, n1, c1, V1, rfl, hn1, hz1, ho1⟩ := open_list (hval 1 22 v1 rfl rfl) h1
  obtain ⟨a2, rfl, rfl, rfl, wa2⟩ := open_int Try.underlying3 (hval 2 3 v2 rfl rfl) h2
  clear hA0 hval0
  refine (walk a0 A1 n1 c1 V1 a2 W wa0 hn1 hz1 ho1 wa2).mono fun e W' ⟨he, hg⟩ => ?_
  subst he
  exact ⟨_, rfl, law_post laidOut rfl rfl rfl (by rw [Try.params6]; decide +kernel) hW' hg⟩

/-- The statement. -/
theorem proved : Rows.SparseOrderSaid :=
  OpenClaim.holds_of_wide 6 Try.f6 rfl rfl rfl rfl rfl rfl rfl ⟨rfl, rfl, rfl, rfl, rfl⟩ rfl rfl rfl rfl rfl (by kernel_rfl) Try.func6 (by kernel_rfl)
    (of_decide_eq_true (by kernel_rfl)) (by unfold Func.isWrapper; first | (rw [if_pos (by decide +kernel)]; kernel_rfl) | (rw [if_neg (by decide +kernel)]; exact ⟨rfl, rfl⟩))
    (fun os started H enc _ => lifted os started H enc)
#print axioms proved
end Go.Proofs.Ytmcoehimjfgakaa.sparseOrder
