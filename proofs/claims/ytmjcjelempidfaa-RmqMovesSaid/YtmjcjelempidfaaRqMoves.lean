/- The walk of colophonlaw14.RmqMoves, over what package rmq answers (RmqI). -/
import Derived.Test.YtmjcjelempidfaaRmqI
import Derived.Test.YtmjcjelempidfaaI8
import Derived.Test.YtmjcjelempidfaaIntApp
import Derived.Test.YtmjcjelempidfaaRegion
import Derived.Deep.RegionHeld3
namespace Go.Proofs.Ytmjcjelempidfaa
open Go.RowKit
section
variable {At : Nat → World → Value → Nat → (Nat → Int) → Prop}

set_option maxRecDepth 100000 in
set_option maxHeartbeats 3200000 in
theorem rqMoves_walk (I : RmqI At) (A : Option Addr) (n c : Nat) (V : Nat → Int) (x0 x1 x2 : Int) (w : World) (h0 : (Lit.int .i64 x0).wf = true) (h1 : (Lit.int .i64 x1).wf = true) (_h2 : (Lit.int .i64 x2).wf = true) (ho : It8R w A n c V) :
    Calls Try.prog 5 #[.slice A n c, .agg #[.int .i64 x0, .int .i64 x1], .int .i64 x2] w fun e w' => e = .returned (.bool true) ∧ Below w.heap.size w w' := by
  have HI := Lib.hid I
  have hbx : Below w.heap.size w (w.alloc (.cells #[.int .i64 x0, .int .i64 x1] 36)) := (Below.refl _ _).alloc (Nat.le_refl _) _
  have HL := Lib.hid (lies_new w 36 [.int .i64 x0, .int .i64 x1])
  have HF := Lib.hid (rqfirst_any I (w.alloc (.cells #[.int .i64 x0, .int .i64 x1] 36)))
  have HSz := Lib.hid (size_alloc w (.cells #[.int .i64 x0, .int .i64 x1] 36))
  have HW := Lib.hid (And.intro h0 h1)
  have HO := Lib.hid (ho.below hbx)
  have hnm : n ≤ maxLen := by have := ho.2.1; have := ho.2.2.1; omega
  have hnl : n ≤ 9223372036854775807 := by unfold maxLen at hnm; omega
  clear I h0 h1 ho
  by_cases hbig : 500 < n ∨ n = 0
  · have hcase : (decide ((500 : Int) < (n : Int)) = true ∧ True) ∨ (decide ((500 : Int) < (n : Int)) = false ∧ n = 0) := by
      by_cases h : 500 < n
      · exact .inl ⟨decide_eq_true (by omega), trivial⟩
      · exact .inr ⟨decide_eq_false (by omega), by omega⟩
    rcases hcase with ⟨d1, _⟩ | ⟨d1, rfl⟩
    · clear HSz
      go_enter Try.func5, Try.ntmps5
      go_wp2_with fail
      refine HF.out.mono ?_
      rintro e w0 ⟨rfl, hb0⟩
      have hB0 := hbx.trans (hb0.mono hbx.size)
      go_wp2_with fail
      go_ret
      exact ⟨rfl, hB0⟩
    · clear HSz
      go_enter Try.func5, Try.ntmps5
      go_wp2_with fail
      refine HF.out.mono ?_
      rintro e w0 ⟨rfl, hb0⟩
      have hB0 := hbx.trans (hb0.mono hbx.size)
      go_wp2_with fail
      go_ret
      exact ⟨rfl, hB0⟩
  · have hn : n ≤ 500 ∧ 0 < n := by omega
    obtain ⟨hn1, hn0⟩ := hn
    have d1 : decide ((500 : Int) < (n : Int)) = false := decide_eq_false (by omega)
    have d2 : ((n : Int) == 0) = false := by rw [beq_eq_false_iff_ne]; omega
    have d3 : ¬ n = 0 := by omega
    clear hbig
    go_enter Try.func5, Try.ntmps5
    go_wp2_with fail
    refine HF.out.mono ?_
    rintro e w0 ⟨rfl, hb0⟩
    have HB0 := Lib.hid (hbx.trans (hb0.mono hbx.size))
    have HL0 := Lib.hid (HL.out.below hb0 (by rw [HSz.out]; omega))
    have HO0 := Lib.hid (HO.out.below hb0)
    have hz0 : w.heap.size < w0.heap.size := by have := hb0.size; have := HSz.out; omega
    have H0 : Hid (w0.ownsRow w0.heap.size 3 1 (.slice none 0 0) 0 (icells V 0)) := Lib.hid (World.ownsRow_nil w0 _ _ _)
    have H0b : Hid (w0.ownsRow w0.heap.size 3 1 (.slice none 0 0) 0 (icells (fun j => V j + 1000) 0)) := Lib.hid (World.ownsRow_nil w0 _ _ _)
    have H1 : Hid (Below w0.heap.size w0 w0) := Lib.hid (Below.refl _ _)
    have H2 : Hid (Apart (.slice none 0 0) (.slice none 0 0)) := Lib.hid fun g h => by cases h
    clear hb0 hbx HL HF HO
    go_wp2_with fail
    go_loopw [7, 8, 9, 32] (fun s t u i' wr => ∃ i : Nat, i ≤ n ∧ i' = .int .i64 (i : Int) ∧ Hid (wr.ownsRow w0.heap.size 3 1 s i (icells V i)) ∧ Hid (wr.ownsRow w0.heap.size 3 1 t i (icells (fun j => V j + 1000) i)) ∧ Hid (wr.ownsRow w0.heap.size 3 1 u i (icells V i)) ∧ Hid (Apart s t ∧ Apart s u ∧ Apart t u) ∧ Hid (Below w0.heap.size w0 wr)) (fun _ _ _ i' _ => n - (intOf i').toNat)
    case atStart => exact ⟨0, Nat.zero_le _, rfl, H0, H0b, H0, Lib.hid ⟨H2.out, H2.out, H2.out⟩, H1⟩
    case round =>
      clear H0 H0b H1 H2
      obtain ⟨i, hi, rfl, hs, ht, hu, hap, hb⟩ := hrel
      by_cases hlt : i < n
      · have hlti : (i : Int) < (n : Int) := by omega
        obtain ⟨ad, hA, _, cx, hv1, hv2⟩ := (HO0.out.below hb.out).2.2.2 i hlt
        subst hA
        have hbs := hb.out.size
        have hi4 : i ≤ 4194304 := by omega
        have e1 : IntKind.i64.wrap (V i + 1000) = V i + 1000 := IntWalk.i64_in _ (by omega)
        have e2 : IntKind.i64.wrap (V i) = V i := IntWalk.i64_in _ (by omega)
        obtain ⟨y, hy⟩ : ∃ y, V i = y := ⟨_, rfl⟩
        rw [hy] at cx e1 e2
        have HY := Lib.hid hy
        clear hy hv1 hv2
        go_wp2_with (first
          | (at_builtin; refine step_append_int_own rfl (.tmp 36) (.tmp 39) rfl rfl hs.out _ rfl hbs hi4 ?_; intro g1 k1 w4 o4 p4 b4; (have t4 := Lib.hid (Apart.kept ht.out hap.out.1.symm p4.out.1)); (have u4 := Lib.hid (Apart.kept hu.out hap.out.2.1.symm p4.out.1)); (have s4 := Nat.le_trans hbs (Below.size b4)))
          | (at_builtin; refine step_append_int_own rfl (.tmp 41) (.tmp 45) rfl rfl t4.out _ rfl s4 hi4 ?_; intro g2 k2 w5 o5 p5 b5; (have u5 := Lib.hid (Apart.kept u4.out hap.out.2.2.symm p5.out.1)); (have s5 := Nat.le_trans s4 (Below.size b5)))
          | (at_builtin; refine step_append_int_own rfl (.tmp 47) (.tmp 50) rfl rfl u5.out _ rfl s5 hi4 ?_; intro g3 k3 w6 o6 p6 b6))
        have A1 := Apart.next (m := i + 1) (c := k1) ht.out hap.out.1.symm p4.out.2
        have A2 := Apart.next (m := i + 1) (c := k1) hu.out hap.out.2.1.symm p4.out.2
        have x5 := Apart.kept o4.out A1.symm p5.out.1
        have B1 := Apart.next (m := i + 1) (c := k2) o4.out A1.symm p5.out.2
        have B2 := Apart.next (m := i + 1) (c := k2) u4.out hap.out.2.2.symm p5.out.2
        have C1 := Apart.next (m := i + 1) (c := k3) x5 A2.symm p6.out.2
        have C2 := Apart.next (m := i + 1) (c := k3) o5.out B2.symm p6.out.2
        have x6 := Lib.hid (Apart.kept x5 A2.symm p6.out.1)
        have y6 := Lib.hid (Apart.kept o5.out B2.symm p6.out.1)
        have D6 := Lib.hid (And.intro B1 (And.intro C1 C2))
        have b7 := Lib.hid (((hb.out.trans b4).trans b5).trans b6)
        clear A1 A2 x5 B1 B2 C1 C2 o4 o5 p4 p5 p6 b4 b5 b6 t4 u4 u5 hs ht hu hap hb
        go_roundw
        case rel => exact ⟨i + 1, by omega, by go_num, Lib.hid (by
          rw [icells_snoc, HY.out]
          exact x6.out), Lib.hid (by
          rw [icells_snoc, HY.out]
          exact y6.out), Lib.hid (by
          rw [icells_snoc, HY.out]
          exact o6.out), D6, b7⟩
        case measure => simp [intOf]; omega
      · obtain rfl : i = n := by omega
        have hge : ¬ (i : Int) < (i : Int) := by omega
        obtain ⟨g3, k3, hu3, hg3, hg3l, _, _⟩ := owns_some hu.out hn0
        subst hu3
        obtain ⟨k, hk, hkn⟩ := turn_w x2 i hn0 (by omega)
        have HK := Lib.hid hk
        have hki : (k : Int) < (i : Int) := by omega
        have eu : IntKind.u64.wrap (i : Int) = (i : Int) := IntWalk.u64_in _ (by omega)
        have ei : ¬ (i : Int) = 0 := by omega
        have HV8 : Hid (∀ j, j < i → -128 ≤ V j ∧ V j ≤ 127) := Lib.hid fun j hj => by
          obtain ⟨_, _, _, _, h⟩ := HO0.out.2.2.2 j hj
          exact h
        clear hk hge hlt
        go_upto_region 11 with (fail)
        go_cut [12] from 53 to 59 (fun s wx => s = .int .i64 (k : Int) ∧ wx = wr)
        case first =>
          go_wp2_with fail
          go_meet
          exact ⟨by rw [HK.out], rfl⟩
        case rest =>
        obtain ⟨rfl, rfl⟩ := hcut
        rename World => wl
        have hcell : wl.cell? ⟨g3, k, none⟩ = some (.int .i64 (V k)) := by
          rw [hu.out.cellAt k (by omega)]
          exact icells_at _ _ _ hkn
        have hfree := owns_free hu.out k
        obtain ⟨wz, hwz⟩ : ∃ wz, wl.setCell ⟨g3, k, none⟩ (.int .i64 (-500)) = wz := ⟨_, rfl⟩
        have hgz : wl.grownBy wz (Value.ownBlock (.slice (some ⟨g3, 0, none⟩) i k3)) := by
          rw [← hwz]
          exact ⟨rfl, rfl, rfl, by simp [World.setCell], fun j _ hne => Below.heap_setCell wl ⟨g3, k, none⟩ _ j (fun e => hne (by rw [e]; rfl))⟩
        have hz := owns_put hu.out k (.int .i64 (-500))
        rw [icells_put, hwz] at hz
        have hbz : Below w0.heap.size w0 wz := by rw [← hwz]; exact hb.out.setCell (p := ⟨g3, k, none⟩) hg3 _
        obtain ⟨AX, cX, hsX, hIX⟩ := ItsR.of_own (Apart.kept hs.out hap.out.2.1 hgz) (fun j hj => by have := HV8.out j hj; omega)
        subst hsX
        obtain ⟨AY, cY, hsY, hIY⟩ := ItsR.of_own (Apart.kept ht.out hap.out.2.2 hgz) (fun j hj => by
          have := HV8.out j hj
          show -9223372036854775808 ≤ V j + 1000 ∧ V j + 1000 ≤ _
          omega)
        subst hsY
        obtain ⟨AZ, cZ, hsZ, hIZ⟩ := ItsR.of_own hz (fun j hj => by
          have := HV8.out j hj
          show -9223372036854775808 ≤ (if j = k then (-500 : Int) else V j) ∧ (if j = k then (-500 : Int) else V j) ≤ _
          split <;> omega)
        cases hsZ
        have HBz := Lib.hid (HB0.out.trans (hbz.mono HB0.out.size))
        have HLz := Lib.hid (HL0.out.below hbz hz0)
        have hzz : w.heap.size < wz.heap.size := Nat.lt_of_lt_of_le hz0 hbz.size
        have HIY := Lib.hid hIY
        have HIZ := Lib.hid hIZ
        have HN1 := Lib.hid (HI.out.new AX i cX V wz (by omega) hIX)
        obtain ⟨v0, hv0⟩ : ∃ v0, V k = v0 := ⟨_, rfl⟩
        rw [hv0] at hcell
        clear hs ht hu hap hb hgz hz hbz hIX hIY hIZ hv0 HB0 HL0 hz0 HO0 eu ei
        go_wp2_with fail
        refine HN1.out.mono ?_
        rintro e w1 ⟨⟨p1, rfl, hA1⟩, hb1⟩
        obtain ⟨a1, rfl⟩ := HI.out.ptr hA1
        have HB1 := Lib.hid (HBz.out.trans (hb1.mono HBz.out.size))
        have HL1 := Lib.hid (HLz.out.below hb1 hzz)
        have hz1 : w.heap.size < w1.heap.size := Nat.lt_of_lt_of_le hzz hb1.size
        have HX1 := Lib.hid hA1
        have HZ1 := Lib.hid (HIZ.out.below hb1)
        have HN2 := Lib.hid (HI.out.new AY i cY (fun j => V j + 1000) w1 (by omega) (HIY.out.below hb1))
        clear hA1 hb1 HN1 HBz HLz hzz HIY HIZ hcell hfree hwz
        go_wp2_with fail
        refine HN2.out.mono ?_
        rintro e w2 ⟨⟨p2, rfl, hA2⟩, hb2⟩
        obtain ⟨a2, rfl⟩ := HI.out.ptr hA2
        have HB2 := Lib.hid (HB1.out.trans (hb2.mono HB1.out.size))
        have HL2 := Lib.hid (HL1.out.below hb2 hz1)
        have hz2 : w.heap.size < w2.heap.size := Nat.lt_of_lt_of_le hz1 hb2.size
        have HX2 := Lib.hid (HI.out.keep HX1.out hb2)
        have HY2 := Lib.hid hA2
        have HN3 := Lib.hid (HI.out.new _ i _ (fun j => if j = k then (-500 : Int) else V j) w2 (by omega) (HZ1.out.below hb2))
        clear hA2 hb2 HN2 HB1 HL1 hz1 HX1 HZ1
        go_wp2_with fail
        refine HN3.out.mono ?_
        rintro e w3 ⟨⟨p3, rfl, hA3⟩, hb3⟩
        obtain ⟨a3, rfl⟩ := HI.out.ptr hA3
        have HB3 := Lib.hid (HB2.out.trans (hb3.mono HB2.out.size))
        have HL3 := Lib.hid (HL2.out.below hb3 hz2)
        have hz3 : w.heap.size < w3.heap.size := Nat.lt_of_lt_of_le hz2 hb3.size
        have HX3 := Lib.hid (HI.out.keep HX2.out hb3)
        have HY3 := Lib.hid (HI.out.keep HY2.out hb3)
        have HZ3 := Lib.hid hA3
        have c0 : w3.cell? ⟨w.heap.size, 0, none⟩ = some (.int .i64 x0) := HL3.out.cell 0
        have c1 : w3.cell? ⟨w.heap.size, 1, none⟩ = some (.int .i64 x1) := HL3.out.cell 1
        obtain ⟨r, hr⟩ : ∃ r, lstR V x0 x1 i = r := ⟨_, rfl⟩
        have hry : lstR (fun j => V j + 1000) x0 x1 i = r := by
          rw [← hr]
          exact lstR_alike fun p q _ _ _ _ _ _ => by
            show V p + 1000 < V q + 1000 ↔ _
            omega
        obtain ⟨rz, hrz⟩ : ∃ rz, lstR (fun j => if j = k then (-500 : Int) else V j) x0 x1 i = rz := ⟨_, rfl⟩
        have hrz2 : ((x0 ≤ (k : Int) ∧ (k : Int) < x1) ∧ rz = (k : Int)) ∨ (¬ (x0 ≤ (k : Int) ∧ (k : Int) < x1) ∧ rz = r) := by
          by_cases h : x0 ≤ (k : Int) ∧ (k : Int) < x1
          · refine .inl ⟨h, ?_⟩
            rw [← hrz]
            refine lstR_low hkn h.1 h.2 fun j hj hne => ?_
            have := HV8.out j hj
            show (if k = k then (-500 : Int) else V k) < (if j = k then (-500 : Int) else V j)
            rw [if_pos rfl, if_neg hne]
            omega
          · refine .inr ⟨h, ?_⟩
            rw [← hrz, ← hr]
            refine lstR_alike fun p q _ _ hp1 hp2 hq1 hq2 => ?_
            show (if p = k then (-500 : Int) else V p) < (if q = k then (-500 : Int) else V q) ↔ _
            rw [if_neg (fun e => h (by rw [← e]; exact ⟨hp1, hp2⟩)), if_neg (fun e => h (by rw [← e]; exact ⟨hq1, hq2⟩))]
        have H4 := HI.out.least _ _ _ _ x0 x1 w3 HW.out.1 HW.out.2 HX3.out
        rw [hr] at H4
        have H4 := Lib.hid H4
        have HR := Lib.hid hr
        have HRy := Lib.hid hry
        have HRz := Lib.hid hrz
        have HRz2 := Lib.hid hrz2
        clear hA3 hb3 HN3 HB2 HL2 hz2 HX2 HY2 hr hry hrz hrz2
        go_wp2_with fail
        refine H4.out.mono ?_
        rintro e w4 ⟨rfl, hb4⟩
        have HB4 := Lib.hid (HB3.out.trans (hb4.mono HB3.out.size))
        have HL4 := Lib.hid (HL3.out.below hb4 hz3)
        have hz4 : w.heap.size < w4.heap.size := Nat.lt_of_lt_of_le hz3 hb4.size
        have HX4 := Lib.hid (HI.out.keep HX3.out hb4)
        have HY4 := Lib.hid (HI.out.keep HY3.out hb4)
        have HZ4 := Lib.hid (HI.out.keep HZ3.out hb4)
        have c0' : w4.cell? ⟨w.heap.size, 0, none⟩ = some (.int .i64 x0) := HL4.out.cell 0
        have c1' : w4.cell? ⟨w.heap.size, 1, none⟩ = some (.int .i64 x1) := HL4.out.cell 1
        obtain ⟨t, ht⟩ : ∃ t : Bool, t = true ↔ (x0 ≤ (k : Int) ∧ (k : Int) < x1) := ⟨decide _, decide_eq_true_iff⟩
        have HT := Lib.hid ht
        clear ht hb4 H4 HB3 HL3 hz3 HX3 HY3 HZ3 c0 c1
        go_upto_region 17 with (fail)
        go_cut [93] from 84 to 93 (fun s wx => s = .bool t ∧ wx = w4)
        case first =>
          by_cases g1 : x0 ≤ (k : Int)
          · have d1 : decide (x0 ≤ (k : Int)) = true := decide_eq_true g1
            by_cases g2 : (k : Int) < x1
            · have d2 : decide ((k : Int) < x1) = true := decide_eq_true g2
              obtain rfl : t = true := HT.out.2 ⟨g1, g2⟩
              go_wp2_with fail
              go_meet
              exact ⟨rfl, rfl⟩
            · have d2 : decide ((k : Int) < x1) = false := decide_eq_false g2
              obtain rfl : t = false := Bool.eq_false_iff.2 fun h => g2 (HT.out.1 h).2
              go_wp2_with fail
              go_meet
              exact ⟨rfl, rfl⟩
          · have d1 : decide (x0 ≤ (k : Int)) = false := decide_eq_false g1
            obtain rfl : t = false := Bool.eq_false_iff.2 fun h => g1 (HT.out.1 h).1
            go_wp2_with fail
            go_meet
            exact ⟨rfl, rfl⟩
        case rest =>
        obtain ⟨rfl, rfl⟩ := hcut
        go_upto_if 93 with (fail)
        go_cut [19] from 94 to 94 (fun s wx => s = .int .i64 rz ∧ wx = wc)
        case first =>
          rcases t with _ | _
          · have hrr : Hid (rz = r) := Lib.hid (by
              rcases HRz2.out with ⟨h, _⟩ | ⟨_, h⟩
              · have := HT.out.2 h
                cases this
              · exact h)
            go_wp2_with fail
            go_meet
            exact ⟨by rw [hrr.out], rfl⟩
          · have hrr : Hid (rz = (k : Int)) := Lib.hid (by
              rcases HRz2.out with ⟨_, h⟩ | ⟨h, _⟩
              · exact h
              · exact absurd (HT.out.1 rfl) h)
            go_wp2_with fail
            go_meet
            exact ⟨by rw [hrr.out], rfl⟩
        case rest =>
        obtain ⟨rfl, rfl⟩ := hcut
        have hbd0 := below_drew' (Below.refl wc.heap.size wc)
        have HV : Hid (∀ W, Below wc.heap.size wc W → (W.cell? ⟨w.heap.size, 0, none⟩ = some (.int .i64 x0) ∧ W.cell? ⟨w.heap.size, 1, none⟩ = some (.int .i64 x1)) ∧ Below wc.heap.size wc W) := Lib.hid fun W h => ⟨⟨(HL4.out.below h hz4).cell 0, (HL4.out.below h hz4).cell 1⟩, h⟩
        have HLx : Hid (∀ W, Below wc.heap.size wc W → Calls Try.prog 10 #[.pointer (some a1), .int .i64 x0, .int .i64 x1] W fun e w' => e = .returned (.int .i64 r) ∧ Below wc.heap.size wc w') := Lib.hid fun W h => (HI.out.least _ _ _ _ x0 x1 W HW.out.1 HW.out.2 (HI.out.keep HX4.out h)).mono fun e w' hh => ⟨by rw [hh.1, HR.out], h.trans (hh.2.mono h.size)⟩
        have HLy : Hid (∀ W, Below wc.heap.size wc W → Calls Try.prog 10 #[.pointer (some a2), .int .i64 x0, .int .i64 x1] W fun e w' => e = .returned (.int .i64 r) ∧ Below wc.heap.size wc w') := Lib.hid fun W h => (HI.out.least _ _ _ _ x0 x1 W HW.out.1 HW.out.2 (HI.out.keep HY4.out h)).mono fun e w' hh => ⟨by rw [hh.1, HRy.out], h.trans (hh.2.mono h.size)⟩
        have HLz : Hid (∀ W, Below wc.heap.size wc W → Calls Try.prog 10 #[.pointer (some a3), .int .i64 x0, .int .i64 x1] W fun e w' => e = .returned (.int .i64 rz) ∧ Below wc.heap.size wc w') := Lib.hid fun W h => (HI.out.least _ _ _ _ x0 x1 W HW.out.1 HW.out.2 (HI.out.keep HZ4.out h)).mono fun e w' hh => ⟨by rw [hh.1, HRz.out], h.trans (hh.2.mono h.size)⟩
        have q1 : (r == r) = true := by simp
        have q2 : (rz == rz) = true := by simp
        clear HX4 HY4 HZ4 HL4 hz4 c0' c1'
        go_upto_region 19 with (fail)
        go_cut [6] (fun s wx => s = .bool true ∧ Below wc.heap.size wc wx)
        case first =>
          go_region_held3 (fun w' => (w'.cell? ⟨w.heap.size, 0, none⟩ = some (.int .i64 x0) ∧ w'.cell? ⟨w.heap.size, 1, none⟩ = some (.int .i64 x1)) ∧ Below wc.heap.size wc w')
            ((first
              | exact HV.out _ hbd0
              | exact HV.out _ hC3
              | exact HV.out _ hC2
              | exact HV.out _ hC1))
            ((first
              | (go_at_call 10; (with_reducible refine (HLz.out _ hC2).mono ?_); rintro e w' ⟨rfl, hC3⟩)
              | (go_at_call 10; (with_reducible refine (HLy.out _ hC1).mono ?_); rintro e w' ⟨rfl, hC2⟩)
              | (go_at_call 10; (with_reducible refine (HLx.out _ hbd0).mono ?_); rintro e w' ⟨rfl, hC1⟩)))
          go_wp2_with fail
          go_meet
          exact ⟨rfl, hC3⟩
        case rest =>
        obtain ⟨rfl, hCx⟩ := hcut
        have HB5 := Lib.hid (HB4.out.trans (hCx.mono HB4.out.size))
        clear hCx HV HLx HLy HLz
        go_wp2_with fail
        go_ret
        exact ⟨rfl, HB5.out⟩
end
end Go.Proofs.Ytmjcjelempidfaa
