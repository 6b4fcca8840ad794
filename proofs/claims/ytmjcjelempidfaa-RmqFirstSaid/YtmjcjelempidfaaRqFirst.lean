/- The walk of colophonlaw14.RmqFirst, over what package rmq answers (RmqI). -/
import Derived.Test.YtmjcjelempidfaaRmqI
import Derived.Test.YtmjcjelempidfaaIntPut
namespace Go.Proofs.Ytmjcjelempidfaa
open Go.RowKit
theorem rq_u16 {a : Int} (h : (Lit.int .u16 a).wf = true) : ∃ x : Nat, x < 65536 ∧ a = (x : Int) := by
  simp [Lit.wf, IntKind.min, IntKind.max, IntKind.bits, IntKind.signed] at h
  exact ⟨a.toNat, by omega, by omega⟩
section
variable {At : Nat → World → Value → Nat → (Nat → Int) → Prop}

set_option maxRecDepth 100000 in
set_option maxHeartbeats 1600000 in
theorem rqFirst_walk (I : RmqI At) (x v x0 x1 : Int) (w : World) (hx : (Lit.int .u16 x).wf = true) (hv : (Lit.int .i64 v).wf = true) (h0 : (Lit.int .i64 x0).wf = true) (h1 : (Lit.int .i64 x1).wf = true) :
    Calls Try.prog 6 #[.int .u16 x, .int .i64 v, .agg #[.int .i64 x0, .int .i64 x1]] w fun e w' => e = .returned (.bool true) ∧ Below w.heap.size w w' := by
  have HI := Lib.hid I
  have hbx : Below w.heap.size w (w.alloc (.cells #[.int .i64 x0, .int .i64 x1] 36)) := (Below.refl _ _).alloc (Nat.le_refl _) _
  have HL := Lib.hid (lies_new w 36 [.int .i64 x0, .int .i64 x1])
  have HF := Lib.hid (rqfirst_any I (w.alloc (.cells #[.int .i64 x0, .int .i64 x1] 36)))
  have HSz := Lib.hid (size_alloc w (.cells #[.int .i64 x0, .int .i64 x1] 36))
  have HW := Lib.hid (And.intro h0 h1)
  have hvb := i64_in hv
  obtain ⟨k, hxb, rfl⟩ := rq_u16 hx
  obtain ⟨m, hm⟩ : ∃ m : Nat, k % 300 = m := ⟨_, rfl⟩
  have hm3 : m < 300 := by omega
  have hmi : ((k : Int).tmod 300) = (m : Int) := by rw [Int.tmod_eq_emod_of_nonneg (by omega)]; omega
  have HM := Lib.hid hm
  clear I hx hv h0 h1 hm
  go_enter Try.func6, Try.ntmps6
  go_wp2_with fail
  refine HF.out.mono ?_
  rintro e w0 ⟨rfl, hb0⟩
  have HB0 := Lib.hid (hbx.trans (hb0.mono hbx.size))
  have HL0 := Lib.hid (HL.out.below hb0 (by rw [HSz.out]; omega))
  have hz0 : w.heap.size < w0.heap.size := by have := hb0.size; have := HSz.out; omega
  have H0 : Hid (w0.ownsRow w0.heap.size 3 1 (.slice none 0 0) 0 (icells (fun _ => v) 0)) := Lib.hid (World.ownsRow_nil w0 _ _ _)
  have H1 : Hid (Below w0.heap.size w0 w0) := Lib.hid (Below.refl _ _)
  clear hb0 hbx HL HF
  go_wp2_with fail
  go_loopw [7, 15] (fun s t wr => ∃ i : Nat, i ≤ m ∧ t = .int .u16 (i : Int) ∧ Hid (wr.ownsRow w0.heap.size 3 1 s i (icells (fun _ => v) i)) ∧ Hid (Below w0.heap.size w0 wr)) (fun _ t _ => m - (intOf t).toNat)
  case atStart => exact ⟨0, Nat.zero_le _, rfl, H0, H1⟩
  case round =>
    clear H0 H1
    obtain ⟨i, hi, rfl, hrow, hb⟩ := hrel
    by_cases hlt : i < m
    · have hlti : (i : Int) < (m : Int) := by omega
      have hbs := hb.out.size
      have hi4 : i ≤ 4194304 := by omega
      have ew : IntKind.u16.wrap ((i : Int) + 1) = (i : Int) + 1 := by
        exact IntWalk.u16_in _ (by omega)
      have ew2 : ((i : Int) + 1) % 65536 = (i : Int) + 1 := by omega
      go_wp2_with (at_builtin; refine step_append_int rfl (.tmp 17) (.tmp 19) rfl rfl hrow.out _ rfl hbs hi4 ?_; intro v4 w4 hown4 hb4)
      go_roundw
      case rel => exact ⟨i + 1, by omega, by go_num, Lib.hid (by
        rw [icells_snoc]
        exact hown4.out), Lib.hid (hb.out.trans hb4)⟩
      case measure => simp [intOf]; omega
    · obtain rfl : i = m := by omega
      have hge : ¬ (i : Int) < (i : Int) := by omega
      obtain ⟨A, c, rfl, hI⟩ := ItsR.of_own hrow.out (fun j _ => hvb)
      have HNew := Lib.hid (HI.out.new A i c (fun _ => v) _ (by omega) hI)
      have HB1 := Lib.hid (HB0.out.trans (hb.out.mono HB0.out.size))
      have HL1 := Lib.hid (HL0.out.below hb.out hz0)
      rename World => w1
      have hz1 : w.heap.size < w1.heap.size := Nat.lt_of_lt_of_le hz0 hb.out.size
      clear hrow hb hI HB0 HL0 hz0
      go_wp2_with fail
      refine HNew.out.mono ?_
      rintro e w2 ⟨⟨u, rfl, hAt⟩, hb2⟩
      obtain ⟨pa, rfl⟩ := HI.out.ptr hAt
      have HB2 := Lib.hid (HB1.out.trans (hb2.mono HB1.out.size))
      have HL2 := Lib.hid (HL1.out.below hb2 hz1)
      have HA2 := Lib.hid hAt
      have a2 : w2.cell? ⟨w.heap.size, 0, none⟩ = some (.int .i64 x0) := HL2.out.cell 0
      have b2 : w2.cell? ⟨w.heap.size, 1, none⟩ = some (.int .i64 x1) := HL2.out.cell 1
      obtain ⟨wn, hwn⟩ : ∃ wn : Int, max x0 0 = wn := ⟨_, rfl⟩
      have hxc : (x0 < 0 ∧ Hid (0 = wn)) ∨ (¬ x0 < 0 ∧ Hid (x0 = wn)) := by
        by_cases h : x0 < 0
        · exact .inl ⟨h, Lib.hid (by omega)⟩
        · exact .inr ⟨h, Lib.hid (by omega)⟩
      have hw0 : 0 ≤ wn ∧ x0 ≤ wn ∧ (wn = x0 ∨ wn = 0) := by omega
      have HWn := Lib.hid hw0
      obtain ⟨r, hr⟩ : ∃ r, lstR (fun _ => v) x0 x1 i = r := ⟨_, rfl⟩
      have hrr : (((i : Int) ≤ wn ∨ x1 ≤ wn) ∧ r = -1) ∨ (¬ (i : Int) ≤ wn ∧ ¬ x1 ≤ wn ∧ r = wn) := by
        by_cases h : (i : Int) ≤ wn ∨ x1 ≤ wn
        · exact .inl ⟨h, by rw [← hr]; exact lstR_none fun j hj g => by omega⟩
        · refine .inr ⟨by omega, by omega, ?_⟩
          obtain ⟨q, rfl⟩ : ∃ q : Nat, wn = (q : Int) := ⟨wn.toNat, by omega⟩
          rw [← hr]
          exact lstR_like (v := v) (fun _ _ => rfl) (by omega) (by omega) (by omega) (fun j hj => by omega)
      have HRr := Lib.hid hrr
      have HLs := HI.out.least _ _ _ _ x0 x1 w2 HW.out.1 HW.out.2 hAt
      rw [hr] at HLs
      have HLs := Lib.hid HLs
      clear hb2 hAt HNew hwn hw0 hr hrr HB1 HL1 hz1
      go_upto_region 9 with (fail)
      go_cut [10] from 27 to 29 (fun s wx => s = .int .i64 wn ∧ wx = w2)
      case first =>
        rcases hxc with ⟨g1, g2⟩ | ⟨g1, g2⟩
        all_goals
          go_wp2_with fail
          go_meet
          exact ⟨by rw [← g2.out], rfl⟩
      case rest =>
      obtain ⟨rfl, rfl⟩ := hcut
      obtain ⟨t, ht⟩ : ∃ t : Bool, t = true ↔ ((i : Int) ≤ wn ∨ x1 ≤ wn) := ⟨decide _, decide_eq_true_iff⟩
      have HT := Lib.hid ht
      clear ht hxc
      go_upto_region 10 with (fail)
      go_cut [39] from 30 to 39 (fun s wx => s = .bool t ∧ wx = wc)
      case first =>
        by_cases g1 : (i : Int) ≤ wn
        · have d1 : decide ((i : Int) ≤ wn) = true := decide_eq_true g1
          obtain rfl : t = true := HT.out.2 (.inl g1)
          go_wp2_with fail
          go_meet
          exact ⟨rfl, rfl⟩
        · have d1 : decide ((i : Int) ≤ wn) = false := decide_eq_false g1
          by_cases g2 : x1 ≤ wn
          · have d2 : decide (x1 ≤ wn) = true := decide_eq_true g2
            obtain rfl : t = true := HT.out.2 (.inr g2)
            go_wp2_with fail
            go_meet
            exact ⟨rfl, rfl⟩
          · have d2 : decide (x1 ≤ wn) = false := decide_eq_false g2
            obtain rfl : t = false := Bool.eq_false_iff.2 fun h => by
              rcases HT.out.1 h with h | h
              · exact g1 h
              · exact g2 h
            go_wp2_with fail
            go_meet
            exact ⟨rfl, rfl⟩
      case rest =>
      obtain ⟨rfl, rfl⟩ := hcut
      have hq : (r == r) = true := by simp
      rcases t with _ | _
      · have hrw : Hid (wn = r) := Lib.hid (by
          rcases HRr.out with ⟨h, _⟩ | ⟨_, _, h⟩
          · have := HT.out.2 h
            cases this
          · exact h.symm)
        rw [hrw.out]
        go_wp2_with fail
        refine HLs.out.mono ?_
        rintro e w3 ⟨rfl, hb3⟩
        have HB3 := Lib.hid (HB2.out.trans (hb3.mono HB2.out.size))
        clear hb3 HLs
        go_wp2_with fail
        go_ret
        exact ⟨rfl, HB3.out⟩
      · obtain rfl : r = -1 := by
          rcases HRr.out with ⟨_, h⟩ | ⟨h1, h2, _⟩
          · exact h
          · rcases HT.out.1 rfl with h | h
            · omega
            · omega
        go_wp2_with fail
        refine HLs.out.mono ?_
        rintro e w3 ⟨rfl, hb3⟩
        have HB3 := Lib.hid (HB2.out.trans (hb3.mono HB2.out.size))
        clear hb3 HLs
        go_wp2_with fail
        go_ret
        exact ⟨rfl, HB3.out⟩
end
end Go.Proofs.Ytmjcjelempidfaa
