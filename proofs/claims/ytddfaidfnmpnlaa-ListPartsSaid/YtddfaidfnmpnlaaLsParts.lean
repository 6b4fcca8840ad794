/- The walk of colophonlaw17.ListParts, over what package list answers (LstI). -/
import Derived.Test.YtddfaidfnmpnlaaListI
import Derived.Test.YtddfaidfnmpnlaaIntJoin
import Derived.Test.YtddfaidfnmpnlaaListR
import Derived.BigQuiet
import Derived.Deep.QuietTactic
namespace Go.Proofs.Ytddfaidfnmpnlaa
open Go.RowKit
theorem wturn17 (z : Int) (n : Nat) (hn : n ≤ 4194303) : ∃ a : Nat, wrap64 ((IntKind.u64.wrap z).tmod ((n : Int) + 1)) = (a : Int) ∧ a ≤ n := by
  obtain ⟨j, h1, h2⟩ := turn_w z (n + 1) (by omega) (by omega)
  exact ⟨j, by rw [show ((n : Int) + 1) = ((n + 1 : Nat) : Int) by omega]; exact h1, by omega⟩
/-- the numbers of a range are those of its two parts. -/
theorem rng_parts {V F G : Nat → Int} {p q z n m k : Nat} (hpq : p ≤ q) (hqz : q ≤ z) (h1 : EnumS (RngS V (p : Int) (q : Int) n) F m) (h2 : EnumS (RngS V (q : Int) (z : Int) n) G k) (x : Int) : RngS (catF F G m) 0 ((m + k : Nat) : Int) (m + k) x ↔ RngS V (p : Int) (z : Int) n x := by
  constructor
  · rintro ⟨j, hj, _, _, e⟩
    unfold catF at e
    by_cases h : j < m
    · rw [if_pos h] at e
      obtain ⟨i, hi, g1, g2, g3⟩ := (h1.each x).2 ⟨j, h, e⟩
      exact ⟨i, hi, g1, by omega, g3⟩
    · rw [if_neg h] at e
      obtain ⟨i, hi, g1, g2, g3⟩ := (h2.each x).2 ⟨j - m, by omega, e⟩
      exact ⟨i, hi, by omega, g2, g3⟩
  · rintro ⟨i, hi, g1, g2, g3⟩
    by_cases h : i < q
    · obtain ⟨j, hj, e⟩ := (h1.each x).1 ⟨i, hi, g1, by omega, g3⟩
      exact ⟨j, by omega, by omega, by omega, by unfold catF; rw [if_pos hj]; exact e⟩
    · obtain ⟨j, hj, e⟩ := (h2.each x).1 ⟨i, hi, by omega, g2, g3⟩
      exact ⟨m + j, by omega, by omega, by omega, by unfold catF; rw [if_neg (by omega), Nat.add_sub_cancel_left]; exact e⟩
section
variable {At : Nat → World → Value → Nat → (Nat → Int) → Prop}

set_option maxRecDepth 100000 in
set_option maxHeartbeats 3200000 in
theorem lsParts_walk (I : LstI At) (A : Option Addr) (n ca : Nat) (V : Nat → Int) (x0 x1 x2 : Int) (w : World) (hx0 : (Lit.int .i64 x0).wf = true) (hx1 : (Lit.int .i64 x1).wf = true) (hx2 : (Lit.int .i64 x2).wf = true) (ho : ItsR w A n ca V) :
    Calls Try.prog 4 #[.slice A n ca, .agg #[.int .i64 x0, .int .i64 x1, .int .i64 x2]] w fun e w' => e = .returned (.bool true) ∧ Below w.heap.size w w' := by
  have HI := Lib.hid I
  have hbx : Below w.heap.size w (w.alloc (.cells #[.int .i64 x0, .int .i64 x1, .int .i64 x2] 32)) := (Below.refl _ _).alloc (Nat.le_refl _) _
  have HL := Lib.hid (lies_new w 32 [.int .i64 x0, .int .i64 x1, .int .i64 x2])
  have HO := Lib.hid (ho.below hbx)
  have HF := Lib.hid (lfirst17_any I (w.alloc (.cells #[.int .i64 x0, .int .i64 x1, .int .i64 x2] 32)))
  have hsz := size_alloc w (.cells #[.int .i64 x0, .int .i64 x1, .int .i64 x2] 32)
  have HW := Lib.hid (And.intro hx0 (And.intro hx1 hx2))
  have hnm : n ≤ maxLen := by have := ho.2.1; have := ho.2.2.1; omega
  have hnl : n ≤ 9223372036854775807 := by unfold maxLen at hnm; omega
  have hix0 := i64_in hx0
  have hix1 := i64_in hx1
  have hix2 := i64_in hx2
  clear I ho hx0 hx1 hx2
  by_cases hbig : 500 < n
  · have hdd : decide ((500 : Int) < (n : Int)) = true := decide_eq_true (by omega)
    clear hsz
    go_enter Try.func4, Try.ntmps4
    go_wp2_with fail
    refine HF.out.mono ?_
    rintro e w0 ⟨rfl, hb0⟩
    have hB0 := hbx.trans (hb0.mono hbx.size)
    go_wp2_with fail
    go_ret
    exact ⟨rfl, hB0⟩
  · have hdd : decide ((500 : Int) < (n : Int)) = false := decide_eq_false (by omega)
    have hn : n ≤ 500 := by omega
    have HSz := Lib.hid hsz
    have HVs := Lib.hid HO.out.2.2.2.small
    clear hsz
    go_enter Try.func4, Try.ntmps4
    go_wp2_with fail
    refine HF.out.mono ?_
    rintro e w0 ⟨rfl, hb0⟩
    have HB0 := hbx.trans (hb0.mono hbx.size)
    have HO0 := Lib.hid (HO.out.below hb0)
    have HL0 := Lib.hid (HL.out.below hb0 (by rw [HSz.out]; omega))
    have hz0 : w.heap.size < w0.heap.size := by have := hb0.size; have := HSz.out; omega
    have HMd := Lib.hid (HI.out.new A n ca V w0 (by omega) HO0.out)
    clear HF HO HL hbx hb0
    go_wp2_with fail
    refine HMd.out.mono ?_
    rintro e w2 ⟨⟨v, rfl, hAt⟩, hb2⟩
    obtain ⟨pa, rfl⟩ := HI.out.ptr hAt
    have HB2 := HB0.trans (hb2.mono HB0.size)
    have HA2 : Hid (At w0.heap.size w2 (.pointer (some pa)) n V) := Lib.hid hAt
    have HL2 := Lib.hid (HL0.out.below hb2 hz0)
    have hz2 : w.heap.size < w2.heap.size := by have := hb2.size; omega
    clear hAt hb2 HMd HO0 HB0 HL0 hz0
    obtain ⟨a0, ha, han⟩ := wturn17 x0 n (by omega)
    obtain ⟨b0, hb, hbn⟩ := wturn17 x1 n (by omega)
    obtain ⟨c0, hc, hcn⟩ := wturn17 x2 n (by omega)
    have G1 := Lib.hid ha
    have G2 := Lib.hid hb
    have G3 := Lib.hid hc
    clear ha hb hc
    have y0 : ∀ q, (w2.drewN q).cell? ⟨w.heap.size, 0, none⟩ = some (.int .i64 x0) := fun q => by
      have h : w2.cell? ⟨w.heap.size, 0, none⟩ = some (.int .i64 x0) := HL2.out.cell 0
      exact h
    have y1 : ∀ q, (w2.drewN q).cell? ⟨w.heap.size, 1, none⟩ = some (.int .i64 x1) := fun q => by
      have h : w2.cell? ⟨w.heap.size, 1, none⟩ = some (.int .i64 x1) := HL2.out.cell 1
      exact h
    have y2 : ∀ q, (w2.drewN q).cell? ⟨w.heap.size, 2, none⟩ = some (.int .i64 x2) := fun q => by
      have h : w2.cell? ⟨w.heap.size, 2, none⟩ = some (.int .i64 x2) := HL2.out.cell 2
      exact h
    have ew : IntKind.i64.wrap ((n : Int) + 1) = (n : Int) + 1 := IntWalk.i64_in _ (by omega)
    have eu : IntKind.u64.wrap ((n : Int) + 1) = (n : Int) + 1 := IntWalk.u64_in _ (by omega)
    have en : ¬ ((n : Int) + 1 = 0) := by omega
    have en2 : ¬ (n + 1 = 0) := by omega
    go_upto_region 7 with (fail)
    go_cut [8, 9, 10] from 26 to 43 (fun s t u wx => s = .int .i64 (a0 : Int) ∧ t = .int .i64 (b0 : Int) ∧ u = .int .i64 (c0 : Int) ∧ Below w2.heap.size w2 wx)
    case first =>
      go_quiet (fail)
      go_wp2_with fail
      go_meet
      exact ⟨by rw [G1.out], by rw [G2.out], by rw [G3.out], below_drewN' (Below.refl _ _) _⟩
    case rest =>
    obtain ⟨rfl, rfl, rfl, hCx⟩ := hcut
    have HB3 := Lib.hid (HB2.trans (hCx.mono HB2.size))
    have HA3 := Lib.hid (HI.out.keep HA2.out hCx)
    obtain ⟨p, z, hp, hz, hpz⟩ : ∃ p z : Nat, p ≤ z ∧ z ≤ n ∧ Hid (((a0 : Int) < (c0 : Int) ∧ ¬ (c0 : Int) < (a0 : Int) ∧ a0 < c0 ∧ ¬ c0 < a0 ∧ p = a0 ∧ z = c0) ∨ (¬ (a0 : Int) < (c0 : Int) ∧ (c0 : Int) < (a0 : Int) ∧ ¬ a0 < c0 ∧ c0 < a0 ∧ p = c0 ∧ z = a0) ∨ (¬ (a0 : Int) < (c0 : Int) ∧ ¬ (c0 : Int) < (a0 : Int) ∧ ¬ a0 < c0 ∧ ¬ c0 < a0 ∧ p = a0 ∧ z = a0)) := by
      rcases Nat.lt_trichotomy a0 c0 with h | h | h
      · exact ⟨a0, c0, by omega, hcn, Lib.hid (.inl ⟨by omega, by omega, h, by omega, rfl, rfl⟩)⟩
      · exact ⟨a0, a0, Nat.le_refl _, han, Lib.hid (.inr (.inr ⟨by omega, by omega, by omega, by omega, rfl, rfl⟩))⟩
      · exact ⟨c0, a0, by omega, han, Lib.hid (.inr (.inl ⟨by omega, by omega, by omega, h, rfl, rfl⟩))⟩
    obtain ⟨q, hpq, hqz, hq⟩ : ∃ q : Nat, p ≤ q ∧ q ≤ z ∧ Hid (((z : Int) < (b0 : Int) ∧ z < b0 ∧ (p : Int) < (z : Int) ∧ p < z ∧ q = z) ∨ ((z : Int) < (b0 : Int) ∧ z < b0 ∧ ¬ (p : Int) < (z : Int) ∧ ¬ p < z ∧ q = p) ∨ (¬ (z : Int) < (b0 : Int) ∧ ¬ z < b0 ∧ (p : Int) < (b0 : Int) ∧ p < b0 ∧ q = b0) ∨ (¬ (z : Int) < (b0 : Int) ∧ ¬ z < b0 ∧ ¬ (p : Int) < (b0 : Int) ∧ ¬ p < b0 ∧ q = p)) := by
      by_cases h1 : z < b0
      · by_cases h2 : p < z
        · exact ⟨z, hp, Nat.le_refl _, Lib.hid (.inl ⟨by omega, h1, by omega, h2, rfl⟩)⟩
        · exact ⟨p, Nat.le_refl _, hp, Lib.hid (.inr (.inl ⟨by omega, h1, by omega, h2, rfl⟩))⟩
      · by_cases h2 : p < b0
        · exact ⟨b0, by omega, by omega, Lib.hid (.inr (.inr (.inl ⟨by omega, h1, by omega, h2, rfl⟩)))⟩
        · exact ⟨p, Nat.le_refl _, hp, Lib.hid (.inr (.inr (.inr ⟨by omega, h1, by omega, h2, rfl⟩)))⟩
    clear G1 G2 G3 y0 y1 y2 ew eu en en2 HA2 HB2 hCx HL2 hz2 hix0 hix1 hix2 HSz
    go_upto_region 8 with (fail)
    go_cut [8, 10] from 44 to 49 (fun s t wx => s = .int .i64 (p : Int) ∧ t = .int .i64 (z : Int) ∧ wx = wc)
    case first =>
      rcases hpz.out with ⟨g1, g2, g3, g4, g5, g6⟩ | ⟨g1, g2, g3, g4, g5, g6⟩ | ⟨g1, g2, g3, g4, g5, g6⟩
      all_goals
        have G := Lib.hid (And.intro g5 g6)
        clear g5 g6
        go_wp2_with fail
        go_meet
        exact ⟨by rw [G.out.1], by rw [G.out.2], rfl⟩
    case rest =>
    obtain ⟨rfl, rfl, rfl⟩ := hcut
    go_upto_region 9 with (fail)
    go_cut [9] from 50 to 54 (fun s wx => s = .int .i64 (q : Int) ∧ wx = wc)
    case first =>
      rcases hq.out with ⟨g1, g2, g3, g4, g5⟩ | ⟨g1, g2, g3, g4, g5⟩ | ⟨g1, g2, g3, g4, g5⟩ | ⟨g1, g2, g3, g4, g5⟩
      all_goals
        have G := Lib.hid g5
        clear g5
        go_wp2_with fail
        go_meet
        exact ⟨by rw [G.out], rfl⟩
    case rest =>
    obtain ⟨rfl, rfl⟩ := hcut
    have wp := WalkArith.wf_i64 (show -9223372036854775808 ≤ (p : Int) ∧ (p : Int) ≤ 9223372036854775807 by omega)
    have wq := WalkArith.wf_i64 (show -9223372036854775808 ≤ (q : Int) ∧ (q : Int) ≤ 9223372036854775807 by omega)
    have wz := WalkArith.wf_i64 (show -9223372036854775808 ≤ (z : Int) ∧ (z : Int) ≤ 9223372036854775807 by omega)
    clear hpz hq
    have hbA : Below wc.heap.size wc (wc.alloc (.cells #[] 3)) := (Below.refl _ _).alloc (Nat.le_refl _) _
    have hown0 : (wc.alloc (.cells #[] 3)).ownsRow wc.heap.size 3 1 (.slice (some ⟨wc.heap.size, 0, none⟩) 0 0) 0 [] := World.ownsRow_lit wc #[] 0 (Nat.le_refl _) (Nat.zero_le _) rfl
    have H3 := Lib.hid (HI.out.docs _ _ _ _ (p : Int) (q : Int) _ wp wq (HI.out.keep HA3.out hbA))
    have HC4 := Lib.hid hbA
    have HR0 := Lib.hid hown0
    have hsa := hbA.size
    clear hbA hown0
    go_wp2_with fail
    refine H3.out.mono ?_
    rintro e w3 ⟨⟨u, rfl, ⟨A1, c1, m1, F1, rfl, hE1, hI1⟩⟩, hb3⟩
    have hm1 : m1 ≤ n := RngS.most hE1
    have HR3 := Lib.hid (ownsRow_keep HR0.out hb3)
    have HC5 := Lib.hid (HC4.out.trans (hb3.mono HC4.out.size))
    have HI1 := Lib.hid hI1
    have HE1 := Lib.hid hE1
    have hs3 : wc.heap.size ≤ w3.heap.size := by have := hb3.size; omega
    clear hb3 hE1 hI1 H3 HR0 hsa HC4
    go_wp2_with (at_builtin; refine step_append_ints rfl (.tmp 55) (.tmp 59) rfl rfl HR3.out rfl HI1.out.1 HI1.out.2.2.2 hs3 m1 (by omega) (by omega) ?_; intro A5 c5 w5 hown5 hb5)
    have HC6 := Lib.hid (HC5.out.trans hb5)
    have H4 := Lib.hid (HI.out.docs _ _ _ _ (q : Int) (z : Int) w5 wq wz (HI.out.keep HA3.out HC6.out))
    have HR5 := hown5
    clear hown5 hb5 HR3 HC5 HI1 hs3
    refine H4.out.mono ?_
    rintro e w6 ⟨⟨u, rfl, ⟨A2, c2, m2, F2, rfl, hE2, hI2⟩⟩, hb6⟩
    have hm2 : m2 ≤ n := RngS.most hE2
    have HR6 := Lib.hid (ownsRow_keep HR5.out hb6)
    have HC7 := Lib.hid (HC6.out.trans (hb6.mono HC6.out.size))
    have hs6 := HC7.out.size
    have HI2 := Lib.hid hI2
    have HE2 := Lib.hid hE2
    obtain ⟨M, hM⟩ : ∃ M, m1 + m2 = M := ⟨_, rfl⟩
    have HM := Lib.hid hM
    have hM4 : M ≤ 4000000 := by omega
    clear hb6 hE2 hI2 H4 HR5 HC6
    go_wp2_with (at_builtin; refine step_append_ints rfl (.tmp 60) (.tmp 64) rfl rfl HR6.out rfl HI2.out.1 HI2.out.2.2.2 hs6 M HM.out (by omega) ?_; intro A7 c7 w7 hown7 hb7)
    obtain ⟨A8, c8, e8, hIx⟩ := ItsR.of_own (V := catF F1 F2 m1) (by
      have h := hown7.out
      rw [List.nil_append, icells_cat, HM.out] at h
      exact h) (fun j hj => by
      have := HM.out
      unfold catF
      by_cases h : j < m1
      · rw [if_pos h]
        obtain ⟨i, hi, _, _, e⟩ := (HE1.out.each (F1 j)).2 ⟨j, h, rfl⟩
        rw [← e]
        exact HVs.out i hi
      · rw [if_neg h]
        obtain ⟨i, hi, _, _, e⟩ := (HE2.out.each (F2 (j - m1))).2 ⟨j - m1, by omega, rfl⟩
        rw [← e]
        exact HVs.out i hi)
    cases e8
    have HC8 := Lib.hid (HC7.out.trans hb7)
    have HIx := Lib.hid hIx
    have HB8 := Lib.hid (HB3.out.trans (HC8.out.mono HB3.out.size))
    have H5 := Lib.hid (HI.out.docs _ _ _ _ (p : Int) (z : Int) w7 wp wz (HI.out.keep HA3.out HC8.out))
    have HEx : Hid (∀ x, RngS (catF F1 F2 m1) 0 ((M : Nat) : Int) M x ↔ RngS V (p : Int) (z : Int) n x) := Lib.hid (by
      have h := rng_parts hpq hqz HE1.out HE2.out
      rw [HM.out] at h
      exact h)
    clear hM hown7 hb7 HR6 HC7 hs6 hIx HI2 HE1 HE2 HC8 HB3 HA3
    go_wp2_with fail
    refine H5.out.mono ?_
    rintro e w8 ⟨⟨u, rfl, ⟨A9, c9, m9, F9, rfl, hE9, hI9⟩⟩, hb9⟩
    have HB9 := Lib.hid (HB8.out.trans (hb9.mono HB8.out.size))
    have HI9 := Lib.hid hI9
    have HE9 := Lib.hid hE9
    have H6 := Lib.hid (refDocs17_any A7 M c7 (catF F1 F2 m1) 0 ((M : Nat) : Int) w8.heap.size w8 hM4 (HIx.out.below hb9).2.2.2 (Nat.le_refl _))
    clear hb9 hE9 hI9 H5 HIx HB8
    go_wp2_with fail
    refine H6.out.mono ?_
    rintro e w9 ⟨⟨u, rfl, ⟨A10, c10, m10, F10, rfl, hE10, hI10⟩⟩, hb10⟩
    obtain ⟨rfl, hF⟩ := HE9.out.one (hE10.congr HEx.out)
    have HB10 := Lib.hid (HB9.out.trans (hb10.mono HB9.out.size))
    have hm4 := HI9.out.2.1
    have hm5 := HI9.out.2.2.1
    have H7 := Lib.hid (refSame8_any A9 A10 m9 m9 c9 c10 F9 F10 _ _ w9 (by omega) (Nat.le_refl _) (Nat.le_refl _) (HI9.out.below hb10).2.2.2 hI10.2.2.2)
    have HF := Lib.hid hF
    clear hb10 hE10 hI10 HB9 H6 HE9 hF hm4 hm5 HEx
    go_wp2_with fail
    refine H7.out.mono ?_
    rintro e w10 ⟨b6, rfl, hb6, hb7⟩
    obtain rfl : b6 = true := hb6.2 ⟨by trivial, HF.out⟩
    have HB11 := Lib.hid (HB10.out.trans (hb7.mono HB10.out.size))
    clear hb6 hb7 H7
    go_wp2_with fail
    go_ret
    exact ⟨rfl, HB11.out⟩
end
end Go.Proofs.Ytddfaidfnmpnlaa
