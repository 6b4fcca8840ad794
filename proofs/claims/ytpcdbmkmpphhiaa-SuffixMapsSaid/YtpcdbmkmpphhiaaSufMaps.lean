/- The walk of colophonlaw09.SuffixMaps, over what package suffix answers (SufI). -/
import Derived.Test.YtpcdbmkmpphhiaaSufSorts
import Derived.Test.YtpcdbmkmpphhiaaIntApp
namespace Go.Proofs.Ytpcdbmkmpphhiaa
open Go.RowKit

/-- the three rows. -/
structure Rows3 (B : Nat) (w : World) (i : Nat) (va vb vc : Value) (fa fb fc : Nat → Int) : Prop where
  a : w.ownsRow B 3 1 va i (icells fa i)
  b : w.ownsRow B 3 1 vb i (icells fb i)
  c : w.ownsRow B 3 1 vc i (icells fc i)
  ab : Apart va vb
  ac : Apart va vc
  bc : Apart vb vc
theorem apart_none (v : Value) : Apart (.slice none 0 0) v := fun g h => by cases h
theorem mapped_iff {V : Nat → Nat} {k : Nat} (hk : 1 ≤ k) (i j : Nat) : (((V i : Nat) : Int) < ((V j : Nat) : Int) ↔ ((k * V i + 3 : Nat) : Int) < ((k * V j + 3 : Nat) : Int)) := by
  constructor
  · intro h
    have h : V i < V j := by omega
    have := Nat.mul_lt_mul_of_pos_left h (show 0 < k by omega)
    omega
  · intro h
    have h : k * V i < k * V j := by omega
    have := Nat.lt_of_mul_lt_mul_left h
    omega
/-- the row with its end. -/
def endedI (V : Nat → Nat) (m : Nat) : Nat → Int := fun j => if j = m then 0 else ((V j + 1 : Nat) : Int)
theorem endedI_cells (V : Nat → Nat) (m : Nat) : icells (fun j => ((V j + 1 : Nat) : Int)) m ++ [.int .i64 0] = icells (endedI V m) (m + 1) := by
  rw [icells_snoc]
  congr 1
  · refine icells_congr fun j hj => ?_
    unfold endedI
    rw [if_neg (by omega)]
  · unfold endedI
    rw [if_pos rfl]
theorem ended_one {V : Nat → Nat} {m : Nat} {s z : Nat → Nat} (hs : IsSA (fun j => ((V j : Nat) : Int)) m s) (hz : IsSA (endedI V m) (m + 1) z) : z 0 = m ∧ ∀ i, i < m → z (i + 1) = s i := by
  have h := hs.ended (W := endedI V m) (fun i j hi hj => by
    unfold endedI
    rw [if_neg (by omega), if_neg (by omega)]
    omega) (fun i hi => by
    unfold endedI
    rw [if_pos rfl, if_neg (by omega)]
    omega)
  have e := hz.one h
  refine ⟨e 0 (by omega), fun i hi => ?_⟩
  have h1 := e (i + 1) (by omega)
  rw [h1, if_neg (by omega), Nat.add_sub_cancel]

set_option maxRecDepth 100000 in
set_option maxHeartbeats 6400000 in
theorem sufMaps_walk (I : SufI) (A : Option Addr) (n ca : Nat) (V : Nat → Nat) (b : Int) (w : World) (hcm : ca ≤ maxLen) (hA : A = none → n = 0 ∧ ca = 0) (hnc : n ≤ ca) (ho : Bys w w.heap.size A n V) (hb8 : (Lit.int .u8 b).wf = true) :
    Calls Try.prog 7 #[.slice A n ca, .int .u8 b] w fun e w' => e = .returned (.bool true) ∧ Below w.heap.size w w' := by
  have HI := Lib.hid I
  have HO := Lib.hid ho
  have HF := Lib.hid (sfirst_any I w)
  have hcl : ca ≤ 9223372036854775807 := by unfold maxLen at hcm; omega
  have hA0 := Lib.hid hA
  obtain ⟨y, hy, rfl⟩ : ∃ y : Nat, y < 256 ∧ b = (y : Int) := by
    simp [Lit.wf, IntKind.min, IntKind.max, IntKind.bits, IntKind.signed] at hb8
    exact ⟨b.toNat, by omega, by omega⟩
  obtain ⟨k, hk⟩ : ∃ k, 1 + y % 7 = k := ⟨_, rfl⟩
  have hk1 : 1 ≤ k := by omega
  have hk7 : k ≤ 7 := by omega
  have ht : Int.tmod (y : Int) 7 = ((y % 7 : Nat) : Int) := by rw [Int.tmod_eq_emod_of_nonneg (by omega)]; omega
  have hw1 : IntKind.u8.wrap ((y % 7 : Nat) : Int) = ((y % 7 : Nat) : Int) := by rw [IntKind.wrap_u8]; omega
  have hw2 : IntKind.i64.wrap (1 + ((y % 7 : Nat) : Int)) = (k : Int) := by rw [IntWalk.i64_in _ (by omega)]; omega
  clear I ho hcm hA hb8
  go_enter Try.func7, Try.ntmps7
  go_wp2_with fail
  refine HF.out.mono ?_
  rintro e w0 ⟨rfl, hb0⟩
  clear HF
  obtain ⟨m, hm⟩ : ∃ m, min n 400 = m := ⟨_, rfl⟩
  have hmn : m ≤ n := by omega
  have hm4 : m ≤ 400 := by omega
  have hmc : m ≤ ca := by omega
  go_upto_region 3 with (fail)
  go_cut [5] (fun s5 wx => s5 = .slice A m ca ∧ wx = w0)
  case first =>
    by_cases h4 : (400 : Int) < (n : Int)
    · obtain rfl : m = 400 := by omega
      go_wp2_with fail
      go_meet
      exact ⟨by trivial, by trivial⟩
    · obtain rfl : m = n := by omega
      go_wp2_with fail
      go_meet
      exact ⟨by trivial, by trivial⟩
  case rest =>
    obtain ⟨rfl, rfl⟩ := hcut
    have hmB : Hid (∀ W, Below w.heap.size w W → Bys W w.heap.size A m V) := Lib.hid fun W hW j hj => (HO.out.below hW) j (by omega)
    have HB0 := Lib.hid hb0
    have hkk : 1 + (y : Int) % 7 = (k : Int) := by omega
    go_wp2_with fail
    clear hkk ht hw1 hw2 hk
    go_loopw [7, 8, 9, 31] (fun va vb vc v wr => ∃ i : Nat, i ≤ m ∧ v = .int .i64 (i : Int) ∧ Hid (Rows3 w.heap.size wr i va vb vc (fun j => ((V j : Nat) : Int)) (fun j => ((k * V j + 3 : Nat) : Int)) (fun j => ((V j + 1 : Nat) : Int))) ∧ Below w.heap.size w wr) (fun _ _ _ v _ => m - (intOf v).toNat)
    case atStart => exact ⟨0, Nat.zero_le _, rfl, Lib.hid ⟨World.ownsRow_nil _ _ _ _, World.ownsRow_nil _ _ _ _, World.ownsRow_nil _ _ _ _, apart_none _, apart_none _, apart_none _⟩, hb0⟩
    case round =>
      obtain ⟨i, hi, rfl, HR, hb⟩ := hrel
      have hbs := hb.size
      by_cases hlt : i < m
      · have hlti : (i : Int) < (m : Int) := by omega
        obtain ⟨ad, rfl, _, hc, hv⟩ := hmB.out wr hb i hlt
        have hi4 : i ≤ 4194304 := by omega
        have HCa := Lib.hid (icells_snoc (fun j => ((V j : Nat) : Int)) i)
        have HCb := Lib.hid (icells_snoc (fun j => ((k * V j + 3 : Nat) : Int)) i)
        have HCc := Lib.hid (icells_snoc (fun j => ((V j + 1 : Nat) : Int)) i)
        have hra := HR.out.a
        have hkv : k * V i ≤ 7 * 255 := Nat.mul_le_mul hk7 (by omega)
        obtain ⟨x, hx⟩ : ∃ x, V i = x := ⟨_, rfl⟩
        obtain ⟨kx, hkx⟩ : ∃ z, k * V i = z := ⟨_, rfl⟩
        have hmul : (k : Int) * (x : Int) = (kx : Int) := by rw [← hkx, ← hx]; omega
        rw [hkx] at hkv
        rw [hx] at hc hv
        have HX := Lib.hid hx
        have HKX := Lib.hid hkx
        have w1 : IntKind.i64.wrap (x : Int) = (x : Int) := IntWalk.i64_in _ (by omega)
        have w2 : IntKind.i64.wrap (kx : Int) = (kx : Int) := IntWalk.i64_in _ (by omega)
        have w3 : IntKind.i64.wrap ((kx : Int) + 3) = ((kx + 3 : Nat) : Int) := by rw [IntWalk.i64_in _ (by omega)]; omega
        have w4 : IntKind.i64.wrap ((x : Int) + 1) = ((x + 1 : Nat) : Int) := by rw [IntWalk.i64_in _ (by omega)]; omega
        clear hx hkx hra
        go_wp2_with (first
          | (at_builtin; refine step_append_int_own rfl (.tmp 35) (.tmp 38) rfl rfl HR.out.a (x : Int) rfl hbs hi4 ?_; intro g1 c1 w1' ha1 hg1 hb1; have hB1 := hb1.size; have hrb1 := Lib.hid (HR.out.ab.symm.kept HR.out.b hg1.out.1); have hrc1 := Lib.hid (HR.out.ac.symm.kept HR.out.c hg1.out.1); have hp1 := Lib.hid (HR.out.ab.symm.next HR.out.b hg1.out.2 (m := i + 1) (c := c1)); have hp2 := Lib.hid (HR.out.ac.symm.next HR.out.c hg1.out.2 (m := i + 1) (c := c1)); have hs1 : w.heap.size ≤ w1'.heap.size := by omega)
          | (at_builtin; refine step_append_int_own rfl (.tmp 40) (.tmp 46) rfl rfl hrb1.out ((kx : Int) + 3) rfl hs1 hi4 ?_; intro g2 c2 w2' ha2 hg2 hb2; have hs2 : w.heap.size ≤ w2'.heap.size := Nat.le_trans hs1 hb2.size; have hra2 := Lib.hid (hp1.out.symm.kept ha1.out hg2.out.1); have hrc2 := Lib.hid (HR.out.bc.symm.kept hrc1.out hg2.out.1); have hp3 := Lib.hid (hp1.out.symm.next ha1.out hg2.out.2 (m := i + 1) (c := c2)); have hp4 := Lib.hid (HR.out.bc.symm.next hrc1.out hg2.out.2 (m := i + 1) (c := c2)))
          | (at_builtin; refine step_append_int_own rfl (.tmp 48) (.tmp 52) rfl rfl hrc2.out ((x : Int) + 1) rfl hs2 hi4 ?_; intro g3 c3 w3' ha3 hg3 hb3; have hra3 := Lib.hid (hp2.out.symm.kept hra2.out hg3.out.1); have hrb3 := Lib.hid (hp4.out.symm.kept ha2.out hg3.out.1); have hp5 := Lib.hid (hp2.out.symm.next hra2.out hg3.out.2 (m := i + 1) (c := c3)); have hp6 := Lib.hid (hp4.out.symm.next ha2.out hg3.out.2 (m := i + 1) (c := c3))))
        go_roundw
        case rel => exact ⟨i + 1, by omega, by go_num, Lib.hid ⟨by
            have h := hra3.out
            rw [HCa.out, HX.out]
            exact h, by
            have h := hrb3.out
            rw [HCb.out, HKX.out]
            exact h, by
            have h := ha3.out
            rw [HCc.out, HX.out]
            exact h, hp3.out, hp5.out, hp6.out⟩, hb.trans ((hb1.trans hb2).trans hb3)⟩
        case measure => simp [intOf]; omega
      · obtain rfl : i = m := by omega
        have HVs : Hid (∀ j, j < i → V j < 256) := Lib.hid fun j hj => (hmB.out w (Below.refl _ _) j hj).elim fun _ h => h.2.2.2
        obtain ⟨Aa, c1, rfl, hia⟩ := ItsR.of_own HR.out.a (fun j hj => by have := HVs.out j hj; omega)
        obtain ⟨Ab, c2, rfl, hib⟩ := ItsR.of_own HR.out.b (fun j hj => by
          have h1 := HVs.out j hj
          have h2 : k * V j ≤ 7 * 255 := Nat.mul_le_mul hk7 (by omega)
          omega)
        have hsmc : Hid (∀ j, j < i → -9223372036854775808 ≤ ((V j + 1 : Nat) : Int) ∧ ((V j + 1 : Nat) : Int) ≤ 9223372036854775807) := Lib.hid fun j hj => by have := HVs.out j hj; omega
        obtain ⟨Ac, c3, rfl, _⟩ := ItsR.of_own HR.out.c hsmc.out
        have HIb := Lib.hid hib
        have HRc := Lib.hid HR.out.c
        have H1 := Lib.hid (HI.out.array Aa i c1 _ 256 wr (by unfold maxLen; omega) (by omega) (by decide) hia.1 hia.2.1 hia.2.2.1 hia.2.2.2)
        have HR1 : Hid (RightS (fun j => ((V j : Nat) : Int)) i 256) := Lib.hid ⟨⟨by omega, by omega, by omega⟩, fun j hj => by have := HVs.out j hj; show 0 ≤ ((V j : Nat) : Int) ∧ ((V j : Nat) : Int) < 256; omega⟩
        have HR2 : Hid (RightS (fun j => ((k * V j + 3 : Nat) : Int)) i 2000) := Lib.hid ⟨⟨by omega, by omega, by omega⟩, fun j hj => by
          have h1 := HVs.out j hj
          have h2 : k * V j ≤ 7 * 255 := Nat.mul_le_mul hk7 (by omega)
          show 0 ≤ ((k * V j + 3 : Nat) : Int) ∧ ((k * V j + 3 : Nat) : Int) < 2000
          omega⟩
        have HR3 : Hid (RightS (endedI V i) (i + 1) 257) := Lib.hid ⟨⟨by omega, by omega, by omega⟩, fun j hj => by
          unfold endedI
          split
          · omega
          · have h1 := HVs.out j (by omega)
            omega⟩
        clear hia hib HR hmB
        go_wp2_with fail
        refine H1.out.mono ?_
        rintro e w1 ⟨h1, _, hb1⟩
        obtain ⟨A1, d1, s1, rfl, hs1, hf1, hi1⟩ := h1 HR1.out
        have HF1 := Lib.hid hf1
        have hB1 := hb.trans (hb1.mono hbs)
        have HS1 := Lib.hid hs1
        have HX1 := Lib.hid hi1
        have HIb1 := Lib.hid (HIb.out.below hb1)
        have HRc1 := Lib.hid (ownsRow_keep HRc.out hb1)
        have H2 := Lib.hid (HI.out.array Ab i c2 _ 2000 w1 (by unfold maxLen; omega) (by omega) (by decide) HIb1.out.1 HIb1.out.2.1 HIb1.out.2.2.1 HIb1.out.2.2.2)
        have HLt := Lib.hid HRc.out.lt
        have hsr : wr.heap.size ≤ w1.heap.size := hb1.size
        clear h1 hs1 hi1 hb1 H1 HIb HRc hf1
        go_wp2_with fail
        refine H2.out.mono ?_
        rintro e w2 ⟨h2, _, hb2⟩
        obtain ⟨A2, d2, s2, rfl, hs2, hf2, hi2⟩ := h2 HR2.out
        have HF2 := Lib.hid hf2
        have hB2 := hB1.trans (hb2.mono hB1.size)
        have HS2 := Lib.hid hs2
        have HX2 := Lib.hid hi2
        have HX1b := Lib.hid (HX1.out.below hb2)
        have HRc2 := Lib.hid (ownsRow_keep HRc1.out hb2)
        have hsz2 := hB2.size
        have hi4 : i ≤ 4194304 := by omega
        clear h2 hs2 hi2 hb2 H2 HIb1 HX1 HRc1 hf2
        go_wp2_with (at_builtin; refine step_append_int_own rfl (.tmp 66) (.tmp 67) rfl rfl HRc2.out 0 rfl hsz2 hi4 ?_; intro g3 d4 w3 hown3 hg3 hb3; rw [endedI_cells] at hown3; obtain ⟨Ad, d4', e3, hid⟩ := ItsR.of_own hown3.out (fun j hj => by have h := HR3.out.2 j hj; omega); cases e3)
        have hB3 := hB2.trans hb3
        have HX1c := Lib.hid (HX1b.out.grown hg3.out.1 (fun h0 ad e e2 => by
          have h1 := HF1.out h0 ad e
          have h2 := (HLt.out _ e2).2
          omega))
        have HX2c := Lib.hid (HX2.out.grown hg3.out.1 (fun h0 ad e e2 => by
          have h1 := HF2.out h0 ad e
          have h2 := (HLt.out _ e2).2
          omega))
        have H3 := Lib.hid (HI.out.array (some ⟨g3, 0, none⟩) (i + 1) d4 _ 257 w3 (by unfold maxLen; omega) (by omega) (by decide) hid.1 hid.2.1 hid.2.2.1 hid.2.2.2)
        clear hown3 hid hg3 hb3 HX1b HX2 HRc2 HLt HF1 HF2
        go_wp2_with fail
        refine H3.out.mono ?_
        rintro e w4 ⟨h3, _, hb4⟩
        obtain ⟨A4, d5, z, rfl, hz, _, hi4'⟩ := h3 HR3.out
        have hB4 := hB3.trans (hb4.mono hB3.size)
        obtain ⟨hz0, hz1⟩ := ended_one HS1.out hz
        have hA4 : ∃ ad, A4 = some ad := (hi4'.2.2.2 0 (by omega)).elim fun ad h => ⟨ad, h.1⟩
        obtain ⟨ad4, rfl⟩ := hA4
        have hd5 := hi4'.2.1
        have hd5m : d5 ≤ 9223372036854775807 := by have := hi4'.2.2.1; unfold maxLen at this; omega
        have HZ := Lib.hid hi4'
        have HZ1 := Lib.hid hz1
        have HX1d := Lib.hid (HX1c.out.below hb4)
        have HX2d := Lib.hid (HX2c.out.below hb4)
        have HOne := Lib.hid (HS1.out.one (HS2.out.mapped (fun j l hj hl => (mapped_iff hk1 j l).symm)))
        have H4 := Lib.hid (refSame8_any A1 A2 i i d1 d2 (fun i => ((s1 i : Nat) : Int)) (fun i => ((s2 i : Nat) : Int)) w4.heap.size w4.heap.size w4 (by unfold maxLen; omega) (Nat.le_refl _) (Nat.le_refl _) HX1d.out.2.2.2 HX2d.out.2.2.2)
        clear h3 hz hz1 hi4' hb4 HX1c HX2c H3
        go_wp2_with fail
        refine H4.out.mono ?_
        rintro e w5 ⟨b, rfl, hbi, hb5⟩
        obtain rfl : b = true := hbi.2 ⟨by trivial, fun j hj => by
          have h := HOne.out j hj
          show ((s1 j : Nat) : Int) = ((s2 j : Nat) : Int)
          rw [h]⟩
        have hB5 := hB4.trans (hb5.mono hB4.size)
        have HZ5 := Lib.hid (HZ.out.below hb5)
        have HX5 := Lib.hid (HX1d.out.below hb5)
        have hzc : w5.cell? ad4 = some (.int .i64 (i : Int)) := by
          rw [← addr_add0 ad4]
          obtain ⟨ad', e, _, h, _⟩ := HZ5.out.2.2.2 0 (by omega)
          cases e
          rw [h]
          show some (Value.int .i64 ((z 0 : Nat) : Int)) = _
          rw [hz0]
        clear hbi hb5 H4 HZ HX1d HX2d hz0
        by_cases h51 : d5 = 1
        · subst h51
          obtain rfl : i = 0 := by omega
          have H5 := Lib.hid (refSame8_any (some ad4) A1 0 0 0 d1 (fun _ => 0) (fun j => ((s1 j : Nat) : Int)) w5.heap.size w5.heap.size w5 (by unfold maxLen; omega) (Nat.le_refl _) (Nat.le_refl _) (fun j hj => absurd hj (Nat.not_lt_zero j)) HX5.out.2.2.2)
          go_wp2_with fail
          refine H5.out.mono ?_
          rintro e w6 ⟨b, rfl, hbi, hb6⟩
          obtain rfl : b = true := hbi.2 ⟨by trivial, fun j hj => absurd hj (Nat.not_lt_zero j)⟩
          have hB6 := hB5.trans (hb6.mono hB5.size)
          clear hbi
          go_wp2_with fail
          go_ret
          exact ⟨rfl, hB6⟩
        · obtain ⟨g4, o4, sp⟩ := ad4
          obtain rfl : sp = none := by simpa [Addr.add] using World.cell?_spot hzc
          have hi5 : Its w5 w5.heap.size (some ⟨g4, o4 + 1, none⟩) i (fun j => ((z (j + 1) : Nat) : Int)) := fun j hj => by
            obtain ⟨ad', e, h1, h2, h3⟩ := HZ5.out.2.2.2 (j + 1) (by omega)
            cases e
            refine ⟨_, rfl, h1, ?_, h3⟩
            rw [Addr.add_mid] at h2 ⊢
            rw [show o4 + 1 + j = o4 + (j + 1) by omega]
            exact h2
          have H5 := Lib.hid (refSame8_any (some ⟨g4, o4 + 1, none⟩) A1 i i (d5 - 1) d1 (fun j => ((z (j + 1) : Nat) : Int)) (fun j => ((s1 j : Nat) : Int)) w5.heap.size w5.heap.size w5 (by unfold maxLen; omega) (Nat.le_refl _) (Nat.le_refl _) hi5 HX5.out.2.2.2)
          have h51' : (1 : Nat) ≠ d5 := fun e => h51 e.symm
          clear hi5
          go_wp2_with fail
          refine H5.out.mono ?_
          rintro e w6 ⟨b, rfl, hbi, hb6⟩
          obtain rfl : b = true := hbi.2 ⟨by trivial, fun j hj => by
            have h := HZ1.out j hj
            show ((z (j + 1) : Nat) : Int) = ((s1 j : Nat) : Int)
            rw [h]⟩
          have hB6 := hB5.trans (hb6.mono hB5.size)
          clear hbi
          go_wp2_with fail
          go_ret
          exact ⟨rfl, hB6⟩
end Go.Proofs.Ytpcdbmkmpphhiaa
