/- The walk of colophonlaw13.WaveMakes, over what package wave answers (WaveI). -/
import Derived.Test.YtfhflmojcfnhnaaWavI
import Derived.Test.YtfhflmojcfnhnaaWavLev
namespace Go.Proofs.Ytfhflmojcfnhnaa
open Go.RowKit
section
variable {At : Nat → World → Value → Nat → (Nat → Int) → Nat → Prop} {Vt : Nat → World → Value → Nat → (Nat → Bool) → Prop}
/-- levels as they lie at a slice. -/
def LevsAt (Vt : Nat → World → Value → Nat → (Nat → Bool) → Prop) (w : World) (B : Nat) (A : Option Addr) (V : Nat → Int) (n W : Nat) : Prop :=
  ∀ k, k < W → ∃ (ad : Addr) (x : Value), A = some ad ∧ ad.block < w.heap.size ∧ w.cell? (ad.add k) = some x ∧ Vt B w x n (levBit V n W k)
theorem LevsAt.below (I : WaveI At Vt) {w w' : World} {B : Nat} {A : Option Addr} {V : Nat → Int} {n W : Nat} (h : LevsAt Vt w B A V n W) (hb : Below w.heap.size w w') : LevsAt Vt w' B A V n W := fun k hk => by
  obtain ⟨ad, x, e1, e2, e3, e4⟩ := h k hk
  exact ⟨ad, x, e1, Nat.lt_of_lt_of_le e2 hb.size, (hb.cell (by rw [add_block]; exact e2)).trans e3, I.keepVB e4 hb⟩

set_option maxRecDepth 100000 in
set_option maxHeartbeats 3200000 in
theorem wvMakes_walk (I : WaveI At Vt) (A : Option Addr) (n ca : Nat) (V : Nat → Int) (x0 : Int) (w : World) (hx0 : (Lit.int .i64 x0).wf = true) (ho : ItsR w A n ca V) :
    Calls Try.prog 3 #[.slice A n ca, .int .i64 x0] w fun e w' => e = .returned (.bool true) ∧ Below w.heap.size w w' := by
  have HI := Lib.hid I
  have HO := Lib.hid ho
  have HF := Lib.hid (wfirst_any I w)
  have HW := Lib.hid hx0
  have hnm : n ≤ maxLen := by have := ho.2.1; have := ho.2.2.1; omega
  have hnl : n ≤ 9223372036854775807 := by unfold maxLen at hnm; omega
  clear I ho hx0
  by_cases hbig : 400 < n
  · have hdd : decide ((400 : Int) < (n : Int)) = true := decide_eq_true (by omega)
    go_enter Try.func3, Try.ntmps3
    go_wp2_with fail
    refine HF.out.mono ?_
    rintro e w0 ⟨rfl, hb0⟩
    go_wp2_with fail
    go_ret
    exact ⟨rfl, hb0⟩
  · have hdd : decide ((400 : Int) < (n : Int)) = false := decide_eq_false (by omega)
    have hn : n ≤ 400 := by omega
    obtain ⟨r, hr⟩ : ∃ r : Bool, r = true ↔ RightW V n x0 := ⟨@decide _ (Classical.propDecidable _), @decide_eq_true_iff _ (Classical.propDecidable _)⟩
    have HR := Lib.hid hr
    clear hr
    go_enter Try.func3, Try.ntmps3
    go_wp2_with fail
    refine HF.out.mono ?_
    rintro e w0 ⟨rfl, hb0⟩
    have HO0 := Lib.hid (HO.out.below hb0)
    have HB0 := Lib.hid hb0
    have HMd := Lib.hid (wmade_any HI.out A n ca V x0 w0 (by omega) HW.out HO0.out)
    clear hb0 HF HO
    go_wp2_with fail
    refine HMd.out.mono ?_
    rintro e w1 ⟨h1, h2, hb1⟩
    have HB1 := Lib.hid (HB0.out.trans (hb1.mono HB0.out.size))
    have HO1 := Lib.hid (HO0.out.below hb1)
    have HRt := Lib.hid (wright_is A n ca V x0 w1 hnm HW.out HO1.out.2.2.2 r HR.out)
    clear hb1 HB0 HO0 HMd
    rcases r with _ | _
    · have hno : ¬ RightW V n x0 := fun h => by
        have := HR.out.2 h
        cases this
      have he := h2 hno
      subst he
      clear h1 h2 hno
      go_wp2_with fail
      refine HRt.out.mono ?_
      rintro e w2 ⟨rfl, hb2⟩
      have HB2 := Lib.hid (HB1.out.trans (hb2.mono HB1.out.size))
      clear hb2 HRt HB1
      go_wp2_with fail
      go_ret
      exact ⟨rfl, HB2.out⟩
    · have hRw : RightW V n x0 := HR.out.1 rfl
      obtain ⟨B, v, rfl, hAt⟩ := h1 hRw
      obtain ⟨pa, rfl⟩ := HI.out.ptr hAt
      obtain ⟨m, rfl⟩ : ∃ m : Nat, x0 = (m : Int) := ⟨x0.toNat, by have := hRw.1; omega⟩
      have hm : m ≤ 4194304 := by have := hRw.2.1; omega
      have HRw := Lib.hid hRw
      have HA1 : Hid (At B w1 (.pointer (some pa)) n V m) := Lib.hid hAt
      clear h1 h2 hAt hRw HR
      go_wp2_with fail
      refine HRt.out.mono ?_
      rintro e w2 ⟨rfl, hb2⟩
      have HB2 := Lib.hid (HB1.out.trans (hb2.mono HB1.out.size))
      have HO2 := Lib.hid (HO1.out.below hb2)
      have HA2 := Lib.hid (HI.out.keep HA1.out hb2)
      have HLv := Lib.hid (refLevels_any A n ca m V w2 (by omega) hm (fun i hi => by have := HRw.out.2.2.2 i hi; have := HRw.out.2.1; omega) HO2.out)
      clear hb2 HRt HB1 HO1 HA1
      go_wp2_with fail
      refine HLv.out.mono ?_
      rintro e w3 ⟨u3, L, rfl, hown, hL, hb3⟩
      obtain ⟨W, hW⟩ : ∃ W, widthN m = W := ⟨_, rfl⟩
      rw [hW] at hown hL
      obtain ⟨P, cP, rfl, hS⟩ := row_secs hown hL.len hL.own
      have hlen := hL.len
      have hbits := hL.bits
      rw [hlen]
      have hW2 : W ≤ 23 := by rw [← hW]; exact widthN_pow 23 m (by omega) (by decide)
      have HLb := Lib.hid (And.intro hlen hbits)
      have HB3 := Lib.hid (HB2.out.trans (hb3.mono HB2.out.size))
      have HA3 := Lib.hid (HI.out.keep HA2.out hb3)
      have HS3 := Lib.hid hS
      have H4 := HI.out.levels _ _ _ _ _ w3 HA3.out
      rw [hW] at H4
      have H4 := Lib.hid H4
      clear hown hL hS hlen hbits hW hb3 HLv HB2 HA2 HO2
      go_wp2_with fail
      refine H4.out.mono ?_
      rintro e w4 ⟨⟨AL, cL, rfl, hLs⟩, hb4⟩
      have HB4 := Lib.hid (HB3.out.trans (hb4.mono HB3.out.size))
      have HA4 := Lib.hid (HI.out.keep HA3.out hb4)
      have HS4 : Hid (Secs w4 w4.heap.size P L) := Lib.hid ((HS3.out.below hb4).mono_ hb4.size)
      have HV4 : Hid (LevsAt Vt w4 B AL V n W) := Lib.hid hLs
      have H5 := Lib.hid (HI.out.len_ _ _ _ _ _ w4 HA4.out)
      clear hLs hb4 HB3 HA3 HS3 H4
      have q1 : ((n : Int) != (n : Int)) = false := by simp
      have q2 : ((W : Int) != (W : Int)) = false := by simp
      go_wp2_with fail
      refine H5.out.mono ?_
      rintro e w5 ⟨rfl, hb5⟩
      have HB5 := Lib.hid (HB4.out.trans (hb5.mono HB4.out.size))
      have HS5 : Hid (Secs w5 w5.heap.size P L) := Lib.hid ((HS4.out.below hb5).mono_ hb5.size)
      have HV5 := Lib.hid (HV4.out.below HI.out hb5)
      clear hb5 HB4 HA4 HS4 HV4 H5
      go_wp2_with fail
      go_loopw [55] (fun s wr => ∃ k : Nat, k ≤ W ∧ s = .int .i64 (k : Int) ∧ Hid (Below w.heap.size w wr) ∧ Hid (Secs wr wr.heap.size P L) ∧ Hid (LevsAt Vt wr B AL V n W)) (fun s _ => W - (intOf s).toNat)
      case atStart => exact ⟨0, Nat.zero_le _, rfl, HB5, HS5, HV5⟩
      case round =>
        clear HB5 HS5 HV5
        obtain ⟨k, hk, rfl, hB, hS, hV⟩ := hrel
        rename World => wl
        by_cases hlt : k < W
        · have hlti : (k : Int) < (W : Int) := by omega
          obtain ⟨ad, x, rfl, hbl, cx, hVt⟩ := hV.out k hlt
          obtain ⟨p, hp⟩ : ∃ p, L[k]? = some p := ⟨_, List.getElem?_eq_getElem (by rw [HLb.out.1]; exact hlt)⟩
          obtain ⟨adp, rfl, hpl, cp, hp1, hp2, hp3, hp4⟩ := hS.out k p hp
          obtain ⟨pA, pn, pc, pV⟩ := p
          obtain ⟨hpn, hpv⟩ := HLb.out.2 k _ hp
          have hpn : pn = n := hpn
          subst hpn
          have HPv : Hid (∀ i, i < pn → pV i = bitN (levRow V pn W k i) (W - 1 - k)) := Lib.hid hpv
          have HBy : Hid (Bys wl wl.heap.size pA pn pV) := Lib.hid hp4
          have hp1 : pn ≤ pc := hp1
          have cp' : wl.cell? (adp.add k) = some (.slice pA pn pc) := cp
          have H6 := Lib.hid (HI.out.vlen _ _ _ _ wl hVt)
          clear hpv hp4 cp hp2 hp3 hp hpl hbl hVt
          go_wp2_with fail
          refine H6.out.mono ?_
          rintro e w6 ⟨rfl, hb6⟩
          have HB6 := Lib.hid (hB.out.trans (hb6.mono hB.out.size))
          have HS6 : Hid (Secs w6 w6.heap.size (some adp) L) := Lib.hid ((hS.out.below hb6).mono_ hb6.size)
          have HV6 := Lib.hid (hV.out.below HI.out hb6)
          have HY6 : Hid (Bys w6 w6.heap.size pA pn pV) := Lib.hid ((HBy.out.below hb6).mono_ hb6.size)
          have c6 : w6.cell? (adp.add k) = some (.slice pA pn pc) := (hb6.cell (cell_in cp')).trans cp'
          clear hb6 hB hS hV HBy cp' cx H6
          go_wp2_with fail
          go_loopw [71] (fun s wr => ∃ i : Nat, i ≤ pn ∧ s = .int .i64 (i : Int) ∧ Hid (Below w.heap.size w wr) ∧ Hid (Secs wr wr.heap.size (some adp) L) ∧ Hid (LevsAt Vt wr B (some ad) V pn W) ∧ Hid (Bys wr wr.heap.size pA pn pV)) (fun s _ => pn - (intOf s).toNat)
          case atStart => exact ⟨0, Nat.zero_le _, rfl, HB6, HS6, HV6, HY6⟩
          case round =>
            clear HB6 HS6 HV6 HY6 c6
            obtain ⟨i, hi, rfl, hB, hS, hV, hY⟩ := hrel
            rename World => wi
            by_cases hlt2 : i < pn
            · have hlti2 : (i : Int) < (pn : Int) := by omega
              obtain ⟨ad', x', e1, hbl, cx, hVt⟩ := hV.out k hlt
              cases e1
              obtain ⟨adb, rfl, _, cb, _⟩ := hY.out i hlt2
              have hH := HI.out.vat _ _ _ _ i wi hlt2 hVt
              have hpb := HPv.out i hlt2
              have hbz := bitN_int (levRow V pn W k i) (W - 1 - k)
              rw [← hpb] at hbz
              have hcase : (pV i = 1 ∧ levBit V pn W k i = true) ∨ (pV i = 0 ∧ levBit V pn W k i = false) := by
                have := bitN_lt (levRow V pn W k i) (W - 1 - k)
                rw [← hpb] at this
                unfold levBit
                by_cases e : pV i = 1
                · exact .inl ⟨e, decide_eq_true (by omega)⟩
                · exact .inr ⟨by omega, decide_eq_false (by omega)⟩
              rcases hcase with ⟨e1, e2⟩ | ⟨e1, e2⟩
              all_goals
                rw [e1] at cb
                rw [e2] at hH
                have H7 := Lib.hid hH
                clear hH e1 e2 hbz hpb hVt hbl
                go_wp2_with fail
                refine H7.out.mono ?_
                rintro e w7 ⟨rfl, hb7⟩
                have HB7 := Lib.hid (hB.out.trans (hb7.mono hB.out.size))
                have HS7 : Hid (Secs w7 w7.heap.size (some adp) L) := Lib.hid ((hS.out.below hb7).mono_ hb7.size)
                have HV7 := Lib.hid (hV.out.below HI.out hb7)
                have HY7 : Hid (Bys w7 w7.heap.size (some adb) pn pV) := Lib.hid ((hY.out.below hb7).mono_ hb7.size)
                clear hb7 hB hS hV hY H7 cb cx
                go_wp2_with fail
                go_roundw
                case rel => exact ⟨i + 1, by omega, by go_num, HB7, HS7, HV7, HY7⟩
                case measure => simp [intOf]; omega
            · have hge2 : ¬ (i : Int) < (pn : Int) := by omega
              go_wp2_with fail
              go_roundw
              case rel => exact ⟨k + 1, by omega, by go_num, hB, hS, hV⟩
              case measure => simp [intOf]; omega
        · obtain rfl : k = W := by omega
          have hge : ¬ (k : Int) < (k : Int) := by omega
          go_wp2_with fail
          go_ret
          exact ⟨rfl, hB.out⟩
end
end Go.Proofs.Ytfhflmojcfnhnaa
