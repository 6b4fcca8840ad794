/- The walk of colophonlaw08.TextPlaces, over what package text answers (TextI). -/
import Derived.Test.YtkhkjbhhkclnlaaTxtI
namespace Go.Proofs.Ytkhkjbhhkclnlaa
open Go.RowKit

theorem docI_at {S : List Sec} {d o : Nat} {x : Sec} (h : S[d]? = some x) (ho : o ≤ x.n) : docI S ((offT S d + o : Nat) : Int) = ((d : Int), (o : Int)) := by
  unfold docI
  rw [if_neg (by omega), Int.toNat_natCast, locT_at h ho]
theorem startI_at {S : List Sec} {d : Nat} (h : d ≤ S.length) : startI S (d : Int) = ((offT S d : Nat) : Int) := by
  unfold startI
  rw [if_pos ⟨by omega, by omega⟩, Int.toNat_natCast]
theorem wf_nat {n : Nat} (h : n ≤ 4194304) : (Lit.int .i64 (n : Int)).wf = true := by simp [Lit.wf, IntKind.min, IntKind.max, IntKind.bits, IntKind.signed]; omega
/-- what a cell of documents is, in any world behind. -/
theorem doc_cell {w W : World} {P : Option Addr} {L : List Part} (h : Secs w w.heap.size P L) (hb : Below w.heap.size w W) {d : Nat} {p : Part} (hp : L[d]? = some p) : ∃ ad : Addr, P = some ad ∧ ad.block < w.heap.size ∧ W.cell? (ad.add d) = some (.slice p.A p.n p.c) ∧ p.n ≤ p.c ∧ p.c ≤ maxLen := by
  obtain ⟨ad, h1, h2, h3, h4, h5, _, _⟩ := (h.below hb) d p hp
  exact ⟨ad, h1, h2, h3, h4, h5⟩

section
variable {At : Nat → World → Value → List Sec → Prop}
set_option maxRecDepth 100000 in
set_option maxHeartbeats 3200000 in
theorem txtPlaces_walk (I : TextI At) (P : Option Addr) (c : Nat) (L : List Part) (w : World) (hl : L.length ≤ c) (hcm : c ≤ maxLen) (hP : P = none → L = [] ∧ c = 0) (ho : Secs w w.heap.size P L) :
    Calls Try.prog 5 #[.slice P L.length c] w fun e w' => e = .returned (.bool true) ∧ Below w.heap.size w w' := by
  have HI := Lib.hid I
  have HO := Lib.hid ho
  have HF := Lib.hid (tfirst_any I w)
  have HSm : Hid (∀ W, Below w.heap.size w W → Hid (Calls Try.prog 20 #[.slice P L.length c, .int .i64 3000, .int .i64 256] W fun e w' => e = .returned (.bool (decide (L.length ≤ 256 ∧ bytesT (docsP L) ≤ 3000))) ∧ W = w')) := Lib.hid fun W hW => Lib.hid (refSmall_any P c L w.heap.size 3000 256 W (by omega) (by decide) (by decide) (ho.below hW))
  have HNw : Hid (∀ W, Below w.heap.size w W → Hid (Calls Try.prog 8 #[.slice P L.length c] W fun e w' => (RightT (docsP L) → ∃ v, e = .returned (.tuple #[v, .int .i64 0]) ∧ At W.heap.size w' v (docsP L)) ∧ (¬ RightT (docsP L) → e = .returned (.tuple #[.pointer none, .int .i64 80])) ∧ Below W.heap.size W w')) := Lib.hid fun W hW => Lib.hid (I.new P c L W hl hcm hP ((ho.below hW).mono_ hW.size))
  obtain ⟨k, hk⟩ : ∃ k, L.length = k := ⟨_, rfl⟩
  obtain ⟨S, hS⟩ : ∃ S, docsP L = S := ⟨_, rfl⟩
  have hSk : S.length = k := by rw [← hS, docsP_length, hk]
  have HLS : Hid (∀ (d : Nat) (p : Part), L[d]? = some p → S[d]? = some p.sec) := Lib.hid fun d p h => by rw [← hS]; exact docsP_at h
  rw [hk, hS] at HSm HNw
  rw [hk]
  have HK := Lib.hid hk
  have HSk := Lib.hid hSk
  clear I ho hl hcm hP hk hS hSk
  go_enter Try.func5, Try.ntmps5
  go_wp2_with fail
  refine HF.out.mono ?_
  rintro e w0 ⟨rfl, hb0⟩
  have H1 := HSm.out w0 hb0
  by_cases hsm : k ≤ 256 ∧ bytesT S ≤ 3000
  · rw [decide_eq_true hsm] at H1
    have H2 := HNw.out w0 hb0
    have HR : Hid (RightT S) := Lib.hid ⟨by rw [HSk.out]; exact hsm.1, by omega⟩
    have hk256 := hsm.1
    have hlen : lenT S ≤ 3256 := by rw [lenT_is, HSk.out]; omega
    clear HF HSm HNw hsm
    go_wp2_with fail
    refine H1.out.mono ?_
    rintro e w' ⟨rfl, rfl⟩
    go_wp2_with fail
    refine H2.out.mono ?_
    rintro e w1 ⟨h1, _, hb1⟩
    obtain ⟨v, rfl, hAt⟩ := h1 HR.out
    obtain ⟨a, rfl⟩ := HI.out.ptr hAt
    have hB1 := hb0.trans (hb1.mono hb0.size)
    have hV := (HI.out.right hAt).2
    have HV := Lib.hid hV
    have HAt := Lib.hid hAt
    have H3 := Lib.hid (HI.out.symbols _ _ S w1 hAt)
    clear h1 hAt hb1 H1 H2 hV
    go_wp2_with fail
    refine H3.out.mono ?_
    rintro e w2 ⟨u, rfl, hu, hb2⟩
    have hB2 := hB1.trans (hb2.mono hB1.size)
    have HA2 := Lib.hid (HI.out.keep HAt.out hb2)
    obtain ⟨N, hN⟩ : ∃ N, lenT S = N := ⟨_, rfl⟩
    rw [hN] at hu hlen
    have HN := Lib.hid hN
    obtain ⟨X, cx, rfl, hX⟩ := Its.of_own hu (fun i hi => by
      have h := sym_lt HV.out (p := i) (by rw [hN]; exact hi)
      rw [HSk.out] at h
      unfold symI
      omega)
    have HX := Lib.hid hX
    clear hu hX hb2 H3 HAt hN
    go_wp2_with fail
    go_loopw [23] (fun v wr => ∃ p : Nat, p ≤ N ∧ v = .int .i64 (p : Int) ∧ Below w2.heap.size w2 wr) (fun v _ => N - (intOf v).toNat)
    case atStart => exact ⟨0, Nat.zero_le _, rfl, Below.refl _ _⟩
    case round =>
      obtain ⟨p, hp, rfl, hbr⟩ := hrel
      have hBr := hB2.trans (hbr.mono hB2.size)
      have HAr := Lib.hid (HI.out.keep HA2.out hbr)
      by_cases hlt : p < N
      · obtain ⟨d, o, x, hx, hox, hpo⟩ := locT_some (S := S) (p := p) (by rw [HN.out]; exact hlt)
        have hdS := (List.getElem?_eq_some_iff.1 hx).1
        rw [HSk.out] at hdS
        obtain ⟨pt, hpt⟩ : ∃ pt, L[d]? = some pt := ⟨_, List.getElem?_eq_getElem (by rw [HK.out]; exact hdS)⟩
        have hxs := HLS.out d pt hpt
        rw [hx] at hxs
        cases hxs
        have hon : o ≤ pt.n := hox
        have hin := offT_in hx
        rw [HN.out] at hin
        have hin : offT S d + (pt.n + 1) ≤ N := hin
        have hlti : (p : Int) < (N : Int) := by omega
        have hdk : (d : Int) < (k : Int) := by omega
        have H4 := Lib.hid (HI.out.doc _ _ S (p : Int) wr (wf_nat (by omega)) HAr.out)
        have hdo : docI S (p : Int) = ((d : Int), (o : Int)) := by rw [hpo]; exact docI_at hx hox
        rw [hdo] at H4
        have HPO := Lib.hid hpo
        have HPt := Lib.hid hpt
        have HXd := Lib.hid hx
        clear hpt hx hdo hpo hox
        have hd0 : decide ((d : Int) < 0) = false := by simp
        have hd1 : decide ((k : Int) ≤ (d : Int)) = false := by simp; omega
        go_wp2_with fail
        refine H4.out.mono ?_
        rintro e w3 ⟨rfl, hb3⟩
        have hb3' := hbr.trans (hb3.mono hbr.size)
        have HA3 := Lib.hid (HI.out.keep HAr.out hb3)
        have H5 := Lib.hid (HI.out.start _ _ S (d : Int) w3 (wf_nat (by omega)) HA3.out)
        rw [startI_at (by rw [HSk.out]; omega)] at H5
        clear H4 hb3
        go_wp2_with fail
        refine H5.out.mono ?_
        rintro e w4 ⟨rfl, hb4⟩
        have hb4' := hb3'.trans (hb4.mono hb3'.size)
        have hB4 := hB2.trans (hb4'.mono hB2.size)
        obtain ⟨ad, rfl, had, _⟩ := doc_cell HO.out hB4 HPt.out
        have hq1 : ∀ q, (w4.drewN q).cell? (ad.add d) = some (.slice pt.A pt.n pt.c) := fun q => by
          obtain ⟨ad', e, _, h, _⟩ := doc_cell HO.out (below_drewN' hB4 q) HPt.out
          cases e
          exact h
        have hq0 : w4.cell? (ad.add d) = some (.slice pt.A pt.n pt.c) := hq1 0
        obtain ⟨adx, rfl, hxb, hxc, _, _⟩ := HX.out p hlt
        have hq2 : ∀ q, (w4.drewN q).cell? (adx.add p) = some (.int .i64 (symI S p)) := fun q => ((below_drewN' hb4' q).cell (by rw [add_block]; exact hxb)).trans hxc
        obtain ⟨ad', e', h2', _, h4', h5', _, hby⟩ := (HO.out.below hB4) d pt HPt.out
        cases e'
        have hBys := Lib.hid hby
        have hpc : pt.c ≤ 9223372036854775807 := by unfold maxLen at h5'; omega
        clear hby h5' hxc
        obtain ⟨A, z, cc, V⟩ := pt
        have hz : z ≤ N := by
          have : offT S d + (z + 1) ≤ N := hin
          omega
        have hw1 : IntKind.i64.wrap (((offT S d : Nat) : Int) + (o : Int)) = (p : Int) := by
          have := HPO.out
          rw [IntWalk.i64_in _ (by omega)]
          omega
        have hoz : o ≤ z := hon
        have hd2 : decide ((z : Int) < (o : Int)) = false := by simp; omega
        have hb4m := hb4'
        by_cases hlast : o = z
        · subst hlast
          have HSy : symI S p = (d : Int) := by
            have h2 : symT S (offT S d + o) = d := sym_end HXd.out
            unfold symI
            rw [HPO.out, h2]
          rw [HSy] at hq2
          have hd3 : decide ((o : Int) < (o : Int)) = false := by simp
          clear HSy H5 hb4
          go_wp2_with fail
          go_quiet (fail)
          go_wp2_with fail
          go_roundw
          case rel => exact ⟨p + 1, by omega, by go_num, below_drewN' hb4m _⟩
          case measure => simp [intOf]; omega
        · have hol : o < z := by omega
          have hoi : (o : Int) < (z : Int) := by omega
          have hd3 : ((o : Int) == (z : Int)) = false := by rw [beq_eq_false_iff_ne]; omega
          have hd4 : decide ((o : Int) < (z : Int)) = true := decide_eq_true hoi
          have HSy : symI S p = (k : Int) + ((V o : Nat) : Int) := by
            have h2 : symT S (offT S d + o) = S.length + V o := sym_byte HXd.out (show o < z from hol)
            unfold symI
            rw [HPO.out, h2, HSk.out]
            omega
          rw [HSy] at hq2
          obtain ⟨adb, rfl, hb2, hb3, hb5⟩ := hBys.out o hol
          have hq3 : ∀ q, (w4.drewN q).cell? (adb.add o) = some (.int .u8 ((V o : Nat) : Int)) := fun q => hb3
          have hw2 : IntKind.i64.wrap ((V o : Nat) : Int) = ((V o : Nat) : Int) := IntWalk.i64_in _ (by omega)
          have hw3 : IntKind.i64.wrap ((k : Int) + ((V o : Nat) : Int)) = (k : Int) + ((V o : Nat) : Int) := IntWalk.i64_in _ (by omega)
          clear HSy H5 hb4
          go_wp2_with fail
          go_quiet (fail)
          go_wp2_with fail
          go_roundw
          case rel => exact ⟨p + 1, by omega, by go_num, below_drewN' hb4m _⟩
          case measure => simp [intOf]; omega
      · obtain rfl : p = N := by omega
        have H6 := Lib.hid (HI.out.docs _ _ S wr HAr.out)
        rw [HSk.out] at H6
        go_wp2_with fail
        refine H6.out.mono ?_
        rintro e w3 ⟨rfl, hb3⟩
        have hB3 := hBr.trans (hb3.mono hBr.size)
        have HA3 := Lib.hid (HI.out.keep HAr.out hb3)
        have H7 := Lib.hid (HI.out.start _ _ S (k : Int) w3 (wf_nat (by omega)) HA3.out)
        have hst : startI S (k : Int) = (p : Int) := by
          rw [startI_at (by rw [HSk.out]; exact Nat.le_refl _), ← HN.out]
          unfold lenT
          rw [HSk.out]
        rw [hst] at H7
        clear H6 hb3 hst
        go_wp2_with fail
        refine H7.out.mono ?_
        rintro e w4 ⟨rfl, hb4⟩
        have hB4 := hB3.trans (hb4.mono hB3.size)
        have HA4 := Lib.hid (HI.out.keep HA3.out hb4)
        have H8 := Lib.hid (HI.out.len_ _ _ S w4 HA4.out)
        rw [HN.out] at H8
        clear H7 hb4
        go_wp2_with fail
        refine H8.out.mono ?_
        rintro e w5 ⟨rfl, hb5⟩
        have hB5 := hB4.trans (hb5.mono hB4.size)
        go_wp2_with fail
        go_ret
        exact ⟨rfl, hB5⟩
  · rw [decide_eq_false hsm] at H1
    clear HF HSm HNw hsm
    go_wp2_with fail
    refine H1.out.mono ?_
    rintro e w' ⟨rfl, rfl⟩
    go_wp2_with fail
    go_ret
    exact ⟨rfl, hb0⟩
end
end Go.Proofs.Ytkhkjbhhkclnlaa
