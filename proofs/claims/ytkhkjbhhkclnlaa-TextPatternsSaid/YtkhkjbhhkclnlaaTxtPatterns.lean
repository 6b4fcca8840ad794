/- The walk of colophonlaw08.TextPatterns, over what package text answers (TextI). -/
import Derived.Test.YtkhkjbhhkclnlaaTxtPlaces
import Derived.RegionTactic
import Derived.Deep.RegionHeld3
namespace Go.Proofs.Ytkhkjbhhkclnlaa
open Go.RowKit

section
variable {At : Nat → World → Value → List Sec → Prop}
set_option maxRecDepth 100000 in
set_option maxHeartbeats 3200000 in
theorem txtPatterns_walk (I : TextI At) (P : Option Addr) (c : Nat) (L : List Part) (A : Option Addr) (n ca : Nat) (V : Nat → Nat) (w : World) (hl : L.length ≤ c) (hcm : c ≤ maxLen) (hP : P = none → L = [] ∧ c = 0) (ho : Secs w w.heap.size P L) (hn : n ≤ maxLen) (hA : A = none → n = 0 ∧ ca = 0) (hby : Bys w w.heap.size A n V) :
    Calls Try.prog 4 #[.slice P L.length c, .slice A n ca] w fun e w' => e = .returned (.bool true) ∧ Below w.heap.size w w' := by
  have HI := Lib.hid I
  have HBy := Lib.hid hby
  have HA := Lib.hid hA
  have hnl : n ≤ 9223372036854775807 := by unfold maxLen at hn; omega
  have HF := Lib.hid (tfirst_any I w)
  have HSm : Hid (∀ W, Below w.heap.size w W → Hid (Calls Try.prog 20 #[.slice P L.length c, .int .i64 20000, .int .i64 256] W fun e w' => e = .returned (.bool (decide (L.length ≤ 256 ∧ bytesT (docsP L) ≤ 20000))) ∧ W = w')) := Lib.hid fun W hW => Lib.hid (refSmall_any P c L w.heap.size 20000 256 W (by omega) (by decide) (by decide) (ho.below hW))
  have HNw : Hid (∀ W, Below w.heap.size w W → Hid (Calls Try.prog 8 #[.slice P L.length c] W fun e w' => (RightT (docsP L) → ∃ v, e = .returned (.tuple #[v, .int .i64 0]) ∧ At W.heap.size w' v (docsP L)) ∧ (¬ RightT (docsP L) → e = .returned (.tuple #[.pointer none, .int .i64 80])) ∧ Below W.heap.size W w')) := Lib.hid fun W hW => Lib.hid (I.new P c L W hl hcm hP ((ho.below hW).mono_ hW.size))
  obtain ⟨k, hk⟩ : ∃ k, L.length = k := ⟨_, rfl⟩
  obtain ⟨S, hS⟩ : ∃ S, docsP L = S := ⟨_, rfl⟩
  have hSk : S.length = k := by rw [← hS, docsP_length, hk]
  rw [hk, hS] at HSm HNw
  rw [hk]
  have HSk := Lib.hid hSk
  clear I ho hl hcm hP hk hS hSk hby hA hn
  go_enter Try.func4, Try.ntmps4
  go_wp2_with fail
  refine HF.out.mono ?_
  rintro e w0 ⟨rfl, hb0⟩
  have H1 := HSm.out w0 hb0
  by_cases hsm : k ≤ 256 ∧ bytesT S ≤ 20000
  · rw [decide_eq_true hsm] at H1
    by_cases hn2 : 2000 < n
    · have hd : decide ((2000 : Int) < (n : Int)) = true := by simp; omega
      clear HF HSm HNw hsm
      go_wp2_with fail
      refine H1.out.mono ?_
      rintro e w' ⟨rfl, rfl⟩
      go_wp2_with fail
      go_ret
      exact ⟨rfl, hb0⟩
    have hd : decide ((2000 : Int) < (n : Int)) = false := by simp; omega
    have H2 := HNw.out w0 hb0
    have HR : Hid (RightT S) := Lib.hid ⟨by rw [HSk.out]; exact hsm.1, by omega⟩
    have hk256 := hsm.1
    clear HF HSm HNw hsm
    go_wp2_with fail
    refine H1.out.mono ?_
    rintro e w' ⟨rfl, rfl⟩
    go_wp2_with fail
    refine H2.out.mono ?_
    rintro e w1 ⟨h1, _, hb1⟩
    obtain ⟨v, rfl, hAt⟩ := h1 HR.out
    obtain ⟨a, rfl⟩ := HI.out.ptr hAt
    have hB1 := hb0.trans (hb1.mono hb0.size)
    have HAt := Lib.hid hAt
    have H3 := Lib.hid (HI.out.pattern _ _ S A n ca V w1 hAt (by omega) HA.out ((HBy.out.below hB1).mono_ hB1.size))
    clear h1 hAt hb1 H1 H2
    go_wp2_with fail
    refine H3.out.mono ?_
    rintro e w2 ⟨u, rfl, hu, hb2⟩
    have hB2 := hB1.trans (hb2.mono hB1.size)
    have HA2 := Lib.hid (HI.out.keep HAt.out hb2)
    rw [HSk.out] at hu
    obtain ⟨X, cx, rfl, hX⟩ := Its.of_own hu (fun i hi => by
      obtain ⟨_, _, _, _, h⟩ := HBy.out i hi
      omega)
    have HX := Lib.hid hX
    clear hu hX hb2 H3 HAt
    go_wp2_with fail
    go_loopw [39] (fun v wr => ∃ i : Nat, i ≤ n ∧ v = .int .i64 (i : Int) ∧ Below w2.heap.size w2 wr) (fun v _ => n - (intOf v).toNat)
    case atStart => exact ⟨0, Nat.zero_le _, rfl, Below.refl _ _⟩
    case round =>
      obtain ⟨i, hi, rfl, hbr⟩ := hrel
      have hBr := hB2.trans (hbr.mono hB2.size)
      by_cases hlt : i < n
      · have hlti : (i : Int) < (n : Int) := by omega
        obtain ⟨adx, rfl, hxb, hxc, _, _⟩ := HX.out i hlt
        obtain ⟨adp, rfl, hpb, hpc, hpv⟩ := HBy.out i hlt
        have HSS : Hid (∀ W, Below w2.heap.size w2 W → W.cell? (adx.add i) = some (.int .i64 ((k + V i : Nat) : Int)) ∧ W.cell? (adp.add i) = some (.int .u8 ((V i : Nat) : Int)) ∧ Below w2.heap.size w2 W) := Lib.hid fun W hW =>
          ⟨(hW.cell (by rw [add_block]; exact hxb)).trans hxc, ((hB2.trans (hW.mono hB2.size)).cell (by rw [add_block]; exact hpb)).trans hpc, hW⟩
        have HAl : Hid (∀ W, Below w2.heap.size w2 W → Hid (Calls Try.prog 13 #[.pointer (some a)] W fun e w' => e = .returned (.int .i64 ((k + 256 : Nat) : Int)) ∧ Below W.heap.size W w')) := Lib.hid fun W hW => Lib.hid (by
          have h := HI.out.alphabet _ _ S W (HI.out.keep HA2.out hW)
          rw [HSk.out] at h
          exact h)
        have hw1 : IntKind.i64.wrap ((V i : Nat) : Int) = ((V i : Nat) : Int) := IntWalk.i64_in _ (by omega)
        have hw2 : IntKind.i64.wrap (((V i : Nat) : Int) + (k : Int)) = ((k + V i : Nat) : Int) := by rw [IntWalk.i64_in _ (by omega)]; omega
        have hw3 : IntKind.i64.wrap (((V i : Nat) : Int) + (k : Int)) = (k : Int) + ((V i : Nat) : Int) := by rw [IntWalk.i64_in _ (by omega)]; omega
        have hge : decide (((k + 256 : Nat) : Int) ≤ ((k + V i : Nat) : Int)) = false := by simp; omega
        have hge2 : decide (256 ≤ V i) = false := by simp; omega
        have hge3 : ¬ 256 ≤ V i := by omega
        have hge4 : decide ((256 : Int) ≤ ((V i : Nat) : Int)) = false := decide_eq_false (by omega)
        have hbD := below_drew' hbr
        clear hxc hpc
        go_upto_region 14 with (fail)
        go_cut [63] (fun s63 wx => s63 = .bool false ∧ Below w2.heap.size w2 wx)
        case first =>
          go_region_held3 (fun w' => w'.cell? (adx.add i) = some (.int .i64 ((k + V i : Nat) : Int)) ∧ w'.cell? (adp.add i) = some (.int .u8 ((V i : Nat) : Int)) ∧ Below w2.heap.size w2 w')
            ((first
              | exact HSS.out _ hbD
              | exact HSS.out _ hb5))
            ((go_at_call 13; (with_reducible refine (HAl.out _ hbD).out.mono ?_); rintro e w5 ⟨rfl, hc5⟩; have hb5 := hbD.trans (hc5.mono hbD.size)))
          all_goals
            go_wp2_with fail
            go_meet
            first
              | exact ⟨rfl, hb5⟩
              | exact ⟨by rw [hge4], hb5⟩
        case rest =>
          obtain ⟨rfl, hbc⟩ := hcut
          go_wp2_with fail
          go_roundw
          case rel => exact ⟨i + 1, by omega, by go_num, hbc⟩
          case measure => simp [intOf]; omega
      · obtain rfl : i = n := by omega
        have N1 := Lib.hid (HI.out.nilDoc 0 wr)
        go_wp2_with fail
        refine N1.out.mono ?_
        rintro e w3 ⟨rfl, hb3⟩
        have hB3 := hBr.trans (hb3.mono hBr.size)
        have N2 := Lib.hid (HI.out.nilDocs w3)
        clear N1 hb3
        go_wp2_with fail
        refine N2.out.mono ?_
        rintro e w4 ⟨rfl, hb4⟩
        have hB4 := hB3.trans (hb4.mono hB3.size)
        have N3 := Lib.hid (HI.out.nilLen w4)
        clear N2 hb4
        go_wp2_with fail
        refine N3.out.mono ?_
        rintro e w5 ⟨rfl, hb5⟩
        have hB5 := hB4.trans (hb5.mono hB4.size)
        have N4 := Lib.hid (HI.out.nilAlphabet w5)
        clear N3 hb5
        go_wp2_with fail
        refine N4.out.mono ?_
        rintro e w6 ⟨rfl, hb6⟩
        have hB6 := hB5.trans (hb6.mono hB5.size)
        have N5 := Lib.hid (HI.out.nilSymbols w6)
        clear N4 hb6
        go_wp2_with fail
        refine N5.out.mono ?_
        rintro e w7 ⟨⟨Y1, c1, rfl⟩, hb7⟩
        have hB7 := hB6.trans (hb7.mono hB6.size)
        have N6 := Lib.hid (HI.out.nilPattern A i ca V w7 (by omega) HA.out ((HBy.out.below hB7).mono_ hB7.size))
        clear N5 hb7
        go_wp2_with fail
        refine N6.out.mono ?_
        rintro e w8 ⟨⟨Y2, c2, rfl⟩, hb8⟩
        have hB8 := hB7.trans (hb8.mono hB7.size)
        have N7 := Lib.hid (HI.out.nilStart 0 w8)
        clear N6 hb8
        go_wp2_with fail
        refine N7.out.mono ?_
        rintro e w9 ⟨rfl, hb9⟩
        have hB9 := hB8.trans (hb9.mono hB8.size)
        have N8 := Lib.hid (HI.out.nilBytes 0 w9)
        clear N7 hb9
        go_wp2_with fail
        refine N8.out.mono ?_
        rintro e w10 ⟨⟨Y3, c3, rfl⟩, hb10⟩
        have hB10 := hB9.trans (hb10.mono hB9.size)
        go_wp2_with fail
        go_ret
        exact ⟨rfl, hB10⟩
  · rw [decide_eq_false hsm] at H1
    clear HF HSm HNw hsm
    go_wp2_with fail
    refine H1.out.mono ?_
    rintro e w' ⟨rfl, rfl⟩
    go_wp2_with fail
    go_ret
    exact ⟨rfl, hb0⟩
end
end Go.Proofs.Ytkhkjbhhkclnlaa
