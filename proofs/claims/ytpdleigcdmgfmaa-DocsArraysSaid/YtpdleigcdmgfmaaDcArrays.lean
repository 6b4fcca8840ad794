/- The walk of colophonlaw12.DocsArrays, over what packages text and docs answer (DocsI). -/
import Derived.Test.YtpdleigcdmgfmaaDocI
namespace Go.Proofs.Ytpdleigcdmgfmaa
open Go.RowKit
section
variable {At : Nat → World → Value → List Sec → Prop}

set_option maxRecDepth 100000 in
set_option maxHeartbeats 3200000 in
theorem dcArrays_walk (I : DocsI At) (P : Option Addr) (c : Nat) (L : List Part) (A : Option Addr) (n ca : Nat) (V : Nat → Int) (w : World) (hl : L.length ≤ c) (hcm : c ≤ maxLen) (hP : P = none → L = [] ∧ c = 0) (hs : Secs w w.heap.size P L) (ho : ItsR w A n ca V) :
    Calls Try.prog 3 #[.slice P L.length c, .slice A n ca] w fun e w' => e = .returned (.bool true) ∧ Below w.heap.size w w' := by
  have HI := Lib.hid I
  have HO := Lib.hid ho
  have HSc := Lib.hid hs
  have HF := Lib.hid (dfirst_any I w)
  have hnl : n ≤ 9223372036854775807 := by have := ho.2.1; have := ho.2.2.1; unfold maxLen at this; omega
  have HSm : Hid (∀ W, Below w.heap.size w W → Hid (Calls Try.prog 8 #[.slice P L.length c, .int .i64 400, .int .i64 256] W fun e w' => e = .returned (.bool (decide (L.length ≤ 256 ∧ bytesT (docsP L) ≤ 400))) ∧ W = w')) := Lib.hid fun W hW => Lib.hid (refSmall_any P c L w.heap.size 400 256 W (by omega) (by decide) (by decide) (hs.below hW))
  have HNw : Hid (∀ W, Below w.heap.size w W → Hid (Calls Try.prog 9 #[.slice P L.length c] W fun e w' => (RightT (docsP L) → ∃ v, e = .returned (.tuple #[v, .int .i64 0]) ∧ At W.heap.size w' v (docsP L)) ∧ (¬ RightT (docsP L) → e = .returned (.tuple #[.pointer none, .int .i64 80])) ∧ Below W.heap.size W w')) := Lib.hid fun W hW => Lib.hid (I.new P c L W hl hcm hP ((hs.below hW).mono_ hW.size))
  have HSy : Hid (∀ W, Below w.heap.size w W → L.length ≤ 4000 → lenT (docsP L) ≤ 4000000 → Hid (Calls Try.prog 12 #[.slice P L.length c] W fun e w' => ∃ v, e = .returned v ∧ w'.ownsRow W.heap.size 3 1 v (lenT (docsP L)) (icells (symI (docsP L)) (lenT (docsP L))) ∧ Below W.heap.size W w')) := Lib.hid fun W hW h1 h2 => Lib.hid (refSymbols_any P c L W h1 h2 ((hs.below hW).mono_ hW.size))
  have HDo : Hid (∀ W p, Below w.heap.size w W → (Lit.int .i64 p).wf = true → Hid (Calls Try.prog 13 #[.slice P L.length c, .int .i64 p] W fun e w' => e = .returned (.tuple #[.int .i64 (docI (docsP L) p).1, .int .i64 (docI (docsP L) p).2]) ∧ W = w')) := Lib.hid fun W p hW hp => Lib.hid (refDoc_any P c L w.heap.size W (by omega) (hs.below hW) p hp)
  obtain ⟨k, hk⟩ : ∃ k, L.length = k := ⟨_, rfl⟩
  obtain ⟨S, hS⟩ : ∃ S, docsP L = S := ⟨_, rfl⟩
  have hSk : S.length = k := by rw [← hS, docsP_length, hk]
  rw [hk, hS] at HSm HNw HSy HDo
  rw [hk]
  have HSk := Lib.hid hSk
  clear I ho hs hl hcm hP hk hS hSk HSc
  go_enter Try.func3, Try.ntmps3
  go_wp2_with fail
  refine HF.out.mono ?_
  rintro e w0 ⟨rfl, hb0⟩
  have H1 := HSm.out w0 hb0
  clear HF HSm
  by_cases hsm : k ≤ 256 ∧ bytesT S ≤ 400
  · rw [decide_eq_true hsm] at H1
    by_cases hbig : 1000 < n
    · have hd : decide ((1000 : Int) < (n : Int)) = true := decide_eq_true (by omega)
      go_wp2_with fail
      refine H1.out.mono ?_
      rintro e w' ⟨rfl, rfl⟩
      go_wp2_with fail
      go_ret
      exact ⟨rfl, hb0⟩
    · have hd : decide ((1000 : Int) < (n : Int)) = false := decide_eq_false (by omega)
      have hn : n ≤ 1000 := by omega
      have H2 := HNw.out w0 hb0
      have HR : Hid (RightT S) := Lib.hid ⟨by rw [HSk.out]; exact hsm.1, by omega⟩
      have hk256 := hsm.1
      have hlen : lenT S ≤ 656 := by rw [lenT_is, HSk.out]; omega
      clear HNw hsm
      go_wp2_with fail
      refine H1.out.mono ?_
      rintro e w' ⟨rfl, rfl⟩
      go_wp2_with fail
      refine H2.out.mono ?_
      rintro e w1 ⟨h1, _, hb1⟩
      obtain ⟨v, rfl, hAt⟩ := h1 HR.out
      obtain ⟨a, rfl⟩ := HI.out.ptr hAt
      have hB1 := hb0.trans (hb1.mono hb0.size)
      have HO1 := Lib.hid (HO.out.below hB1)
      have H3 := Lib.hid (HI.out.array _ _ S A n ca V w1 hAt (by omega) HO1.out)
      clear h1 hAt hb1 H1 H2 hb0
      go_wp2_with fail
      refine H3.out.mono ?_
      rintro e w2 ⟨h1, h2, hb2⟩
      have hB2 := hB1.trans (hb2.mono hB1.size)
      have HO2 := Lib.hid (HO1.out.below hb2)
      have H4 := Lib.hid (refTurned_any A n ca V w2 (by omega) HO2.out.2.2.2)
      obtain ⟨N, hN⟩ : ∃ N, lenT S = N := ⟨_, rfl⟩
      rw [hN] at h1 h2 hlen HSy
      by_cases hPm : IsPerm V n
      · have HPm := Lib.hid hPm
        by_cases hnN : n = N
        · subst hnN
          obtain ⟨AD, cD, rfl, hiD⟩ := h1 ⟨rfl, hPm⟩
          have HD2 := Lib.hid hiD
          clear h1 h2 hb2 hiD H3 HO1 hB1 hN hPm
          go_wp2_with fail
          with_reducible refine H4.out.mono ?_
          rintro e w3 ⟨h1, hb3⟩
          rcases h1 with ⟨_, u, R, rfl, _, _⟩ | ⟨hno, _⟩
          rotate_left
          · exact absurd HPm.out hno
          have hB3 := hB2.trans (hb3.mono hB2.size)
          have HD3 := Lib.hid (HD2.out.below hb3)
          have HO3 := Lib.hid (HO2.out.below hb3)
          have H5 := HSy.out w3 hB3 (by omega) (by omega)
          clear hb3 H4 HD2 HO2 hB2 HSy
          go_wp2_with fail
          with_reducible refine H5.out.mono ?_
          rintro e w4 ⟨v4, rfl, hown, hb4⟩
          obtain ⟨A4, c4, rfl⟩ := owns_slice hown
          have hB4 := hB3.trans (hb4.mono hB3.size)
          have HD4 := Lib.hid (HD3.out.below hb4)
          have HO4 := Lib.hid (HO3.out.below hb4)
          have HDo4 : Hid (∀ p, (Lit.int .i64 p).wf = true → Hid (Calls Try.prog 13 #[.slice P k c, .int .i64 p] w4 fun e w' => e = .returned (.tuple #[.int .i64 (docI S p).1, .int .i64 (docI S p).2]) ∧ w4 = w')) := Lib.hid fun p hp => HDo.out w4 p hB4 hp
          have g1 : ((n : Int) != (n : Int)) = false := by simp
          clear hown hb4 H5 HD3 HO3 hB3 HDo
          go_wp2_with fail
          go_loop [69] (fun v => ∃ i : Nat, i ≤ n ∧ v = .int .i64 (i : Int)) (fun v => n - (intOf v).toNat)
          case atStart => exact ⟨0, Nat.zero_le _, rfl⟩
          case round =>
            obtain ⟨i, hi, rfl⟩ := hrel
            by_cases hlt : i < n
            · have hlti : (i : Int) < (n : Int) := by omega
              obtain ⟨ad1, rfl, _, c1', _⟩ := HD4.out.2.2.2 i hlt
              obtain ⟨ad2, rfl, _, c2', _⟩ := HO4.out.2.2.2 i hlt
              have H6 := HDo4.out (V i) (HO4.out.2.2.2.wf hlt)
              rw [show docAt S V i = (docI S (V i)).1 from rfl] at c1'
              generalize (docI S (V i)).1 = x at c1' H6
              generalize (docI S (V i)).2 = y at H6
              generalize V i = p at c2' H6
              have g2 : (x != x) = false := by simp
              go_wp2_with fail
              with_reducible refine H6.out.mono ?_
              rintro e w' ⟨rfl, rfl⟩
              go_wp2_with fail
              go_round
              case rel => exact ⟨i + 1, by omega, by go_num⟩
              case measure => simp [intOf]; omega
            · have hge : ¬ (i : Int) < (n : Int) := by omega
              go_wp2_with fail
              go_ret
              exact ⟨rfl, hB4⟩
        · obtain ⟨AD, cD, rfl⟩ := h2 (fun h => hnN h.1)
          have HnN := Lib.hid hnN
          clear h1 h2 hb2 H3 HO1 hB1 hN hPm hnN
          go_wp2_with fail
          with_reducible refine H4.out.mono ?_
          rintro e w3 ⟨h1, hb3⟩
          rcases h1 with ⟨_, u, R, rfl, _, _⟩ | ⟨hno, _⟩
          rotate_left
          · exact absurd HPm.out hno
          have hB3 := hB2.trans (hb3.mono hB2.size)
          have H5 := HSy.out w3 hB3 (by omega) (by omega)
          clear hb3 H4 HO2 hB2 HSy
          go_wp2_with fail
          with_reducible refine H5.out.mono ?_
          rintro e w4 ⟨v4, rfl, hown, hb4⟩
          obtain ⟨A4, c4, rfl⟩ := owns_slice hown
          have hB4 := hB3.trans (hb4.mono hB3.size)
          have g1 : ((n : Int) != (N : Int)) = true := by
            have := HnN.out
            rw [bne_iff_ne]
            omega
          clear hown hb4 H5 hB3
          go_wp2_with fail
          go_ret
          exact ⟨rfl, hB4⟩
      · obtain ⟨AD, cD, rfl⟩ := h2 (fun h => hPm h.2)
        have HPm := Lib.hid hPm
        clear h1 h2 hb2 H3 HO1 hB1 hN hPm
        go_wp2_with fail
        with_reducible refine H4.out.mono ?_
        rintro e w3 ⟨h1, hb3⟩
        rcases h1 with ⟨hyes, _⟩ | ⟨_, rfl⟩
        · exact absurd hyes HPm.out
        have hB3 := hB2.trans (hb3.mono hB2.size)
        clear hb3 H4 HO2 hB2 HSy
        go_wp2_with fail
        go_ret
        exact ⟨rfl, hB3⟩
  · rw [decide_eq_false hsm] at H1
    go_wp2_with fail
    refine H1.out.mono ?_
    rintro e w' ⟨rfl, rfl⟩
    go_wp2_with fail
    go_ret
    exact ⟨rfl, hb0⟩
end
end Go.Proofs.Ytpdleigcdmgfmaa
