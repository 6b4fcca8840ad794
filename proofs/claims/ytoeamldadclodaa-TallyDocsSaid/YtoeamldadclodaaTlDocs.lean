/- The walk of colophonlaw16.TallyDocs, over what package tally answers (TalI). -/
import Derived.Test.YtoeamldadclodaaTalParts
namespace Go.Proofs.Ytoeamldadclodaa
open Go.RowKit
section
variable {At : Nat → World → Value → Nat → (Nat → Int) → (Nat → Int) → Prop}

set_option maxRecDepth 100000 in
set_option maxHeartbeats 3200000 in
theorem tlDocs_walk (I : TalI At) (P : Option Addr) (c : Nat) (L : List Part) (A : Option Addr) (m ca : Nat) (X : Nat → Nat) (w : World) (hl : L.length ≤ c) (hcm : c ≤ maxLen) (ho : Secs w w.heap.size P L) (hm : m ≤ maxLen) (hp : Bys w w.heap.size A m X) :
    Calls Try.prog 4 #[.slice P L.length c, .slice A m ca] w fun e w' => e = .returned (.bool true) ∧ Below w.heap.size w w' := by
  have HI := Lib.hid I
  obtain ⟨lo, hlo⟩ : ∃ lo, w.heap.size = lo := ⟨_, rfl⟩
  have HF := Lib.hid (tlfirst_any I w)
  have HSm : Hid (∀ W, Below lo w W → Hid (Calls Try.prog 12 #[.slice P L.length c, .int .i64 250, .int .i64 60] W fun e w' => e = .returned (.bool (decide (L.length ≤ 60 ∧ bytesT (docsP L) ≤ 250))) ∧ W = w')) := Lib.hid fun W hW => Lib.hid (refSmall_any P c L w.heap.size 250 60 W (by omega) (by decide) (by decide) (ho.below (by rw [hlo]; exact hW)))
  have HPt : Hid (∀ W, Below lo w W → L.length ≤ 4000 → lenT (docsP L) ≤ 100000 → Hid (Calls Try.prog 13 #[.slice P L.length c] W (PartsPost W (docsP L) (lenT (docsP L))))) := Lib.hid fun W hW h1 h2 => Lib.hid (parts16_any P c L W h1 h2 ((ho.below (by rw [hlo]; exact hW)).mono_ (by have := hW.size; omega)))
  have HSy : Hid (∀ W, Below lo w W → L.length ≤ 4000 → lenT (docsP L) ≤ 4000000 → Hid (Calls Try.prog 15 #[.slice P L.length c] W fun e w' => ∃ v, e = .returned v ∧ w'.ownsRow W.heap.size 3 1 v (lenT (docsP L)) (icells (symI (docsP L)) (lenT (docsP L))) ∧ Below W.heap.size W w')) := Lib.hid fun W hW h1 h2 => Lib.hid (refSymbols_any P c L W h1 h2 ((ho.below (by rw [hlo]; exact hW)).mono_ (by have := hW.size; omega)))
  have hSs : ∀ x ∈ docsP L, ∀ j, j < x.n → x.V j < 256 := fun x hx j hj => by
    unfold docsP at hx
    obtain ⟨p, hp, rfl⟩ := List.mem_map.1 hx
    obtain ⟨q, hq⟩ := List.getElem?_of_mem hp
    obtain ⟨_, _, _, _, _, _, _, hb⟩ := ho q p hq
    exact (hb j hj).elim fun _ h => h.2.2.2
  obtain ⟨k, hk⟩ : ∃ k, L.length = k := ⟨_, rfl⟩
  have hSk : (docsP L).length = k := by rw [docsP_length, hk]
  have hlen := lenT_is (docsP L)
  rw [hSk] at hlen
  have hkm : k ≤ 9223372036854775807 := by unfold maxLen at hcm; omega
  have hmm : m ≤ 9223372036854775807 := by unfold maxLen at hm; omega
  rw [hk] at HSm HPt HSy ⊢
  generalize docsP L = S at HSm HPt HSy hlen hSs hSk
  have HSs := Lib.hid hSs
  have HP := Lib.hid hp
  have HLen := Lib.hid hlen
  have HSk := Lib.hid hSk
  rw [hlo] at HP ⊢
  clear I ho hp hl hcm hm hSs hk hlen hSk
  obtain ⟨r, hr⟩ : ∃ r : Bool, r = decide (k ≤ 60 ∧ bytesT S ≤ 250) := ⟨_, rfl⟩
  rw [← hr] at HSm
  have HR := Lib.hid hr
  clear hr
  go_enter Try.func4, Try.ntmps4
  go_wp2_with fail
  refine HF.out.mono ?_
  rintro e w0 ⟨rfl, hb0⟩
  have HB0 : Hid (Below lo w w0) := Lib.hid (by rw [← hlo]; exact hb0)
  have HSm0 := Lib.hid (HSm.out w0 HB0.out).out
  clear HF HSm hb0
  rcases r with _ | _
  · go_wp2_with (go_at_call 12; (with_reducible refine HSm0.out.mono ?_); rintro e w' ⟨rfl, rfl⟩)
    go_ret
    exact ⟨rfl, HB0.out⟩
  by_cases hm0 : m = 0
  · subst hm0
    have q0 : (((0 : Nat) : Int) == 0) = true := by decide
    go_wp2_with (go_at_call 12; (with_reducible refine HSm0.out.mono ?_); rintro e w' ⟨rfl, rfl⟩)
    go_ret
    exact ⟨rfl, HB0.out⟩
  have q0 : ((m : Int) == 0) = false := by rw [beq_eq_false_iff_ne]; omega
  by_cases hm60 : 60 < m
  · have q1 : decide ((60 : Int) < (m : Int)) = true := decide_eq_true (by omega)
    go_wp2_with (go_at_call 12; (with_reducible refine HSm0.out.mono ?_); rintro e w' ⟨rfl, rfl⟩)
    go_ret
    exact ⟨rfl, HB0.out⟩
  have q1 : decide ((60 : Int) < (m : Int)) = false := decide_eq_false (by omega)
  have q1' : decide (60 < m) = false := decide_eq_false (by omega)
  obtain ⟨hk60, hby⟩ := of_decide_eq_true HR.out.symm
  have hN310 : lenT S ≤ 310 := by have := HLen.out; omega
  have HPt0 := (HPt.out w0 HB0.out (by omega) (by omega)).out
  have HSy0 := Lib.hid (fun W hW => (HSy.out W hW (by omega) (by omega)).out)
  obtain ⟨N, hN⟩ : ∃ N, lenT S = N := ⟨_, rfl⟩
  rw [hN] at HPt0 HSy0 hN310
  have HNl := Lib.hid hN
  unfold PartsPost at HPt0
  have HPt0 := Lib.hid HPt0
  clear HPt HSy HR hN hby
  go_wp2_with (first
    | (go_at_call 12; (with_reducible refine HSm0.out.mono ?_); rintro e w' ⟨rfl, rfl⟩)
    | (go_at_call 13; (with_reducible refine HPt0.out.mono ?_); rintro e w1 ⟨A1, A2, A3, c1, c2, c3, s, rfl, hsa, hI1, hI2, hI3, hb1⟩; have HI1 := Lib.hid hI1; have HI2 := Lib.hid hI2; have HI3 := Lib.hid hI3; have HSA := Lib.hid hsa; have HB1 := Lib.hid (below_up hlo HB0.out hb1); have HN := Lib.hid (HI.out.new A1 N c1 _ A2 N c2 _ w1 (by omega) (by omega) hI1 hI2); clear hI1 hI2 hI3 hsa hb1)
    | (go_at_call 8; (with_reducible refine HN.out.mono ?_); rintro e w2 ⟨h1, _, hb2⟩; obtain ⟨v, rfl, hAt⟩ := h1 (by trivial); obtain ⟨pa, rfl⟩ := HI.out.ptr hAt; have HA2 := Lib.hid hAt; have HB2 := Lib.hid (below_up hlo HB1.out hb2); have HI1b := Lib.hid (HI1.out.below hb2); have HI3b := Lib.hid (HI3.out.below hb2); clear h1 hAt hb2))
  clear HSm0 HPt0 HN HI1 HI2 HI3 HB1 HB0
  have H0 : Hid (w2.ownsRow w2.heap.size 3 1 (.slice none 0 0) 0 (icells (fun j => ((X j : Nat) : Int) + (k : Int)) 0)) := Lib.hid (World.ownsRow_nil _ _ _ _)
  go_loopw [10, 44] (fun o v wr => ∃ i : Nat, i ≤ m ∧ v = .int .i64 (i : Int) ∧ Hid (wr.ownsRow w2.heap.size 3 1 o i (icells (fun j => ((X j : Nat) : Int) + (k : Int)) i)) ∧ Hid (Below w2.heap.size w2 wr)) (fun _ v _ => m - (intOf v).toNat)
  case atStart => exact ⟨0, Nat.zero_le _, rfl, H0, Lib.hid (Below.refl _ _)⟩
  case round =>
    clear H0
    obtain ⟨i, hi, rfl, hrow, hb⟩ := hrel
    have hbs := hb.out.size
    have HBr := Lib.hid (below_up hlo HB2.out hb.out)
    by_cases hlt : i < m
    · have hlti : (i : Int) < (m : Int) := by omega
      obtain ⟨ad, rfl, _, cx, hx⟩ := HP.out.below HBr.out i hlt
      have hi4 : i ≤ 4194304 := by omega
      obtain ⟨y, hy⟩ : ∃ y, X i = y := ⟨_, rfl⟩
      rw [hy] at cx hx
      have HY := Lib.hid hy
      have e1 : IntKind.i64.wrap (y : Int) = (y : Int) := IntWalk.i64_in _ (by omega)
      have e2 : IntKind.i64.wrap ((y : Int) + (k : Int)) = (y : Int) + (k : Int) := IntWalk.i64_in _ (by omega)
      clear hy
      go_wp2_with (at_builtin; refine step_append_int rfl (.tmp 48) (.tmp 54) rfl rfl hrow.out _ rfl hbs hi4 ?_; intro v4 w4 hown4 hb4)
      go_roundw
      case rel => exact ⟨i + 1, by omega, by go_num, Lib.hid (by
        rw [icells_snoc, HY.out]
        exact hown4.out), Lib.hid (hb.out.trans hb4)⟩
      case measure => simp [intOf]; omega
    · obtain rfl : i = m := by omega
      have hge : ¬ (i : Int) < (i : Int) := by omega
      obtain ⟨Ap, cp, e10, hIp⟩ := ItsR.of_own hrow.out (fun j hj => by
        obtain ⟨_, _, _, _, h⟩ := HP.out j hj
        show -9223372036854775808 ≤ ((X j : Nat) : Int) + (k : Int) ∧ ((X j : Nat) : Int) + (k : Int) ≤ 9223372036854775807
        omega)
      subst e10
      have HIp := Lib.hid hIp
      have HI1c := Lib.hid (HI1b.out.below hb.out)
      have HI3c := Lib.hid (HI3b.out.below hb.out)
      have HAc := Lib.hid (HI.out.keep HA2.out hb.out)
      have HSyc := Lib.hid (HSy0.out wr HBr.out)
      clear hrow hIp hb HI1b HI3b HA2 HSy0 HB2 HP
      go_wp2_with fail
      refine HSyc.out.mono ?_
      rintro e w5 ⟨u, rfl, hu, hb5⟩
      obtain ⟨As, cs, rfl, hIs⟩ := ItsR.of_own hu (fun j hj => by
        have h := sym_lt HSs.out (p := j) (by rw [HNl.out]; exact hj)
        rw [HSk.out] at h
        unfold symI
        omega)
      have HB5 := Lib.hid (below_up hlo HBr.out hb5)
      have HI1d := Lib.hid (HI1c.out.below hb5)
      have HI3d := HI3c.out.below hb5
      have HAd := Lib.hid (HI.out.keep HAc.out hb5)
      have HRg := refRange15_any As A3 Ap N cs N c3 i cp (symI S) _ s w5 (by omega) (by omega) (by unfold maxLen; omega) (fun j hj => Nat.le_of_lt (HSA.out.1 j hj)) hIs.2.2.2 HI3d.2.2.2 (HIp.out.below hb5).2.2.2
      have hrl := rngF_le (fun q => stB (symI S) N (fun j => ((X j : Nat) : Int) + (k : Int)) i (s q)) N
      have htd := tally_docs HSA.out (D := docAt S (natI s)) (P := fun j => ((X j : Nat) : Int) + (k : Int)) (m := i) (by omega)
      generalize (rngF (fun q => stB (symI S) N (fun j => ((X j : Nat) : Int) + (k : Int)) i (s q)) N).1 = a at HRg hrl htd
      generalize (rngF (fun q => stB (symI S) N (fun j => ((X j : Nat) : Int) + (k : Int)) i (s q)) N).2 = b at HRg hrl htd
      have HTd : Hid (docsI (docAt S (natI s)) (lcpI (symI S) N (natI s)) N (a : Int) (b : Int) = ((unlT (docAt S (natI s)) a b N : Nat) : Int)) := Lib.hid htd
      have HRg := Lib.hid HRg
      clear hu hb5 hIs HI1c HI3c HI3d HAc HIp HSyc HBr htd
      go_wp2_with fail
      refine HRg.out.mono ?_
      rintro e w6 ⟨rfl, hb6⟩
      have HB6 := Lib.hid (below_up hlo HB5.out hb6)
      have HI1e := Lib.hid (HI1d.out.below hb6)
      have H1 := HI.out.docs _ _ _ _ _ (a : Int) (b : Int) w6 (WalkArith.wf_i64 (by omega)) (WalkArith.wf_i64 (by omega)) (HI.out.keep HAd.out hb6)
      rw [HTd.out] at H1
      have hul := unlT_le (docAt S (natI s)) a b N
      have H1 := Lib.hid H1
      clear hb6 HRg HI1d HAd HB5 HTd
      go_wp2_with fail
      refine H1.out.mono ?_
      rintro e w7 ⟨rfl, hb7⟩
      have HB7 := Lib.hid (below_up hlo HB6.out hb7)
      have H2 := refUnlike_any A1 N c1 (docAt S (natI s)) a b w7.heap.size w7 (by omega) hrl.1 hrl.2 (HI1e.out.below hb7).2.2.2
      generalize unlT (docAt S (natI s)) a b N = z at H2 hul
      have q2 : ((z : Int) == (z : Int)) = true := by rw [beq_iff_eq]
      have H2 := Lib.hid H2
      clear hb7 H1 HB6 HI1e
      go_wp2_with fail
      refine H2.out.mono ?_
      rintro e w8 ⟨rfl, t8, rfl⟩
      go_wp2_with fail
      go_ret
      exact ⟨rfl, below_drewN' HB7.out _⟩
end
end Go.Proofs.Ytoeamldadclodaa
