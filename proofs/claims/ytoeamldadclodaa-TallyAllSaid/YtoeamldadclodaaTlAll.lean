/- The walk of colophonlaw16.TallyAll, over what package tally answers (TalI). -/
import Derived.Test.YtoeamldadclodaaTalParts
import Derived.Test.YtoeamldadclodaaListR
namespace Go.Proofs.Ytoeamldadclodaa
open Go.RowKit
theorem bys_shift {w : World} {B n m e : Nat} {ad : Addr} {V : Nat → Nat} (h : Bys w B (some ad) n V) (he : m + e ≤ n) : Bys w B (some (ad.add m)) e (fun k => V (m + k)) := fun k hk => by
  obtain ⟨ad', e1, hb, hc, hv⟩ := h (m + k) (by omega)
  cases e1
  refine ⟨ad.add m, rfl, by rw [add_block]; exact hb, ?_, hv⟩
  rw [Addr.add_add]
  exact hc
theorem bytesT_mem16 : ∀ {S : List Sec} {x : Sec}, x ∈ S → x.n ≤ bytesT S
  | [], x, h => by cases h
  | y :: S, x, h => by
    have e : bytesT (y :: S) = y.n + bytesT S := by unfold bytesT; simp
    rcases List.mem_cons.1 h with rfl | h
    · omega
    · have := bytesT_mem16 h
      omega
section
variable {At : Nat → World → Value → Nat → (Nat → Int) → (Nat → Int) → Prop}

set_option maxRecDepth 100000 in
set_option maxHeartbeats 3200000 in
theorem tlAll_walk (I : TalI At) (P : Option Addr) (c : Nat) (L : List Part) (most : Int) (w : World) (hl : L.length ≤ c) (hcm : c ≤ maxLen) (ho : Secs w w.heap.size P L) :
    Calls Try.prog 5 #[.slice P L.length c, .int .i64 most] w fun e w' => e = .returned (.bool true) ∧ Below w.heap.size w w' := by
  have HI := Lib.hid I
  obtain ⟨lo, hlo⟩ : ∃ lo, w.heap.size = lo := ⟨_, rfl⟩
  have HF := Lib.hid (tlfirst_any I w)
  have HSm : Hid (∀ W, Below lo w W → Hid (Calls Try.prog 12 #[.slice P L.length c, .int .i64 80, .int .i64 12] W fun e w' => e = .returned (.bool (decide (L.length ≤ 12 ∧ bytesT (docsP L) ≤ 80))) ∧ W = w')) := Lib.hid fun W hW => Lib.hid (refSmall_any P c L w.heap.size 80 12 W (by omega) (by decide) (by decide) (ho.below (by rw [hlo]; exact hW)))
  have HPt : Hid (∀ W, Below lo w W → L.length ≤ 4000 → lenT (docsP L) ≤ 100000 → Hid (Calls Try.prog 13 #[.slice P L.length c] W (PartsPost W (docsP L) (lenT (docsP L))))) := Lib.hid fun W hW h1 h2 => Lib.hid (parts16_any P c L W h1 h2 ((ho.below (by rw [hlo]; exact hW)).mono_ (by have := hW.size; omega)))
  have HSy : Hid (∀ W, Below lo w W → L.length ≤ 4000 → lenT (docsP L) ≤ 4000000 → Hid (Calls Try.prog 15 #[.slice P L.length c] W fun e w' => ∃ v, e = .returned v ∧ w'.ownsRow W.heap.size 3 1 v (lenT (docsP L)) (icells (symI (docsP L)) (lenT (docsP L))) ∧ Below W.heap.size W w')) := Lib.hid fun W hW h1 h2 => Lib.hid (refSymbols_any P c L W h1 h2 ((ho.below (by rw [hlo]; exact hW)).mono_ (by have := hW.size; omega)))
  have hSs : ∀ x ∈ docsP L, ∀ j, j < x.n → x.V j < 256 := fun x hx j hj => by
    unfold docsP at hx
    obtain ⟨p, hp, rfl⟩ := List.mem_map.1 hx
    obtain ⟨q, hq⟩ := List.getElem?_of_mem hp
    obtain ⟨_, _, _, _, _, _, _, hb⟩ := ho q p hq
    exact (hb j hj).elim fun _ h => h.2.2.2
  have HO : Hid (∀ W, Below lo w W → Secs W lo P L) := Lib.hid fun W hW => by rw [← hlo]; exact ho.below (by rw [hlo]; exact hW)
  obtain ⟨kk, hkk, hkk5⟩ := turn_w most 5 (by decide) (by decide)
  have hkk3 : wrap64 ((IntKind.u64.wrap most).tmod 5) = (kk : Int) := hkk
  have HKK := Lib.hid hkk3
  have hkk4 : IntKind.i64.wrap (1 + (kk : Int)) = 1 + (kk : Int) := IntWalk.i64_in _ (by omega)
  obtain ⟨k, hk⟩ : ∃ k, L.length = k := ⟨_, rfl⟩
  have HLk := Lib.hid hk
  have hSk : (docsP L).length = k := by rw [docsP_length, hk]
  have hlen := lenT_is (docsP L)
  rw [hSk] at hlen
  have hkm : k ≤ 9223372036854775807 := by unfold maxLen at hcm; omega
  have HBy : Hid (∀ (i : Nat) (p : Part), L[i]? = some p → p.n ≤ bytesT (docsP L)) := Lib.hid fun i p hp => by
    have h1 := bytesT_mem16 (List.mem_of_getElem? (docsP_at hp))
    exact h1
  rw [hk] at HSm HPt HSy ⊢
  generalize docsP L = S at HSm HPt HSy hlen hSs hSk HBy
  have HSs := Lib.hid hSs
  have HLen := Lib.hid hlen
  have HSk := Lib.hid hSk
  rw [hlo]
  clear I ho hl hcm hSs hk hlen hSk hkk
  obtain ⟨r, hr⟩ : ∃ r : Bool, r = decide (k ≤ 12 ∧ bytesT S ≤ 80) := ⟨_, rfl⟩
  rw [← hr] at HSm
  have HR := Lib.hid hr
  clear hr
  go_enter Try.func5, Try.ntmps5
  go_wp2_with fail
  refine HF.out.mono ?_
  rintro e w0 ⟨rfl, hb0⟩
  have HB0 : Hid (Below lo w w0) := Lib.hid (by rw [← hlo]; exact hb0)
  have HSm0 := Lib.hid (HSm.out w0 HB0.out).out
  clear HF HSm hb0
  rcases r with _ | _
  · go_wp2_with (go_at_call 12; (with_reducible refine HSm0.out.mono ?_); rintro e w' ⟨rfl, rfl⟩)
    go_ret
    exact ⟨rfl, HB0.out⟩
  obtain ⟨hk60, hby⟩ := of_decide_eq_true HR.out.symm
  have hN92 : lenT S ≤ 92 := by have := HLen.out; omega
  have HPt0 := (HPt.out w0 HB0.out (by omega) (by omega)).out
  have HSy0 := Lib.hid (fun W hW => (HSy.out W hW (by omega) (by omega)).out)
  have HBy80 : Hid (∀ (i : Nat) (p : Part), L[i]? = some p → p.n ≤ 80) := Lib.hid fun i p hp => Nat.le_trans (HBy.out i p hp) hby
  obtain ⟨N, hN⟩ : ∃ N, lenT S = N := ⟨_, rfl⟩
  rw [hN] at HPt0 HSy0 hN92
  have HNl := Lib.hid hN
  unfold PartsPost at HPt0
  have HPt0 := Lib.hid HPt0
  clear HPt HSy HR hN hby HBy
  go_wp2_with (first
    | (go_at_call 12; (with_reducible refine HSm0.out.mono ?_); rintro e w' ⟨rfl, rfl⟩)
    | (go_at_call 13; (with_reducible refine HPt0.out.mono ?_); rintro e w1 ⟨A1, A2, A3, c1, c2, c3, s, rfl, hsa, hI1, hI2, hI3, hb1⟩; have HI1 := Lib.hid hI1; have HI2 := Lib.hid hI2; have HI3 := Lib.hid hI3; have HSA := Lib.hid hsa; have HB1 := Lib.hid (below_up hlo HB0.out hb1); have HN := Lib.hid (HI.out.new A1 N c1 _ A2 N c2 _ w1 (by omega) (by omega) hI1 hI2); clear hI1 hI2 hI3 hsa hb1)
    | (go_at_call 8; (with_reducible refine HN.out.mono ?_); rintro e w2 ⟨h1, _, hb2⟩; obtain ⟨v, rfl, hAt⟩ := h1 (by trivial); obtain ⟨pa, rfl⟩ := HI.out.ptr hAt; have HA2 := Lib.hid hAt; have HB2 := Lib.hid (below_up hlo HB1.out hb2); have HI1b := Lib.hid (HI1.out.below hb2); have HI3b := Lib.hid (HI3.out.below hb2); have HSyc := Lib.hid (HSy0.out w2 HB2.out); clear h1 hAt hb2)
    | (go_at_call 15; (with_reducible refine HSyc.out.mono ?_); rintro e w5 ⟨u, rfl, hu, hb5⟩))
  obtain ⟨As, cs, rfl, hIs⟩ := ItsR.of_own hu (fun j hj => by
    have h := sym_lt HSs.out (p := j) (by rw [HNl.out]; exact hj)
    rw [HSk.out] at h
    unfold symI
    omega)
  have HIs := Lib.hid hIs
  have HB5 := Lib.hid (below_up hlo HB2.out hb5)
  have HI1d := Lib.hid (HI1b.out.below hb5)
  have HI3d := Lib.hid (HI3b.out.below hb5)
  have HA5 := Lib.hid (HI.out.keep HA2.out hb5)
  clear hu hb5 hIs HI1b HI3b HA2 HSyc HSy0 HB2 HSm0 HPt0 HN HI1 HI2 HI3 HB1 HB0
  go_wp2_with fail
  rw [HKK.out]
  clear hkk3
  go_loopw [47] (fun v wr => ∃ i : Nat, i ≤ k ∧ v = .int .i64 (i : Int) ∧ Hid (Below w5.heap.size w5 wr)) (fun v _ => k - (intOf v).toNat)
  case atStart => exact ⟨0, Nat.zero_le _, rfl, Lib.hid (Below.refl _ _)⟩
  case round =>
    obtain ⟨i, hi, rfl, hb⟩ := hrel
    rename World => wl
    by_cases hlt : i < k
    · have hlti : (i : Int) < (k : Int) := by omega
      obtain ⟨p, hp⟩ : ∃ p, L[i]? = some p := ⟨_, List.getElem?_eq_getElem (by rw [HLk.out]; exact hlt)⟩
      obtain ⟨ad, rfl, _, cp, hpc, hpm, hpA, _⟩ := HO.out wl (below_up hlo HB5.out hb.out) i p hp
      have HPb : Hid (∀ W, Below lo w W → Bys W lo p.A p.n p.V) := Lib.hid fun W hW => by
        obtain ⟨_, _, _, _, _, _, _, h⟩ := HO.out W hW i p hp
        exact h
      have hp80 := HBy80.out i p hp
      have hpm' : p.c ≤ 9223372036854775807 := by unfold maxLen at hpm; omega
      clear hp hpA hpm
      obtain ⟨A, z, cz, X⟩ := p
      have cp : wl.cell? (ad.add i) = some (.slice A z cz) := cp
      have hp80 : z ≤ 80 := hp80
      have hpc : z ≤ cz := hpc
      have hpm' : cz ≤ 9223372036854775807 := hpm'
      have HPb : Hid (∀ W, Below lo w W → Bys W lo A z X) := HPb
      go_wp2_with fail
      go_loopw [14] (fun v wr => ∃ q : Nat, q ≤ z + 1 ∧ v = .int .i64 (q : Int) ∧ Hid (Below w5.heap.size w5 wr)) (fun v _ => z + 1 - (intOf v).toNat)
      case atStart => exact ⟨0, Nat.zero_le _, rfl, hb⟩
      case round =>
        clear hb
        obtain ⟨q, hq, rfl, hb⟩ := hrel
        rename World => wm
        have e1 : IntKind.i64.wrap ((q : Int) + (1 + (kk : Int))) = ((q + (1 + kk) : Nat) : Int) := by rw [IntWalk.i64_in _ (by omega)]; omega
        by_cases hfit : q + (1 + kk) ≤ z
        · have d0 : decide (((q + (1 + kk) : Nat) : Int) ≤ (z : Int)) = true := decide_eq_true (by omega)
          have hBm := below_up hlo HB5.out hb.out
          have hbys := HPb.out wm hBm
          obtain ⟨ac, hA, _⟩ := hbys q (by omega)
          subst hA
          have HPc : Hid (∀ W, Below lo w W → Bys W lo (some (ac.add q)) (1 + kk) (fun j => X (q + j))) := Lib.hid fun W hW => bys_shift (HPb.out W hW) hfit
          have hqc : ¬ cz = q := by omega
          have hqcI : ¬ (cz : Int) = (q : Int) := by omega
          have hs1 : q + (1 + kk) - q = 1 + kk := by omega
          have H0 : Hid (wm.ownsRow wm.heap.size 3 1 (.slice none 0 0) 0 (icells (fun j => ((X (q + j) : Nat) : Int) + (k : Int)) 0)) := Lib.hid (World.ownsRow_nil _ _ _ _)
          have HBm := Lib.hid hBm
          obtain ⟨f, hf⟩ : ∃ f, q + (1 + kk) = f := ⟨_, rfl⟩
          have hfq : f - q = 1 + kk := by omega
          have hqf : q ≤ f := by omega
          have hfz : f ≤ z := by omega
          have hfqI : (q : Int) ≤ (f : Int) := by omega
          rw [hf] at e1 d0
          have HFq := Lib.hid hf
          clear hbys hBm hs1 hfit hf
          go_wp2_with fail
          go_loopw [15, 66] (fun o v wr => ∃ j : Nat, j ≤ 1 + kk ∧ v = .int .i64 (j : Int) ∧ Hid (wr.ownsRow wm.heap.size 3 1 o j (icells (fun t => ((X (q + t) : Nat) : Int) + (k : Int)) j)) ∧ Hid (Below wm.heap.size wm wr)) (fun _ v _ => 1 + kk - (intOf v).toNat)
          case atStart => exact ⟨0, Nat.zero_le _, rfl, H0, Lib.hid (Below.refl _ _)⟩
          case round =>
            clear H0
            obtain ⟨j, hj, rfl, hrow, hbj⟩ := hrel
            have hbs := hbj.out.size
            have HBr := Lib.hid (below_up hlo HBm.out hbj.out)
            by_cases hlt3 : j < 1 + kk
            · have hlti : (j : Int) < 1 + (kk : Int) := by omega
              obtain ⟨ad2, e2, _, cx, hx⟩ := HPc.out wr HBr.out j hlt3
              cases e2
              have hj4 : j ≤ 4194304 := by omega
              replace cx : wr.cell? ((ac.add q).add j) = some (.int .u8 (X (q + j) : Int)) := cx
              replace hx : X (q + j) < 256 := hx
              obtain ⟨y, hy⟩ : ∃ y, X (q + j) = y := ⟨_, rfl⟩
              rw [hy] at cx hx
              have HY := Lib.hid hy
              have e3 : IntKind.i64.wrap (y : Int) = (y : Int) := IntWalk.i64_in _ (by omega)
              have e4 : IntKind.i64.wrap ((y : Int) + (k : Int)) = (y : Int) + (k : Int) := IntWalk.i64_in _ (by omega)
              clear hy
              go_wp2_with (at_builtin; refine step_append_int rfl (.tmp 70) (.tmp 76) rfl rfl hrow.out _ rfl hbs hj4 ?_; intro v4 w4 hown4 hb4)
              go_roundw
              case rel => exact ⟨j + 1, by omega, by go_num, Lib.hid (by
                rw [icells_snoc, HY.out]
                exact hown4.out), Lib.hid (hbj.out.trans hb4)⟩
              case measure => simp [intOf]; omega
            · have hje : j = 1 + kk := by omega
              have HJ := Lib.hid hje
              have hge : ¬ (j : Int) < 1 + (kk : Int) := by omega
              have hj5 : 0 < j ∧ j ≤ 5 := by omega
              clear hje hj hlt3
              obtain ⟨Ap, cp, e10, hIp⟩ := ItsR.of_own hrow.out (fun t ht => by
                obtain ⟨_, _, _, _, h⟩ := (HPc.out wm HBm.out) t (by have := HJ.out; omega)
                have h : X (q + t) < 256 := h
                show -9223372036854775808 ≤ ((X (q + t) : Nat) : Int) + (k : Int) ∧ ((X (q + t) : Nat) : Int) + (k : Int) ≤ 9223372036854775807
                omega)
              subst e10
              have HIp := Lib.hid hIp
              have HQr := Lib.hid (below_up rfl hb.out hbj.out)
              have HI1e := Lib.hid (HI1d.out.below HQr.out)
              have HI3e := HI3d.out.below HQr.out
              have HRg := refRange15_any As A3 Ap N cs N c3 j cp (symI S) _ s wr (by omega) (by omega) (by unfold maxLen; omega) (fun t ht => Nat.le_of_lt (HSA.out.1 t ht)) (HIs.out.below HQr.out).2.2.2 HI3e.2.2.2 HIp.out.2.2.2
              have hrl := rngF_le (fun x => stB (symI S) N (fun t => ((X (q + t) : Nat) : Int) + (k : Int)) j (s x)) N
              have htd := tally_docs HSA.out (D := docAt S (natI s)) (P := fun t => ((X (q + t) : Nat) : Int) + (k : Int)) (m := j) (by omega)
              generalize (rngF (fun x => stB (symI S) N (fun t => ((X (q + t) : Nat) : Int) + (k : Int)) j (s x)) N).1 = a at HRg hrl htd
              generalize (rngF (fun x => stB (symI S) N (fun t => ((X (q + t) : Nat) : Int) + (k : Int)) j (s x)) N).2 = b at HRg hrl htd
              have HTd : Hid (docsI (docAt S (natI s)) (lcpI (symI S) N (natI s)) N (a : Int) (b : Int) = ((unlT (docAt S (natI s)) a b N : Nat) : Int)) := Lib.hid htd
              have HRg := Lib.hid HRg
              clear hrow hIp HIp htd HI3e
              go_wp2_with fail
              refine HRg.out.mono ?_
              rintro e w6 ⟨rfl, hb6⟩
              have HQ6 := Lib.hid (below_up rfl HQr.out hb6)
              have H1 := HI.out.docs _ _ _ _ _ (a : Int) (b : Int) w6 (WalkArith.wf_i64 (by omega)) (WalkArith.wf_i64 (by omega)) (HI.out.keep HA5.out HQ6.out)
              rw [HTd.out] at H1
              have hul := unlT_le (docAt S (natI s)) a b N
              have H1 := Lib.hid H1
              clear hb6 HRg HTd HQr
              go_wp2_with fail
              refine H1.out.mono ?_
              rintro e w7 ⟨rfl, hb7⟩
              have HQ7 := Lib.hid (below_up rfl HQ6.out hb7)
              have H2 := refUnlike_any A1 N c1 (docAt S (natI s)) a b w7.heap.size w7 (by omega) hrl.1 hrl.2 ((HI1d.out.below HQ7.out).below (Below.refl _ _)).2.2.2
              generalize unlT (docAt S (natI s)) a b N = g at H2 hul
              have q2 : ((g : Int) == (g : Int)) = true := by rw [beq_iff_eq]
              have H2 := Lib.hid H2
              clear hb7 H1 HQ6 HI1e
              go_wp2_with fail
              refine H2.out.mono ?_
              rintro e w8 ⟨rfl, t8, rfl⟩
              go_wp2_with fail
              go_roundw
              case rel => exact ⟨q + 1, by have := HFq.out; omega, by go_num, Lib.hid (below_drewN' HQ7.out _)⟩
              case measure => simp [intOf]; have := HFq.out; omega
        · have d0 : decide (((q + (1 + kk) : Nat) : Int) ≤ (z : Int)) = false := decide_eq_false (by omega)
          go_wp2_with fail
          go_roundw
          case rel => exact ⟨i + 1, by omega, by go_num, hb⟩
          case measure => simp [intOf]; omega
    · have hie : ¬ (i : Int) < (k : Int) := by omega
      have HBe := Lib.hid (below_up hlo HB5.out hb.out)
      have H3 := HI.out.nilDocs 0 1 wl
      have H3 := Lib.hid H3
      go_wp2_with fail
      refine H3.out.mono ?_
      rintro e w9 ⟨rfl, hb9⟩
      have HB9 := Lib.hid (below_up hlo HBe.out hb9)
      have H4 := HI.out.nilDoubles 0 w9
      have H4 := Lib.hid H4
      clear hb9 H3
      go_wp2_with fail
      refine H4.out.mono ?_
      rintro e w10 ⟨rfl, hb10⟩
      have HB10 := Lib.hid (below_up hlo HB9.out hb10)
      go_wp2_with fail
      go_ret
      exact ⟨rfl, HB10.out⟩
end
end Go.Proofs.Ytoeamldadclodaa
