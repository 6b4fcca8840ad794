/- For every input colophonlaw04.CrcCuts returns true, and its argument reads as it read. No condition but that the two tables lie as the program's text lays them (the card ties it). -/
import Derived.Test.YtfpmipfegjchmaaDoorCrcLaw
import Derived.Deep.RegionHeld3
import Derived.Deep.CutBlock
import Derived.Deep.DeepCutAuto
namespace Go.Proofs.YtfpmipfegjchmaaDoor.crcCuts
open Go.ChangeShapes Go.WideShapes Go.ChangeAt Go.RowKit

theorem bstr_ends {V : Nat → Nat} {m : Nat} (hV : ∀ k, k < m + 4 → V k < 256) : bstr (behind V m) (m + 4) = bstr V (m + 4) ↔ Pl.Ends V m := by
  constructor
  · intro h i hi
    have e := (bstr_same (fun k _ => behind_lt (fun k hk => hV k (by omega)) k) hV h).2 (m + i) (by omega)
    rw [behind_new] at e
    exact e.symm
  · intro h
    refine bstr_congr fun k hk => ?_
    by_cases hkm : k < m
    · exact behind_old V m k hkm
    · have e := behind_new V m (k - m)
      rw [show m + (k - m) = k by omega] at e
      have e2 := h (k - m) (by omega)
      rw [show m + (k - m) = k by omega] at e2
      rw [e, e2]
      rfl

set_option maxRecDepth 100000 in
set_option maxHeartbeats 3200000 in
theorem walk (A : Option Addr) (n c : Nat) (V : Nat → Nat) (w : World) (_hcm : c ≤ maxLen) (hA : A = none → n = 0 ∧ c = 0) (hc : n ≤ c) (ho : Bys w w.heap.size A n V) (ht : Tabs w) :
    Calls Tryd.prog 4 #[.slice A n c] w fun e w' => e = .returned (.bool true) ∧ Below w.heap.size w w' := by
  have HT := Lib.hid ht
  have HO := Lib.hid ho
  have HF := Lib.hid (cfirst_any w ht)
  by_cases hbig : 4000 < n
  · have hd : decide ((4000 : Int) < (n : Int)) = true := by simp; omega
    clear ho ht
    go_enter Tryd.func4, Tryd.ntmps4
    go_wp2_with fail
    refine HF.out.mono ?_
    rintro e w0 ⟨rfl, hb0⟩
    go_wp2_with fail
    go_ret
    exact ⟨rfl, hb0⟩
  have hd : decide ((4000 : Int) < (n : Int)) = false := by simp; omega
  have HC : ∀ W, Below w.heap.size w W → Hid (Calls Tryd.prog 13 #[.slice A n c] W (CutPost W n V)) := fun W hW =>
    Lib.hid (cut_any A n c V W (by omega) hA hc ((HO.out.below hW).mono_ hW.size) (HT.out.keep hW))
  by_cases hshort : n < 4
  · have hd4 : decide ((n : Int) < 4) = true := by simp; omega
    clear ho ht
    go_enter Tryd.func4, Tryd.ntmps4
    go_wp2_with fail
    refine HF.out.mono ?_
    rintro e w0 ⟨rfl, hb0⟩
    have HC1 := HC w0 hb0
    go_wp2_with fail
    refine HC1.out.mono ?_
    rintro e w1 ⟨h1, _, _, hb1⟩
    obtain rfl := h1 hshort
    clear h1
    go_wp2_with fail
    go_ret
    exact ⟨rfl, hb0.trans (hb1.mono hb0.size)⟩
  · obtain ⟨ad, rfl, _⟩ := ho 0 (by omega)
    obtain ⟨m, hm⟩ : ∃ m, n = m + 4 := ⟨n - 4, by omega⟩
    have hd4 : decide ((n : Int) < 4) = false := by simp; omega
    have hmn : (n : Int) - 4 = (m : Int) := by omega
    have hmc : (m : Int) ≤ (c : Int) := by omega
    have hwm : IntKind.i64.wrap (m : Int) = (m : Int) := IntWalk.i64_in _ (by omega)
    have HM := Lib.hid hm
    have hV := ho.lt
    have HR : ∀ W, Below w.heap.size w W → Hid (Calls Tryd.prog 12 #[.slice (some ad) m c] W (PutPost W m V)) := fun W hW =>
      Lib.hid (refPut_any (some ad) m c V W (by omega) (fun e => by cases e) (((HO.out.below hW).mono_ hW.size).take (by omega)))
    have hV2 : ∀ k, k < m + 4 → V k < 256 := by rw [← hm]; exact hV
    have HE := Lib.hid (bstr_ends hV2)
    rw [← hm] at HE
    have hbl := fun k => behind_lt (V := V) (n := m) (fun k hk => hV k (by omega)) k
    have HBL := Lib.hid hbl
    have HV := Lib.hid hV
    clear ho ht hm hV hV2 hbl
    go_enter Tryd.func4, Tryd.ntmps4
    go_wp2_with fail
    refine HF.out.mono ?_
    rintro e w0 ⟨rfl, hb0⟩
    have HC1 := HC w0 hb0
    go_wp2_with fail
    refine HC1.out.mono ?_
    rintro e w1 ⟨_, h2, h3, hb1⟩
    have hB1 := hb0.trans (hb1.mono hb0.size)
    have hS : ∀ W, Below w1.heap.size w1 W → (convert 22 9 (.slice (some ad) n c)).run Tryd.prog W = .ok (.string (bstr V n)) W ∧ Below w1.heap.size w1 W := fun W hW => ⟨(HO.out.below (hB1.trans (hW.mono hB1.size))).conv c, hW⟩
    have HS := Lib.hid hS
    have hw0 := below_drew' (Below.refl w1.heap.size w1)
    have HR1 := HR w1.drew (hB1.trans (hw0.mono hB1.size))
    by_cases hE : Pl.Ends V m
    · obtain ⟨v, rfl, hv⟩ := h3 m HM.out hE
      clear h2 h3 hb1 HC HC1 HR hS
      have heq : ((bstr (behind V m) (m + 4)).toList == (bstr V n).toList) = true := str_same (by rw [← HM.out]; exact HE.out.2 hE)
      go_upto_region 8 with (fail)
      go_cut [34] (fun s wx => s = .bool false ∧ Below w1.heap.size w1 wx)
      case first =>
        have hs0 := (HS.out _ hw0).1
        go_region_with (go_at_call 12; (with_reducible refine HR1.out.mono ?_); rintro e x1 ⟨u, rfl, hu, hc1⟩; have hC1 := hw0.trans (hc1.mono hw0.size); have hcv := row_conv hu (fun k _ => HBL.out k); have hs1 := (HS.out _ hC1).1)
        all_goals
          go_wp2_with fail
          go_meet
          exact ⟨rfl, hC1⟩
      case rest =>
        obtain ⟨rfl, hC⟩ := hcut
        have hBc := hB1.trans (hC.mono hB1.size)
        have hV1 := Lib.hid (show ∀ k, k < m → V k < 256 from fun k hk => HV.out k (by have := HM.out; omega))
        have hrow := Lib.hid (ownsRow_keep hv hC)
        have hc1 := fun k => row_conv (ownsRow_keep hrow.out (below_drewN' (Below.refl _ wc) k)) hV1.out
        have hc2 := fun k => Bys.conv (((HO.out.below (below_drewN' hBc k)).take (m := m) (by have := HM.out; omega))) c
        clear hv heq hC hB1
        go_wp2_with fail
        go_quiet (fail)
        go_wp2_with fail
        go_ret
        exact ⟨rfl, below_drewN' hBc _⟩
    · obtain rfl := h2 m HM.out hE
      clear h2 h3 hb1 HC HC1 HR hS
      have heq : ((bstr (behind V m) (m + 4)).toList == (bstr V n).toList) = false := str_unlike (by rw [← HM.out]; exact fun h => hE (HE.out.1 h))
      go_upto_region 8 with (fail)
      go_cut [34] (fun s wx => s = .bool true ∧ Below w1.heap.size w1 wx)
      case first =>
        have hs0 := (HS.out _ hw0).1
        go_region_with (go_at_call 12; (with_reducible refine HR1.out.mono ?_); rintro e x1 ⟨u, rfl, hu, hc1⟩; have hC1 := hw0.trans (hc1.mono hw0.size); have hcv := row_conv hu (fun k _ => HBL.out k); have hs1 := (HS.out _ hC1).1)
        all_goals
          go_wp2_with fail
          go_meet
          exact ⟨rfl, hC1⟩
      case rest =>
        obtain ⟨rfl, hC⟩ := hcut
        have hBc := hB1.trans (hC.mono hB1.size)
        clear heq hC hB1
        go_wp2_with fail
        go_ret
        exact ⟨rfl, hBc⟩

theorem own : ownKnob Tryd.prog.godebug = none := by kernel_rfl
theorem laidOut : laidOutB Tryd.prog = true := by kernel_rfl

set_option maxRecDepth 100000 in
theorem lifted (os : Os) (started : os.Started) (H : Type) (enc : TypeId × Value → H) :
    ReturnsInHanded {} Tryd.checked os 4 .any (fun w args => (Rows.crcCutsSpec.pre enc Tryd.prog Tryd.f4 [] false w args ∧ laidMetH Tryd.prog laidL w) ∧ sizedMet enc Tryd.prog Tryd.f4 (OpenSpec.ofChange Rows.crcCutsSpec) false w args)
      (Rows.crcCutsSpec.post enc Tryd.prog Tryd.f4 false true false false) := by
  refine returnsInHanded_of_change_and (C := Tryd.checked) (X := fun w _ => laidMetH Tryd.prog laidL w) (fun _ _ _ hh h => h.of_heap hh) own started (by kernel_rfl) Tryd.func4
    (ChangeSpec.witness_shaped (enc := enc) (C := Tryd.checked) (os := os) (X := fun w _ => laidMetH Tryd.prog laidL w) false (World.doorLaid Tryd.prog 400 os) #[.slice none 0 0] 8 rfl (World.shaped_of_RefB (by kernel_rfl) (by kernel_rfl)) (by kernel_rfl) (by kernel_rfl) (by kernel_rfl) (door_met os _)) ?_
  intro W base args ds gs before hval0 hW _ _ hL _
  have hval : ∀ (j : Nat) t v, Tryd.f4.params[j]? = some t → args[j]? = some v → Value.okWide Tryd.prog W .any base t v := hval0
  have hW' := hW
  obtain ⟨p, q, hA0, hV, rfl, hfz, hnd⟩ := hW
  have hA : DataW.TrodAll enc Tryd.prog W 0 (fun _ => true) true Tryd.f4.params.toList args.toList ds p := hA0
  rw [Tryd.params4] at hA hval
  obtain ⟨v0, d0, rfl, rfl, h0⟩ := trodAll_one hA
  obtain ⟨rfl, rfl⟩ := trodVars_none hV
  obtain ⟨A0, n0, c0, V0, rfl, hn0, hz0, hc0, ho0⟩ := open_bytesc (hval 0 22 v0 rfl rfl) h0
  clear hA0 hval0
  refine (walk A0 n0 c0 V0 W hn0 hz0 hc0 ho0 (tabs_of_laid hL)).mono fun e W' ⟨he, hg⟩ => ?_
  subst he
  exact ⟨_, rfl, law_post laidOut rfl rfl rfl (by rw [Tryd.params4]; decide +kernel) hW' hg⟩

/-- The row. -/
theorem holds : Rows.CrcCutsSaid :=
  OpenClaim.holds_of_wide 4 Tryd.f4 rfl rfl rfl rfl rfl rfl rfl ⟨rfl, rfl, rfl, rfl, rfl⟩ rfl rfl rfl rfl rfl (by kernel_rfl) Tryd.func4 (by kernel_rfl)
    (of_decide_eq_true (by kernel_rfl)) (by unfold Func.isWrapper; first | (rw [if_pos (by decide +kernel)]; kernel_rfl) | (rw [if_neg (by decide +kernel)]; exact ⟨rfl, rfl⟩))
    (fun os started H enc _ => lifted os started H enc)
/-- The statement: the row's card. -/
theorem proved : Rows.CrcCutsCardSaid :=
  Claim7.holds_tied_plain_at .later [] Rows.crcCutsCard.laidKinds Rows.crcCutsCard.laidTests Rows.crcCutsCard.stood.harness Rows.crcCutsCard.stood.looks
    holds (fun _ h => by cases h) (by kernel_rfl) (fun _ h => by cases h) crcCuts_row_tie rfl ⟨rfl, rfl⟩ (by kernel_rfl) rfl
    (fun f fn hf hfn => by
      obtain rfl : f = 4 := Option.some.inj ((show Tryd.prog.funcNamed "colophon/colophonlaw04.CrcCuts" = some 4 by kernel_rfl).symm.trans hf) |>.symm
      obtain rfl : fn = Tryd.f4 := (Option.some.inj (Tryd.func4.symm.trans hfn)).symm
      exact ⟨by kernel_rfl, fun j t ht => by
        have hm : t ∈ Tryd.f4.params.toList := by simpa using Array.mem_of_getElem? ht
        have hall : (Tryd.f4.params.toList.all fun u => !Tryd.prog.wantsStandIn u) = true := by kernel_rfl
        exact (show Tryd.prog.wantsStandIn t = false by simpa using List.all_eq_true.1 hall t hm)⟩)
    (by kernel_rfl)
#print axioms proved
end Go.Proofs.YtfpmipfegjchmaaDoor.crcCuts
