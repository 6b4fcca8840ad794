/- For every input colophonlaw07.CacheCharges returns true, and its arguments read as they read. No condition but that the two tables lie as the program's text lays them (the card ties it). -/
import Derived.Test.YtjmajminfmcjcaaDoorCacLaw
namespace Go.Proofs.YtjmajminfmcjcaaDoor.cacheCharges
open Go.ChangeShapes Go.WideShapes Go.ChangeAt Go.RowKit

set_option maxRecDepth 100000 in
set_option maxHeartbeats 3200000 in
theorem walk (A : Option Addr) (n c : Nat) (V : Nat → Int) (few : Bool) (w : World) (_ : n ≤ maxLen) (_ : A = none → n = 0 ∧ c = 0) (ho : Its w w.heap.size A n V) (ht : Tabs w) :
    Calls Tryd.prog 5 #[.slice A n c, .bool few] w fun e w' => e = .returned (.bool true) ∧ Below w.heap.size w w' := by
  have HF := Lib.hid (first_any w ht)
  have HT := Lib.hid ht
  have HO := Lib.hid ho
  clear ht ho
  cases few
  case' false =>
    go_enter Tryd.func5, Tryd.ntmps5
    go_wp2_with fail
    refine HF.out.mono ?_
    rintro e w0 ⟨rfl, hb0⟩
    have HM := Lib.hid (made_any 9 (by decide) 10 w0 (HT.out.keep hb0))
    clear HF
    go_wp2_with fail
    refine HM.out.mono ?_
    rintro e wL ⟨hm, _, hb1⟩
    obtain ⟨v, fp0, L, rfl, hC0, hl1, _⟩ := hm (by decide)
    obtain ⟨fw, hfw⟩ : ∃ b, b = false := ⟨_, rfl⟩
    have HCH : Hid (Charge fw (newC 10 10) (fun _ => 0) 0 0) := Lib.hid (Charge.new fw 10 (fun _ => Nat.le_refl _))
    have HC0 : Hid (CacAt fp0 wL v (newC 10 10) L) := Lib.hid hC0
    have hl0 : ∀ k, fp0 k → w.heap.size ≤ k := fun k hk => Nat.le_trans hb0.size (hl1 k hk)
    have hBL := hb0.trans (hb1.mono hb0.size)
    generalize newC 10 10 = c0 at HCH HC0
    clear hm hC0 HM hl1
  case' true =>
    go_enter Tryd.func5, Tryd.ntmps5
    go_wp2_with fail
    refine HF.out.mono ?_
    rintro e w0 ⟨rfl, hb0⟩
    have HM := Lib.hid (made_any 9 (by decide) 10 w0 (HT.out.keep hb0))
    clear HF
    go_wp2_with fail
    refine HM.out.mono ?_
    rintro e w1 ⟨hm, _, hb1⟩
    obtain ⟨v1, _, _, rfl, _, _, _⟩ := hm (by decide)
    have hB1 := hb0.trans (hb1.mono hb0.size)
    have HM2 := Lib.hid (made_any 9 (by decide) 3 w1 (HT.out.keep hB1))
    clear HM hm
    go_wp2_with fail
    refine HM2.out.mono ?_
    rintro e wL ⟨hm, _, hb2⟩
    obtain ⟨v, fp0, L, rfl, hC0, hl1, _⟩ := hm (by decide)
    obtain ⟨fw, hfw⟩ : ∃ b, b = true := ⟨_, rfl⟩
    have HCH : Hid (Charge fw (newC 10 3) (fun _ => 0) 0 0) := Lib.hid (Charge.new fw 3 (fun h => by rw [hfw] at h; cases h))
    have HC0 : Hid (CacAt fp0 wL v (newC 10 3) L) := Lib.hid hC0
    have hl0 : ∀ k, fp0 k → w.heap.size ≤ k := fun k hk => Nat.le_trans hB1.size (hl1 k hk)
    have hBL := hB1.trans (hb2.mono hB1.size)
    generalize newC 10 3 = c0 at HCH HC0
    clear hm hC0 HM2 hl1
  all_goals
    go_upto_block 0 with (fail)
    obtain ⟨av, rfl⟩ := HC0.out.ptr
    have hLz : Lies (wL.alloc (.cells (scel (fun _ => 0) 10).toArray 52)) wL.heap.size 52 (scel (fun _ => 0) 10) := lies_new wL _ _
    have HC1 := Lib.hid (HC0.out.keep (w' := wL.alloc (.cells (scel (fun _ => 0) 10).toArray 52)) ((Below.refl _ _).alloc (Nat.le_refl _) _))
    have hnb : ¬ fp0 wL.heap.size := fun h => Nat.lt_irrefl _ (HC0.out.lt h)
    have hBA : Below w.heap.size w (wL.alloc (.cells (scel (fun _ => 0) 10).toArray 52)) := hBL.alloc hBL.size _
    have hgb := hBL.size
    change Code.wp _ _ _ _ (wL.alloc (.cells (scel (fun _ => 0) 10).toArray 52))
    generalize wL.alloc (.cells (scel (fun _ => 0) 10).toArray 52) = wl at hLz HC1 hBA ⊢
    generalize wL.heap.size = gb at hLz hnb hgb ⊢
    clear HC0 hBL
    go_cut [7, 8] (fun s7 s8 wx => ∃ (i m : Nat) (c1 : CS) (fp : Nat → Prop) (S : Nat → Nat), s7 = .int .i64 (i : Int) ∧ s8 = .int .i64 (m : Int) ∧ i ≤ 120 ∧ Hid (Charge fw c1 S i m) ∧ Hid (CacAt fp wx (.pointer (some av)) c1 L) ∧ Below w.heap.size w wx)
    case first =>
      go_wp2_with fail
      go_loopw [7, 8, 23] (fun s7 s8 v wr => ∃ (i m : Nat) (c1 : CS) (fp : Nat → Prop) (S : Nat → Nat), i ≤ n ∧ i ≤ 120 ∧ m ≤ i ∧ s7 = .int .i64 (i : Int) ∧ s8 = .int .i64 (m : Int) ∧ v = .int .i64 (i : Int) ∧ Hid (Charge fw c1 S i m) ∧ Hid (CacAt fp wr (.pointer (some av)) c1 L) ∧ Hid (∀ k, fp k → w.heap.size ≤ k) ∧ Hid (¬ fp gb) ∧ Hid (Lies wr gb 52 (scel S 10)) ∧ Below w.heap.size w wr) (fun _ _ v _ => n - (intOf v).toNat)
      case atStart => exact ⟨0, 0, c0, fp0, fun _ => 0, Nat.zero_le _, Nat.zero_le _, Nat.le_refl _, rfl, rfl, rfl, HCH, HC1, Lib.hid hl0, Lib.hid hnb, Lib.hid hLz, hBA⟩
      case round =>
        clear HCH HC1 hl0 hnb hLz hBA
        obtain ⟨i, m, c1, fp, S, hin, hi120, hmi, rfl, rfl, rfl, hch, hcat, hl, hng, hS, hB⟩ := hrel
        by_cases hlt : i < n
        · obtain ⟨ad, rfl, had, hV, _, _⟩ := (HO.out.below hB) i hlt
          have hgbl := hS.out.lt
          by_cases h120 : i < 120
          · obtain ⟨x, hx, hx10⟩ := turn_n (V i) 10 (by decide) (by decide)
            have hx' : wrap64 ((IntKind.u64.wrap (V i)).tmod 10) = (x : Int) := hx
            have HX := Lib.hid hx'
            have hx10i : (x : Int) < 10 := by omega
            obtain ⟨k0, k1, k2, k3⟩ := hch.out.step hcat.out.facts.1 hx10
            have hn10 : c1.n ≤ 5000 := by rw [hch.out.n]; omega
            have H1 := Lib.hid (lowHold hcat.out (hch.out.upto.calm (by omega) hn10) hB.size hl.out (x : Int))
            have hcalm2 : Calm (holdR c1 (x : Int)).1 := (hch.out.upto.hold (x : Int)).calm (by omega) (by rw [holdR_n]; exact hn10)
            have HC2 := Lib.hid hcalm2
            have K0 := Lib.hid k0
            have K1 := Lib.hid k1
            have K2 := Lib.hid k2
            have K3 := Lib.hid k3
            clear hx hx' k0 k1 k2 k3 hcalm2
            go_wp2_with fail
            rw [HX.out]
            refine H1.out.mono ?_
            rintro e w2 ⟨fp2, u, rfl, hc2, hl2, hsub, hon, hb2, _, _⟩
            rw [K0.out]
            have hB2 := hB.trans hb2
            have hS2 : Lies w2 gb 52 (scel S 10) := hS.out.same (hon.block gb hgbl hng.out)
            have hng2 : ¬ fp2 gb := fun h => (hsub gb h).elim hng.out (fun h => by omega)
            have H2 := Lib.hid (atDrop hc2 HC2.out (x : Int))
            generalize (holdR c1 (x : Int)).2.1 = hit at K2 ⊢
            have HL2 := Lib.hid hl2
            have HN2 := Lib.hid hng2
            clear hc2 H1 hl2 hsub hon hb2 hng2
            go_wp2_with fail
            refine H2.out.mono ?_
            rintro e w3 ⟨rfl, hc3, ho3⟩
            rw [K1.out]
            have hB3 := hB2.trans (ho3.below hB2.size HL2.out)
            have hS3 : Lies w3 gb 52 (scel S 10) := hS2.same (ho3.block gb hS2.lt HN2.out)
            have q0 : w3.cell? ⟨gb, x, none⟩ = some (.int .i64 ((S x : Nat) : Int)) := (hS3.cell x).trans (scel_at S 10 x hx10)
            have q1 := hS3.free x
            have HS4 : Hid (Lies (w3.setCell ⟨gb, x, none⟩ (.int .i64 1)) gb 52 (scel (mark S x) 10)) := Lib.hid (by
              have h := hS3.put x (.int .i64 1)
              rw [show (Value.int .i64 1) = Value.int .i64 ((1 : Nat) : Int) from rfl, scel_set] at h
              exact h)
            have HC4 := Lib.hid (hc3.far (p := ⟨gb, x, none⟩) HN2.out (.int .i64 1))
            have hw1 : IntKind.i64.wrap ((i : Int) + 1) = (i : Int) + 1 := IntWalk.i64_in _ (by omega)
            have hw2 : IntKind.i64.wrap ((m : Int) + 1) = (m : Int) + 1 := IntWalk.i64_in _ (by omega)
            clear hc3 H2 ho3 hS3 hS2
            by_cases hs0 : S x = 0
            · have hz : ((S x : Nat) : Int) = 0 := by omega
              obtain rfl := K2.out hs0
              rw [hz] at q0
              have K4 := K3.out
              rw [if_pos hs0] at K4
              have K5 := Lib.hid K4
              clear K3 K4 hz hs0
              go_wp2_with fail
              go_roundw
              case rel => exact ⟨i + 1, m + 1, _, fp2, mark S x, by omega, by omega, by omega, by go_num, by go_num, by go_num, K5, HC4, HL2, HN2, HS4, hB3.setCell hgb _⟩
              case measure => simp [intOf]; omega
            · have hz : (((S x : Nat) : Int) == 0) = false := by rw [beq_eq_false_iff_ne]; omega
              have K4 := K3.out
              rw [if_neg hs0] at K4
              have K5 := Lib.hid K4
              clear K3 K4 K2
              go_wp2_with fail
              go_roundw
              case rel => exact ⟨i + 1, m, _, fp2, mark S x, by omega, by omega, by omega, by go_num, rfl, by go_num, K5, HC4, HL2, HN2, HS4, hB3.setCell hgb _⟩
              case measure => simp [intOf]; omega
          · go_wp2_with fail
            go_meet
            exact ⟨i, m, c1, fp, S, rfl, rfl, hi120, hch, hcat, hB⟩
        · go_wp2_with fail
          go_meet
          exact ⟨i, m, c1, fp, S, rfl, rfl, hi120, hch, hcat, hB⟩
    case rest =>
      clear HCH HC1 hl0 hnb hLz hBA
      obtain ⟨i, m, c1, fp, S, rfl, rfl, hi120, hch, hcat, hB⟩ := hcut
      have HSt := Lib.hid (atStats hcat.out)
      unfold statsV at HSt
      rw [pinned_zero hch.out.zero] at HSt
      have hsum := hch.out.sum
      have hge := hch.out.ge
      have hw : IntKind.i64.wrap ((c1.hits : Int) + (c1.misses : Int)) = (i : Int) := by rw [IntWalk.i64_in _ (by omega)]; omega
      have hcmp : c1.misses = m ∨ fw = true := by
        cases hb : fw
        · exact .inl (hch.out.all hb).1
        · exact .inr rfl
      generalize heldN c1.F = hN at HSt
      clear hch hcat
      generalize c1.misses = ms at *
      generalize c1.hits = ht at *
      have hsI : (ht : Int) + (ms : Int) = (i : Int) := by omega
      have hge1 : decide ((m : Int) ≤ (ms : Int)) = true := by simp; omega
      have hge2 : decide (m ≤ ms) = true := by simp; omega
      rcases hcmp with hcmp | hcmp
      all_goals first
        | (exfalso; rw [hfw] at hcmp; cases hcmp; done)
        | (subst hcmp
           go_wp2_with fail
           refine HSt.out.mono ?_
           rintro e w5 ⟨rfl, hb5⟩
           have hB5 := hB.trans (hb5.mono hB.size)
           go_wp2_with fail
           go_ret
           exact ⟨rfl, hB5.alloc hB5.size _⟩)
        | (go_wp2_with fail
           refine HSt.out.mono ?_
           rintro e w5 ⟨rfl, hb5⟩
           have hB5 := hB.trans (hb5.mono hB.size)
           go_wp2_with fail
           go_ret
           exact ⟨rfl, hB5.alloc hB5.size _⟩)

theorem own : ownKnob Tryd.prog.godebug = none := by kernel_rfl
theorem laidOut : laidOutB Tryd.prog = true := by kernel_rfl

set_option maxRecDepth 100000 in
theorem lifted (os : Os) (started : os.Started) (H : Type) (enc : TypeId × Value → H) :
    ReturnsInHanded {} Tryd.checked os 5 .any (fun w args => (Rows.cacheChargesSpec.pre enc Tryd.prog Tryd.f5 [] false w args ∧ laidMetH Tryd.prog laidL w) ∧ sizedMet enc Tryd.prog Tryd.f5 (OpenSpec.ofChange Rows.cacheChargesSpec) false w args)
      (Rows.cacheChargesSpec.post enc Tryd.prog Tryd.f5 false true false false) := by
  refine returnsInHanded_of_change_and (C := Tryd.checked) (X := fun w _ => laidMetH Tryd.prog laidL w) (fun _ _ _ hh h => h.of_heap hh) own started (by kernel_rfl) Tryd.func5
    (ChangeSpec.witness_shaped (enc := enc) (C := Tryd.checked) (os := os) (X := fun w _ => laidMetH Tryd.prog laidL w) false (World.doorLaid Tryd.prog 400 os) #[.slice none 0 0, .bool false] 8 rfl (World.shaped_of_RefB (by kernel_rfl) (by kernel_rfl)) (by kernel_rfl) (by kernel_rfl) (by kernel_rfl) (door_met os _)) ?_
  intro W base args ds gs before hval0 hW _ _ hL _
  have hval : ∀ (j : Nat) t v, Tryd.f5.params[j]? = some t → args[j]? = some v → Value.okWide Tryd.prog W .any base t v := hval0
  have hW' := hW
  obtain ⟨p, q, hA0, hV, rfl, hfz, hnd⟩ := hW
  have hA : DataW.TrodAll enc Tryd.prog W 0 (fun _ => true) true Tryd.f5.params.toList args.toList ds p := hA0
  rw [Tryd.params5] at hA hval
  obtain ⟨v0, v1, d0, d1, p0, p1, rfl, rfl, rfl, h0, h1⟩ := trodAll_two hA
  obtain ⟨rfl, rfl⟩ := trodVars_none hV
  obtain ⟨A0, n0, c0, V0, rfl, hn0, hz0, ho0⟩ := open_list (hval 0 47 v0 rfl rfl) h0
  obtain ⟨a1, rfl, rfl, rfl⟩ := open_bool Tryd.underlying4 (hval 1 4 v1 rfl rfl) h1
  clear hA0 hval0
  refine (walk A0 n0 c0 V0 a1 W hn0 hz0 ho0 (tabs_of_laid hL)).mono fun e W' ⟨he, hg⟩ => ?_
  subst he
  exact ⟨_, rfl, law_post laidOut rfl rfl rfl (by rw [Tryd.params5]; decide +kernel) hW' hg⟩

/-- The row. -/
theorem holds : Rows.CacheChargesSaid :=
  OpenClaim.holds_of_wide 5 Tryd.f5 rfl rfl rfl rfl rfl rfl rfl ⟨rfl, rfl, rfl, rfl, rfl⟩ rfl rfl rfl rfl rfl (by kernel_rfl) Tryd.func5 (by kernel_rfl)
    (of_decide_eq_true (by kernel_rfl)) (by unfold Func.isWrapper; first | (rw [if_pos (by decide +kernel)]; kernel_rfl) | (rw [if_neg (by decide +kernel)]; exact ⟨rfl, rfl⟩))
    (fun os started H enc _ => lifted os started H enc)
/-- The statement: the row's card. -/
theorem proved : Rows.CacheChargesCardSaid :=
  Claim7.holds_tied_plain_at .later [] Rows.cacheChargesCard.laidKinds Rows.cacheChargesCard.laidTests Rows.cacheChargesCard.stood.harness Rows.cacheChargesCard.stood.looks
    holds (fun _ h => by cases h) (by kernel_rfl) (fun _ h => by cases h) cacheCharges_row_tie rfl ⟨rfl, rfl⟩ (by kernel_rfl) rfl
    (fun f fn hf hfn => by
      obtain rfl : f = 5 := Option.some.inj ((show Tryd.prog.funcNamed "colophon/colophonlaw07.CacheCharges" = some 5 by kernel_rfl).symm.trans hf) |>.symm
      obtain rfl : fn = Tryd.f5 := (Option.some.inj (Tryd.func5.symm.trans hfn)).symm
      exact ⟨by kernel_rfl, fun j t ht => by
        have hm : t ∈ Tryd.f5.params.toList := by simpa using Array.mem_of_getElem? ht
        have hall : (Tryd.f5.params.toList.all fun u => !Tryd.prog.wantsStandIn u) = true := by kernel_rfl
        exact (show Tryd.prog.wantsStandIn t = false by simpa using List.all_eq_true.1 hall t hm)⟩)
    (by kernel_rfl)
#print axioms proved
end Go.Proofs.YtjmajminfmcjcaaDoor.cacheCharges
