/- For every input colophonlaw05.PagePuts returns true, and its arguments read as they read. No condition but that the two tables lie as the program's text lays them (the card ties it). -/
import Derived.Test.YtmkbaifmhbmdpaaDoorCrcLaw
import Derived.Test.YtmkbaifmhbmdpaaDoorPageFirst
namespace Go.Proofs.YtmkbaifmhbmdpaaDoor.pagePuts
open Go.ChangeShapes Go.WideShapes Go.ChangeAt Go.RowKit

theorem conv_nil (V : Nat → Nat) (W : World) : (convert 22 9 (.slice none 0 0)).run Tryd.prog W = .ok (.string (bstr V 0)) W :=
  conv_bytes none 0 0 V W fun k hk => absurd hk (by omega)
theorem str_refl (a : ByteArray) : (a.toList == a.toList) = true := str_same rfl

set_option maxRecDepth 100000 in
set_option maxHeartbeats 3200000 in
theorem walk_bad (A : Option Addr) (n c : Nat) (V : Nat → Nat) (a : Int) (w : World) (hA : A = none → n = 0 ∧ c = 0) (ho : Bys w w.heap.size A n V) (hn : n ≤ 2000) (hbad : ¬ (0 ≤ a ∧ a ≤ 4095 ∧ n ≤ 256)) (ht : Tabs w) :
    Calls Tryd.prog 3 #[.int .i64 a, .slice A n c] w fun e w' => e = .returned (.bool true) ∧ Below w.heap.size w w' := by
  have HT := Lib.hid ht
  have HO := Lib.hid ho
  have HV := Lib.hid (ho.lt)
  have HF := Lib.hid (pfirst_any w ht)
  have HA := Lib.hid hA
  have HB := Lib.hid hbad
  have hd : decide ((2000 : Int) < (n : Int)) = false := by simp; omega
  clear ho ht hbad hA
  go_enter Tryd.func3, Tryd.ntmps3
  go_wp2_with fail
  refine HF.out.mono ?_
  rintro e w0 ⟨rfl, hb0⟩
  have HW := Lib.hid (World.ownsRow_made (base := w0.heap.size) (e := 5) (size := 1) w0 #[] 0 (Nat.le_refl _) (by unfold maxLen; omega) rfl)
  have hBa : Below w0.heap.size w0 (w0.alloc (.cells #[] 5)) := (Below.refl _ _).alloc (Nat.le_refl _) _
  have hsa := hBa.size
  have HO1 := Lib.hid ((HO.out.below hb0).mono_ hb0.size)
  clear HF
  go_wp2_with (at_builtin; refine step_append_bytes rfl (.tmp 20) (.tmp 21) rfl rfl HW.out rfl HA.out (HO1.out.below hBa) hsa (by omega) ?_; intro v5 w5 hown5 hb5)
  have hB5 := hb0.trans ((hBa.trans hb5).mono hb0.size)
  have h5 := hown5.out
  rw [List.nil_append, Nat.zero_add] at h5
  obtain ⟨X, cx, rfl, hXA, hXc, hXo⟩ := row_bys h5 HV.out
  have HX := Lib.hid hXo
  have HP := Lib.hid (pagePut_any X n cx V a w5 hXA hXo (HT.out.keep hB5))
  clear hown5 hb5 h5 hXo HW hBa hsa HO1
  refine HP.out.mono ?_
  rintro e w6 ⟨h1, h2, _, hb6⟩
  have hB6 := hB5.trans (hb6.mono hB5.size)
  have HR := Lib.hid (refPagePut_any A n c V a w6 HA.out ((HO.out.below hB6).mono_ hB6.size))
  have HX6 := Lib.hid ((HX.out.below hb6).mono_ hb6.size)
  have hcn := conv_nil V
  have hr := str_refl
  clear HP hb6 hXA hXc
  by_cases ha : a < 0 ∨ 4095 < a
  · obtain rfl := h1 ha
    clear h1 h2
    go_wp2_with fail
    refine HR.out.mono ?_
    rintro e w7 ⟨h3, _, _, hb7⟩
    obtain rfl := h3 ha
    have hB7 := hB6.trans (hb7.mono hB6.size)
    have hc1 := (HX6.out.below hb7).conv cx
    have hc2 := (HO.out.below hB7).conv c
    clear h3 HR hb7 hB6
    go_wp2_with fail
    go_ret
    exact ⟨rfl, hB7⟩
  · have hg : 0 ≤ a ∧ a ≤ 4095 := by omega
    have hn2 : 256 < n := by have := HB.out; omega
    obtain rfl := h2 hg hn2
    clear h1 h2
    go_wp2_with fail
    refine HR.out.mono ?_
    rintro e w7 ⟨_, h3, _, hb7⟩
    obtain rfl := h3 hg hn2
    have hB7 := hB6.trans (hb7.mono hB6.size)
    have hc1 := (HX6.out.below hb7).conv cx
    have hc2 := (HO.out.below hB7).conv c
    clear h3 HR hb7 hB6
    go_wp2_with fail
    go_ret
    exact ⟨rfl, hB7⟩

set_option maxRecDepth 100000 in
set_option maxHeartbeats 3200000 in
theorem walk_good (A : Option Addr) (n c : Nat) (V : Nat → Nat) (t : Nat) (w : World) (hA : A = none → n = 0 ∧ c = 0) (ho : Bys w w.heap.size A n V) (hn : n ≤ 256) (ht4 : t ≤ 4095) (ht : Tabs w) :
    Calls Tryd.prog 3 #[.int .i64 (t : Int), .slice A n c] w fun e w' => e = .returned (.bool true) ∧ Below w.heap.size w w' := by
  have HT := Lib.hid ht
  have HO := Lib.hid ho
  have HV := Lib.hid (ho.lt)
  have HF := Lib.hid (pfirst_any w ht)
  have HA := Lib.hid hA
  have hd : decide ((2000 : Int) < (n : Int)) = false := by simp; omega
  clear ho ht hA
  go_enter Tryd.func3, Tryd.ntmps3
  go_wp2_with fail
  refine HF.out.mono ?_
  rintro e w0 ⟨rfl, hb0⟩
  have HW := Lib.hid (World.ownsRow_made (base := w0.heap.size) (e := 5) (size := 1) w0 #[] 0 (Nat.le_refl _) (by unfold maxLen; omega) rfl)
  have hBa : Below w0.heap.size w0 (w0.alloc (.cells #[] 5)) := (Below.refl _ _).alloc (Nat.le_refl _) _
  have hsa := hBa.size
  have HO1 := Lib.hid ((HO.out.below hb0).mono_ hb0.size)
  clear HF
  go_wp2_with (at_builtin; refine step_append_bytes rfl (.tmp 20) (.tmp 21) rfl rfl HW.out rfl HA.out (HO1.out.below hBa) hsa (by omega) ?_; intro v5 w5 hown5 hb5)
  have hB5 := hb0.trans ((hBa.trans hb5).mono hb0.size)
  have h5 := hown5.out
  rw [List.nil_append, Nat.zero_add] at h5
  obtain ⟨X, cx, rfl, hXA, hXc, hXo⟩ := row_bys h5 HV.out
  have HX := Lib.hid hXo
  have HP := Lib.hid (pagePut_good X n cx V t w5 ht4 hn hXA hXo (HT.out.keep hB5))
  clear hown5 hb5 h5 hXo HW hBa hsa HO1
  refine HP.out.mono ?_
  rintro e w6 ⟨p, rfl, hp, hb6⟩
  have hB6 := hB5.trans (hb6.mono hB5.size)
  have HR := Lib.hid (refPagePut_good A n c V t w6 ht4 hn HA.out ((HO.out.below hB6).mono_ hB6.size))
  have HX6 := Lib.hid ((HX.out.below hb6).mono_ hb6.size)
  have hr := str_refl
  obtain ⟨gp, cp, rfl⟩ := Joins.ownsRow_form hp (by omega)
  have Hp := Lib.hid hp
  clear HP hb6 hXA hXc hp HX hB5
  go_wp2_with fail
  refine HR.out.mono ?_
  rintro e w7 ⟨u, rfl, hu, hb7⟩
  have hB7 := hB6.trans (hb7.mono hB6.size)
  have hc1 := (HX6.out.below hb7).conv cx
  have hc2 := (HO.out.below hB7).conv c
  have Hp7 := Lib.hid (ownsRow_keep Hp.out hb7)
  have hc3 := row_conv Hp7.out (fun k _ => pageOf_lt HV.out k)
  have hc4 := row_conv hu (fun k _ => pageOf_lt HV.out k)
  obtain ⟨Y, cy, hY, hYA, hYc, hYo⟩ := row_bys Hp7.out (fun k _ => pageOf_lt HV.out k)
  cases hY
  have HG := Lib.hid (pageGet_any (some ⟨gp, 0, none⟩) 264 cp _ w7 hYA hYc hYo (HT.out.keep hB7))
  clear HR hb7 hB6 hu Hp HX6 hYA hYc hYo Hp7
  go_wp2_with fail
  refine HG.out.mono ?_
  rintro e w8 ⟨_, _, _, _, h5, hb8⟩
  obtain ⟨z, rfl, hz⟩ := h5 rfl (pageOf_ends _ _ _) (by rw [numberOf_page _ _ _ (by omega)]; omega)
  rw [numberOf_page _ _ _ (by omega)]
  have hB8 := hB7.trans (hb8.mono hB7.size)
  obtain ⟨g8, c8, rfl⟩ := Joins.ownsRow_form hz (by omega)
  obtain ⟨Y, cy, hY, hYA, hYc, hYo⟩ := row_bys hz (fun k _ => pageOf_lt HV.out k)
  cases hY
  have hcc : (n : Int) ≤ (c8 : Int) := by omega
  have hc5 := fun k => ((hYo.take (m := n) hn).below (below_drewN' (Below.refl _ w8) k)).conv c8
  have hc6 := fun k => ((HO.out.below hB8).below (below_drewN' (Below.refl _ w8) k)).conv c
  rw [show bstr (pageOf V n t) n = bstr V n from bstr_congr fun k hk => pageOf_old V n t k hk hn] at hc5
  have HYo := Lib.hid hYo
  clear hc1 hc2 hc3 hc4 HG hb8 h5 hz hYo hYA
  go_wp2_with fail
  go_quiet (fail)
  clear hc5 hc6
  have hB9 := below_drewN' hB8 nq
  have HY9 := Lib.hid (HYo.out.below (below_drewN' (Below.refl _ w8) nq))
  generalize w8.drewN nq = w9 at hB9 HY9 ⊢
  have hn6 : (n : Int) ≤ 256 := by omega
  by_cases hcn : c8 = n
  · obtain rfl : n = 256 := by omega
    subst hcn
    go_wp2_with fail
    go_loop [90] (fun v => v = .int .i64 0) (fun _ => 0)
    case atStart => rfl
    case round =>
      obtain rfl := hrel
      go_wp2_with fail
      go_ret
      exact ⟨rfl, hB9⟩
  · obtain ⟨r, hr6⟩ : ∃ r, 256 - n = r := ⟨_, rfl⟩
    have HR6 := Lib.hid hr6
    have hr256 : r ≤ 256 := by omega
    go_wp2_with fail
    clear hr6
    go_loop [14, 90] (fun _ v => ∃ i : Nat, i ≤ r ∧ v = .int .i64 (i : Int)) (fun _ v => r - (intOf v).toNat)
    case atStart => exact ⟨0, Nat.zero_le _, rfl⟩
    case round =>
      obtain ⟨i, hi, rfl⟩ := hrel
      by_cases hlt : i < r
      · obtain ⟨_, e1, _, hcell, _⟩ := HY9.out (n + i) (by have := HR6.out; omega)
        cases e1
        rw [pageOf_nought V n t (n + i) (by omega) (by have := HR6.out; omega)] at hcell
        have hcell2 : w9.cell? ⟨g8, n + i, none⟩ = some (.int .u8 0) := by
          have e : (⟨g8, 0, none⟩ : Addr).add (n + i) = ⟨g8, 0 + (n + i), none⟩ := Addr.add_mid g8 0 (n + i)
          rw [e, Nat.zero_add] at hcell
          exact hcell
        clear hcell
        have hir : (i : Int) < (r : Int) := by omega
        go_wp2_with fail
        go_round
        case rel => exact ⟨i + 1, by omega, by go_num⟩
        case measure => simp [intOf]; omega
      · obtain rfl : i = r := by omega
        go_wp2_with fail
        go_ret
        exact ⟨rfl, hB9⟩

set_option maxRecDepth 100000 in
set_option maxHeartbeats 3200000 in
theorem walk (a : Int) (A : Option Addr) (n c : Nat) (V : Nat → Nat) (w : World) (_wa : (Lit.int .i64 a).wf = true) (_hcm : c ≤ maxLen) (hA : A = none → n = 0 ∧ c = 0) (_hc : n ≤ c) (ho : Bys w w.heap.size A n V) (ht : Tabs w) :
    Calls Tryd.prog 3 #[.int .i64 a, .slice A n c] w fun e w' => e = .returned (.bool true) ∧ Below w.heap.size w w' := by
  by_cases h1 : 2000 < n
  · have HF := Lib.hid (pfirst_any w ht)
    have hd : decide ((2000 : Int) < (n : Int)) = true := by simp; omega
    clear ho ht hA
    go_enter Tryd.func3, Tryd.ntmps3
    go_wp2_with fail
    refine HF.out.mono ?_
    rintro e w0 ⟨rfl, hb0⟩
    go_wp2_with fail
    go_ret
    exact ⟨rfl, hb0⟩
  · by_cases h : 0 ≤ a ∧ a ≤ 4095 ∧ n ≤ 256
    · obtain ⟨t, rfl⟩ : ∃ t : Nat, a = (t : Int) := ⟨a.toNat, by omega⟩
      exact walk_good A n c V t w hA ho h.2.2 (by omega) ht
    · exact walk_bad A n c V a w hA ho (by omega) h ht

theorem own : ownKnob Tryd.prog.godebug = none := by kernel_rfl
theorem laidOut : laidOutB Tryd.prog = true := by kernel_rfl

set_option maxRecDepth 100000 in
theorem lifted (os : Os) (started : os.Started) (H : Type) (enc : TypeId × Value → H) :
    ReturnsInHanded {} Tryd.checked os 3 .any (fun w args => (Rows.pagePutsSpec.pre enc Tryd.prog Tryd.f3 [] false w args ∧ laidMetH Tryd.prog laidL w) ∧ sizedMet enc Tryd.prog Tryd.f3 (OpenSpec.ofChange Rows.pagePutsSpec) false w args)
      (Rows.pagePutsSpec.post enc Tryd.prog Tryd.f3 false true false false) := by
  refine returnsInHanded_of_change_and (C := Tryd.checked) (X := fun w _ => laidMetH Tryd.prog laidL w) (fun _ _ _ hh h => h.of_heap hh) own started (by kernel_rfl) Tryd.func3
    (ChangeSpec.witness_shaped (enc := enc) (C := Tryd.checked) (os := os) (X := fun w _ => laidMetH Tryd.prog laidL w) false (World.doorLaid Tryd.prog 400 os) #[.int .i64 0, .slice none 0 0] 8 rfl (World.shaped_of_RefB (by kernel_rfl) (by kernel_rfl)) (by kernel_rfl) (by kernel_rfl) (by kernel_rfl) (door_met os _)) ?_
  intro W base args ds gs before hval0 hW _ _ hL _
  have hval : ∀ (j : Nat) t v, Tryd.f3.params[j]? = some t → args[j]? = some v → Value.okWide Tryd.prog W .any base t v := hval0
  have hW' := hW
  obtain ⟨p, q, hA0, hV, rfl, hfz, hnd⟩ := hW
  have hA : DataW.TrodAll enc Tryd.prog W 0 (fun _ => true) true Tryd.f3.params.toList args.toList ds p := hA0
  rw [Tryd.params3] at hA hval
  obtain ⟨v0, v1, d0, d1, p0, p1, rfl, rfl, rfl, h0, h1⟩ := trodAll_two hA
  obtain ⟨rfl, rfl⟩ := trodVars_none hV
  obtain ⟨a0, rfl, rfl, rfl, wa0⟩ := open_int Tryd.underlying3 (hval 0 3 v0 rfl rfl) h0
  obtain ⟨A1, n1, c1, V1, rfl, hn1, hz1, hc1, ho1⟩ := open_bytesc (hval 1 22 v1 rfl rfl) h1
  clear hA0 hval0
  refine (walk a0 A1 n1 c1 V1 W wa0 hn1 hz1 hc1 ho1 (tabs_of_laid hL)).mono fun e W' ⟨he, hg⟩ => ?_
  subst he
  exact ⟨_, rfl, law_post laidOut rfl rfl rfl (by rw [Tryd.params3]; decide +kernel) hW' hg⟩

/-- The row. -/
theorem holds : Rows.PagePutsSaid :=
  OpenClaim.holds_of_wide 3 Tryd.f3 rfl rfl rfl rfl rfl rfl rfl ⟨rfl, rfl, rfl, rfl, rfl⟩ rfl rfl rfl rfl rfl (by kernel_rfl) Tryd.func3 (by kernel_rfl)
    (of_decide_eq_true (by kernel_rfl)) (by unfold Func.isWrapper; first | (rw [if_pos (by decide +kernel)]; kernel_rfl) | (rw [if_neg (by decide +kernel)]; exact ⟨rfl, rfl⟩))
    (fun os started H enc _ => lifted os started H enc)
/-- The statement: the row's card. -/
theorem proved : Rows.PagePutsCardSaid :=
  Claim7.holds_tied_plain_at .later [] Rows.pagePutsCard.laidKinds Rows.pagePutsCard.laidTests Rows.pagePutsCard.stood.harness Rows.pagePutsCard.stood.looks
    holds (fun _ h => by cases h) (by kernel_rfl) (fun _ h => by cases h) pagePuts_row_tie rfl ⟨rfl, rfl⟩ (by kernel_rfl) rfl
    (fun f fn hf hfn => by
      obtain rfl : f = 3 := Option.some.inj ((show Tryd.prog.funcNamed "colophon/colophonlaw05.PagePuts" = some 3 by kernel_rfl).symm.trans hf) |>.symm
      obtain rfl : fn = Tryd.f3 := (Option.some.inj (Tryd.func3.symm.trans hfn)).symm
      exact ⟨by kernel_rfl, fun j t ht => by
        have hm : t ∈ Tryd.f3.params.toList := by simpa using Array.mem_of_getElem? ht
        have hall : (Tryd.f3.params.toList.all fun u => !Tryd.prog.wantsStandIn u) = true := by kernel_rfl
        exact (show Tryd.prog.wantsStandIn t = false by simpa using List.all_eq_true.1 hall t hm)⟩)
    (by kernel_rfl)
#print axioms proved
end Go.Proofs.YtmkbaifmhbmdpaaDoor.pagePuts
