/- For every input colophonlaw05.PageApart returns true, and its arguments read as they read. No condition but that the two tables lie as the program's text lays them (the card ties it). -/
import Derived.Test.YtmkbaifmhbmdpaaDoorCrcLaw
import Derived.Test.YtmkbaifmhbmdpaaDoorPageFirst
import Derived.Test.YtmkbaifmhbmdpaaDoorTurned
namespace Go.Proofs.YtmkbaifmhbmdpaaDoor.pageApart
open Go.ChangeShapes Go.WideShapes Go.ChangeAt Go.RowKit

theorem xor_one_ne (x : Nat) : x ^^^ 1 ≠ x := by
  intro h
  have := congrArg (fun y => y.testBit 0) h
  simp at this
  omega
theorem xor_one_lt (x : Nat) (h : x < 256) : x ^^^ 1 < 256 := Nat.xor_lt_two_pow (n := 8) h (by decide)

set_option maxRecDepth 100000 in
set_option maxHeartbeats 3200000 in
theorem walk_good (A : Option Addr) (n c : Nat) (V : Nat → Nat) (t m : Nat) (w : World) (hA : A = none → n = 0 ∧ c = 0) (ho : Bys w w.heap.size A n V) (ht4 : t ≤ 4095) (hm4 : m ≤ 4095) (hn : n ≤ 256) (ht : Tabs w) :
    Calls Tryd.prog 7 #[.int .i64 (t : Int), .int .i64 (m : Int), .slice A n c] w fun e w' => e = .returned (.bool true) ∧ Below w.heap.size w w' := by
  have HT := Lib.hid ht
  have HO := Lib.hid ho
  have HF := Lib.hid (pfirst_any w ht)
  have HV := Lib.hid (ho.lt)
  have hP := fun (k : Nat) (hk : k ≤ 4095) W (hW : Below w.heap.size w W) => Lib.hid (pagePut_good A n c V k W hk hn hA ((HO.out.below hW).mono_ hW.size) (HT.out.keep hW))
  have HP := Lib.hid hP
  have HA := Lib.hid hA
  clear ho ht hP
  go_enter Tryd.func7, Tryd.ntmps7
  go_wp2_with fail
  refine HF.out.mono ?_
  rintro e w0 ⟨rfl, hb0⟩
  have HP1 := HP.out t ht4 w0 hb0
  clear HF
  go_wp2_with fail
  refine HP1.out.mono ?_
  rintro e w1 ⟨x, rfl, hx, hb1⟩
  have hB1 := hb0.trans (hb1.mono hb0.size)
  have HP2 := HP.out m hm4 w1 hB1
  clear HP1
  go_wp2_with fail
  refine HP2.out.mono ?_
  rintro e w2 ⟨y, rfl, hy, hb2⟩
  have hB2 := hB1.trans (hb2.mono hB1.size)
  have HX := Lib.hid (ownsRow_lower (ownsRow_keep hx hb2) hb0.size)
  have hc1 := row_conv HX.out (fun k _ => pageOf_lt HV.out k)
  have hc2 := row_conv hy (fun k _ => pageOf_lt HV.out k)
  obtain ⟨b, hb⟩ : ∃ b, ((bstr (pageOf V n t) 264).toList == (bstr (pageOf V n m) 264).toList) = b := ⟨_, rfl⟩
  have hbm : ((t : Int) == (m : Int)) = b := by
    rw [← hb]
    by_cases h : t = m
    · subst h
      rw [str_same rfl]
      simp
    · rw [str_unlike (fun e => h (page_numbers (by omega) (by omega) (bstr_same (fun k _ => pageOf_lt HV.out k) (fun k _ => pageOf_lt HV.out k) e).2))]
      simp
      omega
  obtain ⟨gx, cx, rfl⟩ := Joins.ownsRow_form HX.out (by omega)
  have HW := Lib.hid (World.ownsRow_made (base := w2.heap.size) (e := 5) (size := 1) w2 #[] 0 (Nat.le_refl _) (by unfold maxLen; omega) rfl)
  have hB3 : Below w2.heap.size w2 (w2.alloc (.cells #[] 5)) := (Below.refl _ _).alloc (Nat.le_refl _) _
  have hs3 := hB3.size
  have HO2 := Lib.hid (HO.out.below hB2)
  have HO3 := Lib.hid (HO2.out.mono_ hB2.size)
  clear HP2 hx hb1 hb2 hB1 hy hb0
  by_cases hn0 : n = 0
  · have hz : ((n : Int) == 0) = true := by rw [beq_iff_eq]; omega
    clear hn0
    cases b
    all_goals
      go_wp2_with (at_builtin; refine step_append_bytes rfl (.tmp 50) (.tmp 51) rfl rfl HW.out rfl HA.out (HO3.out.below hB3) hs3 (by omega) ?_; intro v5 w5 hown5 hb5; have h5 := hown5.out; rw [List.nil_append, Nat.zero_add] at h5; obtain ⟨Y, cy, rfl, _, _, _⟩ := row_bys h5 HV.out)
      go_ret
      exact ⟨rfl, hB2.trans ((hB3.trans hb5).mono hB2.size)⟩
  · obtain ⟨q, hq⟩ : ∃ q, n / 2 = q := ⟨_, rfl⟩
    have hqn : q < n := by omega
    have hqi : (n : Int).tdiv 2 = (q : Int) := by rw [← hq]; exact tdiv_nat n 2
    have hne : ((n : Int) == 0) = false := by rw [beq_eq_false_iff_ne]; omega
    have hqw : IntKind.i64.wrap (q : Int) = (q : Int) := IntWalk.i64_in _ (by omega)
    have hqlt : (q : Int) < (n : Int) := by omega
    have hVq := HV.out q hqn
    obtain ⟨V', hV'⟩ : ∃ V' : Nat → Nat, (fun j => if q = j then V q ^^^ 1 else V j) = V' := ⟨_, rfl⟩
    have HV1 := Lib.hid (show ∀ k, k < n → V' k < 256 from fun k hk => by
      rw [← hV']
      show (if q = k then V q ^^^ 1 else V k) < 256
      split
      · exact xor_one_lt _ hVq
      · exact HV.out k hk)
    have HUn := Lib.hid (show bstr (pageOf V' n t) 264 ≠ bstr (pageOf V n t) 264 from fun e => by
      have h := page_bytes hn (bstr_same (fun k _ => pageOf_lt HV1.out k) (fun k _ => pageOf_lt HV.out k) e).2 q hqn
      rw [← hV'] at h
      simp at h
      exact xor_one_ne _ h)
    have HXR := Lib.hid (show bits .xor .u8 ((V q : Nat) : Int) 1 = ((V q ^^^ 1 : Nat) : Int) from u8_xor_nat (V q) 1 hVq (by decide))
    have HV' := Lib.hid hV'
    clear hV' hq
    cases b
    all_goals
      go_wp2_with (at_builtin; refine step_append_bytes rfl (.tmp 50) (.tmp 51) rfl rfl HW.out rfl HA.out (HO3.out.below hB3) hs3 (by omega) ?_; intro v5 w5 hown5 hb5; have h5 := hown5.out; rw [List.nil_append, Nat.zero_add] at h5; obtain ⟨g5, c5, rfl⟩ := Joins.ownsRow_form h5 (by omega); have H5 := Lib.hid h5; have hcell := row_cell h5 hqn; have hfz := h5.frozenAt q; clear h5 hown5)
      rw [HXR.out]
      have hB5 := hB3.trans hb5
      have hg5 : w2.heap.size ≤ g5 := (H5.out.lt g5 rfl).1
      have hst := row_store (q := q) (y := V q ^^^ 1) H5.out
      have hB6 := hB5.setCell (p := ⟨g5, q, none⟩) hg5 (.int .u8 ((V q ^^^ 1 : Nat) : Int))
      rw [HV'.out] at hst
      generalize (w5.setCell ⟨g5, q, none⟩ (.int .u8 ((V q ^^^ 1 : Nat) : Int))) = w6 at hst hB6 ⊢
      have HXx := Lib.hid (ownsRow_keep HX.out hB6)
      have hB7 := hB2.trans (hB6.mono hB2.size)
      obtain ⟨Y, cy, hY, hYA, hYc, hYo⟩ := row_bys hst HV1.out
      cases hY
      have HZ := Lib.hid (pagePut_good (some ⟨g5, 0, none⟩) n c5 V' t w6 ht4 hn hYA hYo (HT.out.keep hB7))
      clear hcell hfz hb5 hB5 hst hB6 hYA hYo H5 hc1 hc2
      refine HZ.out.mono ?_
      rintro e w8 ⟨z, rfl, hz, hb8⟩
      have hB8 := hB7.trans (hb8.mono hB7.size)
      have hc1 := row_conv (ownsRow_keep HXx.out hb8) (fun k _ => pageOf_lt HV.out k)
      have hc3 := row_conv hz (fun k _ => pageOf_lt HV1.out k)
      have hun := str_unlike HUn.out
      obtain ⟨gz, cz, rfl⟩ := Joins.ownsRow_form hz (by omega)
      clear hz HZ
      go_wp2_with fail
      go_ret
      exact ⟨rfl, hB8⟩

set_option maxRecDepth 100000 in
set_option maxHeartbeats 1600000 in
theorem walk_bad (A : Option Addr) (n c : Nat) (V : Nat → Nat) (a b : Int) (w : World) (hA : A = none → n = 0 ∧ c = 0) (ho : Bys w w.heap.size A n V) (hbad : ¬ (0 ≤ a ∧ a ≤ 4095 ∧ 0 ≤ b ∧ b ≤ 4095 ∧ n ≤ 256)) (ht : Tabs w) :
    Calls Tryd.prog 7 #[.int .i64 a, .int .i64 b, .slice A n c] w fun e w' => e = .returned (.bool true) ∧ Below w.heap.size w w' := by
  have HT := Lib.hid ht
  have HO := Lib.hid ho
  have HF := Lib.hid (pfirst_any w ht)
  have HP := Lib.hid (fun (k : Int) W (hW : Below w.heap.size w W) => Lib.hid (pagePut_form A n c V k W hA ((HO.out.below hW).mono_ hW.size) (HT.out.keep hW)))
  have HB := Lib.hid hbad
  clear ho ht hbad hA
  go_enter Tryd.func7, Tryd.ntmps7
  go_wp2_with fail
  refine HF.out.mono ?_
  rintro e w0 ⟨rfl, hb0⟩
  have HP1 := HP.out a w0 hb0
  clear HF
  go_wp2_with fail
  refine HP1.out.mono ?_
  rintro e w1 ⟨x, k, rfl, h1, h2, hb1⟩
  have hB1 := hb0.trans (hb1.mono hb0.size)
  have HP2 := HP.out b w1 hB1
  have H1 := Lib.hid h1
  have H2 := Lib.hid h2
  clear HP1 h1 h2
  go_wp2_with fail
  refine HP2.out.mono ?_
  rintro e w2 ⟨y, k2, rfl, h3, h4, hb2⟩
  have hB2 := hB1.trans (hb2.mono hB1.size)
  have H3 := Lib.hid h3
  have H4 := Lib.hid h4
  clear HP2 h3 h4
  by_cases hg : 0 ≤ a ∧ a ≤ 4095 ∧ n ≤ 256
  · obtain rfl := H1.out hg
    obtain ⟨hk, _⟩ := H4.out (by have := HB.out; omega)
    have hk0 : (k2 == 0) = false := by rw [beq_eq_false_iff_ne]; exact hk
    go_wp2_with fail
    go_ret
    exact ⟨rfl, hB2⟩
  · obtain ⟨hk, rfl⟩ := H2.out hg
    have hk0 : (k == 0) = false := by rw [beq_eq_false_iff_ne]; exact hk
    go_wp2_with fail
    go_ret
    exact ⟨rfl, hB2⟩

theorem walk (a b : Int) (A : Option Addr) (n c : Nat) (V : Nat → Nat) (w : World) (_wa : (Lit.int .i64 a).wf = true) (_wb : (Lit.int .i64 b).wf = true) (_hcm : c ≤ maxLen) (hA : A = none → n = 0 ∧ c = 0) (_hc : n ≤ c) (ho : Bys w w.heap.size A n V) (ht : Tabs w) :
    Calls Tryd.prog 7 #[.int .i64 a, .int .i64 b, .slice A n c] w fun e w' => e = .returned (.bool true) ∧ Below w.heap.size w w' := by
  by_cases h : 0 ≤ a ∧ a ≤ 4095 ∧ 0 ≤ b ∧ b ≤ 4095 ∧ n ≤ 256
  · obtain ⟨t, rfl⟩ : ∃ t : Nat, a = (t : Int) := ⟨a.toNat, by omega⟩
    obtain ⟨m, rfl⟩ : ∃ m : Nat, b = (m : Int) := ⟨b.toNat, by omega⟩
    exact walk_good A n c V t m w hA ho (by omega) (by omega) (by omega) ht
  · exact walk_bad A n c V a b w hA ho h ht

theorem own : ownKnob Tryd.prog.godebug = none := by kernel_rfl
theorem laidOut : laidOutB Tryd.prog = true := by kernel_rfl

set_option maxRecDepth 100000 in
theorem lifted (os : Os) (started : os.Started) (H : Type) (enc : TypeId × Value → H) :
    ReturnsInHanded {} Tryd.checked os 7 .any (fun w args => (Rows.pageApartSpec.pre enc Tryd.prog Tryd.f7 [] false w args ∧ laidMetH Tryd.prog laidL w) ∧ sizedMet enc Tryd.prog Tryd.f7 (OpenSpec.ofChange Rows.pageApartSpec) false w args)
      (Rows.pageApartSpec.post enc Tryd.prog Tryd.f7 false true false false) := by
  refine returnsInHanded_of_change_and (C := Tryd.checked) (X := fun w _ => laidMetH Tryd.prog laidL w) (fun _ _ _ hh h => h.of_heap hh) own started (by kernel_rfl) Tryd.func7
    (ChangeSpec.witness_shaped (enc := enc) (C := Tryd.checked) (os := os) (X := fun w _ => laidMetH Tryd.prog laidL w) false (World.doorLaid Tryd.prog 400 os) #[.int .i64 0, .int .i64 0, .slice none 0 0] 8 rfl (World.shaped_of_RefB (by kernel_rfl) (by kernel_rfl)) (by kernel_rfl) (by kernel_rfl) (by kernel_rfl) (door_met os _)) ?_
  intro W base args ds gs before hval0 hW _ _ hL _
  have hval : ∀ (j : Nat) t v, Tryd.f7.params[j]? = some t → args[j]? = some v → Value.okWide Tryd.prog W .any base t v := hval0
  have hW' := hW
  obtain ⟨p, q, hA0, hV, rfl, hfz, hnd⟩ := hW
  have hA : DataW.TrodAll enc Tryd.prog W 0 (fun _ => true) true Tryd.f7.params.toList args.toList ds p := hA0
  rw [Tryd.params7] at hA hval
  obtain ⟨v0, v1, v2, d0, d1, d2, p0, p1, p2, rfl, rfl, rfl, h0, h1, h2⟩ := trodAll_three hA
  obtain ⟨rfl, rfl⟩ := trodVars_none hV
  obtain ⟨a0, rfl, rfl, rfl, wa0⟩ := open_int Tryd.underlying3 (hval 0 3 v0 rfl rfl) h0
  obtain ⟨a1, rfl, rfl, rfl, wa1⟩ := open_int Tryd.underlying3 (hval 1 3 v1 rfl rfl) h1
  obtain ⟨A2, n2, c2, V2, rfl, hn2, hz2, hc2, ho2⟩ := open_bytesc (hval 2 22 v2 rfl rfl) h2
  clear hA0 hval0
  refine (walk a0 a1 A2 n2 c2 V2 W wa0 wa1 hn2 hz2 hc2 ho2 (tabs_of_laid hL)).mono fun e W' ⟨he, hg⟩ => ?_
  subst he
  exact ⟨_, rfl, law_post laidOut rfl rfl rfl (by rw [Tryd.params7]; decide +kernel) hW' hg⟩

/-- The row. -/
theorem holds : Rows.PageApartSaid :=
  OpenClaim.holds_of_wide 7 Tryd.f7 rfl rfl rfl rfl rfl rfl rfl ⟨rfl, rfl, rfl, rfl, rfl⟩ rfl rfl rfl rfl rfl (by kernel_rfl) Tryd.func7 (by kernel_rfl)
    (of_decide_eq_true (by kernel_rfl)) (by unfold Func.isWrapper; first | (rw [if_pos (by decide +kernel)]; kernel_rfl) | (rw [if_neg (by decide +kernel)]; exact ⟨rfl, rfl⟩))
    (fun os started H enc _ => lifted os started H enc)
/-- The statement: the row's card. -/
theorem proved : Rows.PageApartCardSaid :=
  Claim7.holds_tied_plain_at .later [] Rows.pageApartCard.laidKinds Rows.pageApartCard.laidTests Rows.pageApartCard.stood.harness Rows.pageApartCard.stood.looks
    holds (fun _ h => by cases h) (by kernel_rfl) (fun _ h => by cases h) pageApart_row_tie rfl ⟨rfl, rfl⟩ (by kernel_rfl) rfl
    (fun f fn hf hfn => by
      obtain rfl : f = 7 := Option.some.inj ((show Tryd.prog.funcNamed "colophon/colophonlaw05.PageApart" = some 7 by kernel_rfl).symm.trans hf) |>.symm
      obtain rfl : fn = Tryd.f7 := (Option.some.inj (Tryd.func7.symm.trans hfn)).symm
      exact ⟨by kernel_rfl, fun j t ht => by
        have hm : t ∈ Tryd.f7.params.toList := by simpa using Array.mem_of_getElem? ht
        have hall : (Tryd.f7.params.toList.all fun u => !Tryd.prog.wantsStandIn u) = true := by kernel_rfl
        exact (show Tryd.prog.wantsStandIn t = false by simpa using List.all_eq_true.1 hall t hm)⟩)
    (by kernel_rfl)
#print axioms proved
end Go.Proofs.YtmkbaifmhbmdpaaDoor.pageApart
