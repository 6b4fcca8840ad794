/- For every input colophonlaw05.PageGets returns true, and its arguments read as they read. No condition but that the two tables lie as the program's text lays them (the card ties it). -/
import Derived.Test.YtmkbaifmhbmdpaaDoorCrcLaw
import Derived.Test.YtmkbaifmhbmdpaaDoorPageFirst
import Derived.Test.YtmkbaifmhbmdpaaDoorTurned
import Derived.Deep.CutBlock
import Derived.Deep.DeepCutAuto
namespace Go.Proofs.YtmkbaifmhbmdpaaDoor.pageGets
open Go.ChangeShapes Go.WideShapes Go.ChangeAt Go.RowKit

/-- bytes that are a page. -/
def Good (N : Nat) (U : Nat → Nat) : Prop := N = 264 ∧ Pl.Ends U 260 ∧ numberOf U < 4096
/-- Get and the document's Get answer alike. -/
theorem get_both (N : Nat) (U : Nat → Nat) : ∃ m k : Int,
    (∀ (A : Option Addr) (c : Nat) (w : World), (A = none → N = 0 ∧ c = 0) → N ≤ c → Bys w w.heap.size A N U → Tabs w → Calls Tryd.prog 11 #[.slice A N c] w fun e w' => ∃ v, e = .returned (.tuple #[.int .i64 m, v, .int .i64 k]) ∧ (¬ Good N U → v = .slice none 0 0) ∧ (Good N U → w'.ownsRow w.heap.size 5 1 v 256 (ycells U 256)) ∧ Below w.heap.size w w') ∧
    (∀ (A : Option Addr) (c : Nat) (w : World), (A = none → N = 0 ∧ c = 0) → N ≤ c → Bys w w.heap.size A N U → Calls Tryd.prog 13 #[.slice A N c] w fun e w' => ∃ v, e = .returned (.tuple #[.int .i64 m, v, .int .i64 k]) ∧ (¬ Good N U → v = .slice none 0 0) ∧ (Good N U → v = .slice A 256 c) ∧ Below w.heap.size w w') := by
  by_cases h1 : N < 264
  · have hg : ¬ Good N U := fun h => by have := h.1; omega
    exact ⟨0, 50, fun A c w hA hc ho ht => (pageGet_any A N c U w hA hc ho ht).mono fun e w' h => ⟨_, h.1 h1, fun _ => rfl, fun h => absurd h hg, h.2.2.2.2.2⟩, fun A c w hA hc ho => (refPageGet_any A N c U w hA hc ho).mono fun e w' h => ⟨_, h.1 h1, fun _ => rfl, fun h => absurd h hg, h.2.2.2.2.2⟩⟩
  by_cases h2 : 264 < N
  · have hg : ¬ Good N U := fun h => by have := h.1; omega
    exact ⟨0, 51, fun A c w hA hc ho ht => (pageGet_any A N c U w hA hc ho ht).mono fun e w' h => ⟨_, h.2.1 h2, fun _ => rfl, fun h => absurd h hg, h.2.2.2.2.2⟩, fun A c w hA hc ho => (refPageGet_any A N c U w hA hc ho).mono fun e w' h => ⟨_, h.2.1 h2, fun _ => rfl, fun h => absurd h hg, h.2.2.2.2.2⟩⟩
  obtain rfl : N = 264 := by omega
  by_cases h3 : Pl.Ends U 260
  · by_cases h4 : numberOf U < 4096
    · have hg : Good 264 U := ⟨rfl, h3, h4⟩
      exact ⟨((numberOf U : Nat) : Int), 0, fun A c w hA hc ho ht => (pageGet_any A 264 c U w hA hc ho ht).mono fun e w' h => by
        obtain ⟨v, e1, hv⟩ := h.2.2.2.2.1 rfl h3 h4
        exact ⟨v, e1, fun h => absurd hg h, fun _ => hv, h.2.2.2.2.2⟩, fun A c w hA hc ho => (refPageGet_any A 264 c U w hA hc ho).mono fun e w' h => ⟨_, h.2.2.2.2.1 rfl h3 h4, fun h => absurd hg h, fun _ => rfl, h.2.2.2.2.2⟩⟩
    · have hg : ¬ Good 264 U := fun h => h4 h.2.2
      exact ⟨0, 10, fun A c w hA hc ho ht => (pageGet_any A 264 c U w hA hc ho ht).mono fun e w' h => ⟨_, h.2.2.2.1 rfl h3 (by omega), fun _ => rfl, fun h => absurd h hg, h.2.2.2.2.2⟩, fun A c w hA hc ho => (refPageGet_any A 264 c U w hA hc ho).mono fun e w' h => ⟨_, h.2.2.2.1 rfl h3 (by omega), fun _ => rfl, fun h => absurd h hg, h.2.2.2.2.2⟩⟩
  · have hg : ¬ Good 264 U := fun h => h3 h.2.1
    exact ⟨0, 40, fun A c w hA hc ho ht => (pageGet_any A 264 c U w hA hc ho ht).mono fun e w' h => ⟨_, h.2.2.1 rfl h3, fun _ => rfl, fun h => absurd h hg, h.2.2.2.2.2⟩, fun A c w hA hc ho => (refPageGet_any A 264 c U w hA hc ho).mono fun e w' h => ⟨_, h.2.2.1 rfl h3, fun _ => rfl, fun h => absurd h hg, h.2.2.2.2.2⟩⟩

/-- bytes of which the first i are turned about. -/
def flipTo (U : Nat → Nat) (i : Nat) : Nat → Nat := fun j => if j < i then U j ^^^ 255 else U j
theorem flipTo_zero (U : Nat → Nat) : flipTo U 0 = U := rfl
theorem flipTo_here (U : Nat → Nat) (i : Nat) : flipTo U i i = U i := by unfold flipTo; rw [if_neg (by omega)]
theorem flipTo_next (U : Nat → Nat) (i : Nat) : flipTo U (i + 1) = fun j => if i = j then U i ^^^ 255 else flipTo U i j := by
  funext j
  unfold flipTo
  by_cases h : i = j
  · subst h; rw [if_pos (by omega), if_pos rfl]
  · rw [if_neg h]
    by_cases h2 : j < i
    · rw [if_pos h2, if_pos (by omega)]
    · rw [if_neg h2, if_neg (by omega)]
/-- a row of the call's own, where a cell of an older block has turned. -/
theorem row_far {w : World} {B n : Nat} {t : TypeId} {v : Value} {cs : List Value} (h : w.ownsRow B t 1 v n cs) {p : Addr} (hp : p.block < B) (u : Value) : (w.setCell p u).ownsRow B t 1 v n cs := by
  refine h.kept (row := some p.block) ⟨rfl, rfl, rfl, by simp [World.setCell], fun i hi hne => Below.heap_setCell w p u i (fun e => hne (by rw [e]))⟩ ?_
  by_cases e : v.ownBlock = none
  · exact .inl e
  · right
    intro e2
    rcases h.2 with ⟨rfl, _⟩ | ⟨g, cap, cur, rfl, hb, _⟩
    · exact e rfl
    · have : some g = some p.block := e2
      injection this with this
      omega
theorem conv_nil (V : Nat → Nat) (W : World) : (convert 22 9 (.slice none 0 0)).run Tryd.prog W = .ok (.string (bstr V 0)) W :=
  conv_bytes none 0 0 V W fun k hk => absurd hk (by omega)
theorem str_refl (a : ByteArray) : (a.toList == a.toList) = true := str_same rfl

set_option maxRecDepth 100000 in
set_option maxHeartbeats 3200000 in
theorem walk_short (A : Option Addr) (n c : Nat) (V : Nat → Nat) (s : Bool) (w : World) (hA : A = none → n = 0 ∧ c = 0) (ho : Bys w w.heap.size A n V) (hn : n ≤ 2000) (ht : Tabs w) :
    Calls Tryd.prog 4 #[.slice A n c, .bool s] w fun e w' => e = .returned (.bool true) ∧ Below w.heap.size w w' := by
  have HT := Lib.hid ht
  have HO := Lib.hid ho
  have HV := Lib.hid (ho.lt)
  have HF := Lib.hid (pfirst_any w ht)
  have HA := Lib.hid hA
  have hd : decide ((2000 : Int) < (n : Int)) = false := by simp; omega
  clear ho ht hA
  go_enter Tryd.func4, Tryd.ntmps4
  go_wp2_with fail
  refine HF.out.mono ?_
  rintro e w0 ⟨rfl, hb0⟩
  have HW := Lib.hid (World.ownsRow_made (base := w0.heap.size) (e := 5) (size := 1) w0 #[] 0 (Nat.le_refl _) (by unfold maxLen; omega) rfl)
  have hBa : Below w0.heap.size w0 (w0.alloc (.cells #[] 5)) := (Below.refl _ _).alloc (Nat.le_refl _) _
  have hsa := hBa.size
  have HO1 := Lib.hid ((HO.out.below hb0).mono_ hb0.size)
  clear HF
  go_upto_region 6 with (at_builtin; refine step_append_bytes rfl (.tmp 19) (.tmp 20) rfl rfl HW.out rfl HA.out (HO1.out.below hBa) hsa (by omega) ?_; intro v5 w5 hown5 hb5)
  have hB5 := hb0.trans ((hBa.trans hb5).mono hb0.size)
  have h5 := hown5.out
  rw [List.nil_append, Nat.zero_add] at h5
  obtain ⟨X, cx, rfl, hXA, hXc, hXo⟩ := row_bys h5 HV.out
  have HX := Lib.hid hXo
  have HXA := Lib.hid hXA
  clear hown5 hb5 h5 hXo HW hBa hsa HO1 hXA
  obtain ⟨b, hb⟩ : ∃ b, (s && decide ((260 : Int) ≤ (n : Int))) = b := ⟨_, rfl⟩
  go_cut [5, 27] (fun p q wx => p = .slice X n cx ∧ q = .bool b ∧ wx = w5)
  case first =>
    cases s
    · obtain rfl : b = false := by rw [← hb]; rfl
      go_wp2_with fail
      go_meet
      exact ⟨rfl, rfl, rfl⟩
    · have hd2 : decide ((260 : Int) ≤ (n : Int)) = b := by rw [← hb]; rfl
      go_wp2_with fail
      go_meet
      exact ⟨rfl, rfl, rfl⟩
  case rest =>
  obtain ⟨rfl, rfl, rfl⟩ := hcut
  have HB := Lib.hid hb
  clear hb
  refine (‹∀ (a : Act) (w : World), Code.wp _ _ _ a w → _›) _ _ ?_
  go_cut [5] (fun p wx => ∃ (N : Nat) (U : Nat → Nat) (Y : Option Addr) (cy : Nat), p = .slice Y N cy ∧ N ≤ 2004 ∧ Hid (Y = none → N = 0 ∧ cy = 0) ∧ N ≤ cy ∧ Hid (Bys wx wx.heap.size Y N U) ∧ Below w.heap.size w wx)
  case first =>
    cases b
    · go_wp2_with fail
      go_meet
      exact ⟨n, V, X, cx, rfl, by omega, HXA, hXc, HX, hB5⟩
    · have hn2 : 260 ≤ n := by
        have := HB.out
        simp at this
        omega
      have hc6 : (260 : Int) ≤ (cx : Int) := by omega
      obtain ⟨ad, rfl⟩ : ∃ ad, X = some ad := by
        rcases X with _ | ad
        · have := (HXA.out rfl).1; omega
        · exact ⟨ad, rfl⟩
      have HR := Lib.hid (refPut_any (some ad) 260 cx V _ (by decide) (fun e => (by cases e)) (HX.out.take hn2))
      go_wp2_with fail
      refine HR.out.mono ?_
      rintro e w6 ⟨v, rfl, hv, hb6⟩
      have hlt : ∀ k, behind V 260 k < 256 := fun k => behind_lt (fun j hj => HV.out j (by omega)) k
      obtain ⟨Y, cy, rfl, hYA, hYc, hYo⟩ := row_bys hv (fun k _ => hlt k)
      have H1 := Lib.hid hYA
      have H2 := Lib.hid hYo
      clear hYA hYo hv hlt
      go_wp2_with fail
      go_meet
      exact ⟨264, behind V 260, Y, cy, rfl, by decide, H1, hYc, H2, hB5.trans (hb6.mono hB5.size)⟩
  case rest =>
    obtain ⟨N, U, Y, cy, rfl, hN, HYA, hYc, HY, hB⟩ := hcut
    have hUl := HY.out.lt
    have HU := Lib.hid hUl
    obtain ⟨m, k, hget, href⟩ := get_both N U
    have HR := Lib.hid href
    have HG := Lib.hid hget
    have HW := Lib.hid (World.ownsRow_made (base := wc.heap.size) (e := 5) (size := 1) wc #[] 0 (Nat.le_refl _) (by unfold maxLen; omega) rfl)
    have hBa : Below wc.heap.size wc (wc.alloc (.cells #[] 5)) := (Below.refl _ _).alloc (Nat.le_refl _) _
    have hsa := hBa.size
    clear hUl href hget HX HXA hXc hb0 HO HA
    go_wp2_with (at_builtin; refine step_append_bytes rfl (.tmp 31) (.tmp 32) rfl rfl HW.out rfl HYA.out (HY.out.below hBa) hsa (by omega) ?_; intro v6 w6 hown6 hb6)
    have hB6 := hBa.trans hb6
    have h6 := hown6.out
    rw [List.nil_append, Nat.zero_add] at h6
    obtain ⟨Z, cz, rfl, hZA, hZc, hZo⟩ := row_bys h6 HU.out
    have H6 := Lib.hid h6
    have HG1 := Lib.hid (HG.out Z cz w6 hZA hZc hZo (HT.out.keep (hB.trans (hB6.mono hB.size))))
    have HZ := Lib.hid hZo
    clear HG h6 hown6 hb6 HW hBa hsa hZA hZo
    refine HG1.out.mono ?_
    rintro e w7 ⟨v, rfl, hv1, hv2, hb7⟩
    have hB7 := hB6.trans (hb7.mono hB6.size)
    have H7 := Lib.hid (ownsRow_keep H6.out hb7)
    have HV1 := Lib.hid hv1
    have HV2 := Lib.hid hv2
    have hs67 := hb7.size
    clear HG1 H6 hv1 hv2 hb7 hB6 hZc
    go_wp2_with fail
    go_loopw [10, 42] (fun _ q wr => ∃ i : Nat, i ≤ N ∧ q = .int .i64 (i : Int) ∧ Hid (wr.ownsRow wc.heap.size 5 1 (.slice Z N cz) N (ycells (flipTo U i) N)) ∧ Hid (Good N U → wr.ownsRow w6.heap.size 5 1 v 256 (ycells U 256)) ∧ Below wc.heap.size wc wr) (fun _ q _ => N - (intOf q).toNat)
    case atStart => exact ⟨0, Nat.zero_le _, rfl, H7, HV2, hB7⟩
    case round =>
      obtain ⟨i, hi, rfl, hrow, hc, hb⟩ := hrel
      by_cases hlt : i < N
      · obtain ⟨g, cap, hform⟩ := Joins.ownsRow_form hrow.out (by omega)
        cases hform
        have hgw : wc.heap.size ≤ g := (hrow.out.lt g rfl).1
        have hg6 : g < w6.heap.size := by
          obtain ⟨_, e1, hlt6, _, _⟩ := HZ.out i hlt
          cases e1
          exact hlt6
        have hcell := row_cell hrow.out hlt
        have hfz := hrow.out.frozenAt i
        rw [flipTo_here] at hcell
        have hUi := HU.out i hlt
        have HXR := Lib.hid (show bits .xor .u8 ((U i : Nat) : Int) 255 = ((U i ^^^ 255 : Nat) : Int) from u8_xor_nat (U i) 255 hUi (by decide))
        have hiN : (i : Int) < (N : Int) := by omega
        have HNx := Lib.hid (flipTo_next U i)
        go_wp2_with fail
        go_roundw
        case rel =>
          rw [HXR.out]
          refine ⟨i + 1, by omega, by go_num, Lib.hid ?_, Lib.hid (fun h => row_far (hc.out h) hg6 _), hb.setCell hgw _⟩
          rw [HNx.out]
          exact row_store hrow.out
        case measure => simp [intOf]; omega
      · obtain rfl : i = N := by omega
        have hYr := HY.out.below hb
        have HR1 := Lib.hid (HR.out Y cy wr HYA.out hYc (hYr.mono_ hb.size))
        have hr := str_refl
        have hcn := conv_nil U
        clear HR
        go_wp2_with fail
        refine HR1.out.mono ?_
        rintro e w9 ⟨u, rfl, hu1, hu2, hb9⟩
        have hB9 := hB.trans ((hb.trans (hb9.mono hb.size)).mono hB.size)
        by_cases hg : Good i U
        · obtain rfl := hu2 hg
          have hc1 := row_conv (ownsRow_keep (hc.out hg) hb9) (fun k hk => HU.out k (by have := hg.1; omega))
          have hc2 := (((hYr.mono_ hb.size).below hb9).take (m := 256) (by have := hg.1; omega)).conv cy
          clear hu1 hu2 hYr HR1
          go_wp2_with fail
          go_ret
          exact ⟨rfl, hB9⟩
        · obtain rfl := hu1 hg
          obtain rfl := HV1.out hg
          clear hu1 hu2 hYr HR1
          go_wp2_with fail
          go_ret
          exact ⟨rfl, hB9⟩

set_option maxRecDepth 100000 in
theorem walk (A : Option Addr) (n c : Nat) (V : Nat → Nat) (s : Bool) (w : World) (_hcm : c ≤ maxLen) (hA : A = none → n = 0 ∧ c = 0) (_hc : n ≤ c) (ho : Bys w w.heap.size A n V) (ht : Tabs w) :
    Calls Tryd.prog 4 #[.slice A n c, .bool s] w fun e w' => e = .returned (.bool true) ∧ Below w.heap.size w w' := by
  by_cases h1 : 2000 < n
  · have HF := Lib.hid (pfirst_any w ht)
    have hd : decide ((2000 : Int) < (n : Int)) = true := by simp; omega
    clear ho ht hA
    go_enter Tryd.func4, Tryd.ntmps4
    go_wp2_with fail
    refine HF.out.mono ?_
    rintro e w0 ⟨rfl, hb0⟩
    go_wp2_with fail
    go_ret
    exact ⟨rfl, hb0⟩
  · exact walk_short A n c V s w hA ho (by omega) ht

theorem own : ownKnob Tryd.prog.godebug = none := by kernel_rfl
theorem laidOut : laidOutB Tryd.prog = true := by kernel_rfl

set_option maxRecDepth 100000 in
theorem lifted (os : Os) (started : os.Started) (H : Type) (enc : TypeId × Value → H) :
    ReturnsInHanded {} Tryd.checked os 4 .any (fun w args => (Rows.pageGetsSpec.pre enc Tryd.prog Tryd.f4 [] false w args ∧ laidMetH Tryd.prog laidL w) ∧ sizedMet enc Tryd.prog Tryd.f4 (OpenSpec.ofChange Rows.pageGetsSpec) false w args)
      (Rows.pageGetsSpec.post enc Tryd.prog Tryd.f4 false true false false) := by
  refine returnsInHanded_of_change_and (C := Tryd.checked) (X := fun w _ => laidMetH Tryd.prog laidL w) (fun _ _ _ hh h => h.of_heap hh) own started (by kernel_rfl) Tryd.func4
    (ChangeSpec.witness_shaped (enc := enc) (C := Tryd.checked) (os := os) (X := fun w _ => laidMetH Tryd.prog laidL w) false (World.doorLaid Tryd.prog 400 os) #[.slice none 0 0, .bool false] 8 rfl (World.shaped_of_RefB (by kernel_rfl) (by kernel_rfl)) (by kernel_rfl) (by kernel_rfl) (by kernel_rfl) (door_met os _)) ?_
  intro W base args ds gs before hval0 hW _ _ hL _
  have hval : ∀ (j : Nat) t v, Tryd.f4.params[j]? = some t → args[j]? = some v → Value.okWide Tryd.prog W .any base t v := hval0
  have hW' := hW
  obtain ⟨p, q, hA0, hV, rfl, hfz, hnd⟩ := hW
  have hA : DataW.TrodAll enc Tryd.prog W 0 (fun _ => true) true Tryd.f4.params.toList args.toList ds p := hA0
  rw [Tryd.params4] at hA hval
  obtain ⟨v0, v1, d0, d1, p0, p1, rfl, rfl, rfl, h0, h1⟩ := trodAll_two hA
  obtain ⟨rfl, rfl⟩ := trodVars_none hV
  obtain ⟨A0, n0, c0, V0, rfl, hn0, hz0, hc0, ho0⟩ := open_bytesc (hval 0 22 v0 rfl rfl) h0
  obtain ⟨a1, rfl, rfl, rfl⟩ := open_bool Tryd.underlying4 (hval 1 4 v1 rfl rfl) h1
  clear hA0 hval0
  refine (walk A0 n0 c0 V0 a1 W hn0 hz0 hc0 ho0 (tabs_of_laid hL)).mono fun e W' ⟨he, hg⟩ => ?_
  subst he
  exact ⟨_, rfl, law_post laidOut rfl rfl rfl (by rw [Tryd.params4]; decide +kernel) hW' hg⟩

/-- The row. -/
theorem holds : Rows.PageGetsSaid :=
  OpenClaim.holds_of_wide 4 Tryd.f4 rfl rfl rfl rfl rfl rfl rfl ⟨rfl, rfl, rfl, rfl, rfl⟩ rfl rfl rfl rfl rfl (by kernel_rfl) Tryd.func4 (by kernel_rfl)
    (of_decide_eq_true (by kernel_rfl)) (by unfold Func.isWrapper; first | (rw [if_pos (by decide +kernel)]; kernel_rfl) | (rw [if_neg (by decide +kernel)]; exact ⟨rfl, rfl⟩))
    (fun os started H enc _ => lifted os started H enc)
/-- The statement: the row's card. -/
theorem proved : Rows.PageGetsCardSaid :=
  Claim7.holds_tied_plain_at .later [] Rows.pageGetsCard.laidKinds Rows.pageGetsCard.laidTests Rows.pageGetsCard.stood.harness Rows.pageGetsCard.stood.looks
    holds (fun _ h => by cases h) (by kernel_rfl) (fun _ h => by cases h) pageGets_row_tie rfl ⟨rfl, rfl⟩ (by kernel_rfl) rfl
    (fun f fn hf hfn => by
      obtain rfl : f = 4 := Option.some.inj ((show Tryd.prog.funcNamed "colophon/colophonlaw05.PageGets" = some 4 by kernel_rfl).symm.trans hf) |>.symm
      obtain rfl : fn = Tryd.f4 := (Option.some.inj (Tryd.func4.symm.trans hfn)).symm
      exact ⟨by kernel_rfl, fun j t ht => by
        have hm : t ∈ Tryd.f4.params.toList := by simpa using Array.mem_of_getElem? ht
        have hall : (Tryd.f4.params.toList.all fun u => !Tryd.prog.wantsStandIn u) = true := by kernel_rfl
        exact (show Tryd.prog.wantsStandIn t = false by simpa using List.all_eq_true.1 hall t hm)⟩)
    (by kernel_rfl)
#print axioms proved
end Go.Proofs.YtmkbaifmhbmdpaaDoor.pageGets
