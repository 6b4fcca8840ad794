/- For every input colophonlaw05.PageRows returns true, and its arguments read as they read. No condition but that the two tables lie as the program's text lays them (the card ties it). -/
import Derived.Test.YtmkbaifmhbmdpaaDoorCrcLaw
import Derived.Test.YtmkbaifmhbmdpaaDoorPageFirst
import Derived.Test.YtmkbaifmhbmdpaaDoorTurned
import Derived.Test.YtmkbaifmhbmdpaaDoorArr
namespace Go.Proofs.YtmkbaifmhbmdpaaDoor.pageRows
open Go.ChangeShapes Go.WideShapes Go.ChangeAt Go.RowKit

set_option maxRecDepth 100000 in
set_option maxHeartbeats 3200000 in
theorem walk_bad (A : Option Addr) (n c : Nat) (V : Nat → Nat) (a : Int) (r t : Nat) (w : World) (hA : A = none → n = 0 ∧ c = 0) (ho : Bys w w.heap.size A n V) (hbad : ¬ (0 ≤ a ∧ a ≤ 4095 ∧ n ≤ 256)) (ht : Tabs w) :
    Calls Tryd.prog 5 #[.int .i64 a, .slice A n c, .agg #[.int .u32 (r : Int), .int .u32 (t : Int)]] w fun e w' => e = .returned (.bool true) ∧ Below w.heap.size w w' := by
  have HT := Lib.hid ht
  have HO := Lib.hid ho
  have hbx : Below w.heap.size w (w.alloc (.cells #[.int .u32 (r : Int), .int .u32 (t : Int)] 37)) := (Below.refl _ _).alloc (Nat.le_refl _) _
  have HF := Lib.hid (pfirst_any _ (HT.out.keep hbx))
  have HP := Lib.hid (fun W (hW : Below w.heap.size w W) => Lib.hid (pagePut_form A n c V a W hA ((HO.out.below hW).mono_ hW.size) (HT.out.keep hW)))
  clear ho ht hA
  go_enter Tryd.func5, Tryd.ntmps5
  go_wp2_with fail
  refine HF.out.mono ?_
  rintro e w0 ⟨rfl, hb0⟩
  have hB0 := hbx.trans (hb0.mono hbx.size)
  have HP1 := HP.out w0 hB0
  clear HF hbx hb0
  go_wp2_with fail
  refine HP1.out.mono ?_
  rintro e w1 ⟨x, k, rfl, h1, h2, hb1⟩
  have hB1 := hB0.trans (hb1.mono hB0.size)
  obtain ⟨hk, rfl⟩ := h2 hbad
  have hk0 : (k == 0) = false := by rw [beq_eq_false_iff_ne]; exact hk
  clear HP1 h1 h2 hbad
  go_wp2_with fail
  go_ret
  exact ⟨rfl, hB1⟩

set_option maxRecDepth 100000 in
set_option maxHeartbeats 3200000 in
theorem walk_good (A : Option Addr) (n c : Nat) (V : Nat → Nat) (m r t : Nat) (w : World) (hA : A = none → n = 0 ∧ c = 0) (ho : Bys w w.heap.size A n V) (hm4 : m ≤ 4095) (hn : n ≤ 256) (htl : t < 2 ^ 32) (ht : Tabs w) :
    Calls Tryd.prog 5 #[.int .i64 (m : Int), .slice A n c, .agg #[.int .u32 (r : Int), .int .u32 (t : Int)]] w fun e w' => e = .returned (.bool true) ∧ Below w.heap.size w w' := by
  have HT := Lib.hid ht
  have HO := Lib.hid ho
  have HV := Lib.hid ho.lt
  have hbx : Below w.heap.size w (w.alloc (.cells #[.int .u32 (r : Int), .int .u32 (t : Int)] 37)) := (Below.refl _ _).alloc (Nat.le_refl _) _
  have HL := Lib.hid (lies_new w 37 [.int .u32 (r : Int), .int .u32 (t : Int)])
  have HF := Lib.hid (pfirst_any _ (HT.out.keep hbx))
  have HP := Lib.hid (fun W (hW : Below w.heap.size w W) => Lib.hid (pagePut_good A n c V m W hm4 hn hA ((HO.out.below hW).mono_ hW.size) (HT.out.keep hW)))
  have hgx := size_alloc w (.cells #[.int .u32 (r : Int), .int .u32 (t : Int)] 37)
  clear ho ht hA
  go_enter Tryd.func5, Tryd.ntmps5
  go_wp2_with fail
  refine HF.out.mono ?_
  rintro e w0 ⟨rfl, hb0⟩
  have hB0 := hbx.trans (hb0.mono hbx.size)
  have HP1 := HP.out w0 hB0
  have HL0 := Lib.hid (HL.out.below hb0 (by rw [size_alloc]; omega))
  have HL0' := HL0
  have hgx0 : w.heap.size < w0.heap.size := by have := hb0.size; rw [size_alloc] at this; omega
  clear HF hbx hb0 HL hgx HP
  go_wp2_with fail
  refine HP1.out.mono ?_
  rintro e w1 ⟨v, rfl, hp, hb1⟩
  have hB1 := hB0.trans (hb1.mono hB0.size)
  have HL1 := Lib.hid (HL0.out.below hb1 hgx0)
  have x0 := HL1.out.cell 0
  have x1 := HL1.out.cell 1
  rw [show ([.int .u32 (r : Int), .int .u32 (t : Int)] : List Value)[0]? = some (.int .u32 (r : Int)) from rfl] at x0
  rw [show ([.int .u32 (r : Int), .int .u32 (t : Int)] : List Value)[1]? = some (.int .u32 (t : Int)) from rfl] at x1
  obtain ⟨g, cap, rfl⟩ := Joins.ownsRow_form hp (by omega)
  have hg0 : w0.heap.size ≤ g := (hp.lt g rfl).1
  have HPo := Lib.hid hp
  have hb1' := hb1
  clear HP1 hp
  by_cases ht0 : t = 0
  · subst ht0
    go_wp2_with fail
    go_ret
    exact ⟨rfl, hB1⟩
  · have ht1 : ((t : Int) == 0) = false := by rw [beq_eq_false_iff_ne]; omega
    obtain ⟨k, hk⟩ : ∃ k, r % 2081 = k := ⟨_, rfl⟩
    have hkN : k + 32 ≤ 2112 := by omega
    have hki : (r : Int).tmod 2081 = (k : Int) := by rw [← hk]; exact tmod_nat r 2081
    have hkw : IntKind.i64.wrap (k : Int) = (k : Int) := IntWalk.i64_in _ (by omega)
    clear hk
    go_wp2_with fail
    have HU0 := Lib.hid (fun j => pageOf_lt (t := m) HV.out j)
    have HBX := Lib.hid hb1
    clear ht1 hkw hki x0 x1 hb1 hb1' HL0
    go_loopw [10] (fun v wr => ∃ i : Nat, i ≤ 32 ∧ v = .int .i64 (i : Int) ∧ Hid (wr.ownsRow w0.heap.size 5 1 (.slice (some ⟨g, 0, none⟩) 264 cap) 264 (ycells (turnedTo (pageOf V n m) k t i) 264)) ∧ Below w0.heap.size w0 wr) (fun v _ => 32 - (intOf v).toNat)
    case atStart => exact ⟨0, by decide, rfl, HPo, HBX.out⟩
    case round =>
      obtain ⟨j, hj, rfl, hrow, hB⟩ := hrel
      have HLr := Lib.hid (HL0'.out.below hB hgx0)
      have x1 := HLr.out.cell 1
      rw [show ([.int .u32 (r : Int), .int .u32 (t : Int)] : List Value)[1]? = some (.int .u32 (t : Int)) from rfl] at x1
      by_cases hlt : j < 32
      · have hbt := bit_test32 t j htl
        have hj32 : (j : Int) < 32 := by omega
        cases hb : t.testBit j
        · rw [hb] at hbt
          have HE := Lib.hid (show turnedTo (pageOf V n m) k t (j + 1) = turnedTo (pageOf V n m) k t j by
            funext x
            rw [turnedTo_succ, if_neg (by rw [hb]; simp)])
          go_wp2_with fail
          go_roundw
          case rel => exact ⟨j + 1, by omega, by go_num, by rw [HE.out]; exact hrow, hB⟩
          case measure => simp [intOf]; omega
        · rw [hb] at hbt
          have hp8 : (k + j) / 8 < 264 := by omega
          obtain ⟨z, hz⟩ : ∃ z, (k + j) / 8 = z := ⟨_, rfl⟩
          obtain ⟨q, hr⟩ : ∃ q, (k + j) % 8 = q := ⟨_, rfl⟩
          have hr8 : q < 8 := by omega
          have hcell := row_cell hrow.out (show z < 264 by omega)
          have hfz := hrow.out.frozenAt z
          have hy := turnedTo_lt (k := k) (t := t) HU0.out j z
          have HE := Lib.hid (show turnedTo (pageOf V n m) k t (j + 1) = fun x => if z = x then turnedTo (pageOf V n m) k t j z ^^^ 2 ^ q else turnedTo (pageOf V n m) k t j x by
            funext x
            rw [turnedTo_succ, hz, hr]
            by_cases hx : z = x
            · subst hx; rw [if_pos ⟨rfl, hb⟩, if_pos rfl]
            · rw [if_neg (fun h => hx h.1), if_neg hx])
          generalize hyy : turnedTo (pageOf V n m) k t j z = y at hcell hy HE
          have hd8 : ((k : Int) + (j : Int)) / 8 = (z : Int) := by omega
          have hm8 : ((k : Int) + (j : Int)) % 8 = (q : Int) := by omega
          have hzN : (z : Int) < 264 := by omega
          have HST := Lib.hid (row_store (q := z) (y := y ^^^ 2 ^ q) hrow.out)
          clear hz hr hyy
          have HXR := Lib.hid (show bits .xor .u8 (y : Int) (2 ^ q % 256) = ((y ^^^ 2 ^ q : Nat) : Int) by
            have hp : 2 ^ q < 256 := by
              have : 2 ^ q < 2 ^ 8 := Nat.pow_lt_pow_right (by decide) hr8
              simpa using this
            have e : (2 : Int) ^ q % 256 = ((2 ^ q : Nat) : Int) := by
              have h1 : ((2 ^ q : Nat) : Int) = (2 : Int) ^ q := by simp
              rw [← h1]
              exact Int.emod_eq_of_lt (Int.natCast_nonneg _) (Int.ofNat_lt.2 hp)
            rw [e]
            exact u8_xor_nat y (2 ^ q) hy hp)
          go_wp2_with fail
          go_roundw
          case rel =>
            rw [HXR.out]
            refine ⟨j + 1, by omega, by go_num, Lib.hid ?_, hB.setCell hg0 _⟩
            rw [HE.out]
            exact HST.out
          case measure => simp [intOf]; omega
      · have hj32 : j = 32 := by omega
        subst hj32
        have hUlt := fun x => turnedTo_lt (k := k) (t := t) HU0.out 32 x
        obtain ⟨X, cx, hX, hXA, hXc, hXo⟩ := row_bys hrow.out (fun x _ => hUlt x)
        cases hX
        have hBw := hB0.trans (hB.mono hB0.size)
        have HG := Lib.hid (pageGet_any (some ⟨g, 0, none⟩) 264 cap (turnedTo (pageOf V n m) k t 32) wr hXA hXc hXo (HT.out.keep hBw))
        have hno : ¬ Pl.Ends (turnedTo (pageOf V n m) k t 32) 260 := Pl.turned_no (pageOf_ends V n m) htl ht0 (k := k) (by omega) (fun x _ => turnedTo_all (pageOf V n m) k t x htl)
        have HNO := Lib.hid hno
        clear hno hXo hXA hUlt
        go_wp2_with fail
        refine HG.out.mono ?_
        rintro e w5 ⟨_, _, h3, _, _, hb5⟩
        obtain rfl := h3 rfl HNO.out
        clear h3
        go_wp2_with fail
        go_ret
        exact ⟨rfl, hBw.trans (hb5.mono hBw.size)⟩

theorem walk (a : Int) (A : Option Addr) (n c : Nat) (V : Nat → Nat) (zs : List Int) (w : World) (_wa : (Lit.int .i64 a).wf = true) (_hcm : c ≤ maxLen) (hA : A = none → n = 0 ∧ c = 0) (_hc : n ≤ c) (ho : Bys w w.heap.size A n V) (hl : zs.length = 2) (hw : ∀ z ∈ zs, (Lit.int .u32 z).wf = true) (ht : Tabs w) :
    Calls Tryd.prog 5 #[.int .i64 a, .slice A n c, .agg (zs.map fun z => Value.int .u32 z).toArray] w fun e w' => e = .returned (.bool true) ∧ Below w.heap.size w w' := by
  obtain ⟨z0, z1, rfl⟩ : ∃ z0 z1, zs = [z0, z1] := by
    match zs, hl with
    | [x, y], _ => exact ⟨x, y, rfl⟩
  obtain ⟨r, _, rfl⟩ := u32_nat (hw z0 (by simp))
  obtain ⟨t, htl, rfl⟩ := u32_nat (hw z1 (by simp))
  by_cases h : 0 ≤ a ∧ a ≤ 4095 ∧ n ≤ 256
  · obtain ⟨m, rfl⟩ : ∃ m : Nat, a = (m : Int) := ⟨a.toNat, by omega⟩
    exact walk_good A n c V m r t w hA ho (by omega) h.2.2 htl ht
  · exact walk_bad A n c V a r t w hA ho h ht

theorem own : ownKnob Tryd.prog.godebug = none := by kernel_rfl
theorem laidOut : laidOutB Tryd.prog = true := by kernel_rfl

set_option maxRecDepth 100000 in
theorem lifted (os : Os) (started : os.Started) (H : Type) (enc : TypeId × Value → H) :
    ReturnsInHanded {} Tryd.checked os 5 .any (fun w args => (Rows.pageRowsSpec.pre enc Tryd.prog Tryd.f5 [] false w args ∧ laidMetH Tryd.prog laidL w) ∧ sizedMet enc Tryd.prog Tryd.f5 (OpenSpec.ofChange Rows.pageRowsSpec) false w args)
      (Rows.pageRowsSpec.post enc Tryd.prog Tryd.f5 false true false false) := by
  refine returnsInHanded_of_change_and (C := Tryd.checked) (X := fun w _ => laidMetH Tryd.prog laidL w) (fun _ _ _ hh h => h.of_heap hh) own started (by kernel_rfl) Tryd.func5
    (ChangeSpec.witness_shaped (enc := enc) (C := Tryd.checked) (os := os) (X := fun w _ => laidMetH Tryd.prog laidL w) false (World.doorLaid Tryd.prog 400 os) #[.int .i64 0, .slice none 0 0, .agg #[.int .u32 0, .int .u32 0]] 8 rfl (World.shaped_of_RefB (by kernel_rfl) (by kernel_rfl)) (by kernel_rfl) (by kernel_rfl) (by kernel_rfl) (door_met os _)) ?_
  intro W base args ds gs before hval0 hW _ _ hL _
  have hval : ∀ (j : Nat) t v, Tryd.f5.params[j]? = some t → args[j]? = some v → Value.okWide Tryd.prog W .any base t v := hval0
  have hW' := hW
  obtain ⟨p, q, hA0, hV, rfl, hfz, hnd⟩ := hW
  have hA : DataW.TrodAll enc Tryd.prog W 0 (fun _ => true) true Tryd.f5.params.toList args.toList ds p := hA0
  rw [Tryd.params5] at hA hval
  obtain ⟨v0, v1, v2, d0, d1, d2, p0, p1, p2, rfl, rfl, rfl, h0, h1, h2⟩ := trodAll_three hA
  obtain ⟨rfl, rfl⟩ := trodVars_none hV
  obtain ⟨a0, rfl, rfl, rfl, wa0⟩ := open_int Tryd.underlying3 (hval 0 3 v0 rfl rfl) h0
  obtain ⟨A1, n1, c1, V1, rfl, hn1, hz1, hc1, ho1⟩ := open_bytesc (hval 1 22 v1 rfl rfl) h1
  obtain ⟨zs2, rfl, hl2, wz2⟩ := open_arr Tryd.underlying37 Tryd.underlying36 (by kernel_rfl) (by kernel_rfl) (hval 2 37 v2 rfl rfl) h2
  clear hA0 hval0
  refine (walk a0 A1 n1 c1 V1 zs2 W wa0 hn1 hz1 hc1 ho1 hl2 wz2 (tabs_of_laid hL)).mono fun e W' ⟨he, hg⟩ => ?_
  subst he
  exact ⟨_, rfl, law_post laidOut rfl rfl rfl (by rw [Tryd.params5]; decide +kernel) hW' hg⟩

/-- The row. -/
theorem holds : Rows.PageRowsSaid :=
  OpenClaim.holds_of_wide 5 Tryd.f5 rfl rfl rfl rfl rfl rfl rfl ⟨rfl, rfl, rfl, rfl, rfl⟩ rfl rfl rfl rfl rfl (by kernel_rfl) Tryd.func5 (by kernel_rfl)
    (of_decide_eq_true (by kernel_rfl)) (by unfold Func.isWrapper; first | (rw [if_pos (by decide +kernel)]; kernel_rfl) | (rw [if_neg (by decide +kernel)]; exact ⟨rfl, rfl⟩))
    (fun os started H enc _ => lifted os started H enc)
/-- The statement: the row's card. -/
theorem proved : Rows.PageRowsCardSaid :=
  Claim7.holds_tied_plain_at .later [] Rows.pageRowsCard.laidKinds Rows.pageRowsCard.laidTests Rows.pageRowsCard.stood.harness Rows.pageRowsCard.stood.looks
    holds (fun _ h => by cases h) (by kernel_rfl) (fun _ h => by cases h) pageRows_row_tie rfl ⟨rfl, rfl⟩ (by kernel_rfl) rfl
    (fun f fn hf hfn => by
      obtain rfl : f = 5 := Option.some.inj ((show Tryd.prog.funcNamed "colophon/colophonlaw05.PageRows" = some 5 by kernel_rfl).symm.trans hf) |>.symm
      obtain rfl : fn = Tryd.f5 := (Option.some.inj (Tryd.func5.symm.trans hfn)).symm
      exact ⟨by kernel_rfl, fun j t ht => by
        have hm : t ∈ Tryd.f5.params.toList := by simpa using Array.mem_of_getElem? ht
        have hall : (Tryd.f5.params.toList.all fun u => !Tryd.prog.wantsStandIn u) = true := by kernel_rfl
        exact (show Tryd.prog.wantsStandIn t = false by simpa using List.all_eq_true.1 hall t hm)⟩)
    (by kernel_rfl)
#print axioms proved
end Go.Proofs.YtmkbaifmhbmdpaaDoor.pageRows
