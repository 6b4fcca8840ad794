/- For every input colophonlaw04.CrcRows returns true, and its arguments read as they read. No condition but that the two tables lie as the program's text lays them (the card ties it). -/
import Derived.Test.YtfpmipfegjchmaaDoorCrcLaw
import Derived.Laws.OwnMore
import Derived.Deep.CutBlock
import Derived.Deep.DeepCutAuto
namespace Go.Proofs.YtfpmipfegjchmaaDoor.crcRows
open Go.ChangeShapes Go.WideShapes Go.ChangeAt Go.RowKit

/-- bytes of which the first i bits of a row are turned. -/
def turnedTo (U : Nat → Nat) (k t i : Nat) : Nat → Nat := fun j => (List.range i).foldl (fun y b => if (k + b) / 8 = j ∧ t.testBit b = true then y ^^^ 2 ^ ((k + b) % 8) else y) (U j)
theorem turnedTo_zero (U : Nat → Nat) (k t : Nat) : turnedTo U k t 0 = U := rfl
theorem turnedTo_succ (U : Nat → Nat) (k t i j : Nat) : turnedTo U k t (i + 1) j = if (k + i) / 8 = j ∧ t.testBit i = true then turnedTo U k t i j ^^^ 2 ^ ((k + i) % 8) else turnedTo U k t i j := by
  unfold turnedTo
  rw [List.range_succ, List.foldl_append]
  rfl
theorem turnedTo_lt {U : Nat → Nat} {k t : Nat} (hU : ∀ j, U j < 256) : ∀ i j, turnedTo U k t i j < 256
  | 0, j => hU j
  | i + 1, j => by
    rw [turnedTo_succ]
    split
    · have h1 := turnedTo_lt (k := k) (t := t) hU i j
      have h2 : 2 ^ ((k + i) % 8) < 2 ^ 8 := Nat.pow_lt_pow_right (by decide) (Nat.mod_lt _ (by decide))
      exact Nat.xor_lt_two_pow (n := 8) h1 h2
    · exact turnedTo_lt hU i j
theorem bit_pow (a b : Nat) : (2 ^ a).testBit b = decide (a = b) := by
  rw [Nat.testBit_two_pow]
/-- which bits are turned then. -/
theorem turnedTo_bit (U : Nat → Nat) (k t : Nat) : ∀ i x, Pl.bitB (turnedTo U k t i) x = (Pl.bitB U x ^^ (decide (k ≤ x) && decide (x - k < i) && t.testBit (x - k)))
  | 0, x => by simp [turnedTo_zero]
  | i + 1, x => by
    have ih := turnedTo_bit U k t i x
    unfold Pl.bitB at ih ⊢
    rw [turnedTo_succ]
    by_cases hx : x = k + i
    · subst hx
      have e : (decide (k ≤ k + i) && decide (k + i - k < i + 1) && t.testBit (k + i - k)) = t.testBit i := by
        rw [show k + i - k = i by omega]; simp
      have e0 : (decide (k ≤ k + i) && decide (k + i - k < i) && t.testBit (k + i - k)) = false := by
        rw [show k + i - k = i by omega]; simp
      rw [e0, Bool.xor_false] at ih
      rw [e]
      cases hb : t.testBit i
      · rw [if_neg (by simp), ih, Bool.xor_false]
      · rw [if_pos ⟨rfl, rfl⟩, Nat.testBit_xor, ih, bit_pow]
        simp
    · have e : (decide (k ≤ x) && decide (x - k < i + 1) && t.testBit (x - k)) = (decide (k ≤ x) && decide (x - k < i) && t.testBit (x - k)) := by
        by_cases hk : k ≤ x
        · have : (x - k < i + 1) ↔ (x - k < i) := by omega
          simp [this]
        · simp [hk]
      rw [e, ← ih]
      split
      · rename_i h
        rw [Nat.testBit_xor, bit_pow]
        have : ¬ (k + i) % 8 = x % 8 := by omega
        simp [this]
      · rfl
theorem turnedTo_all (U : Nat → Nat) (k t x : Nat) (ht : t < 2 ^ 32) : Pl.bitB (turnedTo U k t 32) x = (Pl.bitB U x ^^ Pl.burst k t x) := by
  rw [turnedTo_bit]
  unfold Pl.burst
  congr 1
  by_cases hk : k ≤ x
  · by_cases h : x - k < 32
    · simp [h]
    · have : t.testBit (x - k) = false := Nat.testBit_lt_two_pow (Nat.lt_of_lt_of_le ht (Nat.pow_le_pow_right (by decide) (by omega)))
      simp [this]
  · simp [hk]
theorem ycells_put (U : Nat → Nat) (n q y : Nat) : (ycells U n).set q (.int .u8 (y : Int)) = ycells (fun j => if q = j then y else U j) n := by
  apply List.ext_getElem
  · simp [ycells_length]
  · intro i h1 h2
    simp only [List.getElem_set, ycells, List.getElem_map, List.getElem_range]
    by_cases e : q = i
    · rw [if_pos e, if_pos e]
    · rw [if_neg e, if_neg e]
theorem bit_test32 (t i : Nat) (ht : t < 2 ^ 32) : (bits .and .u32 ((t : Int) / 2 ^ i) 1 == 1) = t.testBit i := by
  rw [shr_u]
  have hl : t / 2 ^ i < 2 ^ 32 := Nat.lt_of_le_of_lt (Nat.div_le_self _ _) ht
  have e := u32_and_nat (t / 2 ^ i) 1 (by omega) (by omega)
  rw [Nat.and_one_is_mod] at e
  have e2 : bits .and .u32 ((t / 2 ^ i : Nat) : Int) 1 = ((t / 2 ^ i % 2 : Nat) : Int) := e
  rw [e2, ← Nat.shiftRight_eq_div_pow]
  have e3 := Nat.testBit_zero (t >>> i)
  rw [Nat.testBit_shiftRight, Nat.add_zero] at e3
  rw [e3]
  rcases Nat.mod_two_eq_zero_or_one (t >>> i) with h | h <;> simp [h]
theorem u32_nat {a : Int} (h : (Lit.int .u32 a).wf = true) : ∃ x : Nat, x < 2 ^ 32 ∧ a = (x : Int) := by
  simp [Lit.wf, IntKind.min, IntKind.max, IntKind.bits, IntKind.signed] at h
  exact ⟨a.toNat, by omega, by omega⟩

set_option maxRecDepth 100000 in
set_option maxHeartbeats 3200000 in
theorem walk_nat (A : Option Addr) (n c : Nat) (V : Nat → Nat) (i : Int) (t : Nat) (w : World) (hA : A = none → n = 0 ∧ c = 0) (hc : n ≤ c) (ho : Bys w w.heap.size A n V) (htl : t < 2 ^ 32) (ht : Tabs w) :
    Calls Tryd.prog 5 #[.slice A n c, .int .i64 i, .int .u32 (t : Int)] w fun e w' => e = .returned (.bool true) ∧ Below w.heap.size w w' := by
  have HT := Lib.hid ht
  have HO := Lib.hid ho
  have HF := Lib.hid (cfirst_any w ht)
  have HA := Lib.hid hA
  obtain ⟨m, hm⟩ : ∃ m, min n 2000 = m := ⟨_, rfl⟩
  have hmn : m ≤ n := by omega
  have hm1 : m ≤ 2000 := by omega
  have HM := Lib.hid hm
  have HP : ∀ W, Below w.heap.size w W → Hid (Calls Tryd.prog 9 #[.slice A m c] W (PutPost W m V)) := fun W hW =>
    Lib.hid (put_any A m c V W (by omega) (fun e => ⟨by have := HA.out e; omega, (HA.out e).2⟩) (((HO.out.below hW).mono_ hW.size).take hmn) (HT.out.keep hW))
  obtain ⟨N, hN⟩ : ∃ N, m + 4 = N := ⟨_, rfl⟩
  have hN4 : 4 ≤ N := by omega
  have hN1 : N ≤ 2004 := by omega
  have HN := Lib.hid hN
  clear ho ht hm hA hN
  go_enter Tryd.func5, Tryd.ntmps5
  go_wp2_with fail
  refine HF.out.mono ?_
  rintro e w0 ⟨rfl, hb0⟩
  have HP1 := HP w0 hb0
  go_upto_region 3 with (fail)
  go_cut [7] (fun s wx => Hid (wx.ownsRow w.heap.size 5 1 s N (ycells (behind V m) N)) ∧ Below w.heap.size w wx)
  case first =>
    by_cases hs : (2000 : Int) < (n : Int)
    · obtain rfl : m = 2000 := by have := HM.out; omega
      go_wp2_with fail
      refine HP1.out.mono ?_
      rintro e w1 ⟨p, rfl, hp, hb1⟩
      go_wp2_with fail
      go_meet
      exact ⟨Lib.hid (by rw [← HN.out]; exact ownsRow_lower hp hb0.size), hb0.trans (hb1.mono hb0.size)⟩
    · obtain rfl : n = m := by have := HM.out; omega
      go_wp2_with fail
      refine HP1.out.mono ?_
      rintro e w1 ⟨p, rfl, hp, hb1⟩
      go_wp2_with fail
      go_meet
      exact ⟨Lib.hid (by rw [← HN.out]; exact ownsRow_lower hp hb0.size), hb0.trans (hb1.mono hb0.size)⟩
  case rest =>
    obtain ⟨hown, hB⟩ := hcut
    obtain ⟨g, cap, rfl⟩ := Joins.ownsRow_form hown.out (by omega)
    have hg : w.heap.size ≤ g := (hown.out.lt g rfl).1
    have hNlt : decide ((N : Int) < 4) = false := by simp; omega
    have hNge : decide ((4 : Int) ≤ (N : Int)) = true := by simp; omega
    clear HP HP1 hb0
    by_cases ht0 : t = 0
    · subst ht0
      go_wp2_with fail
      go_ret
      exact ⟨rfl, hB⟩
    · obtain ⟨q, hq⟩ : ∃ q, 8 * N - 31 = q := ⟨_, rfl⟩
      have hqi : (8 * (N : Int) - 31) = (q : Int) := by omega
      obtain ⟨k, hk, hkq⟩ := turn_num i q (by omega) (by omega)
      have hk3 : wrap64 ((IntKind.u64.wrap i).tmod (q : Int)) = (k : Int) := hk
      have HQ := Lib.hid hq
      have hkN : k + 32 ≤ 8 * N := by omega
      have ht1 : ((t : Int) == 0) = false := by rw [beq_eq_false_iff_ne]; omega
      have hw8 : IntKind.i64.wrap (8 * (N : Int)) = 8 * (N : Int) := IntWalk.i64_in _ (by omega)
      have hwq : IntKind.i64.wrap (8 * (N : Int) - 31) = (q : Int) := by rw [hqi]; exact IntWalk.i64_in _ (by omega)
      have hwq2 : IntKind.u64.wrap (q : Int) = (q : Int) := by rw [IntKind.wrap_u64]; omega
      clear hq hk
      go_wp2_with fail
      rw [hk3]
      clear hk3 hwq hwq2 hw8 hqi ht1 hNlt hNge HF
      have hU0 := fun j => behind_lt (V := V) (n := m) ((HO.out.take hmn).lt) j
      have HU0 := Lib.hid hU0
      clear hU0
      go_loopw [9] (fun v wr => ∃ i : Nat, i ≤ 32 ∧ v = .int .i64 (i : Int) ∧ Hid (wr.ownsRow w.heap.size 5 1 (.slice (some ⟨g, 0, none⟩) N cap) N (ycells (turnedTo (behind V m) k t i) N)) ∧ Below w.heap.size w wr) (fun v _ => 32 - (intOf v).toNat)
      case atStart => exact ⟨0, by decide, rfl, hown, hB⟩
      case round =>
        clear hB hown
        obtain ⟨j, hj, rfl, hrow, hB⟩ := hrel
        by_cases hlt : j < 32
        · have hbt := bit_test32 t j htl
          have hj32 : (j : Int) < 32 := by omega
          cases hb : t.testBit j
          · rw [hb] at hbt
            have HE := Lib.hid (show turnedTo (behind V m) k t (j + 1) = turnedTo (behind V m) k t j by
              funext x
              rw [turnedTo_succ, if_neg (by rw [hb]; simp)])
            go_wp2_with fail
            go_roundw
            case rel => exact ⟨j + 1, by omega, by go_num, by rw [HE.out]; exact hrow, hB⟩
            case measure => simp [intOf]; omega
          · rw [hb] at hbt
            have hp8 : (k + j) / 8 < N := by omega
            obtain ⟨z, hz⟩ : ∃ z, (k + j) / 8 = z := ⟨_, rfl⟩
            obtain ⟨r, hr⟩ : ∃ r, (k + j) % 8 = r := ⟨_, rfl⟩
            have hr8 : r < 8 := by omega
            have hcell := (hrow.out.cellAt z (by omega)).trans (ycells_at _ _ _ (by omega))
            have hfz := hrow.out.frozenAt z
            have hy := turnedTo_lt (k := k) (t := t) HU0.out j z
            have HE := Lib.hid (show turnedTo (behind V m) k t (j + 1) = fun x => if z = x then turnedTo (behind V m) k t j z ^^^ 2 ^ r else turnedTo (behind V m) k t j x by
              funext x
              rw [turnedTo_succ, hz, hr]
              by_cases hx : z = x
              · subst hx; rw [if_pos ⟨rfl, hb⟩, if_pos rfl]
              · rw [if_neg (fun h => hx h.1), if_neg hx])
            have hst := fun u => hrow.out.stored z u
            have HST := Lib.hid hst
            generalize hyy : turnedTo (behind V m) k t j z = y at hcell hy HE
            have hkj : (k : Int) + (j : Int) = ((k + j : Nat) : Int) := by omega
            have hd8 : ((k : Int) + (j : Int)) / 8 = (z : Int) := by omega
            have hm8 : ((k : Int) + (j : Int)) % 8 = (r : Int) := by omega
            have hzN : (z : Int) < (N : Int) := by omega
            clear hkj hst hz hr hyy
            have HXR := Lib.hid (show bits .xor .u8 (y : Int) (2 ^ r % 256) = ((y ^^^ 2 ^ r : Nat) : Int) by
              have hp : 2 ^ r < 256 := by
                have : 2 ^ r < 2 ^ 8 := Nat.pow_lt_pow_right (by decide) hr8
                simpa using this
              have e : (2 : Int) ^ r % 256 = ((2 ^ r : Nat) : Int) := by
                have h1 : ((2 ^ r : Nat) : Int) = (2 : Int) ^ r := by simp
                rw [← h1]
                exact Int.emod_eq_of_lt (Int.natCast_nonneg _) (Int.ofNat_lt.2 hp)
              rw [e]
              exact u8_xor_nat y (2 ^ r) hy hp)
            go_wp2_with fail
            go_roundw
            case rel =>
              rw [HXR.out]
              refine ⟨j + 1, by omega, by go_num, Lib.hid ?_, hB.setCell hg _⟩
              rw [HE.out, ← ycells_put]
              exact (HST.out _).1
            case measure => simp [intOf]; omega
        · have hj32 : j = 32 := by omega
          subst hj32
          have hUlt := fun x => turnedTo_lt (k := k) (t := t) HU0.out 32 x
          obtain ⟨X, cx, hX, hXA, hXc, hXo⟩ := row_bys hrow.out (fun x _ => hUlt x)
          obtain ⟨rfl, _, rfl⟩ : some ⟨g, 0, none⟩ = X ∧ N = N ∧ cap = cx := by simpa using hX
          have HC := Lib.hid (cut_any (some ⟨g, 0, none⟩) N cap (turnedTo (behind V m) k t 32) wr (by omega) hXA hXc hXo (HT.out.keep hB))
          have hno : ¬ Pl.Ends (turnedTo (behind V m) k t 32) m := Pl.turned_no (behind_ends V m) htl ht0 (k := k) (by have := HN.out; omega) (fun x _ => turnedTo_all (behind V m) k t x htl)
          have HNO := Lib.hid hno
          clear hno hX hXo hrow hXA
          go_wp2_with fail
          refine HC.out.mono ?_
          rintro e w5 ⟨_, h2, _, hb5⟩
          obtain rfl := h2 m HN.out.symm HNO.out
          clear h2
          go_wp2_with fail
          go_ret
          exact ⟨rfl, hB.trans (hb5.mono hB.size)⟩

theorem walk (A : Option Addr) (n c : Nat) (V : Nat → Nat) (i a : Int) (w : World) (_hcm : c ≤ maxLen) (hA : A = none → n = 0 ∧ c = 0) (hc : n ≤ c) (ho : Bys w w.heap.size A n V) (_hi : (Lit.int .i64 i).wf = true) (ha : (Lit.int .u32 a).wf = true) (ht : Tabs w) :
    Calls Tryd.prog 5 #[.slice A n c, .int .i64 i, .int .u32 a] w fun e w' => e = .returned (.bool true) ∧ Below w.heap.size w w' := by
  obtain ⟨t, htl, rfl⟩ := u32_nat ha
  exact walk_nat A n c V i t w hA hc ho htl ht

theorem own : ownKnob Tryd.prog.godebug = none := by kernel_rfl
theorem laidOut : laidOutB Tryd.prog = true := by kernel_rfl

set_option maxRecDepth 100000 in
theorem lifted (os : Os) (started : os.Started) (H : Type) (enc : TypeId × Value → H) :
    ReturnsInHanded {} Tryd.checked os 5 .any (fun w args => (Rows.crcRowsSpec.pre enc Tryd.prog Tryd.f5 [] false w args ∧ laidMetH Tryd.prog laidL w) ∧ sizedMet enc Tryd.prog Tryd.f5 (OpenSpec.ofChange Rows.crcRowsSpec) false w args)
      (Rows.crcRowsSpec.post enc Tryd.prog Tryd.f5 false true false false) := by
  refine returnsInHanded_of_change_and (C := Tryd.checked) (X := fun w _ => laidMetH Tryd.prog laidL w) (fun _ _ _ hh h => h.of_heap hh) own started (by kernel_rfl) Tryd.func5
    (ChangeSpec.witness_shaped (enc := enc) (C := Tryd.checked) (os := os) (X := fun w _ => laidMetH Tryd.prog laidL w) false (World.doorLaid Tryd.prog 400 os) #[.slice none 0 0, .int .i64 0, .int .u32 0] 8 rfl (World.shaped_of_RefB (by kernel_rfl) (by kernel_rfl)) (by kernel_rfl) (by kernel_rfl) (by kernel_rfl) (door_met os _)) ?_
  intro W base args ds gs before hval0 hW _ _ hL _
  have hval : ∀ (j : Nat) t v, Tryd.f5.params[j]? = some t → args[j]? = some v → Value.okWide Tryd.prog W .any base t v := hval0
  have hW' := hW
  obtain ⟨p, q, hA0, hV, rfl, hfz, hnd⟩ := hW
  have hA : DataW.TrodAll enc Tryd.prog W 0 (fun _ => true) true Tryd.f5.params.toList args.toList ds p := hA0
  rw [Tryd.params5] at hA hval
  obtain ⟨v0, v1, v2, d0, d1, d2, p0, p1, p2, rfl, rfl, rfl, h0, h1, h2⟩ := trodAll_three hA
  obtain ⟨rfl, rfl⟩ := trodVars_none hV
  obtain ⟨A0, n0, c0, V0, rfl, hn0, hz0, hc0, ho0⟩ := open_bytesc (hval 0 22 v0 rfl rfl) h0
  obtain ⟨a1, rfl, rfl, rfl, wa1⟩ := open_int Tryd.underlying3 (hval 1 3 v1 rfl rfl) h1
  obtain ⟨a2, rfl, rfl, rfl, wa2⟩ := open_int Tryd.underlying26 (hval 2 26 v2 rfl rfl) h2
  clear hA0 hval0
  refine (walk A0 n0 c0 V0 a1 a2 W hn0 hz0 hc0 ho0 wa1 wa2 (tabs_of_laid hL)).mono fun e W' ⟨he, hg⟩ => ?_
  subst he
  exact ⟨_, rfl, law_post laidOut rfl rfl rfl (by rw [Tryd.params5]; decide +kernel) hW' hg⟩

/-- The row. -/
theorem holds : Rows.CrcRowsSaid :=
  OpenClaim.holds_of_wide 5 Tryd.f5 rfl rfl rfl rfl rfl rfl rfl ⟨rfl, rfl, rfl, rfl, rfl⟩ rfl rfl rfl rfl rfl (by kernel_rfl) Tryd.func5 (by kernel_rfl)
    (of_decide_eq_true (by kernel_rfl)) (by unfold Func.isWrapper; first | (rw [if_pos (by decide +kernel)]; kernel_rfl) | (rw [if_neg (by decide +kernel)]; exact ⟨rfl, rfl⟩))
    (fun os started H enc _ => lifted os started H enc)
/-- The statement: the row's card. -/
theorem proved : Rows.CrcRowsCardSaid :=
  Claim7.holds_tied_plain_at .later [] Rows.crcRowsCard.laidKinds Rows.crcRowsCard.laidTests Rows.crcRowsCard.stood.harness Rows.crcRowsCard.stood.looks
    holds (fun _ h => by cases h) (by kernel_rfl) (fun _ h => by cases h) crcRows_row_tie rfl ⟨rfl, rfl⟩ (by kernel_rfl) rfl
    (fun f fn hf hfn => by
      obtain rfl : f = 5 := Option.some.inj ((show Tryd.prog.funcNamed "colophon/colophonlaw04.CrcRows" = some 5 by kernel_rfl).symm.trans hf) |>.symm
      obtain rfl : fn = Tryd.f5 := (Option.some.inj (Tryd.func5.symm.trans hfn)).symm
      exact ⟨by kernel_rfl, fun j t ht => by
        have hm : t ∈ Tryd.f5.params.toList := by simpa using Array.mem_of_getElem? ht
        have hall : (Tryd.f5.params.toList.all fun u => !Tryd.prog.wantsStandIn u) = true := by kernel_rfl
        exact (show Tryd.prog.wantsStandIn t = false by simpa using List.all_eq_true.1 hall t hm)⟩)
    (by kernel_rfl)
#print axioms proved
end Go.Proofs.YtfpmipfegjchmaaDoor.crcRows
