/- For every input colophonlaw01.PackFrom returns true, and its arguments read as they read. No condition. -/
import Derived.Test.YtlpoingajmogkaaRef
import Derived.Deep.QuietTactic
import Derived.BigQuiet
namespace Go.Proofs.Ytlpoingajmogkaa.packFrom
open Go.ChangeShapes Go.WideShapes Go.ChangeAt Go.RowKit

set_option maxHeartbeats 800000 in
/-- too many words, or too many numbers. -/
theorem walk_far (a b : Int) (A : Option Addr) (n c : Nat) (w : World) (h : 2000 < n ∨ (3000 < b ∧ b ≤ 4194304)) :
    Calls Try.prog 4 #[.int .i64 a, .int .i64 b, .slice A n c] w fun e w' => e = .returned (.bool true) ∧ Below w.heap.size w w' := by
  have HF := Lib.hid (first_any w)
  by_cases h0 : 2000 < n
  · clear h
    go_enter Try.func4, Try.ntmps4
    go_wp2_with fail
    refine HF.out.mono ?_
    rintro e w1 ⟨rfl, hb1⟩
    go_wp2_with fail
    go_ret
    exact ⟨rfl, hb1⟩
  · have h1 : 3000 < b := by omega
    have h2 : b ≤ 4194304 := by omega
    clear h
    go_enter Try.func4, Try.ntmps4
    go_wp2_with fail
    refine HF.out.mono ?_
    rintro e w1 ⟨rfl, hb1⟩
    go_wp2_with fail
    go_ret
    exact ⟨rfl, hb1⟩

set_option maxHeartbeats 800000 in
/-- From, of arguments that may not be. -/
theorem walk_bad (a b : Int) (A : Option Addr) (n c : Nat) (V : Nat → Nat) (w : World) (ho : Wds w w.heap.size A n V) (hA : A = none → n = 0 ∧ c = 0) (hn : n ≤ 2000) (hb : rightB a b = false) (hbb : b ≤ 3000 ∨ 4194304 < b) :
    Calls Try.prog 4 #[.int .i64 a, .int .i64 b, .slice A n c] w fun e w' => e = .returned (.bool true) ∧ Below w.heap.size w w' := by
  have HF := Lib.hid (first_any w)
  have HB := Lib.hid hb
  by_cases hb3 : b ≤ 3000
  all_goals
    have hb4 : b ≤ 3000 ∨ 4194304 < b := hbb
    first | (have hb5 : b ≤ 3000 := hb3) | (have hb5 : 4194304 < b := by omega)
    clear hbb hb4 hb3
    go_enter Try.func4, Try.ntmps4
    go_wp2_with fail
    refine HF.out.mono ?_
    rintro e w1 ⟨rfl, hb1⟩
    have HW := Lib.hid ((ho.below hb1).mono_ hb1.size)
    have HA := Lib.hid hA
    have hs1 := hb1.size
    go_wp2_with (at_builtin; refine step_append_words rfl (.tmp 27) (.tmp 28) rfl rfl rfl hs1 (by omega) HA.out HW.out ?_; intro g c' w2 HR hb2 hb3)
    refine (from_bad a b g n c' HB.out w2).mono ?_
    rintro e w' ⟨rfl, rfl⟩
    have hbB := hb1.trans (hb2.mono (Nat.le_refl _))
    go_wp2_with fail
    refine (right_any a b _).mono ?_
    rintro e w' ⟨rfl, rfl⟩
    rw [HB.out]
    go_wp2_with fail
    go_ret
    exact ⟨rfl, hbB⟩

theorem xor_num (x y : Nat) (hx : x < 2 ^ 64) (hy : y < 2 ^ 64) : bits .xor .u64 (x : Int) (y : Int) = ((x ^^^ y : Nat) : Int) := bits_xor_u64_nat x y (by omega) (by omega)
theorem quiet_more {w : World} {f : FuncId} {args : Array Value} {a m : Nat} {v : Value} (h : Calls Try.prog f args (w.drewN (a + m)) fun e w' => e = .returned v ∧ w.drewN (a + m) = w') :
    Calls Try.prog f args (w.drewN (a + m)) fun e w'' => e = .returned v ∧ ∃ j, w'' = w.drewN (a + j) := h.mono fun _ _ hh => ⟨hh.1, m, hh.2.symm⟩

/-- a list of words, at blocks from lo on. -/
def Lst (w : World) (lo : Nat) (A : Option Addr) (m : Nat) (x : Nat → Nat) : Prop :=
  ∀ k, k < m → ∃ ad : Addr, A = some ad ∧ lo ≤ ad.block ∧ ad.block < w.heap.size ∧ w.cell? (ad.add k) = some (.int .u64 ((x k : Nat) : Int))
theorem Lst.of_own {w : World} {B m : Nat} {v : Value} {x : Nat → Nat} (h : w.ownsRow B 30 1 v m (wcells ((List.range m).map x))) : ∃ A c, v = .slice A m c ∧ Lst w B A m x := by
  have hlt := h.lt
  rcases h.2 with ⟨rfl, rfl⟩ | ⟨g, cap, cur, rfl, hg, hh, _⟩
  · exact ⟨none, 0, rfl, fun k hk => absurd hk (by omega)⟩
  · refine ⟨some ⟨g, 0, none⟩, cap, rfl, fun k hk => ⟨⟨g, 0, none⟩, rfl, hg, (hlt g rfl).2, ?_⟩⟩
    have e : (⟨g, 0, none⟩ : Addr).add k = ⟨g, k, none⟩ := by unfold Addr.add; split <;> simp_all
    rw [e, h.cellAt k (by omega), wcells_at _ k (by simp; exact hk)]
    rw [List.getD_eq_getElem?_getD, List.getElem?_map, List.getElem?_range hk]
    rfl
theorem Lst.grown {w w' : World} {lo g m : Nat} {A : Option Addr} {x : Nat → Nat} (h : Lst w lo A m x) (hb : w.grownBy w' (some g)) (hg : g < lo) : Lst w' lo A m x := fun k hk => by
  obtain ⟨ad, e, h1, h2, h3⟩ := h k hk
  exact ⟨ad, e, h1, Nat.lt_of_lt_of_le h2 hb.size, hb.cell h3 (by rw [add_block]; intro e; injection e; omega)⟩

set_option maxHeartbeats 800000 in
/-- From, of words that are no list. -/
theorem walk_form (k m : Nat) (A : Option Addr) (n c : Nat) (V : Nat → Nat) (w : World) (ho : Wds w w.heap.size A n V) (hA : A = none → n = 0 ∧ c = 0) (hn : n ≤ 2000) (hk1 : 1 ≤ k) (hk : k ≤ 64) (hm : m ≤ 3000) (hj : justB (wsOf V n) (k * m) = false) :
    Calls Try.prog 4 #[.int .i64 (k : Int), .int .i64 (m : Int), .slice A n c] w fun e w' => e = .returned (.bool true) ∧ Below w.heap.size w w' := by
  have HF := Lib.hid (first_any w)
  have HB := Lib.hid (show rightB (k : Int) (m : Int) = true by unfold rightB; simp; omega)
  have HJ := Lib.hid hj
  have HL := Lib.hid (wsOf_length V n)
  clear hj
  go_enter Try.func4, Try.ntmps4
  go_wp2_with fail
  refine HF.out.mono ?_
  rintro e w1 ⟨rfl, hb1⟩
  have HW := Lib.hid ((ho.below hb1).mono_ hb1.size)
  have HA := Lib.hid hA
  have hs1 := hb1.size
  go_wp2_with (at_builtin; refine step_append_words rfl (.tmp 27) (.tmp 28) rfl rfl rfl hs1 (by omega) HA.out HW.out ?_; intro g c' w2 HR hb2 hb3)
  have hbB := hb1.trans hb2
  have hfrom := from_form k m g c' (wsOf V n) hk1 hk (by omega) w2 (HR.out.src HL.out.symm) (by rw [HL.out]; omega) HJ.out
  rw [HL.out] at hfrom
  refine hfrom.mono ?_
  rintro e w' ⟨rfl, rfl⟩
  clear hfrom
  go_wp2_with fail
  refine (right_any (k : Int) (m : Int) _).mono ?_
  rintro e w' ⟨rfl, rfl⟩
  rw [HB.out]
  have hw2 := ((ho.below hbB).mono_ hbB.size).named
  have hlist := list_no k m A c (wsOf V n) w2 hk hm ho.small (by rw [HL.out]; omega) (by rw [HL.out]; exact hw2) HJ.out
  rw [HL.out] at hlist
  have HLi := Lib.hid hlist
  clear hlist hw2
  go_wp2_with fail
  refine HLi.out.mono ?_
  rintro e w' ⟨rfl, rfl⟩
  go_wp2_with fail
  go_ret
  exact ⟨rfl, hbB⟩

set_option maxHeartbeats 1600000 in
/-- From, of words that are a list. -/
theorem walk_ok (k m : Nat) (A : Option Addr) (n c : Nat) (V : Nat → Nat) (x : Nat → Nat) (w : World) (ho : Wds w w.heap.size A n V) (hA : A = none → n = 0 ∧ c = 0) (hn : n ≤ 2000) (hm : m ≤ 3000) (hh : Pl.Holds (wsOf V n) k m x) :
    Calls Try.prog 4 #[.int .i64 (k : Int), .int .i64 (m : Int), .slice A n c] w fun e w' => e = .returned (.bool true) ∧ Below w.heap.size w w' := by
  have HF := Lib.hid (first_any w)
  have hk1 := hh.w1
  have hk := hh.w64
  have HB := Lib.hid (show rightB (k : Int) (m : Int) = true by unfold rightB; simp; omega)
  have HJ := Lib.hid (show justB (wsOf V n) (k * m) = true by rw [Nat.mul_comm]; exact just_of_holds hh)
  have HL := Lib.hid (wsOf_length V n)
  go_enter Try.func4, Try.ntmps4
  go_wp2_with fail
  refine HF.out.mono ?_
  rintro e w1 ⟨rfl, hb1⟩
  have HW := Lib.hid ((ho.below hb1).mono_ hb1.size)
  have HA := Lib.hid hA
  have hs1 := hb1.size
  go_wp2_with (at_builtin; refine step_append_words rfl (.tmp 27) (.tmp 28) rfl rfl rfl hs1 (by omega) HA.out HW.out ?_; intro g c' w2 HR hb2 hb3)
  have hbB := hb1.trans hb2
  have hfrom := from_any k m g c' (wsOf V n) hk1 hk (by omega) w2 (HR.out.src HL.out.symm) HJ.out
  rw [HL.out] at hfrom
  refine hfrom.mono ?_
  rintro e w3 ⟨gp, gsp, rfl, hgp, hgsp, hp, hb4⟩
  have hgl := HR.out.lt
  have hR3 := HR.out.below hb4 hgl.2
  have hF3 : Full w3 gp gsp k m (wsOf V n) x := ⟨hp, hh, by omega⟩
  have hbB3 : Below w.heap.size w w3 := hbB.trans (hb4.mono hbB.size)
  clear hfrom hp hb1 hb2 hb3 HW
  go_wp2_with fail
  refine (right_any (k : Int) (m : Int) _).mono ?_
  rintro e w' ⟨rfl, rfl⟩
  rw [HB.out]
  have hw3 := ((ho.below hbB3).mono_ hbB3.size).named
  have hlist := list_yes x k m A c (wsOf V n) w3 hm (by rw [HL.out]; omega) (by rw [HL.out]; exact hw3) hh
  rw [HL.out] at hlist
  have HLi := Lib.hid hlist
  clear hlist hw3
  go_wp2_with fail
  refine HLi.out.mono ?_
  rintro e w4 ⟨v, rfl, hown, hb5⟩
  obtain ⟨A2, c2, rfl, hlst⟩ := Lst.of_own hown
  have hgw3 := hb4.size
  have hR4 := hR3.below hb5 (by omega)
  have hF4 := hF3.below hb5 hF3.pk.head.lt hF3.pk.body.lt
  have hB4 : Below w.heap.size w w4 := hbB3.trans (hb5.mono hbB3.size)
  have hgw : w.heap.size ≤ g := by omega
  have hglo : g < w3.heap.size := by omega
  clear hown hb4 hb5 hR3 hF3 hbB hbB3 HR HLi
  go_wp2_with fail
  go_loopw [64] (fun v wr => ∃ (i : Nat) (ws' : List Nat), i ≤ n ∧ v = .int .i64 (i : Int) ∧ ws'.length = n ∧ Pl.Small ws' ∧ Row wr w.heap.size g n c' ws' ∧ Full wr gp gsp k m (wsOf V n) x ∧ Lst wr w3.heap.size A2 m x ∧ Below w.heap.size w wr) (fun v _ => n - (intOf v).toNat)
  case atStart => exact ⟨0, _, Nat.zero_le _, rfl, HL.out, ho.small, hR4, hF4, hlst, hB4⟩
  case round =>
    clear hR4 hF4 hB4 hlst
    obtain ⟨i, ws', hi, rfl, hl', hs', hR, hFu, hlst, hB⟩ := hrel
    by_cases hlt : i < n
    · have hcell := hR.at_ hl'.symm i hlt
      obtain ⟨y, hy⟩ : ∃ y, ws'.getD i 0 = y := ⟨_, rfl⟩
      have hy64 : y < 2 ^ 64 := by rw [← hy]; exact hs'.at_ _
      rw [hy] at hcell
      have hfz := hR.free i
      have HL' := Lib.hid hl'
      clear hl' hy
      go_wp2_with fail
      go_roundw
      case rel =>
        rw [show bits .xor .u64 (y : Int) 5 = ((y ^^^ 5 : Nat) : Int) from xor_num y 5 hy64 (by decide)]
        refine ⟨i + 1, ws'.set i (y ^^^ 5), by omega, by go_num, by rw [List.length_set]; exact HL'.out, hs'.set_ i (Nat.xor_lt_two_pow hy64 (by decide)), hR.put i _, hFu.far ?_ ?_ _, hlst.grown (grownBy_put (grownBy_of_below (Below.refl _ _) _) i _) hglo, hB.setCell hgw _⟩
        · show gp ≠ g
          omega
        · show gsp ≠ g
          omega
      case measure => simp [intOf]; omega
    · clear hR hl' hs'
      have HLn := Lib.hid (len_any hFu.pk)
      have hwo := words_any hFu.pk hFu.short
      unfold CopyPost at hwo
      rw [HL.out] at hwo
      have HWo := Lib.hid hwo
      clear hwo
      go_wp2_with fail
      refine HLn.out.mono ?_
      rintro e w' ⟨rfl, rfl⟩
      go_wp2_with fail
      refine HWo.out.mono ?_
      rintro e w5 ⟨g7, rfl, hg7, hl7, hb7⟩
      have hF5 := hFu.below hb7 hFu.pk.head.lt hFu.pk.body.lt
      have hB5 : Below w.heap.size w w5 := hB.trans (hb7.mono hB.size)
      have hlst5 : Lst w5 w3.heap.size A2 m x := fun q hq => by
        obtain ⟨ad, e, h1, h2, h3⟩ := hlst q hq
        exact ⟨ad, e, h1, Nat.lt_of_lt_of_le h2 hb7.size, (hb7.cell (by rw [add_block]; exact h2)).trans h3⟩
      have hW1 : Wds w5 w5.heap.size (some ⟨g7, 0, none⟩) n (fun q => (wsOf V n).getD q 0) := fun q hq => by
        refine ⟨⟨g7, 0, none⟩, rfl, hl7.lt, ?_, ho.small.at_ q⟩
        have e : (⟨g7, 0, none⟩ : Addr).add q = ⟨g7, q, none⟩ := by unfold Addr.add; split <;> simp_all
        rw [e, hl7.cell q]
        exact wcells_at _ q (by rw [HL.out]; exact hq)
      have hW2 : Wds w5 w5.heap.size A n (fun q => (wsOf V n).getD q 0) := ((ho.below hB5).mono_ hB5.size).named
      have HSa := Lib.hid (same_yes (some ⟨g7, 0, none⟩) A n n c (fun q => (wsOf V n).getD q 0) w5.heap.size w5 (by omega) hW1 hW2)
      clear hlst hb7 hFu hB hl7 hW1 hW2
      go_wp2_with fail
      refine HSa.out.mono ?_
      rintro e w6 ⟨rfl, hb8⟩
      have hF6 := hF5.below hb8 hF5.pk.head.lt hF5.pk.body.lt
      have hB6 : Below w.heap.size w w6 := hB5.trans (hb8.mono hB5.size)
      have hlst6 : Lst w6 w3.heap.size A2 m x := fun q hq => by
        obtain ⟨ad, e, h1, h2, h3⟩ := hlst5 q hq
        exact ⟨ad, e, h1, Nat.lt_of_lt_of_le h2 hb8.size, (hb8.cell (by rw [add_block]; exact h2)).trans h3⟩
      clear hF5 hb8 hB5 hlst5
      go_wp2_with fail
      go_loopw [91] (fun v wq => ∃ j q : Nat, j ≤ m ∧ v = .int .i64 (j : Int) ∧ wq = w6.drewN q) (fun v _ => m - (intOf v).toNat)
      case atStart => exact ⟨0, 0, Nat.zero_le _, rfl, rfl⟩
      case round =>
        obtain ⟨j, q, hj, rfl, rfl⟩ := hrel
        by_cases hltj : j < m
        · obtain ⟨ad, rfl, hlo, had, hcell⟩ := hlst6 j hltj
          have G : ∀ q, Hid (Calls Try.prog 14 #[.pointer (some ⟨gp, 0, none⟩), .int .i64 (j : Int)] (w6.drewN q) fun e w' => e = .returned (.int .u64 ((x j : Nat) : Int)) ∧ w6.drewN q = w') := fun q => Lib.hid ((hF6.drewN q).get j hltj)
          go_wp2_with fail
          go_quiet ((go_at_call 14; exact quiet_more (G _).out))
          go_wp2_with fail
          go_roundw
          case rel => exact ⟨j + 1, _, by omega, by go_num, rfl⟩
          case measure => simp [intOf]; omega
        · go_wp2_with fail
          go_ret
          exact ⟨rfl, below_drewN' hB6 _⟩

theorem holds_of_just {ws : List Nat} {k m : Nat} (hs : Pl.Small ws) (h1 : 1 ≤ k) (h64 : k ≤ 64) (hj : justB ws (k * m) = true) : Pl.Holds ws k m (Pl.getN ws k) := by
  have hc : m * k = k * m := Nat.mul_comm _ _
  unfold justB at hj
  simp only [Bool.and_eq_true, Bool.or_eq_true, decide_eq_true_eq] at hj
  obtain ⟨hl, hx⟩ := hj
  refine ⟨h1, h64, by rw [hc]; exact hl, hs, fun i _ => ?_, fun i j _ hj => ?_, fun b hb => ?_⟩
  · unfold Pl.getN
    exact Nat.and_lt_two_pow _ (by have := Nat.two_pow_pos k; omega)
  · rw [Pl.getN_testBit ws hs k i j h64]
    simp [hj]
  · rw [hc] at hb
    unfold Pl.bitAt
    by_cases hin : b / 64 < ws.length
    · have hq : b / 64 = ws.length - 1 := by omega
      have hr : ¬ k * m % 64 = 0 := by omega
      rcases hx with hx | hx
      · exact absurd hx hr
      · rw [hq]
        have e : b % 64 = k * m % 64 + (b % 64 - k * m % 64) := by omega
        rw [e, ← Pl.tb_div, hx]
        simp
    · rw [List.getD_eq_getElem?_getD, List.getElem?_eq_none (by omega)]
      simp

theorem walk (a b : Int) (A : Option Addr) (n c : Nat) (V : Nat → Nat) (w : World) (ho : Wds w w.heap.size A n V) (hA : A = none → n = 0 ∧ c = 0) :
    Calls Try.prog 4 #[.int .i64 a, .int .i64 b, .slice A n c] w fun e w' => e = .returned (.bool true) ∧ Below w.heap.size w w' := by
  by_cases hfar : 2000 < n ∨ (3000 < b ∧ b ≤ 4194304)
  · exact walk_far a b A n c w hfar
  · cases hr : rightB a b with
    | false => exact walk_bad a b A n c V w ho hA (by omega) hr (by omega)
    | true =>
      unfold rightB at hr
      simp only [decide_eq_true_eq] at hr
      obtain ⟨k, rfl⟩ : ∃ k : Nat, a = (k : Int) := ⟨a.toNat, by omega⟩
      obtain ⟨m, rfl⟩ : ∃ m : Nat, b = (m : Int) := ⟨b.toNat, by omega⟩
      cases hj : justB (wsOf V n) (k * m) with
      | false => exact walk_form k m A n c V w ho hA (by omega) (by omega) (by omega) (by omega) hj
      | true => exact walk_ok k m A n c V _ w ho hA (by omega) (by omega) (holds_of_just ho.small (by omega) (by omega) hj)

theorem own : ownKnob Try.prog.godebug = none := by kernel_rfl
theorem laidOut : laidOutB Try.prog = true := by kernel_rfl

set_option maxRecDepth 100000 in
theorem lifted (os : Os) (started : os.Started) (H : Type) (enc : TypeId × Value → H) :
    ReturnsInHanded {} Try.checked os 4 .any (Rows.packFromSpec.pre6 enc Try.prog Try.f4 Rows.packFromRow.domain false) (Rows.packFromSpec.post enc Try.prog Try.f4 false true false false) := by
  refine returnsInHanded_of_change (C := Try.checked) own started (by kernel_rfl) Try.func4
    (ChangeSpec.witness6 (enc := enc) (C := Try.checked) false ⟨#[], #[.int .i64 0, .int .i64 0, .slice none 0 0], []⟩ 8 (by kernel_rfl) (by kernel_rfl) (by kernel_rfl) (by kernel_rfl)) ?_
  intro W base args ds gs before hval0 hW hcnd _
  have hval : ∀ (j : Nat) t v, Try.f4.params[j]? = some t → args[j]? = some v → Value.okWide Try.prog W .any base t v := hval0
  have hW' := hW
  obtain ⟨p, q, hA0, hV, rfl, hfz, hnd⟩ := hW
  have hA : DataW.TrodAll enc Try.prog W 0 (fun _ => true) true Try.f4.params.toList args.toList ds p := hA0
  rw [Try.params4] at hA hval
  obtain ⟨v0, v1, v2, d0, d1, d2, p0, p1, p2, rfl, rfl, rfl, h0, h1, h2⟩ := trodAll_three hA
  obtain ⟨rfl, rfl⟩ := trodVars_none hV
  obtain ⟨a, rfl, rfl, rfl, wa⟩ := open_int Try.underlying3 (hval 0 3 v0 rfl rfl) h0
  obtain ⟨b, rfl, rfl, rfl, wb⟩ := open_int Try.underlying3 (hval 1 3 v1 rfl rfl) h1
  obtain ⟨A, n, c, V, rfl, hn, hA2, ho⟩ := open_words (hval 2 32 v2 rfl rfl) h2
  clear hA0 hval0
  refine (walk a b A n c V W ho hA2).mono fun e W' ⟨he, hg⟩ => ?_
  subst he
  exact ⟨_, rfl, law_post laidOut rfl rfl rfl (by rw [Try.params4]; decide +kernel) hW' hg⟩

/-- The statement. -/
theorem proved : Rows.PackFromSaid :=
  OpenClaim.holds_of_wide 4 Try.f4 rfl rfl rfl rfl rfl rfl rfl ⟨rfl, rfl, rfl, rfl, rfl⟩ rfl rfl rfl rfl rfl (by kernel_rfl) Try.func4 (by kernel_rfl)
    (of_decide_eq_true (by kernel_rfl)) (by unfold Func.isWrapper; first | (rw [if_pos (by decide +kernel)]; kernel_rfl) | (rw [if_neg (by decide +kernel)]; exact ⟨rfl, rfl⟩))
    (fun os started H enc _ => lifted os started H enc)
#print axioms proved
end Go.Proofs.Ytlpoingajmogkaa.packFrom
