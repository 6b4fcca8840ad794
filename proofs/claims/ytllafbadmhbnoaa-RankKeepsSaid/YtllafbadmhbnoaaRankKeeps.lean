/- For every input colophonlaw02.RankKeeps returns true, and its arguments read as they read. No condition. -/
import Derived.Test.YtllafbadmhbnoaaRankTurns
namespace Go.Proofs.Ytllafbadmhbnoaa.rankKeeps
open Go.ChangeShapes Go.WideShapes Go.ChangeAt Go.RowKit

theorem cnt_flip {f f' : Nat → Bool} {k : Nat} (hk : f' k = !f k) (h : ∀ j, j ≠ k → f' j = f j) : ∀ {n : Nat}, k < n → Pl.cnt f n + (if f k then 0 else 1) = Pl.cnt f' n + (if f k then 1 else 0)
  | 0, hn => by omega
  | n + 1, hn => by
    rw [Pl.cnt_succ, Pl.cnt_succ]
    by_cases e : k = n
    · subst e
      have hc : Pl.cnt f k = Pl.cnt f' k := Pl.cnt_congr fun j hj => (h j (by omega)).symm
      rw [hk, hc]
      cases f k <;> simp
    · have ih := cnt_flip hk h (n := n) (by omega)
      rw [h n (fun e' => e e'.symm)]
      omega

set_option maxRecDepth 100000 in
set_option maxHeartbeats 3200000 in
theorem walk (A : Option Addr) (n c : Nat) (V : Nat → Nat) (i : Int) (w : World) (hn : n ≤ maxLen) (_hA : A = none → n = 0 ∧ c = 0) (ho : Bys w w.heap.size A n V) (_hk0 : (Lit.int .i64 i).wf = true) :
    Calls Try.prog 6 #[.slice A n c, .int .i64 i] w fun e w' => e = .returned (.bool true) ∧ Below w.heap.size w w' := by
  have HF := Lib.hid (rfirst_any w)
  unfold maxLen at hn
  by_cases hz : n = 0
  · subst hz
    go_enter Try.func6, Try.ntmps6
    go_wp2_with fail
    refine HF.out.mono ?_
    rintro e w1 ⟨rfl, hb1⟩
    go_wp2_with fail
    go_ret
    exact ⟨rfl, hb1⟩
  have hz1 : ((n : Int) == 0) = false := by rw [beq_eq_false_iff_ne]; omega
  by_cases hbig : 2000 < n
  · go_enter Try.func6, Try.ntmps6
    go_wp2_with fail
    refine HF.out.mono ?_
    rintro e w1 ⟨rfl, hb1⟩
    go_wp2_with fail
    go_ret
    exact ⟨rfl, hb1⟩
  have HO := Lib.hid ho
  have hbool : decide ((2000 : Int) < (n : Int)) = false := by simp; omega
  obtain ⟨k, hk, hkn⟩ := rankTurns.rest_num i n (by omega) (by omega)
  have HK := Lib.hid hk
  clear ho hk
  go_enter Try.func6, Try.ntmps6
  go_wp2_with fail
  refine HF.out.mono ?_
  rintro e w0 ⟨rfl, hb0⟩
  have HN := Lib.hid (new_full 1 n (by decide) (by decide) (by omega) w0)
  go_wp2_with fail
  refine HN.out.mono ?_
  rintro e w1 ⟨g, gs, rfl, hg, hgs, hb1, ws, hp⟩
  have hB1 := hb0.trans (hb1.mono hb0.size)
  have hs0 := hb0.size
  clear HN hb0 hb1
  go_wp2_with fail
  go_loopw [33] (fun v wr => ∃ (i : Nat) (x : Nat → Nat) (ws : List Nat), i ≤ n ∧ v = .int .i64 (i : Int) ∧ Full wr g gs 1 n ws x ∧ Hid (∀ j, j < i → x j = V j % 2) ∧ Below w.heap.size w wr) (fun v _ => n - (intOf v).toNat)
  case atStart => exact ⟨0, _, _, Nat.zero_le _, rfl, hp, Lib.hid (fun j hj => absurd hj (by omega)), hB1⟩
  case round =>
    clear hp hB1
    obtain ⟨i, x, ws, hi, rfl, hp, hx, hB⟩ := hrel
    by_cases hlt : i < n
    · obtain ⟨ad, rfl, had, hV, hV8⟩ := (HO.out.below hB) i hlt
      have hlow := low_u8 _ hV8
      obtain ⟨y, hy⟩ : ∃ y, V i % 2 = y := ⟨_, rfl⟩
      rw [hy] at hlow
      have hy1 : y ≤ 1 := by omega
      have HY := Lib.hid hy
      have HS := Lib.hid (hp.set_ i y hlt (by omega))
      have hBs := hB.size
      have HB := Lib.hid hB
      clear hy hp hB
      go_wp2_with fail
      refine HS.out.mono ?_
      rintro e w4 ⟨rfl, ws4, hp4, hg4⟩
      have hB4 := HB.out.trans (below_of_grownBy hg4 (by omega) hBs)
      clear hg4
      go_wp2_with fail
      go_roundw
      case rel =>
        refine ⟨i + 1, _, ws4, by omega, by go_num, hp4, Lib.hid fun j hj => ?_, hB4⟩
        show (if j = i then y else x j) = V j % 2
        by_cases h : j = i
        · rw [if_pos h, h, HY.out]
        · rw [if_neg h]; exact hx.out j (by omega)
      case measure => simp [intOf]; omega
    · have hin : i = n := by omega
      have hxk : x k ≤ 1 := by have := hx.out k (by omega); omega
      have HNv := Lib.hid (vnew_any hp)
      have hlt1 := hp.pk.head.lt
      have hlt2 := hp.pk.body.lt
      have HB := Lib.hid hB
      have hBs := hB.size
      clear hB hx
      go_wp2_with fail
      refine HNv.out.mono ?_
      rintro e w5 ⟨g5, gw5, av5, ws5, rfl, hv, hb5⟩
      have hp5 := hp.below hb5 hlt1 hlt2
      have hB5 := HB.out.trans (hb5.mono hBs)
      have hs5 := hb5.size
      clear HNv HB hb5 hp
      generalize wr.heap.size = lo at *
      obtain ⟨y, hy⟩ : ∃ y, x k = y := ⟨_, rfl⟩
      rw [hy] at hxk
      have hA1 : ∀ {W : World} {B g gw : Nat} {av : Value} {ws : List Nat}, Vc W B g gw av n ws (fun i => (x i).testBit 0) → Hid (Calls Try.prog 16 #[.pointer (some ⟨g, 0, none⟩), .int .i64 (k : Int)] W fun e w' => e = .returned (.bool (y.testBit 0)) ∧ W = w') := fun h => by have c := at_in h k hkn; simp only [hy] at c; exact Lib.hid c
      have hG : Hid (Calls Try.prog 23 #[.pointer (some ⟨g, 0, none⟩), .int .i64 (k : Int)] w5 fun e w' => e = .returned (.int .u64 (y : Int)) ∧ w5 = w') := by have c := hp5.get k hkn; rw [hy] at c; exact Lib.hid c
      have hS := Lib.hid (hp5.set_ k (1 - y) hkn (by omega))
      have HY := Lib.hid hy
      clear hy
      have hy01 : y = 0 ∨ y = 1 := by omega
      clear hxk hp5
      go_wp2_with fail
      rw [HK.out]
      refine (hA1 hv).out.mono ?_
      rintro e w' ⟨rfl, rfl⟩
      have hsub : ((1 - y : Nat) : Int) = 1 - (y : Int) := by omega
      have hyle : (y : Int) ≤ 1 := by omega
      rw [hsub] at hS
      clear hsub
      go_wp2_with fail
      refine hG.out.mono ?_
      rintro e w' ⟨rfl, rfl⟩
      go_wp2_with fail
      refine hS.out.mono ?_
      rintro e w6 ⟨rfl, ws6, hp6, hg6⟩
      have hv6 := hv.old hg6 hlt2
      have hB6 := hB5.trans (below_of_grownBy hg6 (by omega) hB5.size)
      have HN6 := Lib.hid (vnew_any hp6)
      clear hv hg6 hp6 hB5 hS hG
      go_wp2_with fail
      refine HN6.out.mono ?_
      rintro e w7 ⟨g7, gw7, av7, ws7, rfl, hv7, hb7⟩
      have hv67 := hv6.keep hb7
      have hB7 := hB6.trans (hb7.mono hB6.size)
      clear hb7 hv6 HN6 hB6
      have hA7 := at_in hv7 k hkn
      have hO6 := vones_any hv67
      have hO7 := vones_any hv7
      have hA6 := hA1 hv67
      simp only [if_true] at hA7
      have hfl := cnt_flip (f := fun i => (x i).testBit 0) (f' := fun i => (if i = k then 1 - y else x i).testBit 0) (k := k) (by simp only [if_true, HY.out]; rcases hy01 with rfl | rfl <;> rfl) (fun j hj => by simp only [if_neg hj]) hkn
      simp only [HY.out] at hfl
      generalize Pl.cnt (fun i => (x i).testBit 0) n = t1 at *
      generalize Pl.cnt (fun i => (if i = k then 1 - y else x i).testBit 0) n = t2 at *
      have hne : ((t1 : Int) != (t2 : Int)) = true := by
        rcases hy01 with rfl | rfl
        · simp at hfl ⊢; omega
        · simp at hfl ⊢; omega
      rcases hy01 with rfl | rfl
      · have e0 : (0 : Nat).testBit 0 = false := rfl
        have e1 : (1 - 0 : Nat).testBit 0 = true := rfl
        rw [e0] at hA6
        rw [e1] at hA7
        have HA6 := hA6
        have HA7 := Lib.hid hA7
        have HO6 := Lib.hid hO6
        have HO7 := Lib.hid hO7
        clear hfl hA6 hA7 hO6 hO7 hA1 HY
        go_wp2_with fail
        refine HA6.out.mono ?_
        rintro e w' ⟨rfl, rfl⟩
        go_wp2_with fail
        refine HA7.out.mono ?_
        rintro e w' ⟨rfl, rfl⟩
        go_wp2_with fail
        refine HO6.out.mono ?_
        rintro e w' ⟨rfl, rfl⟩
        go_wp2_with fail
        refine HO7.out.mono ?_
        rintro e w' ⟨rfl, rfl⟩
        go_wp2_with fail
        go_ret
        exact ⟨rfl, hB7⟩
      · have e0 : (1 : Nat).testBit 0 = true := rfl
        have e1 : (1 - 1 : Nat).testBit 0 = false := rfl
        rw [e0] at hA6
        rw [e1] at hA7
        have HA6 := hA6
        have HA7 := Lib.hid hA7
        have HO6 := Lib.hid hO6
        have HO7 := Lib.hid hO7
        clear hfl hA6 hA7 hO6 hO7 hA1 HY
        go_wp2_with fail
        refine HA6.out.mono ?_
        rintro e w' ⟨rfl, rfl⟩
        go_wp2_with fail
        refine HA7.out.mono ?_
        rintro e w' ⟨rfl, rfl⟩
        go_wp2_with fail
        refine HO6.out.mono ?_
        rintro e w' ⟨rfl, rfl⟩
        go_wp2_with fail
        refine HO7.out.mono ?_
        rintro e w' ⟨rfl, rfl⟩
        go_wp2_with fail
        go_ret
        exact ⟨rfl, hB7⟩

theorem own : ownKnob Try.prog.godebug = none := by kernel_rfl
theorem laidOut : laidOutB Try.prog = true := by kernel_rfl

set_option maxRecDepth 100000 in
theorem lifted (os : Os) (started : os.Started) (H : Type) (enc : TypeId × Value → H) :
    ReturnsInHanded {} Try.checked os 6 .any (Rows.rankKeepsSpec.pre6 enc Try.prog Try.f6 Rows.rankKeepsRow.domain false) (Rows.rankKeepsSpec.post enc Try.prog Try.f6 false true false false) := by
  refine returnsInHanded_of_change (C := Try.checked) own started (by kernel_rfl) Try.func6
    (ChangeSpec.witness6 (enc := enc) (C := Try.checked) false ⟨#[], #[.slice none 0 0, .int .i64 0], []⟩ 8 (by kernel_rfl) (by kernel_rfl) (by kernel_rfl) (by kernel_rfl)) ?_
  intro W base args ds gs before hval0 hW hcnd _
  have hval : ∀ (j : Nat) t v, Try.f6.params[j]? = some t → args[j]? = some v → Value.okWide Try.prog W .any base t v := hval0
  have hW' := hW
  obtain ⟨p, q, hA0, hV, rfl, hfz, hnd⟩ := hW
  have hA : DataW.TrodAll enc Try.prog W 0 (fun _ => true) true Try.f6.params.toList args.toList ds p := hA0
  rw [Try.params6] at hA hval
  obtain ⟨v0, v1, d0, d1, p0, p1, rfl, rfl, rfl, h0, h1⟩ := trodAll_two hA
  obtain ⟨rfl, rfl⟩ := trodVars_none hV
  obtain ⟨A0, n0, c0, V0, rfl, hn0, hz0, ho0⟩ := open_bytes (hval 0 22 v0 rfl rfl) h0
  obtain ⟨a1, rfl, rfl, rfl, wa1⟩ := open_int Try.underlying3 (hval 1 3 v1 rfl rfl) h1
  clear hA0 hval0
  refine (walk A0 n0 c0 V0 a1 W hn0 hz0 ho0 wa1).mono fun e W' ⟨he, hg⟩ => ?_
  subst he
  exact ⟨_, rfl, law_post laidOut rfl rfl rfl (by rw [Try.params6]; decide +kernel) hW' hg⟩

/-- The statement. -/
theorem proved : Rows.RankKeepsSaid :=
  OpenClaim.holds_of_wide 6 Try.f6 rfl rfl rfl rfl rfl rfl rfl ⟨rfl, rfl, rfl, rfl, rfl⟩ rfl rfl rfl rfl rfl (by kernel_rfl) Try.func6 (by kernel_rfl)
    (of_decide_eq_true (by kernel_rfl)) (by unfold Func.isWrapper; first | (rw [if_pos (by decide +kernel)]; kernel_rfl) | (rw [if_neg (by decide +kernel)]; exact ⟨rfl, rfl⟩))
    (fun os started H enc _ => lifted os started H enc)
#print axioms proved
end Go.Proofs.Ytllafbadmhbnoaa.rankKeeps
