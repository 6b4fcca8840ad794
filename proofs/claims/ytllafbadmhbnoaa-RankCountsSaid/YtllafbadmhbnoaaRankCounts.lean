/- For every input colophonlaw02.RankCounts returns true, and its arguments read as they read. No condition. -/
import Derived.Test.YtllafbadmhbnoaaRankFirst
namespace Go.Proofs.Ytllafbadmhbnoaa.rankCounts
open Go.ChangeShapes Go.WideShapes Go.ChangeAt Go.RowKit

theorem bit_eq (V : Nat → Nat) (m : Nat) (hV : V m < 256) : (bits .and .u8 ((V m : Nat) : Int) 1 == 1) = bitOf V m := beq_test V 1 m hV

set_option maxRecDepth 100000 in
set_option maxHeartbeats 3200000 in
theorem walk (A : Option Addr) (n c : Nat) (V : Nat → Nat) (i k : Int) (w : World) (hn : n ≤ maxLen) (_hA : A = none → n = 0 ∧ c = 0) (ho : Bys w w.heap.size A n V) (hi0 : (Lit.int .i64 i).wf = true) (hk0 : (Lit.int .i64 k).wf = true) :
    Calls Try.prog 3 #[.slice A n c, .int .i64 i, .int .i64 k] w fun e w' => e = .returned (.bool true) ∧ Below w.heap.size w w' := by
  have HF := Lib.hid (rfirst_any w)
  unfold maxLen at hn
  by_cases hbig : 3000 < n
  · go_enter Try.func3, Try.ntmps3
    go_wp2_with fail
    refine HF.out.mono ?_
    rintro e w1 ⟨rfl, hb1⟩
    go_wp2_with fail
    go_ret
    exact ⟨rfl, hb1⟩
  · have HO := Lib.hid ho
    have hi := i64_in hi0
    have hk := i64_in hk0
    have H1 : ∀ W, Below w.heap.size w W → ∀ (j : Int), Hid (Calls Try.prog 13 #[.slice A n c, .int .u8 1, .int .i64 j] W fun e w' => e = .returned (.int .i64 ((Pl.cnt (bitOf V) (Pl.clamp n j) : Nat) : Int)) ∧ W = w') :=
      fun W hW j => Lib.hid (refRank_any A n c V 1 j _ W (by omega) (HO.out.below hW))
    have Hn : ∀ W, Below w.heap.size w W → Hid (Calls Try.prog 13 #[.slice A n c, .int .u8 1, .int .i64 (n : Int)] W fun e w' => e = .returned (.int .i64 ((Pl.cnt (bitOf V) n : Nat) : Int)) ∧ W = w') :=
      fun W hW => by have := (H1 W hW (n : Int)).out; rw [Pl.clamp_nat (Nat.le_refl _)] at this; exact Lib.hid this
    have H0 : ∀ W, Below w.heap.size w W → ∀ (j : Int), Hid (Calls Try.prog 13 #[.slice A n c, .int .u8 0, .int .i64 j] W fun e w' => e = .returned (.int .i64 ((Pl.cnt (inv (bitOf V)) (Pl.clamp n j) : Nat) : Int)) ∧ W = w') :=
      fun W hW j => by have := refRank_any A n c V 0 j _ W (by omega) (HO.out.below hW); rw [beq_zero] at this; exact Lib.hid this
    have S1 : ∀ W, Below w.heap.size w W → Hid (Calls Try.prog 18 #[.slice A n c, .int .u8 1, .int .i64 k] W fun e w' => e = .returned (.int .i64 (Pl.sel (bitOf V) n k)) ∧ W = w') :=
      fun W hW => Lib.hid (refSelect_any A n c V 1 k _ W (by omega) (HO.out.below hW))
    have S0 : ∀ W, Below w.heap.size w W → Hid (Calls Try.prog 18 #[.slice A n c, .int .u8 0, .int .i64 k] W fun e w' => e = .returned (.int .i64 (Pl.sel (inv (bitOf V)) n k)) ∧ W = w') :=
      fun W hW => by have := refSelect_any A n c V 0 k _ W (by omega) (HO.out.below hW); rw [beq_zero] at this; exact Lib.hid this
    clear ho hi0 hk0
    have HV : ∀ W, Below w.heap.size w W → Hid (Calls Try.prog 10 #[.slice A n c] W (VecLaw W n (bitOf V))) := fun W hW => Lib.hid (vec_any A n c V W (by omega) ((HO.out.below hW).mono_ hW.size))
    by_cases hin : 0 ≤ i ∧ i < (n : Int)
    · obtain ⟨m, rfl⟩ : ∃ m : Nat, i = m := ⟨i.toNat, by omega⟩
      have hm : m < n := by omega
      obtain ⟨ad, rfl, had, hV, hV8⟩ := HO.out m hm
      have hbit := bit_eq V m hV8
      obtain ⟨y, hy⟩ : ∃ y, bitOf V m = y := ⟨_, rfl⟩
      have HAt : ∀ {W : World} {B g gw : Nat} {av : Value} {ws : List Nat}, Vc W B g gw av n ws (bitOf V) → Hid (Calls Try.prog 16 #[.pointer (some ⟨g, 0, none⟩), .int .i64 (m : Int)] W fun e w' => e = .returned (.bool y) ∧ W = w') := fun h => by rw [← hy]; exact Lib.hid (at_in h m hm)
      rw [hy] at hbit
      have hmn : ¬ ((n : Int) - 1 < (m : Int)) := by omega
      clear hin hy
      by_cases hm0 : 0 < m
      all_goals
        cases y
        all_goals
          go_enter Try.func3, Try.ntmps3
          go_wp2_with fail
          refine HF.out.mono ?_
          rintro e w1 ⟨rfl, hb1⟩
          have HV1 := HV w1 hb1
          go_wp2_with fail
          refine HV1.out.mono ?_
          rintro e w2 ⟨g, gw, av, ws, rfl, hv, hb2⟩
          have hB2 := hb1.trans (hb2.mono hb1.size)
          clear hb1 hb2 HV1
          go_wp2_with fail
          refine (vlen_any hv).mono ?_
          rintro e w' ⟨rfl, rfl⟩
          go_wp2_with fail
          refine (vones_any hv).mono ?_
          rintro e w' ⟨rfl, rfl⟩
          go_wp2_with fail
          refine (Hn _ hB2).out.mono ?_
          rintro e w' ⟨rfl, rfl⟩
          go_wp2_with fail
          refine (rank_any hv (m : Int)).mono ?_
          rintro e w' ⟨rfl, rfl⟩
          go_wp2_with fail
          refine (H1 _ hB2 (m : Int)).out.mono ?_
          rintro e w' ⟨rfl, rfl⟩
          go_wp2_with fail
          refine (zeros_any hv (m : Int)).mono ?_
          rintro e w' ⟨rfl, rfl⟩
          go_wp2_with fail
          refine (H0 _ hB2 (m : Int)).out.mono ?_
          rintro e w' ⟨rfl, rfl⟩
          go_wp2_with fail
          have hV2 : w2.cell? (ad.add m) = some (.int .u8 ((V m : Nat) : Int)) := (hB2.cell (by rw [add_block]; exact had)).trans hV
          have hV4 : m = 0 → w2.cell? ad = some (.int .u8 ((V m : Nat) : Int)) := fun e => by
            have e0 : ad.add 0 = ad := by unfold Addr.add; split <;> simp_all
            rw [← hV2, e, e0]
          have hV5 : ¬ 0 < m → w2.cell? ad = some (.int .u8 ((V m : Nat) : Int)) := fun e => hV4 (by omega)
          clear hV4
          try replace hV5 := hV5 hm0
          refine (HAt hv).out.mono ?_
          rintro e w' ⟨rfl, rfl⟩
          go_wp2_with fail
          refine (select_any hv k).mono ?_
          rintro e w3 ⟨rfl, hb3⟩
          have hv3 := hv.keep hb3
          have hB3 := hB2.trans (hb3.mono hB2.size)
          clear hb3 hv hB2
          go_wp2_with fail
          refine (S1 _ hB3).out.mono ?_
          rintro e w' ⟨rfl, rfl⟩
          go_wp2_with fail
          refine (selectZero_any hv3 k).mono ?_
          rintro e w4 ⟨rfl, hb4⟩
          have hB4 := hB3.trans (hb4.mono hB3.size)
          clear hb4 hv3 hB3
          go_wp2_with fail
          refine (S0 _ hB4).out.mono ?_
          rintro e w' ⟨rfl, rfl⟩
          go_wp2_with fail
          go_ret
          exact ⟨rfl, hB4⟩
    · by_cases hneg : 0 ≤ i
      all_goals
        go_enter Try.func3, Try.ntmps3
        go_wp2_with fail
        refine HF.out.mono ?_
        rintro e w1 ⟨rfl, hb1⟩
        have HV1 := HV w1 hb1
        go_wp2_with fail
        refine HV1.out.mono ?_
        rintro e w2 ⟨g, gw, av, ws, rfl, hv, hb2⟩
        have hB2 := hb1.trans (hb2.mono hb1.size)
        clear hb1 hb2 HV1
        go_wp2_with fail
        refine (vlen_any hv).mono ?_
        rintro e w' ⟨rfl, rfl⟩
        go_wp2_with fail
        refine (vones_any hv).mono ?_
        rintro e w' ⟨rfl, rfl⟩
        go_wp2_with fail
        refine (Hn _ hB2).out.mono ?_
        rintro e w' ⟨rfl, rfl⟩
        go_wp2_with fail
        refine (rank_any hv i).mono ?_
        rintro e w' ⟨rfl, rfl⟩
        go_wp2_with fail
        refine (H1 _ hB2 i).out.mono ?_
        rintro e w' ⟨rfl, rfl⟩
        go_wp2_with fail
        refine (zeros_any hv i).mono ?_
        rintro e w' ⟨rfl, rfl⟩
        go_wp2_with fail
        refine (H0 _ hB2 i).out.mono ?_
        rintro e w' ⟨rfl, rfl⟩
        go_wp2_with fail
        refine (at_out hv i (by omega)).mono ?_
        rintro e w' ⟨rfl, rfl⟩
        go_wp2_with fail
        refine (select_any hv k).mono ?_
        rintro e w3 ⟨rfl, hb3⟩
        have hv3 := hv.keep hb3
        have hB3 := hB2.trans (hb3.mono hB2.size)
        clear hb3 hv hB2
        go_wp2_with fail
        refine (S1 _ hB3).out.mono ?_
        rintro e w' ⟨rfl, rfl⟩
        go_wp2_with fail
        refine (selectZero_any hv3 k).mono ?_
        rintro e w4 ⟨rfl, hb4⟩
        have hB4 := hB3.trans (hb4.mono hB3.size)
        clear hb4 hv3 hB3
        go_wp2_with fail
        refine (S0 _ hB4).out.mono ?_
        rintro e w' ⟨rfl, rfl⟩
        go_wp2_with fail
        go_ret
        exact ⟨rfl, hB4⟩

theorem own : ownKnob Try.prog.godebug = none := by kernel_rfl
theorem laidOut : laidOutB Try.prog = true := by kernel_rfl

set_option maxRecDepth 100000 in
theorem lifted (os : Os) (started : os.Started) (H : Type) (enc : TypeId × Value → H) :
    ReturnsInHanded {} Try.checked os 3 .any (Rows.rankCountsSpec.pre6 enc Try.prog Try.f3 Rows.rankCountsRow.domain false) (Rows.rankCountsSpec.post enc Try.prog Try.f3 false true false false) := by
  refine returnsInHanded_of_change (C := Try.checked) own started (by kernel_rfl) Try.func3
    (ChangeSpec.witness6 (enc := enc) (C := Try.checked) false ⟨#[], #[.slice none 0 0, .int .i64 0, .int .i64 0], []⟩ 8 (by kernel_rfl) (by kernel_rfl) (by kernel_rfl) (by kernel_rfl)) ?_
  intro W base args ds gs before hval0 hW hcnd _
  have hval : ∀ (j : Nat) t v, Try.f3.params[j]? = some t → args[j]? = some v → Value.okWide Try.prog W .any base t v := hval0
  have hW' := hW
  obtain ⟨p, q, hA0, hV, rfl, hfz, hnd⟩ := hW
  have hA : DataW.TrodAll enc Try.prog W 0 (fun _ => true) true Try.f3.params.toList args.toList ds p := hA0
  rw [Try.params3] at hA hval
  obtain ⟨v0, v1, v2, d0, d1, d2, p0, p1, p2, rfl, rfl, rfl, h0, h1, h2⟩ := trodAll_three hA
  obtain ⟨rfl, rfl⟩ := trodVars_none hV
  obtain ⟨A0, n0, c0, V0, rfl, hn0, hA0, ho0⟩ := open_bytes (hval 0 22 v0 rfl rfl) h0
  obtain ⟨a1, rfl, rfl, rfl, wa1⟩ := open_int Try.underlying3 (hval 1 3 v1 rfl rfl) h1
  obtain ⟨a2, rfl, rfl, rfl, wa2⟩ := open_int Try.underlying3 (hval 2 3 v2 rfl rfl) h2
  clear hA0 hval0
  refine (walk A0 n0 c0 V0 a1 a2 W hn0 hA0 ho0 wa1 wa2).mono fun e W' ⟨he, hg⟩ => ?_
  subst he
  exact ⟨_, rfl, law_post laidOut rfl rfl rfl (by rw [Try.params3]; decide +kernel) hW' hg⟩

/-- The statement. -/
theorem proved : Rows.RankCountsSaid :=
  OpenClaim.holds_of_wide 3 Try.f3 rfl rfl rfl rfl rfl rfl rfl ⟨rfl, rfl, rfl, rfl, rfl⟩ rfl rfl rfl rfl rfl (by kernel_rfl) Try.func3 (by kernel_rfl)
    (of_decide_eq_true (by kernel_rfl)) (by unfold Func.isWrapper; first | (rw [if_pos (by decide +kernel)]; kernel_rfl) | (rw [if_neg (by decide +kernel)]; exact ⟨rfl, rfl⟩))
    (fun os started H enc _ => lifted os started H enc)
#print axioms proved
end Go.Proofs.Ytllafbadmhbnoaa.rankCounts
