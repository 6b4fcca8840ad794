/- For every input colophonlaw02.RankAll returns true, and its arguments read as they read. No condition. -/
import Derived.Test.YtllafbadmhbnoaaRankFirst
namespace Go.Proofs.Ytllafbadmhbnoaa.rankAll
open Go.ChangeShapes Go.WideShapes Go.ChangeAt Go.RowKit

theorem bit_eq (V : Nat → Nat) (m : Nat) (hV : V m < 256) : (bits .and .u8 ((V m : Nat) : Int) 1 == 1) = bitOf V m := beq_test V 1 m hV

set_option maxRecDepth 100000 in
set_option maxHeartbeats 3200000 in
theorem walk (A : Option Addr) (n c : Nat) (V : Nat → Nat) (w : World) (hn : n ≤ maxLen) (_hA : A = none → n = 0 ∧ c = 0) (ho : Bys w w.heap.size A n V) :
    Calls Try.prog 4 #[.slice A n c] w fun e w' => e = .returned (.bool true) ∧ Below w.heap.size w w' := by
  have HF := Lib.hid (rfirst_any w)
  unfold maxLen at hn
  by_cases hbig : 1500 < n
  · go_enter Try.func4, Try.ntmps4
    go_wp2_with fail
    refine HF.out.mono ?_
    rintro e w1 ⟨rfl, hb1⟩
    go_wp2_with fail
    go_ret
    exact ⟨rfl, hb1⟩
  · have HO := Lib.hid ho
    have HV : ∀ W, Below w.heap.size w W → Hid (Calls Try.prog 10 #[.slice A n c] W (VecLaw W n (bitOf V))) := fun W hW => Lib.hid (vec_any A n c V W (by omega) ((HO.out.below hW).mono_ hW.size))
    have hbool : decide ((3000 : Int) < (n : Int)) = false := by simp; omega
    have hbool1 : decide ((1500 : Int) < (n : Int)) = false := by simp; omega
    clear ho
    go_enter Try.func4, Try.ntmps4
    go_wp2_with fail
    refine HF.out.mono ?_
    rintro e w1 ⟨rfl, hb1⟩
    have HV1 := HV w1 hb1
    go_wp2_with fail
    refine HV1.out.mono ?_
    rintro e w2 ⟨g, gw, av, ws, rfl, hv, hb2⟩
    have hB2 := hb1.trans (hb2.mono hb1.size)
    clear hb1 hb2 HV1 HV hbool
    generalize w1.heap.size = B at hv
    go_wp2_with fail
    go_loopw [4, 5, 17] (fun s z v wr => ∃ i : Nat, i ≤ n ∧ v = .int .i64 (i : Int) ∧ s = .int .i64 ((Pl.cnt (bitOf V) i : Nat) : Int) ∧ z = .int .i64 ((Pl.cnt (inv (bitOf V)) i : Nat) : Int) ∧ Vc wr B g gw av n ws (bitOf V) ∧ Below w.heap.size w wr) (fun _ _ v _ => n - (intOf v).toNat)
    case atStart => exact ⟨0, Nat.zero_le _, rfl, rfl, rfl, hv, hB2⟩
    case round =>
      clear hv hB2
      obtain ⟨i, hi, rfl, rfl, rfl, hv, hB⟩ := hrel
      have hm1 := Pl.cnt_le (bitOf V) i
      have hm2 := Pl.cnt_le (inv (bitOf V)) i
      have hR := rank_any hv (i : Int)
      have hZ := zeros_any hv (i : Int)
      rw [Pl.clamp_nat hi] at hR hZ
      by_cases hlt : i < n
      · obtain ⟨ad, rfl, had, hV, hV8⟩ := HO.out.below hB i hlt
        have hbit := bit_eq V i hV8
        have hA := at_in hv i hlt
        have hs1 := Pl.cnt_succ (bitOf V) i
        have hs0 := Pl.cnt_succ (inv (bitOf V)) i
        have hS := select_any hv ((Pl.cnt (bitOf V) i : Nat) : Int)
        have hSz := selectZero_any hv ((Pl.cnt (inv (bitOf V)) i : Nat) : Int)
        have hin1 := Pl.sel_in (f := bitOf V) hlt
        have hin0 := Pl.sel_in (f := inv (bitOf V)) hlt
        have hinv : inv (bitOf V) i = !bitOf V i := rfl
        rw [hinv] at hs0 hin0
        cases hb : bitOf V i
        · rw [hb] at hbit hA hs1 hs0 hin0
          rw [hin0 rfl] at hSz
          have HR := Lib.hid hR
          have HZ := Lib.hid hZ
          have HA := Lib.hid hA
          have HS := Lib.hid hSz
          have H1 := Lib.hid hs1
          have H0 := Lib.hid hs0
          clear hR hZ hA hS hSz hs1 hs0 hin1 hin0 hinv hb
          generalize Pl.cnt (bitOf V) i = t at *
          generalize Pl.cnt (inv (bitOf V)) i = z at *
          go_wp2_with fail
          refine HR.out.mono ?_
          rintro e w' ⟨rfl, rfl⟩
          go_wp2_with fail
          refine HZ.out.mono ?_
          rintro e w' ⟨rfl, rfl⟩
          go_wp2_with fail
          refine HA.out.mono ?_
          rintro e w' ⟨rfl, rfl⟩
          go_wp2_with fail
          refine HS.out.mono ?_
          rintro e w3 ⟨rfl, hb3⟩
          have hv3 := hv.keep hb3
          have hB3 := hB.trans (hb3.mono hB.size)
          clear hb3 hv hB HR HZ HA HS
          go_wp2_with fail
          go_roundw
          case rel => exact ⟨i + 1, by omega, by go_num, by rw [H1.out]; rfl, by rw [H0.out]; go_num, hv3, hB3⟩
          case measure => simp [intOf]; omega
        · rw [hb] at hbit hA hs1 hs0
          rw [hin1 hb] at hS
          have HR := Lib.hid hR
          have HZ := Lib.hid hZ
          have HA := Lib.hid hA
          have HS := Lib.hid hS
          have H1 := Lib.hid hs1
          have H0 := Lib.hid hs0
          clear hR hZ hA hS hSz hs1 hs0 hin1 hin0 hinv hb
          generalize Pl.cnt (bitOf V) i = t at *
          generalize Pl.cnt (inv (bitOf V)) i = z at *
          go_wp2_with fail
          refine HR.out.mono ?_
          rintro e w' ⟨rfl, rfl⟩
          go_wp2_with fail
          refine HZ.out.mono ?_
          rintro e w' ⟨rfl, rfl⟩
          go_wp2_with fail
          refine HA.out.mono ?_
          rintro e w' ⟨rfl, rfl⟩
          go_wp2_with fail
          refine HS.out.mono ?_
          rintro e w3 ⟨rfl, hb3⟩
          have hv3 := hv.keep hb3
          have hB3 := hB.trans (hb3.mono hB.size)
          clear hb3 hv hB HR HZ HA HS
          go_wp2_with fail
          go_roundw
          case rel => exact ⟨i + 1, by omega, by go_num, by rw [H1.out]; go_num, by rw [H0.out]; rfl, hv3, hB3⟩
          case measure => simp [intOf]; omega
      · have hin : i = n := by omega
        subst hin
        have hS : ∀ {W : World} {B g gw : Nat} {av : Value} {ws : List Nat}, Vc W B g gw av i ws (bitOf V) → Hid (Calls Try.prog 17 #[.pointer (some ⟨g, 0, none⟩), .int .i64 ((Pl.cnt (bitOf V) i : Nat) : Int)] W fun e w' => e = .returned (.int .i64 (-1)) ∧ Below W.heap.size W w') :=
          fun h => by have c := select_any h ((Pl.cnt (bitOf V) i : Nat) : Int); rw [Pl.sel_out (.inr (Int.le_refl _))] at c; exact Lib.hid c
        have hSz : ∀ {W : World} {B g gw : Nat} {av : Value} {ws : List Nat}, Vc W B g gw av i ws (bitOf V) → Hid (Calls Try.prog 19 #[.pointer (some ⟨g, 0, none⟩), .int .i64 ((Pl.cnt (inv (bitOf V)) i : Nat) : Int)] W fun e w' => e = .returned (.int .i64 (-1)) ∧ Below W.heap.size W w') :=
          fun h => by have c := selectZero_any h ((Pl.cnt (inv (bitOf V)) i : Nat) : Int); rw [Pl.sel_out (.inr (Int.le_refl _))] at c; exact Lib.hid c
        have hSm : ∀ {W : World} {B g gw : Nat} {av : Value} {ws : List Nat}, Vc W B g gw av i ws (bitOf V) → Hid (Calls Try.prog 17 #[.pointer (some ⟨g, 0, none⟩), .int .i64 (-1)] W fun e w' => e = .returned (.int .i64 (-1)) ∧ Below W.heap.size W w') :=
          fun h => by have c := select_any h (-1); rw [Pl.sel_out (.inl (by decide))] at c; exact Lib.hid c
        have HR := Lib.hid hR
        clear hR hZ
        generalize Pl.cnt (bitOf V) i = t at *
        generalize Pl.cnt (inv (bitOf V)) i = z at *
        go_wp2_with fail
        refine HR.out.mono ?_
        rintro e w' ⟨rfl, rfl⟩
        go_wp2_with fail
        refine (hS hv).out.mono ?_
        rintro e w3 ⟨rfl, hb3⟩
        have hv3 := hv.keep hb3
        have hB3 := hB.trans (hb3.mono hB.size)
        clear hb3 hv hB HR
        go_wp2_with fail
        refine (hSz hv3).out.mono ?_
        rintro e w4 ⟨rfl, hb4⟩
        have hv4 := hv3.keep hb4
        have hB4 := hB3.trans (hb4.mono hB3.size)
        clear hb4 hv3 hB3
        go_wp2_with fail
        refine (hSm hv4).out.mono ?_
        rintro e w5 ⟨rfl, hb5⟩
        have hB5 := hB4.trans (hb5.mono hB4.size)
        clear hb5 hv4 hB4
        go_wp2_with fail
        go_ret
        exact ⟨rfl, hB5⟩

theorem own : ownKnob Try.prog.godebug = none := by kernel_rfl
theorem laidOut : laidOutB Try.prog = true := by kernel_rfl

set_option maxRecDepth 100000 in
theorem lifted (os : Os) (started : os.Started) (H : Type) (enc : TypeId × Value → H) :
    ReturnsInHanded {} Try.checked os 4 .any (Rows.rankAllSpec.pre6 enc Try.prog Try.f4 Rows.rankAllRow.domain false) (Rows.rankAllSpec.post enc Try.prog Try.f4 false true false false) := by
  refine returnsInHanded_of_change (C := Try.checked) own started (by kernel_rfl) Try.func4
    (ChangeSpec.witness6 (enc := enc) (C := Try.checked) false ⟨#[], #[.slice none 0 0], []⟩ 8 (by kernel_rfl) (by kernel_rfl) (by kernel_rfl) (by kernel_rfl)) ?_
  intro W base args ds gs before hval0 hW hcnd _
  have hval : ∀ (j : Nat) t v, Try.f4.params[j]? = some t → args[j]? = some v → Value.okWide Try.prog W .any base t v := hval0
  have hW' := hW
  obtain ⟨p, q, hA0, hV, rfl, hfz, hnd⟩ := hW
  have hA : DataW.TrodAll enc Try.prog W 0 (fun _ => true) true Try.f4.params.toList args.toList ds p := hA0
  rw [Try.params4] at hA hval
  obtain ⟨v0, d0, rfl, rfl, h0⟩ := trodAll_one hA
  obtain ⟨rfl, rfl⟩ := trodVars_none hV
  obtain ⟨A0, n0, c0, V0, rfl, hn0, hz0, ho0⟩ := open_bytes (hval 0 22 v0 rfl rfl) h0
  clear hA0 hval0
  refine (walk A0 n0 c0 V0 W hn0 hz0 ho0).mono fun e W' ⟨he, hg⟩ => ?_
  subst he
  exact ⟨_, rfl, law_post laidOut rfl rfl rfl (by rw [Try.params4]; decide +kernel) hW' hg⟩

/-- The statement. -/
theorem proved : Rows.RankAllSaid :=
  OpenClaim.holds_of_wide 4 Try.f4 rfl rfl rfl rfl rfl rfl rfl ⟨rfl, rfl, rfl, rfl, rfl⟩ rfl rfl rfl rfl rfl (by kernel_rfl) Try.func4 (by kernel_rfl)
    (of_decide_eq_true (by kernel_rfl)) (by unfold Func.isWrapper; first | (rw [if_pos (by decide +kernel)]; kernel_rfl) | (rw [if_neg (by decide +kernel)]; exact ⟨rfl, rfl⟩))
    (fun os started H enc _ => lifted os started H enc)
#print axioms proved
end Go.Proofs.Ytllafbadmhbnoaa.rankAll
