/- For every input colophonlaw02.RankTurns returns true, and its arguments read as they read. No condition. -/
import Derived.Test.YtllafbadmhbnoaaRankFirst
namespace Go.Proofs.Ytllafbadmhbnoaa.rankTurns
open Go.ChangeShapes Go.WideShapes Go.ChangeAt Go.RowKit

theorem sel_some {f : Nat → Bool} : ∀ {n k : Nat}, k < Pl.cnt f n → ∃ p, p < n ∧ f p = true ∧ Pl.cnt f p = k
  | 0, k, h => by simp [Pl.cnt] at h
  | n + 1, k, h => by
    by_cases hk : k < Pl.cnt f n
    · obtain ⟨p, hp, h1, h2⟩ := sel_some hk
      exact ⟨p, by omega, h1, h2⟩
    · rw [Pl.cnt_succ] at h
      cases hf : f n with
      | false => rw [hf] at h; simp at h; omega
      | true => rw [hf] at h; simp at h; exact ⟨n, by omega, hf, by omega⟩
/-- a number below t out of any int. -/
theorem rest_num (a : Int) (t : Nat) (ht : 0 < t) (hs : t ≤ 4194304) : ∃ j : Nat, wrap64 ((IntKind.u64.wrap a).tmod (t : Int)) = (j : Int) ∧ j < t := by
  have hw : 0 ≤ IntKind.u64.wrap a := by rw [IntKind.wrap_u64]; omega
  generalize IntKind.u64.wrap a = x at hw
  have e1 : x.tmod (t : Int) = x % (t : Int) := Int.tmod_eq_emod_of_nonneg hw
  have h1 := Int.emod_nonneg x (show (t : Int) ≠ 0 by omega)
  have h2 := Int.emod_lt_of_pos x (show (0 : Int) < (t : Int) by omega)
  rw [e1]
  refine ⟨(x % (t : Int)).toNat, ?_, by omega⟩
  unfold wrap64
  omega

set_option maxRecDepth 100000 in
set_option maxHeartbeats 3200000 in
theorem walk (A : Option Addr) (n c : Nat) (V : Nat → Nat) (k : Int) (w : World) (hn : n ≤ maxLen) (_hA : A = none → n = 0 ∧ c = 0) (ho : Bys w w.heap.size A n V) (hk0 : (Lit.int .i64 k).wf = true) :
    Calls Try.prog 5 #[.slice A n c, .int .i64 k] w fun e w' => e = .returned (.bool true) ∧ Below w.heap.size w w' := by
  have HF := Lib.hid (rfirst_any w)
  unfold maxLen at hn
  by_cases hbig : 3000 < n
  · go_enter Try.func5, Try.ntmps5
    go_wp2_with fail
    refine HF.out.mono ?_
    rintro e w1 ⟨rfl, hb1⟩
    go_wp2_with fail
    go_ret
    exact ⟨rfl, hb1⟩
  · have HO := Lib.hid ho
    have hk := i64_in hk0
    have HV : ∀ W, Below w.heap.size w W → Hid (Calls Try.prog 10 #[.slice A n c] W (VecLaw W n (bitOf V))) := fun W hW => Lib.hid (vec_any A n c V W (by omega) ((HO.out.below hW).mono_ hW.size))
    have hm := Pl.cnt_le (bitOf V) n
    obtain ⟨t, ht⟩ : ∃ t, Pl.cnt (bitOf V) n = t := ⟨_, rfl⟩
    rw [ht] at hm
    obtain ⟨i, hi, hi1⟩ := rest_num k (n + 1) (by omega) (by omega)
    have hi2 : i ≤ n := by omega
    have hi3 : wrap64 ((IntKind.u64.wrap k).tmod ((n : Int) + 1)) = (i : Int) := hi
    have HI := Lib.hid hi3
    have hsum := Pl.cnt_not (bitOf V) i
    have HOn : ∀ {W : World} {B g gw : Nat} {av : Value} {ws : List Nat}, Vc W B g gw av n ws (bitOf V) → Hid (Calls Try.prog 12 #[.pointer (some ⟨g, 0, none⟩)] W fun e w' => e = .returned (.int .i64 (t : Int)) ∧ W = w') := fun h => by rw [← ht]; exact Lib.hid (vones_any h)
    have HR : ∀ {W : World} {B g gw : Nat} {av : Value} {ws : List Nat}, Vc W B g gw av n ws (bitOf V) → Hid (Calls Try.prog 14 #[.pointer (some ⟨g, 0, none⟩), .int .i64 (i : Int)] W fun e w' => e = .returned (.int .i64 ((Pl.cnt (bitOf V) i : Nat) : Int)) ∧ W = w') := fun h => by have c := rank_any h (i : Int); rw [Pl.clamp_nat hi2] at c; exact Lib.hid c
    have HZ : ∀ {W : World} {B g gw : Nat} {av : Value} {ws : List Nat}, Vc W B g gw av n ws (bitOf V) → Hid (Calls Try.prog 15 #[.pointer (some ⟨g, 0, none⟩), .int .i64 (i : Int)] W fun e w' => e = .returned (.int .i64 ((Pl.cnt (inv (bitOf V)) i : Nat) : Int)) ∧ W = w') := fun h => by have c := zeros_any h (i : Int); rw [Pl.clamp_nat hi2] at c; exact Lib.hid c
    have hsum1 : Pl.cnt (bitOf V) i + Pl.cnt (inv (bitOf V)) i = i := hsum
    have HT := Lib.hid ht
    have HSel : ∀ p m : Nat, p < n → bitOf V p = true → Pl.cnt (bitOf V) p = m → Pl.sel (bitOf V) n (m : Int) = (p : Int) := fun p m h1 h2 h3 => by rw [← h3]; exact Pl.sel_in h1 h2
    have HSel := Lib.hid HSel
    clear ho hk0 hi hi1 hi3 hsum ht
    by_cases hpos : 0 < t
    · obtain ⟨m, hmm, hmt⟩ := rest_num k t hpos (by omega)
      have hlt : m < Pl.cnt (bitOf V) n := by rw [HT.out]; exact hmt
      obtain ⟨p, hp1, hp2, hp3⟩ := sel_some hlt
      have HM := Lib.hid hmm
      have HSl : ∀ {W : World} {B g gw : Nat} {av : Value} {ws : List Nat}, Vc W B g gw av n ws (bitOf V) → Hid (Calls Try.prog 17 #[.pointer (some ⟨g, 0, none⟩), .int .i64 (m : Int)] W fun e w' => e = .returned (.int .i64 (p : Int)) ∧ Below W.heap.size W w') := fun h => by have c := select_any h (m : Int); rw [HSel.out p m hp1 hp2 hp3] at c; exact Lib.hid c
      have HAt : ∀ {W : World} {B g gw : Nat} {av : Value} {ws : List Nat}, Vc W B g gw av n ws (bitOf V) → Hid (Calls Try.prog 16 #[.pointer (some ⟨g, 0, none⟩), .int .i64 (p : Int)] W fun e w' => e = .returned (.bool true) ∧ W = w') := fun h => by have c := at_in h p hp1; rw [hp2] at c; exact Lib.hid c
      have HRp : ∀ {W : World} {B g gw : Nat} {av : Value} {ws : List Nat}, Vc W B g gw av n ws (bitOf V) → Hid (Calls Try.prog 14 #[.pointer (some ⟨g, 0, none⟩), .int .i64 (p : Int)] W fun e w' => e = .returned (.int .i64 (m : Int)) ∧ W = w') := fun h => by have c := rank_any h (p : Int); rw [Pl.clamp_nat (Nat.le_of_lt hp1), hp3] at c; exact Lib.hid c
      have HRq : ∀ {W : World} {B g gw : Nat} {av : Value} {ws : List Nat}, Vc W B g gw av n ws (bitOf V) → Hid (Calls Try.prog 14 #[.pointer (some ⟨g, 0, none⟩), .int .i64 ((p : Int) + 1)] W fun e w' => e = .returned (.int .i64 ((m : Int) + 1)) ∧ W = w') := fun h => by
        have c := rank_any h ((p : Int) + 1)
        rw [show ((p : Int) + 1) = ((p + 1 : Nat) : Int) from rfl, Pl.clamp_nat (by omega), Pl.cnt_succ, hp2, hp3] at c
        exact Lib.hid c
      clear hmm hlt hp2 hp3
      go_enter Try.func5, Try.ntmps5
      go_wp2_with fail
      refine HF.out.mono ?_
      rintro e w1 ⟨rfl, hb1⟩
      have HV1 := HV w1 hb1
      go_wp2_with fail
      refine HV1.out.mono ?_
      rintro e w2 ⟨g, gw, av, ws, rfl, hv, hb2⟩
      have hB2 := hb1.trans (hb2.mono hb1.size)
      clear hb1 hb2 HV1 HV
      generalize w1.heap.size = B at hv
      go_wp2_with fail
      refine (HOn hv).out.mono ?_
      rintro e w' ⟨rfl, rfl⟩
      go_wp2_with fail
      refine (HOn hv).out.mono ?_
      rintro e w' ⟨rfl, rfl⟩
      go_wp2_with fail
      rw [HM.out]
      refine (HSl hv).out.mono ?_
      rintro e w3 ⟨rfl, hb3⟩
      have hv3 := hv.keep hb3
      have hB3 := hB2.trans (hb3.mono hB2.size)
      clear hb3 hv hB2
      go_wp2_with fail
      refine (HAt hv3).out.mono ?_
      rintro e w' ⟨rfl, rfl⟩
      go_wp2_with fail
      refine (HRp hv3).out.mono ?_
      rintro e w' ⟨rfl, rfl⟩
      go_wp2_with fail
      refine (HRq hv3).out.mono ?_
      rintro e w' ⟨rfl, rfl⟩
      generalize Pl.cnt (bitOf V) i = r at HR hsum1
      generalize Pl.cnt (inv (bitOf V)) i = z at HZ hsum1
      have hrz : (r : Int) + (z : Int) = (i : Int) := by omega
      go_wp2_with fail
      rw [HI.out]
      refine (HR hv3).out.mono ?_
      rintro e w' ⟨rfl, rfl⟩
      go_wp2_with fail
      refine (HZ hv3).out.mono ?_
      rintro e w' ⟨rfl, rfl⟩
      go_wp2_with fail
      refine (vlen_nil _).mono ?_
      rintro e w' ⟨rfl, rfl⟩
      go_wp2_with fail
      refine (vones_nil _).mono ?_
      rintro e w' ⟨rfl, rfl⟩
      go_wp2_with fail
      refine (at_nil _ _).mono ?_
      rintro e w' ⟨rfl, rfl⟩
      go_wp2_with fail
      refine (rank_nil _ _).mono ?_
      rintro e w' ⟨rfl, rfl⟩
      go_wp2_with fail
      refine (zeros_nil _ _).mono ?_
      rintro e w' ⟨rfl, rfl⟩
      go_wp2_with fail
      refine (select_nil _ _).mono ?_
      rintro e w8 ⟨rfl, hb8⟩
      have hB8 := hB3.trans (hb8.mono hB3.size)
      clear hb8
      go_wp2_with fail
      refine (selectZero_nil _ _).mono ?_
      rintro e w9 ⟨rfl, hb9⟩
      have hB9 := hB8.trans (hb9.mono hB8.size)
      clear hb9
      go_wp2_with fail
      go_ret
      exact ⟨rfl, hB9⟩
    · obtain rfl : t = 0 := by omega
      go_enter Try.func5, Try.ntmps5
      go_wp2_with fail
      refine HF.out.mono ?_
      rintro e w1 ⟨rfl, hb1⟩
      have HV1 := HV w1 hb1
      go_wp2_with fail
      refine HV1.out.mono ?_
      rintro e w2 ⟨g, gw, av, ws, rfl, hv, hb2⟩
      have hB2 := hb1.trans (hb2.mono hb1.size)
      clear hb1 hb2 HV1 HV
      generalize w1.heap.size = B at hv
      go_wp2_with fail
      refine (HOn hv).out.mono ?_
      rintro e w' ⟨rfl, rfl⟩
      generalize Pl.cnt (bitOf V) i = r at HR hsum1
      generalize Pl.cnt (inv (bitOf V)) i = z at HZ hsum1
      have hrz : (r : Int) + (z : Int) = (i : Int) := by omega
      go_wp2_with fail
      rw [HI.out]
      refine (HR hv).out.mono ?_
      rintro e w' ⟨rfl, rfl⟩
      go_wp2_with fail
      refine (HZ hv).out.mono ?_
      rintro e w' ⟨rfl, rfl⟩
      go_wp2_with fail
      refine (vlen_nil _).mono ?_
      rintro e w' ⟨rfl, rfl⟩
      go_wp2_with fail
      refine (vones_nil _).mono ?_
      rintro e w' ⟨rfl, rfl⟩
      go_wp2_with fail
      refine (at_nil _ _).mono ?_
      rintro e w' ⟨rfl, rfl⟩
      go_wp2_with fail
      refine (rank_nil _ _).mono ?_
      rintro e w' ⟨rfl, rfl⟩
      go_wp2_with fail
      refine (zeros_nil _ _).mono ?_
      rintro e w' ⟨rfl, rfl⟩
      go_wp2_with fail
      refine (select_nil _ _).mono ?_
      rintro e w8 ⟨rfl, hb8⟩
      have hB8 := hB2.trans (hb8.mono hB2.size)
      clear hb8
      go_wp2_with fail
      refine (selectZero_nil _ _).mono ?_
      rintro e w9 ⟨rfl, hb9⟩
      have hB9 := hB8.trans (hb9.mono hB8.size)
      clear hb9
      go_wp2_with fail
      go_ret
      exact ⟨rfl, hB9⟩

theorem own : ownKnob Try.prog.godebug = none := by kernel_rfl
theorem laidOut : laidOutB Try.prog = true := by kernel_rfl

set_option maxRecDepth 100000 in
theorem lifted (os : Os) (started : os.Started) (H : Type) (enc : TypeId × Value → H) :
    ReturnsInHanded {} Try.checked os 5 .any (Rows.rankTurnsSpec.pre6 enc Try.prog Try.f5 Rows.rankTurnsRow.domain false) (Rows.rankTurnsSpec.post enc Try.prog Try.f5 false true false false) := by
  refine returnsInHanded_of_change (C := Try.checked) own started (by kernel_rfl) Try.func5
    (ChangeSpec.witness6 (enc := enc) (C := Try.checked) false ⟨#[], #[.slice none 0 0, .int .i64 0], []⟩ 8 (by kernel_rfl) (by kernel_rfl) (by kernel_rfl) (by kernel_rfl)) ?_
  intro W base args ds gs before hval0 hW hcnd _
  have hval : ∀ (j : Nat) t v, Try.f5.params[j]? = some t → args[j]? = some v → Value.okWide Try.prog W .any base t v := hval0
  have hW' := hW
  obtain ⟨p, q, hA0, hV, rfl, hfz, hnd⟩ := hW
  have hA : DataW.TrodAll enc Try.prog W 0 (fun _ => true) true Try.f5.params.toList args.toList ds p := hA0
  rw [Try.params5] at hA hval
  obtain ⟨v0, v1, d0, d1, p0, p1, rfl, rfl, rfl, h0, h1⟩ := trodAll_two hA
  obtain ⟨rfl, rfl⟩ := trodVars_none hV
  obtain ⟨A0, n0, c0, V0, rfl, hn0, hz0, ho0⟩ := open_bytes (hval 0 22 v0 rfl rfl) h0
  obtain ⟨a1, rfl, rfl, rfl, wa1⟩ := open_int Try.underlying3 (hval 1 3 v1 rfl rfl) h1
  clear hA0 hval0
  refine (walk A0 n0 c0 V0 a1 W hn0 hz0 ho0 wa1).mono fun e W' ⟨he, hg⟩ => ?_
  subst he
  exact ⟨_, rfl, law_post laidOut rfl rfl rfl (by rw [Try.params5]; decide +kernel) hW' hg⟩

/-- The statement. -/
theorem proved : Rows.RankTurnsSaid :=
  OpenClaim.holds_of_wide 5 Try.f5 rfl rfl rfl rfl rfl rfl rfl ⟨rfl, rfl, rfl, rfl, rfl⟩ rfl rfl rfl rfl rfl (by kernel_rfl) Try.func5 (by kernel_rfl)
    (of_decide_eq_true (by kernel_rfl)) (by unfold Func.isWrapper; first | (rw [if_pos (by decide +kernel)]; kernel_rfl) | (rw [if_neg (by decide +kernel)]; exact ⟨rfl, rfl⟩))
    (fun os started H enc _ => lifted os started H enc)
#print axioms proved
end Go.Proofs.Ytllafbadmhbnoaa.rankTurns
