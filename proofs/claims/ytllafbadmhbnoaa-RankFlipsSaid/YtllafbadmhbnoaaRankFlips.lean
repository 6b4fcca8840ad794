/- For every input colophonlaw02.RankFlips returns true, and its arguments read as they read. No condition. -/
import Derived.Test.YtllafbadmhbnoaaRankFirst
import Derived.Test.YtllafbadmhbnoaaBytesOwn
namespace Go.Proofs.Ytllafbadmhbnoaa.rankFlips
open Go.ChangeShapes Go.WideShapes Go.ChangeAt Go.RowKit

/-- the bits turned. -/
def turned (V : Nat → Nat) : Nat → Nat := fun j => 1 - V j % 2
theorem bit_turned (V : Nat → Nat) : bitOf (turned V) = inv (bitOf V) := by
  funext j
  unfold bitOf turned inv
  rcases Nat.mod_two_eq_zero_or_one (V j) with h | h <;> simp [h]
theorem inv_inv (f : Nat → Bool) : inv (inv f) = f := by funext j; simp [inv]

set_option maxRecDepth 100000 in
set_option maxHeartbeats 3200000 in
theorem walk (A : Option Addr) (n c : Nat) (V : Nat → Nat) (i : Int) (w : World) (hn : n ≤ maxLen) (_hA : A = none → n = 0 ∧ c = 0) (ho : Bys w w.heap.size A n V) (_hk0 : (Lit.int .i64 i).wf = true) :
    Calls Try.prog 7 #[.slice A n c, .int .i64 i] w fun e w' => e = .returned (.bool true) ∧ Below w.heap.size w w' := by
  have HF := Lib.hid (rfirst_any w)
  unfold maxLen at hn
  by_cases hbig : 2000 < n
  · go_enter Try.func7, Try.ntmps7
    go_wp2_with fail
    refine HF.out.mono ?_
    rintro e w1 ⟨rfl, hb1⟩
    go_wp2_with fail
    go_ret
    exact ⟨rfl, hb1⟩
  have HO := Lib.hid ho
  have HV : ∀ W, Below w.heap.size w W → Hid (Calls Try.prog 10 #[.slice A n c] W (VecLaw W n (bitOf V))) := fun W hW => Lib.hid (vec_any A n c V W (by omega) ((HO.out.below hW).mono_ hW.size))
  clear ho
  go_enter Try.func7, Try.ntmps7
  go_wp2_with fail
  refine HF.out.mono ?_
  rintro e w0 ⟨rfl, hb0⟩
  go_wp2_with fail
  go_loopw [5, 17] (fun s v wr => ∃ i : Nat, i ≤ n ∧ v = .int .i64 (i : Int) ∧ Hid (wr.ownsRow w.heap.size 5 1 s i (ycells (turned V) i)) ∧ Below w.heap.size w wr) (fun _ v _ => n - (intOf v).toNat)
  case atStart => exact ⟨0, Nat.zero_le _, rfl, Lib.hid (World.ownsRow_nil _ _ _ _), hb0⟩
  case round =>
    clear hb0
    obtain ⟨j, hj, rfl, hown, hB⟩ := hrel
    by_cases hlt : j < n
    · obtain ⟨ad, rfl, had, hV, hV8⟩ := (HO.out.below hB) j hlt
      have hlow := low_u8 _ hV8
      obtain ⟨y, hy⟩ : ∃ y, V j % 2 = y := ⟨_, rfl⟩
      rw [hy] at hlow
      have hy1 : (y : Int) ≤ 1 := by omega
      have HT : Hid ((turned V j : Nat) = (1 - (y : Int) : Int)) := Lib.hid (by unfold turned; rw [hy]; omega)
      have hBs := hB.size
      clear hy
      go_wp2_with (at_builtin; refine step_append_byte rfl (.tmp 21) (.tmp 25) rfl rfl hown.out _ rfl hBs (by omega) ?_; intro v' w5 hown5 hb5)
      go_roundw
      case rel => exact ⟨j + 1, by omega, by go_num, Lib.hid (by rw [ycells_snoc, HT.out]; exact hown5.out), hB.trans hb5⟩
      case measure => simp [intOf]; omega
    · have hjn : j = n := by omega
      subst hjn
      have HV1 := HV wr hB
      have hBs := hB.size
      obtain ⟨A2, c2, rfl, hA2, hO2⟩ := bys_of_row hown.out (fun j _ => by unfold turned; omega)
      have HO2 := Lib.hid hO2
      clear hown hO2
      go_wp2_with fail
      refine HV1.out.mono ?_
      rintro e w1 ⟨g, gw, av, ws, rfl, hv, hb1⟩
      have HV2 := vec_any A2 j c2 (turned V) w1 (by omega) ((HO2.out.below hb1).mono_ hb1.size)
      rw [bit_turned] at HV2
      have hB1 := hB.trans (hb1.mono hBs)
      have HV3 := Lib.hid HV2
      clear HV2 HV1 HV hb1 hB
      go_wp2_with fail
      refine HV3.out.mono ?_
      rintro e w2 ⟨g2, gw2, av2, ws2, rfl, hu2, hb2⟩
      have hv2 := hv.keep hb2
      have hB2 := hB1.trans (hb2.mono hB1.size)
      have hsum := Pl.cnt_not (bitOf V) j
      have hsum1 : ((Pl.cnt (bitOf V) j : Nat) : Int) + ((Pl.cnt (inv (bitOf V)) j : Nat) : Int) = (j : Int) := by
        have : Pl.cnt (bitOf V) j + Pl.cnt (inv (bitOf V)) j = j := hsum
        omega
      have hm1 := Pl.cnt_le (bitOf V) j
      have hm2 := Pl.cnt_le (inv (bitOf V)) j
      have HZ : ∀ {W : World} {B g gw : Nat} {av : Value} {ws : List Nat}, Vc W B g gw av j ws (inv (bitOf V)) → Hid (Calls Try.prog 15 #[.pointer (some ⟨g, 0, none⟩), .int .i64 i] W fun e w' => e = .returned (.int .i64 ((Pl.cnt (bitOf V) (Pl.clamp j i) : Nat) : Int)) ∧ W = w') := fun h => by have c := zeros_any h i; rw [inv_inv] at c; exact Lib.hid c
      have HSz : ∀ {W : World} {B g gw : Nat} {av : Value} {ws : List Nat}, Vc W B g gw av j ws (inv (bitOf V)) → Hid (Calls Try.prog 19 #[.pointer (some ⟨g, 0, none⟩), .int .i64 i] W fun e w' => e = .returned (.int .i64 (Pl.sel (bitOf V) j i)) ∧ Below W.heap.size W w') := fun h => by have c := selectZero_any h i; rw [inv_inv] at c; exact Lib.hid c
      clear hv hb2 hB1 HV3 hsum HO2
      go_wp2_with fail
      refine (rank_any hv2 i).mono ?_
      rintro e w' ⟨rfl, rfl⟩
      go_wp2_with fail
      refine (HZ hu2).out.mono ?_
      rintro e w' ⟨rfl, rfl⟩
      go_wp2_with fail
      refine (zeros_any hv2 i).mono ?_
      rintro e w' ⟨rfl, rfl⟩
      go_wp2_with fail
      refine (rank_any hu2 i).mono ?_
      rintro e w' ⟨rfl, rfl⟩
      go_wp2_with fail
      refine (select_any hv2 i).mono ?_
      rintro e w3 ⟨rfl, hbx⟩
      have hv3 := hv2.keep hbx
      have hu3 := hu2.keep hbx
      have hB3 := hB2.trans (hbx.mono hB2.size)
      clear hbx hv2 hu2 hB2
      go_wp2_with fail
      refine ((HSz hu3).out).mono ?_
      rintro e w4 ⟨rfl, hbx⟩
      have hv4 := hv3.keep hbx
      have hu4 := hu3.keep hbx
      have hB4 := hB3.trans (hbx.mono hB3.size)
      clear hbx hv3 hu3 hB3
      go_wp2_with fail
      refine (selectZero_any hv4 i).mono ?_
      rintro e w5 ⟨rfl, hbx⟩
      have hv5 := hv4.keep hbx
      have hu5 := hu4.keep hbx
      have hB5 := hB4.trans (hbx.mono hB4.size)
      clear hbx hv4 hu4 hB4
      go_wp2_with fail
      refine (select_any hu5 i).mono ?_
      rintro e w6 ⟨rfl, hbx⟩
      have hv6 := hv5.keep hbx
      have hu6 := hu5.keep hbx
      have hB6 := hB5.trans (hbx.mono hB5.size)
      clear hbx hv5 hu5 hB5
      go_wp2_with fail
      refine (vones_any hv6).mono ?_
      rintro e w' ⟨rfl, rfl⟩
      go_wp2_with fail
      refine (vones_any hu6).mono ?_
      rintro e w' ⟨rfl, rfl⟩
      go_wp2_with fail
      go_ret
      exact ⟨rfl, hB6⟩

theorem own : ownKnob Try.prog.godebug = none := by kernel_rfl
theorem laidOut : laidOutB Try.prog = true := by kernel_rfl

set_option maxRecDepth 100000 in
theorem lifted (os : Os) (started : os.Started) (H : Type) (enc : TypeId × Value → H) :
    ReturnsInHanded {} Try.checked os 7 .any (Rows.rankFlipsSpec.pre6 enc Try.prog Try.f7 Rows.rankFlipsRow.domain false) (Rows.rankFlipsSpec.post enc Try.prog Try.f7 false true false false) := by
  refine returnsInHanded_of_change (C := Try.checked) own started (by kernel_rfl) Try.func7
    (ChangeSpec.witness6 (enc := enc) (C := Try.checked) false ⟨#[], #[.slice none 0 0, .int .i64 0], []⟩ 8 (by kernel_rfl) (by kernel_rfl) (by kernel_rfl) (by kernel_rfl)) ?_
  intro W base args ds gs before hval0 hW hcnd _
  have hval : ∀ (j : Nat) t v, Try.f7.params[j]? = some t → args[j]? = some v → Value.okWide Try.prog W .any base t v := hval0
  have hW' := hW
  obtain ⟨p, q, hA0, hV, rfl, hfz, hnd⟩ := hW
  have hA : DataW.TrodAll enc Try.prog W 0 (fun _ => true) true Try.f7.params.toList args.toList ds p := hA0
  rw [Try.params7] at hA hval
  obtain ⟨v0, v1, d0, d1, p0, p1, rfl, rfl, rfl, h0, h1⟩ := trodAll_two hA
  obtain ⟨rfl, rfl⟩ := trodVars_none hV
  obtain ⟨A0, n0, c0, V0, rfl, hn0, hz0, ho0⟩ := open_bytes (hval 0 22 v0 rfl rfl) h0
  obtain ⟨a1, rfl, rfl, rfl, wa1⟩ := open_int Try.underlying3 (hval 1 3 v1 rfl rfl) h1
  clear hA0 hval0
  refine (walk A0 n0 c0 V0 a1 W hn0 hz0 ho0 wa1).mono fun e W' ⟨he, hg⟩ => ?_
  subst he
  exact ⟨_, rfl, law_post laidOut rfl rfl rfl (by rw [Try.params7]; decide +kernel) hW' hg⟩

/-- The statement. -/
theorem proved : Rows.RankFlipsSaid :=
  OpenClaim.holds_of_wide 7 Try.f7 rfl rfl rfl rfl rfl rfl rfl ⟨rfl, rfl, rfl, rfl, rfl⟩ rfl rfl rfl rfl rfl (by kernel_rfl) Try.func7 (by kernel_rfl)
    (of_decide_eq_true (by kernel_rfl)) (by unfold Func.isWrapper; first | (rw [if_pos (by decide +kernel)]; kernel_rfl) | (rw [if_neg (by decide +kernel)]; exact ⟨rfl, rfl⟩))
    (fun os started H enc _ => lifted os started H enc)
#print axioms proved
end Go.Proofs.Ytllafbadmhbnoaa.rankFlips
