/- For every input colophonlaw02.RankJoins returns true, and its arguments read as they read. No condition. -/
import Derived.Test.YtllafbadmhbnoaaRankTurns
import Derived.Test.YtllafbadmhbnoaaBytesOwn
namespace Go.Proofs.Ytllafbadmhbnoaa.rankJoins
open Go.ChangeShapes Go.WideShapes Go.ChangeAt Go.RowKit

theorem both_low (V U : Nat → Nat) (n j : Nat) (h : j < n) : bitOf (both V U n) j = bitOf V j := by unfold bitOf both; rw [if_pos h]
theorem both_high (V U : Nat → Nat) (n j : Nat) : bitOf (both V U n) (n + j) = bitOf U j := by
  unfold bitOf both
  rw [if_neg (by omega), Nat.add_sub_cancel_left]
theorem cnt_both (V U : Nat → Nat) (n k : Nat) : Pl.cnt (bitOf (both V U n)) (n + k) = Pl.cnt (bitOf V) n + Pl.cnt (bitOf U) k := by
  rw [Pl.cnt_add, Pl.cnt_congr (fun j hj => both_low V U n j hj), Pl.cnt_congr (fun j _ => both_high V U n j)]
theorem cnt_both0 (V U : Nat → Nat) (n k : Nat) : Pl.cnt (inv (bitOf (both V U n))) (n + k) = Pl.cnt (inv (bitOf V)) n + Pl.cnt (inv (bitOf U)) k := by
  have a := Pl.cnt_congr (f := inv (bitOf (both V U n))) (g := inv (bitOf V)) (n := n) fun j hj => by unfold inv; rw [both_low V U n j hj]
  have b := Pl.cnt_congr (f := fun j => inv (bitOf (both V U n)) (n + j)) (g := inv (bitOf U)) (n := k) fun j _ => by unfold inv; rw [both_high V U n j]
  rw [Pl.cnt_add, a, b]
theorem cnt_both_low (V U : Nat → Nat) (n k : Nat) (h : k ≤ n) : Pl.cnt (bitOf (both V U n)) k = Pl.cnt (bitOf V) k := Pl.cnt_congr fun j hj => both_low V U n j (by omega)

theorem both_lt {w : World} {B B' n m : Nat} {A A' : Option Addr} {V U : Nat → Nat} (h : Bys w B A n V) (h' : Bys w B' A' m U) : ∀ j, j < n + m → both V U n j < 256 := fun j hj => by
  unfold both
  by_cases e : j < n
  · rw [if_pos e]
    obtain ⟨_, _, _, _, x⟩ := h j e
    exact x
  · rw [if_neg e]
    obtain ⟨_, _, _, _, x⟩ := h' (j - n) (by omega)
    exact x

theorem walk_big (A : Option Addr) (n c : Nat) (A' : Option Addr) (m c' : Nat) (i : Int) (w : World) (h : 1500 < n ∨ 1500 < m) (hn : n ≤ 9223372036854775807) (hm : m ≤ 9223372036854775807) :
    Calls Try.prog 8 #[.slice A n c, .slice A' m c', .int .i64 i] w fun e w' => e = .returned (.bool true) ∧ Below w.heap.size w w' := by
  have HF := Lib.hid (rfirst_any w)
  by_cases hab : n < m
  · have hbig : 1500 < m := by omega
    clear h
    go_enter Try.func8, Try.ntmps8
    go_wp2_with fail
    refine HF.out.mono ?_
    rintro e w1 ⟨rfl, hb1⟩
    go_wp2_with fail
    go_ret
    exact ⟨rfl, hb1⟩
  · have hbig : 1500 < n := by omega
    clear h
    go_enter Try.func8, Try.ntmps8
    go_wp2_with fail
    refine HF.out.mono ?_
    rintro e w1 ⟨rfl, hb1⟩
    go_wp2_with fail
    go_ret
    exact ⟨rfl, hb1⟩

set_option maxRecDepth 100000 in
set_option maxHeartbeats 3200000 in
theorem walk_small (A : Option Addr) (n c : Nat) (V : Nat → Nat) (A' : Option Addr) (m c' : Nat) (U : Nat → Nat) (i : Int) (w : World) (hn : n ≤ 1500) (hm : m ≤ 1500) (hA : A = none → n = 0 ∧ c = 0) (ho : Bys w w.heap.size A n V) (hA' : A' = none → m = 0 ∧ c' = 0) (ho' : Bys w w.heap.size A' m U) :
    Calls Try.prog 8 #[.slice A n c, .slice A' m c', .int .i64 i] w fun e w' => e = .returned (.bool true) ∧ Below w.heap.size w w' := by
  have HF := Lib.hid (rfirst_any w)
  have HO := Lib.hid ho
  have HO' := Lib.hid ho'
  have HA := Lib.hid hA
  have HA' := Lib.hid hA'
  have HVa : ∀ W, Below w.heap.size w W → Hid (Calls Try.prog 10 #[.slice A n c] W (VecLaw W n (bitOf V))) := fun W hW => Lib.hid (vec_any A n c V W (by omega) ((HO.out.below hW).mono_ hW.size))
  have HVb : ∀ W, Below w.heap.size w W → Hid (Calls Try.prog 10 #[.slice A' m c'] W (VecLaw W m (bitOf U))) := fun W hW => Lib.hid (vec_any A' m c' U W (by omega) ((HO'.out.below hW).mono_ hW.size))
  obtain ⟨k, hk, hkm⟩ := rankTurns.rest_num i (m + 1) (by omega) (by omega)
  have hk3 : wrap64 ((IntKind.u64.wrap i).tmod ((m : Int) + 1)) = (k : Int) := hk
  have HK := Lib.hid hk3
  have hkm1 : k ≤ m := by omega
  have s1 := cnt_both V U n k
  have s0 := cnt_both0 V U n k
  have sn : Pl.cnt (bitOf V) n + Pl.cnt (inv (bitOf V)) n = n := Pl.cnt_not (bitOf V) n
  obtain ⟨l, hl⟩ : ∃ l, min k n = l := ⟨_, rfl⟩
  have sl := cnt_both_low V U n l (by omega)
  obtain ⟨t, ht⟩ : ∃ t, Pl.cnt (bitOf V) n = t := ⟨_, rfl⟩
  obtain ⟨r, hr⟩ : ∃ r, Pl.cnt (bitOf U) k = r := ⟨_, rfl⟩
  obtain ⟨z, hz⟩ : ∃ z, Pl.cnt (inv (bitOf U)) k = z := ⟨_, rfl⟩
  obtain ⟨q, hq⟩ : ∃ q, Pl.cnt (bitOf V) l = q := ⟨_, rfl⟩
  have bt := Pl.cnt_le (bitOf V) n
  have br := Pl.cnt_le (bitOf U) k
  have bz := Pl.cnt_le (inv (bitOf U)) k
  rw [ht] at bt s1 sn
  rw [hr] at br s1
  rw [hz] at bz s0
  rw [hq] at sl
  have SIGV : ∀ {W : World} {B g gw : Nat} {av : Value} {ws : List Nat}, Vc W B g gw av n ws (bitOf V) → Hid (Calls Try.prog 12 #[.pointer (some ⟨g, 0, none⟩)] W fun e w' => e = .returned (.int .i64 (t : Int)) ∧ W = w') := fun h => by rw [← ht]; exact Lib.hid (vones_any h)
  have SIGL : ∀ {W : World} {B g gw : Nat} {av : Value} {ws : List Nat}, Vc W B g gw av n ws (bitOf V) → Hid (Calls Try.prog 14 #[.pointer (some ⟨g, 0, none⟩), .int .i64 (l : Int)] W fun e w' => e = .returned (.int .i64 (q : Int)) ∧ W = w') := fun h => by have c := rank_any h (l : Int); rw [Pl.clamp_nat (by omega), hq] at c; exact Lib.hid c
  have SIGR : ∀ {W : World} {B g gw : Nat} {av : Value} {ws : List Nat}, Vc W B g gw av m ws (bitOf U) → Hid (Calls Try.prog 14 #[.pointer (some ⟨g, 0, none⟩), .int .i64 (k : Int)] W fun e w' => e = .returned (.int .i64 (r : Int)) ∧ W = w') := fun h => by have c := rank_any h (k : Int); rw [Pl.clamp_nat hkm1, hr] at c; exact Lib.hid c
  have SIGZ : ∀ {W : World} {B g gw : Nat} {av : Value} {ws : List Nat}, Vc W B g gw av m ws (bitOf U) → Hid (Calls Try.prog 15 #[.pointer (some ⟨g, 0, none⟩), .int .i64 (k : Int)] W fun e w' => e = .returned (.int .i64 (z : Int)) ∧ W = w') := fun h => by have c := zeros_any h (k : Int); rw [Pl.clamp_nat hkm1, hz] at c; exact Lib.hid c
  have SIGX : ∀ {W : World} {B g gw : Nat} {av : Value} {ws : List Nat}, Vc W B g gw av (n + m) ws (bitOf (both V U n)) → Hid (Calls Try.prog 14 #[.pointer (some ⟨g, 0, none⟩), .int .i64 ((n : Int) + (k : Int))] W fun e w' => e = .returned (.int .i64 ((t : Int) + (r : Int))) ∧ W = w') := fun h => by
    have c := rank_any h ((n + k : Nat) : Int)
    rw [Pl.clamp_nat (by omega), s1] at c
    exact Lib.hid c
  have SIGY : ∀ {W : World} {B g gw : Nat} {av : Value} {ws : List Nat}, Vc W B g gw av (n + m) ws (bitOf (both V U n)) → Hid (Calls Try.prog 15 #[.pointer (some ⟨g, 0, none⟩), .int .i64 ((n : Int) + (k : Int))] W fun e w' => e = .returned (.int .i64 ((n : Int) - (t : Int) + (z : Int))) ∧ W = w') := fun h => by
    have c := zeros_any h ((n + k : Nat) : Int)
    rw [Pl.clamp_nat (by omega), s0] at c
    rw [show (n : Int) - (t : Int) + (z : Int) = ((Pl.cnt (inv (bitOf V)) n + z : Nat) : Int) by omega]
    exact Lib.hid c
  have SIGM : ∀ {W : World} {B g gw : Nat} {av : Value} {ws : List Nat}, Vc W B g gw av (n + m) ws (bitOf (both V U n)) → Hid (Calls Try.prog 14 #[.pointer (some ⟨g, 0, none⟩), .int .i64 (l : Int)] W fun e w' => e = .returned (.int .i64 (q : Int)) ∧ W = w') := fun h => by have c := rank_any h (l : Int); rw [Pl.clamp_nat (by omega), sl] at c; exact Lib.hid c
  have HL := Lib.hid hl
  clear hl ho ho' hA hA' hk hk3 hkm s1 s0 sn sl ht hr hz hq
  by_cases hkn : (n : Int) < (k : Int)
  · obtain rfl : n = l := by have := HL.out; omega
    go_enter Try.func8, Try.ntmps8
    go_wp2_with fail
    refine HF.out.mono ?_
    rintro e w0 ⟨rfl, hb0⟩
    have H1 := HVa w0 hb0
    go_wp2_with fail
    refine H1.out.mono ?_
    rintro e w1 ⟨g, gw, av, ws, rfl, hv, hb1⟩
    have hB1 := hb0.trans (hb1.mono hb0.size)
    have H2 := HVb w1 hB1
    clear H1 hb0 hb1
    go_wp2_with fail
    refine H2.out.mono ?_
    rintro e w2 ⟨g2, gw2, av2, ws2, rfl, hu2, hb2⟩
    have hv2 := hv.keep hb2
    have hB2 := hB1.trans (hb2.mono hB1.size)
    have hown : Hid ((w2.alloc (.cells #[] 5)).ownsRow w2.heap.size 5 1 (.slice (some ⟨w2.heap.size, 0, none⟩) 0 0) 0 []) := Lib.hid (World.ownsRow_lit w2 #[] 0 (Nat.le_refl _) (Nat.zero_le _) rfl)
    have hbl : Below w2.heap.size w2 (w2.alloc (.cells #[] 5)) := (Below.refl _ _).alloc (Nat.le_refl _) _
    have HBL := Lib.hid hbl
    clear hv hb2 hB1 H2 hbl HVa HVb
    go_wp2_with (first | (at_builtin; refine step_append_bytes rfl (.tmp 23) (.tmp 24) rfl rfl hown.out rfl HA.out (HO.out.below (hB2.trans (HBL.out.mono hB2.size))) (by simp) (by omega) ?_; intro v3 w3 hown3 hb3) | (at_builtin; refine step_append_bytes rfl (.tmp 25) (.tmp 26) rfl rfl hown3.out rfl HA'.out (HO'.out.below (hB2.trans ((HBL.out.trans hb3).mono hB2.size))) (HBL.out.trans hb3).size (by omega) ?_; intro v4 w4 hown4 hb4))
    have hb24 := (HBL.out.trans hb3).trans hb4
    have h4 := hown4.out
    rw [List.nil_append, Nat.zero_add, ycells_both] at h4
    obtain ⟨A3, c3, rfl, hA3, hO3⟩ := bys_of_row h4 (both_lt HO.out HO'.out)
    have HV3 := Lib.hid (vec_any A3 (n + m) c3 (both V U n) w4 (by omega) hO3)
    have hv4 := hv2.keep hb24
    have hu4 := hu2.keep hb24
    have hB4 := hB2.trans (hb24.mono hB2.size)
    clear hb3 hb4 hb24 h4 hown hown3 hown4 HBL hv2 hu2 hB2 hO3
    go_wp2_with fail
    refine HV3.out.mono ?_
    rintro e w5 ⟨g5, gw5, av5, ws5, rfl, hx5, hb5⟩
    have hv5 := hv4.keep hb5
    have hu5 := hu4.keep hb5
    have hB5 := hB4.trans (hb5.mono hB4.size)
    clear hb5 hv4 hu4 hB4 HV3
    have hk3 := HK.out
    go_wp2_with fail
    rw [hk3]
    clear hk3
    refine (SIGX hx5).out.mono ?_
    rintro e w' ⟨rfl, rfl⟩
    go_wp2_with fail
    refine (SIGV hv5).out.mono ?_
    rintro e w' ⟨rfl, rfl⟩
    go_wp2_with fail
    refine (SIGR hu5).out.mono ?_
    rintro e w' ⟨rfl, rfl⟩
    go_wp2_with fail
    refine (SIGY hx5).out.mono ?_
    rintro e w' ⟨rfl, rfl⟩
    go_wp2_with fail
    refine (SIGV hv5).out.mono ?_
    rintro e w' ⟨rfl, rfl⟩
    go_wp2_with fail
    refine (SIGZ hu5).out.mono ?_
    rintro e w' ⟨rfl, rfl⟩
    go_wp2_with fail
    refine (SIGM hx5).out.mono ?_
    rintro e w' ⟨rfl, rfl⟩
    go_wp2_with fail
    refine (SIGL hv5).out.mono ?_
    rintro e w' ⟨rfl, rfl⟩
    go_wp2_with fail
    go_ret
    exact ⟨rfl, hB5⟩
  · obtain rfl : k = l := by have := HL.out; omega
    by_cases hnm : n < m
    all_goals
      go_enter Try.func8, Try.ntmps8
      go_wp2_with fail
      refine HF.out.mono ?_
      rintro e w0 ⟨rfl, hb0⟩
      have H1 := HVa w0 hb0
      go_wp2_with fail
      refine H1.out.mono ?_
      rintro e w1 ⟨g, gw, av, ws, rfl, hv, hb1⟩
      have hB1 := hb0.trans (hb1.mono hb0.size)
      have H2 := HVb w1 hB1
      clear H1 hb0 hb1
      go_wp2_with fail
      refine H2.out.mono ?_
      rintro e w2 ⟨g2, gw2, av2, ws2, rfl, hu2, hb2⟩
      have hv2 := hv.keep hb2
      have hB2 := hB1.trans (hb2.mono hB1.size)
      have hown : Hid ((w2.alloc (.cells #[] 5)).ownsRow w2.heap.size 5 1 (.slice (some ⟨w2.heap.size, 0, none⟩) 0 0) 0 []) := Lib.hid (World.ownsRow_lit w2 #[] 0 (Nat.le_refl _) (Nat.zero_le _) rfl)
      have hbl : Below w2.heap.size w2 (w2.alloc (.cells #[] 5)) := (Below.refl _ _).alloc (Nat.le_refl _) _
      have HBL := Lib.hid hbl
      clear hv hb2 hB1 H2 hbl HVa HVb
      go_wp2_with (first | (at_builtin; refine step_append_bytes rfl (.tmp 23) (.tmp 24) rfl rfl hown.out rfl HA.out (HO.out.below (hB2.trans (HBL.out.mono hB2.size))) (by simp) (by omega) ?_; intro v3 w3 hown3 hb3) | (at_builtin; refine step_append_bytes rfl (.tmp 25) (.tmp 26) rfl rfl hown3.out rfl HA'.out (HO'.out.below (hB2.trans ((HBL.out.trans hb3).mono hB2.size))) (HBL.out.trans hb3).size (by omega) ?_; intro v4 w4 hown4 hb4))
      have hb24 := (HBL.out.trans hb3).trans hb4
      have h4 := hown4.out
      rw [List.nil_append, Nat.zero_add, ycells_both] at h4
      obtain ⟨A3, c3, rfl, hA3, hO3⟩ := bys_of_row h4 (both_lt HO.out HO'.out)
      have HV3 := Lib.hid (vec_any A3 (n + m) c3 (both V U n) w4 (by omega) hO3)
      have hv4 := hv2.keep hb24
      have hu4 := hu2.keep hb24
      have hB4 := hB2.trans (hb24.mono hB2.size)
      clear hb3 hb4 hb24 h4 hown hown3 hown4 HBL hv2 hu2 hB2 hO3
      go_wp2_with fail
      refine HV3.out.mono ?_
      rintro e w5 ⟨g5, gw5, av5, ws5, rfl, hx5, hb5⟩
      have hv5 := hv4.keep hb5
      have hu5 := hu4.keep hb5
      have hB5 := hB4.trans (hb5.mono hB4.size)
      clear hb5 hv4 hu4 hB4 HV3
      have hk3 := HK.out
      go_wp2_with fail
      rw [hk3]
      clear hk3
      refine (SIGX hx5).out.mono ?_
      rintro e w' ⟨rfl, rfl⟩
      go_wp2_with fail
      refine (SIGV hv5).out.mono ?_
      rintro e w' ⟨rfl, rfl⟩
      go_wp2_with fail
      refine (SIGR hu5).out.mono ?_
      rintro e w' ⟨rfl, rfl⟩
      go_wp2_with fail
      refine (SIGY hx5).out.mono ?_
      rintro e w' ⟨rfl, rfl⟩
      go_wp2_with fail
      refine (SIGV hv5).out.mono ?_
      rintro e w' ⟨rfl, rfl⟩
      go_wp2_with fail
      refine (SIGZ hu5).out.mono ?_
      rintro e w' ⟨rfl, rfl⟩
      go_wp2_with fail
      refine (SIGM hx5).out.mono ?_
      rintro e w' ⟨rfl, rfl⟩
      go_wp2_with fail
      refine (SIGL hv5).out.mono ?_
      rintro e w' ⟨rfl, rfl⟩
      go_wp2_with fail
      go_ret
      exact ⟨rfl, hB5⟩

theorem walk (A : Option Addr) (n c : Nat) (V : Nat → Nat) (A' : Option Addr) (m c' : Nat) (U : Nat → Nat) (i : Int) (w : World) (hn : n ≤ maxLen) (hA : A = none → n = 0 ∧ c = 0) (ho : Bys w w.heap.size A n V) (hm : m ≤ maxLen) (hA' : A' = none → m = 0 ∧ c' = 0) (ho' : Bys w w.heap.size A' m U) (_hk : (Lit.int .i64 i).wf = true) :
    Calls Try.prog 8 #[.slice A n c, .slice A' m c', .int .i64 i] w fun e w' => e = .returned (.bool true) ∧ Below w.heap.size w w' := by
  unfold maxLen at hn hm
  by_cases h : 1500 < n ∨ 1500 < m
  · exact walk_big A n c A' m c' i w h (by omega) (by omega)
  · exact walk_small A n c V A' m c' U i w (by omega) (by omega) hA ho hA' ho'

theorem own : ownKnob Try.prog.godebug = none := by kernel_rfl
theorem laidOut : laidOutB Try.prog = true := by kernel_rfl

set_option maxRecDepth 100000 in
theorem lifted (os : Os) (started : os.Started) (H : Type) (enc : TypeId × Value → H) :
    ReturnsInHanded {} Try.checked os 8 .any (Rows.rankJoinsSpec.pre6 enc Try.prog Try.f8 Rows.rankJoinsRow.domain false) (Rows.rankJoinsSpec.post enc Try.prog Try.f8 false true false false) := by
  refine returnsInHanded_of_change (C := Try.checked) own started (by kernel_rfl) Try.func8
    (ChangeSpec.witness6 (enc := enc) (C := Try.checked) false ⟨#[], #[.slice none 0 0, .slice none 0 0, .int .i64 0], []⟩ 8 (by kernel_rfl) (by kernel_rfl) (by kernel_rfl) (by kernel_rfl)) ?_
  intro W base args ds gs before hval0 hW hcnd _
  have hval : ∀ (j : Nat) t v, Try.f8.params[j]? = some t → args[j]? = some v → Value.okWide Try.prog W .any base t v := hval0
  have hW' := hW
  obtain ⟨p, q, hA0, hV, rfl, hfz, hnd⟩ := hW
  have hA : DataW.TrodAll enc Try.prog W 0 (fun _ => true) true Try.f8.params.toList args.toList ds p := hA0
  rw [Try.params8] at hA hval
  obtain ⟨v0, v1, v2, d0, d1, d2, p0, p1, p2, rfl, rfl, rfl, h0, h1, h2⟩ := trodAll_three hA
  obtain ⟨rfl, rfl⟩ := trodVars_none hV
  obtain ⟨A0, n0, c0, V0, rfl, hn0, hz0, ho0⟩ := open_bytes (hval 0 22 v0 rfl rfl) h0
  obtain ⟨A1, n1, c1, V1, rfl, hn1, hz1, ho1⟩ := open_bytes (hval 1 22 v1 rfl rfl) h1
  obtain ⟨a2, rfl, rfl, rfl, wa2⟩ := open_int Try.underlying3 (hval 2 3 v2 rfl rfl) h2
  clear hA0 hval0
  refine (walk A0 n0 c0 V0 A1 n1 c1 V1 a2 W hn0 hz0 ho0 hn1 hz1 ho1 wa2).mono fun e W' ⟨he, hg⟩ => ?_
  subst he
  exact ⟨_, rfl, law_post laidOut rfl rfl rfl (by rw [Try.params8]; decide +kernel) hW' hg⟩

/-- The statement. -/
theorem proved : Rows.RankJoinsSaid :=
  OpenClaim.holds_of_wide 8 Try.f8 rfl rfl rfl rfl rfl rfl rfl ⟨rfl, rfl, rfl, rfl, rfl⟩ rfl rfl rfl rfl rfl (by kernel_rfl) Try.func8 (by kernel_rfl)
    (of_decide_eq_true (by kernel_rfl)) (by unfold Func.isWrapper; first | (rw [if_pos (by decide +kernel)]; kernel_rfl) | (rw [if_neg (by decide +kernel)]; exact ⟨rfl, rfl⟩))
    (fun os started H enc _ => lifted os started H enc)
#print axioms proved
end Go.Proofs.Ytllafbadmhbnoaa.rankJoins
