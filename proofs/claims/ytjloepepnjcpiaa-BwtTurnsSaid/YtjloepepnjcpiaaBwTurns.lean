/- The walk of colophonlaw11.BwtTurns, over what package bwt answers (BwtI). -/
import Derived.Test.YtjloepepnjcpiaaBwtI
import Derived.Test.YtjloepepnjcpiaaListR
namespace Go.Proofs.Ytjloepepnjcpiaa
open Go.RowKit

set_option maxRecDepth 100000 in
set_option maxHeartbeats 1600000 in
theorem lawAt_any (A : Option Addr) (n c : Nat) (S : Nat → Int) (h : Nat) (B : Nat) (w : World) (hn : n ≤ 4194304) (ho : Its w B A n S) (hh : h < n) (h0 : S h = 0) (hne : ∀ j, j < h → S j ≠ 0) :
    Calls Try.prog 18 #[.slice A n c, .int .i64 0] w fun e w' => e = .returned (.int .i64 (h : Int)) ∧ w = w' := by
  have HO := Lib.hid ho
  have H0 := Lib.hid h0
  have HN := Lib.hid hne
  clear ho h0 hne
  go_enter Try.func18, Try.ntmps18
  go_wp2_with fail
  go_loop [8] (fun v => ∃ i : Nat, i ≤ h ∧ v = .int .i64 (i : Int)) (fun v => h - (intOf v).toNat)
  case atStart => exact ⟨0, Nat.zero_le _, rfl⟩
  case round =>
    obtain ⟨i, hi, rfl⟩ := hrel
    have hlti : (i : Int) < (n : Int) := by omega
    obtain ⟨ad, rfl, _, hc, _⟩ := HO.out i (by omega)
    by_cases e : i = h
    · rw [e, H0.out] at hc
      rw [e] at hlti ⊢
      clear e
      go_wp2_with fail
      go_ret
      exact ⟨rfl, rfl⟩
    · have hlt : i < h := by omega
      have h1 := HN.out i hlt
      obtain ⟨x, hx⟩ : ∃ x, S i = x := ⟨_, rfl⟩
      rw [hx] at hc h1
      have d1 : (x == 0) = false := by rw [beq_eq_false_iff_ne]; exact h1
      clear hx
      go_wp2_with fail
      go_round
      case rel => exact ⟨i + 1, by omega, by go_num⟩
      case measure => simp [intOf]; omega
/-- a list with an end of its own: numbers above k, then k. -/
def endN (V : Nat → Nat) (m k j : Nat) : Nat := if j < m then k + 1 + V j % 7 else k
def endI (V : Nat → Nat) (m k j : Nat) : Int := ((endN V m k j : Nat) : Int)
theorem endI_in {V : Nat → Nat} {m k : Nat} (hk : k < 5) (j : Nat) : 0 ≤ endI V m k j ∧ endI V m k j < 13 := by
  unfold endI endN
  have := Nat.mod_lt (V j) (show 0 < 7 by omega)
  split <;> omega
theorem endI_ends {V : Nat → Nat} {m k : Nat} : EndsT (endI V m k) (m + 1) := ⟨by omega, fun i hi => by
  unfold endI endN
  rw [if_neg (by omega), if_pos (by omega)]
  omega⟩
theorem turned_in' {U : Nat → Int} {m : Nat} {s : Nat → Nat} {P : Int → Prop} (hs : IsSA U m s) (hP : ∀ i, i < m → P (U i)) : ∀ i, i < m → P (turnI U m (fun j => ((s j : Nat) : Int)) i) := fun i hi => by
  rw [turnI_nat]
  exact hP _ (aheadN_lt (hs.1 i hi))
set_option maxRecDepth 100000 in
set_option maxHeartbeats 3200000 in
theorem bwTurns_walk (I : BwtI) (A : Option Addr) (n ca : Nat) (V : Nat → Nat) (en : Int) (w : World) (hn : n ≤ maxLen) (ho : Bys w w.heap.size A n V) :
    Calls Try.prog 6 #[.slice A n ca, .int .i64 en] w fun e w' => e = .returned (.bool true) ∧ Below w.heap.size w w' := by
  have HI := Lib.hid I
  have HO := Lib.hid ho
  have HF := Lib.hid (bfirst_any I w)
  have hnl : n ≤ 9223372036854775807 := by unfold maxLen at hn; omega
  obtain ⟨k, hk, hk5⟩ := turn_w en 5 (by omega) (by omega)
  have hk3 : wrap64 ((IntKind.u64.wrap en).tmod 5) = (k : Int) := hk
  have HK := Lib.hid hk3
  clear I ho hn hk hk3
  go_enter Try.func6, Try.ntmps6
  go_wp2_with fail
  refine HF.out.mono ?_
  rintro e w0 ⟨rfl, hb0⟩
  clear HF
  go_wp2_with fail
  rw [HK.out]
  go_loopw [6, 22] (fun u v wr => ∃ i : Nat, i ≤ n ∧ v = .int .i64 (i : Int) ∧ Hid (wr.ownsRow w.heap.size 3 1 u (min i 150) (icells (fun j => ((k + 1 + V j % 7 : Nat) : Int)) (min i 150))) ∧ Below w.heap.size w wr) (fun _ v _ => n - (intOf v).toNat)
  case atStart => exact ⟨0, Nat.zero_le _, rfl, Lib.hid (World.ownsRow_nil _ _ _ _), hb0⟩
  case round =>
    obtain ⟨i, hi, rfl, hrow, hb⟩ := hrel
    have hbs := hb.size
    by_cases hlt : i < n
    · have hlti : (i : Int) < (n : Int) := by omega
      obtain ⟨ad, rfl, _, hc, hv⟩ := (HO.out.below hb) i hlt
      by_cases h3 : i < 150
      · have d3 : decide ((i : Int) < 150) = true := decide_eq_true (by omega)
        have e1 : min i 150 = i := by omega
        have e2 : min (i + 1) 150 = i + 1 := by omega
        have HRow : Hid (wr.ownsRow w.heap.size 3 1 u6 i (icells (fun j => ((k + 1 + V j % 7 : Nat) : Int)) i)) := Lib.hid (by have h := hrow.out; rwa [e1] at h)
        have hi4 : i ≤ 4194304 := by omega
        have HE2 := Lib.hid e2
        obtain ⟨x, hx⟩ : ∃ x, V i = x := ⟨_, rfl⟩
        rw [hx] at hc hv
        obtain ⟨r, hr⟩ : ∃ r, x % 7 = r := ⟨_, rfl⟩
        have hr7 : r < 7 := by omega
        obtain ⟨y, hy⟩ : ∃ y, k + 1 + r = y := ⟨_, rfl⟩
        have HX : Hid (k + 1 + V i % 7 = y) := Lib.hid (by rw [hx, hr, hy])
        have w1 : IntKind.i64.wrap ((k : Int) + 1) = (k : Int) + 1 := IntWalk.i64_in _ (by omega)
        have w2 : (x : Int).tmod 7 = (r : Int) := by rw [Int.tmod_eq_emod_of_nonneg (by omega)]; omega
        have w3 : IntKind.i64.wrap (r : Int) = (r : Int) := IntWalk.i64_in _ (by omega)
        have w4 : IntKind.i64.wrap ((k : Int) + 1 + (r : Int)) = (y : Int) := by rw [IntWalk.i64_in _ (by omega)]; omega
        clear hrow e1 e2 hx hr hy
        go_wp2_with (at_builtin; refine step_append_int rfl (.tmp 29) (.tmp 36) rfl rfl HRow.out (y : Int) rfl hbs hi4 ?_; intro v3 w3 hown3 hb3)
        go_roundw
        case rel => exact ⟨i + 1, by omega, by go_num, Lib.hid (by
          rw [HE2.out, icells_snoc, HX.out]
          exact hown3.out), hb.trans hb3⟩
        case measure => simp [intOf]; omega
      · have d3 : decide ((i : Int) < 150) = false := decide_eq_false (by omega)
        have e1 : min i 150 = min (i + 1) 150 := by omega
        have HRow : Hid (wr.ownsRow w.heap.size 3 1 u6 (min (i + 1) 150) (icells (fun j => ((k + 1 + V j % 7 : Nat) : Int)) (min (i + 1) 150))) := Lib.hid (by have h := hrow.out; rwa [e1] at h)
        clear hrow e1
        go_wp2_with fail
        go_roundw
        case rel => exact ⟨i + 1, by omega, by go_num, HRow, hb⟩
        case measure => simp [intOf]; omega
    · obtain rfl : i = n := by omega
      obtain ⟨m, hm⟩ : ∃ m, min i 150 = m := ⟨_, rfl⟩
      have hm3 : m ≤ 150 := by omega
      have hm4 : m ≤ 4194304 := by omega
      rw [hm] at hrow
      have HRow : Hid (wr.ownsRow w.heap.size 3 1 u6 m (icells (endI V m k) m)) := Lib.hid (by
        rw [← icells_congr (U := fun j => ((k + 1 + V j % 7 : Nat) : Int)) (U' := endI V m k) (fun j hj => by unfold endI endN; rw [if_pos hj])]
        exact hrow.out)
      clear hrow hm hlt
      go_wp2_with (at_builtin; refine step_append_int rfl (.tmp 39) (.tmp 41) rfl rfl HRow.out (k : Int) rfl hbs hm4 ?_; intro v3 w3 hown3 hb3)
      have hown4 : w3.ownsRow w.heap.size 3 1 v3 (m + 1) (icells (endI V m k) (m + 1)) := by
        have e : endI V m k m = (k : Int) := by unfold endI endN; rw [if_neg (by omega)]
        rw [icells_snoc, e]
        exact hown3.out
      have HUs : Hid (∀ j, 0 ≤ endI V m k j ∧ endI V m k j < 13) := Lib.hid (endI_in hk5)
      have HEn : Hid (EndsT (endI V m k) (m + 1)) := Lib.hid endI_ends
      obtain ⟨T, ct, rfl, hit⟩ := ItsR.of_own hown4 (fun j _ => by have := HUs.out j; omega)
      obtain ⟨N, hN⟩ : ∃ N, m + 1 = N := ⟨_, rfl⟩
      have hN0 : 0 < N := by omega
      have hN3 : N ≤ 151 := by omega
      rw [hN] at hit HEn ⊢
      have hct := hit.2.1
      have hctm : ct ≤ 9223372036854775807 := by have := hit.2.2.1; unfold maxLen at this; omega
      have HT := Lib.hid hit
      have hB0 := hb.trans hb3
      obtain ⟨U, hU⟩ : ∃ U : Nat → Int, endI V m k = U := ⟨_, rfl⟩
      rw [hU] at HT hit HUs HEn
      have H1 := Lib.hid (refArrayS_any T N ct U w3 (by omega) hit.2.2.2)
      clear hit hown3 hown4 hN hU HRow hbs hb hb3
      go_wp2_with fail
      refine H1.out.mono ?_
      rintro e w4 ⟨u1, s, rfl, hs, hown1, hb1⟩
      obtain ⟨A1, c1, rfl, hi1⟩ := ItsR.of_own hown1 (fun j hj => by have := hs.1 j hj; omega)
      have HS := Lib.hid hs
      have hB1 := hB0.trans (hb1.mono hB0.size)
      have HT1 := Lib.hid (HT.out.below hb1)
      have HI1 := Lib.hid hi1
      have H2 := Lib.hid (HI.out.make T N ct U A1 N c1 (fun i => ((s i : Nat) : Int)) w4 (by omega) (by omega) HT1.out hi1)
      clear H1 hs hown1 hb1 hi1 HT hB0
      go_wp2_with fail
      refine H2.out.mono ?_
      rintro e w5 ⟨h2, _, hb2⟩
      obtain ⟨A2, c2, rfl, hi2⟩ := h2 ⟨rfl, HS.out.perm⟩
      have hB2 := hB1.trans (hb2.mono hB1.size)
      have HT2 := Lib.hid (HT1.out.below hb2)
      have HI2 := Lib.hid hi2
      obtain ⟨h, hh, h0⟩ := HS.out.onto hN0
      have HH0 := Lib.hid h0
      have H3 := Lib.hid (lawAt_any A1 N c1 (fun i => ((s i : Nat) : Int)) h w5.heap.size w5 (by omega) (HI1.out.below hb2).2.2.2 hh (by show ((s h : Nat) : Int) = 0; rw [h0]; rfl) (fun j hj e => by
        have e : ((s j : Nat) : Int) = 0 := e
        have := HS.out.inj (show j < N by omega) hh (by omega)
        omega))
      clear h2 H2 hb2 hi2 HT1 hB1 HI1 h0
      go_wp2_with fail
      refine H3.out.mono ?_
      rintro e w6 ⟨rfl, rfl⟩
      have HTu : Hid (TurnedOf (turnI U N fun i => ((s i : Nat) : Int)) N h U) := Lib.hid ⟨s, HS.out, HH0.out, fun i _ => turnI_nat U N s i⟩
      have H4 := Lib.hid (HI.out.back A2 N c2 _ (h : Int) 13 w5 (by omega) (wf_i64 (by omega) (by omega)) (by decide) (.inl (by omega)) HI2.out)
      clear H3 HI2
      go_wp2_with fail
      refine H4.out.mono ?_
      rintro e w7 ⟨_, _, h4, _, hb4⟩
      obtain ⟨A4, c4, rfl, hi4⟩ := h4 ⟨⟨by omega, by omega, by omega⟩, turned_in' (P := fun x => 0 ≤ x ∧ x < 13) HS.out (fun i _ => HUs.out i)⟩ h rfl hh (back_ok hh HEn.out HTu.out)
      have hB4 := hB2.trans (hb4.mono hB2.size)
      have HT4 := Lib.hid (HT2.out.below hb4)
      have H5 := Lib.hid (refSame8_any A4 T N N c4 ct _ U w7.heap.size w7.heap.size w7 (by unfold maxLen; omega) (Nat.le_refl _) (Nat.le_refl _) hi4.2.2.2 HT4.out.2.2.2)
      clear h4 H4 hb4 hi4 HT2 hB2
      go_wp2_with fail
      refine H5.out.mono ?_
      rintro e w8 ⟨b, rfl, hbi, hb5⟩
      obtain rfl : b = true := hbi.2 ⟨by trivial, fun i hi => (back_is hh HEn.out HTu.out i hi).symm⟩
      have hB5 := hB4.trans (hb5.mono hB4.size)
      clear hbi
      go_wp2_with fail
      go_ret
      exact ⟨rfl, hB5⟩
end Go.Proofs.Ytjloepepnjcpiaa
