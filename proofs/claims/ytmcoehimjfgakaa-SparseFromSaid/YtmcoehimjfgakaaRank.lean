/- The contracts of Rank and Zeros of package rank. -/
import Derived.Test.YtmcoehimjfgakaaVec
import Derived.Test.YtmcoehimjfgakaaOnes
namespace Go.Proofs.Ytmcoehimjfgakaa
open Go.RowKit

theorem Bits.cnt_same {ws : List Nat} {n : Nat} {f : Nat → Bool} (h : Bits ws n f) {i : Nat} (hi : i ≤ n) : Pl.cnt f i = Pl.cnt (Pl.bitAt ws) i :=
  Pl.cnt_congr fun j hj => (h.same j (by omega)).symm

section
variable {w w' : World} {B g gw n : Nat} {av : Value} {ws : List Nat} {f : Nat → Bool}

theorem rank_top (h : Vc w B g gw av n ws f) (i : Int) (hi : Pl.clamp n i = n) : Calls Try.prog 66 #[.pointer (some ⟨g, 0, none⟩), .int .i64 i] w fun e w' => e = .returned (.int .i64 ((Pl.cnt f n : Nat) : Int)) ∧ w = w' := by
  have hW := within_any h i
  rw [hi] at hW
  have HW := Lib.hid hW
  clear hW hi
  go_enter Try.func66, Try.ntmps66
  go_wp2_with (first
    | (go_at_call 72; refine HW.out.mono ?_; rintro e w' ⟨rfl, rfl⟩)
    | (go_at_call 56; refine (vlen_any h).mono ?_; rintro e w' ⟨rfl, rfl⟩)
    | (go_at_call 54; refine (vones_any h).mono ?_; rintro e w' ⟨rfl, rfl⟩))
  go_ret
  exact ⟨rfl, rfl⟩

set_option maxRecDepth 100000 in
set_option maxHeartbeats 800000 in
theorem rank_in (h : Vc w B g gw av n ws f) (i : Int) (j : Nat) (hi : Pl.clamp n i = j) (hj : j < n) : Calls Try.prog 66 #[.pointer (some ⟨g, 0, none⟩), .int .i64 i] w fun e w' => e = .returned (.int .i64 ((Pl.cnt f j : Nat) : Int)) ∧ w = w' := by
  have hW := within_any h i
  rw [hi] at hW
  have HW := Lib.hid hW
  have hfew := h.bits.few
  obtain ⟨L, hL⟩ : ∃ L, ws.length = L := ⟨_, rfl⟩
  have hlen := h.bits.len
  rw [hL] at hlen
  obtain ⟨q, hq⟩ : ∃ q, j / 64 = q := ⟨_, rfl⟩
  obtain ⟨r, hr⟩ : ∃ r, j % 64 = r := ⟨_, rfl⟩
  obtain ⟨b, hb⟩ : ∃ b, q / 8 = b := ⟨_, rfl⟩
  obtain ⟨c, hc⟩ : ∃ c, b * 8 = c := ⟨_, rfl⟩
  have hcq : c ≤ q := by omega
  have hqL : q < L := by omega
  have hcL : c < L := by omega
  have hr64 : r < 64 := by omega
  have hL9 : L ≤ 65536 := by omega
  have eq1 : (j : Int) / 64 = (q : Int) := by omega
  have eq2 : (j : Int) % 64 = (r : Int) := by omega
  have eq3 : (q : Int) / 8 = (b : Int) := by omega
  have eq4 : (b : Int) * 8 = (c : Int) := by omega
  have hsame := h.bits
  obtain ⟨ga, ca, rfl, hB, hga, hca⟩ := h.row b (by omega)
  rw [h.bits.cnt_same (by omega)] at hca
  have e512 : 512 * b = 64 * c := by omega
  rw [e512] at hca
  have hcm : Pl.cnt (Pl.bitAt ws) (64 * c) ≤ 64 * c := Pl.cnt_le _ _
  have hc2 := h.c2
  have hc3 := h.c3
  rw [hL] at hc2 hc3
  have hm : b < (L + 7) / 8 := by omega
  have hne : ((j : Int) == (n : Int)) = false := by rw [beq_eq_false_iff_ne]; omega
  have HH := Lib.hid h
  have HLen := Lib.hid (vlen_any h)
  have Hq := Lib.hid hq
  have Hr := Lib.hid hr
  have HL := Lib.hid hL
  have HS := Lib.hid hsame
  clear h hq hr hL hb hc hlen hi hW e512 hsame
  go_enter Try.func66, Try.ntmps66
  go_wp2_with (first
    | (go_at_call 72; refine HW.out.mono ?_; rintro e w' ⟨rfl, rfl⟩)
    | (go_at_call 56; refine HLen.out.mono ?_; rintro e w' ⟨rfl, rfl⟩))
  go_loop [7, 40] (fun s v => ∃ k : Nat, k ≤ q - c ∧ v = .int .i64 (k : Int) ∧ s = .int .i64 ((Pl.cnt (Pl.bitAt ws) (64 * (c + k)) : Nat) : Int)) (fun _ v => (q - c) - (intOf v).toNat)
  case atStart => exact ⟨0, Nat.zero_le _, rfl, rfl⟩
  case round =>
    obtain ⟨k, hk, rfl, rfl⟩ := hrel
    have hm1 := Pl.cnt_le (Pl.bitAt ws) (64 * (c + k))
    by_cases hlt : k < q - c
    · have hcell := HH.out.word (c + k) (by rw [HL.out]; omega)
      have hx := HH.out.bits.small.at_ (c + k)
      have hstep := Pl.cnt_word ws (c + k)
      generalize ws.getD (c + k) 0 = x at hcell hx hstep
      have hp := Pl.pop_le x
      have HO := Lib.hid (ones64_any x hx w)
      have HT := Lib.hid hstep
      clear hstep hx
      generalize Pl.cnt (Pl.bitAt ws) (64 * (c + k)) = m at hm1 HT ⊢
      go_wp2_with (go_at_call 73; refine HO.out.mono ?_; rintro e w' ⟨rfl, rfl⟩)
      go_round
      case rel =>
        refine ⟨k + 1, by omega, by go_num, ?_⟩
        rw [show c + (k + 1) = c + k + 1 by omega, HT.out]
        go_num
      case measure => simp [intOf]; omega
    · have hkq : k = q - c := by omega
      have hcell := HH.out.word q (by rw [HL.out]; omega)
      have hx := HH.out.bits.small.at_ q
      have hstep := Pl.cnt_part ws q r hr64
      have e1 : 64 * (c + k) = 64 * q := by omega
      have e2 : 64 * q + r = j := by have := Hq.out; have := Hr.out; omega
      rw [e1] at hm1 ⊢
      rw [e2] at hstep
      generalize ws.getD q 0 = x at hcell hx hstep
      have hmask : bits .and .u64 (x : Int) (IntKind.u64.wrap (IntKind.u64.wrap (2 ^ r) - 1)) = ((x &&& (2 ^ r - 1) : Nat) : Int) := by
        have hw : 2 ^ r - 1 < 2 ^ 64 := by have := Pl.two_pow_le_64 (Nat.le_of_lt hr64); have := Nat.two_pow_pos r; omega
        rw [ones_num r (by omega), and_u hx hw]
      have hy : x &&& (2 ^ r - 1) < 2 ^ 64 := Nat.lt_of_le_of_lt Nat.and_le_left hx
      have hp := Pl.pop_le (x &&& (2 ^ r - 1))
      generalize x &&& (2 ^ r - 1) = y at hmask hy hp hstep
      have HO := Lib.hid (ones64_any y hy w)
      have HT := Lib.hid hstep
      have HM := Lib.hid hmask
      have HE : Hid (Pl.cnt f j = Pl.cnt (Pl.bitAt ws) j) := Lib.hid (HS.out.cnt_same (by omega))
      clear hstep hx e1 e2 hmask hkq hy
      generalize Pl.cnt (Pl.bitAt ws) (64 * q) = m at hm1 HT ⊢
      go_wp2_with fail
      rw [HM.out]
      refine HO.out.mono ?_
      rintro e w' ⟨rfl, rfl⟩
      go_wp2_with fail
      go_ret
      refine ⟨ret_i64 ?_, rfl⟩
      rw [HE.out, HT.out]
      omega

/-- Rank, of whatever place. -/
theorem rank_any (h : Vc w B g gw av n ws f) (i : Int) : Calls Try.prog 66 #[.pointer (some ⟨g, 0, none⟩), .int .i64 i] w fun e w' => e = .returned (.int .i64 ((Pl.cnt f (Pl.clamp n i) : Nat) : Int)) ∧ w = w' := by
  by_cases hi : Pl.clamp n i = n
  · rw [hi]; exact rank_top h i hi
  · exact rank_in h i _ rfl (by have := Pl.clamp_le n i; omega)
theorem rank_nil (i : Int) (w : World) : Calls Try.prog 66 #[.pointer none, .int .i64 i] w fun e w' => e = .returned (.int .i64 0) ∧ w = w' := by
  go_enter Try.func66, Try.ntmps66
  go_wp2_with (first
    | (go_at_call 72; refine (within_nil _ _).mono ?_; rintro e w' ⟨rfl, rfl⟩)
    | (go_at_call 56; refine (vlen_nil _).mono ?_; rintro e w' ⟨rfl, rfl⟩)
    | (go_at_call 54; refine (vones_nil _).mono ?_; rintro e w' ⟨rfl, rfl⟩))
  go_ret
  exact ⟨rfl, rfl⟩

/-- the noughts. -/
def inv (f : Nat → Bool) : Nat → Bool := fun j => !f j
theorem zeros_any (h : Vc w B g gw av n ws f) (i : Int) : Calls Try.prog 70 #[.pointer (some ⟨g, 0, none⟩), .int .i64 i] w fun e w' => e = .returned (.int .i64 ((Pl.cnt (inv f) (Pl.clamp n i) : Nat) : Int)) ∧ w = w' := by
  have HN := Lib.hid (Pl.cnt_not f (Pl.clamp n i))
  have HW := Lib.hid (within_any h i)
  have HR := Lib.hid (rank_any h i)
  have hc := Pl.clamp_le n i
  have hm := Pl.cnt_le f (Pl.clamp n i)
  have hf := h.bits.few
  have HI : Hid (Pl.cnt (inv f) (Pl.clamp n i) = Pl.clamp n i - Pl.cnt f (Pl.clamp n i)) := Lib.hid (by have := HN.out; unfold inv; omega)
  clear h
  generalize Pl.cnt (inv f) (Pl.clamp n i) = z at HI ⊢
  generalize Pl.cnt f (Pl.clamp n i) = m at HR HI hm
  generalize Pl.clamp n i = j at HW HR HI hm hc
  clear HN
  go_enter Try.func70, Try.ntmps70
  go_wp2_with (first
    | (go_at_call 72; refine HW.out.mono ?_; rintro e w' ⟨rfl, rfl⟩)
    | (go_at_call 66; refine HR.out.mono ?_; rintro e w' ⟨rfl, rfl⟩))
  go_ret
  refine ⟨ret_i64 ?_, rfl⟩
  rw [HI.out]
  omega
theorem zeros_nil (i : Int) (w : World) : Calls Try.prog 70 #[.pointer none, .int .i64 i] w fun e w' => e = .returned (.int .i64 0) ∧ w = w' := by
  go_enter Try.func70, Try.ntmps70
  go_wp2_with (first
    | (go_at_call 72; refine (within_nil _ _).mono ?_; rintro e w' ⟨rfl, rfl⟩)
    | (go_at_call 66; refine (rank_nil _ _).mono ?_; rintro e w' ⟨rfl, rfl⟩))
  go_ret
  exact ⟨rfl, rfl⟩
end
end Go.Proofs.Ytmcoehimjfgakaa
