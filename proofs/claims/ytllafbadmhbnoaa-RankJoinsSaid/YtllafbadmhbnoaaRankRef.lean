/- The contracts of the document's own answers for layer 2: counts, and places. -/
import Derived.Test.YtllafbadmhbnoaaRankLaw
namespace Go.Proofs.Ytllafbadmhbnoaa
open Go.RowKit

theorem beq_test (V : Nat → Nat) (b k : Nat) (hV : V k < 256) : (bits .and .u8 ((V k : Nat) : Int) 1 == (b : Int)) = beq V b k := by
  rw [low_u8 _ hV]
  unfold beq
  by_cases h : V k % 2 = b
  · simp [h]
  · simp only [h, decide_false]
    rw [beq_eq_false_iff_ne]
    omega
theorem bne_test (V : Nat → Nat) (b k : Nat) (hV : V k < 256) : (bits .and .u8 ((V k : Nat) : Int) 1 != (b : Int)) = !beq V b k := by
  rw [← beq_test V b k hV]
  rfl

set_option maxRecDepth 100000 in
set_option maxHeartbeats 800000 in
theorem refRank_any (A : Option Addr) (n c : Nat) (V : Nat → Nat) (b : Nat) (i : Int) (B : Nat) (w : World) (hn : n ≤ 4194304) (ho : Bys w B A n V) :
    Calls Try.prog 13 #[.slice A n c, .int .u8 (b : Int), .int .i64 i] w fun e w' => e = .returned (.int .i64 ((Pl.cnt (beq V b) (Pl.clamp n i) : Nat) : Int)) ∧ w = w' := by
  have HC := Lib.hid (show Pl.clamp n i = (max 0 (min i (n : Int))).toNat from rfl)
  have HO := Lib.hid ho
  have hcl := Pl.clamp_le n i
  generalize Pl.clamp n i = m at HC hcl ⊢
  clear ho
  go_enter Try.func13, Try.ntmps13
  go_wp2_with fail
  go_loop [7, 8] (fun s v => ∃ k : Nat, k ≤ m ∧ v = .int .i64 (k : Int) ∧ s = .int .i64 ((Pl.cnt (beq V b) k : Nat) : Int)) (fun _ v => n - (intOf v).toNat)
  case atStart => exact ⟨0, Nat.zero_le _, rfl, rfl⟩
  case round =>
    obtain ⟨k, hk, rfl, rfl⟩ := hrel
    have hm := Pl.cnt_le (beq V b) k
    by_cases h1 : k < n
    · by_cases h2 : (k : Int) < i
      · have hkm : k < m := by have := HC.out; omega
        obtain ⟨ad, rfl, had, hV, hV8⟩ := HO.out k h1
        have hstep := Pl.cnt_succ (beq V b) k
        have ht := beq_test V b k hV8
        cases hb : beq V b k
        · rw [hb] at ht hstep
          have HS := Lib.hid hstep
          clear hstep hb
          generalize Pl.cnt (beq V b) k = t at hm HS ⊢
          go_wp2_with fail
          go_round
          case rel => exact ⟨k + 1, by omega, by go_num, by rw [HS.out]; rfl⟩
          case measure => simp [intOf]; omega
        · rw [hb] at ht hstep
          have HS := Lib.hid hstep
          clear hstep hb
          generalize Pl.cnt (beq V b) k = t at hm HS ⊢
          go_wp2_with fail
          go_round
          case rel => exact ⟨k + 1, by omega, by go_num, by rw [HS.out]; go_num⟩
          case measure => simp [intOf]; omega
      · have hkm : k = m := by have := HC.out; omega
        subst hkm
        go_wp2_with fail
        go_ret
        exact ⟨rfl, rfl⟩
    · have hkm : k = m := by have := HC.out; omega
      subst hkm
      go_wp2_with fail
      go_ret
      exact ⟨rfl, rfl⟩

set_option maxRecDepth 100000 in
set_option maxHeartbeats 800000 in
theorem refSelect_any (A : Option Addr) (n c : Nat) (V : Nat → Nat) (b : Nat) (k : Int) (B : Nat) (w : World) (hn : n ≤ 4194304) (ho : Bys w B A n V) :
    Calls Try.prog 18 #[.slice A n c, .int .u8 (b : Int), .int .i64 k] w fun e w' => e = .returned (.int .i64 (Pl.sel (beq V b) n k)) ∧ w = w' := by
  have HO := Lib.hid ho
  clear ho
  go_enter Try.func18, Try.ntmps18
  go_wp2_with fail
  go_loop [7, 12] (fun s v => ∃ i : Nat, i ≤ n ∧ v = .int .i64 (i : Int) ∧ s = .int .i64 ((Pl.cnt (beq V b) i : Nat) : Int) ∧ Hid (Pl.sel (beq V b) i k = -1)) (fun _ v => n - (intOf v).toNat)
  case atStart => exact ⟨0, Nat.zero_le _, rfl, rfl, Lib.hid rfl⟩
  case round =>
    obtain ⟨i, hi, rfl, rfl, HN⟩ := hrel
    have hm := Pl.cnt_le (beq V b) i
    by_cases h1 : i < n
    · obtain ⟨ad, rfl, had, hV, hV8⟩ := HO.out i h1
      have hstep := Pl.cnt_succ (beq V b) i
      have ht := bne_test V b i hV8
      have hsel : Pl.sel (beq V b) (i + 1) k = if beq V b i = true ∧ ((Pl.cnt (beq V b) i : Nat) : Int) = k then (i : Int) else Pl.sel (beq V b) i k := rfl
      have hin := Pl.sel_in (f := beq V b) h1
      cases hb : beq V b i
      · rw [hb] at ht hstep hsel
        rw [if_neg (by simp)] at hsel
        have HS := Lib.hid hstep
        have HL := Lib.hid hsel
        clear hstep hb hsel hin
        generalize Pl.cnt (beq V b) i = t at hm HS ⊢
        simp only [Bool.not_false] at ht
        go_wp2_with fail
        go_round
        case rel => exact ⟨i + 1, by omega, by go_num, by rw [HS.out]; rfl, Lib.hid (by rw [HL.out]; exact HN.out)⟩
        case measure => simp [intOf]; omega
      · rw [hb] at ht hstep hsel
        have hin' := hin hb
        have HS := Lib.hid hstep
        have HL := Lib.hid hsel
        have HI := Lib.hid hin'
        clear hstep hb hsel hin hin'
        generalize Pl.cnt (beq V b) i = t at hm HS HL HI ⊢
        simp only [Bool.not_true] at ht
        by_cases h2 : (t : Int) = k
        · subst h2
          go_wp2_with fail
          go_ret
          exact ⟨ret_i64 HI.out.symm, rfl⟩
        · have h3 : ((t : Int) == k) = false := by rw [beq_eq_false_iff_ne]; exact h2
          go_wp2_with fail
          go_round
          case rel => exact ⟨i + 1, by omega, by go_num, by rw [HS.out]; go_num, Lib.hid (by rw [HL.out, if_neg (by rintro ⟨_, h⟩; exact h2 h)]; exact HN.out)⟩
          case measure => simp [intOf]; omega
    · have hkm : i = n := by omega
      subst hkm
      go_wp2_with fail
      go_ret
      exact ⟨ret_i64 HN.out.symm, rfl⟩
end Go.Proofs.Ytllafbadmhbnoaa
