/- The developers' package text: fit, laid, Pattern, Symbols. -/
import Derived.Test.YtpdleigcdmgfmaaTxtDev
namespace Go.Proofs.Ytpdleigcdmgfmaa
open Go.RowKit

set_option maxRecDepth 100000 in
set_option maxHeartbeats 800000 in
theorem tfit_any (P : Option Addr) (c : Nat) (L : List Part) (B : Nat) (w : World) (hL : L.length ≤ maxLen) (ho : Secs w B P L) :
    Calls Try.prog 21 #[.slice P L.length c] w fun e w' => e = .returned (.bool (decide (L.length ≤ 256 ∧ bytesT (docsP L) ≤ 65536))) ∧ w = w' := by
  have HO := Lib.hid ho
  clear ho
  obtain ⟨k, hk⟩ : ∃ k, L.length = k := ⟨_, rfl⟩
  rw [hk] at hL ⊢
  have HK := Lib.hid hk
  have hkl : k ≤ 9223372036854775807 := by unfold maxLen at hL; omega
  obtain ⟨r, hr⟩ : ∃ r, decide (k ≤ 256 ∧ bytesT (docsP L) ≤ 65536) = r := ⟨_, rfl⟩
  rw [hr]
  have HR := Lib.hid hr
  clear hk hL hr
  by_cases h256 : 256 < k
  · have hd : decide ((256 : Int) < (k : Int)) = true := by simp; omega
    obtain rfl : r = false := by rw [← HR.out]; exact decide_eq_false (by omega)
    go_enter Try.func21, Try.ntmps21
    go_wp2_with fail
    go_ret
    exact ⟨rfl, rfl⟩
  · have hd : decide ((256 : Int) < (k : Int)) = false := by simp; omega
    go_enter Try.func21, Try.ntmps21
    go_wp2_with fail
    go_loop [3, 11] (fun s v => ∃ i m : Nat, i ≤ k ∧ v = .int .i64 (i : Int) ∧ s = .int .i64 (m : Int) ∧ m ≤ 65536 ∧ Hid (bytesT ((docsP L).take i) + m = 65536)) (fun _ v => k - (intOf v).toNat)
    case atStart => exact ⟨0, 65536, Nat.zero_le _, rfl, rfl, Nat.le_refl _, Lib.hid (by simp [bytesT])⟩
    case round =>
      obtain ⟨i, m, hi, rfl, rfl, hm, hsum⟩ := hrel
      by_cases hlt : i < k
      · obtain ⟨p, hp⟩ : ∃ p, L[i]? = some p := ⟨_, List.getElem?_eq_getElem (by rw [HK.out]; exact hlt)⟩
        obtain ⟨ad, rfl, hb, hc, hnc, hcm, _, _⟩ := HO.out i p hp
        have hpm : p.c ≤ 9223372036854775807 := by unfold maxLen at hcm; omega
        have HN := Lib.hid (docs_len hp)
        have HLe := Lib.hid (bytesT_le (S := docsP L) (i + 1))
        clear hp hcm
        obtain ⟨A, z, cc, V⟩ := p
        have hlti : (i : Int) < (k : Int) := by omega
        have HN2 : Hid (bytesT ((docsP L).take (i + 1)) = bytesT ((docsP L).take i) + z) := HN
        by_cases hz : m < z
        · have hd2 : decide ((m : Int) < (z : Int)) = true := by simp; omega
          obtain rfl : r = false := by
            rw [← HR.out]
            exact decide_eq_false (by
              have h1 := HN2.out
              have h2 := HLe.out
              have h3 := hsum.out
              omega)
          go_wp2_with fail
          go_ret
          exact ⟨rfl, rfl⟩
        · have hd2 : decide ((m : Int) < (z : Int)) = false := by simp; omega
          have hw : IntKind.i64.wrap ((m : Int) - (z : Int)) = ((m - z : Nat) : Int) := by rw [IntWalk.i64_in _ (by omega)]; omega
          have HS : Hid (bytesT ((docsP L).take (i + 1)) + (m - z) = 65536) := Lib.hid (by
            have h1 := HN2.out
            have h3 := hsum.out
            omega)
          clear HN HN2 hsum
          go_wp2_with fail
          go_round
          case rel => exact ⟨i + 1, m - z, by omega, by go_num, rfl, by omega, HS⟩
          case measure => simp [intOf]; omega
      · obtain rfl : i = k := by omega
        obtain rfl : r = true := by
          rw [← HR.out]
          exact decide_eq_true ⟨by omega, by
            have h3 := hsum.out
            rw [List.take_of_length_le (by rw [docsP_length, HK.out]; exact Nat.le_refl _)] at h3
            omega⟩
        go_wp2_with fail
        go_ret
        exact ⟨rfl, rfl⟩

/-- ints, and behind them bytes as symbols of k documents. -/
def laidI (U : Nat → Int) (m k : Nat) (V : Nat → Nat) : Nat → Int := fun j => if j < m then U j else ((k + V (j - m) : Nat) : Int)
theorem laidI_zero (U : Nat → Int) (m k : Nat) (V : Nat → Nat) : icells (laidI U m k V) m = icells U m := by
  unfold icells
  refine List.map_congr_left fun j hj => ?_
  have hj : j < m := List.mem_range.1 hj
  unfold laidI
  rw [if_pos hj]
theorem laidI_at (U : Nat → Int) (m k i : Nat) (V : Nat → Nat) : laidI U m k V (m + i) = ((k + V i : Nat) : Int) := by
  unfold laidI
  rw [if_neg (by omega), Nat.add_sub_cancel_left]

section
variable {B : Nat} {w w' : World} {g : Nat} {X : Option Addr} {cx y cy : Nat} {T : List Part} {S : List Sec}
theorem make_ints (w : World) (n : Nat) (hn : n ≤ 4194304) : (Instr.makeSlice 23 (.int .i64 0) (.int .i64 (n : Int))).run Try.prog w = .ok (.slice (some ⟨w.heap.size, 0, none⟩) 0 n) (w.alloc (.cells (madeCells (Value.int .i64 0).cells (n * 1)) 3)) := by
  obtain ⟨i0, hi0, hz0, hs0, hb0⟩ := info_parts info_i64
  have h := run_make (P := Try.prog) w 23 3 i0 _ Try.underlying23 hi0 hz0 .i64 .i64 0 (n : Int) (by omega) (by omega) (by rw [hb0]; omega) (by omega)
  rw [hs0] at h
  exact h
theorem made_ints (w : World) (n : Nat) (hn : n ≤ 4194304) : (w.alloc (.cells (madeCells (Value.int .i64 0).cells (n * 1)) 3)).ownsRow w.heap.size 3 1 (.slice (some ⟨w.heap.size, 0, none⟩) 0 n) 0 [] :=
  World.ownsRow_made w _ n (Nat.le_refl _) (by unfold maxLen; omega) (size_madeCells _ _)

/-- a document's symbols, behind those of the documents ahead of it. -/
theorem sym_next {S : List Sec} {d : Nat} {x : Sec} (h : S[d]? = some x) : icells (laidI (symI S) (offT S d) S.length x.V) (offT S d + x.n) ++ [.int .i64 (d : Int)] = icells (symI S) (offT S (d + 1)) := by
  rw [offT_succ h, show offT S d + (x.n + 1) = offT S d + x.n + 1 by omega, icells_snoc]
  congr 1
  · unfold icells
    refine List.map_congr_left fun j hj => ?_
    have hj : j < offT S d + x.n := List.mem_range.1 hj
    unfold laidI
    split
    · rfl
    · unfold symI
      have e : j = offT S d + (j - offT S d) := by omega
      rw [e, sym_byte h (by omega), Nat.add_sub_cancel_left]
  · unfold symI
    rw [sym_end h]

end
end Go.Proofs.Ytpdleigcdmgfmaa
