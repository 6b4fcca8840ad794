/- The contract of the opening of layer 3's laws: it is true, and leaves what was there as it was. -/
import Derived.Test.YtmcoehimjfgakaaSpFrom
namespace Go.Proofs.Ytmcoehimjfgakaa
open Go.RowKit

/-- the places of the example. -/
def exl : Nat → Nat := fun i => if i = 0 then 3 else if i = 1 then 50 else 51
theorem exl_rise : Pl.Rise 100 3 exl := ⟨fun i hi => by
    have h : i = 0 ∨ i = 1 ∨ i = 2 := by omega
    rcases h with rfl | rfl | rfl <;> decide, fun i hi => by
    have h : i = 0 ∨ i = 1 := by omega
    rcases h with rfl | rfl <;> decide⟩
theorem exl_nts {w : World} {g : Nat} (h : Lies w g 3 [.int .i64 3, .int .i64 50, .int .i64 51]) : Nts w w.heap.size (some ⟨g, 0, none⟩) 3 exl := fun k hk => by
  have h' : k = 0 ∨ k = 1 ∨ k = 2 := by omega
  refine ⟨⟨g, 0, none⟩, rfl, h.lt, ?_⟩
  have e : (⟨g, 0, none⟩ : Addr).add k = ⟨g, k, none⟩ := by unfold Addr.add; split <;> simp_all
  rw [e, h.cell k]
  rcases h' with rfl | rfl | rfl <;> rfl
theorem ones_its {w : World} {g : Nat} (h : Lies w g 3 [.int .i64 1, .int .i64 1]) : Its w w.heap.size (some ⟨g, 0, none⟩) 2 (fun _ => 1) := fun k hk => by
  have h' : k = 0 ∨ k = 1 := by omega
  refine ⟨⟨g, 0, none⟩, rfl, h.lt, ?_, (by show (-9223372036854775808 : Int) ≤ 1; decide), (by show (1 : Int) ≤ 9223372036854775807; decide)⟩
  have e : (⟨g, 0, none⟩ : Addr).add k = ⟨g, k, none⟩ := by unfold Addr.add; split <;> simp_all
  rw [e, h.cell k]
  rcases h' with rfl | rfl <;> rfl
theorem lw_ex : Pl.lw 100 3 = 5 := by
  unfold Pl.lw
  have e : 100 / 3 = 33 := rfl
  rw [e, Pl.blen_pos (by decide), show 33 / 2 = 16 from rfl, Pl.blen_pos (by decide), show 16 / 2 = 8 from rfl, Pl.blen_pos (by decide), show 8 / 2 = 4 from rfl, Pl.blen_pos (by decide), show 4 / 2 = 2 from rfl,
    Pl.blen_pos (by decide), show 2 / 2 = 1 from rfl, Pl.blen_pos (by decide), show 1 / 2 = 0 from rfl, Pl.blen_zero]
theorem ex_bits : Bits [13] 7 (Pl.hi exl 32 3) := by
  refine ⟨by decide, by decide, fun x hx => by simp at hx; omega, fun i hi => ?_, fun i hi => ?_⟩
  · have h : i = 0 ∨ i = 1 ∨ i = 2 ∨ i = 3 ∨ i = 4 ∨ i = 5 ∨ i = 6 := by omega
    rcases h with rfl | rfl | rfl | rfl | rfl | rfl | rfl <;> decide
  · unfold Pl.bitAt
    by_cases h : i < 64
    · have e : i / 64 = 0 := by omega
      have e2 : i % 64 = i := by omega
      rw [e, e2]
      exact Nat.testBit_lt_two_pow (Nat.lt_of_lt_of_le (show 13 < 2 ^ 4 by decide) (Nat.pow_le_pow_right (by decide) (by omega)))
    · have e : [13].getD (i / 64) 0 = 0 := by
        rw [List.getD_eq_getElem?_getD, List.getElem?_eq_none (by simp; omega)]
        rfl
      rw [e]
      simp
theorem ex_high {hs ls : List Nat} (h : Fit 100 3 hs ls exl) : hs = [13] := by
  have e := h.high
  rw [lw_ex] at e
  exact e.unique ex_bits

section
variable {w : World} {B g : Nat} {hs ls : List Nat}
theorem ex_rank (h : St w B g 100 3 hs ls exl) : Calls Try.prog 13 #[.pointer (some ⟨g, 0, none⟩), .int .i64 51] w fun e w' => e = .returned (.int .i64 2) ∧ Below w.heap.size w w' := st_rank h 51
theorem ex_at (h : St w B g 100 3 hs ls exl) : Calls Try.prog 16 #[.pointer (some ⟨g, 0, none⟩), .int .i64 1] w fun e w' => e = .returned (.int .i64 50) ∧ Below w.heap.size w w' := st_at h 1 (by decide)
theorem ex_has (h : St w B g 100 3 hs ls exl) : Calls Try.prog 15 #[.pointer (some ⟨g, 0, none⟩), .int .i64 51] w fun e w' => e = .returned (.bool true) ∧ Below w.heap.size w w' := by
  have c := st_has h 51
  have e : hasB exl 3 51 = true := by decide
  rw [e] at c
  exact c
theorem ex_hasnt (h : St w B g 100 3 hs ls exl) : Calls Try.prog 15 #[.pointer (some ⟨g, 0, none⟩), .int .i64 52] w fun e w' => e = .returned (.bool false) ∧ Below w.heap.size w w' := by
  have c := st_has h 52
  have e : hasB exl 3 52 = false := by decide
  rw [e] at c
  exact c
theorem ex_words (h : St w B g 100 3 hs ls exl) : Calls Try.prog 17 #[.pointer (some ⟨g, 0, none⟩)] w (WordsOf w [13] ls) := by
  rcases h with ⟨h0, _⟩ | ⟨hf, _, _, _, _, h⟩
  · cases h0
  · have e := ex_high hf
    subst e
    exact swords_all h
end

set_option maxRecDepth 100000 in
set_option maxHeartbeats 1600000 in
theorem sfirst_any (w : World) : Calls Try.prog 8 #[] w fun e w' => e = .returned (.bool true) ∧ Below w.heap.size w w' := by
  have HV : ∀ W, W = w.alloc (.cells #[.int .i64 3, .int .i64 50, .int .i64 51] 3) → Hid (Calls Try.prog 9 #[.int .i64 100, .slice (some ⟨w.heap.size, 0, none⟩) 3 3] W (NewSt W 100 3 exl)) := fun W hW => by
    subst hW
    exact Lib.hid (snew_any 100 3 _ 3 exl _ (by decide) (by decide) (by decide) (exl_nts (lies_new w _ [.int .i64 3, .int .i64 50, .int .i64 51])) exl_rise)
  have HV1 := HV _ rfl
  clear HV
  have hb0 := below_box w (.cells #[.int .i64 3, .int .i64 50, .int .i64 51] 3)
  go_enter Try.func8, Try.ntmps8
  go_wp2_with fail
  with_reducible refine HV1.out.mono ?_
  rintro e w1 ⟨g, hs, ls, rfl, hst, hb1⟩
  have hB1 := hb0.trans (hb1.mono hb0.size)
  have HN : Hid (Calls Try.prog 9 #[.int .i64 3, .slice (some ⟨w1.heap.size, 0, none⟩) 2 2] (w1.alloc (.cells #[.int .i64 1, .int .i64 1] 3)) (NoSt 2 (w1.alloc (.cells #[.int .i64 1, .int .i64 1] 3)))) :=
    Lib.hid (snew_bad 3 _ 2 2 (fun _ => 1) _ _ (by decide) (ones_its (lies_new w1 _ [.int .i64 1, .int .i64 1])) (by decide))
  have hbx := below_box w1 (.cells #[.int .i64 1, .int .i64 1] 3)
  have hst2 := hst.keep hbx
  have hB2 := hB1.trans (hbx.mono hB1.size)
  clear hst hb1 hb0 hB1 hbx HV1
  go_wp2_with fail
  with_reducible refine HN.out.mono ?_
  rintro e w2 ⟨rfl, hb2⟩
  have hst3 := hst2.keep hb2
  have hB3 := hB2.trans (hb2.mono hB2.size)
  clear hst2 hB2 hb2 HN
  have HWd := Lib.hid (ex_words hst3)
  go_wp2_with fail
  with_reducible refine HWd.out.mono ?_
  rintro e w3 ⟨a, b, rfl, hla, hlb, ha, hb, hb3⟩
  have hst4 := hst3.keep hb3
  have hB4 := hB3.trans (hb3.mono hB3.size)
  have hca : w3.cell? ⟨a, 0, none⟩ = some (.int .u64 13) := hla.cell 0
  have hlb' := Lib.hid hlb
  clear hst3 hB3 hb3 hlb
  go_wp2_with fail
  with_reducible refine (ex_rank hst4).mono ?_
  rintro e w5 ⟨rfl, hb5⟩
  have hst5 := hst4.keep hb5
  have hB5 := hB4.trans (hb5.mono hB4.size)
  clear hst4 hB4 hb5
  go_wp2_with fail
  with_reducible refine (ex_at hst5).mono ?_
  rintro e w6 ⟨rfl, hb6⟩
  have hst6 := hst5.keep hb6
  have hB6 := hB5.trans (hb6.mono hB5.size)
  clear hst5 hB5 hb6
  go_wp2_with fail
  with_reducible refine (ex_has hst6).mono ?_
  rintro e w7 ⟨rfl, hb7⟩
  have hst7 := hst6.keep hb7
  have hB7 := hB6.trans (hb7.mono hB6.size)
  clear hst6 hB6 hb7
  go_wp2_with fail
  with_reducible refine (ex_hasnt hst7).mono ?_
  rintro e w8 ⟨rfl, hb8⟩
  go_wp2_with fail
  go_ret
  exact ⟨rfl, hB7.trans (hb8.mono hB7.size)⟩
end Go.Proofs.Ytmcoehimjfgakaa
