/- What a page is, byte for byte; and what tells pages apart. (Plain, over XCrc's words.) -/
import Derived.Test.YtpcdbmkmpphhiaaCrcCut
namespace Go.Proofs.Ytpcdbmkmpphhiaa
open Go.RowKit

/-- n bytes, and noughts behind them. -/
def padded (V : Nat → Nat) (n : Nat) : Nat → Nat := fun k => if k < n then V k else 0
/-- a page's bytes and its number. -/
def bodyOf (V : Nat → Nat) (n t : Nat) : Nat → Nat := both (padded V n) (byteOf t) 256
/-- a page. -/
def pageOf (V : Nat → Nat) (n t : Nat) : Nat → Nat := behind (bodyOf V n t) 260

theorem padded_lt {V : Nat → Nat} {n : Nat} (hV : ∀ k, k < n → V k < 256) (k : Nat) : padded V n k < 256 := by
  unfold padded
  split
  · exact hV k (by assumption)
  · decide
theorem bodyOf_lt {V : Nat → Nat} {n t : Nat} (hV : ∀ k, k < n → V k < 256) (k : Nat) : bodyOf V n t k < 256 := by
  unfold bodyOf both
  split
  · exact padded_lt hV k
  · exact byteOf_lt _ _
theorem pageOf_lt {V : Nat → Nat} {n t : Nat} (hV : ∀ k, k < n → V k < 256) (k : Nat) : pageOf V n t k < 256 := behind_lt (fun k _ => bodyOf_lt hV k) k
theorem pageOf_ends (V : Nat → Nat) (n t : Nat) : Pl.Ends (pageOf V n t) 260 := behind_ends _ _
theorem pageOf_body (V : Nat → Nat) (n t k : Nat) (h : k < 260) : pageOf V n t k = bodyOf V n t k := behind_old _ _ _ h
theorem pageOf_bytes (V : Nat → Nat) (n t k : Nat) (h : k < 256) : pageOf V n t k = padded V n k := by
  rw [pageOf_body V n t k (by omega)]
  unfold bodyOf both
  rw [if_pos h]
theorem pageOf_old (V : Nat → Nat) (n t k : Nat) (h : k < n) (hn : n ≤ 256) : pageOf V n t k = V k := by
  rw [pageOf_bytes V n t k (by omega)]
  unfold padded
  rw [if_pos h]
theorem pageOf_nought (V : Nat → Nat) (n t k : Nat) (h : n ≤ k) (hk : k < 256) : pageOf V n t k = 0 := by
  rw [pageOf_bytes V n t k hk]
  unfold padded
  rw [if_neg (by omega)]
theorem pageOf_number (V : Nat → Nat) (n t i : Nat) (h : i < 4) : pageOf V n t (256 + i) = byteOf t i := by
  rw [pageOf_body V n t _ (by omega)]
  unfold bodyOf both
  rw [if_neg (by omega), show 256 + i - 256 = i by omega]
/-- the number that stands in a page. -/
def numberOf (U : Nat → Nat) : Nat := U 256 + 256 * U 257 + 65536 * U 258 + 16777216 * U 259
theorem byteOf_0 (t : Nat) : byteOf t 0 = t % 256 := by unfold byteOf; rw [Nat.pow_zero, Nat.div_one]
theorem byteOf_1 (t : Nat) (h : t < 65536) : byteOf t 1 = t / 256 := by unfold byteOf; rw [Nat.pow_one]; omega
theorem byteOf_2 (t : Nat) (h : t < 65536) : byteOf t 2 = 0 := by unfold byteOf; rw [show (256 : Nat) ^ 2 = 65536 from rfl]; omega
theorem byteOf_3 (t : Nat) (h : t < 65536) : byteOf t 3 = 0 := by unfold byteOf; rw [show (256 : Nat) ^ 3 = 16777216 from rfl]; omega
theorem numberOf_page (V : Nat → Nat) (n t : Nat) (h : t < 65536) : numberOf (pageOf V n t) = t := by
  unfold numberOf
  have e0 := pageOf_number V n t 0 (by omega)
  have e1 := pageOf_number V n t 1 (by omega)
  have e2 := pageOf_number V n t 2 (by omega)
  have e3 := pageOf_number V n t 3 (by omega)
  rw [byteOf_0] at e0
  rw [byteOf_1 t h] at e1
  rw [byteOf_2 t h] at e2
  rw [byteOf_3 t h] at e3
  rw [show 256 = 256 + 0 from rfl, e0, show 257 = 256 + 1 from rfl, e1, show 258 = 256 + 2 from rfl, e2, show 259 = 256 + 3 from rfl, e3]
  omega
/-- a number below 4096, told by its bytes. -/
theorem number_small {U : Nat → Nat} (hU : ∀ k, k < 264 → U k < 256) : numberOf U < 4096 ↔ U 257 ≤ 15 ∧ U 258 = 0 ∧ U 259 = 0 := by
  have a0 := hU 256 (by omega)
  unfold numberOf
  omega
/-- pages of unlike numbers are unlike. -/
theorem page_numbers {V V' : Nat → Nat} {n n' t t' : Nat} (ht : t < 65536) (ht' : t' < 65536) (h : ∀ k, k < 264 → pageOf V n t k = pageOf V' n' t' k) : t = t' := by
  have e1 := numberOf_page V n t ht
  have e2 := numberOf_page V' n' t' ht'
  rw [← e1, ← e2]
  unfold numberOf
  rw [h 256 (by omega), h 257 (by omega), h 258 (by omega), h 259 (by omega)]
/-- pages of unlike bytes are unlike. -/
theorem page_bytes {V V' : Nat → Nat} {n t t' : Nat} (hn : n ≤ 256) (h : ∀ k, k < 264 → pageOf V n t k = pageOf V' n t' k) : ∀ k, k < n → V k = V' k := fun k hk => by
  have e := h k (by omega)
  rw [pageOf_old V n t k hk hn, pageOf_old V' n t' k hk hn] at e
  exact e
/-- what ends with its sum and has a small number is a page: its own bytes and number's. -/
theorem page_back {U : Nat → Nat} (hU : ∀ k, k < 264 → U k < 256) (hE : Pl.Ends U 260) (hN : numberOf U < 4096) : ∀ k, k < 264 → U k = pageOf U 256 (numberOf U) k := by
  obtain ⟨h1, h2, h3⟩ := (number_small hU).1 hN
  have a0 := hU 256 (by omega)
  have hb : ∀ k, k < 260 → U k = bodyOf U 256 (numberOf U) k := fun k hk => by
    unfold bodyOf both padded
    by_cases hk2 : k < 256
    · rw [if_pos hk2, if_pos hk2]
    · rw [if_neg hk2]
      have hk3 : k = 256 ∨ k = 257 ∨ k = 258 ∨ k = 259 := by omega
      have hl : numberOf U < 65536 := by omega
      rcases hk3 with rfl | rfl | rfl | rfl
      · rw [byteOf_0]; unfold numberOf; omega
      · rw [byteOf_1 _ hl]; unfold numberOf; omega
      · rw [byteOf_2 _ hl]; exact h2
      · rw [byteOf_3 _ hl]; exact h3
  intro k hk
  by_cases hk2 : k < 260
  · rw [pageOf_body _ _ _ _ hk2]; exact hb k hk2
  · have e := hE (k - 260) (by omega)
    rw [show 260 + (k - 260) = k by omega] at e
    have e2 := behind_new (bodyOf U 256 (numberOf U)) 260 (k - 260)
    rw [show 260 + (k - 260) = k by omega] at e2
    show U k = behind (bodyOf U 256 (numberOf U)) 260 k
    rw [e, e2, sumN_congr hb]
    rfl
end Go.Proofs.Ytpcdbmkmpphhiaa
