/- The contract of the opening of layer 5's laws: it is true, and leaves what was there as it was. -/
import Derived.Test.YtmkbaifmhbmdpaaDoorCrcFirst
import Derived.Test.YtmkbaifmhbmdpaaDoorPage
import Derived.Test.YtmkbaifmhbmdpaaDoorPageRef
namespace Go.Proofs.YtmkbaifmhbmdpaaDoor
open Go.RowKit

set_option maxRecDepth 100000 in
set_option maxHeartbeats 1600000 in
theorem pfirst_any (w : World) (ht : Tabs w) : Calls Tryd.prog 8 #[] w fun e w' => e = .returned (.bool true) ∧ Below w.heap.size w w' := by
  have HT := Lib.hid ht
  have c1 := conv_lit w #[.int .u8 97, .int .u8 98] 2
  have hL1 : Bys (w.alloc (.cells #[.int .u8 97, .int .u8 98] 5 (2, 3))) _ _ 2 (ofList [97, 98]) := bys_lit [97, 98] (by decide) w (2, 3)
  have hbA : Below w.heap.size w (w.alloc (.cells #[.int .u8 97, .int .u8 98] 5 (2, 3))) := (Below.refl _ _).alloc (Nat.le_refl _) _
  have hV : ∀ k, k < 2 → ofList [97, 98] k < 256 := fun k hk => by
    have h2 : k = 0 ∨ k = 1 := by omega
    rcases h2 with rfl | rfl <;> decide
  have HV := Lib.hid hV
  have HP := Lib.hid (pagePut_good (some ⟨w.heap.size, 0, none⟩) 2 2 (ofList [97, 98]) 300 _ (by decide) (by decide) (fun e => (by cases e)) (hL1.mono_ (by simp)) (HT.out.keep hbA))
  clear hL1 ht hV
  go_enter Tryd.func8, Tryd.ntmps8
  go_wp2_with fail
  refine HP.out.mono ?_
  rintro e w1 ⟨v, rfl, hv, hb1⟩
  have hB1 := hbA.trans (hb1.mono hbA.size)
  obtain ⟨X, cx, rfl, hXA, hXc, hXo⟩ := row_bys hv (fun k _ => pageOf_lt HV.out k)
  have HG := Lib.hid (pageGet_any X 264 cx _ w1 hXA hXc hXo (HT.out.keep hB1))
  clear HP hbA hb1 hv c1 hXA hXc hXo
  go_wp2_with fail
  refine HG.out.mono ?_
  rintro e w2 ⟨_, _, _, _, h5, hb2⟩
  obtain ⟨u, rfl, hu⟩ := h5 rfl (pageOf_ends _ _ _) (by rw [numberOf_page _ _ _ (by decide)]; decide)
  rw [numberOf_page _ _ _ (by decide)] at *
  have hB2 := hB1.trans (hb2.mono hB1.size)
  obtain ⟨Y, cy, rfl, hYA, hYc, hYo⟩ := row_bys hu (fun k _ => pageOf_lt HV.out k)
  obtain ⟨ad, rfl, _, y1, _⟩ := hYo 1 (by decide)
  obtain ⟨_, e2, _, y2, _⟩ := hYo 2 (by decide)
  cases e2
  rw [pageOf_old _ _ _ 1 (by decide) (by decide)] at y1
  rw [pageOf_nought _ _ _ 2 (by decide) (by decide)] at y2
  have y1 : w2.cell? ⟨ad.block, ad.off + 1, none⟩ = some (.int .u8 98) := y1
  have y2 : w2.cell? ⟨ad.block, ad.off + 2, none⟩ = some (.int .u8 0) := y2
  clear HG hb2 hYA hYc hYo hu h5
  go_wp2_with fail
  refine (pagePut_any none 0 0 (fun _ => 0) 4096 w2 (fun _ => ⟨rfl, rfl⟩) (fun k hk => absurd hk (by omega)) (HT.out.keep hB2)).mono ?_
  rintro e w3 ⟨h1, _, _, hb3⟩
  obtain rfl := h1 (Or.inr (by decide))
  have hB3 := hB2.trans (hb3.mono hB2.size)
  have y3 := (hb3.cell (p := ⟨ad.block, ad.off + 1, none⟩) (cell_in y1)).trans y1
  have y4 := (hb3.cell (p := ⟨ad.block, ad.off + 2, none⟩) (cell_in y2)).trans y2
  clear h1 y1 y2 hb3
  go_wp2_with fail
  refine (many_any 257 w3 (by decide)).mono ?_
  rintro e w4 ⟨rfl, rfl⟩
  rw [show manyOf 257 = 2 by decide]
  go_wp2_with fail
  go_ret
  exact ⟨rfl, hB3⟩

/-- Put's answer, good or not. -/
theorem pagePut_form (A : Option Addr) (n c : Nat) (V : Nat → Nat) (a : Int) (w : World) (hA : A = none → n = 0 ∧ c = 0) (ho : Bys w w.heap.size A n V) (ht : Tabs w) :
    Calls Tryd.prog 9 #[.int .i64 a, .slice A n c] w fun e w' => ∃ v k, e = .returned (.tuple #[v, .int .i64 k]) ∧ ((0 ≤ a ∧ a ≤ 4095 ∧ n ≤ 256) → k = 0) ∧ (¬ (0 ≤ a ∧ a ≤ 4095 ∧ n ≤ 256) → k ≠ 0 ∧ v = .slice none 0 0) ∧ Below w.heap.size w w' := by
  refine (pagePut_any A n c V a w hA ho ht).mono ?_
  rintro e w' ⟨h1, h2, h3, hb⟩
  by_cases ha : a < 0 ∨ 4095 < a
  · exact ⟨_, 2, h1 ha, fun h => absurd ha (by omega), fun _ => ⟨by decide, rfl⟩, hb⟩
  · by_cases hn : n ≤ 256
    · obtain ⟨v, rfl, _⟩ := h3 a.toNat (by omega) (by omega) hn
      exact ⟨v, 0, rfl, fun _ => rfl, fun h => absurd hn (by omega), hb⟩
    · exact ⟨_, 80, h2 (by omega) (by omega), fun h => absurd h.2.2 hn, fun _ => ⟨by decide, rfl⟩, hb⟩
end Go.Proofs.YtmkbaifmhbmdpaaDoor
