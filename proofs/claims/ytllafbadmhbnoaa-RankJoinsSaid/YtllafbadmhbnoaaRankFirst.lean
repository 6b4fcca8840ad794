/- The contract of the opening of layer 2's laws: it is true, and leaves what was there as it was. -/
import Derived.Test.YtllafbadmhbnoaaRankRef
namespace Go.Proofs.Ytllafbadmhbnoaa
open Go.RowKit

/-- the bytes of the example. -/
def five : Nat → Nat := fun j => if j = 1 ∨ j = 2 ∨ j = 4 then 1 else 0
theorem five_bys {w : World} {g : Nat} (h : Lies w g 5 [.int .u8 0, .int .u8 1, .int .u8 1, .int .u8 0, .int .u8 1]) : Bys w w.heap.size (some ⟨g, 0, none⟩) 5 five := fun k hk => by
  have hk' : k = 0 ∨ k = 1 ∨ k = 2 ∨ k = 3 ∨ k = 4 := by omega
  refine ⟨⟨g, 0, none⟩, rfl, h.lt, ?_, ?_⟩
  · have e : (⟨g, 0, none⟩ : Addr).add k = ⟨g, k, none⟩ := by unfold Addr.add; split <;> simp_all
    rw [e, h.cell k]
    rcases hk' with rfl | rfl | rfl | rfl | rfl <;> rfl
  · rcases hk' with rfl | rfl | rfl | rfl | rfl <;> decide

section
variable {w : World} {B g gw : Nat} {av : Value} {ws : List Nat}
theorem f_rank (h : Vc w B g gw av 5 ws (bitOf five)) : Calls Try.prog 14 #[.pointer (some ⟨g, 0, none⟩), .int .i64 3] w fun e w' => e = .returned (.int .i64 2) ∧ w = w' := rank_any h 3
theorem f_zeros (h : Vc w B g gw av 5 ws (bitOf five)) : Calls Try.prog 15 #[.pointer (some ⟨g, 0, none⟩), .int .i64 3] w fun e w' => e = .returned (.int .i64 1) ∧ w = w' := zeros_any h 3
theorem f_sel2 (h : Vc w B g gw av 5 ws (bitOf five)) : Calls Try.prog 17 #[.pointer (some ⟨g, 0, none⟩), .int .i64 2] w fun e w' => e = .returned (.int .i64 4) ∧ Below w.heap.size w w' := select_any h 2
theorem f_selz (h : Vc w B g gw av 5 ws (bitOf five)) : Calls Try.prog 19 #[.pointer (some ⟨g, 0, none⟩), .int .i64 1] w fun e w' => e = .returned (.int .i64 3) ∧ Below w.heap.size w w' := selectZero_any h 1
theorem f_sel3 (h : Vc w B g gw av 5 ws (bitOf five)) : Calls Try.prog 17 #[.pointer (some ⟨g, 0, none⟩), .int .i64 3] w fun e w' => e = .returned (.int .i64 (-1)) ∧ Below w.heap.size w w' := select_any h 3
end

set_option maxRecDepth 100000 in
set_option maxHeartbeats 1600000 in
theorem rfirst_any (w : World) : Calls Try.prog 9 #[] w fun e w' => e = .returned (.bool true) ∧ Below w.heap.size w w' := by
  have HV : ∀ W, W = w.alloc (.cells #[.int .u8 0, .int .u8 1, .int .u8 1, .int .u8 0, .int .u8 1] 5) → Hid (Calls Try.prog 10 #[.slice (some ⟨w.heap.size, 0, none⟩) 5 5] W (VecLaw W 5 (bitOf five))) := fun W hW => by
    subst hW
    exact Lib.hid (vec_any _ 5 5 five _ (by decide) (five_bys (lies_new w _ [.int .u8 0, .int .u8 1, .int .u8 1, .int .u8 0, .int .u8 1])))
  have HV1 := HV _ rfl
  clear HV
  go_enter Try.func9, Try.ntmps9
  go_wp2_with fail
  refine HV1.out.mono ?_
  rintro e w1 ⟨g, gw, av, ws, rfl, hv, hb⟩
  have hB1 : Below w.heap.size w w1 := ((Below.refl _ _).alloc (Nat.le_refl _) _).trans (hb.mono (by simp))
  clear hb HV1
  have HN := Lib.hid (new_any 2 1 (by decide) (by decide) (by decide) w1)
  go_wp2_with fail
  refine HN.out.mono ?_
  rintro e w2 ⟨gp, gps, rfl, hgp, hgps, hp, hb2⟩
  have hv2 := hv.keep hb2
  have hB2 := hB1.trans (hb2.mono hB1.size)
  clear hb2 hv hB1 HN
  go_wp2_with fail
  refine (vnew_nil _).mono ?_
  rintro e w' ⟨rfl, rfl⟩
  go_wp2_with fail
  refine (vnew_wide hp (by decide)).mono ?_
  rintro e w' ⟨rfl, rfl⟩
  clear hp
  go_wp2_with fail
  refine (f_rank hv2).mono ?_
  rintro e w' ⟨rfl, rfl⟩
  go_wp2_with fail
  refine (f_zeros hv2).mono ?_
  rintro e w' ⟨rfl, rfl⟩
  go_wp2_with fail
  refine (f_sel2 hv2).mono ?_
  rintro e w3 ⟨rfl, hb3⟩
  have hv3 := hv2.keep hb3
  have hB3 := hB2.trans (hb3.mono hB2.size)
  clear hb3 hv2 hB2
  go_wp2_with fail
  refine (f_selz hv3).mono ?_
  rintro e w4 ⟨rfl, hb4⟩
  have hv4 := hv3.keep hb4
  have hB4 := hB3.trans (hb4.mono hB3.size)
  clear hb4 hv3 hB3
  go_wp2_with fail
  refine (f_sel3 hv4).mono ?_
  rintro e w5 ⟨rfl, hb5⟩
  have hB5 := hB4.trans (hb5.mono hB4.size)
  clear hb5 hv4 hB4
  go_wp2_with fail
  go_ret
  exact ⟨rfl, hB5⟩
end Go.Proofs.Ytllafbadmhbnoaa
