/- The contract of bits.OnesCount64: how many bits are set. -/
import Derived.Test.YtmcoehimjfgakaaCalls
import Derived.Test.YtmcoehimjfgakaaPopMath
import Derived.Laws.Bits128
namespace Go.Proofs.Ytmcoehimjfgakaa
open Go.RowKit

theorem and_lit {x : Nat} (m : Nat) (hx : x < 2 ^ 64) (hm : m < 2 ^ 64) : bits .and .u64 (x : Int) (m : Int) = ((x &&& m : Nat) : Int) := and_u hx hm
theorem and_m0 {x : Nat} (hx : x < 2 ^ 64) : bits .and .u64 (x : Int) 6148914691236517205 = ((x &&& 6148914691236517205 : Nat) : Int) := and_u hx (by decide)
theorem and_m1 {x : Nat} (hx : x < 2 ^ 64) : bits .and .u64 (x : Int) 3689348814741910323 = ((x &&& 3689348814741910323 : Nat) : Int) := and_u hx (by decide)
theorem and_m2 {x : Nat} (hx : x < 2 ^ 64) : bits .and .u64 (x : Int) 1085102592571150095 = ((x &&& 1085102592571150095 : Nat) : Int) := and_u hx (by decide)

theorem pop_num (x : Nat) (hx : x < 2 ^ 64) : ∃ y1 y2 y3 : Nat,
    IntKind.u64.wrap (bits .and .u64 ((x : Int) / 2) 6148914691236517205 + bits .and .u64 (x : Int) 6148914691236517205) = (y1 : Int) ∧
    IntKind.u64.wrap (bits .and .u64 ((y1 : Int) / 4) 3689348814741910323 + bits .and .u64 (y1 : Int) 3689348814741910323) = (y2 : Int) ∧
    bits .and .u64 (IntKind.u64.wrap ((y2 : Int) / 16 + (y2 : Int))) 1085102592571150095 = (y3 : Int) ∧
    y3 ≤ 578721382704613384 ∧ (y3 + y3 / 256 + (y3 + y3 / 256) / 65536 + (y3 + y3 / 256 + (y3 + y3 / 256) / 65536) / 4294967296) % 128 = Pl.pop x := by
  have k1 : (x / 2 &&& 6148914691236517205) ≤ 6148914691236517205 := Nat.and_le_right
  have k2 : (x &&& 6148914691236517205) ≤ 6148914691236517205 := Nat.and_le_right
  obtain ⟨y1, h1⟩ : ∃ y1, (x / 2 &&& 6148914691236517205) + (x &&& 6148914691236517205) = y1 := ⟨_, rfl⟩
  have b1 : y1 < 2 ^ 64 := by omega
  have k3 : (y1 / 4 &&& 3689348814741910323) ≤ 3689348814741910323 := Nat.and_le_right
  have k4 : (y1 &&& 3689348814741910323) ≤ 3689348814741910323 := Nat.and_le_right
  obtain ⟨y2, h2⟩ : ∃ y2, (y1 / 4 &&& 3689348814741910323) + (y1 &&& 3689348814741910323) = y2 := ⟨_, rfl⟩
  have b2 : y2 ≤ 7378697629483820646 := by omega
  obtain ⟨y3, h3⟩ : ∃ y3, (y2 / 16 + y2) &&& 1085102592571150095 = y3 := ⟨_, rfl⟩
  obtain ⟨c1, c2⟩ := Pl.pop_sums hx h1 h2 h3
  refine ⟨y1, y2, y3, ?_, ?_, ?_, c1, c2⟩
  · have e : (x : Int) / 2 = ((x / 2 : Nat) : Int) := by omega
    rw [e, and_m0 (by omega), and_m0 hx, ← Int.natCast_add, h1, wrap_u]
    congr 1
    omega
  · have e : (y1 : Int) / 4 = ((y1 / 4 : Nat) : Int) := by omega
    rw [e, and_m1 (by omega), and_m1 b1, ← Int.natCast_add, h2, wrap_u]
    congr 1
    omega
  · have e : (y2 : Int) / 16 + (y2 : Int) = ((y2 / 16 + y2 : Nat) : Int) := by omega
    rw [e, wrap_u, and_m2 (Nat.mod_lt _ (by decide))]
    have e2 : (y2 / 16 + y2) % 2 ^ 64 = y2 / 16 + y2 := by omega
    rw [e2, h3]

set_option maxRecDepth 100000 in
theorem ones64_any (x : Nat) (hx : x < 2 ^ 64) (w : World) :
    Calls Try.prog 73 #[.int .u64 (x : Int)] w fun e w' => e = .returned (.int .i64 (Pl.pop x : Nat)) ∧ w = w' := by
  obtain ⟨y1, y2, y3, h1, h2, h3, hb, hp⟩ := pop_num x hx
  have HP := Lib.hid hp
  clear hp
  have hb1 : (y3 : Int) ≤ 578721382704613384 := by omega
  have e4 : IntKind.u64.wrap ((y3 : Int) + (y3 : Int) / 256) = (y3 : Int) + (y3 : Int) / 256 := by rw [IntKind.wrap_u64]; omega
  obtain ⟨y4, h4⟩ : ∃ y4 : Nat, y4 = y3 + y3 / 256 := ⟨_, rfl⟩
  have e4' : IntKind.u64.wrap ((y3 : Int) + (y3 : Int) / 256) = (y4 : Int) := by rw [IntKind.wrap_u64]; omega
  obtain ⟨y5, h5⟩ : ∃ y5 : Nat, y5 = y4 + y4 / 65536 := ⟨_, rfl⟩
  have e5' : IntKind.u64.wrap ((y4 : Int) + (y4 : Int) / 65536) = (y5 : Int) := by rw [IntKind.wrap_u64]; omega
  obtain ⟨y6, h6⟩ : ∃ y6 : Nat, y6 = y5 + y5 / 4294967296 := ⟨_, rfl⟩
  have e6' : IntKind.u64.wrap ((y5 : Int) + (y5 : Int) / 4294967296) = (y6 : Int) := by rw [IntKind.wrap_u64]; omega
  have hb6 : (y6 : Int) ≤ 9223372036854775807 := by omega
  have H4 := Lib.hid h4
  have H5 := Lib.hid h5
  have H6 := Lib.hid h6
  clear e4 h4 h5 h6 hb hb1
  have e7 := i64_and127 (y6 : Int)
  go_enter Try.func73, Try.ntmps73
  go_wp2
  go_ret
  refine ⟨ret_i64 ?_, rfl⟩
  rw [← HP.out, H6.out, H5.out, H4.out]
  omega
end Go.Proofs.Ytmcoehimjfgakaa
