/- What the laws of layer 2 call besides: a list of bits out of bytes; the document's own counts and places. -/
import Derived.Test.YtllafbadmhbnoaaVecNew
import Derived.Test.YtllafbadmhbnoaaFind
import Derived.Test.YtllafbadmhbnoaaBytes
namespace Go.Proofs.Ytllafbadmhbnoaa
open Go.RowKit

/-- the bits of bytes. -/
def bitOf (V : Nat → Nat) : Nat → Bool := fun j => decide (V j % 2 = 1)
/-- which bytes end with this bit. -/
def beq (V : Nat → Nat) (b : Nat) : Nat → Bool := fun j => decide (V j % 2 = b)
theorem beq_one (V : Nat → Nat) : beq V 1 = bitOf V := rfl
theorem beq_zero (V : Nat → Nat) : beq V 0 = inv (bitOf V) := by
  funext j
  unfold beq inv bitOf
  rcases Nat.mod_two_eq_zero_or_one (V j) with h | h <;> simp [h]

theorem Bits.congr {ws : List Nat} {n : Nat} {f f' : Nat → Bool} (h : Bits ws n f) (e : ∀ j, j < n → f j = f' j) : Bits ws n f' := ⟨h.few, h.len, h.small, fun i hi => (h.same i hi).trans (e i hi), h.behind⟩
theorem Vc.congr {w : World} {B g gw n : Nat} {av : Value} {ws : List Nat} {f f' : Nat → Bool} (h : Vc w B g gw av n ws f) (e : ∀ j, j < n → f j = f' j) : Vc w B g gw av n ws f' := by
  refine ⟨?_, h.body, fun k hk => ?_, h.bits.congr e, h.lo⟩
  · rw [← Pl.cnt_congr e]; exact h.head
  · obtain ⟨ga, c, h1, h2, h3, h4⟩ := h.row k hk
    refine ⟨ga, c, h1, h2, h3, ?_⟩
    rw [h4, Pl.cnt_congr (g := f') fun j hj => e j (by have := h.bits.len; omega)]

theorem low_u8 (x : Nat) (hx : x < 256) : bits .and .u8 (x : Int) 1 = ((x % 2 : Nat) : Int) := by
  have h : ∀ y : Nat, y < 256 → bits .and .u8 ((y : Nat) : Int) 1 = ((y % 2 : Nat) : Int) := by decide +kernel
  exact h x hx

/-- what Vec leaves. -/
def VecLaw (w : World) (n : Nat) (f : Nat → Bool) (e : Ending) (w' : World) : Prop :=
  ∃ (g gw : Nat) (av : Value) (ws : List Nat), e = .returned (.pointer (some ⟨g, 0, none⟩)) ∧ Vc w' w.heap.size g gw av n ws f ∧ Below w.heap.size w w'

set_option maxRecDepth 100000 in
set_option maxHeartbeats 800000 in
theorem vec_any (A : Option Addr) (n c : Nat) (V : Nat → Nat) (w : World) (hn : n ≤ 4194304) (ho : Bys w w.heap.size A n V) :
    Calls Try.prog 10 #[.slice A n c] w (VecLaw w n (bitOf V)) := by
  have HN := Lib.hid (new_full 1 n (by decide) (by decide) hn w)
  have HO := Lib.hid ho
  clear ho
  go_enter Try.func10, Try.ntmps10
  go_wp2_with fail
  refine HN.out.mono ?_
  rintro e w1 ⟨g, gs, rfl, hg, hgs, hb1, ws, hp⟩
  clear HN
  go_wp2_with fail
  go_loopw [19] (fun v wr => ∃ (i : Nat) (x : Nat → Nat) (ws : List Nat), i ≤ n ∧ v = .int .i64 (i : Int) ∧ Full wr g gs 1 n ws x ∧ Hid (∀ j, j < i → x j = V j % 2) ∧ Below w.heap.size w wr) (fun v _ => n - (intOf v).toNat)
  case atStart => exact ⟨0, _, _, Nat.zero_le _, rfl, hp, Lib.hid (fun j hj => absurd hj (by omega)), hb1⟩
  case round =>
    clear hp hb1
    obtain ⟨i, x, ws, hi, rfl, hp, hx, hB⟩ := hrel
    by_cases hlt : i < n
    · obtain ⟨ad, rfl, had, hV, hV8⟩ := (HO.out.below hB) i hlt
      have hlow := low_u8 _ hV8
      obtain ⟨y, hy⟩ : ∃ y, V i % 2 = y := ⟨_, rfl⟩
      rw [hy] at hlow
      have hy1 : y ≤ 1 := by omega
      have HY := Lib.hid hy
      have HS := Lib.hid (hp.set_ i y hlt (by omega))
      have hBs := hB.size
      have HB := Lib.hid hB
      clear hy hp hB
      go_wp2_with fail
      refine HS.out.mono ?_
      rintro e w4 ⟨rfl, ws4, hp4, hg4⟩
      have hB4 := HB.out.trans (below_of_grownBy hg4 hgs hBs)
      clear hg4
      go_wp2_with fail
      go_roundw
      case rel =>
        refine ⟨i + 1, _, ws4, by omega, by go_num, hp4, Lib.hid fun j hj => ?_, hB4⟩
        show (if j = i then y else x j) = V j % 2
        by_cases h : j = i
        · rw [if_pos h, h, HY.out]
        · rw [if_neg h]; exact hx.out j (by omega)
      case measure => simp [intOf]; omega
    · have HV := Lib.hid (vnew_any hp)
      have HB := Lib.hid hB
      have hin : i = n := by omega
      clear hp hB
      go_wp2_with fail
      refine HV.out.mono ?_
      rintro e w5 ⟨g5, gw5, av5, ws5, rfl, hv, hb5⟩
      go_wp2_with fail
      go_ret
      refine ⟨g5, gw5, av5, ws5, rfl, ?_, HB.out.trans (hb5.mono HB.out.size)⟩
      have hs := HB.out.size
      have hv' := hv.congr (f' := bitOf V) fun j hj => by
        rw [hx.out j (by omega)]
        unfold bitOf
        rw [Nat.testBit_zero]
        rcases Nat.mod_two_eq_zero_or_one (V j) with h | h <;> simp [h]
      exact ⟨hv'.head, hv'.body, fun k hk => (by
        obtain ⟨ga, c, h1, h2, h3, h4⟩ := hv'.row k hk
        exact ⟨ga, c, h1, by omega, h3, h4⟩), hv'.bits, by have := hv'.lo; omega⟩
end Go.Proofs.Ytllafbadmhbnoaa
