/- The contract of New of package rank. -/
import Derived.Test.YtmcoehimjfgakaaCount
namespace Go.Proofs.Ytmcoehimjfgakaa
open Go.RowKit

/-- what New leaves. -/
def VecPost (w : World) (n : Nat) (f : Nat → Bool) (e : Ending) (w' : World) : Prop :=
  ∃ (g gw : Nat) (av : Value) (ws : List Nat), e = .returned (.tuple #[.pointer (some ⟨g, 0, none⟩), .int .i64 0]) ∧ Vc w' w.heap.size g gw av n ws f ∧ Below w.heap.size w w'

theorem bits_total {ws : List Nat} {n : Nat} {f : Nat → Bool} (h : Bits ws n f) : Pl.cnt (Pl.bitAt ws) (64 * ws.length) = Pl.cnt f n := by
  have hl : n ≤ 64 * ws.length := by rw [h.len]; omega
  have e : 64 * ws.length = n + (64 * ws.length - n) := by omega
  rw [e, Pl.cnt_add, h.cnt_same (Nat.le_refl _)]
  have z : Pl.cnt (fun j => Pl.bitAt ws (n + j)) (64 * ws.length - n) = 0 := Pl.cnt_zero fun j _ => h.behind _ (by omega)
  omega

theorem vc_of_cting {w w' : World} {B g gw n : Nat} {ws : List Nat} {av : Value} {f : Nat → Bool} (h : Cting w w' B g gw n ws.length ((ws.length + 7) / 8) ws av) (hb : Bits ws n f) (hg : B ≤ g) (hgw : B ≤ gw) (hB : B ≤ w.heap.size) : Vc w' B g gw av n ws f := by
  refine ⟨?_, h.body, fun k hk => ?_, hb, hg, hgw⟩
  · have e := h.head
    rw [bits_total hb] at e
    exact e
  · have hm : k < (ws.length + 7) / 8 := by omega
    obtain ⟨ga, c, e, hlo, hlt⟩ := h.row.form (by omega)
    subst e
    refine ⟨ga, c, rfl, by omega, hlt, ?_⟩
    have hn : 512 * k ≤ n := by have := hb.len; omega
    rw [hb.cnt_same hn]
    exact (h.row.cellAt k (by omega)).trans (acells_at ws _ k hm)

theorem of_full {w : World} {g gs n : Nat} {ws : List Nat} {x : Nat → Nat} (h : Full w g gs 1 n ws x) : Bits ws n (fun i => (x i).testBit 0) where
  few := h.few
  len := by have := h.holds.len; rw [Nat.mul_one] at this; exact this
  small := h.holds.small
  same := fun i hi => by have := h.holds.bits i 0 hi (by decide); rw [Nat.mul_one, Nat.add_zero] at this; exact this
  behind := fun i hi => h.holds.behind i (by omega)

set_option maxRecDepth 100000 in
set_option maxHeartbeats 800000 in
theorem vnew_any {w : World} {gp gps n : Nat} {ws : List Nat} {x : Nat → Nat} (h : Full w gp gps 1 n ws x) :
    Calls Try.prog 63 #[.pointer (some ⟨gp, 0, none⟩)] w (VecPost w n (fun i => (x i).testBit 0)) := by
  have hb := of_full h
  have hL : ws.length ≤ 65536 := by have := hb.len; have := hb.few; omega
  have hs := hb.small
  have HB := Lib.hid hb
  have HWd := Lib.hid (width_any h.pk)
  have HLen := Lib.hid (len_any h.pk)
  have HWs := Lib.hid (words_any h.pk (by omega))
  clear h hb
  go_enter Try.func63, Try.ntmps63
  go_wp2_with (first
    | (go_at_call 68; refine HWd.out.mono ?_; rintro e w' ⟨rfl, rfl⟩)
    | (go_at_call 31; refine HLen.out.mono ?_; rintro e w' ⟨rfl, rfl⟩))
  refine HWs.out.mono ?_
  rintro e w1 ⟨gw, rfl, hgw, hl, hb1⟩
  have hlt := hl.lt
  have HC := fun (W : World) (hW : W = w1.alloc (.cells #[.int .i64 (n : Int), .int .i64 0, .slice (some ⟨gw, 0, none⟩) ws.length ws.length, .slice none 0 0] 83)) =>
    count_any ws w.heap.size w1.heap.size gw n W hL (by
      subst hW
      exact ⟨lies_new w1 _ [.int .i64 (n : Int), .int .i64 0, .slice (some ⟨gw, 0, none⟩) ws.length ws.length, .slice none 0 0], hl.alloc _, World.ownsRow_nil _ _ _ _, Below.refl _ _, Nat.le_refl _⟩)
      (by have := hb1.size; omega) (by subst hW; simp) (by subst hW; simp; omega) (by omega) hs
  have HC1 := Lib.hid (HC _ rfl)
  clear HC
  have hB1 : Below w.heap.size w (w1.alloc (.cells #[.int .i64 (n : Int), .int .i64 0, .slice (some ⟨gw, 0, none⟩) ws.length ws.length, .slice none 0 0] 83)) := hb1.alloc hb1.size _
  have HB1 := Lib.hid hB1
  clear hB1
  go_wp2_with fail
  refine HC1.out.mono ?_
  rintro e w2 ⟨rfl, av, hct⟩
  go_wp2_with fail
  go_ret2
  exact ⟨w1.heap.size, gw, av, ws, rfl, vc_of_cting hct HB.out hb1.size hgw (by simp; have := hb1.size; omega), HB1.out.trans hct.below⟩

theorem vnew_nil (w : World) : Calls Try.prog 63 #[.pointer none] w fun e w' => e = .returned (.tuple #[.pointer none, .int .i64 1]) ∧ w = w' := by
  go_enter Try.func63, Try.ntmps63
  go_wp2
  go_ret2
  exact ⟨rfl, rfl⟩
theorem vnew_wide {w : World} {gp gps width n : Nat} {ws : List Nat} (h : Pk w gp gps width n ws) (hw : width ≠ 1) :
    Calls Try.prog 63 #[.pointer (some ⟨gp, 0, none⟩)] w fun e w' => e = .returned (.tuple #[.pointer none, .int .i64 2]) ∧ w = w' := by
  have e1 : ((width : Int) != 1) = true := by simp; omega
  go_enter Try.func63, Try.ntmps63
  go_wp2_with (go_at_call 68; refine (width_any h).mono ?_; rintro e w' ⟨rfl, rfl⟩)
  go_ret2
  exact ⟨rfl, rfl⟩
end Go.Proofs.Ytmcoehimjfgakaa
