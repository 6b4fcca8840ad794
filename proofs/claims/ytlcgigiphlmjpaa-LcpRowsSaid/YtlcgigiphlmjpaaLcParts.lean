/- The walk of colophonlaw10.LcpRows, over what package lcp answers (LcpI). -/
import Derived.Test.YtlcgigiphlmjpaaLcpI
namespace Go.Proofs.Ytlcgigiphlmjpaa
open Go.RowKit

/-- a range in two parts. -/
theorem range_parts {L : Nat → Int} {n a b c : Nat} (h1 : a < b) (h2 : b < c) (h3 : c < n) : (if rangeI L n (b : Int) (c : Int) < rangeI L n (a : Int) (b : Int) then rangeI L n (b : Int) (c : Int) else rangeI L n (a : Int) (b : Int)) = rangeI L n (a : Int) (c : Int) := by
  obtain ⟨d, rfl⟩ := Nat.le.dest (show a + 1 ≤ b from h1)
  obtain ⟨e, rfl⟩ := Nat.le.dest (show a + 1 + d + 1 ≤ c from h2)
  rw [rangeI_up (L := L) (x := a + 1 + d) (d := e) h3, rangeI_up (L := L) (x := a) (d := d) (by omega)]
  have h := rangeI_up (L := L) (n := n) (x := a) (d := d + 1 + e) (by omega)
  rw [show a + 1 + (d + 1 + e) = a + 1 + d + 1 + e by omega] at h
  rw [h, lowR_parts, show a + (d + 1) = a + 1 + d by omega]
  split <;> omega
set_option maxRecDepth 100000 in
set_option maxHeartbeats 3200000 in
theorem lcRows_walk (I : LcpI) (A : Option Addr) (n c : Nat) (V : Nat → Int) (z0 z1 z2 : Int) (w : World) (ho : ItsR w A n c V) (_ : (Lit.int .i64 z0).wf = true) (_ : (Lit.int .i64 z1).wf = true) (_ : (Lit.int .i64 z2).wf = true) :
    Calls Try.prog 7 #[.slice A n c, .agg #[.int .i64 z0, .int .i64 z1, .int .i64 z2]] w fun e w' => e = .returned (.bool true) ∧ Below w.heap.size w w' := by
  have HI := Lib.hid I
  have HO := Lib.hid ho
  have hcl : c ≤ 9223372036854775807 := by have := ho.2.2.1; unfold maxLen at this; omega
  have hnc := ho.2.1
  have hbx : Below w.heap.size w (w.alloc (.cells #[.int .i64 z0, .int .i64 z1, .int .i64 z2] 37)) := (Below.refl _ _).alloc (Nat.le_refl _) _
  have HL := Lib.hid (lies_new w 37 [.int .i64 z0, .int .i64 z1, .int .i64 z2])
  have HF := Lib.hid (lfirst_any I (w.alloc (.cells #[.int .i64 z0, .int .i64 z1, .int .i64 z2] 37)))
  clear I ho
  go_enter Try.func7, Try.ntmps7
  go_wp2_with fail
  refine HF.out.mono ?_
  rintro e w0 ⟨rfl, hb0⟩
  have hB0 := hbx.trans (hb0.mono hbx.size)
  have HL0 := Lib.hid (HL.out.below hb0 (by rw [size_alloc]; omega))
  clear HF HL hbx hb0
  by_cases hbig : (n : Int) ≤ 2000
  · have d1 : decide ((2000 : Int) < (n : Int)) = false := decide_eq_false (by omega)
    by_cases h3 : n < 3
    · have d2 : decide ((n : Int) < 3) = true := decide_eq_true (by omega)
      go_wp2_with fail
      go_ret
      exact ⟨rfl, hB0⟩
    · have d2 : decide ((n : Int) < 3) = false := decide_eq_false (by omega)
      have d3 : decide (n < 3) = false := decide_eq_false (by omega)
      have hn4 : n ≤ 4194304 := by omega
      have HRg : Hid (∀ (W : World) (i j : Nat) (r : Int), Below w.heap.size w W → i < n → j < n → rangeI V n (i : Int) (j : Int) = r → Hid (Calls Try.prog 14 #[.slice A n c, .int .i64 (i : Int), .int .i64 (j : Int)] W fun e w' => e = .returned (.int .i64 r) ∧ Below W.heap.size W w')) := Lib.hid fun W i j r hW h1 h2 e => Lib.hid (by
        subst e
        exact HI.out.range_ A n c V i j W hn4 (wf_i64 (by omega) (by omega)) (wf_i64 (by omega) (by omega)) (HO.out.below hW))
      have x0 : ∀ q, (w0.drewN q).cell? ⟨w.heap.size, 0, none⟩ = some (.int .i64 z0) := fun q => by
        have h : w0.cell? ⟨w.heap.size, 0, none⟩ = some (.int .i64 z0) := HL0.out.cell 0
        exact h
      have x1 : ∀ q, (w0.drewN q).cell? ⟨w.heap.size, 1, none⟩ = some (.int .i64 z1) := fun q => by
        have h : w0.cell? ⟨w.heap.size, 1, none⟩ = some (.int .i64 z1) := HL0.out.cell 1
        exact h
      have x2 : ∀ q, (w0.drewN q).cell? ⟨w.heap.size, 2, none⟩ = some (.int .i64 z2) := fun q => by
        have h : w0.cell? ⟨w.heap.size, 2, none⟩ = some (.int .i64 z2) := HL0.out.cell 2
        exact h
      obtain ⟨a0, ha, han⟩ := turn_w z0 n (by omega) (by omega)
      obtain ⟨b, hb, hbn⟩ := turn_w z1 n (by omega) (by omega)
      obtain ⟨c0, hc, hcn⟩ := turn_w z2 n (by omega) (by omega)
      have HA := Lib.hid ha
      have HB := Lib.hid hb
      have HC := Lib.hid hc
      clear ha hb hc HL0
      go_wp2_with fail
      go_quiet (fail)
      rw [HA.out, HB.out, HC.out]
      obtain ⟨w5, hw5⟩ : ∃ w5, w0.drewN ‹Nat› = w5 := ⟨_, rfl⟩
      have hb5 : Below w0.heap.size w0 w5 := by rw [← hw5]; exact below_drewN' (Below.refl _ _) _
      rw [hw5]
      have hB5 := hB0.trans (hb5.mono hB0.size)
      clear hw5 HA HB HC d1 d2 d3 hb5 hB0 x0 x1 x2
      generalize IntKind.u64.wrap z0 = y0
      generalize IntKind.u64.wrap z1 = y1
      generalize IntKind.u64.wrap z2 = y2
      generalize y0.tmod (n : Int) = t0
      generalize y1.tmod (n : Int) = t1
      generalize y2.tmod (n : Int) = t2
      obtain ⟨a, hlo⟩ : ∃ a : Nat, (if c0 < a0 then (c0 : Int) else (a0 : Int)) = (a : Int) := by
        split
        · exact ⟨c0, rfl⟩
        · exact ⟨a0, rfl⟩
      obtain ⟨cc, hhi⟩ : ∃ cc : Nat, (if a0 < c0 then (c0 : Int) else (a0 : Int)) = (cc : Int) := by
        split
        · exact ⟨c0, rfl⟩
        · exact ⟨a0, rfl⟩
      have hac : a < n ∧ cc < n := by split at hlo <;> split at hhi <;> omega
      obtain ⟨hal, hcl2⟩ := hac
      by_cases hab : b ≤ a
      · have e1 : decide ((b : Int) ≤ (a : Int)) = true := decide_eq_true (by omega)
        have e2 : decide (b ≤ a) = true := decide_eq_true hab
        go_wp2_with fail
        go_ret
        exact ⟨rfl, hB5⟩
      · have e1 : decide ((b : Int) ≤ (a : Int)) = false := decide_eq_false (by omega)
        have e2 : decide (b ≤ a) = false := decide_eq_false hab
        by_cases hbc : cc ≤ b
        · have e3 : decide ((cc : Int) ≤ (b : Int)) = true := decide_eq_true (by omega)
          have e4 : decide (cc ≤ b) = true := decide_eq_true hbc
          go_wp2_with fail
          go_ret
          exact ⟨rfl, hB5⟩
        · have e3 : decide ((cc : Int) ≤ (b : Int)) = false := decide_eq_false (by omega)
          have e4 : decide (cc ≤ b) = false := decide_eq_false hbc
          have hpt := range_parts (L := V) (n := n) (a := a) (b := b) (c := cc) (by omega) (by omega) hcl2
          have hsy := rangeI_symm (L := V) (n := n) (a := (cc : Int)) (b := (a : Int))
          obtain ⟨r, hr⟩ : ∃ r, rangeI V n (a : Int) (cc : Int) = r := ⟨_, rfl⟩
          obtain ⟨p, hp⟩ : ∃ p, rangeI V n (a : Int) (b : Int) = p := ⟨_, rfl⟩
          obtain ⟨q, hq⟩ : ∃ q, rangeI V n (b : Int) (cc : Int) = q := ⟨_, rfl⟩
          rw [hp, hq, hr] at hpt
          have H1 : Hid (∀ W, Below w.heap.size w W → Hid (Calls Try.prog 14 #[.slice A n c, .int .i64 (a : Int), .int .i64 (cc : Int)] W fun e w' => e = .returned (.int .i64 r) ∧ Below W.heap.size W w')) := Lib.hid fun W hW => HRg.out W a cc r hW hal hcl2 hr
          have H2 : Hid (∀ W, Below w.heap.size w W → Hid (Calls Try.prog 14 #[.slice A n c, .int .i64 (a : Int), .int .i64 (b : Int)] W fun e w' => e = .returned (.int .i64 p) ∧ Below W.heap.size W w')) := Lib.hid fun W hW => HRg.out W a b p hW hal hbn hp
          have H3 : Hid (∀ W, Below w.heap.size w W → Hid (Calls Try.prog 14 #[.slice A n c, .int .i64 (b : Int), .int .i64 (cc : Int)] W fun e w' => e = .returned (.int .i64 q) ∧ Below W.heap.size W w')) := Lib.hid fun W hW => HRg.out W b cc q hW hbn hcl2 hq
          have H4 : Hid (∀ W, Below w.heap.size w W → Hid (Calls Try.prog 14 #[.slice A n c, .int .i64 (cc : Int), .int .i64 (a : Int)] W fun e w' => e = .returned (.int .i64 r) ∧ Below W.heap.size W w')) := Lib.hid fun W hW => HRg.out W cc a r hW hcl2 hal (hsy.trans hr)
          clear hsy hr hp hq HRg
          have C1 := H1.out w5 hB5
          go_wp2_with fail
          refine C1.out.mono ?_
          rintro e w6 ⟨rfl, hb6⟩
          have hB6 := hB5.trans (hb6.mono hB5.size)
          have C2 := H2.out w6 hB6
          clear C1 hb6 hB5 hlo hhi
          go_wp2_with fail
          refine C2.out.mono ?_
          rintro e w7 ⟨rfl, hb7⟩
          have hB7 := hB6.trans (hb7.mono hB6.size)
          have C3 := H3.out w7 hB7
          clear C2 hb7 hB6
          go_wp2_with fail
          refine C3.out.mono ?_
          rintro e w8 ⟨rfl, hb8⟩
          have hB8 := hB7.trans (hb8.mono hB7.size)
          have C4 := H4.out w8 hB8
          clear C3 hb8 hB7
          go_wp2_with fail
          refine C4.out.mono ?_
          rintro e w9 ⟨rfl, hb9⟩
          have hB9 := hB8.trans (hb9.mono hB8.size)
          have C5 := H1.out w9 hB9
          clear C4 hb9 hB8
          go_wp2_with fail
          refine C5.out.mono ?_
          rintro e w10 ⟨rfl, hb10⟩
          have hB10 := hB9.trans (hb10.mono hB9.size)
          go_wp2_with fail
          go_ret
          exact ⟨rfl, hB10⟩
  · have d1 : decide ((2000 : Int) < (n : Int)) = true := decide_eq_true (by omega)
    go_wp2_with fail
    go_ret
    exact ⟨rfl, hB0⟩
end Go.Proofs.Ytlcgigiphlmjpaa
