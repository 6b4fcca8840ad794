/- The contract of words of the high bits. -/
import Derived.Test.YtmcoehimjfgakaaHighsOf
namespace Go.Proofs.Ytmcoehimjfgakaa
open Go.RowKit

/-- words of the bits below b. -/
structure Done (f : Nat → Bool) (b L : Nat) (os : List Nat) : Prop where
  len : os.length = L
  small : Pl.Small os
  bits : ∀ j, Pl.bitAt os j = (decide (j < b) && f j)
theorem done_zero (f : Nat → Bool) (L : Nat) : Done f 0 L (List.replicate L 0) := ⟨by simp, Pl.small_zeros _, fun j => by rw [Pl.bitAt_zeros]; simp⟩
theorem Done.skip {f : Nat → Bool} {b L : Nat} {os : List Nat} (h : Done f b L os) (hf : f b = false) : Done f (b + 1) L os := ⟨h.len, h.small, fun j => by
  rw [h.bits j]
  by_cases e : j = b
  · subst e; rw [hf]; simp
  · have : decide (j < b + 1) = decide (j < b) := decide_eq_decide.2 (by omega)
    rw [this]⟩
theorem Done.set_ {f : Nat → Bool} {b L : Nat} {os : List Nat} (h : Done f b L os) (hf : f b = true) (hb : b < 64 * L) : Done f (b + 1) L (setb os b) := ⟨by rw [setb_length, h.len], setb_small h.small b, fun j => by
  rw [setb_at (by rw [h.len]; exact hb), h.bits j]
  by_cases e : b = j
  · subst e; rw [hf]; simp
  · have e1 : (b == j) = false := by simpa using e
    have : decide (j < b + 1) = decide (j < b) := decide_eq_decide.2 (by omega)
    rw [this, e1, Bool.or_false]⟩
theorem Done.all {f : Nat → Bool} {c : Nat} {os : List Nat} (h : Done f c ((c + 63) / 64) os) (hc : c ≤ 4194304) : Bits os c f :=
  ⟨hc, h.len, h.small, fun i hi => by rw [h.bits i]; simp [hi], fun i hi => by rw [h.bits i]; simp; omega⟩

section
variable {w : World} {B h1 h2 c : Nat} {ws : List Nat} {f : Nat → Bool}
set_option maxRecDepth 100000 in
set_option maxHeartbeats 1600000 in
theorem hwords_any (h : Hs w B h1 h2 c ws f) : Calls Try.prog 38 #[hv h1 h2] w (CopyPost w ws) := by
  have hf := h.few
  obtain ⟨L, hL⟩ : ∃ L, (c + 63) / 64 = L := ⟨_, rfl⟩
  have HLen : ∀ W, Below w.heap.size w W → Hid (Calls Try.prog 57 #[hv h1 h2] W fun e w' => e = .returned (.int .i64 (c : Int)) ∧ Below W.heap.size W w') := fun W hW => Lib.hid (hlen_any (h.keep hW))
  have HAt : ∀ W b, b < c → Below w.heap.size w W → Hid (Calls Try.prog 58 #[hv h1 h2, .int .i64 (b : Int)] W fun e w' => e = .returned (.bool (f b)) ∧ Below W.heap.size W w') := fun W b hb hW => Lib.hid (hat_any (h.keep hW) b hb)
  have HWo : ∀ W, Hid (Calls Try.prog 25 #[.int .i64 (c : Int)] W fun e w' => e = .returned (.int .i64 (L : Int)) ∧ W = w') := fun W => by
    rw [← hL]; exact Lib.hid (swordsOf_any c (by omega) W)
  have HL := Lib.hid hL
  have HB := Lib.hid h.bits
  have hLs : L ≤ 65536 := by omega
  have HMk := Lib.hid (fun W => make_words L (by omega) W)
  have hc64 : c ≤ 64 * L := by omega
  have hlies0 := lies_new w 48 [.pointer (some ⟨h1, 0, none⟩), .pointer (some ⟨h2, 0, none⟩)]
  have hbx := below_box w (.cells #[.pointer (some ⟨h1, 0, none⟩), .pointer (some ⟨h2, 0, none⟩)] 48)
  have hd0 := hlies0.cell 0
  have hd1 := hlies0.cell 1
  unfold hv at HLen HAt ⊢
  clear h hL
  go_enter Try.func38, Try.ntmps38
  go_wp2_with fail
  with_reducible refine (HLen _ hbx).out.mono ?_
  rintro e w1 ⟨rfl, hb1⟩
  have hB1 := hbx.trans (hb1.mono hbx.size)
  have hlies1 := hlies0.below hb1 (by simp)
  clear hd0 hd1
  have hmk := HMk.out w1
  go_wp2_with fail
  with_reducible refine (HWo _).out.mono ?_
  rintro e w' ⟨rfl, rfl⟩
  have hbx2 := below_box w1 (.cells (wcells (List.replicate L 0)).toArray 43)
  have hlies2 := hlies1.below hbx2 (by have := hb1.size; simp at this; omega)
  have hd0 := hlies2.cell 0
  have hd1 := hlies2.cell 1
  have hB2 := hB1.trans (hbx2.mono hB1.size)
  go_wp2_with fail
  with_reducible refine (HLen _ hB2).out.mono ?_
  rintro e w3 ⟨rfl, hb3⟩
  have hlies3 := hlies2.below hb3 (by have := hb1.size; simp at this ⊢; omega)
  have hlw3 := (lies_new w1 43 (wcells (List.replicate L 0))).below hb3 (by simp)
  have hB3 := hB2.trans (hb3.mono hB2.size)
  have hg1 : w.heap.size < w1.heap.size := by have := hb1.size; simp at this; omega
  obtain ⟨gl, hgl⟩ : ∃ gl, w1.heap.size = gl := ⟨_, rfl⟩
  rw [hgl] at hlw3 hg1 ⊢
  clear hd0 hd1 hlies2 hlies1 hlies0 hB2 hb3 hmk hbx2 hbx hb1 hB1
  go_wp2_with fail
  go_loopw [11] (fun v wr => ∃ (b : Nat) (os : List Nat), b ≤ c ∧ v = .int .i64 (b : Int) ∧ Hid (Lies wr gl 43 (wcells os)) ∧ Hid (Done f b L os) ∧ Hid (Lies wr w.heap.size 48 [.pointer (some ⟨h1, 0, none⟩), .pointer (some ⟨h2, 0, none⟩)]) ∧ Below w.heap.size w wr) (fun v _ => c - (intOf v).toNat)
  case atStart => exact ⟨0, _, Nat.zero_le _, rfl, Lib.hid hlw3, Lib.hid (done_zero f L), Lib.hid hlies3, hB3⟩
  case round =>
    clear hlw3 hlies3 hB3
    obtain ⟨b, os, hb, rfl, HLw, HD, HX, hBw⟩ := hrel
    by_cases hlt : b < c
    · have hd0 := HX.out.cell 0
      have hd1 := HX.out.cell 1
      have HA := HAt wr b hlt hBw
      obtain ⟨fb, hfb⟩ : ∃ fb, f b = fb := ⟨_, rfl⟩
      rw [hfb] at HA
      have HFb := Lib.hid hfb
      clear hfb
      go_wp2_with fail
      with_reducible refine HA.out.mono ?_
      rintro e w2 ⟨rfl, hb2⟩
      have hBw2 := hBw.trans (hb2.mono hBw.size)
      have HX2 := Lib.hid (HX.out.below hb2 HX.out.lt)
      have HLw2 := Lib.hid (HLw.out.below hb2 HLw.out.lt)
      cases fb with
      | false =>
        go_wp2_with fail
        go_roundw
        case rel => exact ⟨b + 1, os, by omega, by go_num, HLw2, Lib.hid (HD.out.skip HFb.out), HX2, hBw2⟩
        case measure => simp [intOf]; omega
      | true =>
        have HS := setBit_any os gl L b w2 HLw2.out HD.out.small (by rw [HD.out.len]; omega) (by rw [HD.out.len]; omega)
        rw [HD.out.len] at HS
        have HSS := Lib.hid HS
        clear HS
        go_wp2_with fail
        with_reducible refine HSS.out.mono ?_
        rintro e w4 ⟨rfl, hl4, hg4⟩
        have hl4' := Lib.hid hl4
        have HX4 := Lib.hid (HX2.out.grown hg4 (by intro e; injection e; omega))
        have hBw4 := hBw2.trans (below_of_grownBy hg4 (by omega) hBw2.size)
        clear hl4 hg4
        go_wp2_with fail
        go_roundw
        case rel => exact ⟨b + 1, _, by omega, by go_num, hl4', Lib.hid (HD.out.set_ HFb.out (by omega)), HX4, hBw4⟩
        case measure => simp [intOf]; omega
    · obtain rfl : b = c := by omega
      go_wp2_with fail
      go_ret
      have hbits : Bits os b f := Done.all (by rw [HL.out]; exact HD.out) hf
      have e := hbits.unique HB.out
      rw [← e]
      exact ⟨gl, by rw [HD.out.len]; rfl, by omega, HLw.out, hBw⟩
end
end Go.Proofs.Ytmcoehimjfgakaa
