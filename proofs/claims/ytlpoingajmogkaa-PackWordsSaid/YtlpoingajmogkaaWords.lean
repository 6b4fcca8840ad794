/- For every input colophonlaw01.PackWords returns true, and its arguments read as they read. No condition. -/
import Derived.Test.YtlpoingajmogkaaFirst
import Derived.Test.YtlpoingajmogkaaLaw
import Derived.Test.YtlpoingajmogkaaPop
import Derived.Deep.QuietTactic
import Derived.BigQuiet
namespace Go.Proofs.Ytlpoingajmogkaa.packWords
open Go.ChangeShapes Go.WideShapes Go.ChangeAt Go.RowKit

theorem low_num {v : Nat} (h : 0 < v) (hv : v < 2 ^ 64) : bits .and .u64 (v : Int) ((v : Int) - 1) = ((v &&& (v - 1) : Nat) : Int) := by
  have e : (v : Int) - 1 = ((v - 1 : Nat) : Int) := by omega
  rw [e, and_u hv (by omega)]

/-- what numbers the law lays. -/
def laid (V : Nat → Nat) (k : Nat) : Nat → Nat := fun i => V i / 2 ^ (64 - k)

set_option maxHeartbeats 1600000 in
theorem walk (a : Int) (A : Option Addr) (n c : Nat) (V : Nat → Nat) (w : World) (ho : Wds w w.heap.size A n V) :
    Calls Try.prog 7 #[.int .i64 a, .slice A n c] w fun e w' => e = .returned (.bool true) ∧ Below w.heap.size w w' := by
  have HF := Lib.hid (first_any w)
  obtain ⟨k, hk, hk1, hk64⟩ := width_num a
  have HK := Lib.hid hk
  obtain ⟨m, hm, hmn, hm80⟩ : ∃ m : Nat, min (n : Int) 100 = (m : Int) ∧ m ≤ n ∧ m ≤ 100 := ⟨min n 100, by omega, by omega, by omega⟩
  have HM := Lib.hid hm
  have HN : ∀ W, Hid (Calls Try.prog 10 #[.int .i64 (k : Int), .int .i64 (m : Int)] W (NewFull W k m)) := fun W => Lib.hid (new_full k m hk1 hk64 (by omega) W)
  clear hk hm
  go_enter Try.func7, Try.ntmps7
  go_wp2_with fail
  refine HF.out.mono ?_
  rintro e w1 ⟨rfl, hb1⟩
  go_wp2_with fail
  rw [HK.out, HM.out]
  refine (HN _).out.mono ?_
  rintro e w2 ⟨g, gs, rfl, hg, hgs, hb2, ws, hp⟩
  have hB2 : Below w.heap.size w w2 := hb1.trans (hb2.mono hb1.size)
  have hgB : w.heap.size ≤ g := Nat.le_trans hb1.size hg
  have hgsB : w.heap.size ≤ gs := Nat.le_trans hb1.size hgs
  clear hb1 hb2 hg hgs
  go_wp2_with fail
  go_loopw [9, 35] (fun s v wr => ∃ (i : Nat) (x : Nat → Nat) (ws : List Nat), i ≤ m ∧ v = .int .i64 (i : Int) ∧ s = .int .i64 ((Pl.sumPop (laid V k) i : Nat) : Int) ∧ Full wr g gs k m ws x ∧ (∀ j, j < i → x j = laid V k j) ∧ Below w.heap.size w wr) (fun _ v _ => m - (intOf v).toNat)
  case atStart => exact ⟨0, _, _, Nat.zero_le _, rfl, rfl, hp, fun j hj => absurd hj (by omega), hB2⟩
  case round =>
    clear hp hB2
    obtain ⟨i, x, ws, hi, rfl, rfl, hp, hx, hB⟩ := hrel
    obtain ⟨s, hs⟩ : ∃ s, Pl.sumPop (laid V k) i = s := ⟨_, rfl⟩
    have hs1 : s ≤ 6400 := by rw [← hs]; have := Pl.sumPop_le (laid V k) i; omega
    rw [hs]
    by_cases hlt : i < m
    · obtain ⟨ad, rfl, had, hV, hV64⟩ := ho.below hB i (by omega)
      obtain ⟨y, hy⟩ : ∃ y, laid V k i = y := ⟨_, rfl⟩
      have hv := cut_lt hV64 hk64
      have hy1 : V i / 2 ^ (64 - k) = y := hy
      have HS := Lib.hid (show Pl.sumPop (laid V k) (i + 1) = s + Pl.pop y by rw [← hs, ← hy]; rfl)
      have HY := Lib.hid hy
      have HY1 := Lib.hid hy1
      rw [hy1] at hv
      have HX := Lib.hid hx
      have hy64 : y < 2 ^ 64 := Nat.lt_of_lt_of_le hv (Pl.two_pow_le_64 hk64)
      clear hy hy1 hx ho hs
      go_wp2_with fail
      rw [shr_u, HY1.out]
      refine (hp.set_ i y hlt hv).mono ?_
      rintro e w4 ⟨rfl, ws4, hp4, hg4⟩
      have hB4 : Below w.heap.size w w4 := hB.trans (below_of_grownBy hg4 hgsB hB.size)
      clear hp hB hg4
      go_wp2_with fail
      obtain ⟨wo, rfl⟩ : ∃ wo : World, wo = w4 := ⟨_, rfl⟩
      go_loop [9, 11] (fun u v => ∃ z t : Nat, z < 2 ^ 64 ∧ t + Pl.pop z = s + Pl.pop y ∧ u = .int .i64 (t : Int) ∧ v = .int .u64 (z : Int)) (fun _ v => (intOf v).toNat)
      case atStart => exact ⟨y, s, hy64, rfl, rfl, rfl⟩
      case round =>
        obtain ⟨z, t, hz, ht, rfl, rfl⟩ := hrel
        have hpy := Pl.pop_le y
        by_cases h0 : 0 < z
        · have hl := Lib.hid (Pl.pop_low h0 hz)
          have hL := Lib.hid (low_num h0 hz)
          have hlt := Lib.hid (Pl.low_lt h0)
          have hle : t ≤ 6464 := by omega
          have HT := Lib.hid ht
          have HZ := Lib.hid hz
          have hz1 : (z : Int) ≤ 18446744073709551615 := by omega
          clear ht hz
          go_wp2_with fail
          go_round
          case rel => exact ⟨z &&& (z - 1), t + 1, Nat.lt_trans hlt.out HZ.out, by have := hl.out; have := HT.out; omega, by go_num, by rw [hL.out]⟩
          case measure =>
            rw [hL.out]
            have := hlt.out
            simp only [intOf]
            omega
        · obtain rfl : z = 0 := by omega
          rw [Pl.pop_zero] at ht
          have HT := Lib.hid ht
          clear ht
          go_wp2_with fail
          go_roundw
          case rel =>
            refine ⟨i + 1, _, ws4, by omega, by go_num, ?_, hp4, fun j hj => ?_, hB4⟩
            · rw [HS.out, ← HT.out]
              rfl
            · show (if j = i then y else x j) = _
              by_cases h : j = i
              · rw [if_pos h, h, HY.out]
              · rw [if_neg h]; exact HX.out j (by omega)
          case measure => simp [intOf]; omega
    · have hmi : i = m := by omega
      subst hmi
      have hL := hp.short
      have HSu := Lib.hid (hp.holds.sums.trans ((Pl.sumPop_congr hx).trans hs))
      have hlen := hp.holds.len
      have hj : justB ws (k * i) = true := by rw [Nat.mul_comm]; exact just_of_holds hp.holds
      obtain ⟨L, hLL⟩ : ∃ L, ws.length = L := ⟨_, rfl⟩
      have HC := Lib.hid (words_any hp.pk hL)
      have HX := Lib.hid hx
      rw [hLL] at hL hlen
      have HL := Lib.hid hLL
      have HLen := Lib.hid hlen
      clear hx hs hLL hlen
      go_wp2_with fail
      refine HC.out.mono ?_
      rw [show CopyPost wr ws = CopyPost wr ws from rfl]
      rintro e w3 ⟨g3, rfl, hg3, hl3, hb3⟩
      have hp3 := hp.below hb3 hp.pk.head.lt hp.pk.body.lt
      have hB3 : Below w.heap.size w w3 := hB.trans (hb3.mono hB.size)
      rw [HL.out]
      clear hp hb3 hB
      go_wp2_with fail
      go_loopw [9, 63] (fun u v wr => ∃ (l r : Nat), l ≤ L ∧ v = .int .i64 (l : Int) ∧ u = .int .i64 (r : Int) ∧ r + Pl.sumPop (fun j => ws.getD j 0) l = s ∧ wr = w3) (fun _ v _ => L - (intOf v).toNat)
      case atStart => exact ⟨0, s, Nat.zero_le _, rfl, rfl, rfl, rfl⟩
      case round =>
        obtain ⟨l, r, hl, rfl, rfl, hr, rfl⟩ := hrel
        by_cases hlt2 : l < L
        · have hcell := (hl3.cell l).trans (wcells_at ws l (by rw [HL.out]; exact hlt2))
          have hy64 : ws.getD l 0 < 2 ^ 64 := hp3.holds.small.at_ l
          have hmono := Pl.sumPop_mono (fun j => ws.getD j 0) (l + 1) (L - (l + 1))
          rw [show l + 1 + (L - (l + 1)) = L by omega] at hmono
          have hsum := HSu.out
          rw [HL.out] at hsum
          rw [hsum] at hmono
          have hstep : Pl.sumPop (fun j => ws.getD j 0) (l + 1) = Pl.sumPop (fun j => ws.getD j 0) l + Pl.pop (ws.getD l 0) := rfl
          rw [hstep] at hmono
          obtain ⟨y, hy⟩ : ∃ y, ws.getD l 0 = y := ⟨_, rfl⟩
          rw [hy] at hcell hy64 hmono hstep
          have hr2 : r = s - Pl.sumPop (fun j => ws.getD j 0) l := by omega
          have hry : Pl.pop y ≤ r := by omega
          have hr6400 : r ≤ 6400 := by omega
          have HR := Lib.hid hr
          have HStep := Lib.hid hstep
          have hpy := Pl.pop_le y
          clear hr hsum hmono hstep hy hr2
          go_wp2_with fail
          go_loop [9, 14] (fun u v => ∃ z t : Nat, z < 2 ^ 64 ∧ t + Pl.pop y = r + Pl.pop z ∧ u = .int .i64 (t : Int) ∧ v = .int .u64 (z : Int)) (fun _ v => (intOf v).toNat)
          case atStart => exact ⟨y, r, hy64, rfl, rfl, rfl⟩
          case round =>
            obtain ⟨z, t, hz, ht, rfl, rfl⟩ := hrel
            have hpz := Pl.pop_le z
            by_cases h0 : 0 < z
            · have hl := Pl.pop_low h0 hz
              have hL := Lib.hid (low_num h0 hz)
              have hlow := Lib.hid (Pl.low_lt h0)
              have ht1 : 1 ≤ t := by omega
              have ht2 : t ≤ 6464 := by omega
              have hnew : t - 1 + Pl.pop y = r + Pl.pop (z &&& (z - 1)) := by omega
              have HT := Lib.hid hnew
              have HZ := Lib.hid hz
              have hz1 : (z : Int) ≤ 18446744073709551615 := by omega
              clear ht hz hl hnew
              go_wp2_with fail
              go_round
              case rel => exact ⟨z &&& (z - 1), t - 1, Nat.lt_trans hlow.out HZ.out, HT.out, by rw [show ((t - 1 : Nat) : Int) = (t : Int) - 1 by omega], by rw [hL.out]⟩
              case measure =>
                rw [hL.out]
                have := hlow.out
                simp only [intOf]
                omega
            · obtain rfl : z = 0 := by omega
              rw [Pl.pop_zero] at ht
              have HT := Lib.hid ht
              clear ht
              go_wp2_with fail
              go_roundw
              case rel =>
                refine ⟨l + 1, t, by omega, by go_num, rfl, ?_, by trivial⟩
                rw [HStep.out]
                have := HR.out
                have := HT.out
                omega
              case measure => simp [intOf]; omega
        · have hlL : l = L := by omega
          subst hlL
          have hsum := HSu.out
          rw [HL.out] at hsum
          have hr0 : r = 0 := by omega
          subst hr0
          have hmk : 0 ≤ (i : Int) * (k : Int) := by rw [← Int.natCast_mul]; omega
          have hmk2 : (i : Int) * (k : Int) ≤ 6400 := by
            rw [← Int.natCast_mul]
            have : i * k ≤ 100 * 64 := Nat.mul_le_mul hm80 hk64
            omega
          have hlast : ((l : Int) != ((i : Int) * (k : Int) + 63) / 64) = false := by
            rw [bne_eq_false_iff_eq, ← Int.natCast_mul]
            have := HLen.out
            omega
          have hfr := from_any k i g3 l ws hk1 hk64 (by omega) wr (Src.of_lies hl3) hj
          rw [HL.out] at hfr
          have HFr := Lib.hid hfr
          clear hr hsum hj hfr
          go_wp2_with fail
          refine HFr.out.mono ?_
          rintro e w5 ⟨g5, gs5, rfl, hg5, hgs5, hp5, hb5⟩
          have hq : Full w5 g5 gs5 k i ws x := ⟨hp5, hp3.holds, hp3.few⟩
          have hp6 := hp3.below hb5 hp3.pk.head.lt hp3.pk.body.lt
          have hB6 : Below w.heap.size w w5 := hB3.trans (hb5.mono hB3.size)
          clear hp5 hb5 hp3 hB3 hl3
          go_wp2_with fail
          go_loopw [100] (fun v wr => ∃ j : Nat, j ≤ i ∧ v = .int .i64 (j : Int) ∧ wr = w5) (fun v _ => i - (intOf v).toNat)
          case atStart => exact ⟨0, Nat.zero_le _, rfl, rfl⟩
          case round =>
            obtain ⟨j, hj, rfl, rfl⟩ := hrel
            by_cases hlt3 : j < i
            · have G1 := Lib.hid (hq.get j hlt3)
              have G2 := Lib.hid (hp6.get j hlt3)
              clear hlast
              go_wp2_with fail
              refine G1.out.mono ?_
              rintro e w' ⟨rfl, rfl⟩
              go_wp2_with fail
              refine G2.out.mono ?_
              rintro e w' ⟨rfl, rfl⟩
              go_wp2_with fail
              go_roundw
              case rel => exact ⟨j + 1, by omega, by go_num, by trivial⟩
              case measure => simp [intOf]; omega
            · clear hlast
              go_wp2_with fail
              go_ret
              exact ⟨rfl, hB6⟩

theorem own : ownKnob Try.prog.godebug = none := by kernel_rfl
theorem laidOut : laidOutB Try.prog = true := by kernel_rfl

set_option maxRecDepth 100000 in
theorem lifted (os : Os) (started : os.Started) (H : Type) (enc : TypeId × Value → H) :
    ReturnsInHanded {} Try.checked os 7 .any (Rows.packWordsSpec.pre6 enc Try.prog Try.f7 Rows.packWordsRow.domain false) (Rows.packWordsSpec.post enc Try.prog Try.f7 false true false false) := by
  refine returnsInHanded_of_change (C := Try.checked) own started (by kernel_rfl) Try.func7
    (ChangeSpec.witness6 (enc := enc) (C := Try.checked) false ⟨#[], #[.int .i64 0, .slice none 0 0], []⟩ 8 (by kernel_rfl) (by kernel_rfl) (by kernel_rfl) (by kernel_rfl)) ?_
  intro W base args ds gs before hval0 hW hcnd _
  have hval : ∀ (j : Nat) t v, Try.f7.params[j]? = some t → args[j]? = some v → Value.okWide Try.prog W .any base t v := hval0
  have hW' := hW
  obtain ⟨p, q, hA0, hV, rfl, hfz, hnd⟩ := hW
  have hA : DataW.TrodAll enc Try.prog W 0 (fun _ => true) true Try.f7.params.toList args.toList ds p := hA0
  rw [Try.params7] at hA hval
  obtain ⟨v0, v1, d0, d1, p0, p1, rfl, rfl, rfl, h0, h1⟩ := trodAll_two hA
  obtain ⟨rfl, rfl⟩ := trodVars_none hV
  obtain ⟨a, rfl, rfl, rfl, wa⟩ := open_int Try.underlying3 (hval 0 3 v0 rfl rfl) h0
  obtain ⟨A, n, c, V, rfl, hn, _, ho⟩ := open_words (hval 1 32 v1 rfl rfl) h1
  clear hA0 hval0
  refine (walk a A n c V W ho).mono fun e W' ⟨he, hg⟩ => ?_
  subst he
  exact ⟨_, rfl, law_post laidOut rfl rfl rfl (by rw [Try.params7]; decide +kernel) hW' hg⟩

/-- The statement. -/
theorem proved : Rows.PackWordsSaid :=
  OpenClaim.holds_of_wide 7 Try.f7 rfl rfl rfl rfl rfl rfl rfl ⟨rfl, rfl, rfl, rfl, rfl⟩ rfl rfl rfl rfl rfl (by kernel_rfl) Try.func7 (by kernel_rfl)
    (of_decide_eq_true (by kernel_rfl)) (by unfold Func.isWrapper; first | (rw [if_pos (by decide +kernel)]; kernel_rfl) | (rw [if_neg (by decide +kernel)]; exact ⟨rfl, rfl⟩))
    (fun os started H enc _ => lifted os started H enc)
#print axioms proved
end Go.Proofs.Ytlpoingajmogkaa.packWords
