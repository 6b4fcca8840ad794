/- The walk of colophonlaw10.LcpCommon, over what package lcp answers (LcpI). -/
import Derived.Test.YtlcgigiphlmjpaaLcpI
namespace Go.Proofs.Ytlcgigiphlmjpaa
open Go.RowKit

/-- the least of number y and the m numbers behind place x. -/
def lowP (L : Nat → Int) (y x : Nat) : Nat → Int
  | 0 => L y
  | m + 1 => min (lowP L y x m) (L (x + 1 + m))
theorem lowP_le (L : Nat → Int) (y x : Nat) : ∀ m v, v ≤ lowP L y x m ↔ v ≤ L y ∧ ∀ i, i < m → v ≤ L (x + 1 + i) := by
  intro m
  induction m with
  | zero => intro v; exact ⟨fun h => ⟨h, fun i hi => absurd hi (Nat.not_lt_zero i)⟩, fun h => h.1⟩
  | succ m ih =>
    intro v
    unfold lowP
    rw [Int.le_min, ih]
    constructor
    · rintro ⟨⟨h1, h2⟩, h3⟩
      refine ⟨h1, fun i hi => ?_⟩
      by_cases e : i = m
      · subst e
        exact h3
      · exact h2 i (by omega)
    · rintro ⟨h1, h2⟩
      exact ⟨⟨h1, fun i hi => h2 i (by omega)⟩, h2 m (by omega)⟩
theorem range_low {L : Nat → Int} {n x d : Nat} {a b : Int} (h : (if b < a then b else a) = (x : Int)) (h' : (if a < b then b else a) = ((x + 1 + d : Nat) : Int)) (hn : x + 1 + d < n) : rangeI L n a b = lowR L x d := by
  by_cases hab : a < b
  · rw [if_neg (by omega)] at h
    rw [if_pos hab] at h'
    subst h h'
    exact rangeI_up hn
  · rw [if_neg hab] at h'
    have hba : b < a := by
      apply Int.lt_of_not_ge
      intro hge
      rw [if_neg (by omega)] at h
      omega
    rw [if_pos hba] at h
    subst h h'
    rw [rangeI_symm]
    exact rangeI_up hn
theorem range_none {L : Nat → Int} {n : Nat} {a b lo hi : Int} (h : (if b < a then b else a) = lo) (h' : (if a < b then b else a) = hi) (hn : ¬ (0 ≤ lo ∧ hi < (n : Int) ∧ lo < hi)) : rangeI L n a b = -1 := by
  refine rangeI_out fun g => hn ?_
  split at h <;> split at h' <;> omega
theorem lowP_all (L : Nat → Int) (x d : Nat) : lowP L (x + 1 + d) x (d + 1) = lowR L x d := low_one fun v => by
  rw [lowP_le, lowR_le]
  exact ⟨fun h i hi => h.2 i (by omega), fun h => ⟨h d (Nat.le_refl _), fun i hi => h i (by omega)⟩⟩
set_option maxRecDepth 100000 in
set_option maxHeartbeats 3200000 in
theorem lcCommon_walk (I : LcpI) (A : Option Addr) (n c : Nat) (V : Nat → Int) (a b : Int) (w : World) (ho : ItsR w A n c V) (ha : (Lit.int .i64 a).wf = true) (hb : (Lit.int .i64 b).wf = true) :
    Calls Try.prog 5 #[.slice A n c, .int .i64 a, .int .i64 b] w fun e w' => e = .returned (.bool true) ∧ Below w.heap.size w w' := by
  have HI := Lib.hid I
  have HO := Lib.hid ho
  have HF := Lib.hid (lfirst_any I w)
  have hcl : c ≤ 9223372036854775807 := by have := ho.2.2.1; unfold maxLen at this; omega
  have hnc := ho.2.1
  obtain ⟨r, hr⟩ : ∃ r, comI V n a b = r := ⟨_, rfl⟩
  have H1 : Hid (∀ W, n ≤ 4194304 → Below w.heap.size w W → Hid (Calls Try.prog 16 #[.slice A n c, .int .i64 a, .int .i64 b] W fun e w' => e = .returned (.int .i64 r) ∧ Below W.heap.size W w')) := Lib.hid fun W hn hW => Lib.hid (by
    subst hr
    exact I.common A n c V a b W hn ha hb (ho.below hW))
  have H2 : Hid (∀ W, n ≤ 4194304 → Below w.heap.size w W → Hid (Calls Try.prog 16 #[.slice A n c, .int .i64 b, .int .i64 a] W fun e w' => e = .returned (.int .i64 r) ∧ Below W.heap.size W w')) := Lib.hid fun W hn hW => Lib.hid (by
    rw [comI_symm] at hr
    subst hr
    exact I.common A n c V b a W hn hb ha (ho.below hW))
  have HC : Hid (∀ W, n ≤ 4194304 → Below w.heap.size w W → Hid (Calls Try.prog 15 #[.slice A n c, .int .i64 a, .int .i64 b] W fun e w' => e = .returned (.int .i64 r) ∧ Below W.heap.size W w')) := Lib.hid fun W hn hW => Lib.hid (by
    subst hr
    exact refCommon_any A n c V a b w.heap.size W hn ha hb (ho.2.2.2.below hW))
  have HRg : Hid (∀ W (r : Int), n ≤ 4194304 → Below w.heap.size w W → rangeI V n a b = r → Hid (Calls Try.prog 14 #[.slice A n c, .int .i64 a, .int .i64 b] W fun e w' => e = .returned (.int .i64 r) ∧ Below W.heap.size W w')) := Lib.hid fun W r hn hW e => Lib.hid (by
    subst e
    exact I.range_ A n c V a b W hn ha hb (ho.below hW))
  have hai := i64_in ha
  have hbi := i64_in hb
  clear I ho hr
  go_enter Try.func5, Try.ntmps5
  go_wp2_with fail
  refine HF.out.mono ?_
  rintro e w0 ⟨rfl, hb0⟩
  clear HF
  by_cases hbig : (n : Int) ≤ 2000
  · have d1 : decide ((2000 : Int) < (n : Int)) = false := decide_eq_false (by omega)
    have hn4 : n ≤ 4194304 := by omega
    have C1 := H1.out w0 hn4 hb0
    go_wp2_with fail
    refine C1.out.mono ?_
    rintro e w1 ⟨rfl, hb1⟩
    have hB1 := hb0.trans (hb1.mono hb0.size)
    have C2 := HC.out w1 hn4 hB1
    clear hb0 hb1 C1
    go_wp2_with fail
    refine C2.out.mono ?_
    rintro e w2 ⟨rfl, hb2⟩
    have hB2 := hB1.trans (hb2.mono hB1.size)
    have C3 := H2.out w2 hn4 hB2
    clear hB1 hb2 C2
    go_wp2_with fail
    refine C3.out.mono ?_
    rintro e w3 ⟨rfl, hb3⟩
    have hB3 := hB2.trans (hb3.mono hB2.size)
    have C4 := H1.out w3 hn4 hB3
    clear hB2 hb3 C3
    go_wp2_with fail
    refine C4.out.mono ?_
    rintro e w4 ⟨rfl, hb4⟩
    have hB4 := hB3.trans (hb4.mono hB3.size)
    clear hB3 hb4 C4 H1 H2 HC
    obtain ⟨lo, hlo⟩ : ∃ lo, (if b < a then b else a) = lo := ⟨_, rfl⟩
    obtain ⟨hi, hhi⟩ : ∃ hi, (if a < b then b else a) = hi := ⟨_, rfl⟩
    have hlo1 : -9223372036854775808 ≤ lo ∧ lo ≤ 9223372036854775807 := by rw [← hlo]; split <;> omega
    have hhi1 : -9223372036854775808 ≤ hi ∧ hi ≤ 9223372036854775807 := by rw [← hhi]; split <;> omega
    have HLo := Lib.hid hlo
    have HHi := Lib.hid hhi
    go_upto_region 9 with (fail)
    clear hlo hhi
    by_cases hin : 0 ≤ lo ∧ hi < (n : Int) ∧ lo < hi
    · obtain ⟨h0, h1, h2⟩ := hin
      obtain ⟨x, rfl⟩ : ∃ x : Nat, lo = (x : Int) := ⟨lo.toNat, by omega⟩
      obtain ⟨y, rfl⟩ : ∃ y : Nat, hi = (y : Int) := ⟨hi.toNat, by omega⟩
      have d2 : decide ((0 : Int) ≤ (x : Int)) = true := decide_eq_true h0
      have d3 : decide ((y : Int) < (n : Int)) = true := decide_eq_true h1
      have d4 : decide ((x : Int) < (y : Int)) = true := decide_eq_true h2
      have hyn : y < n := by omega
      obtain ⟨ad, rfl, _, hcy, _, _⟩ := (HO.out.2.2.2.below hB4) y hyn
      have HV0 : Hid (V y = lowP V y x 0) := Lib.hid rfl
      generalize V y = vy at hcy HV0
      go_wp2_with fail
      go_loopw [7, 10] (fun s7 s10 wr => ∃ (k : Nat) (v : Int), x + 1 ≤ k ∧ k ≤ y + 1 ∧ s7 = .int .i64 v ∧ s10 = .int .i64 (k : Int) ∧ Hid (v = lowP V y x (k - (x + 1))) ∧ wr = w4) (fun _ s10 _ => y + 1 - (intOf s10).toNat)
      case atStart => exact ⟨x + 1, vy, by omega, by omega, rfl, by go_num, by rw [Nat.sub_self]; exact HV0, rfl⟩
      case round =>
        clear HV0 hcy
        obtain ⟨k, v, hk1, hk2, rfl, rfl, HV, rfl⟩ := hrel
        by_cases hlt : k ≤ y
        · have hkn : k < n := by omega
          have dk : decide ((k : Int) ≤ (y : Int)) = true := decide_eq_true (by omega)
          have hky : (k : Int) ≤ (y : Int) := by omega
          have hkni : (k : Int) < (n : Int) := by omega
          obtain ⟨_, e1, _, hck, _, _⟩ := (HO.out.2.2.2.below hB4) k hkn
          cases e1
          have HV1 : Hid (lowP V y x (k + 1 - (x + 1)) = min v (V k)) := Lib.hid (by
            rw [show k + 1 - (x + 1) = (k - (x + 1)) + 1 by omega, HV.out]
            show min _ (V (x + 1 + (k - (x + 1)))) = _
            rw [show x + 1 + (k - (x + 1)) = k by omega])
          generalize V k = vk at hck HV1
          obtain ⟨v', hv'⟩ : ∃ v', (if vk < v then vk else v) = v' := ⟨_, rfl⟩
          have HV2 : Hid (v' = lowP V y x (k + 1 - (x + 1))) := Lib.hid (by
            rw [HV1.out, ← hv']
            split <;> omega)
          clear HV HV1
          go_wp2_with fail
          go_roundw
          case rel => exact ⟨k + 1, v', by omega, by omega, rfl, by go_num, HV2, by trivial⟩
          case measure => simp [intOf]; omega
        · obtain rfl : k = y + 1 := by omega
          obtain ⟨d, rfl⟩ := Nat.le.dest (show x + 1 ≤ y by omega)
          have dk : decide (((x + 1 + d + 1 : Nat) : Int) ≤ ((x + 1 + d : Nat) : Int)) = false := decide_eq_false (by omega)
          have hv : rangeI V n a b = v := by
            rw [HV.out, show x + 1 + d + 1 - (x + 1) = d + 1 by omega, lowP_all]
            exact range_low HLo.out HHi.out hyn
          have C5 := HRg.out wr v hn4 hB4 hv
          clear hv HV
          go_wp2_with fail
          refine C5.out.mono ?_
          rintro e w5 ⟨rfl, hb5⟩
          have hB5 := hB4.trans (hb5.mono hB4.size)
          go_wp2_with fail
          go_ret
          exact ⟨rfl, hB5⟩
    · have C5 := HRg.out w4 (-1) hn4 hB4 (range_none HLo.out HHi.out hin)
      have hcond : decide ((0 : Int) ≤ lo) = false ∨ (decide ((0 : Int) ≤ lo) = true ∧ decide (hi < (n : Int)) = false) ∨ (decide ((0 : Int) ≤ lo) = true ∧ decide (hi < (n : Int)) = true ∧ decide (lo < hi) = false) := by
        by_cases h1 : 0 ≤ lo
        · by_cases h2 : hi < (n : Int)
          · exact .inr (.inr ⟨decide_eq_true h1, decide_eq_true h2, decide_eq_false (by omega)⟩)
          · exact .inr (.inl ⟨decide_eq_true h1, decide_eq_false h2⟩)
        · exact .inl (decide_eq_false h1)
      clear hin
      rcases hcond with e1 | ⟨e1, e2⟩ | ⟨e1, e2, e3⟩
      all_goals
        go_wp2_with fail
        refine C5.out.mono ?_
        rintro e w5 ⟨rfl, hb5⟩
        have hB5 := hB4.trans (hb5.mono hB4.size)
        go_wp2_with fail
        go_ret
        exact ⟨rfl, hB5⟩
  · have d1 : decide ((2000 : Int) < (n : Int)) = true := decide_eq_true (by omega)
    go_wp2_with fail
    go_ret
    exact ⟨rfl, hb0⟩
end Go.Proofs.Ytlcgigiphlmjpaa
