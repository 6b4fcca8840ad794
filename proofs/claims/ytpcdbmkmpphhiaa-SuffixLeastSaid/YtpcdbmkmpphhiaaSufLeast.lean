/- The walk of colophonlaw09.SuffixLeast, over what package suffix answers (SufI). -/
import Derived.Test.YtpcdbmkmpphhiaaSufI
namespace Go.Proofs.Ytpcdbmkmpphhiaa
open Go.RowKit

theorem least_turned {V : Nat → Int} {n : Nat} (a b : Int) : leastI V n b a = -leastI V n a b := by
  by_cases h : 0 ≤ a ∧ a < (n : Int) ∧ 0 ≤ b ∧ b < (n : Int) ∧ a ≠ b
  · obtain ⟨x, rfl⟩ : ∃ x : Nat, a = (x : Int) := ⟨a.toNat, by omega⟩
    obtain ⟨y, rfl⟩ : ∃ y : Nat, b = (y : Int) := ⟨b.toNat, by omega⟩
    rcases sless_or (V := V) (n := n) (a := x) (b := y) (by omega) (by omega) (by omega) with h1 | h1
    · rw [leastI_less (by omega) (by omega) h1, leastI_more (by omega) (by omega) h1]
      rfl
    · rw [leastI_more (by omega) (by omega) h1, leastI_less (by omega) (by omega) h1]
  · rw [leastI_out h, leastI_out (by omega)]
    rfl
set_option maxRecDepth 100000 in
set_option maxHeartbeats 3200000 in
theorem sufLeast_walk (I : SufI) (A : Option Addr) (n c : Nat) (V : Nat → Int) (a b : Int) (w : World) (hn : n ≤ maxLen) (hA : A = none → n = 0 ∧ c = 0) (hnc : n ≤ c) (ho : Its w w.heap.size A n V) (ha : (Lit.int .i64 a).wf = true) (hb : (Lit.int .i64 b).wf = true) :
    Calls Try.prog 6 #[.slice A n c, .int .i64 a, .int .i64 b] w fun e w' => e = .returned (.bool true) ∧ Below w.heap.size w w' := by
  have HI := Lib.hid I
  have HO := Lib.hid ho
  have HA := Lib.hid hA
  have HF := Lib.hid (sfirst_any I w)
  have hnl : n ≤ 9223372036854775807 := by unfold maxLen at hn; omega
  have hLs : Hid (∀ (x y : Int) (W : World), n ≤ 4194304 → (Lit.int .i64 x).wf = true → (Lit.int .i64 y).wf = true → Below w.heap.size w W → Hid (Calls Try.prog 16 #[.slice A n c, .int .i64 x, .int .i64 y] W fun e w' => e = .returned (.int .i64 (leastI V n x y)) ∧ Below W.heap.size W w')) := Lib.hid fun x y W h1 h2 h3 hW => Lib.hid (I.least A n c V x y W h1 h2 h3 hA hnc ((ho.below hW).mono_ hW.size))
  have HLr : Hid (∀ (x y : Nat) (r : Bool) (W : World), x ≤ n → y ≤ n → (r = true ↔ SLess V n x y) → Below w.heap.size w W → Hid (Calls Try.prog 15 #[.slice A n c, .int .i64 (x : Int), .int .i64 (y : Int)] W fun e w' => e = .returned (.bool r) ∧ Below W.heap.size W w')) := Lib.hid fun x y r W h1 h2 h3 hW => Lib.hid (refLess_is A n c V x y w.heap.size W hn h1 h2 (ho.below hW) r h3)
  have HTn := Lib.hid (least_turned (V := V) (n := n) a b)
  clear I ho hA hn
  go_enter Try.func6, Try.ntmps6
  go_wp2_with fail
  refine HF.out.mono ?_
  rintro e w0 ⟨rfl, hb0⟩
  clear HF
  by_cases h2k : 2000 < n
  · have d1 : decide ((2000 : Int) < (n : Int)) = true := decide_eq_true (by omega)
    go_wp2_with fail
    go_ret
    exact ⟨rfl, hb0⟩
  · have d1 : decide ((2000 : Int) < (n : Int)) = false := decide_eq_false (by omega)
    have hn4 : n ≤ 4194304 := by omega
    by_cases hin : 0 ≤ a ∧ a < (n : Int) ∧ 0 ≤ b ∧ b < (n : Int) ∧ a ≠ b
    · obtain ⟨h1, h2, h3, h4, h5⟩ := hin
      have e1 : decide ((0 : Int) ≤ a) = true := decide_eq_true h1
      have e2 : decide ((0 : Int) ≤ b) = true := decide_eq_true h3
      have e3 : decide (a < (n : Int)) = true := decide_eq_true h2
      have e4 : decide (b < (n : Int)) = true := decide_eq_true h4
      have e5 : (a != b) = true := by simp [h5]
      obtain ⟨x, hx⟩ : ∃ x : Nat, a = (x : Int) := ⟨a.toNat, by omega⟩
      obtain ⟨y, hy⟩ : ∃ y : Nat, b = (y : Int) := ⟨b.toNat, by omega⟩
      rcases sless_or (V := V) (n := n) (a := x) (b := y) (by omega) (by omega) (by omega) with hs | hs
      · have HL := HLr.out x y true w0 (by omega) (by omega) ⟨fun _ => hs, fun _ => rfl⟩ hb0
        have hl1 : leastI V n a b = -1 := by rw [hx, hy]; exact leastI_less (by omega) (by omega) hs
        have hl2 : leastI V n b a = 1 := by rw [HTn.out, hl1]; rfl
        rw [← hx, ← hy] at HL
        clear hs hx hy h5
        have HL1 := Lib.hid hl1
        have HL2 := Lib.hid hl2
        clear hl1 hl2
        go_wp2_with fail
        refine HL.out.mono ?_
        rintro e w1 ⟨rfl, hb1⟩
        have hB1 := hb0.trans (hb1.mono hb0.size)
        have H1 := hLs.out a b w1 hn4 ha hb hB1
        rw [HL1.out] at H1
        clear HL hb1
        go_wp2_with fail
        refine H1.out.mono ?_
        rintro e w2 ⟨rfl, hb2⟩
        have hB2 := hB1.trans (hb2.mono hB1.size)
        have H2 := hLs.out b a w2 hn4 hb ha hB2
        rw [HL2.out] at H2
        go_wp2_with fail
        refine H2.out.mono ?_
        rintro e w3 ⟨rfl, hb3⟩
        have hB3 := hB2.trans (hb3.mono hB2.size)
        go_wp2_with fail
        go_ret
        exact ⟨rfl, hB3⟩
      · have HL := HLr.out x y false w0 (by omega) (by omega) ⟨fun e => (by cases e), fun h => absurd h (sless_asymm hs)⟩ hb0
        have hl1 : leastI V n a b = 1 := by rw [hx, hy]; exact leastI_more (by omega) (by omega) hs
        have hl2 : leastI V n b a = -1 := by rw [HTn.out, hl1]
        rw [← hx, ← hy] at HL
        clear hs hx hy h5
        have HL1 := Lib.hid hl1
        have HL2 := Lib.hid hl2
        clear hl1 hl2
        go_wp2_with fail
        refine HL.out.mono ?_
        rintro e w1 ⟨rfl, hb1⟩
        have hB1 := hb0.trans (hb1.mono hb0.size)
        have H1 := hLs.out a b w1 hn4 ha hb hB1
        rw [HL1.out] at H1
        clear HL hb1
        go_wp2_with fail
        refine H1.out.mono ?_
        rintro e w2 ⟨rfl, hb2⟩
        have hB2 := hB1.trans (hb2.mono hB1.size)
        have H2 := hLs.out b a w2 hn4 hb ha hB2
        rw [HL2.out] at H2
        go_wp2_with fail
        refine H2.out.mono ?_
        rintro e w3 ⟨rfl, hb3⟩
        have hB3 := hB2.trans (hb3.mono hB2.size)
        go_wp2_with fail
        go_ret
        exact ⟨rfl, hB3⟩
    · have hl1 := leastI_out (V := V) hin
      have hl2 : leastI V n b a = 0 := by rw [HTn.out, hl1]; rfl
      have HL1 := Lib.hid hl1
      have HL2 := Lib.hid hl2
      clear hl1 hl2
      have H1 := hLs.out a b w0 hn4 ha hb hb0
      rw [HL1.out] at H1
      have hcond : decide ((0 : Int) ≤ a) = false ∨ (decide ((0 : Int) ≤ a) = true ∧ decide ((0 : Int) ≤ b) = false) ∨ (decide ((0 : Int) ≤ a) = true ∧ decide ((0 : Int) ≤ b) = true ∧ decide (a < (n : Int)) = false) ∨ (decide ((0 : Int) ≤ a) = true ∧ decide ((0 : Int) ≤ b) = true ∧ decide (a < (n : Int)) = true ∧ decide (b < (n : Int)) = false) ∨ (decide ((0 : Int) ≤ a) = true ∧ decide ((0 : Int) ≤ b) = true ∧ decide (a < (n : Int)) = true ∧ decide (b < (n : Int)) = true ∧ (a != b) = false) := by
        by_cases h1 : 0 ≤ a
        · by_cases h2 : 0 ≤ b
          · by_cases h3 : a < (n : Int)
            · by_cases h4 : b < (n : Int)
              · have h5 : a = b := by omega
                exact .inr (.inr (.inr (.inr ⟨decide_eq_true h1, decide_eq_true h2, decide_eq_true h3, decide_eq_true h4, by simp [h5]⟩)))
              · exact .inr (.inr (.inr (.inl ⟨decide_eq_true h1, decide_eq_true h2, decide_eq_true h3, decide_eq_false h4⟩)))
            · exact .inr (.inr (.inl ⟨decide_eq_true h1, decide_eq_true h2, decide_eq_false h3⟩))
          · exact .inr (.inl ⟨decide_eq_true h1, decide_eq_false h2⟩)
        · exact .inl (decide_eq_false h1)
      clear hin
      rcases hcond with e1 | ⟨e1, e2⟩ | ⟨e1, e2, e3⟩ | ⟨e1, e2, e3, e4⟩ | ⟨e1, e2, e3, e4, e5⟩
      all_goals
        go_wp2_with fail
        refine H1.out.mono ?_
        rintro e w2 ⟨rfl, hb2⟩
        have hB2 := hb0.trans (hb2.mono hb0.size)
        have H2 := hLs.out b a w2 hn4 hb ha hB2
        rw [HL2.out] at H2
        go_wp2_with fail
        refine H2.out.mono ?_
        rintro e w3 ⟨rfl, hb3⟩
        have hB3 := hB2.trans (hb3.mono hB2.size)
        go_wp2_with fail
        go_ret
        exact ⟨rfl, hB3⟩
end Go.Proofs.Ytpcdbmkmpphhiaa
