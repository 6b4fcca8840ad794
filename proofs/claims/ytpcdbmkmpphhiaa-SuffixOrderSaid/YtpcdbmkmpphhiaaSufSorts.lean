/- The walk of colophonlaw09.SuffixSorts, over what package suffix answers (SufI). -/
import Derived.Test.YtpcdbmkmpphhiaaSufI
namespace Go.Proofs.Ytpcdbmkmpphhiaa
open Go.RowKit

theorem its_small {w : World} {B : Nat} {A : Option Addr} {n : Nat} {V : Nat → Int} (h : Its w B A n V) : ∀ i, i < n → -9223372036854775808 ≤ V i ∧ V i ≤ 9223372036854775807 := fun i hi => by
  obtain ⟨_, _, _, _, h1⟩ := h i hi
  exact h1
theorem isSA_small {V : Nat → Int} {n : Nat} {s : Nat → Nat} (h : IsSA V n s) (hn : n ≤ 4194304) : ∀ i, i < n → -9223372036854775808 ≤ ((s i : Nat) : Int) ∧ ((s i : Nat) : Int) ≤ 9223372036854775807 := fun i hi => by
  have := h.1 i hi
  omega

set_option maxRecDepth 100000 in
set_option maxHeartbeats 3200000 in
theorem sufSorts_walk (I : SufI) (A : Option Addr) (n c : Nat) (V : Nat → Int) (al : Int) (w : World) (hn : n ≤ maxLen) (hA : A = none → n = 0 ∧ c = 0) (ho : Its w w.heap.size A n V) (hal : (Lit.int .i64 al).wf = true) (hr : n * 8 ≤ 140737488351232) :
    Calls Try.prog 3 #[.slice A n c, .int .i64 al] w fun e w' => e = .returned (.bool true) ∧ Below w.heap.size w w' := by
  have HI := Lib.hid I
  have HO := Lib.hid ho
  have HF := Lib.hid (sfirst_any I w)
  have HNm := Lib.hid hn
  have HA := Lib.hid hA
  have HSml := Lib.hid (its_small ho)
  have hnl : n ≤ 17592186043904 := by omega
  have HRt : Hid (∀ (W : World) (r : Bool), Below w.heap.size w W → (r = true ↔ RightS V n al) → Hid (Calls Try.prog 10 #[.slice A n c, .int .i64 al] W fun e w' => e = .returned (.bool r) ∧ W = w')) := Lib.hid fun W r hW h => Lib.hid (refRightS_is A n c V al w.heap.size W hn (ho.below hW) r h)
  have HAr : Hid (∀ (A' : Option Addr) (c' : Nat) (W : World), (A' = none → n = 0 ∧ c' = 0) → n ≤ c' → c' ≤ maxLen → Its W W.heap.size A' n V → Hid (Calls Try.prog 11 #[.slice A' n c', .int .i64 al] W (ArrayPost W n V al))) := Lib.hid fun A' c' W h1 h3 h4 h2 => Lib.hid (I.array A' n c' V al W hn (by omega) hal h1 h3 h4 h2)
  have HSm : Hid (∀ (A' : Option Addr) (c' : Nat) (W : World), Below w.heap.size w W → Its W W.heap.size A' n V → Hid (Calls Try.prog 12 #[.slice A' n c', .slice A n c] W fun e w' => ∃ b, e = .returned (.bool b) ∧ (b = true ↔ (n = n ∧ ∀ i, i < n → V i = V i)) ∧ Below W.heap.size W w')) := Lib.hid fun A' c' W h1 h2 => Lib.hid (refSame8_any A' A n n c' c V V W.heap.size w.heap.size W hn (Nat.le_refl _) h1.size h2 (ho.below h1))
  have hn8 : n * 8 ≤ 140737488355328 := by omega
  clear I ho hn hA hal hr
  go_enter Try.func3, Try.ntmps3
  go_wp2_with fail
  refine HF.out.mono ?_
  rintro e w0 ⟨rfl, hb0⟩
  clear HF
  by_cases hRS : RightS V n al
  · have HRS := Lib.hid hRS
    have H1 := HRt.out w0 true hb0 ⟨fun _ => hRS, fun _ => rfl⟩
    clear hRS
    by_cases h400 : 400 < n
    · have d1 : decide ((400 : Int) < (n : Int)) = true := decide_eq_true (by omega)
      go_wp2_with fail
      refine H1.out.mono ?_
      rintro e w' ⟨rfl, rfl⟩
      go_wp2_with fail
      go_ret
      exact ⟨rfl, hb0⟩
    · have d1 : decide ((400 : Int) < (n : Int)) = false := decide_eq_false (by omega)
      clear H1
      go_wp2_with (at_builtin; refine step_append_list_far rfl (.tmp 18) (.tmp 19) rfl rfl rfl hn8 HA.out ((HO.out.below hb0).mono_ hb0.size) ?_; intro g c' w1 hown1 hb1)
      refine (HAr.out (some ⟨g, 0, none⟩) c' w1 (fun e => by cases e) (owns_room hown1.out).1 (owns_room hown1.out).2 (by
        obtain ⟨A', c2, e, h⟩ := Its.of_own hown1.out HSml.out
        cases e
        exact h)).out.mono ?_
      rintro e w2 ⟨h1, _, hb2⟩
      obtain ⟨A2, c2, s, rfl, hs, _, hi2⟩ := h1 HRS.out
      have hB1 := hb0.trans (hb1.mono hb0.size)
      have hB2 := hB1.trans (hb2.mono hB1.size)
      have HS2 := Lib.hid hs
      have HI2 := Lib.hid hi2
      have HOwn2 := Lib.hid (ownsRow_keep hown1.out hb2)
      have H3 := HSm.out (some ⟨g, 0, none⟩) c' w2 hB2 (by
        obtain ⟨A', c2, e, h⟩ := Its.of_own HOwn2.out HSml.out
        cases e
        exact h)
      clear h1 hs hi2 hb1 hb2
      go_wp2_with fail
      refine H3.out.mono ?_
      rintro e w3 ⟨b, rfl, hbi, hb3⟩
      obtain rfl : b = true := hbi.2 ⟨by trivial, fun _ _ => by trivial⟩
      have hB3 := hB2.trans (hb3.mono hB2.size)
      have HI3 := Lib.hid (HI2.out.below hb3)
      have H4 := HRt.out w3 true hB3 ⟨fun _ => HRS.out, fun _ => rfl⟩
      have H5 := Lib.hid (refArrayS_any A n c V w3 (by omega) ((HO.out.below hB3).mono_ hB3.size))
      clear hbi hb3 H3 HI2
      go_wp2_with fail
      refine H4.out.mono ?_
      rintro e w' ⟨rfl, rfl⟩
      go_wp2_with fail
      refine H5.out.mono ?_
      rintro e w5 ⟨u, s', rfl, hs', hu, hb5⟩
      obtain ⟨A5, c5, rfl, hi5⟩ := ItsR.of_own hu (isSA_small hs' (by omega))
      have hB5 := hB3.trans (hb5.mono hB3.size)
      have HOne := Lib.hid (HS2.out.one hs')
      have H6 := Lib.hid (refSame8_any A2 A5 n n c2 c5 (fun i => ((s i : Nat) : Int)) (fun i => ((s' i : Nat) : Int)) w5.heap.size w5.heap.size w5 HNm.out (Nat.le_refl _) (Nat.le_refl _) (HI3.out.below hb5).2.2.2 hi5.2.2.2)
      clear H4 H5 hs' hu hi5 hb5
      go_wp2_with fail
      refine H6.out.mono ?_
      rintro e w6 ⟨b, rfl, hbi, hb6⟩
      obtain rfl : b = true := hbi.2 ⟨by trivial, fun i hi => by
        have h := HOne.out i hi
        show ((s i : Nat) : Int) = ((s' i : Nat) : Int)
        rw [h]⟩
      have hB6 := hB5.trans (hb6.mono hB5.size)
      clear hbi
      go_wp2_with fail
      go_ret
      exact ⟨rfl, hB6⟩
  · have HRS := Lib.hid hRS
    have H1 := HRt.out w0 false hb0 ⟨fun e => (by cases e), fun h => absurd h hRS⟩
    clear hRS
    have hd : decide ((400 : Int) < (n : Int)) = true ∨ decide ((400 : Int) < (n : Int)) = false := by
      by_cases h : (400 : Int) < (n : Int)
      · exact .inl (decide_eq_true h)
      · exact .inr (decide_eq_false h)
    rcases hd with d1 | d1
    all_goals
      go_wp2_with (first
        | (go_at_call 10; (with_reducible refine H1.out.mono ?_); rintro e w' ⟨rfl, rfl⟩)
        | (at_builtin; refine step_append_list_far rfl (.tmp 18) (.tmp 19) rfl rfl rfl hn8 HA.out ((HO.out.below hb0).mono_ hb0.size) ?_; intro g c' w1 hown1 hb1))
      refine (HAr.out (some ⟨g, 0, none⟩) c' w1 (fun e => by cases e) (owns_room hown1.out).1 (owns_room hown1.out).2 (by
        obtain ⟨A', c2, e, h⟩ := Its.of_own hown1.out HSml.out
        cases e
        exact h)).out.mono ?_
      rintro e w2 ⟨_, h1, hb2⟩
      obtain ⟨A2, c2, rfl⟩ := h1 HRS.out
      have hB1 := hb0.trans (hb1.mono hb0.size)
      have hB2 := hB1.trans (hb2.mono hB1.size)
      have HOwn2 := Lib.hid (ownsRow_keep hown1.out hb2)
      have H3 := HSm.out (some ⟨g, 0, none⟩) c' w2 hB2 (by
        obtain ⟨A', c2, e, h⟩ := Its.of_own HOwn2.out HSml.out
        cases e
        exact h)
      clear h1 hb1 hb2 H1
      go_wp2_with fail
      refine H3.out.mono ?_
      rintro e w3 ⟨b, rfl, hbi, hb3⟩
      obtain rfl : b = true := hbi.2 ⟨by trivial, fun _ _ => by trivial⟩
      have hB3 := hB2.trans (hb3.mono hB2.size)
      have H4 := HRt.out w3 false hB3 ⟨fun e => (by cases e), fun h => absurd h HRS.out⟩
      clear hbi hb3 H3
      go_wp2_with fail
      refine H4.out.mono ?_
      rintro e w' ⟨rfl, rfl⟩
      go_wp2_with fail
      go_ret
      exact ⟨rfl, hB3⟩
end Go.Proofs.Ytpcdbmkmpphhiaa
