/- The contracts of highsOf and of words of package sparse. -/
import Derived.Test.YtmcoehimjfgakaaSpCalls
import Derived.Test.YtmcoehimjfgakaaSpWords
namespace Go.Proofs.Ytmcoehimjfgakaa
open Go.RowKit

theorem Hs.down {w : World} {B B' h1 h2 c : Nat} {ws : List Nat} {f : Nat → Bool} (h : Hs w B h1 h2 c ws f) (hB : B' ≤ B) : Hs w B' h1 h2 c ws f := by
  obtain ⟨⟨gw, av, h1⟩, gw2, av2, ws2, f2, h2⟩ := h
  exact ⟨⟨gw, av, h1.down hB⟩, gw2, av2, ws2, f2, h2.down hB⟩
theorem Hs.agree {w : World} {B h1 h2 c : Nat} {ws : List Nat} {f f' : Nat → Bool} (h : Hs w B h1 h2 c ws f) (e : ∀ j, j < c → f j = f' j) : Hs w B h1 h2 c ws f' := by
  obtain ⟨⟨gw, av, h1⟩, h2⟩ := h
  exact ⟨⟨gw, av, h1.agree e⟩, h2⟩

/-- what highsOf leaves. -/
def HighsOf (w : World) (c : Nat) (ws : List Nat) (e : Ending) (w' : World) : Prop :=
  ∃ h1 h2 : Nat, e = .returned (.tuple #[hv h1 h2, .int .i64 0]) ∧ Hs w' w.heap.size h1 h2 c ws (Pl.bitAt ws) ∧ Below w.heap.size w w'

theorem just_len {ws : List Nat} {c : Nat} (h : justB ws c = true) : ws.length = (c + 63) / 64 := by
  unfold justB at h
  simp only [Bool.and_eq_true, decide_eq_true_eq] at h
  exact h.1
theorem just_nil : justB [] 0 = true := by decide

set_option maxRecDepth 100000 in
set_option maxHeartbeats 1600000 in
theorem highsOf_any (c cp : Nat) (A : Option Addr) (ws : List Nat) (hc : c ≤ 4194304) (w : World) (h : Rd w A ws) (hA : A = none → ws.length = 0 ∧ cp = 0) (hcp : ws.length ≤ cp) (hs : Pl.Small ws) (hj : justB ws c = true) :
    Calls Try.prog 30 #[.int .i64 (c : Int), .slice A ws.length cp] w (HighsOf w c ws) := by
  have hl := just_len hj
  obtain ⟨L, hL⟩ : ∃ L, ws.length = L := ⟨_, rfl⟩
  have HJ := Lib.hid hj
  have HLL := Lib.hid hL
  have HV1 : ∀ W, Below w.heap.size w W → Hid (Calls Try.prog 52 #[.int .i64 (c : Int), .slice A L cp] W (VecOf W c ws)) := fun W hW => by
    rw [← hL]; exact Lib.hid (vecOf_any c cp A ws hc W (h.keep hW) hs hj)
  have HV2 : ∀ (A' : Option Addr) (c' : Nat) W, Hid (Calls Try.prog 52 #[.int .i64 0, .slice A' 0 c'] W (VecOf W 0 [])) := fun A' c' W =>
    Lib.hid (vecOf_any 0 c' A' [] (by omega) W (Rd.nil W A') (fun x hx => by cases hx) just_nil)
  have HWo : ∀ W, Hid (Calls Try.prog 25 #[.int .i64 (c : Int)] W fun e w' => e = .returned (.int .i64 (L : Int)) ∧ W = w') := fun W => by
    rw [← hL, hl]; exact Lib.hid (swordsOf_any c (by omega) W)
  rw [hL] at hcp hl hA ⊢
  clear h hj hL
  have hc3 : (c : Int) ≤ 4194304 := by omega
  have hcL : (L : Int) ≤ 65536 := by omega
  clear hl
  have em : min (c : Int) 4194304 = (c : Int) := by omega
  go_enter Try.func30, Try.ntmps30
  go_wp2_with fail
  with_reducible refine (HWo _).out.mono ?_
  rintro e w' ⟨rfl, rfl⟩
  go_wp2_with fail
  with_reducible refine (HV1 _ (below_box w _)).out.mono ?_
  rintro e w1 ⟨g1, gw1, av1, rfl, hv1, hb1⟩
  have hc0 : w1.cell? ⟨w.heap.size, 0, none⟩ = some (.pointer none) := by
    rw [hb1.cell (p := ⟨w.heap.size, 0, none⟩) (by simp)]
    exact (lies_new w 48 [.pointer none, .pointer none]).cell 0
  have hz1 := hb1.size
  rw [size_alloc] at hz1
  have hv1' := hv1.down (B' := w.heap.size + 1) (by rw [size_alloc]; omega)
  have hB1 := (below_box w (.cells #[.pointer none, .pointer none] 48)).trans (hb1.mono (by rw [size_alloc]; omega))
  clear hv1
  by_cases hcl : cp = L
  all_goals
    rcases A with _ | ad
    all_goals
      go_wp2_with fail
      with_reducible refine (HV2 _ _ _).out.mono ?_
      rintro e w2 ⟨g2, gw2, av2, rfl, hv2, hb2⟩
      have hlies : Lies w2 w.heap.size 48 [.pointer none, .pointer none] := ((lies_new w 48 [.pointer none, .pointer none]).below hb1 (by simp)).below hb2 (by omega)
      have hd0 := hlies.cell 0
      have hd1 := hlies.cell 1
      have hf0 := hlies.free 0
      have hf1 := hlies.free 1
      go_wp2_with fail
      refine bodyPost_ret (v := .tuple #[hv g1 g2, .int .i64 0]) (by unfold hv; simp [results, Try.results30, go_sem, hd0, hd1]) rfl ?_
      have hH : Hs w2 (w.heap.size + 1) g1 g2 c ws (Pl.bitAt ws) := ⟨⟨gw1, av1, hv1'.keep hb2⟩, gw2, av2, [], Pl.bitAt [], hv2.down hz1⟩
      have hH1 := hH.old (grownBy_put (g := w.heap.size) (grownBy_of_below (Below.refl w2.heap.size w2) _) 0 (.pointer (some ⟨g1, 0, none⟩))) (by omega)
      have hH2 := hH1.old (grownBy_put (g := w.heap.size) (grownBy_of_below (Below.refl _ _) _) 1 (.pointer (some ⟨g2, 0, none⟩))) (by omega)
      exact ⟨g1, g2, rfl, hH2.down (by omega), ((hB1.trans (hb2.mono hB1.size)).setCell (Nat.le_refl _) _).setCell (Nat.le_refl _) _⟩

theorem add_twice (a : Addr) (i j : Nat) : (a.add i).add j = a.add (i + j) := by
  unfold Addr.add
  by_cases hi : i = 0
  · subst hi; simp
  · by_cases hj : j = 0
    · subst hj; simp
    · rw [if_neg hi, if_neg hj, if_neg (by omega)]
      simp [Nat.add_assoc]
/-- words that are no list of so many bits. -/
def NoHighs (w : World) (e : Ending) (w' : World) : Prop := e = .returned (.tuple #[.agg #[.pointer none, .pointer none], .int .i64 10]) ∧ Below w.heap.size w w'

set_option maxRecDepth 100000 in
set_option maxHeartbeats 1600000 in
theorem highsOf_no (c cp : Nat) (A : Option Addr) (ws : List Nat) (hc : c ≤ 4194304) (w : World) (h : Rd w A ws) (hA : A = none → ws.length = 0 ∧ cp = 0) (hcp : ws.length ≤ cp) (hmax : ws.length ≤ 65536) (hs : Pl.Small ws) (hj : justB ws c = false) :
    Calls Try.prog 30 #[.int .i64 (c : Int), .slice A ws.length cp] w (NoHighs w) := by
  obtain ⟨L, hL⟩ : ∃ L, ws.length = L := ⟨_, rfl⟩
  obtain ⟨k, hk⟩ : ∃ k, (c + 63) / 64 = k := ⟨_, rfl⟩
  have HWo : ∀ W, Hid (Calls Try.prog 25 #[.int .i64 (c : Int)] W fun e w' => e = .returned (.int .i64 (k : Int)) ∧ W = w') := fun W => by
    rw [← hk]; exact Lib.hid (swordsOf_any c (by omega) W)
  have hc3 : (c : Int) ≤ 4194304 := by omega
  have em : min (c : Int) 4194304 = (c : Int) := by omega
  have hlies0 := lies_new w 48 [.pointer none, .pointer none]
  by_cases hlk : k < L
  · -- too many
    have em2 : min (k : Int) (L : Int) = (k : Int) := by omega
    obtain ⟨ad, rfl, _, _⟩ := h 0 (by omega)
    have htl : (ws.take k).length = k := by rw [List.length_take]; omega
    have hts : Pl.Small (ws.take k) := fun x hx => hs x (List.mem_of_mem_take hx)
    have hn : ∀ ws' : List Nat, ws'.length = L - k → justB ws' 0 = false := fun ws' h' => by
      unfold justB
      have : ¬ ws'.length = 0 := by omega
      simp [this]
    have hrest : ∀ W, Below w.heap.size w W → Rd W (some (ad.add k)) (ws.drop k) := fun W hW j hj' => by
      rw [List.length_drop] at hj'
      obtain ⟨ad', e, h1, h2⟩ := (h.keep hW) (k + j) (by omega)
      cases e
      refine ⟨_, rfl, by rw [add_block_]; exact h1, ?_⟩
      have e2 : (ad.add k).add j = ad.add (k + j) := add_twice ad k j
      have e3 : (ws.drop k).getD j 0 = ws.getD (k + j) 0 := by
        rw [List.getD_eq_getElem?_getD, List.getD_eq_getElem?_getD, List.getElem?_drop]
      rw [e2, e3]
      exact h2
    have HN2 : ∀ W, Below w.heap.size w W → Hid (Calls Try.prog 52 #[.int .i64 0, .slice (some (ad.add k)) (L - k) (cp - k)] W fun e w' => e = .returned (.tuple #[.pointer none, .int .i64 10]) ∧ W = w') := fun W hW => by
      have hdl : (ws.drop k).length = L - k := by rw [List.length_drop, hL]
      rw [← hdl]
      exact Lib.hid (vecOf_no 0 (cp - k) _ (ws.drop k) (by omega) W (hrest W hW) (by omega) (hn _ hdl))
    cases hj2 : justB (ws.take k) c with
    | false =>
      have HN1 : ∀ W, Below w.heap.size w W → Hid (Calls Try.prog 52 #[.int .i64 (c : Int), .slice (some ad) k cp] W fun e w' => e = .returned (.tuple #[.pointer none, .int .i64 10]) ∧ W = w') := fun W hW => by
        have e := vecOf_no c cp (some ad) (ws.take k) hc W ((h.keep hW).take k) (by omega) hj2
        rw [htl] at e
        exact Lib.hid e
      rw [hL] at hcp hmax hA ⊢
      clear h hrest hn hj hj2 htl hts hL hk
      have hd0 := hlies0.cell 0
      have hd1 := hlies0.cell 1
      have hf0 := hlies0.free 0
      have hf1 := hlies0.free 1
      go_enter Try.func30, Try.ntmps30
      go_wp2_with fail
      with_reducible refine (HWo _).out.mono ?_
      rintro e w' ⟨rfl, rfl⟩
      go_wp2_with fail
      with_reducible refine (HN1 _ (below_box w _)).out.mono ?_
      rintro e w' ⟨rfl, rfl⟩
      go_wp2_with fail
      refine bodyPost_ret (v := .tuple #[.agg #[.pointer none, .pointer none], .int .i64 10]) (by simp [results, Try.results30, go_sem, hd0, hd1]) rfl ?_
      exact ⟨rfl, below_box w _⟩
    | true =>
      have HV1 : ∀ W, Below w.heap.size w W → Hid (Calls Try.prog 52 #[.int .i64 (c : Int), .slice (some ad) k cp] W (VecOf W c (ws.take k))) := fun W hW => by
        have e := vecOf_any c cp (some ad) (ws.take k) hc W ((h.keep hW).take k) hts hj2
        rw [htl] at e
        exact Lib.hid e
      rw [hL] at hcp hmax hA ⊢
      have hne : (cp : Int) ≠ (k : Int) := by omega
      clear h hrest hn hj hj2 htl hts hL hk
      go_enter Try.func30, Try.ntmps30
      go_wp2_with fail
      with_reducible refine (HWo _).out.mono ?_
      rintro e w' ⟨rfl, rfl⟩
      go_wp2_with fail
      with_reducible refine (HV1 _ (below_box w _)).out.mono ?_
      rintro e w1 ⟨g1, gw1, av1, rfl, hv1, hb1⟩
      have hlies := hlies0.below hb1 (by simp)
      have hd0 := hlies.cell 0
      have hd1 := hlies.cell 1
      have hf0 := hlies.free 0
      have hf1 := hlies.free 1
      have hB1 := (below_box w (.cells #[.pointer none, .pointer none] 48)).trans (hb1.mono (by rw [size_alloc]; omega))
      clear hv1
      go_wp2_with fail
      with_reducible refine (HN2 _ hB1).out.mono ?_
      rintro e w' ⟨rfl, rfl⟩
      go_wp2_with fail
      refine bodyPost_ret (v := .tuple #[.agg #[.pointer none, .pointer none], .int .i64 10]) (by simp [results, Try.results30, go_sem, hd0, hd1]) rfl ?_
      exact ⟨rfl, (hB1.setCell (Nat.le_refl _) _).setCell (Nat.le_refl _) _⟩
  · have em2 : min (k : Int) (L : Int) = (L : Int) := by omega
    have em3 : min (k : Int) 0 = 0 := by omega
    have HN1 : ∀ W, Below w.heap.size w W → Hid (Calls Try.prog 52 #[.int .i64 (c : Int), .slice A L cp] W fun e w' => e = .returned (.tuple #[.pointer none, .int .i64 10]) ∧ W = w') := fun W hW => by
      rw [← hL]; exact Lib.hid (vecOf_no c cp A ws hc W (h.keep hW) (by omega) hj)
    rw [hL] at hcp hmax hA ⊢
    clear h hj hL hk
    have hd0 := hlies0.cell 0
    have hd1 := hlies0.cell 1
    have hf0 := hlies0.free 0
    have hf1 := hlies0.free 1
    rcases A with _ | ad
    all_goals
      try obtain ⟨rfl, rfl⟩ := hA rfl
      go_enter Try.func30, Try.ntmps30
      go_wp2_with fail
      with_reducible refine (HWo _).out.mono ?_
      rintro e w' ⟨rfl, rfl⟩
      go_wp2_with fail
      with_reducible refine (HN1 _ (below_box w _)).out.mono ?_
      rintro e w' ⟨rfl, rfl⟩
      go_wp2_with fail
      refine bodyPost_ret (v := .tuple #[.agg #[.pointer none, .pointer none], .int .i64 10]) (by simp [results, Try.results30, go_sem, hd0, hd1]) rfl ?_
      exact ⟨rfl, below_box w _⟩
end Go.Proofs.Ytmcoehimjfgakaa
