/- slices.SortStableFunc over ints, at any cmp that tells which of two numbers has the lesser key: numbers exchanged, ranges, rotate. -/
import Derived.Test.YtjloepepnjcpiaaStMath
import Derived.Test.YtjloepepnjcpiaaSaMath
import Derived.Test.YtjloepepnjcpiaaIntPut
import Derived.Deep.QuietTactic
import Derived.BigQuiet
import Derived.BigRegion
namespace Go.Proofs.Ytjloepepnjcpiaa
open Go.RowKit

/-- what is asked of cmp: which of two numbers below n has the lesser key. -/
structure CmpAt (w0 : World) (s n g : Nat) (cb : Array Value) (K : Nat → Int) : Prop where
  eg : ∀ args w, (callFunc g args).run Try.prog w = .ok (.enter g args) w
  cmp : ∀ W : World, Below s w0 W → ∀ x y, x < n → y < n → ∃ v : Int, (v < 0 ↔ K x < K y) ∧ ∀ t, Calls Try.prog g (#[.int .i64 (x : Int), .int .i64 (y : Int)] ++ cb) (W.drewN t) fun e w' => e = .returned (.int .i64 v) ∧ ∃ q, w' = (W.drewN t).drewN q
/-- a row of numbers below n, as it lies in block s. -/
structure StAt (w0 w : World) (s n : Nat) (D : Nat → Nat) : Prop where
  lies : Lies w s 3 (icells (xi D) n)
  lt : ∀ i, i < n → D i < n
  below : Below s w0 w
section
variable {w0 w : World} {s n : Nat} {D : Nat → Nat}
theorem StAt.cell (h : StAt w0 w s n D) {i : Nat} (hi : i < n) : w.cell? ⟨s, i, none⟩ = some (.int .i64 ((D i : Nat) : Int)) := by
  rw [h.lies.cell]
  exact icells_at _ _ _ hi
theorem StAt.free (h : StAt w0 w s n D) (i : Nat) : w.frozen? ⟨s, i, none⟩ = false := h.lies.free i
theorem StAt.drewN (h : StAt w0 w s n D) (q : Nat) : StAt w0 (w.drewN q) s n D := ⟨h.lies.drewN q, h.lt, below_drewN' h.below q⟩
theorem StAt.swap (h : StAt w0 w s n D) {i j : Nat} (hi : i < n) (hj : j < n) : StAt w0 ((w.setCell ⟨s, i, none⟩ (.int .i64 ((D j : Nat) : Int))).setCell ⟨s, j, none⟩ (.int .i64 ((D i : Nat) : Int))) s n (swN D i j) := by
  refine ⟨?_, fun k hk => ?_, (h.below.setCell (p := ⟨s, i, none⟩) (Nat.le_refl _) _).setCell (p := ⟨s, j, none⟩) (Nat.le_refl _) _⟩
  · have h1 := (h.lies.put i (.int .i64 ((D j : Nat) : Int))).put j (.int .i64 ((D i : Nat) : Int))
    rw [icells_put, icells_put] at h1
    rw [icells_congr (U' := fun k => if k = j then ((D i : Nat) : Int) else if k = i then ((D j : Nat) : Int) else xi D k) (fun k _ => ?_)]
    · exact h1
    · unfold xi swN
      by_cases e1 : k = i
      · rw [if_pos e1]
        by_cases e2 : k = j
        · rw [if_pos e2, ← e1, e2]
        · rw [if_neg e2, if_pos e1]
      · rw [if_neg e1, if_neg e1]
        split <;> rfl
  · unfold swN
    split
    · exact h.lt j hj
    · split
      · exact h.lt i hi
      · exact h.lt k hk

set_option maxRecDepth 100000 in
set_option maxHeartbeats 1600000 in
theorem swapRange_any (c a b m : Nat) (f : Value) (hn : n ≤ 4194304) (hab : a + m ≤ b) (hb : b + m ≤ n) (hS : StAt w0 w s n D) :
    Calls Try.prog 44 #[.slice (some ⟨s, 0, none⟩) n c, .int .i64 (a : Int), .int .i64 (b : Int), .int .i64 (m : Int), f] w fun e w' => e = .returned (.tuple #[]) ∧ StAt w0 w' s n (swR D a b m) := by
  have HS := Lib.hid hS
  clear hS
  go_enter Try.func44, Try.ntmps44
  go_wp2_with fail
  go_loopw [10] (fun v wr => ∃ i : Nat, i ≤ m ∧ v = .int .i64 (i : Int) ∧ Hid (StAt w0 wr s n (swR D a b i))) (fun v _ => m - (intOf v).toNat)
  case atStart => exact ⟨0, Nat.zero_le _, rfl, Lib.hid (by rw [swR_zero]; exact HS.out)⟩
  case round =>
    clear HS
    obtain ⟨i, hi, rfl, hSt⟩ := hrel
    by_cases hlt : i < m
    · have hlti : (i : Int) < (m : Int) := by omega
      have c1 := hSt.out.cell (i := a + i) (by omega)
      have c2 := hSt.out.cell (i := b + i) (by omega)
      have f1 := hSt.out.free (a + i)
      have f2 := hSt.out.free (b + i)
      have hsw := Lib.hid (hSt.out.swap (i := a + i) (j := b + i) (by omega) (by omega))
      rw [swR_step D hab hlt] at hsw
      have w1 : IntKind.i64.wrap ((a : Int) + (i : Int)) = ((a + i : Nat) : Int) := by rw [IntWalk.i64_in _ (by omega)]; omega
      have w2 : IntKind.i64.wrap ((b : Int) + (i : Int)) = ((b + i : Nat) : Int) := by rw [IntWalk.i64_in _ (by omega)]; omega
      have l1 : a + i < n := by omega
      have l2 : b + i < n := by omega
      have lne : a + i < b + i := by omega
      have hm4 : m ≤ 4194304 := by omega
      generalize swR D a b i (a + i) = v1 at c1 hsw
      generalize swR D a b i (b + i) = v2 at c2 hsw
      generalize a + i = x at c1 f1 hsw w1 l1 lne
      generalize b + i = y at c2 f2 hsw w2 l2 lne
      have k1 : (x : Int) < (n : Int) := by omega
      have k2 : (y : Int) < (n : Int) := by omega
      clear hSt hab hb
      go_wp2_with fail
      go_big_region
      all_goals go_wp2_with fail
      all_goals go_roundw
      case rel => exact ⟨i + 1, by omega, by go_num, Lib.hid (hsw.out.drewN 1)⟩
      case measure => simp [intOf]; omega
    · have hin : i = m := by omega
      have hge : ¬ (i : Int) < (m : Int) := by omega
      rw [hin] at hSt
      go_wp2_with fail
      go_end0
      exact ⟨rfl, hSt.out⟩

set_option maxRecDepth 100000 in
set_option maxHeartbeats 1600000 in
theorem rotate_any (c a m b : Nat) (f : Value) (hn : n ≤ 4194304) (ham : a < m) (hmb : m < b) (hb : b ≤ n) (hS : StAt w0 w s n D) :
    Calls Try.prog 43 #[.slice (some ⟨s, 0, none⟩) n c, .int .i64 (a : Int), .int .i64 (m : Int), .int .i64 (b : Int), f] w fun e w' => e = .returned (.tuple #[]) ∧ StAt w0 w' s n (rotN D a m b) := by
  have HS := Lib.hid hS
  clear hS
  have e1 : IntKind.i64.wrap ((m : Int) - (a : Int)) = ((m - a : Nat) : Int) := by rw [IntWalk.i64_in _ (by omega)]; omega
  have e2 : IntKind.i64.wrap ((b : Int) - (m : Int)) = ((b - m : Nat) : Int) := by rw [IntWalk.i64_in _ (by omega)]; omega
  obtain ⟨i0, hi0⟩ : ∃ i0, m - a = i0 := ⟨_, rfl⟩
  obtain ⟨j0, hj0⟩ : ∃ j0, b - m = j0 := ⟨_, rfl⟩
  rw [hi0] at e1
  rw [hj0] at e2
  have H0 := Lib.hid (And.intro hi0 hj0)
  clear hi0 hj0
  go_enter Try.func43, Try.ntmps43
  go_wp2_with fail
  go_loopw [10, 11] (fun u v wr => ∃ p i j : Nat, p + i = m ∧ 0 < i ∧ 0 < j ∧ m + j ≤ n ∧ u = .int .i64 (i : Int) ∧ v = .int .i64 (j : Int) ∧ Hid (∃ D1, StAt w0 wr s n D1 ∧ rotN D1 p m (m + j) = rotN D a m b)) (fun u v _ => (intOf u).toNat + (intOf v).toNat)
  case atStart =>
    have h1 := H0.out.1
    have h2 := H0.out.2
    exact ⟨a, i0, j0, by omega, by omega, by omega, by omega, rfl, rfl, Lib.hid ⟨D, HS.out, by rw [show m + j0 = b by omega]⟩⟩
  case round =>
    clear HS H0 e1 e2
    obtain ⟨p, i, j, hp, hi, hj, hr, rfl, rfl, hD⟩ := hrel
    have w1 : IntKind.i64.wrap ((m : Int) - (i : Int)) = (p : Int) := by rw [IntWalk.i64_in _ (by omega)]; omega
    rcases Nat.lt_trichotomy i j with h | h | h
    · have g1 : ((i : Int) != (j : Int)) = true := by rw [bne_iff_ne]; omega
      have g1' : ¬ (i : Int) = (j : Int) := by omega
      have g2 : decide ((j : Int) < (i : Int)) = false := decide_eq_false (by omega)
      have g2' : ¬ (j : Int) < (i : Int) := by omega
      have w2 : IntKind.i64.wrap ((m : Int) + (j : Int)) = ((m + j : Nat) : Int) := by rw [IntWalk.i64_in _ (by omega)]; omega
      have w3 : IntKind.i64.wrap (((m + j : Nat) : Int) - (i : Int)) = ((p + j : Nat) : Int) := by rw [IntWalk.i64_in _ (by omega)]; omega
      have w4 : IntKind.i64.wrap ((j : Int) - (i : Int)) = ((j - i : Nat) : Int) := by rw [IntWalk.i64_in _ (by omega)]; omega
      obtain ⟨D1, hD1, hDe⟩ := hD.out
      have HC := Lib.hid ((swapRange_any c p (p + j) i f hn (by omega) (by omega) hD1).mono (R' := fun e w' => e = .returned (.tuple #[]) ∧ Hid (∃ D1, StAt w0 w' s n D1 ∧ rotN D1 p m (m + (j - i)) = rotN D a m b)) fun e w' hh => ⟨hh.1, Lib.hid ⟨_, hh.2, by
        rw [← hDe]
        have := rot_less D1 (p := p) h
        rw [hp] at this
        rw [show m + (j - i) = p + j by omega]
        exact this⟩⟩)
      clear hD1 hDe hD
      generalize m + j = t at w2 w3
      generalize p + j = t' at w3 HC
      go_wp2_with fail
      refine HC.out.mono ?_
      rintro e wq ⟨rfl, hD2⟩
      clear HC
      go_wp2_with fail
      go_roundw
      case rel => exact ⟨p, i, j - i, hp, hi, by omega, by omega, rfl, rfl, hD2⟩
      case measure => simp [intOf]; omega
    · subst h
      obtain ⟨D1, hD1, hDe⟩ := hD.out
      have HC := Lib.hid ((swapRange_any c p m i f hn (by omega) (by omega) hD1).mono (R' := fun e w' => e = .returned (.tuple #[]) ∧ Hid (StAt w0 w' s n (rotN D a m b))) fun e w' hh => ⟨hh.1, Lib.hid (by
        rw [← hDe, ← hp, ← rot_same]
        have := hh.2
        rw [← hp] at this
        exact this)⟩)
      clear hD1 hDe hD
      have g1 : ((i : Int) != (i : Int)) = false := by simp
      go_wp2_with fail
      refine HC.out.mono ?_
      rintro e wq ⟨rfl, hD2⟩
      clear HC
      go_wp2_with fail
      go_end0
      exact ⟨rfl, hD2.out⟩
    · have g1 : ((i : Int) != (j : Int)) = true := by rw [bne_iff_ne]; omega
      have g1' : ¬ (i : Int) = (j : Int) := by omega
      have g2 : decide ((j : Int) < (i : Int)) = true := decide_eq_true (by omega)
      have g2' : (j : Int) < (i : Int) := by omega
      have w4 : IntKind.i64.wrap ((i : Int) - (j : Int)) = ((i - j : Nat) : Int) := by rw [IntWalk.i64_in _ (by omega)]; omega
      obtain ⟨D1, hD1, hDe⟩ := hD.out
      have HC := Lib.hid ((swapRange_any c p m j f hn (by omega) (by omega) hD1).mono (R' := fun e w' => e = .returned (.tuple #[]) ∧ Hid (∃ D1, StAt w0 w' s n D1 ∧ rotN D1 (p + j) m (m + j) = rotN D a m b)) fun e w' hh => ⟨hh.1, Lib.hid ⟨_, hh.2, by
        rw [← hDe]
        have := rot_more D1 (p := p) h
        rw [hp] at this
        exact this⟩⟩)
      clear hD1 hDe hD
      go_wp2_with fail
      refine HC.out.mono ?_
      rintro e wq ⟨rfl, hD2⟩
      clear HC
      go_wp2_with fail
      go_roundw
      case rel => exact ⟨p + j, i - j, j, by omega, by omega, hj, hr, rfl, rfl, hD2⟩
      case measure => simp [intOf]; omega
end
end Go.Proofs.Ytjloepepnjcpiaa
