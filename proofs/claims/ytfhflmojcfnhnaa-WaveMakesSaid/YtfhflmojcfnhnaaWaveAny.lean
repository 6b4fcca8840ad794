/- All that the laws ask of the developers' package wave (wave_any). -/
import Derived.Test.YtfhflmojcfnhnaaWavSel
import Derived.Test.YtfhflmojcfnhnaaWavWalk
import Derived.Test.YtfhflmojcfnhnaaWavNew
namespace Go.Proofs.Ytfhflmojcfnhnaa
open Go.RowKit

theorem below_same {w w' : World} (h : w = w') : Below w.heap.size w w' := by
  subst h
  exact Below.refl _ _
theorem wvLevels_nil (w : World) : Calls Try.prog 14 #[.pointer none] w fun e w' => e = .returned (.slice none 0 0) ∧ w = w' := by
  go_enter Try.func14, Try.ntmps14
  go_wp2
  go_ret
  exact ⟨rfl, rfl⟩
theorem clamp0 (b : Int) : Pl.clamp 0 b = 0 := by unfold Pl.clamp; omega
theorem wave_any : WaveI WavAt VcAt where
  keep_ := by
    rintro B w w' v n m V ⟨g, gl, cl, rfl, h⟩ hs hb
    exact ⟨g, gl, cl, rfl, h.keepB hs hb⟩
  ptr := by
    rintro B w v n m V ⟨g, gl, cl, rfl, h⟩
    exact ⟨_, rfl⟩
  keepV := by
    rintro B w w' v n f ⟨g, gw, av, ws, rfl, h⟩ hs hb
    exact ⟨g, gw, av, ws, rfl, h.keepB hs hb⟩
  new := by
    intro A n c V most w hn hm ho
    by_cases hR : RightW V n most
    · obtain ⟨m, rfl⟩ : ∃ m : Nat, most = (m : Int) := ⟨most.toNat, by have := hR.1; omega⟩
      refine (wvNew_yes A n c V m w hn ho hR).mono ?_
      rintro e w' ⟨⟨g, gl, cl, rfl, h⟩, hb⟩
      exact ⟨fun _ => ⟨_, rfl, g, gl, cl, rfl, by rw [Int.toNat_natCast]; exact h⟩, fun h => absurd hR h, hb⟩
    · refine (wvNew_no A n c V most w hn ho hR).mono ?_
      rintro e w' ⟨rfl, hb⟩
      exact ⟨fun h => absurd h hR, fun _ => rfl, hb⟩
  len_ := by
    rintro B v n m V w ⟨g, gl, cl, rfl, h⟩
    exact (wvLen_any h).mono fun e w' ⟨h1, h2⟩ => ⟨h1, below_same h2⟩
  at_ := by
    rintro B v n m V i w _ ⟨g, gl, cl, rfl, h⟩
    unfold atI
    by_cases hi : 0 ≤ i ∧ i < (n : Int)
    · obtain ⟨k, rfl⟩ : ∃ k : Nat, i = (k : Int) := ⟨i.toNat, by omega⟩
      rw [if_pos hi, Int.toNat_natCast]
      exact (wvAt_in h k (by omega)).mono fun e w' ⟨h1, h2⟩ => ⟨h1, below_same h2⟩
    · rw [if_neg hi]
      exact (wvAt_out _ i (wvLen_any h) hi).mono fun e w' ⟨h1, h2⟩ => ⟨h1, below_same h2⟩
  rank_ := by
    rintro B v n m V c i w _ _ ⟨g, gl, cl, rfl, h⟩
    exact (wvRank_any h c i).mono fun e w' ⟨h1, h2⟩ => ⟨h1, below_same h2⟩
  select := by
    rintro B v n m V c k w _ _ ⟨g, gl, cl, rfl, h⟩
    exact wvSelect_any h c k
  quantile := by
    rintro B v n m V a b k w _ _ _ ⟨g, gl, cl, rfl, h⟩
    by_cases hk : k < 0 ∨ ((Pl.clamp n b - Pl.clamp (Pl.clamp n b) a : Nat) : Int) ≤ k
    · rw [clamp_quant, quant_none (Pl.clamp_le _ _) (Pl.clamp_le _ _) hk]
      exact (wvQuantile_out _ a b k h.few (wvWithin_of _ a b w (wvLen_any h)) hk).mono fun e w' ⟨h1, h2⟩ => ⟨h1, below_same h2⟩
    · obtain ⟨K, rfl⟩ : ∃ K : Nat, k = (K : Int) := ⟨k.toNat, by omega⟩
      exact (wvQuantile_in h a b K (by omega)).mono fun e w' ⟨h1, h2⟩ => ⟨h1, below_same h2⟩
  below := by
    rintro B v n m V a b c w _ _ _ ⟨g, gl, cl, rfl, h⟩
    by_cases h0 : c < 0
    · rw [lessR_none fun j hj => by have := (h.room j hj).1; omega]
      exact (wvBelow_less _ a b c h0 (wvWithin_of _ a b w (wvLen_any h))).mono fun e w' ⟨h1, h2⟩ => ⟨h1, below_same h2⟩
    · by_cases h1 : c < 2 ^ widthN m
      · exact (wvBelow_in h a b c (by omega) h1).mono fun e w' ⟨h1, h2⟩ => ⟨h1, below_same h2⟩
      · rw [clamp_less, lessR_far (Pl.clamp_le _ _) (Pl.clamp_le _ _) fun j hj => by have := (h.room j hj).2; omega]
        exact (wvBelow_far _ a b c h.few h0 (wvWithin_of _ a b w (wvLen_any h)) (wvWide_any h c false ⟨fun e => (by cases e), fun e => absurd e.2 h1⟩)).mono fun e w' ⟨h1, h2⟩ => ⟨h1, below_same h2⟩
  distinct := by
    rintro B v n m V a b w _ _ ⟨g, gl, cl, rfl, h⟩
    exact wvDistinct_any h a b
  levels := by
    rintro B v n m V w ⟨g, gl, cl, rfl, h⟩
    exact wvLevels_any h
  vlen := by
    rintro B v n f w ⟨g, gw, av, ws, rfl, h⟩
    exact (vlen_any h).mono fun e w' ⟨h1, h2⟩ => ⟨h1, below_same h2⟩
  vat := by
    rintro B v n f i w hi ⟨g, gw, av, ws, rfl, h⟩
    exact (at_in h i hi).mono fun e w' ⟨h1, h2⟩ => ⟨h1, below_same h2⟩
  nilLen := fun w => (wvLen_nil w).mono fun e w' ⟨h1, h2⟩ => ⟨h1, below_same h2⟩
  nilLevels := fun w => (wvLevels_nil w).mono fun e w' ⟨h1, h2⟩ => ⟨⟨none, 0, h1⟩, below_same h2⟩
  nilAt := fun i w => (wvAt_out (n := 0) (.pointer none) i (wvLen_nil w) (by omega)).mono fun e w' ⟨h1, h2⟩ => ⟨h1, below_same h2⟩
  nilRank := fun c i w => (wvRank_nil c i w).mono fun e w' ⟨h1, h2⟩ => ⟨h1, below_same h2⟩
  nilSelect := fun c k w => wvSelect_nil c k w
  nilQuantile := fun a b k w => by
    have hW := wvWithin_of (n := 0) (.pointer none) a b w (wvLen_nil w)
    exact (wvQuantile_out (n := 0) _ a b k (by omega) hW (by rw [clamp0, clamp0]; omega)).mono fun e w' ⟨h1, h2⟩ => ⟨h1, below_same h2⟩
  nilBelow := fun a b c w => by
    have hW := wvWithin_of (n := 0) (.pointer none) a b w (wvLen_nil w)
    by_cases h0 : c < 0
    · exact (wvBelow_less (n := 0) _ a b c h0 hW).mono fun e w' ⟨h1, h2⟩ => ⟨h1, below_same h2⟩
    · have h := wvBelow_far (n := 0) _ a b c (by omega) h0 hW (wvWide_nil c w)
      rw [clamp0, clamp0] at h
      exact h.mono fun e w' ⟨h1, h2⟩ => ⟨h1, below_same h2⟩
  nilDistinct := fun a b w => wvDistinct_nil a b w
end Go.Proofs.Ytfhflmojcfnhnaa
