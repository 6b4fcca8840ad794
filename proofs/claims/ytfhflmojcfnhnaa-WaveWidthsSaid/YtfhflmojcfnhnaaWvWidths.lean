/- The walk of colophonlaw13.WaveWidths, over what package wave answers (WaveI). -/
import Derived.Test.YtfhflmojcfnhnaaWavI
import Derived.Test.YtfhflmojcfnhnaaRegion
namespace Go.Proofs.Ytfhflmojcfnhnaa
open Go.RowKit
/-- a fact: a slice of k. -/
def Lvs (k : Nat) : Value → World → Prop := fun v _ => ∃ (Y : Option Addr) (cy : Nat), v = .slice Y k cy
/-- a fact: these pairs, to be read. -/
def Prz (D : List (Int × Nat)) : Value → World → Prop := fun v w => ∃ (Y : Option Addr) (cy : Nat), v = .slice Y D.length cy ∧ PrsR w Y D
theorem Prz.mono {D : List (Int × Nat)} {v : Value} {w w' : World} (h : Prz D v w) (hb : Below w.heap.size w w') : Prz D v w' := let ⟨Y, cy, e, h⟩ := h; ⟨Y, cy, e, h.below hb⟩
theorem widthN_20 : widthN 20 = 5 := by
  rw [widthN_up (by decide), widthN_up (by decide), widthN_up (by decide), widthN_up (by decide), widthN_low (by decide)]
theorem widthN_4000 : widthN 4000 = 12 := by
  rw [widthN_up (by decide), widthN_up (by decide), widthN_up (by decide), widthN_up (by decide), widthN_up (by decide), widthN_up (by decide), widthN_up (by decide), widthN_up (by decide), widthN_up (by decide), widthN_up (by decide), widthN_up (by decide), widthN_low (by decide)]
def psiWd (pa pb : Addr) (g : Nat) (x0 x1 x2 y q z : Int) (u : Nat) (D : List (Int × Nat)) : Nat → Value → World → Prop
  | 0 => Is (.pointer (some pa))
  | 1 => Lvs 5
  | 2 => Is (.int .i64 5)
  | 3 => Is (.bool true)
  | 4 => Is (.bool true)
  | 5 => Is (.pointer (some pb))
  | 6 => Lvs 12
  | 7 => Is (.int .i64 12)
  | 8 => Is (.bool true)
  | 9 => Is (.bool true)
  | 10 => Is (.bool true)
  | 11 => Is (.pointer (some pa))
  | 12 => Is (.pointer (some ⟨g, 0, none⟩))
  | 13 => Is (.int .i64 x0)
  | 14 => Is (.int .i64 y)
  | 15 => Is (.pointer (some pb))
  | 16 => Is (.pointer (some ⟨g, 0, none⟩))
  | 17 => Is (.int .i64 x0)
  | 18 => Is (.int .i64 y)
  | 19 => Is (.bool true)
  | 20 => Is (.bool true)
  | 21 => Is (.bool true)
  | 22 => Is (.pointer (some pa))
  | 23 => Is (.pointer (some ⟨g, 0, none⟩))
  | 24 => Is (.int .i64 x0)
  | 25 => Is (.pointer (some ⟨g, 1, none⟩))
  | 26 => Is (.int .i64 x1)
  | 27 => Is (.int .i64 x2)
  | 28 => Is (.int .i64 (u : Int))
  | 29 => Is (.pointer (some pb))
  | 30 => Is (.pointer (some ⟨g, 0, none⟩))
  | 31 => Is (.int .i64 x0)
  | 32 => Is (.pointer (some ⟨g, 1, none⟩))
  | 33 => Is (.int .i64 x1)
  | 34 => Is (.int .i64 x2)
  | 35 => Is (.int .i64 (u : Int))
  | 36 => Is (.bool true)
  | 37 => Is (.bool true)
  | 38 => Is (.bool true)
  | 39 => Is (.pointer (some pa))
  | 40 => Is (.pointer (some ⟨g, 0, none⟩))
  | 41 => Is (.int .i64 x0)
  | 42 => Is (.pointer (some ⟨g, 1, none⟩))
  | 43 => Is (.int .i64 x1)
  | 44 => Is (.int .i64 x2)
  | 45 => Is (.int .i64 q)
  | 46 => Is (.pointer (some pb))
  | 47 => Is (.pointer (some ⟨g, 0, none⟩))
  | 48 => Is (.int .i64 x0)
  | 49 => Is (.pointer (some ⟨g, 1, none⟩))
  | 50 => Is (.int .i64 x1)
  | 51 => Is (.int .i64 x2)
  | 52 => Is (.int .i64 q)
  | 53 => Is (.bool true)
  | 54 => Is (.bool true)
  | 55 => Is (.bool true)
  | 56 => Is (.pointer (some pa))
  | 57 => Is (.pointer (some ⟨g, 0, none⟩))
  | 58 => Is (.int .i64 x0)
  | 59 => Is (.pointer (some ⟨g, 1, none⟩))
  | 60 => Is (.int .i64 x1)
  | 61 => Prz D
  | 62 => Is (.pointer (some pb))
  | 63 => Is (.pointer (some ⟨g, 0, none⟩))
  | 64 => Is (.int .i64 x0)
  | 65 => Is (.pointer (some ⟨g, 1, none⟩))
  | 66 => Is (.int .i64 x1)
  | 67 => Prz D
  | 68 => Is (.bool true)
  | 69 => Is (.bool true)
  | 70 => Is (.bool true)
  | 71 => Is (.pointer (some pa))
  | 72 => Is (.int .i64 x2)
  | 73 => Is (.pointer (some ⟨g, 0, none⟩))
  | 74 => Is (.int .i64 x0)
  | 75 => Is (.int .i64 z)
  | 76 => Is (.pointer (some pb))
  | 77 => Is (.int .i64 x2)
  | 78 => Is (.pointer (some ⟨g, 0, none⟩))
  | 79 => Is (.int .i64 x0)
  | 80 => Is (.int .i64 z)
  | 81 => Is (.bool true)
  | 82 => Is (.bool true)
  | 83 => Is (.bool true)
  | _ => fun _ _ => True
theorem psiWd_mono {pa pb : Addr} {g : Nat} {x0 x1 x2 y q z : Int} {u : Nat} {D : List (Int × Nat)} (i : Nat) (v : Value) (w w' : World) (h : psiWd pa pb g x0 x1 x2 y q z u D i v w) (hb : Below w.heap.size w w') : psiWd pa pb g x0 x1 x2 y q z u D i v w' := by
  unfold psiWd at h ⊢
  split at h <;> first | exact h | exact Prz.mono h hb

section
variable {At : Nat → World → Value → Nat → (Nat → Int) → Nat → Prop} {Vt : Nat → World → Value → Nat → (Nat → Bool) → Prop}

set_option maxRecDepth 100000 in
set_option maxHeartbeats 3200000 in
theorem wvWidths_walk (I : WaveI At Vt) (A : Option Addr) (n ca : Nat) (V : Nat → Int) (x0 x1 x2 : Int) (w : World) (ha : (Lit.int .i64 x0).wf = true) (hb : (Lit.int .i64 x1).wf = true) (hc : (Lit.int .i64 x2).wf = true) (ho : ItsR w A n ca V) :
    Calls Try.prog 9 #[.slice A n ca, .agg #[.int .i64 x0, .int .i64 x1], .int .i64 x2] w fun e w' => e = .returned (.bool true) ∧ Below w.heap.size w w' := by
  have HI := Lib.hid I
  have hbx : Below w.heap.size w (w.alloc (.cells #[.int .i64 x0, .int .i64 x1] 36)) := (Below.refl _ _).alloc (Nat.le_refl _) _
  have HL := Lib.hid (lies_new w 36 [.int .i64 x0, .int .i64 x1])
  have HO := Lib.hid (ho.below hbx)
  have HF := Lib.hid (wfirst_any I (w.alloc (.cells #[.int .i64 x0, .int .i64 x1] 36)))
  have HW := Lib.hid (And.intro hc (And.intro ha hb))
  have hnm : n ≤ maxLen := by have := ho.2.1; have := ho.2.2.1; omega
  have hnl : n ≤ 9223372036854775807 := by unfold maxLen at hnm; omega
  have hsz := size_alloc w (.cells #[.int .i64 x0, .int .i64 x1] 36)
  clear I ho hc ha hb
  by_cases hbig : 200 < n
  · have hdd : decide ((200 : Int) < (n : Int)) = true := decide_eq_true (by omega)
    clear hsz
    go_enter Try.func9, Try.ntmps9
    go_wp2_with fail
    refine HF.out.mono ?_
    rintro e w0 ⟨rfl, hb0⟩
    have hB0 := hbx.trans (hb0.mono hbx.size)
    go_wp2_with fail
    go_ret
    exact ⟨rfl, hB0⟩
  · have hdd : decide ((200 : Int) < (n : Int)) = false := decide_eq_false (by omega)
    have hn : n ≤ 200 := by omega
    have HSz := Lib.hid hsz
    obtain ⟨r, hr⟩ : ∃ r : Bool, r = true ↔ RightW V n 20 := ⟨@decide _ (Classical.propDecidable _), @decide_eq_true_iff _ (Classical.propDecidable _)⟩
    have HR := Lib.hid hr
    clear hsz hr
    go_enter Try.func9, Try.ntmps9
    go_wp2_with fail
    refine HF.out.mono ?_
    rintro e w0 ⟨rfl, hb0⟩
    have HB0 := hbx.trans (hb0.mono hbx.size)
    have HO0 := Lib.hid (HO.out.below hb0)
    have HL0 := Lib.hid (HL.out.below hb0 (by rw [HSz.out]; omega))
    have hz0 : w.heap.size < w0.heap.size := by have := hb0.size; have := HSz.out; omega
    have HRt := Lib.hid (wright_is A n ca V 20 w0 hnm (by decide) HO0.out.2.2.2 r HR.out)
    clear HF hb0 HO HL hbx
    go_wp2_with fail
    refine HRt.out.mono ?_
    rintro e w1 ⟨rfl, hb1⟩
    have HB1 := HB0.trans (hb1.mono HB0.size)
    rcases r with _ | _
    · clear HRt
      go_wp2_with fail
      go_ret
      exact ⟨rfl, HB1⟩
    · have HO1 := Lib.hid (HO0.out.below hb1)
      have HL1 := Lib.hid (HL0.out.below hb1 hz0)
      have hz1 : w.heap.size < w1.heap.size := by have := hb1.size; omega
      have HMd := Lib.hid (wmade_any HI.out A n ca V 20 w1 (by omega) (by decide) HO1.out)
      have HRw : Hid (RightW V n 20) := Lib.hid (HR.out.1 rfl)
      have HRy : Hid (RightW V n 4000) := Lib.hid ⟨by decide, by decide, HRw.out.2.2.1, fun i hi => by have := HRw.out.2.2.2 i hi; omega⟩
      clear HRt hb1 HO0 HL0 HB0 hz0 HR
      go_wp2_with fail
      refine HMd.out.mono ?_
      rintro e w2 ⟨h1, _, hb2⟩
      obtain ⟨Bm, v, rfl, hAt⟩ := h1 HRw.out
      obtain ⟨pa, rfl⟩ := HI.out.ptr hAt
      have HB2 := HB1.trans (hb2.mono HB1.size)
      have HA2 : Hid (At Bm w2 (.pointer (some pa)) n V 20) := Lib.hid hAt
      have HO2 := Lib.hid (HO1.out.below hb2)
      have HL2 := Lib.hid (HL1.out.below hb2 hz1)
      have hz2 : w.heap.size < w2.heap.size := by have := hb2.size; omega
      have HMe := Lib.hid (wmade_any HI.out A n ca V 4000 w2 (by omega) (by decide) HO2.out)
      clear h1 hAt hb2 HMd HO1 HL1 HB1 hz1
      go_wp2_with fail
      refine HMe.out.mono ?_
      rintro e w3 ⟨h1, _, hb3⟩
      obtain ⟨Bn, v, rfl, hAt⟩ := h1 HRy.out
      obtain ⟨pb, rfl⟩ := HI.out.ptr hAt
      have HB3 := HB2.trans (hb3.mono HB2.size)
      have HA3 := Lib.hid (HI.out.keep HA2.out hb3)
      have HN3 : Hid (At Bn w3 (.pointer (some pb)) n V 4000) := Lib.hid hAt
      have HL3 := Lib.hid (HL2.out.below hb3 hz2)
      have hz3 : w.heap.size < w3.heap.size := by have := hb3.size; omega
      have HCa : Hid (∀ W, Below w3.heap.size w3 W → W.cell? ⟨w.heap.size, 0, none⟩ = some (.int .i64 x0)) := Lib.hid fun W hW => (HL3.out.below hW hz3).cell 0
      have HCb : Hid (∀ W, Below w3.heap.size w3 W → W.cell? ⟨w.heap.size, 1, none⟩ = some (.int .i64 x1)) := Lib.hid fun W hW => (HL3.out.below hW hz3).cell 1
      clear h1 hAt hb3 HMe HO2 HL2 HA2 HB2 hz2
      obtain ⟨y, hy⟩ : ∃ y, atI V n x0 = y := ⟨_, rfl⟩
      obtain ⟨u, hu⟩ : ∃ u, lessR V x0 x1 x2 n = u := ⟨_, rfl⟩
      obtain ⟨q, hq⟩ : ∃ q, quantI V n x0 x1 x2 = q := ⟨_, rfl⟩
      obtain ⟨z, hz⟩ : ∃ z, selW V n x2 x0 = z := ⟨_, rfl⟩
      obtain ⟨D, hD⟩ : ∃ D, PairsOf (partL V x0 x1 n) D := ⟨_, pairs_sorted _⟩
      have HAtA : Hid (∀ W, Below w3.heap.size w3 W → Hid (Calls Try.prog 18 #[.pointer (some pa), .int .i64 x0] W fun e w' => e = .returned (.int .i64 y) ∧ Below W.heap.size W w')) := Lib.hid fun W hW => Lib.hid (by rw [← hy]; exact HI.out.at_ _ _ _ _ _ x0 W HW.out.2.1 (HI.out.keep HA3.out hW))
      have HAtN : Hid (∀ W, Below w3.heap.size w3 W → Hid (Calls Try.prog 18 #[.pointer (some pb), .int .i64 x0] W fun e w' => e = .returned (.int .i64 y) ∧ Below W.heap.size W w')) := Lib.hid fun W hW => Lib.hid (by rw [← hy]; exact HI.out.at_ _ _ _ _ _ x0 W HW.out.2.1 (HI.out.keep HN3.out hW))
      have HBlA : Hid (∀ W, Below w3.heap.size w3 W → Hid (Calls Try.prog 25 #[.pointer (some pa), .int .i64 x0, .int .i64 x1, .int .i64 x2] W fun e w' => e = .returned (.int .i64 (u : Int)) ∧ Below W.heap.size W w')) := Lib.hid fun W hW => Lib.hid (by rw [← hu]; exact HI.out.below _ _ _ _ _ x0 x1 x2 W HW.out.2.1 HW.out.2.2 HW.out.1 (HI.out.keep HA3.out hW))
      have HBlN : Hid (∀ W, Below w3.heap.size w3 W → Hid (Calls Try.prog 25 #[.pointer (some pb), .int .i64 x0, .int .i64 x1, .int .i64 x2] W fun e w' => e = .returned (.int .i64 (u : Int)) ∧ Below W.heap.size W w')) := Lib.hid fun W hW => Lib.hid (by rw [← hu]; exact HI.out.below _ _ _ _ _ x0 x1 x2 W HW.out.2.1 HW.out.2.2 HW.out.1 (HI.out.keep HN3.out hW))
      have HQuA : Hid (∀ W, Below w3.heap.size w3 W → Hid (Calls Try.prog 24 #[.pointer (some pa), .int .i64 x0, .int .i64 x1, .int .i64 x2] W fun e w' => e = .returned (.int .i64 q) ∧ Below W.heap.size W w')) := Lib.hid fun W hW => Lib.hid (by rw [← hq]; exact HI.out.quantile _ _ _ _ _ x0 x1 x2 W HW.out.2.1 HW.out.2.2 HW.out.1 (HI.out.keep HA3.out hW))
      have HQuN : Hid (∀ W, Below w3.heap.size w3 W → Hid (Calls Try.prog 24 #[.pointer (some pb), .int .i64 x0, .int .i64 x1, .int .i64 x2] W fun e w' => e = .returned (.int .i64 q) ∧ Below W.heap.size W w')) := Lib.hid fun W hW => Lib.hid (by rw [← hq]; exact HI.out.quantile _ _ _ _ _ x0 x1 x2 W HW.out.2.1 HW.out.2.2 HW.out.1 (HI.out.keep HN3.out hW))
      have HSeA : Hid (∀ W, Below w3.heap.size w3 W → Hid (Calls Try.prog 21 #[.pointer (some pa), .int .i64 x2, .int .i64 x0] W fun e w' => e = .returned (.int .i64 z) ∧ Below W.heap.size W w')) := Lib.hid fun W hW => Lib.hid (by rw [← hz]; exact HI.out.select _ _ _ _ _ x2 x0 W HW.out.1 HW.out.2.1 (HI.out.keep HA3.out hW))
      have HSeN : Hid (∀ W, Below w3.heap.size w3 W → Hid (Calls Try.prog 21 #[.pointer (some pb), .int .i64 x2, .int .i64 x0] W fun e w' => e = .returned (.int .i64 z) ∧ Below W.heap.size W w')) := Lib.hid fun W hW => Lib.hid (by rw [← hz]; exact HI.out.select _ _ _ _ _ x2 x0 W HW.out.1 HW.out.2.1 (HI.out.keep HN3.out hW))
      have HLvA : Hid (∀ W, Below w3.heap.size w3 W → Hid (Calls Try.prog 14 #[.pointer (some pa)] W fun e w' => (∃ (Y : Option Addr) (cy : Nat), e = .returned (.slice Y 5 cy)) ∧ Below W.heap.size W w')) := Lib.hid fun W hW => Lib.hid ((HI.out.levels _ _ _ _ _ W (HI.out.keep HA3.out hW)).mono fun e w' hh => by
        obtain ⟨⟨Y, cy, he, _⟩, hb⟩ := hh
        rw [widthN_20] at he
        exact ⟨⟨Y, cy, he⟩, hb⟩)
      have HDiA : Hid (∀ W, Below w3.heap.size w3 W → Hid (Calls Try.prog 27 #[.pointer (some pa), .int .i64 x0, .int .i64 x1] W fun e w' => (∃ (Y : Option Addr) (cy : Nat), e = .returned (.slice Y D.length cy) ∧ PrsR w' Y D) ∧ Below W.heap.size W w')) := Lib.hid fun W hW => Lib.hid ((HI.out.distinct _ _ _ _ _ x0 x1 W HW.out.2.1 HW.out.2.2 (HI.out.keep HA3.out hW)).mono fun e w' hh => by
        obtain ⟨⟨Y, cy, E, he, hP, hPr⟩, hb⟩ := hh
        obtain rfl := hP.one hD
        exact ⟨⟨Y, cy, he, hPr⟩, hb⟩)
      have HLvN : Hid (∀ W, Below w3.heap.size w3 W → Hid (Calls Try.prog 14 #[.pointer (some pb)] W fun e w' => (∃ (Y : Option Addr) (cy : Nat), e = .returned (.slice Y 12 cy)) ∧ Below W.heap.size W w')) := Lib.hid fun W hW => Lib.hid ((HI.out.levels _ _ _ _ _ W (HI.out.keep HN3.out hW)).mono fun e w' hh => by
        obtain ⟨⟨Y, cy, he, _⟩, hb⟩ := hh
        rw [widthN_4000] at he
        exact ⟨⟨Y, cy, he⟩, hb⟩)
      have HDiN : Hid (∀ W, Below w3.heap.size w3 W → Hid (Calls Try.prog 27 #[.pointer (some pb), .int .i64 x0, .int .i64 x1] W fun e w' => (∃ (Y : Option Addr) (cy : Nat), e = .returned (.slice Y D.length cy) ∧ PrsR w' Y D) ∧ Below W.heap.size W w')) := Lib.hid fun W hW => Lib.hid ((HI.out.distinct _ _ _ _ _ x0 x1 W HW.out.2.1 HW.out.2.2 (HI.out.keep HN3.out hW)).mono fun e w' hh => by
        obtain ⟨⟨Y, cy, E, he, hP, hPr⟩, hb⟩ := hh
        obtain rfl := hP.one hD
        exact ⟨⟨Y, cy, he, hPr⟩, hb⟩)
      have HBW : Hid (∀ W, Below w3.heap.size w3 W → Below w.heap.size w W) := Lib.hid fun W hW => HB3.trans (hW.mono HB3.size)
      clear hy hu hq hz hD HA3 HN3 HL3 hz3 HB3 HI
      generalize w.heap.size = g at HCa HCb ⊢
      go_wp2_with fail
      refine region_by_facts (Ψ := psiWd pa pb g x0 x1 x2 y q z u D) (by kernel_rfl) (by kernel_rfl) (by kernel_rfl) psiWd_mono ?_ ?_
      · intro jj hjj a wx hold hB2 hpre
        have hjn : jj < 84 := hjj
        have hj' : jj = 0 ∨ jj = 1 ∨ jj = 2 ∨ jj = 3 ∨ jj = 4 ∨ jj = 5 ∨ jj = 6 ∨ jj = 7 ∨ jj = 8 ∨ jj = 9 ∨ jj = 10 ∨ jj = 11 ∨ jj = 12 ∨ jj = 13 ∨ jj = 14 ∨ jj = 15 ∨ jj = 16 ∨ jj = 17 ∨ jj = 18 ∨ jj = 19 ∨ jj = 20 ∨ jj = 21 ∨ jj = 22 ∨ jj = 23 ∨ jj = 24 ∨ jj = 25 ∨ jj = 26 ∨ jj = 27 ∨ jj = 28 ∨ jj = 29 ∨ jj = 30 ∨ jj = 31 ∨ jj = 32 ∨ jj = 33 ∨ jj = 34 ∨ jj = 35 ∨ jj = 36 ∨ jj = 37 ∨ jj = 38 ∨ jj = 39 ∨ jj = 40 ∨ jj = 41 ∨ jj = 42 ∨ jj = 43 ∨ jj = 44 ∨ jj = 45 ∨ jj = 46 ∨ jj = 47 ∨ jj = 48 ∨ jj = 49 ∨ jj = 50 ∨ jj = 51 ∨ jj = 52 ∨ jj = 53 ∨ jj = 54 ∨ jj = 55 ∨ jj = 56 ∨ jj = 57 ∨ jj = 58 ∨ jj = 59 ∨ jj = 60 ∨ jj = 61 ∨ jj = 62 ∨ jj = 63 ∨ jj = 64 ∨ jj = 65 ∨ jj = 66 ∨ jj = 67 ∨ jj = 68 ∨ jj = 69 ∨ jj = 70 ∨ jj = 71 ∨ jj = 72 ∨ jj = 73 ∨ jj = 74 ∨ jj = 75 ∨ jj = 76 ∨ jj = 77 ∨ jj = 78 ∨ jj = 79 ∨ jj = 80 ∨ jj = 81 ∨ jj = 82 ∨ jj = 83 := by omega
        clear hjj hjn
        rcases hj' with rfl | rfl | rfl | rfl | rfl | rfl | rfl | rfl | rfl | rfl | rfl | rfl | rfl | rfl | rfl | rfl | rfl | rfl | rfl | rfl | rfl | rfl | rfl | rfl | rfl | rfl | rfl | rfl | rfl | rfl | rfl | rfl | rfl | rfl | rfl | rfl | rfl | rfl | rfl | rfl | rfl | rfl | rfl | rfl | rfl | rfl | rfl | rfl | rfl | rfl | rfl | rfl | rfl | rfl | rfl | rfl | rfl | rfl | rfl | rfl | rfl | rfl | rfl | rfl | rfl | rfl | rfl | rfl | rfl | rfl | rfl | rfl | rfl | rfl | rfl | rfl | rfl | rfl | rfl | rfl | rfl | rfl | rfl | rfl
        · refine wpOp_step rfl (fun K' hK => ?_)
          have e0 : a.tmps.getD 7 undef = .pointer (some pa) := hold 7 (not_dst (by kernel_rfl))
          have f0 := e0
          rw [Array.getD_eq_getD_getElem?] at f0
          clear hold hpre
          go_simp
          exact hK _ _ ⟨31, _, rfl, rfl, Below.refl _ _, rfl⟩
        · refine wpOp_step rfl (fun K' hK => ?_)
          have e0 : a.tmps.getD 31 undef = .pointer (some pa) := hpre 0 31 (by kernel_rfl) rfl
          have f0 := e0
          rw [Array.getD_eq_getD_getElem?] at f0
          have HC := HLvA.out wx hB2
          clear hold hpre
          go_simp
          refine HC.out.mono ?_
          rintro e w' ⟨⟨Y, cy, rfl⟩, hb'⟩
          exact hK _ _ ⟨32, _, rfl, rfl, hb', ⟨Y, cy, rfl⟩⟩
        · refine wpOp_step rfl (fun K' hK => ?_)
          obtain ⟨Y, cy, e0⟩ : Lvs 5 (a.tmps.getD 32 undef) wx := hpre 1 32 (by kernel_rfl) rfl
          have f0 := e0
          rw [Array.getD_eq_getD_getElem?] at f0
          clear hold hpre
          go_simp
          exact hK _ _ ⟨33, _, rfl, rfl, Below.refl _ _, rfl⟩
        · refine wpOp_step rfl (fun K' hK => ?_)
          have e0 : a.tmps.getD 33 undef = .int .i64 5 := hpre 2 33 (by kernel_rfl) rfl
          have f0 := e0
          rw [Array.getD_eq_getD_getElem?] at f0
          clear hold hpre
          go_simp
          exact hK _ _ ⟨34, _, rfl, rfl, Below.refl _ _, rfl⟩
        · refine wpOp_step rfl (fun K' hK => ?_)
          have e0 : a.tmps.getD 34 undef = .bool true := hpre 3 34 (by kernel_rfl) rfl
          have f0 := e0
          rw [Array.getD_eq_getD_getElem?] at f0
          clear hold hpre
          go_simp
          exact hK _ _ ⟨35, _, rfl, rfl, Below.refl _ _, rfl⟩
        · refine wpOp_wanted rfl rfl rfl (hpre 4 35 (by kernel_rfl) rfl) (fun K' hK => ?_)
          have e0 : a.tmps.getD 9 undef = .pointer (some pb) := hold 9 (not_dst (by kernel_rfl))
          have f0 := e0
          rw [Array.getD_eq_getD_getElem?] at f0
          clear hold hpre
          go_simp
          exact hK _ _ ⟨36, _, rfl, rfl, Below.refl _ _, rfl⟩
        · refine wpOp_wanted rfl rfl rfl (hpre 4 35 (by kernel_rfl) rfl) (fun K' hK => ?_)
          have e0 : a.tmps.getD 36 undef = .pointer (some pb) := hpre 5 36 (by kernel_rfl) rfl
          have f0 := e0
          rw [Array.getD_eq_getD_getElem?] at f0
          have HC := HLvN.out wx hB2
          clear hold hpre
          go_simp
          refine HC.out.mono ?_
          rintro e w' ⟨⟨Y, cy, rfl⟩, hb'⟩
          exact hK _ _ ⟨37, _, rfl, rfl, hb', ⟨Y, cy, rfl⟩⟩
        · refine wpOp_wanted rfl rfl rfl (hpre 4 35 (by kernel_rfl) rfl) (fun K' hK => ?_)
          obtain ⟨Y, cy, e0⟩ : Lvs 12 (a.tmps.getD 37 undef) wx := hpre 6 37 (by kernel_rfl) rfl
          have f0 := e0
          rw [Array.getD_eq_getD_getElem?] at f0
          clear hold hpre
          go_simp
          exact hK _ _ ⟨38, _, rfl, rfl, Below.refl _ _, rfl⟩
        · refine wpOp_wanted rfl rfl rfl (hpre 4 35 (by kernel_rfl) rfl) (fun K' hK => ?_)
          have e0 : a.tmps.getD 38 undef = .int .i64 12 := hpre 7 38 (by kernel_rfl) rfl
          have f0 := e0
          rw [Array.getD_eq_getD_getElem?] at f0
          clear hold hpre
          go_simp
          exact hK _ _ ⟨39, _, rfl, rfl, Below.refl _ _, rfl⟩
        · refine wpOp_step rfl (fun K' hK => ?_)
          have e0 : a.tmps.getD 35 undef = .bool true := hpre 4 35 (by kernel_rfl) rfl
          have f0 := e0
          rw [Array.getD_eq_getD_getElem?] at f0
          have e1 : a.tmps.getD 39 undef = .bool true := hpre 8 39 (by kernel_rfl) rfl
          have f1 := e1
          rw [Array.getD_eq_getD_getElem?] at f1
          clear hold hpre
          go_simp
          exact hK _ _ ⟨40, _, rfl, rfl, Below.refl _ _, rfl⟩
        · refine wpOp_step rfl (fun K' hK => ?_)
          have e0 : a.tmps.getD 40 undef = .bool true := hpre 9 40 (by kernel_rfl) rfl
          have f0 := e0
          rw [Array.getD_eq_getD_getElem?] at f0
          clear hold hpre
          go_simp
          exact hK _ _ ⟨41, _, rfl, rfl, Below.refl _ _, rfl⟩
        · refine wpOp_wanted rfl rfl rfl (hpre 10 41 (by kernel_rfl) rfl) (fun K' hK => ?_)
          have e0 : a.tmps.getD 7 undef = .pointer (some pa) := hold 7 (not_dst (by kernel_rfl))
          have f0 := e0
          rw [Array.getD_eq_getD_getElem?] at f0
          clear hold hpre
          go_simp
          exact hK _ _ ⟨42, _, rfl, rfl, Below.refl _ _, rfl⟩
        · refine wpOp_wanted rfl rfl rfl (hpre 10 41 (by kernel_rfl) rfl) (fun K' hK => ?_)
          have e0 : a.tmps.getD 4 undef = .pointer (some ⟨g, 0, none⟩) := hold 4 (not_dst (by kernel_rfl))
          have f0 := e0
          rw [Array.getD_eq_getD_getElem?] at f0
          clear hold hpre
          go_simp
          exact hK _ _ ⟨43, _, rfl, rfl, Below.refl _ _, rfl⟩
        · refine wpOp_wanted rfl rfl rfl (hpre 10 41 (by kernel_rfl) rfl) (fun K' hK => ?_)
          have e0 : a.tmps.getD 43 undef = .pointer (some ⟨g, 0, none⟩) := hpre 12 43 (by kernel_rfl) rfl
          have f0 := e0
          rw [Array.getD_eq_getD_getElem?] at f0
          have hc1 := HCa.out wx hB2
          clear hold hpre
          go_simp
          exact hK _ _ ⟨44, _, rfl, rfl, Below.refl _ _, rfl⟩
        · refine wpOp_wanted rfl rfl rfl (hpre 10 41 (by kernel_rfl) rfl) (fun K' hK => ?_)
          have e0 : a.tmps.getD 42 undef = .pointer (some pa) := hpre 11 42 (by kernel_rfl) rfl
          have f0 := e0
          rw [Array.getD_eq_getD_getElem?] at f0
          have e1 : a.tmps.getD 44 undef = .int .i64 x0 := hpre 13 44 (by kernel_rfl) rfl
          have f1 := e1
          rw [Array.getD_eq_getD_getElem?] at f1
          have HC := HAtA.out wx hB2
          clear hold hpre
          go_simp
          refine HC.out.mono ?_
          rintro e w' ⟨rfl, hb'⟩
          exact hK _ _ ⟨45, _, rfl, rfl, hb', rfl⟩
        · refine wpOp_wanted rfl rfl rfl (hpre 10 41 (by kernel_rfl) rfl) (fun K' hK => ?_)
          have e0 : a.tmps.getD 9 undef = .pointer (some pb) := hold 9 (not_dst (by kernel_rfl))
          have f0 := e0
          rw [Array.getD_eq_getD_getElem?] at f0
          clear hold hpre
          go_simp
          exact hK _ _ ⟨46, _, rfl, rfl, Below.refl _ _, rfl⟩
        · refine wpOp_wanted rfl rfl rfl (hpre 10 41 (by kernel_rfl) rfl) (fun K' hK => ?_)
          have e0 : a.tmps.getD 4 undef = .pointer (some ⟨g, 0, none⟩) := hold 4 (not_dst (by kernel_rfl))
          have f0 := e0
          rw [Array.getD_eq_getD_getElem?] at f0
          clear hold hpre
          go_simp
          exact hK _ _ ⟨47, _, rfl, rfl, Below.refl _ _, rfl⟩
        · refine wpOp_wanted rfl rfl rfl (hpre 10 41 (by kernel_rfl) rfl) (fun K' hK => ?_)
          have e0 : a.tmps.getD 47 undef = .pointer (some ⟨g, 0, none⟩) := hpre 16 47 (by kernel_rfl) rfl
          have f0 := e0
          rw [Array.getD_eq_getD_getElem?] at f0
          have hc1 := HCa.out wx hB2
          clear hold hpre
          go_simp
          exact hK _ _ ⟨48, _, rfl, rfl, Below.refl _ _, rfl⟩
        · refine wpOp_wanted rfl rfl rfl (hpre 10 41 (by kernel_rfl) rfl) (fun K' hK => ?_)
          have e0 : a.tmps.getD 46 undef = .pointer (some pb) := hpre 15 46 (by kernel_rfl) rfl
          have f0 := e0
          rw [Array.getD_eq_getD_getElem?] at f0
          have e1 : a.tmps.getD 48 undef = .int .i64 x0 := hpre 17 48 (by kernel_rfl) rfl
          have f1 := e1
          rw [Array.getD_eq_getD_getElem?] at f1
          have HC := HAtN.out wx hB2
          clear hold hpre
          go_simp
          refine HC.out.mono ?_
          rintro e w' ⟨rfl, hb'⟩
          exact hK _ _ ⟨49, _, rfl, rfl, hb', rfl⟩
        · refine wpOp_wanted rfl rfl rfl (hpre 10 41 (by kernel_rfl) rfl) (fun K' hK => ?_)
          have e0 : a.tmps.getD 45 undef = .int .i64 y := hpre 14 45 (by kernel_rfl) rfl
          have f0 := e0
          rw [Array.getD_eq_getD_getElem?] at f0
          have e1 : a.tmps.getD 49 undef = .int .i64 y := hpre 18 49 (by kernel_rfl) rfl
          have f1 := e1
          rw [Array.getD_eq_getD_getElem?] at f1
          clear hold hpre
          go_simp
          exact hK _ _ ⟨50, _, rfl, rfl, Below.refl _ _, rfl⟩
        · refine wpOp_step rfl (fun K' hK => ?_)
          have e0 : a.tmps.getD 41 undef = .bool true := hpre 10 41 (by kernel_rfl) rfl
          have f0 := e0
          rw [Array.getD_eq_getD_getElem?] at f0
          have e1 : a.tmps.getD 50 undef = .bool true := hpre 19 50 (by kernel_rfl) rfl
          have f1 := e1
          rw [Array.getD_eq_getD_getElem?] at f1
          clear hold hpre
          go_simp
          exact hK _ _ ⟨51, _, rfl, rfl, Below.refl _ _, rfl⟩
        · refine wpOp_step rfl (fun K' hK => ?_)
          have e0 : a.tmps.getD 51 undef = .bool true := hpre 20 51 (by kernel_rfl) rfl
          have f0 := e0
          rw [Array.getD_eq_getD_getElem?] at f0
          clear hold hpre
          go_simp
          exact hK _ _ ⟨52, _, rfl, rfl, Below.refl _ _, rfl⟩
        · refine wpOp_wanted rfl rfl rfl (hpre 21 52 (by kernel_rfl) rfl) (fun K' hK => ?_)
          have e0 : a.tmps.getD 7 undef = .pointer (some pa) := hold 7 (not_dst (by kernel_rfl))
          have f0 := e0
          rw [Array.getD_eq_getD_getElem?] at f0
          clear hold hpre
          go_simp
          exact hK _ _ ⟨53, _, rfl, rfl, Below.refl _ _, rfl⟩
        · refine wpOp_wanted rfl rfl rfl (hpre 21 52 (by kernel_rfl) rfl) (fun K' hK => ?_)
          have e0 : a.tmps.getD 4 undef = .pointer (some ⟨g, 0, none⟩) := hold 4 (not_dst (by kernel_rfl))
          have f0 := e0
          rw [Array.getD_eq_getD_getElem?] at f0
          clear hold hpre
          go_simp
          exact hK _ _ ⟨54, _, rfl, rfl, Below.refl _ _, rfl⟩
        · refine wpOp_wanted rfl rfl rfl (hpre 21 52 (by kernel_rfl) rfl) (fun K' hK => ?_)
          have e0 : a.tmps.getD 54 undef = .pointer (some ⟨g, 0, none⟩) := hpre 23 54 (by kernel_rfl) rfl
          have f0 := e0
          rw [Array.getD_eq_getD_getElem?] at f0
          have hc1 := HCa.out wx hB2
          clear hold hpre
          go_simp
          exact hK _ _ ⟨55, _, rfl, rfl, Below.refl _ _, rfl⟩
        · refine wpOp_wanted rfl rfl rfl (hpre 21 52 (by kernel_rfl) rfl) (fun K' hK => ?_)
          have e0 : a.tmps.getD 4 undef = .pointer (some ⟨g, 0, none⟩) := hold 4 (not_dst (by kernel_rfl))
          have f0 := e0
          rw [Array.getD_eq_getD_getElem?] at f0
          clear hold hpre
          go_simp
          exact hK _ _ ⟨56, _, rfl, rfl, Below.refl _ _, rfl⟩
        · refine wpOp_wanted rfl rfl rfl (hpre 21 52 (by kernel_rfl) rfl) (fun K' hK => ?_)
          have e0 : a.tmps.getD 56 undef = .pointer (some ⟨g, 1, none⟩) := hpre 25 56 (by kernel_rfl) rfl
          have f0 := e0
          rw [Array.getD_eq_getD_getElem?] at f0
          have hc1 := HCb.out wx hB2
          clear hold hpre
          go_simp
          exact hK _ _ ⟨57, _, rfl, rfl, Below.refl _ _, rfl⟩
        · refine wpOp_wanted rfl rfl rfl (hpre 21 52 (by kernel_rfl) rfl) (fun K' hK => ?_)
          have e0 : a.tmps.getD 2 undef = .int .i64 x2 := hold 2 (not_dst (by kernel_rfl))
          have f0 := e0
          rw [Array.getD_eq_getD_getElem?] at f0
          clear hold hpre
          go_simp
          exact hK _ _ ⟨58, _, rfl, rfl, Below.refl _ _, rfl⟩
        · refine wpOp_wanted rfl rfl rfl (hpre 21 52 (by kernel_rfl) rfl) (fun K' hK => ?_)
          have e0 : a.tmps.getD 53 undef = .pointer (some pa) := hpre 22 53 (by kernel_rfl) rfl
          have f0 := e0
          rw [Array.getD_eq_getD_getElem?] at f0
          have e1 : a.tmps.getD 55 undef = .int .i64 x0 := hpre 24 55 (by kernel_rfl) rfl
          have f1 := e1
          rw [Array.getD_eq_getD_getElem?] at f1
          have e2 : a.tmps.getD 57 undef = .int .i64 x1 := hpre 26 57 (by kernel_rfl) rfl
          have f2 := e2
          rw [Array.getD_eq_getD_getElem?] at f2
          have e3 : a.tmps.getD 58 undef = .int .i64 x2 := hpre 27 58 (by kernel_rfl) rfl
          have f3 := e3
          rw [Array.getD_eq_getD_getElem?] at f3
          have HC := HBlA.out wx hB2
          clear hold hpre
          go_simp
          refine HC.out.mono ?_
          rintro e w' ⟨rfl, hb'⟩
          exact hK _ _ ⟨59, _, rfl, rfl, hb', rfl⟩
        · refine wpOp_wanted rfl rfl rfl (hpre 21 52 (by kernel_rfl) rfl) (fun K' hK => ?_)
          have e0 : a.tmps.getD 9 undef = .pointer (some pb) := hold 9 (not_dst (by kernel_rfl))
          have f0 := e0
          rw [Array.getD_eq_getD_getElem?] at f0
          clear hold hpre
          go_simp
          exact hK _ _ ⟨60, _, rfl, rfl, Below.refl _ _, rfl⟩
        · refine wpOp_wanted rfl rfl rfl (hpre 21 52 (by kernel_rfl) rfl) (fun K' hK => ?_)
          have e0 : a.tmps.getD 4 undef = .pointer (some ⟨g, 0, none⟩) := hold 4 (not_dst (by kernel_rfl))
          have f0 := e0
          rw [Array.getD_eq_getD_getElem?] at f0
          clear hold hpre
          go_simp
          exact hK _ _ ⟨61, _, rfl, rfl, Below.refl _ _, rfl⟩
        · refine wpOp_wanted rfl rfl rfl (hpre 21 52 (by kernel_rfl) rfl) (fun K' hK => ?_)
          have e0 : a.tmps.getD 61 undef = .pointer (some ⟨g, 0, none⟩) := hpre 30 61 (by kernel_rfl) rfl
          have f0 := e0
          rw [Array.getD_eq_getD_getElem?] at f0
          have hc1 := HCa.out wx hB2
          clear hold hpre
          go_simp
          exact hK _ _ ⟨62, _, rfl, rfl, Below.refl _ _, rfl⟩
        · refine wpOp_wanted rfl rfl rfl (hpre 21 52 (by kernel_rfl) rfl) (fun K' hK => ?_)
          have e0 : a.tmps.getD 4 undef = .pointer (some ⟨g, 0, none⟩) := hold 4 (not_dst (by kernel_rfl))
          have f0 := e0
          rw [Array.getD_eq_getD_getElem?] at f0
          clear hold hpre
          go_simp
          exact hK _ _ ⟨63, _, rfl, rfl, Below.refl _ _, rfl⟩
        · refine wpOp_wanted rfl rfl rfl (hpre 21 52 (by kernel_rfl) rfl) (fun K' hK => ?_)
          have e0 : a.tmps.getD 63 undef = .pointer (some ⟨g, 1, none⟩) := hpre 32 63 (by kernel_rfl) rfl
          have f0 := e0
          rw [Array.getD_eq_getD_getElem?] at f0
          have hc1 := HCb.out wx hB2
          clear hold hpre
          go_simp
          exact hK _ _ ⟨64, _, rfl, rfl, Below.refl _ _, rfl⟩
        · refine wpOp_wanted rfl rfl rfl (hpre 21 52 (by kernel_rfl) rfl) (fun K' hK => ?_)
          have e0 : a.tmps.getD 2 undef = .int .i64 x2 := hold 2 (not_dst (by kernel_rfl))
          have f0 := e0
          rw [Array.getD_eq_getD_getElem?] at f0
          clear hold hpre
          go_simp
          exact hK _ _ ⟨65, _, rfl, rfl, Below.refl _ _, rfl⟩
        · refine wpOp_wanted rfl rfl rfl (hpre 21 52 (by kernel_rfl) rfl) (fun K' hK => ?_)
          have e0 : a.tmps.getD 60 undef = .pointer (some pb) := hpre 29 60 (by kernel_rfl) rfl
          have f0 := e0
          rw [Array.getD_eq_getD_getElem?] at f0
          have e1 : a.tmps.getD 62 undef = .int .i64 x0 := hpre 31 62 (by kernel_rfl) rfl
          have f1 := e1
          rw [Array.getD_eq_getD_getElem?] at f1
          have e2 : a.tmps.getD 64 undef = .int .i64 x1 := hpre 33 64 (by kernel_rfl) rfl
          have f2 := e2
          rw [Array.getD_eq_getD_getElem?] at f2
          have e3 : a.tmps.getD 65 undef = .int .i64 x2 := hpre 34 65 (by kernel_rfl) rfl
          have f3 := e3
          rw [Array.getD_eq_getD_getElem?] at f3
          have HC := HBlN.out wx hB2
          clear hold hpre
          go_simp
          refine HC.out.mono ?_
          rintro e w' ⟨rfl, hb'⟩
          exact hK _ _ ⟨66, _, rfl, rfl, hb', rfl⟩
        · refine wpOp_wanted rfl rfl rfl (hpre 21 52 (by kernel_rfl) rfl) (fun K' hK => ?_)
          have e0 : a.tmps.getD 59 undef = .int .i64 (u : Int) := hpre 28 59 (by kernel_rfl) rfl
          have f0 := e0
          rw [Array.getD_eq_getD_getElem?] at f0
          have e1 : a.tmps.getD 66 undef = .int .i64 (u : Int) := hpre 35 66 (by kernel_rfl) rfl
          have f1 := e1
          rw [Array.getD_eq_getD_getElem?] at f1
          clear hold hpre
          go_simp
          exact hK _ _ ⟨67, _, rfl, rfl, Below.refl _ _, rfl⟩
        · refine wpOp_step rfl (fun K' hK => ?_)
          have e0 : a.tmps.getD 52 undef = .bool true := hpre 21 52 (by kernel_rfl) rfl
          have f0 := e0
          rw [Array.getD_eq_getD_getElem?] at f0
          have e1 : a.tmps.getD 67 undef = .bool true := hpre 36 67 (by kernel_rfl) rfl
          have f1 := e1
          rw [Array.getD_eq_getD_getElem?] at f1
          clear hold hpre
          go_simp
          exact hK _ _ ⟨68, _, rfl, rfl, Below.refl _ _, rfl⟩
        · refine wpOp_step rfl (fun K' hK => ?_)
          have e0 : a.tmps.getD 68 undef = .bool true := hpre 37 68 (by kernel_rfl) rfl
          have f0 := e0
          rw [Array.getD_eq_getD_getElem?] at f0
          clear hold hpre
          go_simp
          exact hK _ _ ⟨69, _, rfl, rfl, Below.refl _ _, rfl⟩
        · refine wpOp_wanted rfl rfl rfl (hpre 38 69 (by kernel_rfl) rfl) (fun K' hK => ?_)
          have e0 : a.tmps.getD 7 undef = .pointer (some pa) := hold 7 (not_dst (by kernel_rfl))
          have f0 := e0
          rw [Array.getD_eq_getD_getElem?] at f0
          clear hold hpre
          go_simp
          exact hK _ _ ⟨70, _, rfl, rfl, Below.refl _ _, rfl⟩
        · refine wpOp_wanted rfl rfl rfl (hpre 38 69 (by kernel_rfl) rfl) (fun K' hK => ?_)
          have e0 : a.tmps.getD 4 undef = .pointer (some ⟨g, 0, none⟩) := hold 4 (not_dst (by kernel_rfl))
          have f0 := e0
          rw [Array.getD_eq_getD_getElem?] at f0
          clear hold hpre
          go_simp
          exact hK _ _ ⟨71, _, rfl, rfl, Below.refl _ _, rfl⟩
        · refine wpOp_wanted rfl rfl rfl (hpre 38 69 (by kernel_rfl) rfl) (fun K' hK => ?_)
          have e0 : a.tmps.getD 71 undef = .pointer (some ⟨g, 0, none⟩) := hpre 40 71 (by kernel_rfl) rfl
          have f0 := e0
          rw [Array.getD_eq_getD_getElem?] at f0
          have hc1 := HCa.out wx hB2
          clear hold hpre
          go_simp
          exact hK _ _ ⟨72, _, rfl, rfl, Below.refl _ _, rfl⟩
        · refine wpOp_wanted rfl rfl rfl (hpre 38 69 (by kernel_rfl) rfl) (fun K' hK => ?_)
          have e0 : a.tmps.getD 4 undef = .pointer (some ⟨g, 0, none⟩) := hold 4 (not_dst (by kernel_rfl))
          have f0 := e0
          rw [Array.getD_eq_getD_getElem?] at f0
          clear hold hpre
          go_simp
          exact hK _ _ ⟨73, _, rfl, rfl, Below.refl _ _, rfl⟩
        · refine wpOp_wanted rfl rfl rfl (hpre 38 69 (by kernel_rfl) rfl) (fun K' hK => ?_)
          have e0 : a.tmps.getD 73 undef = .pointer (some ⟨g, 1, none⟩) := hpre 42 73 (by kernel_rfl) rfl
          have f0 := e0
          rw [Array.getD_eq_getD_getElem?] at f0
          have hc1 := HCb.out wx hB2
          clear hold hpre
          go_simp
          exact hK _ _ ⟨74, _, rfl, rfl, Below.refl _ _, rfl⟩
        · refine wpOp_wanted rfl rfl rfl (hpre 38 69 (by kernel_rfl) rfl) (fun K' hK => ?_)
          have e0 : a.tmps.getD 2 undef = .int .i64 x2 := hold 2 (not_dst (by kernel_rfl))
          have f0 := e0
          rw [Array.getD_eq_getD_getElem?] at f0
          clear hold hpre
          go_simp
          exact hK _ _ ⟨75, _, rfl, rfl, Below.refl _ _, rfl⟩
        · refine wpOp_wanted rfl rfl rfl (hpre 38 69 (by kernel_rfl) rfl) (fun K' hK => ?_)
          have e0 : a.tmps.getD 70 undef = .pointer (some pa) := hpre 39 70 (by kernel_rfl) rfl
          have f0 := e0
          rw [Array.getD_eq_getD_getElem?] at f0
          have e1 : a.tmps.getD 72 undef = .int .i64 x0 := hpre 41 72 (by kernel_rfl) rfl
          have f1 := e1
          rw [Array.getD_eq_getD_getElem?] at f1
          have e2 : a.tmps.getD 74 undef = .int .i64 x1 := hpre 43 74 (by kernel_rfl) rfl
          have f2 := e2
          rw [Array.getD_eq_getD_getElem?] at f2
          have e3 : a.tmps.getD 75 undef = .int .i64 x2 := hpre 44 75 (by kernel_rfl) rfl
          have f3 := e3
          rw [Array.getD_eq_getD_getElem?] at f3
          have HC := HQuA.out wx hB2
          clear hold hpre
          go_simp
          refine HC.out.mono ?_
          rintro e w' ⟨rfl, hb'⟩
          exact hK _ _ ⟨76, _, rfl, rfl, hb', rfl⟩
        · refine wpOp_wanted rfl rfl rfl (hpre 38 69 (by kernel_rfl) rfl) (fun K' hK => ?_)
          have e0 : a.tmps.getD 9 undef = .pointer (some pb) := hold 9 (not_dst (by kernel_rfl))
          have f0 := e0
          rw [Array.getD_eq_getD_getElem?] at f0
          clear hold hpre
          go_simp
          exact hK _ _ ⟨77, _, rfl, rfl, Below.refl _ _, rfl⟩
        · refine wpOp_wanted rfl rfl rfl (hpre 38 69 (by kernel_rfl) rfl) (fun K' hK => ?_)
          have e0 : a.tmps.getD 4 undef = .pointer (some ⟨g, 0, none⟩) := hold 4 (not_dst (by kernel_rfl))
          have f0 := e0
          rw [Array.getD_eq_getD_getElem?] at f0
          clear hold hpre
          go_simp
          exact hK _ _ ⟨78, _, rfl, rfl, Below.refl _ _, rfl⟩
        · refine wpOp_wanted rfl rfl rfl (hpre 38 69 (by kernel_rfl) rfl) (fun K' hK => ?_)
          have e0 : a.tmps.getD 78 undef = .pointer (some ⟨g, 0, none⟩) := hpre 47 78 (by kernel_rfl) rfl
          have f0 := e0
          rw [Array.getD_eq_getD_getElem?] at f0
          have hc1 := HCa.out wx hB2
          clear hold hpre
          go_simp
          exact hK _ _ ⟨79, _, rfl, rfl, Below.refl _ _, rfl⟩
        · refine wpOp_wanted rfl rfl rfl (hpre 38 69 (by kernel_rfl) rfl) (fun K' hK => ?_)
          have e0 : a.tmps.getD 4 undef = .pointer (some ⟨g, 0, none⟩) := hold 4 (not_dst (by kernel_rfl))
          have f0 := e0
          rw [Array.getD_eq_getD_getElem?] at f0
          clear hold hpre
          go_simp
          exact hK _ _ ⟨80, _, rfl, rfl, Below.refl _ _, rfl⟩
        · refine wpOp_wanted rfl rfl rfl (hpre 38 69 (by kernel_rfl) rfl) (fun K' hK => ?_)
          have e0 : a.tmps.getD 80 undef = .pointer (some ⟨g, 1, none⟩) := hpre 49 80 (by kernel_rfl) rfl
          have f0 := e0
          rw [Array.getD_eq_getD_getElem?] at f0
          have hc1 := HCb.out wx hB2
          clear hold hpre
          go_simp
          exact hK _ _ ⟨81, _, rfl, rfl, Below.refl _ _, rfl⟩
        · refine wpOp_wanted rfl rfl rfl (hpre 38 69 (by kernel_rfl) rfl) (fun K' hK => ?_)
          have e0 : a.tmps.getD 2 undef = .int .i64 x2 := hold 2 (not_dst (by kernel_rfl))
          have f0 := e0
          rw [Array.getD_eq_getD_getElem?] at f0
          clear hold hpre
          go_simp
          exact hK _ _ ⟨82, _, rfl, rfl, Below.refl _ _, rfl⟩
        · refine wpOp_wanted rfl rfl rfl (hpre 38 69 (by kernel_rfl) rfl) (fun K' hK => ?_)
          have e0 : a.tmps.getD 77 undef = .pointer (some pb) := hpre 46 77 (by kernel_rfl) rfl
          have f0 := e0
          rw [Array.getD_eq_getD_getElem?] at f0
          have e1 : a.tmps.getD 79 undef = .int .i64 x0 := hpre 48 79 (by kernel_rfl) rfl
          have f1 := e1
          rw [Array.getD_eq_getD_getElem?] at f1
          have e2 : a.tmps.getD 81 undef = .int .i64 x1 := hpre 50 81 (by kernel_rfl) rfl
          have f2 := e2
          rw [Array.getD_eq_getD_getElem?] at f2
          have e3 : a.tmps.getD 82 undef = .int .i64 x2 := hpre 51 82 (by kernel_rfl) rfl
          have f3 := e3
          rw [Array.getD_eq_getD_getElem?] at f3
          have HC := HQuN.out wx hB2
          clear hold hpre
          go_simp
          refine HC.out.mono ?_
          rintro e w' ⟨rfl, hb'⟩
          exact hK _ _ ⟨83, _, rfl, rfl, hb', rfl⟩
        · refine wpOp_wanted rfl rfl rfl (hpre 38 69 (by kernel_rfl) rfl) (fun K' hK => ?_)
          have e0 : a.tmps.getD 76 undef = .int .i64 q := hpre 45 76 (by kernel_rfl) rfl
          have f0 := e0
          rw [Array.getD_eq_getD_getElem?] at f0
          have e1 : a.tmps.getD 83 undef = .int .i64 q := hpre 52 83 (by kernel_rfl) rfl
          have f1 := e1
          rw [Array.getD_eq_getD_getElem?] at f1
          clear hold hpre
          go_simp
          exact hK _ _ ⟨84, _, rfl, rfl, Below.refl _ _, rfl⟩
        · refine wpOp_step rfl (fun K' hK => ?_)
          have e0 : a.tmps.getD 69 undef = .bool true := hpre 38 69 (by kernel_rfl) rfl
          have f0 := e0
          rw [Array.getD_eq_getD_getElem?] at f0
          have e1 : a.tmps.getD 84 undef = .bool true := hpre 53 84 (by kernel_rfl) rfl
          have f1 := e1
          rw [Array.getD_eq_getD_getElem?] at f1
          clear hold hpre
          go_simp
          exact hK _ _ ⟨85, _, rfl, rfl, Below.refl _ _, rfl⟩
        · refine wpOp_step rfl (fun K' hK => ?_)
          have e0 : a.tmps.getD 85 undef = .bool true := hpre 54 85 (by kernel_rfl) rfl
          have f0 := e0
          rw [Array.getD_eq_getD_getElem?] at f0
          clear hold hpre
          go_simp
          exact hK _ _ ⟨86, _, rfl, rfl, Below.refl _ _, rfl⟩
        · refine wpOp_wanted rfl rfl rfl (hpre 55 86 (by kernel_rfl) rfl) (fun K' hK => ?_)
          have e0 : a.tmps.getD 7 undef = .pointer (some pa) := hold 7 (not_dst (by kernel_rfl))
          have f0 := e0
          rw [Array.getD_eq_getD_getElem?] at f0
          clear hold hpre
          go_simp
          exact hK _ _ ⟨87, _, rfl, rfl, Below.refl _ _, rfl⟩
        · refine wpOp_wanted rfl rfl rfl (hpre 55 86 (by kernel_rfl) rfl) (fun K' hK => ?_)
          have e0 : a.tmps.getD 4 undef = .pointer (some ⟨g, 0, none⟩) := hold 4 (not_dst (by kernel_rfl))
          have f0 := e0
          rw [Array.getD_eq_getD_getElem?] at f0
          clear hold hpre
          go_simp
          exact hK _ _ ⟨88, _, rfl, rfl, Below.refl _ _, rfl⟩
        · refine wpOp_wanted rfl rfl rfl (hpre 55 86 (by kernel_rfl) rfl) (fun K' hK => ?_)
          have e0 : a.tmps.getD 88 undef = .pointer (some ⟨g, 0, none⟩) := hpre 57 88 (by kernel_rfl) rfl
          have f0 := e0
          rw [Array.getD_eq_getD_getElem?] at f0
          have hc1 := HCa.out wx hB2
          clear hold hpre
          go_simp
          exact hK _ _ ⟨89, _, rfl, rfl, Below.refl _ _, rfl⟩
        · refine wpOp_wanted rfl rfl rfl (hpre 55 86 (by kernel_rfl) rfl) (fun K' hK => ?_)
          have e0 : a.tmps.getD 4 undef = .pointer (some ⟨g, 0, none⟩) := hold 4 (not_dst (by kernel_rfl))
          have f0 := e0
          rw [Array.getD_eq_getD_getElem?] at f0
          clear hold hpre
          go_simp
          exact hK _ _ ⟨90, _, rfl, rfl, Below.refl _ _, rfl⟩
        · refine wpOp_wanted rfl rfl rfl (hpre 55 86 (by kernel_rfl) rfl) (fun K' hK => ?_)
          have e0 : a.tmps.getD 90 undef = .pointer (some ⟨g, 1, none⟩) := hpre 59 90 (by kernel_rfl) rfl
          have f0 := e0
          rw [Array.getD_eq_getD_getElem?] at f0
          have hc1 := HCb.out wx hB2
          clear hold hpre
          go_simp
          exact hK _ _ ⟨91, _, rfl, rfl, Below.refl _ _, rfl⟩
        · refine wpOp_wanted rfl rfl rfl (hpre 55 86 (by kernel_rfl) rfl) (fun K' hK => ?_)
          have e0 : a.tmps.getD 87 undef = .pointer (some pa) := hpre 56 87 (by kernel_rfl) rfl
          have f0 := e0
          rw [Array.getD_eq_getD_getElem?] at f0
          have e1 : a.tmps.getD 89 undef = .int .i64 x0 := hpre 58 89 (by kernel_rfl) rfl
          have f1 := e1
          rw [Array.getD_eq_getD_getElem?] at f1
          have e2 : a.tmps.getD 91 undef = .int .i64 x1 := hpre 60 91 (by kernel_rfl) rfl
          have f2 := e2
          rw [Array.getD_eq_getD_getElem?] at f2
          have HC := HDiA.out wx hB2
          clear hold hpre
          go_simp
          refine HC.out.mono ?_
          rintro e w' ⟨⟨Y, cy, rfl, hpr⟩, hb'⟩
          exact hK _ _ ⟨92, _, rfl, rfl, hb', ⟨Y, cy, rfl, hpr⟩⟩
        · refine wpOp_wanted rfl rfl rfl (hpre 55 86 (by kernel_rfl) rfl) (fun K' hK => ?_)
          have e0 : a.tmps.getD 9 undef = .pointer (some pb) := hold 9 (not_dst (by kernel_rfl))
          have f0 := e0
          rw [Array.getD_eq_getD_getElem?] at f0
          clear hold hpre
          go_simp
          exact hK _ _ ⟨93, _, rfl, rfl, Below.refl _ _, rfl⟩
        · refine wpOp_wanted rfl rfl rfl (hpre 55 86 (by kernel_rfl) rfl) (fun K' hK => ?_)
          have e0 : a.tmps.getD 4 undef = .pointer (some ⟨g, 0, none⟩) := hold 4 (not_dst (by kernel_rfl))
          have f0 := e0
          rw [Array.getD_eq_getD_getElem?] at f0
          clear hold hpre
          go_simp
          exact hK _ _ ⟨94, _, rfl, rfl, Below.refl _ _, rfl⟩
        · refine wpOp_wanted rfl rfl rfl (hpre 55 86 (by kernel_rfl) rfl) (fun K' hK => ?_)
          have e0 : a.tmps.getD 94 undef = .pointer (some ⟨g, 0, none⟩) := hpre 63 94 (by kernel_rfl) rfl
          have f0 := e0
          rw [Array.getD_eq_getD_getElem?] at f0
          have hc1 := HCa.out wx hB2
          clear hold hpre
          go_simp
          exact hK _ _ ⟨95, _, rfl, rfl, Below.refl _ _, rfl⟩
        · refine wpOp_wanted rfl rfl rfl (hpre 55 86 (by kernel_rfl) rfl) (fun K' hK => ?_)
          have e0 : a.tmps.getD 4 undef = .pointer (some ⟨g, 0, none⟩) := hold 4 (not_dst (by kernel_rfl))
          have f0 := e0
          rw [Array.getD_eq_getD_getElem?] at f0
          clear hold hpre
          go_simp
          exact hK _ _ ⟨96, _, rfl, rfl, Below.refl _ _, rfl⟩
        · refine wpOp_wanted rfl rfl rfl (hpre 55 86 (by kernel_rfl) rfl) (fun K' hK => ?_)
          have e0 : a.tmps.getD 96 undef = .pointer (some ⟨g, 1, none⟩) := hpre 65 96 (by kernel_rfl) rfl
          have f0 := e0
          rw [Array.getD_eq_getD_getElem?] at f0
          have hc1 := HCb.out wx hB2
          clear hold hpre
          go_simp
          exact hK _ _ ⟨97, _, rfl, rfl, Below.refl _ _, rfl⟩
        · refine wpOp_wanted rfl rfl rfl (hpre 55 86 (by kernel_rfl) rfl) (fun K' hK => ?_)
          have e0 : a.tmps.getD 93 undef = .pointer (some pb) := hpre 62 93 (by kernel_rfl) rfl
          have f0 := e0
          rw [Array.getD_eq_getD_getElem?] at f0
          have e1 : a.tmps.getD 95 undef = .int .i64 x0 := hpre 64 95 (by kernel_rfl) rfl
          have f1 := e1
          rw [Array.getD_eq_getD_getElem?] at f1
          have e2 : a.tmps.getD 97 undef = .int .i64 x1 := hpre 66 97 (by kernel_rfl) rfl
          have f2 := e2
          rw [Array.getD_eq_getD_getElem?] at f2
          have HC := HDiN.out wx hB2
          clear hold hpre
          go_simp
          refine HC.out.mono ?_
          rintro e w' ⟨⟨Y, cy, rfl, hpr⟩, hb'⟩
          exact hK _ _ ⟨98, _, rfl, rfl, hb', ⟨Y, cy, rfl, hpr⟩⟩
        · refine wpOp_wanted rfl rfl rfl (hpre 55 86 (by kernel_rfl) rfl) (fun K' hK => ?_)
          obtain ⟨YA, cyA, e0, hprA⟩ : Prz D (a.tmps.getD 92 undef) wx := hpre 61 92 (by kernel_rfl) rfl
          have f0 := e0
          rw [Array.getD_eq_getD_getElem?] at f0
          obtain ⟨YN, cyN, e1, hprN⟩ : Prz D (a.tmps.getD 98 undef) wx := hpre 67 98 (by kernel_rfl) rfl
          have f1 := e1
          rw [Array.getD_eq_getD_getElem?] at f1
          have HC := Lib.hid (refSameP_any YA YN cyA cyN D wx hprA hprN)
          clear hold hpre
          go_simp
          refine HC.out.mono ?_
          rintro e w' ⟨rfl, hb'⟩
          exact hK _ _ ⟨99, _, rfl, rfl, hb', rfl⟩
        · refine wpOp_step rfl (fun K' hK => ?_)
          have e0 : a.tmps.getD 86 undef = .bool true := hpre 55 86 (by kernel_rfl) rfl
          have f0 := e0
          rw [Array.getD_eq_getD_getElem?] at f0
          have e1 : a.tmps.getD 99 undef = .bool true := hpre 68 99 (by kernel_rfl) rfl
          have f1 := e1
          rw [Array.getD_eq_getD_getElem?] at f1
          clear hold hpre
          go_simp
          exact hK _ _ ⟨100, _, rfl, rfl, Below.refl _ _, rfl⟩
        · refine wpOp_step rfl (fun K' hK => ?_)
          have e0 : a.tmps.getD 100 undef = .bool true := hpre 69 100 (by kernel_rfl) rfl
          have f0 := e0
          rw [Array.getD_eq_getD_getElem?] at f0
          clear hold hpre
          go_simp
          exact hK _ _ ⟨101, _, rfl, rfl, Below.refl _ _, rfl⟩
        · refine wpOp_wanted rfl rfl rfl (hpre 70 101 (by kernel_rfl) rfl) (fun K' hK => ?_)
          have e0 : a.tmps.getD 7 undef = .pointer (some pa) := hold 7 (not_dst (by kernel_rfl))
          have f0 := e0
          rw [Array.getD_eq_getD_getElem?] at f0
          clear hold hpre
          go_simp
          exact hK _ _ ⟨102, _, rfl, rfl, Below.refl _ _, rfl⟩
        · refine wpOp_wanted rfl rfl rfl (hpre 70 101 (by kernel_rfl) rfl) (fun K' hK => ?_)
          have e0 : a.tmps.getD 2 undef = .int .i64 x2 := hold 2 (not_dst (by kernel_rfl))
          have f0 := e0
          rw [Array.getD_eq_getD_getElem?] at f0
          clear hold hpre
          go_simp
          exact hK _ _ ⟨103, _, rfl, rfl, Below.refl _ _, rfl⟩
        · refine wpOp_wanted rfl rfl rfl (hpre 70 101 (by kernel_rfl) rfl) (fun K' hK => ?_)
          have e0 : a.tmps.getD 4 undef = .pointer (some ⟨g, 0, none⟩) := hold 4 (not_dst (by kernel_rfl))
          have f0 := e0
          rw [Array.getD_eq_getD_getElem?] at f0
          clear hold hpre
          go_simp
          exact hK _ _ ⟨104, _, rfl, rfl, Below.refl _ _, rfl⟩
        · refine wpOp_wanted rfl rfl rfl (hpre 70 101 (by kernel_rfl) rfl) (fun K' hK => ?_)
          have e0 : a.tmps.getD 104 undef = .pointer (some ⟨g, 0, none⟩) := hpre 73 104 (by kernel_rfl) rfl
          have f0 := e0
          rw [Array.getD_eq_getD_getElem?] at f0
          have hc1 := HCa.out wx hB2
          clear hold hpre
          go_simp
          exact hK _ _ ⟨105, _, rfl, rfl, Below.refl _ _, rfl⟩
        · refine wpOp_wanted rfl rfl rfl (hpre 70 101 (by kernel_rfl) rfl) (fun K' hK => ?_)
          have e0 : a.tmps.getD 102 undef = .pointer (some pa) := hpre 71 102 (by kernel_rfl) rfl
          have f0 := e0
          rw [Array.getD_eq_getD_getElem?] at f0
          have e1 : a.tmps.getD 103 undef = .int .i64 x2 := hpre 72 103 (by kernel_rfl) rfl
          have f1 := e1
          rw [Array.getD_eq_getD_getElem?] at f1
          have e2 : a.tmps.getD 105 undef = .int .i64 x0 := hpre 74 105 (by kernel_rfl) rfl
          have f2 := e2
          rw [Array.getD_eq_getD_getElem?] at f2
          have HC := HSeA.out wx hB2
          clear hold hpre
          go_simp
          refine HC.out.mono ?_
          rintro e w' ⟨rfl, hb'⟩
          exact hK _ _ ⟨106, _, rfl, rfl, hb', rfl⟩
        · refine wpOp_wanted rfl rfl rfl (hpre 70 101 (by kernel_rfl) rfl) (fun K' hK => ?_)
          have e0 : a.tmps.getD 9 undef = .pointer (some pb) := hold 9 (not_dst (by kernel_rfl))
          have f0 := e0
          rw [Array.getD_eq_getD_getElem?] at f0
          clear hold hpre
          go_simp
          exact hK _ _ ⟨107, _, rfl, rfl, Below.refl _ _, rfl⟩
        · refine wpOp_wanted rfl rfl rfl (hpre 70 101 (by kernel_rfl) rfl) (fun K' hK => ?_)
          have e0 : a.tmps.getD 2 undef = .int .i64 x2 := hold 2 (not_dst (by kernel_rfl))
          have f0 := e0
          rw [Array.getD_eq_getD_getElem?] at f0
          clear hold hpre
          go_simp
          exact hK _ _ ⟨108, _, rfl, rfl, Below.refl _ _, rfl⟩
        · refine wpOp_wanted rfl rfl rfl (hpre 70 101 (by kernel_rfl) rfl) (fun K' hK => ?_)
          have e0 : a.tmps.getD 4 undef = .pointer (some ⟨g, 0, none⟩) := hold 4 (not_dst (by kernel_rfl))
          have f0 := e0
          rw [Array.getD_eq_getD_getElem?] at f0
          clear hold hpre
          go_simp
          exact hK _ _ ⟨109, _, rfl, rfl, Below.refl _ _, rfl⟩
        · refine wpOp_wanted rfl rfl rfl (hpre 70 101 (by kernel_rfl) rfl) (fun K' hK => ?_)
          have e0 : a.tmps.getD 109 undef = .pointer (some ⟨g, 0, none⟩) := hpre 78 109 (by kernel_rfl) rfl
          have f0 := e0
          rw [Array.getD_eq_getD_getElem?] at f0
          have hc1 := HCa.out wx hB2
          clear hold hpre
          go_simp
          exact hK _ _ ⟨110, _, rfl, rfl, Below.refl _ _, rfl⟩
        · refine wpOp_wanted rfl rfl rfl (hpre 70 101 (by kernel_rfl) rfl) (fun K' hK => ?_)
          have e0 : a.tmps.getD 107 undef = .pointer (some pb) := hpre 76 107 (by kernel_rfl) rfl
          have f0 := e0
          rw [Array.getD_eq_getD_getElem?] at f0
          have e1 : a.tmps.getD 108 undef = .int .i64 x2 := hpre 77 108 (by kernel_rfl) rfl
          have f1 := e1
          rw [Array.getD_eq_getD_getElem?] at f1
          have e2 : a.tmps.getD 110 undef = .int .i64 x0 := hpre 79 110 (by kernel_rfl) rfl
          have f2 := e2
          rw [Array.getD_eq_getD_getElem?] at f2
          have HC := HSeN.out wx hB2
          clear hold hpre
          go_simp
          refine HC.out.mono ?_
          rintro e w' ⟨rfl, hb'⟩
          exact hK _ _ ⟨111, _, rfl, rfl, hb', rfl⟩
        · refine wpOp_wanted rfl rfl rfl (hpre 70 101 (by kernel_rfl) rfl) (fun K' hK => ?_)
          have e0 : a.tmps.getD 106 undef = .int .i64 z := hpre 75 106 (by kernel_rfl) rfl
          have f0 := e0
          rw [Array.getD_eq_getD_getElem?] at f0
          have e1 : a.tmps.getD 111 undef = .int .i64 z := hpre 80 111 (by kernel_rfl) rfl
          have f1 := e1
          rw [Array.getD_eq_getD_getElem?] at f1
          clear hold hpre
          go_simp
          exact hK _ _ ⟨112, _, rfl, rfl, Below.refl _ _, rfl⟩
        · refine wpOp_step rfl (fun K' hK => ?_)
          have e0 : a.tmps.getD 101 undef = .bool true := hpre 70 101 (by kernel_rfl) rfl
          have f0 := e0
          rw [Array.getD_eq_getD_getElem?] at f0
          have e1 : a.tmps.getD 112 undef = .bool true := hpre 81 112 (by kernel_rfl) rfl
          have f1 := e1
          rw [Array.getD_eq_getD_getElem?] at f1
          clear hold hpre
          go_simp
          exact hK _ _ ⟨113, _, rfl, rfl, Below.refl _ _, rfl⟩
        · refine wpOp_step rfl (fun K' hK => ?_)
          have e0 : a.tmps.getD 113 undef = .bool true := hpre 82 113 (by kernel_rfl) rfl
          have f0 := e0
          rw [Array.getD_eq_getD_getElem?] at f0
          clear hold hpre
          go_simp
          exact hK _ _ ⟨6, _, rfl, rfl, Below.refl _ _, rfl⟩
      · intro a wx hdef hold hB2 hf
        have e6 : a.tmps.getD 6 undef = .bool true := hf 83 6 rfl
        have hBx := HBW.out _ hB2
        clear hf hold
        go_wp2_with fail
        have e7 : a.tmps[6]?.getD undef = .bool true := by rw [← Array.getD_eq_getD_getElem?]; exact e6
        exact bodyPost_ret (v := .bool true) (by simp [results, Try.results9, go_sem, e7]) hdef ⟨rfl, hBx⟩
end
end Go.Proofs.Ytfhflmojcfnhnaa
