/- From the condition that a row of layer 4 lists (its two tables lie as the program's text lays them) to the tables' cells; and that the program's own start meets it. -/
import Derived.Test.YtjmajminfmcjcaaDoorCrc
import Derived.Test.YtjmajminfmcjcaaDoorRows
import Derived.LaidMore
import Derived.LaidOnce
import Derived.Lib.LaidTab
import Derived.MakeChecks
import Derived.Stop.Joined
namespace Go.Proofs.YtjmajminfmcjcaaDoor
open Go.ChangeShapes Go.WideShapes Go.ChangeAt Go.RowKit

/-- the list that every row here bears. -/
def laidL : List (String × DataW Unit) := [("colophon/crc.lowerHalf", Rows.laid_colophon_crc_lowerHalf), ("colophon/crc.upperHalf", Rows.laid_colophon_crc_upperHalf)]
def zsL : List Int := Pl.lows.map fun (x : Nat) => (x : Int)
def zsU : List Int := Pl.ups.map fun (x : Nat) => (x : Int)
theorem laidL_tabs : laidL = [("colophon/crc.lowerHalf", Lib.tabData .u32 zsL), ("colophon/crc.upperHalf", Lib.tabData .u32 zsU)] := rfl
theorem gLow : Tryd.prog.globalNamed "colophon/crc.lowerHalf" = some 0 := by kernel_rfl
theorem gUp : Tryd.prog.globalNamed "colophon/crc.upperHalf" = some 1 := by kernel_rfl
theorem tLow : (Tryd.prog.globals[0]?).map (·.type) = some 114 := by kernel_rfl
theorem tUp : (Tryd.prog.globals[1]?).map (·.type) = some 114 := by kernel_rfl
theorem cells_u32 : Tryd.prog.cellsOf 101 = 1 := by kernel_rfl
theorem cells_tab : Tryd.prog.cellsOf 114 = 16 := by kernel_rfl
theorem zsL_at (i : Nat) (h : i < 16) : zsL.getD i 0 = ((Pl.lowT i : Nat) : Int) := by
  have all : ∀ j, j < 16 → zsL.getD j 0 = ((Pl.lowT j : Nat) : Int) := by decide +kernel
  exact all i h
theorem zsU_at (i : Nat) (h : i < 16) : zsU.getD i 0 = ((Pl.upT i : Nat) : Int) := by
  have all : ∀ j, j < 16 → zsU.getD j 0 = ((Pl.upT j : Nat) : Int) := by decide +kernel
  exact all i h

theorem tabs_of_laid {W : World} (h : laidMetH Tryd.prog laidL W) : Tabs W := by
  rw [MakeChecks.laidMetH_plain _ _ _ (by kernel_rfl), laidL_tabs] at h
  obtain ⟨ps, ⟨g1, t1, cs1, f1, p1, q1, hg1, ht1, hv1, hd1, ⟨g2, t2, cs2, f2, p2, q2, hg2, ht2, hv2, hd2, _⟩, _⟩, _⟩ := h
  obtain rfl := Option.some.inj (gLow.symm.trans hg1)
  obtain rfl := Option.some.inj (tLow.symm.trans ht1)
  obtain rfl := Option.some.inj (gUp.symm.trans hg2)
  obtain rfl := Option.some.inj (tUp.symm.trans ht2)
  have h1 : Lib.TabIs Tryd.prog W "colophon/crc.lowerHalf" .u32 zsL := by
    unfold Lib.TabIs
    rw [hv1, ← Lib.cells_of_tab Tryd.underlying114 Tryd.underlying101 cells_u32 cells_tab hd1]
  have h2 : Lib.TabIs Tryd.prog W "colophon/crc.upperHalf" .u32 zsU := by
    unfold Lib.TabIs
    rw [hv2, ← Lib.cells_of_tab Tryd.underlying114 Tryd.underlying101 cells_u32 cells_tab hd2]
  refine ⟨fun i hi => ?_, fun i hi => ?_⟩
  · rw [h1.cell gLow i (by show i < 16; exact hi), zsL_at i hi]
  · rw [h2.cell gUp i (by show i < 16; exact hi), zsU_at i hi]

/-- the door's own heap meets the condition. -/
theorem door_met (os : Os) (args : Array Value) : laidMetH Tryd.prog laidL ((World.doorLaid Tryd.prog 400 os).forCall (fun _ _ => 0) ⟨#[], args, []⟩).memory :=
  laidMetH_of_parts3 (fuel := 8) (laidMet_of_run' 8 (by kernel_rfl) (by kernel_rfl)) (by kernel_rfl) (by kernel_rfl)
end Go.Proofs.YtjmajminfmcjcaaDoor
