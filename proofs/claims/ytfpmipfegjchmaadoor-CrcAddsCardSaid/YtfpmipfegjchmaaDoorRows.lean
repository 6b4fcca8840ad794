/-
  NARROWER THAN 'FOR EVERY INPUT', by the rows' own cells (each row's printed sentence says how): CrcPuts: laid · CrcCuts: laid · CrcRows: laid · CrcAdds: laid · CrcTwice: laid.
  DERIVED. THE GIVEN ROWS OF THIS SEAT. 5 by the template 'for every input the law returns true; each argument reads behind the call as it read before'; 0 by the template 'total and deterministic' (their statements: YtfpmipfegjchmaaDoorTotals.lean).
  GIVEN WITH THE SEED: the statements are not yours to turn. If you find one false, say at which input.
  Laid BY PROGRAM, IN A SANDBOX (cutbox-rows.mjs): the forced cells as the released guide's own fill.sh prints them over the translation 7064e5d72e11bfe9… (all of the seat's roots in one cut). By AI agents, Wed Nov 11 2026. No macro, syntax, notation, axiom, sorry.
-/
import Derived.Test.YtfpmipfegjchmaaDoorChecked
import GoSem.Claim
import GoSem.ClaimJoined
import GoSem.ClaimMapViews
import Derived.JoinedTies
import Derived.KernelRfl
namespace Go.Proofs.YtfpmipfegjchmaaDoor
/- THE CELL 'sum', in the pinned program and in every row, IS THE sha256 OF THE DUMP (.gsa) THAT YtfpmipfegjchmaaDoorProg.lean LOADS. Nothing in Lean hashes anything: it is a label: what it is worth is what the hold of that sum in a sandbox is worth. -/
noncomputable def Tryd.pinned : Pinned := { name := "ytfpmipfegjchmaadoor", sum := "7064e5d72e11bfe960e66854eaf3fe3d9aece0fbe04277f20a176bc0f1836c0d", checked := Tryd.checked }
namespace Rows
def none {H : Type} : Left H := { results := [], args := [] }

/- WHAT THE LISTED PACKAGE-LEVEL VARIABLES READ AS WHEN THE CALL BEGINS. Each datum BY PROGRAM (the guide's laid-datum.mjs) off the statement by which the dump's own 'gosem.cut.vars' lays the variable. In a bare row this is a premise. The card (YtfpmipfegjchmaaDoorCards.lean) ties it to the program's text. -/
def laid_colophon_crc_lowerHalf {H : Type} : DataW H := .agg [.lit (.int .u32 0), .lit (.int .u32 1996959894), .lit (.int .u32 3993919788), .lit (.int .u32 2567524794), .lit (.int .u32 124634137), .lit (.int .u32 1886057615), .lit (.int .u32 3915621685), .lit (.int .u32 2657392035), .lit (.int .u32 249268274), .lit (.int .u32 2044508324), .lit (.int .u32 3772115230), .lit (.int .u32 2547177864), .lit (.int .u32 162941995), .lit (.int .u32 2125561021), .lit (.int .u32 3887607047), .lit (.int .u32 2428444049)]
def laid_colophon_crc_upperHalf {H : Type} : DataW H := .agg [.lit (.int .u32 0), .lit (.int .u32 498536548), .lit (.int .u32 997073096), .lit (.int .u32 651767980), .lit (.int .u32 1994146192), .lit (.int .u32 1802195444), .lit (.int .u32 1303535960), .lit (.int .u32 1342533948), .lit (.int .u32 3988292384), .lit (.int .u32 4027552580), .lit (.int .u32 3604390888), .lit (.int .u32 3412177804), .lit (.int .u32 2607071920), .lit (.int .u32 2262029012), .lit (.int .u32 2685067896), .lit (.int .u32 3183342108)]

/-- 'colophonlaw04.CrcPuts': WHATEVER THE INPUT: true; the input reads as it did. -/
def crcPutsSpec : ChangeSpec := { name := "crcPuts", fn := fun _ => fun
  | [d1, d2] => { results := [.lit (.bool true)], args := [d1, d2] }
  | _ => none }
def crcPutsRow : OpenClaim := { program := "ytfpmipfegjchmaadoor", sum := "7064e5d72e11bfe960e66854eaf3fe3d9aece0fbe04277f20a176bc0f1836c0d", func := "colophon/colophonlaw04.CrcPuts", spec := "crcPuts", named := ["colophon/crc.lowerHalf", "colophon/crc.upperHalf"], apart := false, laid := [("colophon/crc.lowerHalf", laid_colophon_crc_lowerHalf), ("colophon/crc.upperHalf", laid_colophon_crc_upperHalf)] }
def CrcPutsSaid : Prop := crcPutsRow.holds Tryd.pinned (OpenSpec.ofChange crcPutsSpec)

/-- ITS FALSE NEIGHBOUR: 'it returns false'. Refute it at one input. -/
def crcPutsWrong : ChangeSpec := { name := "crcPuts", fn := fun _ => fun
  | [d1, d2] => { results := [.lit (.bool false)], args := [d1, d2] }
  | _ => none }
def CrcPutsWrongFalsely : Prop := crcPutsRow.holds Tryd.pinned (OpenSpec.ofChange crcPutsWrong)

/-- 'colophonlaw04.CrcCuts': WHATEVER THE INPUT: true; the input reads as it did. -/
def crcCutsSpec : ChangeSpec := { name := "crcCuts", fn := fun _ => fun
  | [d] => { results := [.lit (.bool true)], args := [d] }
  | _ => none }
def crcCutsRow : OpenClaim := { program := "ytfpmipfegjchmaadoor", sum := "7064e5d72e11bfe960e66854eaf3fe3d9aece0fbe04277f20a176bc0f1836c0d", func := "colophon/colophonlaw04.CrcCuts", spec := "crcCuts", named := ["colophon/crc.lowerHalf", "colophon/crc.upperHalf"], apart := false, laid := [("colophon/crc.lowerHalf", laid_colophon_crc_lowerHalf), ("colophon/crc.upperHalf", laid_colophon_crc_upperHalf)] }
def CrcCutsSaid : Prop := crcCutsRow.holds Tryd.pinned (OpenSpec.ofChange crcCutsSpec)

/-- ITS FALSE NEIGHBOUR: 'it returns false'. Refute it at one input. -/
def crcCutsWrong : ChangeSpec := { name := "crcCuts", fn := fun _ => fun
  | [d] => { results := [.lit (.bool false)], args := [d] }
  | _ => none }
def CrcCutsWrongFalsely : Prop := crcCutsRow.holds Tryd.pinned (OpenSpec.ofChange crcCutsWrong)

/-- 'colophonlaw04.CrcRows': WHATEVER THE INPUT: true; the input reads as it did. -/
def crcRowsSpec : ChangeSpec := { name := "crcRows", fn := fun _ => fun
  | [d1, d2, d3] => { results := [.lit (.bool true)], args := [d1, d2, d3] }
  | _ => none }
def crcRowsRow : OpenClaim := { program := "ytfpmipfegjchmaadoor", sum := "7064e5d72e11bfe960e66854eaf3fe3d9aece0fbe04277f20a176bc0f1836c0d", func := "colophon/colophonlaw04.CrcRows", spec := "crcRows", named := ["colophon/crc.lowerHalf", "colophon/crc.upperHalf"], apart := false, laid := [("colophon/crc.lowerHalf", laid_colophon_crc_lowerHalf), ("colophon/crc.upperHalf", laid_colophon_crc_upperHalf)] }
def CrcRowsSaid : Prop := crcRowsRow.holds Tryd.pinned (OpenSpec.ofChange crcRowsSpec)

/-- ITS FALSE NEIGHBOUR: 'it returns false'. Refute it at one input. -/
def crcRowsWrong : ChangeSpec := { name := "crcRows", fn := fun _ => fun
  | [d1, d2, d3] => { results := [.lit (.bool false)], args := [d1, d2, d3] }
  | _ => none }
def CrcRowsWrongFalsely : Prop := crcRowsRow.holds Tryd.pinned (OpenSpec.ofChange crcRowsWrong)

/-- 'colophonlaw04.CrcAdds': WHATEVER THE INPUT: true; the input reads as it did. -/
def crcAddsSpec : ChangeSpec := { name := "crcAdds", fn := fun _ => fun
  | [d1, d2, d3] => { results := [.lit (.bool true)], args := [d1, d2, d3] }
  | _ => none }
def crcAddsRow : OpenClaim := { program := "ytfpmipfegjchmaadoor", sum := "7064e5d72e11bfe960e66854eaf3fe3d9aece0fbe04277f20a176bc0f1836c0d", func := "colophon/colophonlaw04.CrcAdds", spec := "crcAdds", named := ["colophon/crc.lowerHalf", "colophon/crc.upperHalf"], apart := false, laid := [("colophon/crc.lowerHalf", laid_colophon_crc_lowerHalf), ("colophon/crc.upperHalf", laid_colophon_crc_upperHalf)] }
def CrcAddsSaid : Prop := crcAddsRow.holds Tryd.pinned (OpenSpec.ofChange crcAddsSpec)

/-- ITS FALSE NEIGHBOUR: 'it returns false'. Refute it at one input. -/
def crcAddsWrong : ChangeSpec := { name := "crcAdds", fn := fun _ => fun
  | [d1, d2, d3] => { results := [.lit (.bool false)], args := [d1, d2, d3] }
  | _ => none }
def CrcAddsWrongFalsely : Prop := crcAddsRow.holds Tryd.pinned (OpenSpec.ofChange crcAddsWrong)

/-- 'colophonlaw04.CrcTwice': WHATEVER THE INPUT: true; the input reads as it did. -/
def crcTwiceSpec : ChangeSpec := { name := "crcTwice", fn := fun _ => fun
  | [d] => { results := [.lit (.bool true)], args := [d] }
  | _ => none }
def crcTwiceRow : OpenClaim := { program := "ytfpmipfegjchmaadoor", sum := "7064e5d72e11bfe960e66854eaf3fe3d9aece0fbe04277f20a176bc0f1836c0d", func := "colophon/colophonlaw04.CrcTwice", spec := "crcTwice", named := ["colophon/crc.lowerHalf", "colophon/crc.upperHalf"], apart := false, laid := [("colophon/crc.lowerHalf", laid_colophon_crc_lowerHalf), ("colophon/crc.upperHalf", laid_colophon_crc_upperHalf)] }
def CrcTwiceSaid : Prop := crcTwiceRow.holds Tryd.pinned (OpenSpec.ofChange crcTwiceSpec)

/-- ITS FALSE NEIGHBOUR: 'it returns false'. Refute it at one input. -/
def crcTwiceWrong : ChangeSpec := { name := "crcTwice", fn := fun _ => fun
  | [d] => { results := [.lit (.bool false)], args := [d] }
  | _ => none }
def CrcTwiceWrongFalsely : Prop := crcTwiceRow.holds Tryd.pinned (OpenSpec.ofChange crcTwiceWrong)

/- THE SECOND FORM. 'bulk': how many values and letters a reading holds, each counted each time it is reached (what is shared counts as often as it is met; a slice's spare places count too). A statement '..UptoSaid' is the law's where the arguments, and the package variables that the reading takes, are together of bulk at most 1048576: NARROWER than '..Said'. Prove '..Said' where nothing that the law and all that it calls make is longer than what came in: it says more and counts as full. Else prove '..UptoSaid'. A law counts once. -/
mutual
def uptoBulk {H : Type} : DataW H → Nat
  | .lit (.string bytes) => bytes.length + 1
  | .lit _ => 1
  | .nil => 1
  | .ptr d => uptoBulk d + 1
  | .slice elems spare => uptoBulkAll elems + uptoBulkAll spare + 1
  | .agg parts => uptoBulkAll parts + 1
  | .iface _ d => uptoBulk d + 1
  | .map entries => uptoBulkEntries entries + 1
  | .held _ => 1
def uptoBulkAll {H : Type} : List (DataW H) → Nat
  | [] => 0
  | d :: r => uptoBulk d + uptoBulkAll r
def uptoBulkEntries {H : Type} : List (Lit × DataW H) → Nat
  | [] => 0
  | x :: r => uptoBulkEntry x + uptoBulkEntries r
def uptoBulkEntry {H : Type} : Lit × DataW H → Nat
  | (.string bytes, d) => bytes.length + uptoBulk d + 1
  | (_, d) => uptoBulk d + 1
 end
def uptoSmall : (H : Type) → List (DataW H) → Bool := fun _ ds => decide (uptoBulkAll ds ≤ 1048576)
def OpenSpec.upto (s : _root_.Go.ChangeSpec) : _root_.Go.OpenSpec := { _root_.Go.OpenSpec.ofChange s with cond := some uptoSmall }

/-- 'colophonlaw04.CrcPuts', WHERE WHAT IT READS IS OF BULK AT MOST 1048576: true; the input reads as it did. -/
def crcPutsUptoRow : OpenClaim := { program := "ytfpmipfegjchmaadoor", sum := "7064e5d72e11bfe960e66854eaf3fe3d9aece0fbe04277f20a176bc0f1836c0d", func := "colophon/colophonlaw04.CrcPuts", spec := "crcPuts", named := ["colophon/crc.lowerHalf", "colophon/crc.upperHalf"], apart := false, laid := [("colophon/crc.lowerHalf", laid_colophon_crc_lowerHalf), ("colophon/crc.upperHalf", laid_colophon_crc_upperHalf)], narrowed := true }
def CrcPutsUptoSaid : Prop := crcPutsUptoRow.holds Tryd.pinned (OpenSpec.upto crcPutsSpec)

/-- 'colophonlaw04.CrcCuts', WHERE WHAT IT READS IS OF BULK AT MOST 1048576: true; the input reads as it did. -/
def crcCutsUptoRow : OpenClaim := { program := "ytfpmipfegjchmaadoor", sum := "7064e5d72e11bfe960e66854eaf3fe3d9aece0fbe04277f20a176bc0f1836c0d", func := "colophon/colophonlaw04.CrcCuts", spec := "crcCuts", named := ["colophon/crc.lowerHalf", "colophon/crc.upperHalf"], apart := false, laid := [("colophon/crc.lowerHalf", laid_colophon_crc_lowerHalf), ("colophon/crc.upperHalf", laid_colophon_crc_upperHalf)], narrowed := true }
def CrcCutsUptoSaid : Prop := crcCutsUptoRow.holds Tryd.pinned (OpenSpec.upto crcCutsSpec)

/-- 'colophonlaw04.CrcRows', WHERE WHAT IT READS IS OF BULK AT MOST 1048576: true; the input reads as it did. -/
def crcRowsUptoRow : OpenClaim := { program := "ytfpmipfegjchmaadoor", sum := "7064e5d72e11bfe960e66854eaf3fe3d9aece0fbe04277f20a176bc0f1836c0d", func := "colophon/colophonlaw04.CrcRows", spec := "crcRows", named := ["colophon/crc.lowerHalf", "colophon/crc.upperHalf"], apart := false, laid := [("colophon/crc.lowerHalf", laid_colophon_crc_lowerHalf), ("colophon/crc.upperHalf", laid_colophon_crc_upperHalf)], narrowed := true }
def CrcRowsUptoSaid : Prop := crcRowsUptoRow.holds Tryd.pinned (OpenSpec.upto crcRowsSpec)

/-- 'colophonlaw04.CrcAdds', WHERE WHAT IT READS IS OF BULK AT MOST 1048576: true; the input reads as it did. -/
def crcAddsUptoRow : OpenClaim := { program := "ytfpmipfegjchmaadoor", sum := "7064e5d72e11bfe960e66854eaf3fe3d9aece0fbe04277f20a176bc0f1836c0d", func := "colophon/colophonlaw04.CrcAdds", spec := "crcAdds", named := ["colophon/crc.lowerHalf", "colophon/crc.upperHalf"], apart := false, laid := [("colophon/crc.lowerHalf", laid_colophon_crc_lowerHalf), ("colophon/crc.upperHalf", laid_colophon_crc_upperHalf)], narrowed := true }
def CrcAddsUptoSaid : Prop := crcAddsUptoRow.holds Tryd.pinned (OpenSpec.upto crcAddsSpec)

/-- 'colophonlaw04.CrcTwice', WHERE WHAT IT READS IS OF BULK AT MOST 1048576: true; the input reads as it did. -/
def crcTwiceUptoRow : OpenClaim := { program := "ytfpmipfegjchmaadoor", sum := "7064e5d72e11bfe960e66854eaf3fe3d9aece0fbe04277f20a176bc0f1836c0d", func := "colophon/colophonlaw04.CrcTwice", spec := "crcTwice", named := ["colophon/crc.lowerHalf", "colophon/crc.upperHalf"], apart := false, laid := [("colophon/crc.lowerHalf", laid_colophon_crc_lowerHalf), ("colophon/crc.upperHalf", laid_colophon_crc_upperHalf)], narrowed := true }
def CrcTwiceUptoSaid : Prop := crcTwiceUptoRow.holds Tryd.pinned (OpenSpec.upto crcTwiceSpec)

end Rows
end Go.Proofs.YtfpmipfegjchmaaDoor
