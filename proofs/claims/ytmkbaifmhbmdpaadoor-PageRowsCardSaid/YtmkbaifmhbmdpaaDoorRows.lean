/-
  NARROWER THAN 'FOR EVERY INPUT', by the rows' own cells (each row's printed sentence says how): PagePuts: laid · PageGets: laid · PageRows: laid · PageCounts: laid · PageApart: laid.
  DERIVED. THE GIVEN ROWS OF THIS SEAT. 5 by the template 'for every input the law returns true; each argument reads behind the call as it read before'; 0 by the template 'total and deterministic' (their statements: YtmkbaifmhbmdpaaDoorTotals.lean).
  GIVEN WITH THE SEED: the statements are not yours to turn. If you find one false, say at which input.
  Laid BY PROGRAM, IN A SANDBOX (cutbox-rows.mjs): the forced cells as the released guide's own fill.sh prints them over the translation 387bbebef4f6d573… (all of the seat's roots in one cut). By AI agents, Wed Nov 11 2026. No macro, syntax, notation, axiom, sorry.
-/
import Derived.Test.YtmkbaifmhbmdpaaDoorChecked
import GoSem.Claim
import GoSem.ClaimJoined
import GoSem.ClaimMapViews
import Derived.JoinedTies
import Derived.KernelRfl
namespace Go.Proofs.YtmkbaifmhbmdpaaDoor
/- THE CELL 'sum', in the pinned program and in every row, IS THE sha256 OF THE DUMP (.gsa) THAT YtmkbaifmhbmdpaaDoorProg.lean LOADS. Nothing in Lean hashes anything: it is a label: what it is worth is what the hold of that sum in a sandbox is worth. -/
noncomputable def Tryd.pinned : Pinned := { name := "ytmkbaifmhbmdpaadoor", sum := "387bbebef4f6d57370c0ff979ffeb3402ff0a3fe85e40431f16501a6f5710c64", checked := Tryd.checked }
namespace Rows
def none {H : Type} : Left H := { results := [], args := [] }

/- WHAT THE LISTED PACKAGE-LEVEL VARIABLES READ AS WHEN THE CALL BEGINS. Each datum BY PROGRAM (the guide's laid-datum.mjs) off the statement by which the dump's own 'gosem.cut.vars' lays the variable. In a bare row this is a premise. The card (YtmkbaifmhbmdpaaDoorCards.lean) ties it to the program's text. -/
def laid_colophon_crc_lowerHalf {H : Type} : DataW H := .agg [.lit (.int .u32 0), .lit (.int .u32 1996959894), .lit (.int .u32 3993919788), .lit (.int .u32 2567524794), .lit (.int .u32 124634137), .lit (.int .u32 1886057615), .lit (.int .u32 3915621685), .lit (.int .u32 2657392035), .lit (.int .u32 249268274), .lit (.int .u32 2044508324), .lit (.int .u32 3772115230), .lit (.int .u32 2547177864), .lit (.int .u32 162941995), .lit (.int .u32 2125561021), .lit (.int .u32 3887607047), .lit (.int .u32 2428444049)]
def laid_colophon_crc_upperHalf {H : Type} : DataW H := .agg [.lit (.int .u32 0), .lit (.int .u32 498536548), .lit (.int .u32 997073096), .lit (.int .u32 651767980), .lit (.int .u32 1994146192), .lit (.int .u32 1802195444), .lit (.int .u32 1303535960), .lit (.int .u32 1342533948), .lit (.int .u32 3988292384), .lit (.int .u32 4027552580), .lit (.int .u32 3604390888), .lit (.int .u32 3412177804), .lit (.int .u32 2607071920), .lit (.int .u32 2262029012), .lit (.int .u32 2685067896), .lit (.int .u32 3183342108)]

/-- 'colophonlaw05.PagePuts': WHATEVER THE INPUT: true; the input reads as it did. -/
def pagePutsSpec : ChangeSpec := { name := "pagePuts", fn := fun _ => fun
  | [d1, d2] => { results := [.lit (.bool true)], args := [d1, d2] }
  | _ => none }
def pagePutsRow : OpenClaim := { program := "ytmkbaifmhbmdpaadoor", sum := "387bbebef4f6d57370c0ff979ffeb3402ff0a3fe85e40431f16501a6f5710c64", func := "colophon/colophonlaw05.PagePuts", spec := "pagePuts", named := ["colophon/crc.lowerHalf", "colophon/crc.upperHalf"], apart := false, laid := [("colophon/crc.lowerHalf", laid_colophon_crc_lowerHalf), ("colophon/crc.upperHalf", laid_colophon_crc_upperHalf)] }
def PagePutsSaid : Prop := pagePutsRow.holds Tryd.pinned (OpenSpec.ofChange pagePutsSpec)

/-- ITS FALSE NEIGHBOUR: 'it returns false'. Refute it at one input. -/
def pagePutsWrong : ChangeSpec := { name := "pagePuts", fn := fun _ => fun
  | [d1, d2] => { results := [.lit (.bool false)], args := [d1, d2] }
  | _ => none }
def PagePutsWrongFalsely : Prop := pagePutsRow.holds Tryd.pinned (OpenSpec.ofChange pagePutsWrong)

/-- 'colophonlaw05.PageGets': WHATEVER THE INPUT: true; the input reads as it did. -/
def pageGetsSpec : ChangeSpec := { name := "pageGets", fn := fun _ => fun
  | [d1, d2] => { results := [.lit (.bool true)], args := [d1, d2] }
  | _ => none }
def pageGetsRow : OpenClaim := { program := "ytmkbaifmhbmdpaadoor", sum := "387bbebef4f6d57370c0ff979ffeb3402ff0a3fe85e40431f16501a6f5710c64", func := "colophon/colophonlaw05.PageGets", spec := "pageGets", named := ["colophon/crc.lowerHalf", "colophon/crc.upperHalf"], apart := false, laid := [("colophon/crc.lowerHalf", laid_colophon_crc_lowerHalf), ("colophon/crc.upperHalf", laid_colophon_crc_upperHalf)] }
def PageGetsSaid : Prop := pageGetsRow.holds Tryd.pinned (OpenSpec.ofChange pageGetsSpec)

/-- ITS FALSE NEIGHBOUR: 'it returns false'. Refute it at one input. -/
def pageGetsWrong : ChangeSpec := { name := "pageGets", fn := fun _ => fun
  | [d1, d2] => { results := [.lit (.bool false)], args := [d1, d2] }
  | _ => none }
def PageGetsWrongFalsely : Prop := pageGetsRow.holds Tryd.pinned (OpenSpec.ofChange pageGetsWrong)

/-- 'colophonlaw05.PageRows': WHATEVER THE INPUT: true; the input reads as it did. -/
def pageRowsSpec : ChangeSpec := { name := "pageRows", fn := fun _ => fun
  | [d1, d2, d3] => { results := [.lit (.bool true)], args := [d1, d2, d3] }
  | _ => none }
def pageRowsRow : OpenClaim := { program := "ytmkbaifmhbmdpaadoor", sum := "387bbebef4f6d57370c0ff979ffeb3402ff0a3fe85e40431f16501a6f5710c64", func := "colophon/colophonlaw05.PageRows", spec := "pageRows", named := ["colophon/crc.lowerHalf", "colophon/crc.upperHalf"], apart := false, laid := [("colophon/crc.lowerHalf", laid_colophon_crc_lowerHalf), ("colophon/crc.upperHalf", laid_colophon_crc_upperHalf)] }
def PageRowsSaid : Prop := pageRowsRow.holds Tryd.pinned (OpenSpec.ofChange pageRowsSpec)

/-- ITS FALSE NEIGHBOUR: 'it returns false'. Refute it at one input. -/
def pageRowsWrong : ChangeSpec := { name := "pageRows", fn := fun _ => fun
  | [d1, d2, d3] => { results := [.lit (.bool false)], args := [d1, d2, d3] }
  | _ => none }
def PageRowsWrongFalsely : Prop := pageRowsRow.holds Tryd.pinned (OpenSpec.ofChange pageRowsWrong)

/-- 'colophonlaw05.PageCounts': WHATEVER THE INPUT: true; the input reads as it did. -/
def pageCountsSpec : ChangeSpec := { name := "pageCounts", fn := fun _ => fun
  | [d] => { results := [.lit (.bool true)], args := [d] }
  | _ => none }
def pageCountsRow : OpenClaim := { program := "ytmkbaifmhbmdpaadoor", sum := "387bbebef4f6d57370c0ff979ffeb3402ff0a3fe85e40431f16501a6f5710c64", func := "colophon/colophonlaw05.PageCounts", spec := "pageCounts", named := ["colophon/crc.lowerHalf", "colophon/crc.upperHalf"], apart := false, laid := [("colophon/crc.lowerHalf", laid_colophon_crc_lowerHalf), ("colophon/crc.upperHalf", laid_colophon_crc_upperHalf)] }
def PageCountsSaid : Prop := pageCountsRow.holds Tryd.pinned (OpenSpec.ofChange pageCountsSpec)

/-- ITS FALSE NEIGHBOUR: 'it returns false'. Refute it at one input. -/
def pageCountsWrong : ChangeSpec := { name := "pageCounts", fn := fun _ => fun
  | [d] => { results := [.lit (.bool false)], args := [d] }
  | _ => none }
def PageCountsWrongFalsely : Prop := pageCountsRow.holds Tryd.pinned (OpenSpec.ofChange pageCountsWrong)

/-- 'colophonlaw05.PageApart': WHATEVER THE INPUT: true; the input reads as it did. -/
def pageApartSpec : ChangeSpec := { name := "pageApart", fn := fun _ => fun
  | [d1, d2, d3] => { results := [.lit (.bool true)], args := [d1, d2, d3] }
  | _ => none }
def pageApartRow : OpenClaim := { program := "ytmkbaifmhbmdpaadoor", sum := "387bbebef4f6d57370c0ff979ffeb3402ff0a3fe85e40431f16501a6f5710c64", func := "colophon/colophonlaw05.PageApart", spec := "pageApart", named := ["colophon/crc.lowerHalf", "colophon/crc.upperHalf"], apart := false, laid := [("colophon/crc.lowerHalf", laid_colophon_crc_lowerHalf), ("colophon/crc.upperHalf", laid_colophon_crc_upperHalf)] }
def PageApartSaid : Prop := pageApartRow.holds Tryd.pinned (OpenSpec.ofChange pageApartSpec)

/-- ITS FALSE NEIGHBOUR: 'it returns false'. Refute it at one input. -/
def pageApartWrong : ChangeSpec := { name := "pageApart", fn := fun _ => fun
  | [d1, d2, d3] => { results := [.lit (.bool false)], args := [d1, d2, d3] }
  | _ => none }
def PageApartWrongFalsely : Prop := pageApartRow.holds Tryd.pinned (OpenSpec.ofChange pageApartWrong)

/- THE SECOND FORM. 'bulk': how many values and letters a reading holds, each counted each time it is reached (what is shared counts as often as it is met; a slice's spare places count too). A statement '..UptoSaid' is the law's where the arguments, and the package variables that the reading takes, are together of bulk at most 1048576: NARROWER than '..Said'. Prove '..Said' where nothing that the law and all that it calls make is longer than what came in: it says more and counts as full. Else prove '..UptoSaid'. A law counts once. -/
mutual
def uptoBulk {H : Type} : DataW H → Nat
  | .lit (.string bytes) => bytes.length + 1
  | .lit _ => 1
  | .nil => 1
  | .ptr d => uptoBulk d + 1
  | .slice elems spare => uptoBulkAll elems + uptoBulkAll spare + 1
  | .agg parts => uptoBulkAll parts + 1
  | .iface _ d => uptoBulk d + 1
  | .map entries => uptoBulkEntries entries + 1
  | .held _ => 1
def uptoBulkAll {H : Type} : List (DataW H) → Nat
  | [] => 0
  | d :: r => uptoBulk d + uptoBulkAll r
def uptoBulkEntries {H : Type} : List (Lit × DataW H) → Nat
  | [] => 0
  | x :: r => uptoBulkEntry x + uptoBulkEntries r
def uptoBulkEntry {H : Type} : Lit × DataW H → Nat
  | (.string bytes, d) => bytes.length + uptoBulk d + 1
  | (_, d) => uptoBulk d + 1
 end
def uptoSmall : (H : Type) → List (DataW H) → Bool := fun _ ds => decide (uptoBulkAll ds ≤ 1048576)
def OpenSpec.upto (s : _root_.Go.ChangeSpec) : _root_.Go.OpenSpec := { _root_.Go.OpenSpec.ofChange s with cond := some uptoSmall }

/-- 'colophonlaw05.PagePuts', WHERE WHAT IT READS IS OF BULK AT MOST 1048576: true; the input reads as it did. -/
def pagePutsUptoRow : OpenClaim := { program := "ytmkbaifmhbmdpaadoor", sum := "387bbebef4f6d57370c0ff979ffeb3402ff0a3fe85e40431f16501a6f5710c64", func := "colophon/colophonlaw05.PagePuts", spec := "pagePuts", named := ["colophon/crc.lowerHalf", "colophon/crc.upperHalf"], apart := false, laid := [("colophon/crc.lowerHalf", laid_colophon_crc_lowerHalf), ("colophon/crc.upperHalf", laid_colophon_crc_upperHalf)], narrowed := true }
def PagePutsUptoSaid : Prop := pagePutsUptoRow.holds Tryd.pinned (OpenSpec.upto pagePutsSpec)

/-- 'colophonlaw05.PageGets', WHERE WHAT IT READS IS OF BULK AT MOST 1048576: true; the input reads as it did. -/
def pageGetsUptoRow : OpenClaim := { program := "ytmkbaifmhbmdpaadoor", sum := "387bbebef4f6d57370c0ff979ffeb3402ff0a3fe85e40431f16501a6f5710c64", func := "colophon/colophonlaw05.PageGets", spec := "pageGets", named := ["colophon/crc.lowerHalf", "colophon/crc.upperHalf"], apart := false, laid := [("colophon/crc.lowerHalf", laid_colophon_crc_lowerHalf), ("colophon/crc.upperHalf", laid_colophon_crc_upperHalf)], narrowed := true }
def PageGetsUptoSaid : Prop := pageGetsUptoRow.holds Tryd.pinned (OpenSpec.upto pageGetsSpec)

/-- 'colophonlaw05.PageRows', WHERE WHAT IT READS IS OF BULK AT MOST 1048576: true; the input reads as it did. -/
def pageRowsUptoRow : OpenClaim := { program := "ytmkbaifmhbmdpaadoor", sum := "387bbebef4f6d57370c0ff979ffeb3402ff0a3fe85e40431f16501a6f5710c64", func := "colophon/colophonlaw05.PageRows", spec := "pageRows", named := ["colophon/crc.lowerHalf", "colophon/crc.upperHalf"], apart := false, laid := [("colophon/crc.lowerHalf", laid_colophon_crc_lowerHalf), ("colophon/crc.upperHalf", laid_colophon_crc_upperHalf)], narrowed := true }
def PageRowsUptoSaid : Prop := pageRowsUptoRow.holds Tryd.pinned (OpenSpec.upto pageRowsSpec)

/-- 'colophonlaw05.PageCounts', WHERE WHAT IT READS IS OF BULK AT MOST 1048576: true; the input reads as it did. -/
def pageCountsUptoRow : OpenClaim := { program := "ytmkbaifmhbmdpaadoor", sum := "387bbebef4f6d57370c0ff979ffeb3402ff0a3fe85e40431f16501a6f5710c64", func := "colophon/colophonlaw05.PageCounts", spec := "pageCounts", named := ["colophon/crc.lowerHalf", "colophon/crc.upperHalf"], apart := false, laid := [("colophon/crc.lowerHalf", laid_colophon_crc_lowerHalf), ("colophon/crc.upperHalf", laid_colophon_crc_upperHalf)], narrowed := true }
def PageCountsUptoSaid : Prop := pageCountsUptoRow.holds Tryd.pinned (OpenSpec.upto pageCountsSpec)

/-- 'colophonlaw05.PageApart', WHERE WHAT IT READS IS OF BULK AT MOST 1048576: true; the input reads as it did. -/
def pageApartUptoRow : OpenClaim := { program := "ytmkbaifmhbmdpaadoor", sum := "387bbebef4f6d57370c0ff979ffeb3402ff0a3fe85e40431f16501a6f5710c64", func := "colophon/colophonlaw05.PageApart", spec := "pageApart", named := ["colophon/crc.lowerHalf", "colophon/crc.upperHalf"], apart := false, laid := [("colophon/crc.lowerHalf", laid_colophon_crc_lowerHalf), ("colophon/crc.upperHalf", laid_colophon_crc_upperHalf)], narrowed := true }
def PageApartUptoSaid : Prop := pageApartUptoRow.holds Tryd.pinned (OpenSpec.upto pageApartSpec)

end Rows
end Go.Proofs.YtmkbaifmhbmdpaaDoor
