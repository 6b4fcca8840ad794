/-
  NARROWER THAN 'FOR EVERY INPUT', by the rows' own cells (each row's printed sentence says how): ImageBuilds: laid · ImageOpens: laid · ImageRows: laid · ImageMoves: laid · ImageApart: laid.
  DERIVED. THE GIVEN ROWS OF THIS SEAT. 5 by the template 'for every input the law returns true; each argument reads behind the call as it read before'; 0 by the template 'total and deterministic' (their statements: YtbepoohphmicdaaDoorTotals.lean).
  GIVEN WITH THE SEED: the statements are not yours to turn. If you find one false, say at which input.
  Laid BY PROGRAM, IN A SANDBOX (cutbox-rows.mjs): the forced cells as the released guide's own fill.sh prints them over the translation a7c67231d5faa2ce… (all of the seat's roots in one cut). By AI agents, Wed Nov 11 2026. No macro, syntax, notation, axiom, sorry.
-/
import Derived.Test.YtbepoohphmicdaaDoorChecked
import GoSem.Claim
import GoSem.ClaimJoined
import GoSem.ClaimMapViews
import Derived.JoinedTies
import Derived.KernelRfl
namespace Go.Proofs.YtbepoohphmicdaaDoor
/- THE CELL 'sum', in the pinned program and in every row, IS THE sha256 OF THE DUMP (.gsa) THAT YtbepoohphmicdaaDoorProg.lean LOADS. Nothing in Lean hashes anything: it is a label: what it is worth is what the hold of that sum in a sandbox is worth. -/
noncomputable def Tryd.pinned : Pinned := { name := "ytbepoohphmicdaadoor", sum := "a7c67231d5faa2ce79ea54d49005da1d594feada3eb3ded96b775da5fbb0d38e", checked := Tryd.checked }
namespace Rows
def none {H : Type} : Left H := { results := [], args := [] }

/- WHAT THE LISTED PACKAGE-LEVEL VARIABLES READ AS WHEN THE CALL BEGINS. Each datum BY PROGRAM (the guide's laid-datum.mjs) off the statement by which the dump's own 'gosem.cut.vars' lays the variable. In a bare row this is a premise. The card (YtbepoohphmicdaaDoorCards.lean) ties it to the program's text. -/
def laid_colophon_crc_lowerHalf {H : Type} : DataW H := .agg [.lit (.int .u32 0), .lit (.int .u32 1996959894), .lit (.int .u32 3993919788), .lit (.int .u32 2567524794), .lit (.int .u32 124634137), .lit (.int .u32 1886057615), .lit (.int .u32 3915621685), .lit (.int .u32 2657392035), .lit (.int .u32 249268274), .lit (.int .u32 2044508324), .lit (.int .u32 3772115230), .lit (.int .u32 2547177864), .lit (.int .u32 162941995), .lit (.int .u32 2125561021), .lit (.int .u32 3887607047), .lit (.int .u32 2428444049)]
def laid_colophon_crc_upperHalf {H : Type} : DataW H := .agg [.lit (.int .u32 0), .lit (.int .u32 498536548), .lit (.int .u32 997073096), .lit (.int .u32 651767980), .lit (.int .u32 1994146192), .lit (.int .u32 1802195444), .lit (.int .u32 1303535960), .lit (.int .u32 1342533948), .lit (.int .u32 3988292384), .lit (.int .u32 4027552580), .lit (.int .u32 3604390888), .lit (.int .u32 3412177804), .lit (.int .u32 2607071920), .lit (.int .u32 2262029012), .lit (.int .u32 2685067896), .lit (.int .u32 3183342108)]

/-- 'colophonlaw06.ImageBuilds': WHATEVER THE INPUT: true; the input reads as it did. -/
def imageBuildsSpec : ChangeSpec := { name := "imageBuilds", fn := fun _ => fun
  | [d1, d2, d3] => { results := [.lit (.bool true)], args := [d1, d2, d3] }
  | _ => none }
def imageBuildsRow : OpenClaim := { program := "ytbepoohphmicdaadoor", sum := "a7c67231d5faa2ce79ea54d49005da1d594feada3eb3ded96b775da5fbb0d38e", func := "colophon/colophonlaw06.ImageBuilds", spec := "imageBuilds", unfollowed := true, recurses := true, named := ["colophon/crc.lowerHalf", "colophon/crc.upperHalf"], apart := false, laid := [("colophon/crc.lowerHalf", laid_colophon_crc_lowerHalf), ("colophon/crc.upperHalf", laid_colophon_crc_upperHalf)] }
def ImageBuildsSaid : Prop := imageBuildsRow.holds Tryd.pinned (OpenSpec.ofChange imageBuildsSpec)

/-- ITS FALSE NEIGHBOUR: 'it returns false'. Refute it at one input. -/
def imageBuildsWrong : ChangeSpec := { name := "imageBuilds", fn := fun _ => fun
  | [d1, d2, d3] => { results := [.lit (.bool false)], args := [d1, d2, d3] }
  | _ => none }
def ImageBuildsWrongFalsely : Prop := imageBuildsRow.holds Tryd.pinned (OpenSpec.ofChange imageBuildsWrong)

/-- 'colophonlaw06.ImageOpens': WHATEVER THE INPUT: true; the input reads as it did. -/
def imageOpensSpec : ChangeSpec := { name := "imageOpens", fn := fun _ => fun
  | [d1, d2] => { results := [.lit (.bool true)], args := [d1, d2] }
  | _ => none }
def imageOpensRow : OpenClaim := { program := "ytbepoohphmicdaadoor", sum := "a7c67231d5faa2ce79ea54d49005da1d594feada3eb3ded96b775da5fbb0d38e", func := "colophon/colophonlaw06.ImageOpens", spec := "imageOpens", unfollowed := true, recurses := true, named := ["colophon/crc.lowerHalf", "colophon/crc.upperHalf"], apart := false, laid := [("colophon/crc.lowerHalf", laid_colophon_crc_lowerHalf), ("colophon/crc.upperHalf", laid_colophon_crc_upperHalf)] }
def ImageOpensSaid : Prop := imageOpensRow.holds Tryd.pinned (OpenSpec.ofChange imageOpensSpec)

/-- ITS FALSE NEIGHBOUR: 'it returns false'. Refute it at one input. -/
def imageOpensWrong : ChangeSpec := { name := "imageOpens", fn := fun _ => fun
  | [d1, d2] => { results := [.lit (.bool false)], args := [d1, d2] }
  | _ => none }
def ImageOpensWrongFalsely : Prop := imageOpensRow.holds Tryd.pinned (OpenSpec.ofChange imageOpensWrong)

/-- 'colophonlaw06.ImageRows': WHATEVER THE INPUT: true; the input reads as it did. -/
def imageRowsSpec : ChangeSpec := { name := "imageRows", fn := fun _ => fun
  | [d1, d2, d3] => { results := [.lit (.bool true)], args := [d1, d2, d3] }
  | _ => none }
def imageRowsRow : OpenClaim := { program := "ytbepoohphmicdaadoor", sum := "a7c67231d5faa2ce79ea54d49005da1d594feada3eb3ded96b775da5fbb0d38e", func := "colophon/colophonlaw06.ImageRows", spec := "imageRows", unfollowed := true, recurses := true, named := ["colophon/crc.lowerHalf", "colophon/crc.upperHalf"], apart := false, laid := [("colophon/crc.lowerHalf", laid_colophon_crc_lowerHalf), ("colophon/crc.upperHalf", laid_colophon_crc_upperHalf)] }
def ImageRowsSaid : Prop := imageRowsRow.holds Tryd.pinned (OpenSpec.ofChange imageRowsSpec)

/-- ITS FALSE NEIGHBOUR: 'it returns false'. Refute it at one input. -/
def imageRowsWrong : ChangeSpec := { name := "imageRows", fn := fun _ => fun
  | [d1, d2, d3] => { results := [.lit (.bool false)], args := [d1, d2, d3] }
  | _ => none }
def ImageRowsWrongFalsely : Prop := imageRowsRow.holds Tryd.pinned (OpenSpec.ofChange imageRowsWrong)

/-- 'colophonlaw06.ImageMoves': WHATEVER THE INPUT: true; the input reads as it did. -/
def imageMovesSpec : ChangeSpec := { name := "imageMoves", fn := fun _ => fun
  | [d1, d2, d3] => { results := [.lit (.bool true)], args := [d1, d2, d3] }
  | _ => none }
def imageMovesRow : OpenClaim := { program := "ytbepoohphmicdaadoor", sum := "a7c67231d5faa2ce79ea54d49005da1d594feada3eb3ded96b775da5fbb0d38e", func := "colophon/colophonlaw06.ImageMoves", spec := "imageMoves", unfollowed := true, recurses := true, named := ["colophon/crc.lowerHalf", "colophon/crc.upperHalf"], apart := false, laid := [("colophon/crc.lowerHalf", laid_colophon_crc_lowerHalf), ("colophon/crc.upperHalf", laid_colophon_crc_upperHalf)] }
def ImageMovesSaid : Prop := imageMovesRow.holds Tryd.pinned (OpenSpec.ofChange imageMovesSpec)

/-- ITS FALSE NEIGHBOUR: 'it returns false'. Refute it at one input. -/
def imageMovesWrong : ChangeSpec := { name := "imageMoves", fn := fun _ => fun
  | [d1, d2, d3] => { results := [.lit (.bool false)], args := [d1, d2, d3] }
  | _ => none }
def ImageMovesWrongFalsely : Prop := imageMovesRow.holds Tryd.pinned (OpenSpec.ofChange imageMovesWrong)

/-- 'colophonlaw06.ImageApart': WHATEVER THE INPUT: true; the input reads as it did. -/
def imageApartSpec : ChangeSpec := { name := "imageApart", fn := fun _ => fun
  | [d1, d2] => { results := [.lit (.bool true)], args := [d1, d2] }
  | _ => none }
def imageApartRow : OpenClaim := { program := "ytbepoohphmicdaadoor", sum := "a7c67231d5faa2ce79ea54d49005da1d594feada3eb3ded96b775da5fbb0d38e", func := "colophon/colophonlaw06.ImageApart", spec := "imageApart", unfollowed := true, recurses := true, named := ["colophon/crc.lowerHalf", "colophon/crc.upperHalf"], apart := false, laid := [("colophon/crc.lowerHalf", laid_colophon_crc_lowerHalf), ("colophon/crc.upperHalf", laid_colophon_crc_upperHalf)] }
def ImageApartSaid : Prop := imageApartRow.holds Tryd.pinned (OpenSpec.ofChange imageApartSpec)

/-- ITS FALSE NEIGHBOUR: 'it returns false'. Refute it at one input. -/
def imageApartWrong : ChangeSpec := { name := "imageApart", fn := fun _ => fun
  | [d1, d2] => { results := [.lit (.bool false)], args := [d1, d2] }
  | _ => none }
def ImageApartWrongFalsely : Prop := imageApartRow.holds Tryd.pinned (OpenSpec.ofChange imageApartWrong)

/- THE SECOND FORM. 'bulk': how many values and letters a reading holds, each counted each time it is reached (what is shared counts as often as it is met; a slice's spare places count too). A statement '..UptoSaid' is the law's where the arguments, and the package variables that the reading takes, are together of bulk at most 1048576: NARROWER than '..Said'. Prove '..Said' where nothing that the law and all that it calls make is longer than what came in: it says more and counts as full. Else prove '..UptoSaid'. A law counts once. -/
mutual
def uptoBulk {H : Type} : DataW H → Nat
  | .lit (.string bytes) => bytes.length + 1
  | .lit _ => 1
  | .nil => 1
  | .ptr d => uptoBulk d + 1
  | .slice elems spare => uptoBulkAll elems + uptoBulkAll spare + 1
  | .agg parts => uptoBulkAll parts + 1
  | .iface _ d => uptoBulk d + 1
  | .map entries => uptoBulkEntries entries + 1
  | .held _ => 1
def uptoBulkAll {H : Type} : List (DataW H) → Nat
  | [] => 0
  | d :: r => uptoBulk d + uptoBulkAll r
def uptoBulkEntries {H : Type} : List (Lit × DataW H) → Nat
  | [] => 0
  | x :: r => uptoBulkEntry x + uptoBulkEntries r
def uptoBulkEntry {H : Type} : Lit × DataW H → Nat
  | (.string bytes, d) => bytes.length + uptoBulk d + 1
  | (_, d) => uptoBulk d + 1
 end
def uptoSmall : (H : Type) → List (DataW H) → Bool := fun _ ds => decide (uptoBulkAll ds ≤ 1048576)
def OpenSpec.upto (s : _root_.Go.ChangeSpec) : _root_.Go.OpenSpec := { _root_.Go.OpenSpec.ofChange s with cond := some uptoSmall }

/-- 'colophonlaw06.ImageBuilds', WHERE WHAT IT READS IS OF BULK AT MOST 1048576: true; the input reads as it did. -/
def imageBuildsUptoRow : OpenClaim := { program := "ytbepoohphmicdaadoor", sum := "a7c67231d5faa2ce79ea54d49005da1d594feada3eb3ded96b775da5fbb0d38e", func := "colophon/colophonlaw06.ImageBuilds", spec := "imageBuilds", unfollowed := true, recurses := true, named := ["colophon/crc.lowerHalf", "colophon/crc.upperHalf"], apart := false, laid := [("colophon/crc.lowerHalf", laid_colophon_crc_lowerHalf), ("colophon/crc.upperHalf", laid_colophon_crc_upperHalf)], narrowed := true }
def ImageBuildsUptoSaid : Prop := imageBuildsUptoRow.holds Tryd.pinned (OpenSpec.upto imageBuildsSpec)

/-- 'colophonlaw06.ImageOpens', WHERE WHAT IT READS IS OF BULK AT MOST 1048576: true; the input reads as it did. -/
def imageOpensUptoRow : OpenClaim := { program := "ytbepoohphmicdaadoor", sum := "a7c67231d5faa2ce79ea54d49005da1d594feada3eb3ded96b775da5fbb0d38e", func := "colophon/colophonlaw06.ImageOpens", spec := "imageOpens", unfollowed := true, recurses := true, named := ["colophon/crc.lowerHalf", "colophon/crc.upperHalf"], apart := false, laid := [("colophon/crc.lowerHalf", laid_colophon_crc_lowerHalf), ("colophon/crc.upperHalf", laid_colophon_crc_upperHalf)], narrowed := true }
def ImageOpensUptoSaid : Prop := imageOpensUptoRow.holds Tryd.pinned (OpenSpec.upto imageOpensSpec)

/-- 'colophonlaw06.ImageRows', WHERE WHAT IT READS IS OF BULK AT MOST 1048576: true; the input reads as it did. -/
def imageRowsUptoRow : OpenClaim := { program := "ytbepoohphmicdaadoor", sum := "a7c67231d5faa2ce79ea54d49005da1d594feada3eb3ded96b775da5fbb0d38e", func := "colophon/colophonlaw06.ImageRows", spec := "imageRows", unfollowed := true, recurses := true, named := ["colophon/crc.lowerHalf", "colophon/crc.upperHalf"], apart := false, laid := [("colophon/crc.lowerHalf", laid_colophon_crc_lowerHalf), ("colophon/crc.upperHalf", laid_colophon_crc_upperHalf)], narrowed := true }
def ImageRowsUptoSaid : Prop := imageRowsUptoRow.holds Tryd.pinned (OpenSpec.upto imageRowsSpec)

/-- 'colophonlaw06.ImageMoves', WHERE WHAT IT READS IS OF BULK AT MOST 1048576: true; the input reads as it did. -/
def imageMovesUptoRow : OpenClaim := { program := "ytbepoohphmicdaadoor", sum := "a7c67231d5faa2ce79ea54d49005da1d594feada3eb3ded96b775da5fbb0d38e", func := "colophon/colophonlaw06.ImageMoves", spec := "imageMoves", unfollowed := true, recurses := true, named := ["colophon/crc.lowerHalf", "colophon/crc.upperHalf"], apart := false, laid := [("colophon/crc.lowerHalf", laid_colophon_crc_lowerHalf), ("colophon/crc.upperHalf", laid_colophon_crc_upperHalf)], narrowed := true }
def ImageMovesUptoSaid : Prop := imageMovesUptoRow.holds Tryd.pinned (OpenSpec.upto imageMovesSpec)

/-- 'colophonlaw06.ImageApart', WHERE WHAT IT READS IS OF BULK AT MOST 1048576: true; the input reads as it did. -/
def imageApartUptoRow : OpenClaim := { program := "ytbepoohphmicdaadoor", sum := "a7c67231d5faa2ce79ea54d49005da1d594feada3eb3ded96b775da5fbb0d38e", func := "colophon/colophonlaw06.ImageApart", spec := "imageApart", unfollowed := true, recurses := true, named := ["colophon/crc.lowerHalf", "colophon/crc.upperHalf"], apart := false, laid := [("colophon/crc.lowerHalf", laid_colophon_crc_lowerHalf), ("colophon/crc.upperHalf", laid_colophon_crc_upperHalf)], narrowed := true }
def ImageApartUptoSaid : Prop := imageApartUptoRow.holds Tryd.pinned (OpenSpec.upto imageApartSpec)

end Rows
end Go.Proofs.YtbepoohphmicdaaDoor
