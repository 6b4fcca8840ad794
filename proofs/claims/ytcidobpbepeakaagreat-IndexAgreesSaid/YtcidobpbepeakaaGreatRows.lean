/-
  No cell of these rows narrows 'for every input' (looked for: loops, veiled, ifaces, maps, wideKeys, modest, calm, conditions, laid).
  DERIVED. THE GIVEN ROWS OF THIS SEAT. 5 by the template 'for every input the law returns true; each argument reads behind the call as it read before'; 0 by the template 'total and deterministic' (their statements: YtcidobpbepeakaaGreatTotals.lean).
  GIVEN WITH THE SEED: the statements are not yours to turn. If you find one false, say at which input.
  Laid BY PROGRAM, IN A SANDBOX (cutbox-rows.mjs): the forced cells as the released guide's own fill.sh prints them over the translation 76dd15d434e01210… (all of the seat's roots in one cut). By AI agents, Wed Nov 11 2026. No macro, syntax, notation, axiom, sorry.
-/
import Derived.Test.YtcidobpbepeakaaGreatChecked
import GoSem.Claim
import GoSem.ClaimJoined
import GoSem.ClaimMapViews
import Derived.JoinedTies
import Derived.KernelRfl
namespace Go.Proofs.YtcidobpbepeakaaGreat
/- THE CELL 'sum', in the pinned program and in every row, IS THE sha256 OF THE DUMP (.gsa) THAT YtcidobpbepeakaaGreatProg.lean LOADS. Nothing in Lean hashes anything: it is a label: what it is worth is what the hold of that sum in a sandbox is worth. -/
noncomputable def Tryz.pinned : Pinned := { name := "ytcidobpbepeakaagreat", sum := "76dd15d434e01210fdb94f96ae44c3ca9ee2b95a54c3cb33dbd3580d41fbd0cb", checked := Tryz.checked }
namespace Rows
def none {H : Type} : Left H := { results := [], args := [] }

/-- 'colophonlaw19.IndexCounts': WHATEVER THE INPUT: true; the input reads as it did. -/
def indexCountsSpec : ChangeSpec := { name := "indexCounts", fn := fun _ => fun
  | [d1, d2] => { results := [.lit (.bool true)], args := [d1, d2] }
  | _ => none }
def indexCountsRow : OpenClaim := { program := "ytcidobpbepeakaagreat", sum := "76dd15d434e01210fdb94f96ae44c3ca9ee2b95a54c3cb33dbd3580d41fbd0cb", func := "colophon/colophonlaw19.IndexCounts", spec := "indexCounts", unfollowed := true, recurses := true, apart := false }
def IndexCountsSaid : Prop := indexCountsRow.holds Tryz.pinned (OpenSpec.ofChange indexCountsSpec)

/-- ITS FALSE NEIGHBOUR: 'it returns false'. Refute it at one input. -/
def indexCountsWrong : ChangeSpec := { name := "indexCounts", fn := fun _ => fun
  | [d1, d2] => { results := [.lit (.bool false)], args := [d1, d2] }
  | _ => none }
def IndexCountsWrongFalsely : Prop := indexCountsRow.holds Tryz.pinned (OpenSpec.ofChange indexCountsWrong)

/-- 'colophonlaw19.IndexTops': WHATEVER THE INPUT: true; the input reads as it did. -/
def indexTopsSpec : ChangeSpec := { name := "indexTops", fn := fun _ => fun
  | [d1, d2, d3] => { results := [.lit (.bool true)], args := [d1, d2, d3] }
  | _ => none }
def indexTopsRow : OpenClaim := { program := "ytcidobpbepeakaagreat", sum := "76dd15d434e01210fdb94f96ae44c3ca9ee2b95a54c3cb33dbd3580d41fbd0cb", func := "colophon/colophonlaw19.IndexTops", spec := "indexTops", unfollowed := true, recurses := true, apart := false }
def IndexTopsSaid : Prop := indexTopsRow.holds Tryz.pinned (OpenSpec.ofChange indexTopsSpec)

/-- ITS FALSE NEIGHBOUR: 'it returns false'. Refute it at one input. -/
def indexTopsWrong : ChangeSpec := { name := "indexTops", fn := fun _ => fun
  | [d1, d2, d3] => { results := [.lit (.bool false)], args := [d1, d2, d3] }
  | _ => none }
def IndexTopsWrongFalsely : Prop := indexTopsRow.holds Tryz.pinned (OpenSpec.ofChange indexTopsWrong)

/-- 'colophonlaw19.IndexPlaces': WHATEVER THE INPUT: true; the input reads as it did. -/
def indexPlacesSpec : ChangeSpec := { name := "indexPlaces", fn := fun _ => fun
  | [d1, d2] => { results := [.lit (.bool true)], args := [d1, d2] }
  | _ => none }
def indexPlacesRow : OpenClaim := { program := "ytcidobpbepeakaagreat", sum := "76dd15d434e01210fdb94f96ae44c3ca9ee2b95a54c3cb33dbd3580d41fbd0cb", func := "colophon/colophonlaw19.IndexPlaces", spec := "indexPlaces", unfollowed := true, recurses := true, apart := false }
def IndexPlacesSaid : Prop := indexPlacesRow.holds Tryz.pinned (OpenSpec.ofChange indexPlacesSpec)

/-- ITS FALSE NEIGHBOUR: 'it returns false'. Refute it at one input. -/
def indexPlacesWrong : ChangeSpec := { name := "indexPlaces", fn := fun _ => fun
  | [d1, d2] => { results := [.lit (.bool false)], args := [d1, d2] }
  | _ => none }
def IndexPlacesWrongFalsely : Prop := indexPlacesRow.holds Tryz.pinned (OpenSpec.ofChange indexPlacesWrong)

/-- 'colophonlaw19.IndexAgrees': WHATEVER THE INPUT: true; the input reads as it did. -/
def indexAgreesSpec : ChangeSpec := { name := "indexAgrees", fn := fun _ => fun
  | [d1, d2, d3] => { results := [.lit (.bool true)], args := [d1, d2, d3] }
  | _ => none }
def indexAgreesRow : OpenClaim := { program := "ytcidobpbepeakaagreat", sum := "76dd15d434e01210fdb94f96ae44c3ca9ee2b95a54c3cb33dbd3580d41fbd0cb", func := "colophon/colophonlaw19.IndexAgrees", spec := "indexAgrees", unfollowed := true, recurses := true, apart := false }
def IndexAgreesSaid : Prop := indexAgreesRow.holds Tryz.pinned (OpenSpec.ofChange indexAgreesSpec)

/-- ITS FALSE NEIGHBOUR: 'it returns false'. Refute it at one input. -/
def indexAgreesWrong : ChangeSpec := { name := "indexAgrees", fn := fun _ => fun
  | [d1, d2, d3] => { results := [.lit (.bool false)], args := [d1, d2, d3] }
  | _ => none }
def IndexAgreesWrongFalsely : Prop := indexAgreesRow.holds Tryz.pinned (OpenSpec.ofChange indexAgreesWrong)

/-- 'colophonlaw19.IndexTwice': WHATEVER THE INPUT: true; the input reads as it did. -/
def indexTwiceSpec : ChangeSpec := { name := "indexTwice", fn := fun _ => fun
  | [d1, d2] => { results := [.lit (.bool true)], args := [d1, d2] }
  | _ => none }
def indexTwiceRow : OpenClaim := { program := "ytcidobpbepeakaagreat", sum := "76dd15d434e01210fdb94f96ae44c3ca9ee2b95a54c3cb33dbd3580d41fbd0cb", func := "colophon/colophonlaw19.IndexTwice", spec := "indexTwice", unfollowed := true, recurses := true, apart := false }
def IndexTwiceSaid : Prop := indexTwiceRow.holds Tryz.pinned (OpenSpec.ofChange indexTwiceSpec)

/-- ITS FALSE NEIGHBOUR: 'it returns false'. Refute it at one input. -/
def indexTwiceWrong : ChangeSpec := { name := "indexTwice", fn := fun _ => fun
  | [d1, d2] => { results := [.lit (.bool false)], args := [d1, d2] }
  | _ => none }
def IndexTwiceWrongFalsely : Prop := indexTwiceRow.holds Tryz.pinned (OpenSpec.ofChange indexTwiceWrong)

/- THE SECOND FORM. 'bulk': how many values and letters a reading holds, each counted each time it is reached (what is shared counts as often as it is met; a slice's spare places count too). A statement '..UptoSaid' is the law's where the arguments, and the package variables that the reading takes, are together of bulk at most 1048576: NARROWER than '..Said'. Prove '..Said' where nothing that the law and all that it calls make is longer than what came in: it says more and counts as full. Else prove '..UptoSaid'. A law counts once. -/
mutual
def uptoBulk {H : Type} : DataW H → Nat
  | .lit (.string bytes) => bytes.length + 1
  | .lit _ => 1
  | .nil => 1
  | .ptr d => uptoBulk d + 1
  | .slice elems spare => uptoBulkAll elems + uptoBulkAll spare + 1
  | .agg parts => uptoBulkAll parts + 1
  | .iface _ d => uptoBulk d + 1
  | .map entries => uptoBulkEntries entries + 1
  | .held _ => 1
def uptoBulkAll {H : Type} : List (DataW H) → Nat
  | [] => 0
  | d :: r => uptoBulk d + uptoBulkAll r
def uptoBulkEntries {H : Type} : List (Lit × DataW H) → Nat
  | [] => 0
  | x :: r => uptoBulkEntry x + uptoBulkEntries r
def uptoBulkEntry {H : Type} : Lit × DataW H → Nat
  | (.string bytes, d) => bytes.length + uptoBulk d + 1
  | (_, d) => uptoBulk d + 1
 end
def uptoSmall : (H : Type) → List (DataW H) → Bool := fun _ ds => decide (uptoBulkAll ds ≤ 1048576)
def OpenSpec.upto (s : _root_.Go.ChangeSpec) : _root_.Go.OpenSpec := { _root_.Go.OpenSpec.ofChange s with cond := some uptoSmall }

/-- 'colophonlaw19.IndexCounts', WHERE WHAT IT READS IS OF BULK AT MOST 1048576: true; the input reads as it did. -/
def indexCountsUptoRow : OpenClaim := { program := "ytcidobpbepeakaagreat", sum := "76dd15d434e01210fdb94f96ae44c3ca9ee2b95a54c3cb33dbd3580d41fbd0cb", func := "colophon/colophonlaw19.IndexCounts", spec := "indexCounts", unfollowed := true, recurses := true, apart := false, narrowed := true }
def IndexCountsUptoSaid : Prop := indexCountsUptoRow.holds Tryz.pinned (OpenSpec.upto indexCountsSpec)

/-- 'colophonlaw19.IndexTops', WHERE WHAT IT READS IS OF BULK AT MOST 1048576: true; the input reads as it did. -/
def indexTopsUptoRow : OpenClaim := { program := "ytcidobpbepeakaagreat", sum := "76dd15d434e01210fdb94f96ae44c3ca9ee2b95a54c3cb33dbd3580d41fbd0cb", func := "colophon/colophonlaw19.IndexTops", spec := "indexTops", unfollowed := true, recurses := true, apart := false, narrowed := true }
def IndexTopsUptoSaid : Prop := indexTopsUptoRow.holds Tryz.pinned (OpenSpec.upto indexTopsSpec)

/-- 'colophonlaw19.IndexPlaces', WHERE WHAT IT READS IS OF BULK AT MOST 1048576: true; the input reads as it did. -/
def indexPlacesUptoRow : OpenClaim := { program := "ytcidobpbepeakaagreat", sum := "76dd15d434e01210fdb94f96ae44c3ca9ee2b95a54c3cb33dbd3580d41fbd0cb", func := "colophon/colophonlaw19.IndexPlaces", spec := "indexPlaces", unfollowed := true, recurses := true, apart := false, narrowed := true }
def IndexPlacesUptoSaid : Prop := indexPlacesUptoRow.holds Tryz.pinned (OpenSpec.upto indexPlacesSpec)

/-- 'colophonlaw19.IndexAgrees', WHERE WHAT IT READS IS OF BULK AT MOST 1048576: true; the input reads as it did. -/
def indexAgreesUptoRow : OpenClaim := { program := "ytcidobpbepeakaagreat", sum := "76dd15d434e01210fdb94f96ae44c3ca9ee2b95a54c3cb33dbd3580d41fbd0cb", func := "colophon/colophonlaw19.IndexAgrees", spec := "indexAgrees", unfollowed := true, recurses := true, apart := false, narrowed := true }
def IndexAgreesUptoSaid : Prop := indexAgreesUptoRow.holds Tryz.pinned (OpenSpec.upto indexAgreesSpec)

/-- 'colophonlaw19.IndexTwice', WHERE WHAT IT READS IS OF BULK AT MOST 1048576: true; the input reads as it did. -/
def indexTwiceUptoRow : OpenClaim := { program := "ytcidobpbepeakaagreat", sum := "76dd15d434e01210fdb94f96ae44c3ca9ee2b95a54c3cb33dbd3580d41fbd0cb", func := "colophon/colophonlaw19.IndexTwice", spec := "indexTwice", unfollowed := true, recurses := true, apart := false, narrowed := true }
def IndexTwiceUptoSaid : Prop := indexTwiceUptoRow.holds Tryz.pinned (OpenSpec.upto indexTwiceSpec)

end Rows
end Go.Proofs.YtcidobpbepeakaaGreat
