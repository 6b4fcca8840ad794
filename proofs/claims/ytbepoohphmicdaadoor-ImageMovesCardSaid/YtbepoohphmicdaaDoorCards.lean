/-
  DERIVED. GIVEN WITH THE SEED: THE CARDS: each row of YtbepoohphmicdaaDoorRows.lean that lists a variable, with what it lists TIED to the program's text (the seventh form; the later family's looks); each row that meets fmt, with fmt's text TOLD by the authors' own Lean function (tested against real Go, not proved from fmt's source: count such statements apart). THE CARD IS WHAT COUNTS. Prove the row's statement (the work); the ties are given (YtbepoohphmicdaaDoorTie.lean); close each card by the builder's one call (the guide's Derived/Test/ToyasCard.lean, 'card_holds'). Laid BY PROGRAM, IN A SANDBOX (cutbox-door.mjs). By AI agents, Wed Nov 11 2026. No macro, syntax, notation, axiom, sorry.
-/
import Derived.Test.YtbepoohphmicdaaDoorRows
import GoSem.ClaimSeven
namespace Go.Proofs.YtbepoohphmicdaaDoor
namespace Rows

/-- THE TIED CARD OF 'colophonlaw06.ImageBuilds'. -/
def imageBuildsCard : Claim7 := { stood := { row := imageBuildsRow, standIns := [], harness := (true, "5fad133516373742c618d2956acec9ce0441603e7de0957d20150cc9a9a791f6"), looks := false }, kinds := [], alts := [], laidByText := true, laidKinds := [.data, .data], laidTests := true, laidLooks := .later }
def ImageBuildsCardSaid : Prop := Claim7.holds Tryd.pinned (.plain (OpenSpec.ofChange imageBuildsSpec)) imageBuildsCard

/-- THE TIED CARD OF 'colophonlaw06.ImageOpens'. -/
def imageOpensCard : Claim7 := { stood := { row := imageOpensRow, standIns := [], harness := (true, "5fad133516373742c618d2956acec9ce0441603e7de0957d20150cc9a9a791f6"), looks := false }, kinds := [], alts := [], laidByText := true, laidKinds := [.data, .data], laidTests := true, laidLooks := .later }
def ImageOpensCardSaid : Prop := Claim7.holds Tryd.pinned (.plain (OpenSpec.ofChange imageOpensSpec)) imageOpensCard

/-- THE TIED CARD OF 'colophonlaw06.ImageRows'. -/
def imageRowsCard : Claim7 := { stood := { row := imageRowsRow, standIns := [], harness := (true, "5fad133516373742c618d2956acec9ce0441603e7de0957d20150cc9a9a791f6"), looks := false }, kinds := [], alts := [], laidByText := true, laidKinds := [.data, .data], laidTests := true, laidLooks := .later }
def ImageRowsCardSaid : Prop := Claim7.holds Tryd.pinned (.plain (OpenSpec.ofChange imageRowsSpec)) imageRowsCard

/-- THE TIED CARD OF 'colophonlaw06.ImageMoves'. -/
def imageMovesCard : Claim7 := { stood := { row := imageMovesRow, standIns := [], harness := (true, "5fad133516373742c618d2956acec9ce0441603e7de0957d20150cc9a9a791f6"), looks := false }, kinds := [], alts := [], laidByText := true, laidKinds := [.data, .data], laidTests := true, laidLooks := .later }
def ImageMovesCardSaid : Prop := Claim7.holds Tryd.pinned (.plain (OpenSpec.ofChange imageMovesSpec)) imageMovesCard

/-- THE TIED CARD OF 'colophonlaw06.ImageApart'. -/
def imageApartCard : Claim7 := { stood := { row := imageApartRow, standIns := [], harness := (true, "5fad133516373742c618d2956acec9ce0441603e7de0957d20150cc9a9a791f6"), looks := false }, kinds := [], alts := [], laidByText := true, laidKinds := [.data, .data], laidTests := true, laidLooks := .later }
def ImageApartCardSaid : Prop := Claim7.holds Tryd.pinned (.plain (OpenSpec.ofChange imageApartSpec)) imageApartCard

/-- THE SECOND FORM's CARD OF 'colophonlaw06.ImageBuilds'. -/
def imageBuildsUptoCard : Claim7 := { stood := { row := imageBuildsUptoRow, standIns := [], harness := (true, "5fad133516373742c618d2956acec9ce0441603e7de0957d20150cc9a9a791f6"), looks := false }, kinds := [], alts := [], laidByText := true, laidKinds := [.data, .data], laidTests := true, laidLooks := .later }
def ImageBuildsUptoCardSaid : Prop := Claim7.holds Tryd.pinned (.plain (OpenSpec.upto imageBuildsSpec)) imageBuildsUptoCard

/-- THE SECOND FORM's CARD OF 'colophonlaw06.ImageOpens'. -/
def imageOpensUptoCard : Claim7 := { stood := { row := imageOpensUptoRow, standIns := [], harness := (true, "5fad133516373742c618d2956acec9ce0441603e7de0957d20150cc9a9a791f6"), looks := false }, kinds := [], alts := [], laidByText := true, laidKinds := [.data, .data], laidTests := true, laidLooks := .later }
def ImageOpensUptoCardSaid : Prop := Claim7.holds Tryd.pinned (.plain (OpenSpec.upto imageOpensSpec)) imageOpensUptoCard

/-- THE SECOND FORM's CARD OF 'colophonlaw06.ImageRows'. -/
def imageRowsUptoCard : Claim7 := { stood := { row := imageRowsUptoRow, standIns := [], harness := (true, "5fad133516373742c618d2956acec9ce0441603e7de0957d20150cc9a9a791f6"), looks := false }, kinds := [], alts := [], laidByText := true, laidKinds := [.data, .data], laidTests := true, laidLooks := .later }
def ImageRowsUptoCardSaid : Prop := Claim7.holds Tryd.pinned (.plain (OpenSpec.upto imageRowsSpec)) imageRowsUptoCard

/-- THE SECOND FORM's CARD OF 'colophonlaw06.ImageMoves'. -/
def imageMovesUptoCard : Claim7 := { stood := { row := imageMovesUptoRow, standIns := [], harness := (true, "5fad133516373742c618d2956acec9ce0441603e7de0957d20150cc9a9a791f6"), looks := false }, kinds := [], alts := [], laidByText := true, laidKinds := [.data, .data], laidTests := true, laidLooks := .later }
def ImageMovesUptoCardSaid : Prop := Claim7.holds Tryd.pinned (.plain (OpenSpec.upto imageMovesSpec)) imageMovesUptoCard

/-- THE SECOND FORM's CARD OF 'colophonlaw06.ImageApart'. -/
def imageApartUptoCard : Claim7 := { stood := { row := imageApartUptoRow, standIns := [], harness := (true, "5fad133516373742c618d2956acec9ce0441603e7de0957d20150cc9a9a791f6"), looks := false }, kinds := [], alts := [], laidByText := true, laidKinds := [.data, .data], laidTests := true, laidLooks := .later }
def ImageApartUptoCardSaid : Prop := Claim7.holds Tryd.pinned (.plain (OpenSpec.upto imageApartSpec)) imageApartUptoCard
end Rows
end Go.Proofs.YtbepoohphmicdaaDoor
