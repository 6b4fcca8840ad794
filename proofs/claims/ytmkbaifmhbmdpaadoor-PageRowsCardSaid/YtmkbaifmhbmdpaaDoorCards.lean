/-
  DERIVED. GIVEN WITH THE SEED: THE CARDS: each row of YtmkbaifmhbmdpaaDoorRows.lean that lists a variable, with what it lists TIED to the program's text (the seventh form; the later family's looks); each row that meets fmt, with fmt's text TOLD by the authors' own Lean function (tested against real Go, not proved from fmt's source: count such statements apart). THE CARD IS WHAT COUNTS. Prove the row's statement (the work); the ties are given (YtmkbaifmhbmdpaaDoorTie.lean); close each card by the builder's one call (the guide's Derived/Test/ToyasCard.lean, 'card_holds'). Laid BY PROGRAM, IN A SANDBOX (cutbox-door.mjs). By AI agents, Wed Nov 11 2026. No macro, syntax, notation, axiom, sorry.
-/
import Derived.Test.YtmkbaifmhbmdpaaDoorRows
import GoSem.ClaimSeven
namespace Go.Proofs.YtmkbaifmhbmdpaaDoor
namespace Rows

/-- THE TIED CARD OF 'colophonlaw05.PagePuts'. -/
def pagePutsCard : Claim7 := { stood := { row := pagePutsRow, standIns := [], harness := (true, "1ef39658ac5fde50989c611696c406260d80b2a3bd946f74bf08c9603735ee9d"), looks := false }, kinds := [], alts := [], laidByText := true, laidKinds := [.data, .data], laidTests := true, laidLooks := .later }
def PagePutsCardSaid : Prop := Claim7.holds Tryd.pinned (.plain (OpenSpec.ofChange pagePutsSpec)) pagePutsCard

/-- THE TIED CARD OF 'colophonlaw05.PageGets'. -/
def pageGetsCard : Claim7 := { stood := { row := pageGetsRow, standIns := [], harness := (true, "1ef39658ac5fde50989c611696c406260d80b2a3bd946f74bf08c9603735ee9d"), looks := false }, kinds := [], alts := [], laidByText := true, laidKinds := [.data, .data], laidTests := true, laidLooks := .later }
def PageGetsCardSaid : Prop := Claim7.holds Tryd.pinned (.plain (OpenSpec.ofChange pageGetsSpec)) pageGetsCard

/-- THE TIED CARD OF 'colophonlaw05.PageRows'. -/
def pageRowsCard : Claim7 := { stood := { row := pageRowsRow, standIns := [], harness := (true, "1ef39658ac5fde50989c611696c406260d80b2a3bd946f74bf08c9603735ee9d"), looks := false }, kinds := [], alts := [], laidByText := true, laidKinds := [.data, .data], laidTests := true, laidLooks := .later }
def PageRowsCardSaid : Prop := Claim7.holds Tryd.pinned (.plain (OpenSpec.ofChange pageRowsSpec)) pageRowsCard

/-- THE TIED CARD OF 'colophonlaw05.PageCounts'. -/
def pageCountsCard : Claim7 := { stood := { row := pageCountsRow, standIns := [], harness := (true, "1ef39658ac5fde50989c611696c406260d80b2a3bd946f74bf08c9603735ee9d"), looks := false }, kinds := [], alts := [], laidByText := true, laidKinds := [.data, .data], laidTests := true, laidLooks := .later }
def PageCountsCardSaid : Prop := Claim7.holds Tryd.pinned (.plain (OpenSpec.ofChange pageCountsSpec)) pageCountsCard

/-- THE TIED CARD OF 'colophonlaw05.PageApart'. -/
def pageApartCard : Claim7 := { stood := { row := pageApartRow, standIns := [], harness := (true, "1ef39658ac5fde50989c611696c406260d80b2a3bd946f74bf08c9603735ee9d"), looks := false }, kinds := [], alts := [], laidByText := true, laidKinds := [.data, .data], laidTests := true, laidLooks := .later }
def PageApartCardSaid : Prop := Claim7.holds Tryd.pinned (.plain (OpenSpec.ofChange pageApartSpec)) pageApartCard

/-- THE SECOND FORM's CARD OF 'colophonlaw05.PagePuts'. -/
def pagePutsUptoCard : Claim7 := { stood := { row := pagePutsUptoRow, standIns := [], harness := (true, "1ef39658ac5fde50989c611696c406260d80b2a3bd946f74bf08c9603735ee9d"), looks := false }, kinds := [], alts := [], laidByText := true, laidKinds := [.data, .data], laidTests := true, laidLooks := .later }
def PagePutsUptoCardSaid : Prop := Claim7.holds Tryd.pinned (.plain (OpenSpec.upto pagePutsSpec)) pagePutsUptoCard

/-- THE SECOND FORM's CARD OF 'colophonlaw05.PageGets'. -/
def pageGetsUptoCard : Claim7 := { stood := { row := pageGetsUptoRow, standIns := [], harness := (true, "1ef39658ac5fde50989c611696c406260d80b2a3bd946f74bf08c9603735ee9d"), looks := false }, kinds := [], alts := [], laidByText := true, laidKinds := [.data, .data], laidTests := true, laidLooks := .later }
def PageGetsUptoCardSaid : Prop := Claim7.holds Tryd.pinned (.plain (OpenSpec.upto pageGetsSpec)) pageGetsUptoCard

/-- THE SECOND FORM's CARD OF 'colophonlaw05.PageRows'. -/
def pageRowsUptoCard : Claim7 := { stood := { row := pageRowsUptoRow, standIns := [], harness := (true, "1ef39658ac5fde50989c611696c406260d80b2a3bd946f74bf08c9603735ee9d"), looks := false }, kinds := [], alts := [], laidByText := true, laidKinds := [.data, .data], laidTests := true, laidLooks := .later }
def PageRowsUptoCardSaid : Prop := Claim7.holds Tryd.pinned (.plain (OpenSpec.upto pageRowsSpec)) pageRowsUptoCard

/-- THE SECOND FORM's CARD OF 'colophonlaw05.PageCounts'. -/
def pageCountsUptoCard : Claim7 := { stood := { row := pageCountsUptoRow, standIns := [], harness := (true, "1ef39658ac5fde50989c611696c406260d80b2a3bd946f74bf08c9603735ee9d"), looks := false }, kinds := [], alts := [], laidByText := true, laidKinds := [.data, .data], laidTests := true, laidLooks := .later }
def PageCountsUptoCardSaid : Prop := Claim7.holds Tryd.pinned (.plain (OpenSpec.upto pageCountsSpec)) pageCountsUptoCard

/-- THE SECOND FORM's CARD OF 'colophonlaw05.PageApart'. -/
def pageApartUptoCard : Claim7 := { stood := { row := pageApartUptoRow, standIns := [], harness := (true, "1ef39658ac5fde50989c611696c406260d80b2a3bd946f74bf08c9603735ee9d"), looks := false }, kinds := [], alts := [], laidByText := true, laidKinds := [.data, .data], laidTests := true, laidLooks := .later }
def PageApartUptoCardSaid : Prop := Claim7.holds Tryd.pinned (.plain (OpenSpec.upto pageApartSpec)) pageApartUptoCard
end Rows
end Go.Proofs.YtmkbaifmhbmdpaaDoor
