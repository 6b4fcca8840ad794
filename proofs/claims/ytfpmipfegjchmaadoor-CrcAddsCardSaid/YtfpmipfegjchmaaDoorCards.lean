/-
  DERIVED. GIVEN WITH THE SEED: THE CARDS: each row of YtfpmipfegjchmaaDoorRows.lean that lists a variable, with what it lists TIED to the program's text (the seventh form; the later family's looks); each row that meets fmt, with fmt's text TOLD by the authors' own Lean function (tested against real Go, not proved from fmt's source: count such statements apart). THE CARD IS WHAT COUNTS. Prove the row's statement (the work); the ties are given (YtfpmipfegjchmaaDoorTie.lean); close each card by the builder's one call (the guide's Derived/Test/ToyasCard.lean, 'card_holds'). Laid BY PROGRAM, IN A SANDBOX (cutbox-door.mjs). By AI agents, Wed Nov 11 2026. No macro, syntax, notation, axiom, sorry.
-/
import Derived.Test.YtfpmipfegjchmaaDoorRows
import GoSem.ClaimSeven
namespace Go.Proofs.YtfpmipfegjchmaaDoor
namespace Rows

/-- THE TIED CARD OF 'colophonlaw04.CrcPuts'. -/
def crcPutsCard : Claim7 := { stood := { row := crcPutsRow, standIns := [], harness := (true, "b97feee35d0e94a85c77942f33e032e682925a02d2e6acf78c9dfe08f2d9b523"), looks := false }, kinds := [], alts := [], laidByText := true, laidKinds := [.data, .data], laidTests := true, laidLooks := .later }
def CrcPutsCardSaid : Prop := Claim7.holds Tryd.pinned (.plain (OpenSpec.ofChange crcPutsSpec)) crcPutsCard

/-- THE TIED CARD OF 'colophonlaw04.CrcCuts'. -/
def crcCutsCard : Claim7 := { stood := { row := crcCutsRow, standIns := [], harness := (true, "b97feee35d0e94a85c77942f33e032e682925a02d2e6acf78c9dfe08f2d9b523"), looks := false }, kinds := [], alts := [], laidByText := true, laidKinds := [.data, .data], laidTests := true, laidLooks := .later }
def CrcCutsCardSaid : Prop := Claim7.holds Tryd.pinned (.plain (OpenSpec.ofChange crcCutsSpec)) crcCutsCard

/-- THE TIED CARD OF 'colophonlaw04.CrcRows'. -/
def crcRowsCard : Claim7 := { stood := { row := crcRowsRow, standIns := [], harness := (true, "b97feee35d0e94a85c77942f33e032e682925a02d2e6acf78c9dfe08f2d9b523"), looks := false }, kinds := [], alts := [], laidByText := true, laidKinds := [.data, .data], laidTests := true, laidLooks := .later }
def CrcRowsCardSaid : Prop := Claim7.holds Tryd.pinned (.plain (OpenSpec.ofChange crcRowsSpec)) crcRowsCard

/-- THE TIED CARD OF 'colophonlaw04.CrcAdds'. -/
def crcAddsCard : Claim7 := { stood := { row := crcAddsRow, standIns := [], harness := (true, "b97feee35d0e94a85c77942f33e032e682925a02d2e6acf78c9dfe08f2d9b523"), looks := false }, kinds := [], alts := [], laidByText := true, laidKinds := [.data, .data], laidTests := true, laidLooks := .later }
def CrcAddsCardSaid : Prop := Claim7.holds Tryd.pinned (.plain (OpenSpec.ofChange crcAddsSpec)) crcAddsCard

/-- THE TIED CARD OF 'colophonlaw04.CrcTwice'. -/
def crcTwiceCard : Claim7 := { stood := { row := crcTwiceRow, standIns := [], harness := (true, "b97feee35d0e94a85c77942f33e032e682925a02d2e6acf78c9dfe08f2d9b523"), looks := false }, kinds := [], alts := [], laidByText := true, laidKinds := [.data, .data], laidTests := true, laidLooks := .later }
def CrcTwiceCardSaid : Prop := Claim7.holds Tryd.pinned (.plain (OpenSpec.ofChange crcTwiceSpec)) crcTwiceCard

/-- THE SECOND FORM's CARD OF 'colophonlaw04.CrcPuts'. -/
def crcPutsUptoCard : Claim7 := { stood := { row := crcPutsUptoRow, standIns := [], harness := (true, "b97feee35d0e94a85c77942f33e032e682925a02d2e6acf78c9dfe08f2d9b523"), looks := false }, kinds := [], alts := [], laidByText := true, laidKinds := [.data, .data], laidTests := true, laidLooks := .later }
def CrcPutsUptoCardSaid : Prop := Claim7.holds Tryd.pinned (.plain (OpenSpec.upto crcPutsSpec)) crcPutsUptoCard

/-- THE SECOND FORM's CARD OF 'colophonlaw04.CrcCuts'. -/
def crcCutsUptoCard : Claim7 := { stood := { row := crcCutsUptoRow, standIns := [], harness := (true, "b97feee35d0e94a85c77942f33e032e682925a02d2e6acf78c9dfe08f2d9b523"), looks := false }, kinds := [], alts := [], laidByText := true, laidKinds := [.data, .data], laidTests := true, laidLooks := .later }
def CrcCutsUptoCardSaid : Prop := Claim7.holds Tryd.pinned (.plain (OpenSpec.upto crcCutsSpec)) crcCutsUptoCard

/-- THE SECOND FORM's CARD OF 'colophonlaw04.CrcRows'. -/
def crcRowsUptoCard : Claim7 := { stood := { row := crcRowsUptoRow, standIns := [], harness := (true, "b97feee35d0e94a85c77942f33e032e682925a02d2e6acf78c9dfe08f2d9b523"), looks := false }, kinds := [], alts := [], laidByText := true, laidKinds := [.data, .data], laidTests := true, laidLooks := .later }
def CrcRowsUptoCardSaid : Prop := Claim7.holds Tryd.pinned (.plain (OpenSpec.upto crcRowsSpec)) crcRowsUptoCard

/-- THE SECOND FORM's CARD OF 'colophonlaw04.CrcAdds'. -/
def crcAddsUptoCard : Claim7 := { stood := { row := crcAddsUptoRow, standIns := [], harness := (true, "b97feee35d0e94a85c77942f33e032e682925a02d2e6acf78c9dfe08f2d9b523"), looks := false }, kinds := [], alts := [], laidByText := true, laidKinds := [.data, .data], laidTests := true, laidLooks := .later }
def CrcAddsUptoCardSaid : Prop := Claim7.holds Tryd.pinned (.plain (OpenSpec.upto crcAddsSpec)) crcAddsUptoCard

/-- THE SECOND FORM's CARD OF 'colophonlaw04.CrcTwice'. -/
def crcTwiceUptoCard : Claim7 := { stood := { row := crcTwiceUptoRow, standIns := [], harness := (true, "b97feee35d0e94a85c77942f33e032e682925a02d2e6acf78c9dfe08f2d9b523"), looks := false }, kinds := [], alts := [], laidByText := true, laidKinds := [.data, .data], laidTests := true, laidLooks := .later }
def CrcTwiceUptoCardSaid : Prop := Claim7.holds Tryd.pinned (.plain (OpenSpec.upto crcTwiceSpec)) crcTwiceUptoCard
end Rows
end Go.Proofs.YtfpmipfegjchmaaDoor
