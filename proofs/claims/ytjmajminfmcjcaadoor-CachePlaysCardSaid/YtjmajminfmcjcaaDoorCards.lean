/-
  DERIVED. GIVEN WITH THE SEED: THE CARDS: each row of YtjmajminfmcjcaaDoorRows.lean that lists a variable, with what it lists TIED to the program's text (the seventh form; the later family's looks); each row that meets fmt, with fmt's text TOLD by the authors' own Lean function (tested against real Go, not proved from fmt's source: count such statements apart). THE CARD IS WHAT COUNTS. Prove the row's statement (the work); the ties are given (YtjmajminfmcjcaaDoorTie.lean); close each card by the builder's one call (the guide's Derived/Test/ToyasCard.lean, 'card_holds'). Laid BY PROGRAM, IN A SANDBOX (cutbox-door.mjs). By AI agents, Wed Nov 11 2026. No macro, syntax, notation, axiom, sorry.
-/
import Derived.Test.YtjmajminfmcjcaaDoorRows
import GoSem.ClaimSeven
namespace Go.Proofs.YtjmajminfmcjcaaDoor
namespace Rows

/-- THE TIED CARD OF 'colophonlaw07.CachePlays'. -/
def cachePlaysCard : Claim7 := { stood := { row := cachePlaysRow, standIns := [], harness := (true, "3d35be12c57b41cada50010196616f062ddb89de390bb0e4ad2a337159ed918a"), looks := false }, kinds := [], alts := [], laidByText := true, laidKinds := [.data, .data], laidTests := true, laidLooks := .later }
def CachePlaysCardSaid : Prop := Claim7.holds Tryd.pinned (.plain (OpenSpec.ofChange cachePlaysSpec)) cachePlaysCard

/-- THE TIED CARD OF 'colophonlaw07.CacheBounds'. -/
def cacheBoundsCard : Claim7 := { stood := { row := cacheBoundsRow, standIns := [], harness := (true, "3d35be12c57b41cada50010196616f062ddb89de390bb0e4ad2a337159ed918a"), looks := false }, kinds := [], alts := [], laidByText := true, laidKinds := [.data, .data], laidTests := true, laidLooks := .later }
def CacheBoundsCardSaid : Prop := Claim7.holds Tryd.pinned (.plain (OpenSpec.ofChange cacheBoundsSpec)) cacheBoundsCard

/-- THE TIED CARD OF 'colophonlaw07.CacheCharges'. -/
def cacheChargesCard : Claim7 := { stood := { row := cacheChargesRow, standIns := [], harness := (true, "3d35be12c57b41cada50010196616f062ddb89de390bb0e4ad2a337159ed918a"), looks := false }, kinds := [], alts := [], laidByText := true, laidKinds := [.data, .data], laidTests := true, laidLooks := .later }
def CacheChargesCardSaid : Prop := Claim7.holds Tryd.pinned (.plain (OpenSpec.ofChange cacheChargesSpec)) cacheChargesCard

/-- THE TIED CARD OF 'colophonlaw07.CacheSame'. -/
def cacheSameCard : Claim7 := { stood := { row := cacheSameRow, standIns := [], harness := (true, "3d35be12c57b41cada50010196616f062ddb89de390bb0e4ad2a337159ed918a"), looks := false }, kinds := [], alts := [], laidByText := true, laidKinds := [.data, .data], laidTests := true, laidLooks := .later }
def CacheSameCardSaid : Prop := Claim7.holds Tryd.pinned (.plain (OpenSpec.ofChange cacheSameSpec)) cacheSameCard

/-- THE SECOND FORM's CARD OF 'colophonlaw07.CachePlays'. -/
def cachePlaysUptoCard : Claim7 := { stood := { row := cachePlaysUptoRow, standIns := [], harness := (true, "3d35be12c57b41cada50010196616f062ddb89de390bb0e4ad2a337159ed918a"), looks := false }, kinds := [], alts := [], laidByText := true, laidKinds := [.data, .data], laidTests := true, laidLooks := .later }
def CachePlaysUptoCardSaid : Prop := Claim7.holds Tryd.pinned (.plain (OpenSpec.upto cachePlaysSpec)) cachePlaysUptoCard

/-- THE SECOND FORM's CARD OF 'colophonlaw07.CacheBounds'. -/
def cacheBoundsUptoCard : Claim7 := { stood := { row := cacheBoundsUptoRow, standIns := [], harness := (true, "3d35be12c57b41cada50010196616f062ddb89de390bb0e4ad2a337159ed918a"), looks := false }, kinds := [], alts := [], laidByText := true, laidKinds := [.data, .data], laidTests := true, laidLooks := .later }
def CacheBoundsUptoCardSaid : Prop := Claim7.holds Tryd.pinned (.plain (OpenSpec.upto cacheBoundsSpec)) cacheBoundsUptoCard

/-- THE SECOND FORM's CARD OF 'colophonlaw07.CacheCharges'. -/
def cacheChargesUptoCard : Claim7 := { stood := { row := cacheChargesUptoRow, standIns := [], harness := (true, "3d35be12c57b41cada50010196616f062ddb89de390bb0e4ad2a337159ed918a"), looks := false }, kinds := [], alts := [], laidByText := true, laidKinds := [.data, .data], laidTests := true, laidLooks := .later }
def CacheChargesUptoCardSaid : Prop := Claim7.holds Tryd.pinned (.plain (OpenSpec.upto cacheChargesSpec)) cacheChargesUptoCard

/-- THE SECOND FORM's CARD OF 'colophonlaw07.CacheSame'. -/
def cacheSameUptoCard : Claim7 := { stood := { row := cacheSameUptoRow, standIns := [], harness := (true, "3d35be12c57b41cada50010196616f062ddb89de390bb0e4ad2a337159ed918a"), looks := false }, kinds := [], alts := [], laidByText := true, laidKinds := [.data, .data], laidTests := true, laidLooks := .later }
def CacheSameUptoCardSaid : Prop := Claim7.holds Tryd.pinned (.plain (OpenSpec.upto cacheSameSpec)) cacheSameUptoCard
end Rows
end Go.Proofs.YtjmajminfmcjcaaDoor
