/-
  DERIVED. GIVEN WITH THE SEED: THE CARDS: each row of YtbaenhcmkigfcaaGreatDoorRows.lean that lists a variable, with what it lists TIED to the program's text (the seventh form; the later family's looks); each row that meets fmt, with fmt's text TOLD by the authors' own Lean function (tested against real Go, not proved from fmt's source: count such statements apart). THE CARD IS WHAT COUNTS. Prove the row's statement (the work); the ties are given (YtbaenhcmkigfcaaGreatDoorTie.lean); close each card by the builder's one call (the guide's Derived/Test/ToyasCard.lean, 'card_holds'). Laid BY PROGRAM, IN A SANDBOX (cutbox-door.mjs). By AI agents, Wed Nov 11 2026. No macro, syntax, notation, axiom, sorry.
-/
import Derived.Test.YtbaenhcmkigfcaaGreatDoorRows
import GoSem.ClaimSeven
namespace Go.Proofs.YtbaenhcmkigfcaaGreatDoor
namespace Rows

/-- THE TIED CARD OF 'lockorderlaw02.ExprParse'. -/
def exprParseCard : Claim7 := { stood := { row := exprParseRow, standIns := [], harness := (true, "a924f7543c3d74bca266104aa65679384b07f0a91c1defdd27e88696c509cba8"), looks := false }, kinds := [], alts := [], laidByText := true, laidKinds := [.data, .data, .data, .data], laidTests := true, laidLooks := .later }
def ExprParseCardSaid : Prop := Claim7.holds Tryz.pinned (.plain (OpenSpec.ofChange exprParseSpec)) exprParseCard

/-- THE TIED CARD OF 'lockorderlaw03.ParseChanged'. -/
def parseChangedCard : Claim7 := { stood := { row := parseChangedRow, standIns := [], harness := (true, "a924f7543c3d74bca266104aa65679384b07f0a91c1defdd27e88696c509cba8"), looks := false }, kinds := [], alts := [], laidByText := true, laidKinds := [.data], laidTests := true, laidLooks := .later }
def ParseChangedCardSaid : Prop := Claim7.holds Tryz.pinned (.plain (OpenSpec.ofChange parseChangedSpec)) parseChangedCard

/-- THE SECOND FORM's CARD OF 'lockorderlaw02.ExprParse'. -/
def exprParseUptoCard : Claim7 := { stood := { row := exprParseUptoRow, standIns := [], harness := (true, "a924f7543c3d74bca266104aa65679384b07f0a91c1defdd27e88696c509cba8"), looks := false }, kinds := [], alts := [], laidByText := true, laidKinds := [.data, .data, .data, .data], laidTests := true, laidLooks := .later }
def ExprParseUptoCardSaid : Prop := Claim7.holds Tryz.pinned (.plain (OpenSpec.upto exprParseSpec)) exprParseUptoCard

/-- THE SECOND FORM's CARD OF 'lockorderlaw03.ParseChanged'. -/
def parseChangedUptoCard : Claim7 := { stood := { row := parseChangedUptoRow, standIns := [], harness := (true, "a924f7543c3d74bca266104aa65679384b07f0a91c1defdd27e88696c509cba8"), looks := false }, kinds := [], alts := [], laidByText := true, laidKinds := [.data], laidTests := true, laidLooks := .later }
def ParseChangedUptoCardSaid : Prop := Claim7.holds Tryz.pinned (.plain (OpenSpec.upto parseChangedSpec)) parseChangedUptoCard
end Rows
end Go.Proofs.YtbaenhcmkigfcaaGreatDoor
