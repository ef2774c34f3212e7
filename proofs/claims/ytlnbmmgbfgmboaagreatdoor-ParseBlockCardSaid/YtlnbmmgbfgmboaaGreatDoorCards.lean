/-
  DERIVED. GIVEN WITH THE SEED: THE CARDS: each row of YtlnbmmgbfgmboaaGreatDoorRows.lean that lists a variable, with what it lists TIED to the program's text (the seventh form; the later family's looks); each row that meets fmt, with fmt's text TOLD by the authors' own Lean function (tested against real Go, not proved from fmt's source: count such statements apart). THE CARD IS WHAT COUNTS. Prove the row's statement (the work); the ties are given (YtlnbmmgbfgmboaaGreatDoorTie.lean); close each card by the builder's one call (the guide's Derived/Test/ToyasCard.lean, 'card_holds'). Laid BY PROGRAM, IN A SANDBOX (cutbox-door.mjs). By AI agents, Wed Nov 11 2026. No macro, syntax, notation, axiom, sorry.
-/
import Derived.Test.YtlnbmmgbfgmboaaGreatDoorRows
import GoSem.ClaimSeven
namespace Go.Proofs.YtlnbmmgbfgmboaaGreatDoor
namespace Rows

/-- THE TIED CARD OF 'lockorderlaw03.ParseChanged'. -/
def parseChangedCard : Claim7 := { stood := { row := parseChangedRow, standIns := [], harness := (true, "29dd8d1ed660edeb39ec016f2e48eaf992a4d1cd3081752dbf17198a1380e1a1"), looks := false }, kinds := [], alts := [], laidByText := true, laidKinds := [.data], laidTests := true, laidLooks := .later }
def ParseChangedCardSaid : Prop := Claim7.holds Tryz.pinned (.plain (OpenSpec.ofChange parseChangedSpec)) parseChangedCard

/-- THE TIED CARD OF 'lockorderlaw03.ParseBlock'. -/
def parseBlockCard : Claim7 := { stood := { row := parseBlockRow, standIns := [], harness := (true, "29dd8d1ed660edeb39ec016f2e48eaf992a4d1cd3081752dbf17198a1380e1a1"), looks := false }, kinds := [], alts := [], laidByText := true, laidKinds := [.data], laidTests := true, laidLooks := .later }
def ParseBlockCardSaid : Prop := Claim7.holds Tryz.pinned (.plain (OpenSpec.ofChange parseBlockSpec)) parseBlockCard

/-- THE SECOND FORM's CARD OF 'lockorderlaw03.ParseChanged'. -/
def parseChangedUptoCard : Claim7 := { stood := { row := parseChangedUptoRow, standIns := [], harness := (true, "29dd8d1ed660edeb39ec016f2e48eaf992a4d1cd3081752dbf17198a1380e1a1"), looks := false }, kinds := [], alts := [], laidByText := true, laidKinds := [.data], laidTests := true, laidLooks := .later }
def ParseChangedUptoCardSaid : Prop := Claim7.holds Tryz.pinned (.plain (OpenSpec.upto parseChangedSpec)) parseChangedUptoCard

/-- THE SECOND FORM's CARD OF 'lockorderlaw03.ParseBlock'. -/
def parseBlockUptoCard : Claim7 := { stood := { row := parseBlockUptoRow, standIns := [], harness := (true, "29dd8d1ed660edeb39ec016f2e48eaf992a4d1cd3081752dbf17198a1380e1a1"), looks := false }, kinds := [], alts := [], laidByText := true, laidKinds := [.data], laidTests := true, laidLooks := .later }
def ParseBlockUptoCardSaid : Prop := Claim7.holds Tryz.pinned (.plain (OpenSpec.upto parseBlockSpec)) parseBlockUptoCard
end Rows
end Go.Proofs.YtlnbmmgbfgmboaaGreatDoor
