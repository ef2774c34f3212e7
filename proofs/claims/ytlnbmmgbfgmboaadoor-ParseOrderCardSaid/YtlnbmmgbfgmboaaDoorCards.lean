/-
  DERIVED. GIVEN WITH THE SEED: THE CARDS: each row of YtlnbmmgbfgmboaaDoorRows.lean that lists a variable, with what it lists TIED to the program's text (the seventh form; the later family's looks); each row that meets fmt, with fmt's text TOLD by the authors' own Lean function (tested against real Go, not proved from fmt's source: count such statements apart). THE CARD IS WHAT COUNTS. Prove the row's statement (the work); the ties are given (YtlnbmmgbfgmboaaDoorTie.lean); close each card by the builder's one call (the guide's Derived/Test/ToyasCard.lean, 'card_holds'). Laid BY PROGRAM, IN A SANDBOX (cutbox-door.mjs). By AI agents, Wed Nov 11 2026. No macro, syntax, notation, axiom, sorry.
-/
import Derived.Test.YtlnbmmgbfgmboaaDoorRows
import GoSem.ClaimSeven
namespace Go.Proofs.YtlnbmmgbfgmboaaDoor
namespace Rows

/-- THE TIED CARD OF 'lockorderlaw03.ParseOrder'. -/
def parseOrderCard : Claim7 := { stood := { row := parseOrderRow, standIns := [], harness := (true, "98ea861bf05e916a85f3fa08c401a906280c426616c7e5ec5d6e5f49fc850a24"), looks := false }, kinds := [], alts := [], laidByText := true, laidKinds := [.data], laidTests := true, laidLooks := .later }
def ParseOrderCardSaid : Prop := Claim7.holds Tryd.pinned (.plain (OpenSpec.ofChange parseOrderSpec)) parseOrderCard

/-- THE TIED CARD OF 'lockorderlaw03.ParseSpace'. -/
def parseSpaceCard : Claim7 := { stood := { row := parseSpaceRow, standIns := [], harness := (true, "98ea861bf05e916a85f3fa08c401a906280c426616c7e5ec5d6e5f49fc850a24"), looks := false }, kinds := [], alts := [], laidByText := true, laidKinds := [.data], laidTests := true, laidLooks := .later }
def ParseSpaceCardSaid : Prop := Claim7.holds Tryd.pinned (.plain (OpenSpec.ofChange parseSpaceSpec)) parseSpaceCard

/-- THE SECOND FORM's CARD OF 'lockorderlaw03.ParseOrder'. -/
def parseOrderUptoCard : Claim7 := { stood := { row := parseOrderUptoRow, standIns := [], harness := (true, "98ea861bf05e916a85f3fa08c401a906280c426616c7e5ec5d6e5f49fc850a24"), looks := false }, kinds := [], alts := [], laidByText := true, laidKinds := [.data], laidTests := true, laidLooks := .later }
def ParseOrderUptoCardSaid : Prop := Claim7.holds Tryd.pinned (.plain (OpenSpec.upto parseOrderSpec)) parseOrderUptoCard

/-- THE SECOND FORM's CARD OF 'lockorderlaw03.ParseSpace'. -/
def parseSpaceUptoCard : Claim7 := { stood := { row := parseSpaceUptoRow, standIns := [], harness := (true, "98ea861bf05e916a85f3fa08c401a906280c426616c7e5ec5d6e5f49fc850a24"), looks := false }, kinds := [], alts := [], laidByText := true, laidKinds := [.data], laidTests := true, laidLooks := .later }
def ParseSpaceUptoCardSaid : Prop := Claim7.holds Tryd.pinned (.plain (OpenSpec.upto parseSpaceSpec)) parseSpaceUptoCard
end Rows
end Go.Proofs.YtlnbmmgbfgmboaaDoor
