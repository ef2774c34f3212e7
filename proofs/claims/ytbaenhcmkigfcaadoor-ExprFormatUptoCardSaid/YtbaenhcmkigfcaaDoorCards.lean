/-
  DERIVED. GIVEN WITH THE SEED: THE CARDS: each row of YtbaenhcmkigfcaaDoorRows.lean that lists a variable, with what it lists TIED to the program's text (the seventh form; the later family's looks); each row that meets fmt, with fmt's text TOLD by the authors' own Lean function (tested against real Go, not proved from fmt's source: count such statements apart). THE CARD IS WHAT COUNTS. Prove the row's statement (the work); the ties are given (YtbaenhcmkigfcaaDoorTie.lean); close each card by the builder's one call (the guide's Derived/Test/ToyasCard.lean, 'card_holds'). Laid BY PROGRAM, IN A SANDBOX (cutbox-door.mjs). By AI agents, Wed Nov 11 2026. No macro, syntax, notation, axiom, sorry.
-/
import Derived.Test.YtbaenhcmkigfcaaDoorRows
import GoSem.ClaimSeven
namespace Go.Proofs.YtbaenhcmkigfcaaDoor
namespace Rows

/-- THE TIED CARD OF 'lockorderlaw02.ExprTokens'. -/
def exprTokensCard : Claim7 := { stood := { row := exprTokensRow, standIns := [], harness := (true, "cd1aada65c6c528a8b8863fefd020b24349b3023b6f645e970ec863da12c936c"), looks := false }, kinds := [], alts := [], laidByText := true, laidKinds := [.data, .data, .data, .data], laidTests := true, laidLooks := .later }
def ExprTokensCardSaid : Prop := Claim7.holds Tryd.pinned (.plain (OpenSpec.ofChange exprTokensSpec)) exprTokensCard

/-- THE TIED CARD OF 'lockorderlaw02.ExprDeep'. -/
def exprDeepCard : Claim7 := { stood := { row := exprDeepRow, standIns := [], harness := (true, "cd1aada65c6c528a8b8863fefd020b24349b3023b6f645e970ec863da12c936c"), looks := false }, kinds := [], alts := [], laidByText := true, laidKinds := [.data, .data, .data, .data], laidTests := true, laidLooks := .later }
def ExprDeepCardSaid : Prop := Claim7.holds Tryd.pinned (.plain (OpenSpec.ofChange exprDeepSpec)) exprDeepCard

/-- THE TIED CARD OF 'lockorderlaw02.ExprFormat'. -/
def exprFormatCard : Claim7 := { stood := { row := exprFormatRow, standIns := [], harness := (true, "cd1aada65c6c528a8b8863fefd020b24349b3023b6f645e970ec863da12c936c"), looks := false }, kinds := [], alts := [], laidByText := true, laidKinds := [.data, .data, .data, .data], laidTests := true, laidLooks := .later }
def ExprFormatCardSaid : Prop := Claim7.holds Tryd.pinned (.plain (OpenSpec.ofChange exprFormatSpec)) exprFormatCard

/-- THE TIED CARD OF 'lockorderlaw02.ExprValid'. -/
def exprValidCard : Claim7 := { stood := { row := exprValidRow, standIns := [], harness := (true, "cd1aada65c6c528a8b8863fefd020b24349b3023b6f645e970ec863da12c936c"), looks := false }, kinds := [], alts := [], laidByText := true, laidKinds := [.data, .data, .data, .data], laidTests := true, laidLooks := .later }
def ExprValidCardSaid : Prop := Claim7.holds Tryd.pinned (.plain (OpenSpec.ofChange exprValidSpec)) exprValidCard

/-- THE TIED CARD OF 'lockorderlaw02.ExprParentheses'. -/
def exprParenthesesCard : Claim7 := { stood := { row := exprParenthesesRow, standIns := [], harness := (true, "cd1aada65c6c528a8b8863fefd020b24349b3023b6f645e970ec863da12c936c"), looks := false }, kinds := [], alts := [], laidByText := true, laidKinds := [.data, .data, .data, .data], laidTests := true, laidLooks := .later }
def ExprParenthesesCardSaid : Prop := Claim7.holds Tryd.pinned (.plain (OpenSpec.ofChange exprParenthesesSpec)) exprParenthesesCard

/-- THE TIED CARD OF 'lockorderlaw03.ParseProgram'. -/
def parseProgramCard : Claim7 := { stood := { row := parseProgramRow, standIns := [], harness := (true, "cd1aada65c6c528a8b8863fefd020b24349b3023b6f645e970ec863da12c936c"), looks := false }, kinds := [], alts := [], laidByText := true, laidKinds := [.data], laidTests := true, laidLooks := .later }
def ParseProgramCardSaid : Prop := Claim7.holds Tryd.pinned (.plain (OpenSpec.ofChange parseProgramSpec)) parseProgramCard

/-- THE TIED CARD OF 'lockorderlaw03.ParseTokens'. -/
def parseTokensCard : Claim7 := { stood := { row := parseTokensRow, standIns := [], harness := (true, "cd1aada65c6c528a8b8863fefd020b24349b3023b6f645e970ec863da12c936c"), looks := false }, kinds := [], alts := [], laidByText := true, laidKinds := [.data], laidTests := true, laidLooks := .later }
def ParseTokensCardSaid : Prop := Claim7.holds Tryd.pinned (.plain (OpenSpec.ofChange parseTokensSpec)) parseTokensCard

/-- THE SECOND FORM's CARD OF 'lockorderlaw02.ExprTokens'. -/
def exprTokensUptoCard : Claim7 := { stood := { row := exprTokensUptoRow, standIns := [], harness := (true, "cd1aada65c6c528a8b8863fefd020b24349b3023b6f645e970ec863da12c936c"), looks := false }, kinds := [], alts := [], laidByText := true, laidKinds := [.data, .data, .data, .data], laidTests := true, laidLooks := .later }
def ExprTokensUptoCardSaid : Prop := Claim7.holds Tryd.pinned (.plain (OpenSpec.upto exprTokensSpec)) exprTokensUptoCard

/-- THE SECOND FORM's CARD OF 'lockorderlaw02.ExprDeep'. -/
def exprDeepUptoCard : Claim7 := { stood := { row := exprDeepUptoRow, standIns := [], harness := (true, "cd1aada65c6c528a8b8863fefd020b24349b3023b6f645e970ec863da12c936c"), looks := false }, kinds := [], alts := [], laidByText := true, laidKinds := [.data, .data, .data, .data], laidTests := true, laidLooks := .later }
def ExprDeepUptoCardSaid : Prop := Claim7.holds Tryd.pinned (.plain (OpenSpec.upto exprDeepSpec)) exprDeepUptoCard

/-- THE SECOND FORM's CARD OF 'lockorderlaw02.ExprFormat'. -/
def exprFormatUptoCard : Claim7 := { stood := { row := exprFormatUptoRow, standIns := [], harness := (true, "cd1aada65c6c528a8b8863fefd020b24349b3023b6f645e970ec863da12c936c"), looks := false }, kinds := [], alts := [], laidByText := true, laidKinds := [.data, .data, .data, .data], laidTests := true, laidLooks := .later }
def ExprFormatUptoCardSaid : Prop := Claim7.holds Tryd.pinned (.plain (OpenSpec.upto exprFormatSpec)) exprFormatUptoCard

/-- THE SECOND FORM's CARD OF 'lockorderlaw02.ExprValid'. -/
def exprValidUptoCard : Claim7 := { stood := { row := exprValidUptoRow, standIns := [], harness := (true, "cd1aada65c6c528a8b8863fefd020b24349b3023b6f645e970ec863da12c936c"), looks := false }, kinds := [], alts := [], laidByText := true, laidKinds := [.data, .data, .data, .data], laidTests := true, laidLooks := .later }
def ExprValidUptoCardSaid : Prop := Claim7.holds Tryd.pinned (.plain (OpenSpec.upto exprValidSpec)) exprValidUptoCard

/-- THE SECOND FORM's CARD OF 'lockorderlaw02.ExprParentheses'. -/
def exprParenthesesUptoCard : Claim7 := { stood := { row := exprParenthesesUptoRow, standIns := [], harness := (true, "cd1aada65c6c528a8b8863fefd020b24349b3023b6f645e970ec863da12c936c"), looks := false }, kinds := [], alts := [], laidByText := true, laidKinds := [.data, .data, .data, .data], laidTests := true, laidLooks := .later }
def ExprParenthesesUptoCardSaid : Prop := Claim7.holds Tryd.pinned (.plain (OpenSpec.upto exprParenthesesSpec)) exprParenthesesUptoCard

/-- THE SECOND FORM's CARD OF 'lockorderlaw03.ParseProgram'. -/
def parseProgramUptoCard : Claim7 := { stood := { row := parseProgramUptoRow, standIns := [], harness := (true, "cd1aada65c6c528a8b8863fefd020b24349b3023b6f645e970ec863da12c936c"), looks := false }, kinds := [], alts := [], laidByText := true, laidKinds := [.data], laidTests := true, laidLooks := .later }
def ParseProgramUptoCardSaid : Prop := Claim7.holds Tryd.pinned (.plain (OpenSpec.upto parseProgramSpec)) parseProgramUptoCard

/-- THE SECOND FORM's CARD OF 'lockorderlaw03.ParseTokens'. -/
def parseTokensUptoCard : Claim7 := { stood := { row := parseTokensUptoRow, standIns := [], harness := (true, "cd1aada65c6c528a8b8863fefd020b24349b3023b6f645e970ec863da12c936c"), looks := false }, kinds := [], alts := [], laidByText := true, laidKinds := [.data], laidTests := true, laidLooks := .later }
def ParseTokensUptoCardSaid : Prop := Claim7.holds Tryd.pinned (.plain (OpenSpec.upto parseTokensSpec)) parseTokensUptoCard
end Rows
end Go.Proofs.YtbaenhcmkigfcaaDoor
