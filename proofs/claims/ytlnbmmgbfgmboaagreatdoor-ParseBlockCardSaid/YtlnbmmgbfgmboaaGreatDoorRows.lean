/-
  NARROWER THAN 'FOR EVERY INPUT', by the rows' own cells (each row's printed sentence says how): ParseChanged: laid · ParseBlock: laid.
  DERIVED. THE GIVEN ROWS OF THIS SEAT. 2 by the template 'for every input the law returns true; each argument reads behind the call as it read before'; 0 by the template 'total and deterministic' (their statements: YtlnbmmgbfgmboaaGreatDoorTotals.lean).
  GIVEN WITH THE SEED: the statements are not yours to turn. If you find one false, say at which input.
  Laid BY PROGRAM, IN A SANDBOX (cutbox-rows.mjs): the forced cells as the released guide's own fill.sh prints them over the translation aa7350bca679afd4… (all of the seat's roots in one cut). By AI agents, Wed Nov 11 2026. No macro, syntax, notation, axiom, sorry.
-/
import Derived.Test.YtlnbmmgbfgmboaaGreatDoorChecked
import GoSem.Claim
import GoSem.ClaimJoined
import GoSem.ClaimMapViews
import Derived.JoinedTies
import Derived.KernelRfl
namespace Go.Proofs.YtlnbmmgbfgmboaaGreatDoor
/- THE CELL 'sum', in the pinned program and in every row, IS THE sha256 OF THE DUMP (.gsa) THAT YtlnbmmgbfgmboaaGreatDoorProg.lean LOADS. Nothing in Lean hashes anything: it is a label: what it is worth is what the hold of that sum in a sandbox is worth. -/
noncomputable def Tryz.pinned : Pinned := { name := "ytlnbmmgbfgmboaagreatdoor", sum := "aa7350bca679afd4895db37aca7557786c3858a0285291943938f3dfd8ae7b5c", checked := Tryz.checked }
namespace Rows
def none {H : Type} : Left H := { results := [], args := [] }

/- WHAT THE LISTED PACKAGE-LEVEL VARIABLES READ AS WHEN THE CALL BEGINS. Each datum BY PROGRAM (the guide's laid-datum.mjs) off the statement by which the dump's own 'gosem.cut.vars' lays the variable. In a bare row this is a premise. The card (YtlnbmmgbfgmboaaGreatDoorCards.lean) ties it to the program's text. -/
def laid_lockorder_expr_signs {H : Type} : DataW H := .agg [.lit (.string []), .lit (.string []), .lit (.string []), .lit (.string [45]), .lit (.string [33]), .lit (.string [42]), .lit (.string [47]), .lit (.string [37]), .lit (.string [43]), .lit (.string [45]), .lit (.string [60]), .lit (.string [60, 61]), .lit (.string [62]), .lit (.string [62, 61]), .lit (.string [61, 61]), .lit (.string [33, 61]), .lit (.string [38, 38]), .lit (.string [124, 124])]

/-- 'lockorderlaw03.ParseChanged': WHATEVER THE INPUT: true; the input reads as it did. -/
def parseChangedSpec : ChangeSpec := { name := "parseChanged", fn := fun _ => fun
  | [d1, d2, d3, d4, d5, d6] => { results := [.lit (.bool true)], args := [d1, d2, d3, d4, d5, d6] }
  | _ => none }
def parseChangedRow : OpenClaim := { program := "ytlnbmmgbfgmboaagreatdoor", sum := "aa7350bca679afd4895db37aca7557786c3858a0285291943938f3dfd8ae7b5c", func := "lockorder/lockorderlaw03.ParseChanged", spec := "parseChanged", unfollowed := true, recurses := true, named := ["lockorder/expr.signs"], apart := false, laid := [("lockorder/expr.signs", laid_lockorder_expr_signs)] }
def ParseChangedSaid : Prop := parseChangedRow.holds Tryz.pinned (OpenSpec.ofChange parseChangedSpec)

/-- ITS FALSE NEIGHBOUR: 'it returns false'. Refute it at one input. -/
def parseChangedWrong : ChangeSpec := { name := "parseChanged", fn := fun _ => fun
  | [d1, d2, d3, d4, d5, d6] => { results := [.lit (.bool false)], args := [d1, d2, d3, d4, d5, d6] }
  | _ => none }
def ParseChangedWrongFalsely : Prop := parseChangedRow.holds Tryz.pinned (OpenSpec.ofChange parseChangedWrong)

/-- 'lockorderlaw03.ParseBlock': WHATEVER THE INPUT: true; the input reads as it did. -/
def parseBlockSpec : ChangeSpec := { name := "parseBlock", fn := fun _ => fun
  | [d1, d2, d3, d4] => { results := [.lit (.bool true)], args := [d1, d2, d3, d4] }
  | _ => none }
def parseBlockRow : OpenClaim := { program := "ytlnbmmgbfgmboaagreatdoor", sum := "aa7350bca679afd4895db37aca7557786c3858a0285291943938f3dfd8ae7b5c", func := "lockorder/lockorderlaw03.ParseBlock", spec := "parseBlock", unfollowed := true, recurses := true, named := ["lockorder/expr.signs"], apart := false, laid := [("lockorder/expr.signs", laid_lockorder_expr_signs)] }
def ParseBlockSaid : Prop := parseBlockRow.holds Tryz.pinned (OpenSpec.ofChange parseBlockSpec)

/-- ITS FALSE NEIGHBOUR: 'it returns false'. Refute it at one input. -/
def parseBlockWrong : ChangeSpec := { name := "parseBlock", fn := fun _ => fun
  | [d1, d2, d3, d4] => { results := [.lit (.bool false)], args := [d1, d2, d3, d4] }
  | _ => none }
def ParseBlockWrongFalsely : Prop := parseBlockRow.holds Tryz.pinned (OpenSpec.ofChange parseBlockWrong)

/- THE SECOND FORM. 'bulk': how many values and letters a reading holds, each counted each time it is reached (what is shared counts as often as it is met; a slice's spare places count too). A statement '..UptoSaid' is the law's where the arguments, and the package variables that the reading takes, are together of bulk at most 1048576: NARROWER than '..Said'. Prove '..Said' where nothing that the law and all that it calls make is longer than what came in: it says more and counts as full. Else prove '..UptoSaid'. A law counts once. -/
mutual
def uptoBulk {H : Type} : DataW H → Nat
  | .lit (.string bytes) => bytes.length + 1
  | .lit _ => 1
  | .nil => 1
  | .ptr d => uptoBulk d + 1
  | .slice elems spare => uptoBulkAll elems + uptoBulkAll spare + 1
  | .agg parts => uptoBulkAll parts + 1
  | .iface _ d => uptoBulk d + 1
  | .map entries => uptoBulkEntries entries + 1
  | .held _ => 1
def uptoBulkAll {H : Type} : List (DataW H) → Nat
  | [] => 0
  | d :: r => uptoBulk d + uptoBulkAll r
def uptoBulkEntries {H : Type} : List (Lit × DataW H) → Nat
  | [] => 0
  | x :: r => uptoBulkEntry x + uptoBulkEntries r
def uptoBulkEntry {H : Type} : Lit × DataW H → Nat
  | (.string bytes, d) => bytes.length + uptoBulk d + 1
  | (_, d) => uptoBulk d + 1
 end
def uptoSmall : (H : Type) → List (DataW H) → Bool := fun _ ds => decide (uptoBulkAll ds ≤ 1048576)
def OpenSpec.upto (s : _root_.Go.ChangeSpec) : _root_.Go.OpenSpec := { _root_.Go.OpenSpec.ofChange s with cond := some uptoSmall }

/-- 'lockorderlaw03.ParseChanged', WHERE WHAT IT READS IS OF BULK AT MOST 1048576: true; the input reads as it did. -/
def parseChangedUptoRow : OpenClaim := { program := "ytlnbmmgbfgmboaagreatdoor", sum := "aa7350bca679afd4895db37aca7557786c3858a0285291943938f3dfd8ae7b5c", func := "lockorder/lockorderlaw03.ParseChanged", spec := "parseChanged", unfollowed := true, recurses := true, named := ["lockorder/expr.signs"], apart := false, laid := [("lockorder/expr.signs", laid_lockorder_expr_signs)], narrowed := true }
def ParseChangedUptoSaid : Prop := parseChangedUptoRow.holds Tryz.pinned (OpenSpec.upto parseChangedSpec)

/-- 'lockorderlaw03.ParseBlock', WHERE WHAT IT READS IS OF BULK AT MOST 1048576: true; the input reads as it did. -/
def parseBlockUptoRow : OpenClaim := { program := "ytlnbmmgbfgmboaagreatdoor", sum := "aa7350bca679afd4895db37aca7557786c3858a0285291943938f3dfd8ae7b5c", func := "lockorder/lockorderlaw03.ParseBlock", spec := "parseBlock", unfollowed := true, recurses := true, named := ["lockorder/expr.signs"], apart := false, laid := [("lockorder/expr.signs", laid_lockorder_expr_signs)], narrowed := true }
def ParseBlockUptoSaid : Prop := parseBlockUptoRow.holds Tryz.pinned (OpenSpec.upto parseBlockSpec)

end Rows
end Go.Proofs.YtlnbmmgbfgmboaaGreatDoor
