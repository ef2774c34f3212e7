/-
  NARROWER THAN 'FOR EVERY INPUT', by the rows' own cells (each row's printed sentence says how): ParseOrder: laid · ParseSpace: laid.
  DERIVED. THE GIVEN ROWS OF THIS SEAT. 2 by the template 'for every input the law returns true; each argument reads behind the call as it read before'; 0 by the template 'total and deterministic' (their statements: YtlnbmmgbfgmboaaDoorTotals.lean).
  GIVEN WITH THE SEED: the statements are not yours to turn. If you find one false, say at which input.
  Laid BY PROGRAM, IN A SANDBOX (cutbox-rows.mjs): the forced cells as the released guide's own fill.sh prints them over the translation 2a82bf65527f1547… (all of the seat's roots in one cut). By AI agents, Wed Nov 11 2026. No macro, syntax, notation, axiom, sorry.
-/
import Derived.Test.YtlnbmmgbfgmboaaDoorChecked
import GoSem.Claim
import GoSem.ClaimJoined
import GoSem.ClaimMapViews
import Derived.JoinedTies
import Derived.KernelRfl
namespace Go.Proofs.YtlnbmmgbfgmboaaDoor
/- THE CELL 'sum', in the pinned program and in every row, IS THE sha256 OF THE DUMP (.gsa) THAT YtlnbmmgbfgmboaaDoorProg.lean LOADS. Nothing in Lean hashes anything: it is a label: what it is worth is what the hold of that sum in a sandbox is worth. -/
noncomputable def Tryd.pinned : Pinned := { name := "ytlnbmmgbfgmboaadoor", sum := "2a82bf65527f15471dafbee906253d8562eace584ad0705381ecad412b555bcd", checked := Tryd.checked }
namespace Rows
def none {H : Type} : Left H := { results := [], args := [] }

/- WHAT THE LISTED PACKAGE-LEVEL VARIABLES READ AS WHEN THE CALL BEGINS. Each datum BY PROGRAM (the guide's laid-datum.mjs) off the statement by which the dump's own 'gosem.cut.vars' lays the variable. In a bare row this is a premise. The card (YtlnbmmgbfgmboaaDoorCards.lean) ties it to the program's text. -/
def laid_lockorder_expr_signs {H : Type} : DataW H := .agg [.lit (.string []), .lit (.string []), .lit (.string []), .lit (.string [45]), .lit (.string [33]), .lit (.string [42]), .lit (.string [47]), .lit (.string [37]), .lit (.string [43]), .lit (.string [45]), .lit (.string [60]), .lit (.string [60, 61]), .lit (.string [62]), .lit (.string [62, 61]), .lit (.string [61, 61]), .lit (.string [33, 61]), .lit (.string [38, 38]), .lit (.string [124, 124])]

/-- 'lockorderlaw03.ParseOrder': WHATEVER THE INPUT: true; the input reads as it did. -/
def parseOrderSpec : ChangeSpec := { name := "parseOrder", fn := fun _ => fun
  | [d] => { results := [.lit (.bool true)], args := [d] }
  | _ => none }
def parseOrderRow : OpenClaim := { program := "ytlnbmmgbfgmboaadoor", sum := "2a82bf65527f15471dafbee906253d8562eace584ad0705381ecad412b555bcd", func := "lockorder/lockorderlaw03.ParseOrder", spec := "parseOrder", unfollowed := true, recurses := true, named := ["lockorder/expr.signs"], apart := false, laid := [("lockorder/expr.signs", laid_lockorder_expr_signs)] }
def ParseOrderSaid : Prop := parseOrderRow.holds Tryd.pinned (OpenSpec.ofChange parseOrderSpec)

/-- ITS FALSE NEIGHBOUR: 'it returns false'. Refute it at one input. -/
def parseOrderWrong : ChangeSpec := { name := "parseOrder", fn := fun _ => fun
  | [d] => { results := [.lit (.bool false)], args := [d] }
  | _ => none }
def ParseOrderWrongFalsely : Prop := parseOrderRow.holds Tryd.pinned (OpenSpec.ofChange parseOrderWrong)

/-- 'lockorderlaw03.ParseSpace': WHATEVER THE INPUT: true; the input reads as it did. -/
def parseSpaceSpec : ChangeSpec := { name := "parseSpace", fn := fun _ => fun
  | [d] => { results := [.lit (.bool true)], args := [d] }
  | _ => none }
def parseSpaceRow : OpenClaim := { program := "ytlnbmmgbfgmboaadoor", sum := "2a82bf65527f15471dafbee906253d8562eace584ad0705381ecad412b555bcd", func := "lockorder/lockorderlaw03.ParseSpace", spec := "parseSpace", unfollowed := true, recurses := true, named := ["lockorder/expr.signs"], apart := false, laid := [("lockorder/expr.signs", laid_lockorder_expr_signs)] }
def ParseSpaceSaid : Prop := parseSpaceRow.holds Tryd.pinned (OpenSpec.ofChange parseSpaceSpec)

/-- ITS FALSE NEIGHBOUR: 'it returns false'. Refute it at one input. -/
def parseSpaceWrong : ChangeSpec := { name := "parseSpace", fn := fun _ => fun
  | [d] => { results := [.lit (.bool false)], args := [d] }
  | _ => none }
def ParseSpaceWrongFalsely : Prop := parseSpaceRow.holds Tryd.pinned (OpenSpec.ofChange parseSpaceWrong)

/- THE SECOND FORM. 'bulk': how many values and letters a reading holds, each counted each time it is reached (what is shared counts as often as it is met; a slice's spare places count too). A statement '..UptoSaid' is the law's where the arguments, and the package variables that the reading takes, are together of bulk at most 1048576: NARROWER than '..Said'. Prove '..Said' where nothing that the law and all that it calls make is longer than what came in: it says more and counts as full. Else prove '..UptoSaid'. A law counts once. -/
mutual
def uptoBulk {H : Type} : DataW H → Nat
  | .lit (.string bytes) => bytes.length + 1
  | .lit _ => 1
  | .nil => 1
  | .ptr d => uptoBulk d + 1
  | .slice elems spare => uptoBulkAll elems + uptoBulkAll spare + 1
  | .agg parts => uptoBulkAll parts + 1
  | .iface _ d => uptoBulk d + 1
  | .map entries => uptoBulkEntries entries + 1
  | .held _ => 1
def uptoBulkAll {H : Type} : List (DataW H) → Nat
  | [] => 0
  | d :: r => uptoBulk d + uptoBulkAll r
def uptoBulkEntries {H : Type} : List (Lit × DataW H) → Nat
  | [] => 0
  | x :: r => uptoBulkEntry x + uptoBulkEntries r
def uptoBulkEntry {H : Type} : Lit × DataW H → Nat
  | (.string bytes, d) => bytes.length + uptoBulk d + 1
  | (_, d) => uptoBulk d + 1
 end
def uptoSmall : (H : Type) → List (DataW H) → Bool := fun _ ds => decide (uptoBulkAll ds ≤ 1048576)
def OpenSpec.upto (s : _root_.Go.ChangeSpec) : _root_.Go.OpenSpec := { _root_.Go.OpenSpec.ofChange s with cond := some uptoSmall }

/-- 'lockorderlaw03.ParseOrder', WHERE WHAT IT READS IS OF BULK AT MOST 1048576: true; the input reads as it did. -/
def parseOrderUptoRow : OpenClaim := { program := "ytlnbmmgbfgmboaadoor", sum := "2a82bf65527f15471dafbee906253d8562eace584ad0705381ecad412b555bcd", func := "lockorder/lockorderlaw03.ParseOrder", spec := "parseOrder", unfollowed := true, recurses := true, named := ["lockorder/expr.signs"], apart := false, laid := [("lockorder/expr.signs", laid_lockorder_expr_signs)], narrowed := true }
def ParseOrderUptoSaid : Prop := parseOrderUptoRow.holds Tryd.pinned (OpenSpec.upto parseOrderSpec)

/-- 'lockorderlaw03.ParseSpace', WHERE WHAT IT READS IS OF BULK AT MOST 1048576: true; the input reads as it did. -/
def parseSpaceUptoRow : OpenClaim := { program := "ytlnbmmgbfgmboaadoor", sum := "2a82bf65527f15471dafbee906253d8562eace584ad0705381ecad412b555bcd", func := "lockorder/lockorderlaw03.ParseSpace", spec := "parseSpace", unfollowed := true, recurses := true, named := ["lockorder/expr.signs"], apart := false, laid := [("lockorder/expr.signs", laid_lockorder_expr_signs)], narrowed := true }
def ParseSpaceUptoSaid : Prop := parseSpaceUptoRow.holds Tryd.pinned (OpenSpec.upto parseSpaceSpec)

end Rows
end Go.Proofs.YtlnbmmgbfgmboaaDoor
