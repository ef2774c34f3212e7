/-
  No cell of these rows narrows 'for every input' (looked for: loops, veiled, ifaces, maps, wideKeys, modest, calm, conditions, laid).
  DERIVED. THE GIVEN ROWS OF THIS SEAT. 7 by the template 'for every input the law returns true; each argument reads behind the call as it read before'; 0 by the template 'total and deterministic' (their statements: YtiaonhpiiibkdaaTotals.lean).
  GIVEN WITH THE SEED: the statements are not yours to turn. If you find one false, say at which input.
  Laid BY PROGRAM, IN A SANDBOX (cutbox-rows.mjs): the forced cells as the released guide's own fill.sh prints them over the translation 0d53f5abbf37ce36… (all of the seat's roots in one cut). By AI agents, Wed Nov 11 2026. No macro, syntax, notation, axiom, sorry.
-/
import Derived.Test.YtiaonhpiiibkdaaChecked
import GoSem.Claim
import GoSem.ClaimJoined
import GoSem.ClaimMapViews
import Derived.JoinedTies
import Derived.KernelRfl
namespace Go.Proofs.Ytiaonhpiiibkdaa
/- THE CELL 'sum', in the pinned program and in every row, IS THE sha256 OF THE DUMP (.gsa) THAT YtiaonhpiiibkdaaProg.lean LOADS. Nothing in Lean hashes anything: it is a label: what it is worth is what the hold of that sum in a sandbox is worth. -/
noncomputable def Try.pinned : Pinned := { name := "ytiaonhpiiibkdaa", sum := "0d53f5abbf37ce36be0c93f30243619eceb1e71107f693f302114e85b4c904b6", checked := Try.checked }
namespace Rows
def none {H : Type} : Left H := { results := [], args := [] }

/-- 'lockorderlaw07.ValueEval': WHATEVER THE INPUT: true; the input reads as it did. -/
def valueEvalSpec : ChangeSpec := { name := "valueEval", fn := fun _ => fun
  | [d1, d2, d3, d4] => { results := [.lit (.bool true)], args := [d1, d2, d3, d4] }
  | _ => none }
def valueEvalRow : OpenClaim := { program := "ytiaonhpiiibkdaa", sum := "0d53f5abbf37ce36be0c93f30243619eceb1e71107f693f302114e85b4c904b6", func := "lockorder/lockorderlaw07.ValueEval", spec := "valueEval", unfollowed := true, recurses := true, apart := false }
def ValueEvalSaid : Prop := valueEvalRow.holds Try.pinned (OpenSpec.ofChange valueEvalSpec)

/-- ITS FALSE NEIGHBOUR: 'it returns false'. Refute it at one input. -/
def valueEvalWrong : ChangeSpec := { name := "valueEval", fn := fun _ => fun
  | [d1, d2, d3, d4] => { results := [.lit (.bool false)], args := [d1, d2, d3, d4] }
  | _ => none }
def ValueEvalWrongFalsely : Prop := valueEvalRow.holds Try.pinned (OpenSpec.ofChange valueEvalWrong)

/-- 'lockorderlaw07.ValueTwo': WHATEVER THE INPUT: true; the input reads as it did. -/
def valueTwoSpec : ChangeSpec := { name := "valueTwo", fn := fun _ => fun
  | [d1, d2, d3, d4] => { results := [.lit (.bool true)], args := [d1, d2, d3, d4] }
  | _ => none }
def valueTwoRow : OpenClaim := { program := "ytiaonhpiiibkdaa", sum := "0d53f5abbf37ce36be0c93f30243619eceb1e71107f693f302114e85b4c904b6", func := "lockorder/lockorderlaw07.ValueTwo", spec := "valueTwo", unfollowed := true, recurses := true, apart := false }
def ValueTwoSaid : Prop := valueTwoRow.holds Try.pinned (OpenSpec.ofChange valueTwoSpec)

/-- ITS FALSE NEIGHBOUR: 'it returns false'. Refute it at one input. -/
def valueTwoWrong : ChangeSpec := { name := "valueTwo", fn := fun _ => fun
  | [d1, d2, d3, d4] => { results := [.lit (.bool false)], args := [d1, d2, d3, d4] }
  | _ => none }
def ValueTwoWrongFalsely : Prop := valueTwoRow.holds Try.pinned (OpenSpec.ofChange valueTwoWrong)

/-- 'lockorderlaw07.ValueDivision': WHATEVER THE INPUT: true; the input reads as it did. -/
def valueDivisionSpec : ChangeSpec := { name := "valueDivision", fn := fun _ => fun
  | [d1, d2] => { results := [.lit (.bool true)], args := [d1, d2] }
  | _ => none }
def valueDivisionRow : OpenClaim := { program := "ytiaonhpiiibkdaa", sum := "0d53f5abbf37ce36be0c93f30243619eceb1e71107f693f302114e85b4c904b6", func := "lockorder/lockorderlaw07.ValueDivision", spec := "valueDivision", unfollowed := true, recurses := true, apart := false }
def ValueDivisionSaid : Prop := valueDivisionRow.holds Try.pinned (OpenSpec.ofChange valueDivisionSpec)

/-- ITS FALSE NEIGHBOUR: 'it returns false'. Refute it at one input. -/
def valueDivisionWrong : ChangeSpec := { name := "valueDivision", fn := fun _ => fun
  | [d1, d2] => { results := [.lit (.bool false)], args := [d1, d2] }
  | _ => none }
def ValueDivisionWrongFalsely : Prop := valueDivisionRow.holds Try.pinned (OpenSpec.ofChange valueDivisionWrong)

/-- 'lockorderlaw07.ValueTruth': WHATEVER THE INPUT: true; the input reads as it did. -/
def valueTruthSpec : ChangeSpec := { name := "valueTruth", fn := fun _ => fun
  | [d1, d2, d3, d4] => { results := [.lit (.bool true)], args := [d1, d2, d3, d4] }
  | _ => none }
def valueTruthRow : OpenClaim := { program := "ytiaonhpiiibkdaa", sum := "0d53f5abbf37ce36be0c93f30243619eceb1e71107f693f302114e85b4c904b6", func := "lockorder/lockorderlaw07.ValueTruth", spec := "valueTruth", unfollowed := true, recurses := true, apart := false }
def ValueTruthSaid : Prop := valueTruthRow.holds Try.pinned (OpenSpec.ofChange valueTruthSpec)

/-- ITS FALSE NEIGHBOUR: 'it returns false'. Refute it at one input. -/
def valueTruthWrong : ChangeSpec := { name := "valueTruth", fn := fun _ => fun
  | [d1, d2, d3, d4] => { results := [.lit (.bool false)], args := [d1, d2, d3, d4] }
  | _ => none }
def ValueTruthWrongFalsely : Prop := valueTruthRow.holds Try.pinned (OpenSpec.ofChange valueTruthWrong)

/-- 'lockorderlaw07.ValueStops': WHATEVER THE INPUT: true; the input reads as it did. -/
def valueStopsSpec : ChangeSpec := { name := "valueStops", fn := fun _ => fun
  | [d1, d2] => { results := [.lit (.bool true)], args := [d1, d2] }
  | _ => none }
def valueStopsRow : OpenClaim := { program := "ytiaonhpiiibkdaa", sum := "0d53f5abbf37ce36be0c93f30243619eceb1e71107f693f302114e85b4c904b6", func := "lockorder/lockorderlaw07.ValueStops", spec := "valueStops", unfollowed := true, recurses := true, apart := false }
def ValueStopsSaid : Prop := valueStopsRow.holds Try.pinned (OpenSpec.ofChange valueStopsSpec)

/-- ITS FALSE NEIGHBOUR: 'it returns false'. Refute it at one input. -/
def valueStopsWrong : ChangeSpec := { name := "valueStops", fn := fun _ => fun
  | [d1, d2] => { results := [.lit (.bool false)], args := [d1, d2] }
  | _ => none }
def ValueStopsWrongFalsely : Prop := valueStopsRow.holds Try.pinned (OpenSpec.ofChange valueStopsWrong)

/-- 'lockorderlaw07.ValueVariables': WHATEVER THE INPUT: true; the input reads as it did. -/
def valueVariablesSpec : ChangeSpec := { name := "valueVariables", fn := fun _ => fun
  | [d1, d2, d3, d4, d5] => { results := [.lit (.bool true)], args := [d1, d2, d3, d4, d5] }
  | _ => none }
def valueVariablesRow : OpenClaim := { program := "ytiaonhpiiibkdaa", sum := "0d53f5abbf37ce36be0c93f30243619eceb1e71107f693f302114e85b4c904b6", func := "lockorder/lockorderlaw07.ValueVariables", spec := "valueVariables", unfollowed := true, recurses := true, apart := false }
def ValueVariablesSaid : Prop := valueVariablesRow.holds Try.pinned (OpenSpec.ofChange valueVariablesSpec)

/-- ITS FALSE NEIGHBOUR: 'it returns false'. Refute it at one input. -/
def valueVariablesWrong : ChangeSpec := { name := "valueVariables", fn := fun _ => fun
  | [d1, d2, d3, d4, d5] => { results := [.lit (.bool false)], args := [d1, d2, d3, d4, d5] }
  | _ => none }
def ValueVariablesWrongFalsely : Prop := valueVariablesRow.holds Try.pinned (OpenSpec.ofChange valueVariablesWrong)

/-- 'lockorderlaw07.ValueIndex': WHATEVER THE INPUT: true; the input reads as it did. -/
def valueIndexSpec : ChangeSpec := { name := "valueIndex", fn := fun _ => fun
  | [d1, d2, d3, d4, d5, d6] => { results := [.lit (.bool true)], args := [d1, d2, d3, d4, d5, d6] }
  | _ => none }
def valueIndexRow : OpenClaim := { program := "ytiaonhpiiibkdaa", sum := "0d53f5abbf37ce36be0c93f30243619eceb1e71107f693f302114e85b4c904b6", func := "lockorder/lockorderlaw07.ValueIndex", spec := "valueIndex", unfollowed := true, recurses := true, apart := false }
def ValueIndexSaid : Prop := valueIndexRow.holds Try.pinned (OpenSpec.ofChange valueIndexSpec)

/-- ITS FALSE NEIGHBOUR: 'it returns false'. Refute it at one input. -/
def valueIndexWrong : ChangeSpec := { name := "valueIndex", fn := fun _ => fun
  | [d1, d2, d3, d4, d5, d6] => { results := [.lit (.bool false)], args := [d1, d2, d3, d4, d5, d6] }
  | _ => none }
def ValueIndexWrongFalsely : Prop := valueIndexRow.holds Try.pinned (OpenSpec.ofChange valueIndexWrong)

/- THE SECOND FORM. 'bulk': how many values and letters a reading holds, each counted each time it is reached (what is shared counts as often as it is met; a slice's spare places count too). A statement '..UptoSaid' is the law's where the arguments, and the package variables that the reading takes, are together of bulk at most 1048576: NARROWER than '..Said'. Prove '..Said' where nothing that the law and all that it calls make is longer than what came in: it says more and counts as full. Else prove '..UptoSaid'. A law counts once. -/
mutual
def uptoBulk {H : Type} : DataW H → Nat
  | .lit (.string bytes) => bytes.length + 1
  | .lit _ => 1
  | .nil => 1
  | .ptr d => uptoBulk d + 1
  | .slice elems spare => uptoBulkAll elems + uptoBulkAll spare + 1
  | .agg parts => uptoBulkAll parts + 1
  | .iface _ d => uptoBulk d + 1
  | .map entries => uptoBulkEntries entries + 1
  | .held _ => 1
def uptoBulkAll {H : Type} : List (DataW H) → Nat
  | [] => 0
  | d :: r => uptoBulk d + uptoBulkAll r
def uptoBulkEntries {H : Type} : List (Lit × DataW H) → Nat
  | [] => 0
  | x :: r => uptoBulkEntry x + uptoBulkEntries r
def uptoBulkEntry {H : Type} : Lit × DataW H → Nat
  | (.string bytes, d) => bytes.length + uptoBulk d + 1
  | (_, d) => uptoBulk d + 1
 end
def uptoSmall : (H : Type) → List (DataW H) → Bool := fun _ ds => decide (uptoBulkAll ds ≤ 1048576)
def OpenSpec.upto (s : _root_.Go.ChangeSpec) : _root_.Go.OpenSpec := { _root_.Go.OpenSpec.ofChange s with cond := some uptoSmall }

/-- 'lockorderlaw07.ValueEval', WHERE WHAT IT READS IS OF BULK AT MOST 1048576: true; the input reads as it did. -/
def valueEvalUptoRow : OpenClaim := { program := "ytiaonhpiiibkdaa", sum := "0d53f5abbf37ce36be0c93f30243619eceb1e71107f693f302114e85b4c904b6", func := "lockorder/lockorderlaw07.ValueEval", spec := "valueEval", unfollowed := true, recurses := true, apart := false, narrowed := true }
def ValueEvalUptoSaid : Prop := valueEvalUptoRow.holds Try.pinned (OpenSpec.upto valueEvalSpec)

/-- 'lockorderlaw07.ValueTwo', WHERE WHAT IT READS IS OF BULK AT MOST 1048576: true; the input reads as it did. -/
def valueTwoUptoRow : OpenClaim := { program := "ytiaonhpiiibkdaa", sum := "0d53f5abbf37ce36be0c93f30243619eceb1e71107f693f302114e85b4c904b6", func := "lockorder/lockorderlaw07.ValueTwo", spec := "valueTwo", unfollowed := true, recurses := true, apart := false, narrowed := true }
def ValueTwoUptoSaid : Prop := valueTwoUptoRow.holds Try.pinned (OpenSpec.upto valueTwoSpec)

/-- 'lockorderlaw07.ValueDivision', WHERE WHAT IT READS IS OF BULK AT MOST 1048576: true; the input reads as it did. -/
def valueDivisionUptoRow : OpenClaim := { program := "ytiaonhpiiibkdaa", sum := "0d53f5abbf37ce36be0c93f30243619eceb1e71107f693f302114e85b4c904b6", func := "lockorder/lockorderlaw07.ValueDivision", spec := "valueDivision", unfollowed := true, recurses := true, apart := false, narrowed := true }
def ValueDivisionUptoSaid : Prop := valueDivisionUptoRow.holds Try.pinned (OpenSpec.upto valueDivisionSpec)

/-- 'lockorderlaw07.ValueTruth', WHERE WHAT IT READS IS OF BULK AT MOST 1048576: true; the input reads as it did. -/
def valueTruthUptoRow : OpenClaim := { program := "ytiaonhpiiibkdaa", sum := "0d53f5abbf37ce36be0c93f30243619eceb1e71107f693f302114e85b4c904b6", func := "lockorder/lockorderlaw07.ValueTruth", spec := "valueTruth", unfollowed := true, recurses := true, apart := false, narrowed := true }
def ValueTruthUptoSaid : Prop := valueTruthUptoRow.holds Try.pinned (OpenSpec.upto valueTruthSpec)

/-- 'lockorderlaw07.ValueStops', WHERE WHAT IT READS IS OF BULK AT MOST 1048576: true; the input reads as it did. -/
def valueStopsUptoRow : OpenClaim := { program := "ytiaonhpiiibkdaa", sum := "0d53f5abbf37ce36be0c93f30243619eceb1e71107f693f302114e85b4c904b6", func := "lockorder/lockorderlaw07.ValueStops", spec := "valueStops", unfollowed := true, recurses := true, apart := false, narrowed := true }
def ValueStopsUptoSaid : Prop := valueStopsUptoRow.holds Try.pinned (OpenSpec.upto valueStopsSpec)

/-- 'lockorderlaw07.ValueVariables', WHERE WHAT IT READS IS OF BULK AT MOST 1048576: true; the input reads as it did. -/
def valueVariablesUptoRow : OpenClaim := { program := "ytiaonhpiiibkdaa", sum := "0d53f5abbf37ce36be0c93f30243619eceb1e71107f693f302114e85b4c904b6", func := "lockorder/lockorderlaw07.ValueVariables", spec := "valueVariables", unfollowed := true, recurses := true, apart := false, narrowed := true }
def ValueVariablesUptoSaid : Prop := valueVariablesUptoRow.holds Try.pinned (OpenSpec.upto valueVariablesSpec)

/-- 'lockorderlaw07.ValueIndex', WHERE WHAT IT READS IS OF BULK AT MOST 1048576: true; the input reads as it did. -/
def valueIndexUptoRow : OpenClaim := { program := "ytiaonhpiiibkdaa", sum := "0d53f5abbf37ce36be0c93f30243619eceb1e71107f693f302114e85b4c904b6", func := "lockorder/lockorderlaw07.ValueIndex", spec := "valueIndex", unfollowed := true, recurses := true, apart := false, narrowed := true }
def ValueIndexUptoSaid : Prop := valueIndexUptoRow.holds Try.pinned (OpenSpec.upto valueIndexSpec)

end Rows
end Go.Proofs.Ytiaonhpiiibkdaa
