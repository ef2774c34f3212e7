/-
  No cell of these rows narrows 'for every input' (looked for: loops, veiled, ifaces, maps, wideKeys, modest, calm, conditions, laid).
  DERIVED. THE GIVEN ROWS OF THIS SEAT. 3 by the template 'for every input the law returns true; each argument reads behind the call as it read before'; 0 by the template 'total and deterministic' (their statements: YtlnbmmgbfgmboaaTotals.lean).
  GIVEN WITH THE SEED: the statements are not yours to turn. If you find one false, say at which input.
  Laid BY PROGRAM, IN A SANDBOX (cutbox-rows.mjs): the forced cells as the released guide's own fill.sh prints them over the translation e1205fcbe6a7feb5… (all of the seat's roots in one cut). By AI agents, Wed Nov 11 2026. No macro, syntax, notation, axiom, sorry.
-/
import Derived.Test.YtlnbmmgbfgmboaaChecked
import GoSem.Claim
import GoSem.ClaimJoined
import GoSem.ClaimMapViews
import Derived.JoinedTies
import Derived.KernelRfl
namespace Go.Proofs.Ytlnbmmgbfgmboaa
/- THE CELL 'sum', in the pinned program and in every row, IS THE sha256 OF THE DUMP (.gsa) THAT YtlnbmmgbfgmboaaProg.lean LOADS. Nothing in Lean hashes anything: it is a label: what it is worth is what the hold of that sum in a sandbox is worth. -/
noncomputable def Try.pinned : Pinned := { name := "ytlnbmmgbfgmboaa", sum := "e1205fcbe6a7feb5e014754c14f53b0f7b0f0a1f471cbb3db9c00b384aaab725", checked := Try.checked }
namespace Rows
def none {H : Type} : Left H := { results := [], args := [] }

/-- 'lockorderlaw01.TokenChanged': WHATEVER THE INPUT: true; the input reads as it did. -/
def tokenChangedSpec : ChangeSpec := { name := "tokenChanged", fn := fun _ => fun
  | [d1, d2, d3] => { results := [.lit (.bool true)], args := [d1, d2, d3] }
  | _ => none }
def tokenChangedRow : OpenClaim := { program := "ytlnbmmgbfgmboaa", sum := "e1205fcbe6a7feb5e014754c14f53b0f7b0f0a1f471cbb3db9c00b384aaab725", func := "lockorder/lockorderlaw01.TokenChanged", spec := "tokenChanged", inPlace := ["internal/abi.NoEscape", "internal/bytealg.MakeNoZero"], recurses := true, apart := false }
def TokenChangedSaid : Prop := tokenChangedRow.holds Try.pinned (OpenSpec.ofChange tokenChangedSpec)

/-- ITS FALSE NEIGHBOUR: 'it returns false'. Refute it at one input. -/
def tokenChangedWrong : ChangeSpec := { name := "tokenChanged", fn := fun _ => fun
  | [d1, d2, d3] => { results := [.lit (.bool false)], args := [d1, d2, d3] }
  | _ => none }
def TokenChangedWrongFalsely : Prop := tokenChangedRow.holds Try.pinned (OpenSpec.ofChange tokenChangedWrong)

/-- 'lockorderlaw01.TokenText': WHATEVER THE INPUT: true; the input reads as it did. -/
def tokenTextSpec : ChangeSpec := { name := "tokenText", fn := fun _ => fun
  | [d] => { results := [.lit (.bool true)], args := [d] }
  | _ => none }
def tokenTextRow : OpenClaim := { program := "ytlnbmmgbfgmboaa", sum := "e1205fcbe6a7feb5e014754c14f53b0f7b0f0a1f471cbb3db9c00b384aaab725", func := "lockorder/lockorderlaw01.TokenText", spec := "tokenText", inPlace := ["internal/abi.NoEscape", "internal/bytealg.MakeNoZero"], recurses := true, apart := false }
def TokenTextSaid : Prop := tokenTextRow.holds Try.pinned (OpenSpec.ofChange tokenTextSpec)

/-- ITS FALSE NEIGHBOUR: 'it returns false'. Refute it at one input. -/
def tokenTextWrong : ChangeSpec := { name := "tokenText", fn := fun _ => fun
  | [d] => { results := [.lit (.bool false)], args := [d] }
  | _ => none }
def TokenTextWrongFalsely : Prop := tokenTextRow.holds Try.pinned (OpenSpec.ofChange tokenTextWrong)

/-- 'lockorderlaw01.TokenSpace': WHATEVER THE INPUT: true; the input reads as it did. -/
def tokenSpaceSpec : ChangeSpec := { name := "tokenSpace", fn := fun _ => fun
  | [d1, d2] => { results := [.lit (.bool true)], args := [d1, d2] }
  | _ => none }
def tokenSpaceRow : OpenClaim := { program := "ytlnbmmgbfgmboaa", sum := "e1205fcbe6a7feb5e014754c14f53b0f7b0f0a1f471cbb3db9c00b384aaab725", func := "lockorder/lockorderlaw01.TokenSpace", spec := "tokenSpace", inPlace := ["internal/abi.NoEscape", "internal/bytealg.MakeNoZero"], recurses := true, apart := false }
def TokenSpaceSaid : Prop := tokenSpaceRow.holds Try.pinned (OpenSpec.ofChange tokenSpaceSpec)

/-- ITS FALSE NEIGHBOUR: 'it returns false'. Refute it at one input. -/
def tokenSpaceWrong : ChangeSpec := { name := "tokenSpace", fn := fun _ => fun
  | [d1, d2] => { results := [.lit (.bool false)], args := [d1, d2] }
  | _ => none }
def TokenSpaceWrongFalsely : Prop := tokenSpaceRow.holds Try.pinned (OpenSpec.ofChange tokenSpaceWrong)

/- THE SECOND FORM. 'bulk': how many values and letters a reading holds, each counted each time it is reached (what is shared counts as often as it is met; a slice's spare places count too). A statement '..UptoSaid' is the law's where the arguments, and the package variables that the reading takes, are together of bulk at most 1048576: NARROWER than '..Said'. Prove '..Said' where nothing that the law and all that it calls make is longer than what came in: it says more and counts as full. Else prove '..UptoSaid'. A law counts once. -/
mutual
def uptoBulk {H : Type} : DataW H → Nat
  | .lit (.string bytes) => bytes.length + 1
  | .lit _ => 1
  | .nil => 1
  | .ptr d => uptoBulk d + 1
  | .slice elems spare => uptoBulkAll elems + uptoBulkAll spare + 1
  | .agg parts => uptoBulkAll parts + 1
  | .iface _ d => uptoBulk d + 1
  | .map entries => uptoBulkEntries entries + 1
  | .held _ => 1
def uptoBulkAll {H : Type} : List (DataW H) → Nat
  | [] => 0
  | d :: r => uptoBulk d + uptoBulkAll r
def uptoBulkEntries {H : Type} : List (Lit × DataW H) → Nat
  | [] => 0
  | x :: r => uptoBulkEntry x + uptoBulkEntries r
def uptoBulkEntry {H : Type} : Lit × DataW H → Nat
  | (.string bytes, d) => bytes.length + uptoBulk d + 1
  | (_, d) => uptoBulk d + 1
 end
def uptoSmall : (H : Type) → List (DataW H) → Bool := fun _ ds => decide (uptoBulkAll ds ≤ 1048576)
def OpenSpec.upto (s : _root_.Go.ChangeSpec) : _root_.Go.OpenSpec := { _root_.Go.OpenSpec.ofChange s with cond := some uptoSmall }

/-- 'lockorderlaw01.TokenChanged', WHERE WHAT IT READS IS OF BULK AT MOST 1048576: true; the input reads as it did. -/
def tokenChangedUptoRow : OpenClaim := { program := "ytlnbmmgbfgmboaa", sum := "e1205fcbe6a7feb5e014754c14f53b0f7b0f0a1f471cbb3db9c00b384aaab725", func := "lockorder/lockorderlaw01.TokenChanged", spec := "tokenChanged", inPlace := ["internal/abi.NoEscape", "internal/bytealg.MakeNoZero"], recurses := true, apart := false, narrowed := true }
def TokenChangedUptoSaid : Prop := tokenChangedUptoRow.holds Try.pinned (OpenSpec.upto tokenChangedSpec)

/-- 'lockorderlaw01.TokenText', WHERE WHAT IT READS IS OF BULK AT MOST 1048576: true; the input reads as it did. -/
def tokenTextUptoRow : OpenClaim := { program := "ytlnbmmgbfgmboaa", sum := "e1205fcbe6a7feb5e014754c14f53b0f7b0f0a1f471cbb3db9c00b384aaab725", func := "lockorder/lockorderlaw01.TokenText", spec := "tokenText", inPlace := ["internal/abi.NoEscape", "internal/bytealg.MakeNoZero"], recurses := true, apart := false, narrowed := true }
def TokenTextUptoSaid : Prop := tokenTextUptoRow.holds Try.pinned (OpenSpec.upto tokenTextSpec)

/-- 'lockorderlaw01.TokenSpace', WHERE WHAT IT READS IS OF BULK AT MOST 1048576: true; the input reads as it did. -/
def tokenSpaceUptoRow : OpenClaim := { program := "ytlnbmmgbfgmboaa", sum := "e1205fcbe6a7feb5e014754c14f53b0f7b0f0a1f471cbb3db9c00b384aaab725", func := "lockorder/lockorderlaw01.TokenSpace", spec := "tokenSpace", inPlace := ["internal/abi.NoEscape", "internal/bytealg.MakeNoZero"], recurses := true, apart := false, narrowed := true }
def TokenSpaceUptoSaid : Prop := tokenSpaceUptoRow.holds Try.pinned (OpenSpec.upto tokenSpaceSpec)

end Rows
end Go.Proofs.Ytlnbmmgbfgmboaa
