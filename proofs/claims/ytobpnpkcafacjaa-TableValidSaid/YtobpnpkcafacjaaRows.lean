/-
  No cell of these rows narrows 'for every input' (looked for: loops, veiled, ifaces, maps, wideKeys, modest, calm, conditions, laid).
  DERIVED. THE GIVEN ROWS OF THIS SEAT. 6 by the template 'for every input the law returns true; each argument reads behind the call as it read before'; 0 by the template 'total and deterministic' (their statements: YtobpnpkcafacjaaTotals.lean).
  GIVEN WITH THE SEED: the statements are not yours to turn. If you find one false, say at which input.
  Laid BY PROGRAM, IN A SANDBOX (cutbox-rows.mjs): the forced cells as the released guide's own fill.sh prints them over the translation b1fb8d0ce8076a15… (all of the seat's roots in one cut). By AI agents, Wed Nov 11 2026. No macro, syntax, notation, axiom, sorry.
-/
import Derived.Test.YtobpnpkcafacjaaChecked
import GoSem.Claim
import GoSem.ClaimJoined
import GoSem.ClaimMapViews
import Derived.JoinedTies
import Derived.KernelRfl
namespace Go.Proofs.Ytobpnpkcafacjaa
/- THE CELL 'sum', in the pinned program and in every row, IS THE sha256 OF THE DUMP (.gsa) THAT YtobpnpkcafacjaaProg.lean LOADS. Nothing in Lean hashes anything: it is a label: what it is worth is what the hold of that sum in a sandbox is worth. -/
noncomputable def Try.pinned : Pinned := { name := "ytobpnpkcafacjaa", sum := "b1fb8d0ce8076a15b6dbcce21da0f5e6347fae491f7f4a0494b2c57a74c6caee", checked := Try.checked }
namespace Rows
def none {H : Type} : Left H := { results := [], args := [] }

/-- 'lockorderlaw08.TableElements': WHATEVER THE INPUT: true; the input reads as it did. -/
def tableElementsSpec : ChangeSpec := { name := "tableElements", fn := fun _ => fun
  | [d1, d2, d3, d4] => { results := [.lit (.bool true)], args := [d1, d2, d3, d4] }
  | _ => none }
def tableElementsRow : OpenClaim := { program := "ytobpnpkcafacjaa", sum := "b1fb8d0ce8076a15b6dbcce21da0f5e6347fae491f7f4a0494b2c57a74c6caee", func := "lockorder/lockorderlaw08.TableElements", spec := "tableElements", apart := false }
def TableElementsSaid : Prop := tableElementsRow.holds Try.pinned (OpenSpec.ofChange tableElementsSpec)

/-- ITS FALSE NEIGHBOUR: 'it returns false'. Refute it at one input. -/
def tableElementsWrong : ChangeSpec := { name := "tableElements", fn := fun _ => fun
  | [d1, d2, d3, d4] => { results := [.lit (.bool false)], args := [d1, d2, d3, d4] }
  | _ => none }
def TableElementsWrongFalsely : Prop := tableElementsRow.holds Try.pinned (OpenSpec.ofChange tableElementsWrong)

/-- 'lockorderlaw08.TableLock': WHATEVER THE INPUT: true; the input reads as it did. -/
def tableLockSpec : ChangeSpec := { name := "tableLock", fn := fun _ => fun
  | [d1, d2, d3, d4, d5] => { results := [.lit (.bool true)], args := [d1, d2, d3, d4, d5] }
  | _ => none }
def tableLockRow : OpenClaim := { program := "ytobpnpkcafacjaa", sum := "b1fb8d0ce8076a15b6dbcce21da0f5e6347fae491f7f4a0494b2c57a74c6caee", func := "lockorder/lockorderlaw08.TableLock", spec := "tableLock", apart := false }
def TableLockSaid : Prop := tableLockRow.holds Try.pinned (OpenSpec.ofChange tableLockSpec)

/-- ITS FALSE NEIGHBOUR: 'it returns false'. Refute it at one input. -/
def tableLockWrong : ChangeSpec := { name := "tableLock", fn := fun _ => fun
  | [d1, d2, d3, d4, d5] => { results := [.lit (.bool false)], args := [d1, d2, d3, d4, d5] }
  | _ => none }
def TableLockWrongFalsely : Prop := tableLockRow.holds Try.pinned (OpenSpec.ofChange tableLockWrong)

/-- 'lockorderlaw08.TableDepth': WHATEVER THE INPUT: true; the input reads as it did. -/
def tableDepthSpec : ChangeSpec := { name := "tableDepth", fn := fun _ => fun
  | [d1, d2, d3, d4, d5] => { results := [.lit (.bool true)], args := [d1, d2, d3, d4, d5] }
  | _ => none }
def tableDepthRow : OpenClaim := { program := "ytobpnpkcafacjaa", sum := "b1fb8d0ce8076a15b6dbcce21da0f5e6347fae491f7f4a0494b2c57a74c6caee", func := "lockorder/lockorderlaw08.TableDepth", spec := "tableDepth", apart := false }
def TableDepthSaid : Prop := tableDepthRow.holds Try.pinned (OpenSpec.ofChange tableDepthSpec)

/-- ITS FALSE NEIGHBOUR: 'it returns false'. Refute it at one input. -/
def tableDepthWrong : ChangeSpec := { name := "tableDepth", fn := fun _ => fun
  | [d1, d2, d3, d4, d5] => { results := [.lit (.bool false)], args := [d1, d2, d3, d4, d5] }
  | _ => none }
def TableDepthWrongFalsely : Prop := tableDepthRow.holds Try.pinned (OpenSpec.ofChange tableDepthWrong)

/-- 'lockorderlaw08.TableValid': WHATEVER THE INPUT: true; the input reads as it did. -/
def tableValidSpec : ChangeSpec := { name := "tableValid", fn := fun _ => fun
  | [d1, d2, d3, d4, d5, d6] => { results := [.lit (.bool true)], args := [d1, d2, d3, d4, d5, d6] }
  | _ => none }
def tableValidRow : OpenClaim := { program := "ytobpnpkcafacjaa", sum := "b1fb8d0ce8076a15b6dbcce21da0f5e6347fae491f7f4a0494b2c57a74c6caee", func := "lockorder/lockorderlaw08.TableValid", spec := "tableValid", apart := false }
def TableValidSaid : Prop := tableValidRow.holds Try.pinned (OpenSpec.ofChange tableValidSpec)

/-- ITS FALSE NEIGHBOUR: 'it returns false'. Refute it at one input. -/
def tableValidWrong : ChangeSpec := { name := "tableValid", fn := fun _ => fun
  | [d1, d2, d3, d4, d5, d6] => { results := [.lit (.bool false)], args := [d1, d2, d3, d4, d5, d6] }
  | _ => none }
def TableValidWrongFalsely : Prop := tableValidRow.holds Try.pinned (OpenSpec.ofChange tableValidWrong)

/-- 'lockorderlaw08.TableInverse': WHATEVER THE INPUT: true; the input reads as it did. -/
def tableInverseSpec : ChangeSpec := { name := "tableInverse", fn := fun _ => fun
  | [d1, d2, d3, d4] => { results := [.lit (.bool true)], args := [d1, d2, d3, d4] }
  | _ => none }
def tableInverseRow : OpenClaim := { program := "ytobpnpkcafacjaa", sum := "b1fb8d0ce8076a15b6dbcce21da0f5e6347fae491f7f4a0494b2c57a74c6caee", func := "lockorder/lockorderlaw08.TableInverse", spec := "tableInverse", apart := false }
def TableInverseSaid : Prop := tableInverseRow.holds Try.pinned (OpenSpec.ofChange tableInverseSpec)

/-- ITS FALSE NEIGHBOUR: 'it returns false'. Refute it at one input. -/
def tableInverseWrong : ChangeSpec := { name := "tableInverse", fn := fun _ => fun
  | [d1, d2, d3, d4] => { results := [.lit (.bool false)], args := [d1, d2, d3, d4] }
  | _ => none }
def TableInverseWrongFalsely : Prop := tableInverseRow.holds Try.pinned (OpenSpec.ofChange tableInverseWrong)

/-- 'lockorderlaw08.TableOwner': WHATEVER THE INPUT: true; the input reads as it did. -/
def tableOwnerSpec : ChangeSpec := { name := "tableOwner", fn := fun _ => fun
  | [d1, d2, d3, d4, d5] => { results := [.lit (.bool true)], args := [d1, d2, d3, d4, d5] }
  | _ => none }
def tableOwnerRow : OpenClaim := { program := "ytobpnpkcafacjaa", sum := "b1fb8d0ce8076a15b6dbcce21da0f5e6347fae491f7f4a0494b2c57a74c6caee", func := "lockorder/lockorderlaw08.TableOwner", spec := "tableOwner", apart := false }
def TableOwnerSaid : Prop := tableOwnerRow.holds Try.pinned (OpenSpec.ofChange tableOwnerSpec)

/-- ITS FALSE NEIGHBOUR: 'it returns false'. Refute it at one input. -/
def tableOwnerWrong : ChangeSpec := { name := "tableOwner", fn := fun _ => fun
  | [d1, d2, d3, d4, d5] => { results := [.lit (.bool false)], args := [d1, d2, d3, d4, d5] }
  | _ => none }
def TableOwnerWrongFalsely : Prop := tableOwnerRow.holds Try.pinned (OpenSpec.ofChange tableOwnerWrong)

/- THE SECOND FORM. 'bulk': how many values and letters a reading holds, each counted each time it is reached (what is shared counts as often as it is met; a slice's spare places count too). A statement '..UptoSaid' is the law's where the arguments, and the package variables that the reading takes, are together of bulk at most 1048576: NARROWER than '..Said'. Prove '..Said' where nothing that the law and all that it calls make is longer than what came in: it says more and counts as full. Else prove '..UptoSaid'. A law counts once. -/
mutual
def uptoBulk {H : Type} : DataW H → Nat
  | .lit (.string bytes) => bytes.length + 1
  | .lit _ => 1
  | .nil => 1
  | .ptr d => uptoBulk d + 1
  | .slice elems spare => uptoBulkAll elems + uptoBulkAll spare + 1
  | .agg parts => uptoBulkAll parts + 1
  | .iface _ d => uptoBulk d + 1
  | .map entries => uptoBulkEntries entries + 1
  | .held _ => 1
def uptoBulkAll {H : Type} : List (DataW H) → Nat
  | [] => 0
  | d :: r => uptoBulk d + uptoBulkAll r
def uptoBulkEntries {H : Type} : List (Lit × DataW H) → Nat
  | [] => 0
  | x :: r => uptoBulkEntry x + uptoBulkEntries r
def uptoBulkEntry {H : Type} : Lit × DataW H → Nat
  | (.string bytes, d) => bytes.length + uptoBulk d + 1
  | (_, d) => uptoBulk d + 1
 end
def uptoSmall : (H : Type) → List (DataW H) → Bool := fun _ ds => decide (uptoBulkAll ds ≤ 1048576)
def OpenSpec.upto (s : _root_.Go.ChangeSpec) : _root_.Go.OpenSpec := { _root_.Go.OpenSpec.ofChange s with cond := some uptoSmall }

/-- 'lockorderlaw08.TableElements', WHERE WHAT IT READS IS OF BULK AT MOST 1048576: true; the input reads as it did. -/
def tableElementsUptoRow : OpenClaim := { program := "ytobpnpkcafacjaa", sum := "b1fb8d0ce8076a15b6dbcce21da0f5e6347fae491f7f4a0494b2c57a74c6caee", func := "lockorder/lockorderlaw08.TableElements", spec := "tableElements", apart := false, narrowed := true }
def TableElementsUptoSaid : Prop := tableElementsUptoRow.holds Try.pinned (OpenSpec.upto tableElementsSpec)

/-- 'lockorderlaw08.TableLock', WHERE WHAT IT READS IS OF BULK AT MOST 1048576: true; the input reads as it did. -/
def tableLockUptoRow : OpenClaim := { program := "ytobpnpkcafacjaa", sum := "b1fb8d0ce8076a15b6dbcce21da0f5e6347fae491f7f4a0494b2c57a74c6caee", func := "lockorder/lockorderlaw08.TableLock", spec := "tableLock", apart := false, narrowed := true }
def TableLockUptoSaid : Prop := tableLockUptoRow.holds Try.pinned (OpenSpec.upto tableLockSpec)

/-- 'lockorderlaw08.TableDepth', WHERE WHAT IT READS IS OF BULK AT MOST 1048576: true; the input reads as it did. -/
def tableDepthUptoRow : OpenClaim := { program := "ytobpnpkcafacjaa", sum := "b1fb8d0ce8076a15b6dbcce21da0f5e6347fae491f7f4a0494b2c57a74c6caee", func := "lockorder/lockorderlaw08.TableDepth", spec := "tableDepth", apart := false, narrowed := true }
def TableDepthUptoSaid : Prop := tableDepthUptoRow.holds Try.pinned (OpenSpec.upto tableDepthSpec)

/-- 'lockorderlaw08.TableValid', WHERE WHAT IT READS IS OF BULK AT MOST 1048576: true; the input reads as it did. -/
def tableValidUptoRow : OpenClaim := { program := "ytobpnpkcafacjaa", sum := "b1fb8d0ce8076a15b6dbcce21da0f5e6347fae491f7f4a0494b2c57a74c6caee", func := "lockorder/lockorderlaw08.TableValid", spec := "tableValid", apart := false, narrowed := true }
def TableValidUptoSaid : Prop := tableValidUptoRow.holds Try.pinned (OpenSpec.upto tableValidSpec)

/-- 'lockorderlaw08.TableInverse', WHERE WHAT IT READS IS OF BULK AT MOST 1048576: true; the input reads as it did. -/
def tableInverseUptoRow : OpenClaim := { program := "ytobpnpkcafacjaa", sum := "b1fb8d0ce8076a15b6dbcce21da0f5e6347fae491f7f4a0494b2c57a74c6caee", func := "lockorder/lockorderlaw08.TableInverse", spec := "tableInverse", apart := false, narrowed := true }
def TableInverseUptoSaid : Prop := tableInverseUptoRow.holds Try.pinned (OpenSpec.upto tableInverseSpec)

/-- 'lockorderlaw08.TableOwner', WHERE WHAT IT READS IS OF BULK AT MOST 1048576: true; the input reads as it did. -/
def tableOwnerUptoRow : OpenClaim := { program := "ytobpnpkcafacjaa", sum := "b1fb8d0ce8076a15b6dbcce21da0f5e6347fae491f7f4a0494b2c57a74c6caee", func := "lockorder/lockorderlaw08.TableOwner", spec := "tableOwner", apart := false, narrowed := true }
def TableOwnerUptoSaid : Prop := tableOwnerUptoRow.holds Try.pinned (OpenSpec.upto tableOwnerSpec)

end Rows
end Go.Proofs.Ytobpnpkcafacjaa
