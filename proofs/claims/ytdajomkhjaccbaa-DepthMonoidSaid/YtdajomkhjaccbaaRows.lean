/-
  No cell of these rows narrows 'for every input' (looked for: loops, veiled, ifaces, maps, wideKeys, modest, calm, conditions, laid).
  DERIVED. THE GIVEN ROWS OF THIS SEAT. 6 by the template 'for every input the law returns true; each argument reads behind the call as it read before'; 0 by the template 'total and deterministic' (their statements: YtdajomkhjaccbaaTotals.lean).
  GIVEN WITH THE SEED: the statements are not yours to turn. If you find one false, say at which input.
  Laid BY PROGRAM, IN A SANDBOX (cutbox-rows.mjs): the forced cells as the released guide's own fill.sh prints them over the translation dc0b12103b451363… (all of the seat's roots in one cut). By AI agents, Wed Nov 11 2026. No macro, syntax, notation, axiom, sorry.
-/
import Derived.Test.YtdajomkhjaccbaaChecked
import GoSem.Claim
import GoSem.ClaimJoined
import GoSem.ClaimMapViews
import Derived.JoinedTies
import Derived.KernelRfl
namespace Go.Proofs.Ytdajomkhjaccbaa
/- THE CELL 'sum', in the pinned program and in every row, IS THE sha256 OF THE DUMP (.gsa) THAT YtdajomkhjaccbaaProg.lean LOADS. Nothing in Lean hashes anything: it is a label: what it is worth is what the hold of that sum in a sandbox is worth. -/
noncomputable def Try.pinned : Pinned := { name := "ytdajomkhjaccbaa", sum := "dc0b12103b4513637bb9607d65cbf7ca66de04028b7d4f3db56c75d70e75115a", checked := Try.checked }
namespace Rows
def none {H : Type} : Left H := { results := [], args := [] }

/-- 'lockorderlaw14.DepthSets': WHATEVER THE INPUT: true; the input reads as it did. -/
def depthSetsSpec : ChangeSpec := { name := "depthSets", fn := fun _ => fun
  | [d1, d2, d3, d4, d5] => { results := [.lit (.bool true)], args := [d1, d2, d3, d4, d5] }
  | _ => none }
def depthSetsRow : OpenClaim := { program := "ytdajomkhjaccbaa", sum := "dc0b12103b4513637bb9607d65cbf7ca66de04028b7d4f3db56c75d70e75115a", func := "lockorder/lockorderlaw14.DepthSets", spec := "depthSets", unfollowed := true, recurses := true, apart := false }
def DepthSetsSaid : Prop := depthSetsRow.holds Try.pinned (OpenSpec.ofChange depthSetsSpec)

/-- ITS FALSE NEIGHBOUR: 'it returns false'. Refute it at one input. -/
def depthSetsWrong : ChangeSpec := { name := "depthSets", fn := fun _ => fun
  | [d1, d2, d3, d4, d5] => { results := [.lit (.bool false)], args := [d1, d2, d3, d4, d5] }
  | _ => none }
def DepthSetsWrongFalsely : Prop := depthSetsRow.holds Try.pinned (OpenSpec.ofChange depthSetsWrong)

/-- 'lockorderlaw14.DepthShifts': WHATEVER THE INPUT: true; the input reads as it did. -/
def depthShiftsSpec : ChangeSpec := { name := "depthShifts", fn := fun _ => fun
  | [d] => { results := [.lit (.bool true)], args := [d] }
  | _ => none }
def depthShiftsRow : OpenClaim := { program := "ytdajomkhjaccbaa", sum := "dc0b12103b4513637bb9607d65cbf7ca66de04028b7d4f3db56c75d70e75115a", func := "lockorder/lockorderlaw14.DepthShifts", spec := "depthShifts", unfollowed := true, recurses := true, apart := false }
def DepthShiftsSaid : Prop := depthShiftsRow.holds Try.pinned (OpenSpec.ofChange depthShiftsSpec)

/-- ITS FALSE NEIGHBOUR: 'it returns false'. Refute it at one input. -/
def depthShiftsWrong : ChangeSpec := { name := "depthShifts", fn := fun _ => fun
  | [d] => { results := [.lit (.bool false)], args := [d] }
  | _ => none }
def DepthShiftsWrongFalsely : Prop := depthShiftsRow.holds Try.pinned (OpenSpec.ofChange depthShiftsWrong)

/-- 'lockorderlaw14.DepthApply': WHATEVER THE INPUT: true; the input reads as it did. -/
def depthApplySpec : ChangeSpec := { name := "depthApply", fn := fun _ => fun
  | [d1, d2, d3, d4] => { results := [.lit (.bool true)], args := [d1, d2, d3, d4] }
  | _ => none }
def depthApplyRow : OpenClaim := { program := "ytdajomkhjaccbaa", sum := "dc0b12103b4513637bb9607d65cbf7ca66de04028b7d4f3db56c75d70e75115a", func := "lockorder/lockorderlaw14.DepthApply", spec := "depthApply", unfollowed := true, recurses := true, apart := false }
def DepthApplySaid : Prop := depthApplyRow.holds Try.pinned (OpenSpec.ofChange depthApplySpec)

/-- ITS FALSE NEIGHBOUR: 'it returns false'. Refute it at one input. -/
def depthApplyWrong : ChangeSpec := { name := "depthApply", fn := fun _ => fun
  | [d1, d2, d3, d4] => { results := [.lit (.bool false)], args := [d1, d2, d3, d4] }
  | _ => none }
def DepthApplyWrongFalsely : Prop := depthApplyRow.holds Try.pinned (OpenSpec.ofChange depthApplyWrong)

/-- 'lockorderlaw14.DepthMonoid': WHATEVER THE INPUT: true; the input reads as it did. -/
def depthMonoidSpec : ChangeSpec := { name := "depthMonoid", fn := fun _ => fun
  | [d1, d2, d3, d4, d5] => { results := [.lit (.bool true)], args := [d1, d2, d3, d4, d5] }
  | _ => none }
def depthMonoidRow : OpenClaim := { program := "ytdajomkhjaccbaa", sum := "dc0b12103b4513637bb9607d65cbf7ca66de04028b7d4f3db56c75d70e75115a", func := "lockorder/lockorderlaw14.DepthMonoid", spec := "depthMonoid", unfollowed := true, recurses := true, apart := false }
def DepthMonoidSaid : Prop := depthMonoidRow.holds Try.pinned (OpenSpec.ofChange depthMonoidSpec)

/-- ITS FALSE NEIGHBOUR: 'it returns false'. Refute it at one input. -/
def depthMonoidWrong : ChangeSpec := { name := "depthMonoid", fn := fun _ => fun
  | [d1, d2, d3, d4, d5] => { results := [.lit (.bool false)], args := [d1, d2, d3, d4, d5] }
  | _ => none }
def DepthMonoidWrongFalsely : Prop := depthMonoidRow.holds Try.pinned (OpenSpec.ofChange depthMonoidWrong)

/-- 'lockorderlaw14.DepthUnions': WHATEVER THE INPUT: true; the input reads as it did. -/
def depthUnionsSpec : ChangeSpec := { name := "depthUnions", fn := fun _ => fun
  | [d1, d2, d3, d4, d5, d6] => { results := [.lit (.bool true)], args := [d1, d2, d3, d4, d5, d6] }
  | _ => none }
def depthUnionsRow : OpenClaim := { program := "ytdajomkhjaccbaa", sum := "dc0b12103b4513637bb9607d65cbf7ca66de04028b7d4f3db56c75d70e75115a", func := "lockorder/lockorderlaw14.DepthUnions", spec := "depthUnions", unfollowed := true, recurses := true, apart := false }
def DepthUnionsSaid : Prop := depthUnionsRow.holds Try.pinned (OpenSpec.ofChange depthUnionsSpec)

/-- ITS FALSE NEIGHBOUR: 'it returns false'. Refute it at one input. -/
def depthUnionsWrong : ChangeSpec := { name := "depthUnions", fn := fun _ => fun
  | [d1, d2, d3, d4, d5, d6] => { results := [.lit (.bool false)], args := [d1, d2, d3, d4, d5, d6] }
  | _ => none }
def DepthUnionsWrongFalsely : Prop := depthUnionsRow.holds Try.pinned (OpenSpec.ofChange depthUnionsWrong)

/-- 'lockorderlaw14.DepthMonotone': WHATEVER THE INPUT: true; the input reads as it did. -/
def depthMonotoneSpec : ChangeSpec := { name := "depthMonotone", fn := fun _ => fun
  | [d1, d2, d3, d4] => { results := [.lit (.bool true)], args := [d1, d2, d3, d4] }
  | _ => none }
def depthMonotoneRow : OpenClaim := { program := "ytdajomkhjaccbaa", sum := "dc0b12103b4513637bb9607d65cbf7ca66de04028b7d4f3db56c75d70e75115a", func := "lockorder/lockorderlaw14.DepthMonotone", spec := "depthMonotone", unfollowed := true, recurses := true, apart := false }
def DepthMonotoneSaid : Prop := depthMonotoneRow.holds Try.pinned (OpenSpec.ofChange depthMonotoneSpec)

/-- ITS FALSE NEIGHBOUR: 'it returns false'. Refute it at one input. -/
def depthMonotoneWrong : ChangeSpec := { name := "depthMonotone", fn := fun _ => fun
  | [d1, d2, d3, d4] => { results := [.lit (.bool false)], args := [d1, d2, d3, d4] }
  | _ => none }
def DepthMonotoneWrongFalsely : Prop := depthMonotoneRow.holds Try.pinned (OpenSpec.ofChange depthMonotoneWrong)

/- THE SECOND FORM. 'bulk': how many values and letters a reading holds, each counted each time it is reached (what is shared counts as often as it is met; a slice's spare places count too). A statement '..UptoSaid' is the law's where the arguments, and the package variables that the reading takes, are together of bulk at most 1048576: NARROWER than '..Said'. Prove '..Said' where nothing that the law and all that it calls make is longer than what came in: it says more and counts as full. Else prove '..UptoSaid'. A law counts once. -/
mutual
def uptoBulk {H : Type} : DataW H → Nat
  | .lit (.string bytes) => bytes.length + 1
  | .lit _ => 1
  | .nil => 1
  | .ptr d => uptoBulk d + 1
  | .slice elems spare => uptoBulkAll elems + uptoBulkAll spare + 1
  | .agg parts => uptoBulkAll parts + 1
  | .iface _ d => uptoBulk d + 1
  | .map entries => uptoBulkEntries entries + 1
  | .held _ => 1
def uptoBulkAll {H : Type} : List (DataW H) → Nat
  | [] => 0
  | d :: r => uptoBulk d + uptoBulkAll r
def uptoBulkEntries {H : Type} : List (Lit × DataW H) → Nat
  | [] => 0
  | x :: r => uptoBulkEntry x + uptoBulkEntries r
def uptoBulkEntry {H : Type} : Lit × DataW H → Nat
  | (.string bytes, d) => bytes.length + uptoBulk d + 1
  | (_, d) => uptoBulk d + 1
 end
def uptoSmall : (H : Type) → List (DataW H) → Bool := fun _ ds => decide (uptoBulkAll ds ≤ 1048576)
def OpenSpec.upto (s : _root_.Go.ChangeSpec) : _root_.Go.OpenSpec := { _root_.Go.OpenSpec.ofChange s with cond := some uptoSmall }

/-- 'lockorderlaw14.DepthSets', WHERE WHAT IT READS IS OF BULK AT MOST 1048576: true; the input reads as it did. -/
def depthSetsUptoRow : OpenClaim := { program := "ytdajomkhjaccbaa", sum := "dc0b12103b4513637bb9607d65cbf7ca66de04028b7d4f3db56c75d70e75115a", func := "lockorder/lockorderlaw14.DepthSets", spec := "depthSets", unfollowed := true, recurses := true, apart := false, narrowed := true }
def DepthSetsUptoSaid : Prop := depthSetsUptoRow.holds Try.pinned (OpenSpec.upto depthSetsSpec)

/-- 'lockorderlaw14.DepthShifts', WHERE WHAT IT READS IS OF BULK AT MOST 1048576: true; the input reads as it did. -/
def depthShiftsUptoRow : OpenClaim := { program := "ytdajomkhjaccbaa", sum := "dc0b12103b4513637bb9607d65cbf7ca66de04028b7d4f3db56c75d70e75115a", func := "lockorder/lockorderlaw14.DepthShifts", spec := "depthShifts", unfollowed := true, recurses := true, apart := false, narrowed := true }
def DepthShiftsUptoSaid : Prop := depthShiftsUptoRow.holds Try.pinned (OpenSpec.upto depthShiftsSpec)

/-- 'lockorderlaw14.DepthApply', WHERE WHAT IT READS IS OF BULK AT MOST 1048576: true; the input reads as it did. -/
def depthApplyUptoRow : OpenClaim := { program := "ytdajomkhjaccbaa", sum := "dc0b12103b4513637bb9607d65cbf7ca66de04028b7d4f3db56c75d70e75115a", func := "lockorder/lockorderlaw14.DepthApply", spec := "depthApply", unfollowed := true, recurses := true, apart := false, narrowed := true }
def DepthApplyUptoSaid : Prop := depthApplyUptoRow.holds Try.pinned (OpenSpec.upto depthApplySpec)

/-- 'lockorderlaw14.DepthMonoid', WHERE WHAT IT READS IS OF BULK AT MOST 1048576: true; the input reads as it did. -/
def depthMonoidUptoRow : OpenClaim := { program := "ytdajomkhjaccbaa", sum := "dc0b12103b4513637bb9607d65cbf7ca66de04028b7d4f3db56c75d70e75115a", func := "lockorder/lockorderlaw14.DepthMonoid", spec := "depthMonoid", unfollowed := true, recurses := true, apart := false, narrowed := true }
def DepthMonoidUptoSaid : Prop := depthMonoidUptoRow.holds Try.pinned (OpenSpec.upto depthMonoidSpec)

/-- 'lockorderlaw14.DepthUnions', WHERE WHAT IT READS IS OF BULK AT MOST 1048576: true; the input reads as it did. -/
def depthUnionsUptoRow : OpenClaim := { program := "ytdajomkhjaccbaa", sum := "dc0b12103b4513637bb9607d65cbf7ca66de04028b7d4f3db56c75d70e75115a", func := "lockorder/lockorderlaw14.DepthUnions", spec := "depthUnions", unfollowed := true, recurses := true, apart := false, narrowed := true }
def DepthUnionsUptoSaid : Prop := depthUnionsUptoRow.holds Try.pinned (OpenSpec.upto depthUnionsSpec)

/-- 'lockorderlaw14.DepthMonotone', WHERE WHAT IT READS IS OF BULK AT MOST 1048576: true; the input reads as it did. -/
def depthMonotoneUptoRow : OpenClaim := { program := "ytdajomkhjaccbaa", sum := "dc0b12103b4513637bb9607d65cbf7ca66de04028b7d4f3db56c75d70e75115a", func := "lockorder/lockorderlaw14.DepthMonotone", spec := "depthMonotone", unfollowed := true, recurses := true, apart := false, narrowed := true }
def DepthMonotoneUptoSaid : Prop := depthMonotoneUptoRow.holds Try.pinned (OpenSpec.upto depthMonotoneSpec)

end Rows
end Go.Proofs.Ytdajomkhjaccbaa
