/-
  NARROWER THAN 'FOR EVERY INPUT', by the rows' own cells (each row's printed sentence says how): SccComponents: laid · SccRaw: laid · SccReaches: laid · SccPartition: laid · SccOrder: laid · SccUnite: laid.
  DERIVED. THE GIVEN ROWS OF THIS SEAT. 6 by the template 'for every input the law returns true; each argument reads behind the call as it read before'; 0 by the template 'total and deterministic' (their statements: YtnofcanboaaejaaDoorTotals.lean).
  GIVEN WITH THE SEED: the statements are not yours to turn. If you find one false, say at which input.
  Laid BY PROGRAM, IN A SANDBOX (cutbox-rows.mjs): the forced cells as the released guide's own fill.sh prints them over the translation 5365cb6f9f26c4e8… (all of the seat's roots in one cut). By AI agents, Wed Nov 11 2026. No macro, syntax, notation, axiom, sorry.
-/
import Derived.Test.YtnofcanboaaejaaDoorChecked
import GoSem.Claim
import GoSem.ClaimJoined
import GoSem.ClaimMapViews
import Derived.JoinedTies
import Derived.KernelRfl
namespace Go.Proofs.YtnofcanboaaejaaDoor
/- THE CELL 'sum', in the pinned program and in every row, IS THE sha256 OF THE DUMP (.gsa) THAT YtnofcanboaaejaaDoorProg.lean LOADS. Nothing in Lean hashes anything: it is a label: what it is worth is what the hold of that sum in a sandbox is worth. -/
noncomputable def Tryd.pinned : Pinned := { name := "ytnofcanboaaejaadoor", sum := "5365cb6f9f26c4e8ef0dda70b30a8a23ccc310c75bb988ae9bbd51c70537e464", checked := Tryd.checked }
namespace Rows
def none {H : Type} : Left H := { results := [], args := [] }

/- WHAT THE LISTED PACKAGE-LEVEL VARIABLES READ AS WHEN THE CALL BEGINS. Each datum BY PROGRAM (the guide's laid-datum.mjs) off the statement by which the dump's own 'gosem.cut.vars' lays the variable. In a bare row this is a premise. The card (YtnofcanboaaejaaDoorCards.lean) ties it to the program's text. -/
def laid_math_bits_deBruijn64tab {H : Type} : DataW H := .agg [.lit (.int .u8 0), .lit (.int .u8 1), .lit (.int .u8 56), .lit (.int .u8 2), .lit (.int .u8 57), .lit (.int .u8 49), .lit (.int .u8 28), .lit (.int .u8 3), .lit (.int .u8 61), .lit (.int .u8 58), .lit (.int .u8 42), .lit (.int .u8 50), .lit (.int .u8 38), .lit (.int .u8 29), .lit (.int .u8 17), .lit (.int .u8 4), .lit (.int .u8 62), .lit (.int .u8 47), .lit (.int .u8 59), .lit (.int .u8 36), .lit (.int .u8 45), .lit (.int .u8 43), .lit (.int .u8 51), .lit (.int .u8 22), .lit (.int .u8 53), .lit (.int .u8 39), .lit (.int .u8 33), .lit (.int .u8 30), .lit (.int .u8 24), .lit (.int .u8 18), .lit (.int .u8 12), .lit (.int .u8 5), .lit (.int .u8 63), .lit (.int .u8 55), .lit (.int .u8 48), .lit (.int .u8 27), .lit (.int .u8 60), .lit (.int .u8 41), .lit (.int .u8 37), .lit (.int .u8 16), .lit (.int .u8 46), .lit (.int .u8 35), .lit (.int .u8 44), .lit (.int .u8 21), .lit (.int .u8 52), .lit (.int .u8 32), .lit (.int .u8 23), .lit (.int .u8 11), .lit (.int .u8 54), .lit (.int .u8 26), .lit (.int .u8 40), .lit (.int .u8 15), .lit (.int .u8 34), .lit (.int .u8 20), .lit (.int .u8 31), .lit (.int .u8 10), .lit (.int .u8 25), .lit (.int .u8 14), .lit (.int .u8 19), .lit (.int .u8 9), .lit (.int .u8 13), .lit (.int .u8 8), .lit (.int .u8 7), .lit (.int .u8 6)]

/-- 'lockorderlaw21.SccComponents': WHATEVER THE INPUT: true; the input reads as it did. -/
def sccComponentsSpec : ChangeSpec := { name := "sccComponents", fn := fun _ => fun
  | [d1, d2] => { results := [.lit (.bool true)], args := [d1, d2] }
  | _ => none }
def sccComponentsRow : OpenClaim := { program := "ytnofcanboaaejaadoor", sum := "5365cb6f9f26c4e8ef0dda70b30a8a23ccc310c75bb988ae9bbd51c70537e464", func := "lockorder/lockorderlaw21.SccComponents", spec := "sccComponents", named := ["math/bits.deBruijn64tab"], apart := false, laid := [("math/bits.deBruijn64tab", laid_math_bits_deBruijn64tab)] }
def SccComponentsSaid : Prop := sccComponentsRow.holds Tryd.pinned (OpenSpec.ofChange sccComponentsSpec)

/-- ITS FALSE NEIGHBOUR: 'it returns false'. Refute it at one input. -/
def sccComponentsWrong : ChangeSpec := { name := "sccComponents", fn := fun _ => fun
  | [d1, d2] => { results := [.lit (.bool false)], args := [d1, d2] }
  | _ => none }
def SccComponentsWrongFalsely : Prop := sccComponentsRow.holds Tryd.pinned (OpenSpec.ofChange sccComponentsWrong)

/-- 'lockorderlaw21.SccRaw': WHATEVER THE INPUT: true; the input reads as it did. -/
def sccRawSpec : ChangeSpec := { name := "sccRaw", fn := fun _ => fun
  | [d1, d2, d3] => { results := [.lit (.bool true)], args := [d1, d2, d3] }
  | _ => none }
def sccRawRow : OpenClaim := { program := "ytnofcanboaaejaadoor", sum := "5365cb6f9f26c4e8ef0dda70b30a8a23ccc310c75bb988ae9bbd51c70537e464", func := "lockorder/lockorderlaw21.SccRaw", spec := "sccRaw", named := ["math/bits.deBruijn64tab"], apart := false, laid := [("math/bits.deBruijn64tab", laid_math_bits_deBruijn64tab)] }
def SccRawSaid : Prop := sccRawRow.holds Tryd.pinned (OpenSpec.ofChange sccRawSpec)

/-- ITS FALSE NEIGHBOUR: 'it returns false'. Refute it at one input. -/
def sccRawWrong : ChangeSpec := { name := "sccRaw", fn := fun _ => fun
  | [d1, d2, d3] => { results := [.lit (.bool false)], args := [d1, d2, d3] }
  | _ => none }
def SccRawWrongFalsely : Prop := sccRawRow.holds Tryd.pinned (OpenSpec.ofChange sccRawWrong)

/-- 'lockorderlaw21.SccReaches': WHATEVER THE INPUT: true; the input reads as it did. -/
def sccReachesSpec : ChangeSpec := { name := "sccReaches", fn := fun _ => fun
  | [d1, d2, d3, d4, d5] => { results := [.lit (.bool true)], args := [d1, d2, d3, d4, d5] }
  | _ => none }
def sccReachesRow : OpenClaim := { program := "ytnofcanboaaejaadoor", sum := "5365cb6f9f26c4e8ef0dda70b30a8a23ccc310c75bb988ae9bbd51c70537e464", func := "lockorder/lockorderlaw21.SccReaches", spec := "sccReaches", named := ["math/bits.deBruijn64tab"], apart := false, laid := [("math/bits.deBruijn64tab", laid_math_bits_deBruijn64tab)] }
def SccReachesSaid : Prop := sccReachesRow.holds Tryd.pinned (OpenSpec.ofChange sccReachesSpec)

/-- ITS FALSE NEIGHBOUR: 'it returns false'. Refute it at one input. -/
def sccReachesWrong : ChangeSpec := { name := "sccReaches", fn := fun _ => fun
  | [d1, d2, d3, d4, d5] => { results := [.lit (.bool false)], args := [d1, d2, d3, d4, d5] }
  | _ => none }
def SccReachesWrongFalsely : Prop := sccReachesRow.holds Tryd.pinned (OpenSpec.ofChange sccReachesWrong)

/-- 'lockorderlaw21.SccPartition': WHATEVER THE INPUT: true; the input reads as it did. -/
def sccPartitionSpec : ChangeSpec := { name := "sccPartition", fn := fun _ => fun
  | [d1, d2] => { results := [.lit (.bool true)], args := [d1, d2] }
  | _ => none }
def sccPartitionRow : OpenClaim := { program := "ytnofcanboaaejaadoor", sum := "5365cb6f9f26c4e8ef0dda70b30a8a23ccc310c75bb988ae9bbd51c70537e464", func := "lockorder/lockorderlaw21.SccPartition", spec := "sccPartition", named := ["math/bits.deBruijn64tab"], apart := false, laid := [("math/bits.deBruijn64tab", laid_math_bits_deBruijn64tab)] }
def SccPartitionSaid : Prop := sccPartitionRow.holds Tryd.pinned (OpenSpec.ofChange sccPartitionSpec)

/-- ITS FALSE NEIGHBOUR: 'it returns false'. Refute it at one input. -/
def sccPartitionWrong : ChangeSpec := { name := "sccPartition", fn := fun _ => fun
  | [d1, d2] => { results := [.lit (.bool false)], args := [d1, d2] }
  | _ => none }
def SccPartitionWrongFalsely : Prop := sccPartitionRow.holds Tryd.pinned (OpenSpec.ofChange sccPartitionWrong)

/-- 'lockorderlaw21.SccOrder': WHATEVER THE INPUT: true; the input reads as it did. -/
def sccOrderSpec : ChangeSpec := { name := "sccOrder", fn := fun _ => fun
  | [d1, d2, d3] => { results := [.lit (.bool true)], args := [d1, d2, d3] }
  | _ => none }
def sccOrderRow : OpenClaim := { program := "ytnofcanboaaejaadoor", sum := "5365cb6f9f26c4e8ef0dda70b30a8a23ccc310c75bb988ae9bbd51c70537e464", func := "lockorder/lockorderlaw21.SccOrder", spec := "sccOrder", named := ["math/bits.deBruijn64tab"], apart := false, laid := [("math/bits.deBruijn64tab", laid_math_bits_deBruijn64tab)] }
def SccOrderSaid : Prop := sccOrderRow.holds Tryd.pinned (OpenSpec.ofChange sccOrderSpec)

/-- ITS FALSE NEIGHBOUR: 'it returns false'. Refute it at one input. -/
def sccOrderWrong : ChangeSpec := { name := "sccOrder", fn := fun _ => fun
  | [d1, d2, d3] => { results := [.lit (.bool false)], args := [d1, d2, d3] }
  | _ => none }
def SccOrderWrongFalsely : Prop := sccOrderRow.holds Tryd.pinned (OpenSpec.ofChange sccOrderWrong)

/-- 'lockorderlaw21.SccUnite': WHATEVER THE INPUT: true; the input reads as it did. -/
def sccUniteSpec : ChangeSpec := { name := "sccUnite", fn := fun _ => fun
  | [d1, d2, d3, d4] => { results := [.lit (.bool true)], args := [d1, d2, d3, d4] }
  | _ => none }
def sccUniteRow : OpenClaim := { program := "ytnofcanboaaejaadoor", sum := "5365cb6f9f26c4e8ef0dda70b30a8a23ccc310c75bb988ae9bbd51c70537e464", func := "lockorder/lockorderlaw21.SccUnite", spec := "sccUnite", named := ["math/bits.deBruijn64tab"], apart := false, laid := [("math/bits.deBruijn64tab", laid_math_bits_deBruijn64tab)] }
def SccUniteSaid : Prop := sccUniteRow.holds Tryd.pinned (OpenSpec.ofChange sccUniteSpec)

/-- ITS FALSE NEIGHBOUR: 'it returns false'. Refute it at one input. -/
def sccUniteWrong : ChangeSpec := { name := "sccUnite", fn := fun _ => fun
  | [d1, d2, d3, d4] => { results := [.lit (.bool false)], args := [d1, d2, d3, d4] }
  | _ => none }
def SccUniteWrongFalsely : Prop := sccUniteRow.holds Tryd.pinned (OpenSpec.ofChange sccUniteWrong)

/- THE SECOND FORM. 'bulk': how many values and letters a reading holds, each counted each time it is reached (what is shared counts as often as it is met; a slice's spare places count too). A statement '..UptoSaid' is the law's where the arguments, and the package variables that the reading takes, are together of bulk at most 1048576: NARROWER than '..Said'. Prove '..Said' where nothing that the law and all that it calls make is longer than what came in: it says more and counts as full. Else prove '..UptoSaid'. A law counts once. -/
mutual
def uptoBulk {H : Type} : DataW H → Nat
  | .lit (.string bytes) => bytes.length + 1
  | .lit _ => 1
  | .nil => 1
  | .ptr d => uptoBulk d + 1
  | .slice elems spare => uptoBulkAll elems + uptoBulkAll spare + 1
  | .agg parts => uptoBulkAll parts + 1
  | .iface _ d => uptoBulk d + 1
  | .map entries => uptoBulkEntries entries + 1
  | .held _ => 1
def uptoBulkAll {H : Type} : List (DataW H) → Nat
  | [] => 0
  | d :: r => uptoBulk d + uptoBulkAll r
def uptoBulkEntries {H : Type} : List (Lit × DataW H) → Nat
  | [] => 0
  | x :: r => uptoBulkEntry x + uptoBulkEntries r
def uptoBulkEntry {H : Type} : Lit × DataW H → Nat
  | (.string bytes, d) => bytes.length + uptoBulk d + 1
  | (_, d) => uptoBulk d + 1
 end
def uptoSmall : (H : Type) → List (DataW H) → Bool := fun _ ds => decide (uptoBulkAll ds ≤ 1048576)
def OpenSpec.upto (s : _root_.Go.ChangeSpec) : _root_.Go.OpenSpec := { _root_.Go.OpenSpec.ofChange s with cond := some uptoSmall }

/-- 'lockorderlaw21.SccComponents', WHERE WHAT IT READS IS OF BULK AT MOST 1048576: true; the input reads as it did. -/
def sccComponentsUptoRow : OpenClaim := { program := "ytnofcanboaaejaadoor", sum := "5365cb6f9f26c4e8ef0dda70b30a8a23ccc310c75bb988ae9bbd51c70537e464", func := "lockorder/lockorderlaw21.SccComponents", spec := "sccComponents", named := ["math/bits.deBruijn64tab"], apart := false, laid := [("math/bits.deBruijn64tab", laid_math_bits_deBruijn64tab)], narrowed := true }
def SccComponentsUptoSaid : Prop := sccComponentsUptoRow.holds Tryd.pinned (OpenSpec.upto sccComponentsSpec)

/-- 'lockorderlaw21.SccRaw', WHERE WHAT IT READS IS OF BULK AT MOST 1048576: true; the input reads as it did. -/
def sccRawUptoRow : OpenClaim := { program := "ytnofcanboaaejaadoor", sum := "5365cb6f9f26c4e8ef0dda70b30a8a23ccc310c75bb988ae9bbd51c70537e464", func := "lockorder/lockorderlaw21.SccRaw", spec := "sccRaw", named := ["math/bits.deBruijn64tab"], apart := false, laid := [("math/bits.deBruijn64tab", laid_math_bits_deBruijn64tab)], narrowed := true }
def SccRawUptoSaid : Prop := sccRawUptoRow.holds Tryd.pinned (OpenSpec.upto sccRawSpec)

/-- 'lockorderlaw21.SccReaches', WHERE WHAT IT READS IS OF BULK AT MOST 1048576: true; the input reads as it did. -/
def sccReachesUptoRow : OpenClaim := { program := "ytnofcanboaaejaadoor", sum := "5365cb6f9f26c4e8ef0dda70b30a8a23ccc310c75bb988ae9bbd51c70537e464", func := "lockorder/lockorderlaw21.SccReaches", spec := "sccReaches", named := ["math/bits.deBruijn64tab"], apart := false, laid := [("math/bits.deBruijn64tab", laid_math_bits_deBruijn64tab)], narrowed := true }
def SccReachesUptoSaid : Prop := sccReachesUptoRow.holds Tryd.pinned (OpenSpec.upto sccReachesSpec)

/-- 'lockorderlaw21.SccPartition', WHERE WHAT IT READS IS OF BULK AT MOST 1048576: true; the input reads as it did. -/
def sccPartitionUptoRow : OpenClaim := { program := "ytnofcanboaaejaadoor", sum := "5365cb6f9f26c4e8ef0dda70b30a8a23ccc310c75bb988ae9bbd51c70537e464", func := "lockorder/lockorderlaw21.SccPartition", spec := "sccPartition", named := ["math/bits.deBruijn64tab"], apart := false, laid := [("math/bits.deBruijn64tab", laid_math_bits_deBruijn64tab)], narrowed := true }
def SccPartitionUptoSaid : Prop := sccPartitionUptoRow.holds Tryd.pinned (OpenSpec.upto sccPartitionSpec)

/-- 'lockorderlaw21.SccOrder', WHERE WHAT IT READS IS OF BULK AT MOST 1048576: true; the input reads as it did. -/
def sccOrderUptoRow : OpenClaim := { program := "ytnofcanboaaejaadoor", sum := "5365cb6f9f26c4e8ef0dda70b30a8a23ccc310c75bb988ae9bbd51c70537e464", func := "lockorder/lockorderlaw21.SccOrder", spec := "sccOrder", named := ["math/bits.deBruijn64tab"], apart := false, laid := [("math/bits.deBruijn64tab", laid_math_bits_deBruijn64tab)], narrowed := true }
def SccOrderUptoSaid : Prop := sccOrderUptoRow.holds Tryd.pinned (OpenSpec.upto sccOrderSpec)

/-- 'lockorderlaw21.SccUnite', WHERE WHAT IT READS IS OF BULK AT MOST 1048576: true; the input reads as it did. -/
def sccUniteUptoRow : OpenClaim := { program := "ytnofcanboaaejaadoor", sum := "5365cb6f9f26c4e8ef0dda70b30a8a23ccc310c75bb988ae9bbd51c70537e464", func := "lockorder/lockorderlaw21.SccUnite", spec := "sccUnite", named := ["math/bits.deBruijn64tab"], apart := false, laid := [("math/bits.deBruijn64tab", laid_math_bits_deBruijn64tab)], narrowed := true }
def SccUniteUptoSaid : Prop := sccUniteUptoRow.holds Tryd.pinned (OpenSpec.upto sccUniteSpec)

end Rows
end Go.Proofs.YtnofcanboaaejaaDoor
