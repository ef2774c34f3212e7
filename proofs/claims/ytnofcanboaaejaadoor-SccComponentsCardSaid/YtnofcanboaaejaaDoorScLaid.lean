/- What the listed package variable gives the walks: the table of math/bits lies in memory. No statement of the program is proved in this file. -/
import Derived.Test.YtnofcanboaaejaaDoorScPrA
import Derived.ProofKit
import Derived.LaidMore
import Derived.OpenShut
import Derived.Stop.Joined
import Derived.Lib.LaidTab
namespace Go.Proofs.YtnofcanboaaejaaDoor
open Go.ChangeShapes Go.WideShapes Go.ChangeAt Go.RowKit

theorem gTz : Tryd.prog.globalNamed "math/bits.deBruijn64tab" = some 0 := by kernel_rfl
theorem tTz : (Tryd.prog.globals[(0 : Nat)]?).map (·.type) = some 54 := by kernel_rfl
def tzZ : List Int := Lib.deBruijn64tab.map fun (k : Nat) => (k : Int)
def laidZ {H : Type} : List (String × DataW H) := [("math/bits.deBruijn64tab", Rows.laid_math_bits_deBruijn64tab)]
theorem laid_tz {H : Type} : (Rows.laid_math_bits_deBruijn64tab : DataW H) = Lib.tabData .u8 tzZ := rfl
/-- The door's own heap meets the condition. -/
theorem door_met (os : Os) (args : Array Value) : laidMetH Tryd.prog laidZ ((World.doorLaid Tryd.prog 400 os).forCall (fun _ _ => 0) ⟨#[], args, []⟩).memory :=
  laidMetH_of_parts3 (fuel := 8) (laidMet_of_run' 8 (by kernel_rfl) (by kernel_rfl)) (by kernel_rfl) (by kernel_rfl)
theorem tz_of_laid {W : World} (h : laidMetH Tryd.prog laidZ W) : TzT W := by
  rw [MakeChecks.laidMetH_plain _ _ _ (by kernel_rfl)] at h
  have h2 : laidMet Tryd.prog (("math/bits.deBruijn64tab", Lib.tabData .u8 tzZ) :: []) W := h
  have c1 : Tryd.prog.cellsOf 5 = 1 := by kernel_rfl
  have c64 : Tryd.prog.cellsOf 54 = 64 := by kernel_rfl
  have hT := Lib.tabIs_of_head gTz tTz Tryd.underlying54 Tryd.underlying5 c1 c64 h2
  intro j hj
  have hl : tzZ.length = 64 := rfl
  rw [hT.cell gTz j (by omega)]
  congr 2
  have hj' : j < Lib.deBruijn64tab.length := hj
  unfold tzZ
  rw [List.getD, List.getD, List.getElem?_map, List.getElem?_eq_getElem hj']
  rfl
end Go.Proofs.YtnofcanboaaejaaDoor
