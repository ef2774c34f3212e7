/- What the small functions of package token do: isLetter, isDigit, Reserved, isSign. -/
import Derived.Test.YtnofcanboaaejaaDoorRows
import Derived.Test.YtnofcanboaaejaaDoorTokSpec
import Derived.WalkKit
import Derived.WalkSpells
import Derived.WalkLawsBesides
import Derived.Lib.Hide
namespace Go.Proofs.YtnofcanboaaejaaDoor
open Go.RowKit

theorem ret_bool {a b : Bool} (h : a = b) : Ending.returned (.bool a) = .returned (.bool b) := by rw [h]
theorem ret_int {k : IntKind} {a b : Int} (h : a = b) : Ending.returned (.int k a) = .returned (.int k b) := by rw [h]

end Go.Proofs.YtnofcanboaaejaaDoor
