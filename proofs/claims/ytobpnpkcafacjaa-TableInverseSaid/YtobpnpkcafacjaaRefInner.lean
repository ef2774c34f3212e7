/- What inner, digits and Number of the reference return. -/
import Derived.Test.YtobpnpkcafacjaaRefSigns
import Derived.Test.YtobpnpkcafacjaaSrcExpr
import Derived.Test.YtobpnpkcafacjaaDec
import Derived.Deep.RegionHeld3
namespace Go.Proofs.Ytobpnpkcafacjaa
open Go.RowKit

def Ex.op : Ex → Int | .mk o _ _ _ => o
def Ex.num : Ex → Int | .mk _ n _ _ => n
def Ex.name : Ex → List UInt8 | .mk _ _ s _ => s
def Ex.args : Ex → List Ex | .mk _ _ _ l => l

/-- is Arg number k printed in parentheses -/
def innerV (op : Int) (aop : Int) (k : Nat) : Bool := decide (strV aop < strV op) || (strV aop == strV op && k == 1)

theorem below_two {w w1 w2 : World} (h1 : Below w.heap.size w w1) (h2 : Below w1.heap.size w1 w2) : Below w.heap.size w w2 := h1.trans (h2.mono h1.size)

theorem below_rev {w w1 w2 : World} (h2 : Below w1.heap.size w1 w2) (h1 : Below w.heap.size w w1) : Below w.heap.size w w2 := h1.trans (h2.mono h1.size)

/-- the decimal text of a number -/
def numText (n : Int) : List UInt8 := if n < 0 then 45 :: decLoop 20 (-n).toNat [] else decLoop 20 n.toNat []
theorem decLoop_first (n : Nat) : decLoop 19 (n / 10) [digC n] = decLoop 20 n [] := by
  conv => rhs; rw [show (20 : Nat) = 19 + 1 from rfl, decLoop_go 19 n [] (.inr rfl)]

theorem decLoop20_len (n : Nat) : (decLoop 20 n []).length ≤ 20 := by
  have := decLoop_len 20 n []
  simpa using this
theorem numText_len (n : Int) : (numText n).length ≤ 21 := by
  unfold numText
  split
  · have := decLoop20_len (-n).toNat
    simp
    omega
  · have := decLoop20_len n.toNat
    omega

end Go.Proofs.Ytobpnpkcafacjaa
