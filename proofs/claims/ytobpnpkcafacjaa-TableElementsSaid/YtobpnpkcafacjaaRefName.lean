/- What Name of the reference returns. -/
import Derived.Test.YtobpnpkcafacjaaRefLeaf
namespace Go.Proofs.Ytobpnpkcafacjaa
open Go.RowKit

def charOk (i : Nat) (c : UInt8) : Bool := Tk.isLet c || (i != 0 && Tk.isDig c)
def charsOk (s : List UInt8) : Prop := ∀ i (h : i < s.length), charOk i s[i] = true
instance (s : List UInt8) : Decidable (charsOk s) := by unfold charsOk; infer_instance
/-- may a name be declared -/
def nameB (s : List UInt8) : Bool := decide (charsOk s) && (decide (1 ≤ s.length) && decide (s.length ≤ 16) && !Tk.resv s)

end Go.Proofs.Ytobpnpkcafacjaa
