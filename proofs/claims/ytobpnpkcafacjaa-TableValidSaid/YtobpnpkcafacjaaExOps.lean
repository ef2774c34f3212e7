/- What the small functions on operators of package expr return. -/
import Derived.Test.YtobpnpkcafacjaaPsSpec
import Derived.Test.YtobpnpkcafacjaaSrcExpr
import Derived.Deep.QuietTactic
import Derived.BigQuiet
namespace Go.Proofs.Ytobpnpkcafacjaa
open Go.RowKit

theorem strD_out (op : Int) (h : ¬ (1 ≤ op ∧ op ≤ 17)) : Ps.strD op = 0 := if_neg h

def unB (op : Int) : Bool := op == 3 || op == 4
def biB (op : Int) : Bool := decide (5 ≤ op) && decide (op ≤ 17)
theorem str_eq_T {a b : List UInt8} (h : a = b) : (a == b) = true := beq_iff_eq.2 h
theorem str_eq_F {a b : List UInt8} (h : a ≠ b) : (a == b) = false := beq_eq_false_iff_ne.2 h
theorem str_ne_T {a b : List UInt8} (h : a ≠ b) : (a != b) = true := bne_iff_ne.2 h
theorem str_ne_F {a b : List UInt8} (h : a = b) : (a != b) = false := by simp [h]
theorem opFind_hit (s : List UInt8) (n op : Nat) (h : op < Ps.sgTab.length) (he : Ps.sgTab[op] = s) : Ps.opFind s (n + 1) op = op := by
  have : Ps.sgTab.getD op [] = s := by rw [← he]; simp [List.getD, List.getElem?_eq_getElem h]
  rw [Ps.opFind, if_pos this]
theorem opFind_miss (s : List UInt8) (n op : Nat) (h : op < Ps.sgTab.length) (he : Ps.sgTab[op] ≠ s) : Ps.opFind s (n + 1) op = Ps.opFind s n (op + 1) := by
  have : Ps.sgTab.getD op [] ≠ s := by simpa [List.getD, List.getElem?_eq_getElem h] using he
  rw [Ps.opFind, if_neg this]

end Go.Proofs.Ytobpnpkcafacjaa
