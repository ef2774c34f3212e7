/- What operand of package expr returns, if the functions that it calls return what they should. -/
import Derived.Test.YtobpnpkcafacjaaExPar1
namespace Go.Proofs.Ytobpnpkcafacjaa
open Go.RowKit

theorem setCell_size (W : World) (p : Addr) (u : Value) : (W.setCell p u).heap.size = W.heap.size := by simp [World.setCell]
theorem setCell_os (W : World) (p : Addr) (u : Value) : (W.setCell p u).os = W.os ∧ (W.setCell p u).tape = W.tape ∧ (W.setCell p u).output = W.output := ⟨rfl, rfl, rfl⟩
theorem set4_os (W : World) (r : Nat) (u0 u1 u2 u3 : Value) : (set4 W r u0 u1 u2 u3).os = W.os ∧ (set4 W r u0 u1 u2 u3).tape = W.tape ∧ (set4 W r u0 u1 u2 u3).output = W.output := ⟨rfl, rfl, rfl⟩
end Go.Proofs.Ytobpnpkcafacjaa
