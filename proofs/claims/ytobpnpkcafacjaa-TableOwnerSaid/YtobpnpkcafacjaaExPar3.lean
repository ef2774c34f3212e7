/- What expression and operand of package expr return: what the plain parser says. -/
import Derived.Test.YtobpnpkcafacjaaExPar2
namespace Go.Proofs.Ytobpnpkcafacjaa
open Go.RowKit

/-- the blocks of what a loop of expression has read -/
def LS (w : World) (lb : Nat) (b : Nat) : Prop := w.heap.size < b ∧ b ≠ lb
theorem ExM.inside {w : World} {S : Nat → Prop} {E : Ex} {f : EF} (h : ExM w S E f) : ExM w (fun b => S b ∧ b < w.heap.size) E f := by
  induction h with
  | mk op num name args A c F hc hs ih =>
    refine .mk op num name args A c F (fun i hi => ?_) ih
    obtain ⟨b, off, e, hb, hat⟩ := hc i hi
    exact ⟨b, off, e, ⟨hb, hat.lt⟩, hat⟩
/-- where a parser stands -/
def atOf (w : World) (g : Nat) : Nat := match w.cell? ⟨g, 1, none⟩ with
  | some (.int _ n) => n.toNat
  | _ => 0
theorem err_bind (R : Ps.R) (h : Ex → Ex) : (R.bind fun r k' => .ok (h r) k').err = R.err ∧ (R.bind fun r k' => .ok (h r) k').at_ = R.at_ := by cases R <;> exact ⟨rfl, rfl⟩
end Go.Proofs.Ytobpnpkcafacjaa
