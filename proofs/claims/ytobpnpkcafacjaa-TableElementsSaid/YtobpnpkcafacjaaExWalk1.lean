/- What wellFormed of package expr and the functions handed to its walk return. -/
import Derived.Test.YtobpnpkcafacjaaExWalk0
namespace Go.Proofs.Ytobpnpkcafacjaa
open Go.RowKit

/-- is the head of an expression with n Args as it should be -/
def nodeV (op num : Int) (name : List UInt8) (n : Nat) : Bool :=
  if op = 1 then decide (0 ≤ num) && (name == [] && n == 0)
  else if op = 2 then num == 0 && (nmD name && n == 0)
  else if unB op then num == 0 && (name == [] && n == 1)
  else if biB op then num == 0 && (name == [] && n == 2)
  else false

/-- what Valid asks of each part, with so much around it -/
def visV (op num : Int) (name : List UInt8) (n a : Nat) : Bool := decide (a ≤ 24) && nodeV op num name n
theorem hv_end {w : World} {hb : Nat} {h v : Int} (m : Int) (hh : w.heap[hb]? = some (.cells #[.int .i64 h] 3 (0, 0))) (hv : v = m) (o : Obj) :
    ((w.setCell ⟨hb, 0, none⟩ (.int .i64 v)).alloc o).heap[hb]? = some (.cells #[.int .i64 m] 3 (0, 0)) ∧ w.grownBy ((w.setCell ⟨hb, 0, none⟩ (.int .i64 v)).alloc o) (some hb) := by
  subst hv
  have hlt : hb < w.heap.size := lt_of_block hh
  constructor
  · rw [Below.heap_alloc _ _ hb (by rw [setCell_size]; exact hlt)]
    simp [World.setCell, Array.getElem?_modify, hh]
  · refine ⟨rfl, rfl, rfl, by simp [World.setCell], fun b hb' hne => ?_⟩
    rw [Below.heap_alloc _ _ b (by rw [setCell_size]; exact hb'), Below.heap_setCell _ _ _ b (by simp; exact fun e => hne (by rw [e]))]

end Go.Proofs.Ytobpnpkcafacjaa
