/- What expression and operand of package expr return: what the plain parser says. -/
import Derived.Test.YtiaonhpiiibkdaaExPar2
namespace Go.Proofs.Ytiaonhpiiibkdaa
open Go.RowKit

/-- the world in which expression reads the right side of an operator -/
def exWorld (w2 : World) (g m : Nat) : World := (w2.setCell ⟨g, 1, none⟩ (.int .i64 ((m : Int) + 1))).alloc (.cells #[.int .i64 0, .int .i64 0, .string ⟨#[]⟩, .slice none 0 0] 25)
theorem exWorld_keep (w2 : World) (g m b : Nat) (hb : b < w2.heap.size) (hne : b ≠ g) : (exWorld w2 g m).heap[b]? = w2.heap[b]? := by
  unfold exWorld
  rw [Below.heap_alloc _ _ b (by rw [setCell_size]; exact hb), Below.heap_setCell _ _ _ b (by simpa using hne)]
theorem exWorld_size (w2 : World) (g m : Nat) : (exWorld w2 g m).heap.size = w2.heap.size + 1 := by
  unfold exWorld
  simp [World.setCell]
theorem exWorld_os (w2 : World) (g m : Nat) : (exWorld w2 g m).os = w2.os ∧ (exWorld w2 g m).tape = w2.tape ∧ (exWorld w2 g m).output = w2.output := ⟨rfl, rfl, rfl⟩
theorem exWorld_new (w2 : World) (g m : Nat) : (exWorld w2 g m).heap[w2.heap.size]? = some (.cells #[.int .i64 0, .int .i64 0, .string ⟨#[]⟩, .slice none 0 0] 25 (0, 0)) := by
  have := heap_alloc_new (w2.setCell ⟨g, 1, none⟩ (.int .i64 ((m : Int) + 1))) (.cells #[.int .i64 0, .int .i64 0, .string ⟨#[]⟩, .slice none 0 0] 25)
  rw [setCell_size] at this
  exact this

/-- the blocks of what a loop of expression has read -/
def LS (w : World) (lb : Nat) (b : Nat) : Prop := w.heap.size < b ∧ b ≠ lb
/-- a block holds the fields f -/
def Blk (w : World) (b : Nat) (f : EF) : Prop := w.heap[b]? = some (.cells #[.int .i64 f.op, .int .i64 f.num, .string ⟨f.name.toArray⟩, .slice f.A f.n f.c] 25 (0, 0))
def Blk0 (w : World) (b : Nat) : Prop := w.heap[b]? = some (.cells #[.int .i64 0, .int .i64 0, .string ⟨#[]⟩, .slice none 0 0] 25 (0, 0))

theorem ExM.inside {w : World} {S : Nat → Prop} {E : Ex} {f : EF} (h : ExM w S E f) : ExM w (fun b => S b ∧ b < w.heap.size) E f := by
  induction h with
  | mk op num name args A c F hc hs ih =>
    refine .mk op num name args A c F (fun i hi => ?_) ih
    obtain ⟨b, off, e, hb, hat⟩ := hc i hi
    exact ⟨b, off, e, ⟨hb, hat.lt⟩, hat⟩
/-- where a parser stands -/
def atOf (w : World) (g : Nat) : Nat := match w.cell? ⟨g, 1, none⟩ with
  | some (.int _ n) => n.toNat
  | _ => 0
theorem err_bind (R : Ps.R) (h : Ex → Ex) : (R.bind fun r k' => .ok (h r) k').err = R.err ∧ (R.bind fun r k' => .ok (h r) k').at_ = R.at_ := by cases R <;> exact ⟨rfl, rfl⟩
end Go.Proofs.Ytiaonhpiiibkdaa
