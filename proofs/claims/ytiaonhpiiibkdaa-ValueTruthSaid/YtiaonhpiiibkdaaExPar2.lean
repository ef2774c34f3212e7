/- What operand of package expr returns, if the functions that it calls return what they should. -/
import Derived.Test.YtiaonhpiiibkdaaExPar1
namespace Go.Proofs.Ytiaonhpiiibkdaa
open Go.RowKit

theorem setCell_size (W : World) (p : Addr) (u : Value) : (W.setCell p u).heap.size = W.heap.size := by simp [World.setCell]
/-- the world in which operand calls what follows a parenthesis or a unary operator -/
def opWorld (w3 : World) (g k o : Nat) : World := ((w3.setCell ⟨g, 2, none⟩ (.int .i64 ((o : Int) + 1))).setCell ⟨g, 1, none⟩ (.int .i64 ((k : Int) + 1))).alloc (.cells #[.int .i64 0, .int .i64 0, .string ⟨#[]⟩, .slice none 0 0] 25)
theorem opWorld_keep (w3 : World) (g k o b : Nat) (hb : b < w3.heap.size) (hne : b ≠ g) : (opWorld w3 g k o).heap[b]? = w3.heap[b]? := by
  unfold opWorld
  rw [Below.heap_alloc _ _ b (by simp [World.setCell]; omega), Below.heap_setCell _ _ _ b (by simpa using hne), Below.heap_setCell _ _ _ b (by simpa using hne)]
theorem opWorld_os (w3 : World) (g k o : Nat) : (opWorld w3 g k o).os = w3.os ∧ (opWorld w3 g k o).tape = w3.tape ∧ (opWorld w3 g k o).output = w3.output := ⟨rfl, rfl, rfl⟩
theorem setCell_os (W : World) (p : Addr) (u : Value) : (W.setCell p u).os = W.os ∧ (W.setCell p u).tape = W.tape ∧ (W.setCell p u).output = W.output := ⟨rfl, rfl, rfl⟩
theorem set4_os (W : World) (r : Nat) (u0 u1 u2 u3 : Value) : (set4 W r u0 u1 u2 u3).os = W.os ∧ (set4 W r u0 u1 u2 u3).tape = W.tape ∧ (set4 W r u0 u1 u2 u3).output = W.output := ⟨rfl, rfl, rfl⟩
theorem opWorld_size (w3 : World) (g k o : Nat) : (opWorld w3 g k o).heap.size = w3.heap.size + 1 := by
  unfold opWorld
  simp [World.setCell]
theorem opWorld_new (w3 : World) (g k o : Nat) : (opWorld w3 g k o).heap[w3.heap.size]? = some (.cells #[.int .i64 0, .int .i64 0, .string ⟨#[]⟩, .slice none 0 0] 25 (0, 0)) := by
  have hs : ((w3.setCell ⟨g, 2, none⟩ (.int .i64 ((o : Int) + 1))).setCell ⟨g, 1, none⟩ (.int .i64 ((k : Int) + 1))).heap.size = w3.heap.size := by simp [World.setCell]
  have := heap_alloc_new ((w3.setCell ⟨g, 2, none⟩ (.int .i64 ((o : Int) + 1))).setCell ⟨g, 1, none⟩ (.int .i64 ((k : Int) + 1))) (.cells #[.int .i64 0, .int .i64 0, .string ⟨#[]⟩, .slice none 0 0] 25)
  rw [hs] at this
  exact this
/-- the blocks of the result and of the part behind that call -/
theorem op_back {w w3 w4 : World} {g k o : Nat} {Z : Obj} (hZ : w3.heap[w.heap.size]? = some Z) (hr : w.heap.size < w3.heap.size) (hg : g < w.heap.size) (hG : (opWorld w3 g k o).grownBy w4 (some g)) :
    w4.heap[w.heap.size]? = some Z ∧ w4.heap[w3.heap.size]? = some (.cells #[.int .i64 0, .int .i64 0, .string ⟨#[]⟩, .slice none 0 0] 25 (0, 0)) := by
  have hs := opWorld_size w3 g k o
  exact ⟨(hG.block _ (by omega) (fun e => by injection e with e; omega)).trans ((opWorld_keep w3 g k o _ hr (by omega)).trans hZ), (hG.block _ (by omega) (fun e => by injection e with e; omega)).trans (opWorld_new w3 g k o)⟩
end Go.Proofs.Ytiaonhpiiibkdaa
