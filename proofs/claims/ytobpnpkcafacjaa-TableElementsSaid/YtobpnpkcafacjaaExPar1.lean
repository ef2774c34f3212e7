/- What afterUnary and afterParenthesis of package expr return, if the functions that they call return what they should. -/
import Derived.Test.YtobpnpkcafacjaaExPar0
namespace Go.Proofs.Ytobpnpkcafacjaa
open Go.RowKit

def Ps.R.err : Ps.R → Nat
  | .bad _ e => e
  | .ok _ _ => 0
def Ps.R.ex : Ps.R → Ex
  | .bad _ _ => .mk 0 0 [] []
  | .ok x _ => x
theorem grown_unset {w w1 W : World} {g r : Nat} (h : w.grownBy w1 (some g)) (hr : w.heap.size ≤ r) (hs : w1.heap.size ≤ W.heap.size) (ho : W.os = w1.os) (ht : W.tape = w1.tape) (hu : W.output = w1.output) (hW : ∀ b, b < w1.heap.size → b ≠ r → W.heap[b]? = w1.heap[b]?) : w.grownBy W (some g) :=
  ⟨ho.trans h.os, ht.trans h.tape, hu.trans h.output, Nat.le_trans h.size hs, fun i hi hne => (hW i (by have := h.size; omega) (by omega)).trans (h.block i hi hne)⟩

theorem set4_alloc2_keep (w : World) (r : Nat) (u0 u1 u2 u3 : Value) (o o' : Obj) (b : Nat) (hb : b ≠ r) (hlt : b < w.heap.size) : (((set4 w r u0 u1 u2 u3).alloc o).alloc o').heap[b]? = w.heap[b]? := by
  rw [Below.heap_alloc _ o' b (by have := set4_size w r u0 u1 u2 u3; simp; omega), set4_alloc_keep w r u0 u1 u2 u3 o b hb hlt]
theorem efat_new2 (w : World) (r : Nat) (u0 u1 u2 u3 : Value) (ob : Obj) (l : List Value) (t : TypeId) (o : Nat) (f : EF) (h : l[o]? = some (.int .i64 f.op) ∧ l[o + 1]? = some (.int .i64 f.num) ∧ l[o + 2]? = some (.string ⟨f.name.toArray⟩) ∧ l[o + 3]? = some (.slice f.A f.n f.c)) :
    EFat (((set4 w r u0 u1 u2 u3).alloc ob).alloc (.cells l.toArray t)) (w.heap.size + 1) o f := by
  have hs := set4_size w r u0 u1 u2 u3
  have hs2 : ((set4 w r u0 u1 u2 u3).alloc ob).heap.size = w.heap.size + 1 := by simp [hs]
  have e : ∀ o', (((set4 w r u0 u1 u2 u3).alloc ob).alloc (.cells l.toArray t)).cell? ⟨w.heap.size + 1, o', none⟩ = l[o']? := by
    intro o'
    rw [← hs2, World.cell?_alloc_mark]
    simp
  exact ⟨(e _).trans h.1, (e _).trans h.2.1, (e _).trans h.2.2.1, (e _).trans h.2.2.2⟩
theorem blk4 {w : World} {b : Nat} {c0 c1 c2 c3 : Value} {t : TypeId} (h : w.heap[b]? = some (.cells #[c0, c1, c2, c3] t (0, 0))) :
    w.cell? ⟨b, 0, none⟩ = some c0 ∧ w.cell? ⟨b, 1, none⟩ = some c1 ∧ w.cell? ⟨b, 2, none⟩ = some c2 ∧ w.cell? ⟨b, 3, none⟩ = some c3 ∧
    w.frozen? ⟨b, 0, none⟩ = false ∧ w.frozen? ⟨b, 1, none⟩ = false ∧ w.frozen? ⟨b, 2, none⟩ = false ∧ w.frozen? ⟨b, 3, none⟩ = false ∧ b < w.heap.size := by
  refine ⟨?_, ?_, ?_, ?_, ?_, ?_, ?_, ?_, lt_of_block h⟩
  · rw [cell_of_row w b 0 _ _ _ h]; rfl
  · rw [cell_of_row w b 1 _ _ _ h]; rfl
  · rw [cell_of_row w b 2 _ _ _ h]; rfl
  · rw [cell_of_row w b 3 _ _ _ h]; rfl
  · simp [World.frozen?, h]
  · simp [World.frozen?, h]
  · simp [World.frozen?, h]
  · simp [World.frozen?, h]
theorem set4_at {w : World} {b : Nat} {c0 c1 c2 c3 : Value} {t : TypeId} (h : w.heap[b]? = some (.cells #[c0, c1, c2, c3] t (0, 0))) (u0 u1 u2 u3 : Value) :
    (set4 w b u0 u1 u2 u3).heap[b]? = some (.cells #[u0, u1, u2, u3] t (0, 0)) := by
  unfold set4
  simp [World.setCell, Array.getElem?_modify, h]
end Go.Proofs.Ytobpnpkcafacjaa
