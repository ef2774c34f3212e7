/- What the made inputs' Source.Expr returns: the expression of the plain function exprG. -/
import Derived.Test.YtobpnpkcafacjaaExM
import Derived.Test.YtobpnpkcafacjaaTokScan
namespace Go.Proofs.Ytobpnpkcafacjaa
open Go.RowKit

theorem StrN.alloc {w : World} {g : Nat} {A : Option Addr} {xs : List (List UInt8)} (h : StrN w g A xs) (o : Obj) : StrN (w.alloc o) g A xs := by
  intro i hi
  obtain ⟨b, off, e, hb, hc⟩ := h i hi
  exact ⟨b, off, e, hb, (World.cell?_alloc_lt w o _ (World.block_lt_of_cell? _ _ hc)).trans hc⟩

/-- the cells of a block of four cells that was laid last, behind calls that changed block g alone -/
theorem four_grown {w w2 : World} {g : Nat} {c0 c1 c2 c3 : Value} {t : TypeId} (hlt : g < w.heap.size) (hb : (w.alloc (.cells #[c0, c1, c2, c3] t)).grownBy w2 (some g)) :
    w2.cell? ⟨w.heap.size, 0, none⟩ = some c0 ∧ w2.cell? ⟨w.heap.size, 1, none⟩ = some c1 ∧ w2.cell? ⟨w.heap.size, 2, none⟩ = some c2 ∧ w2.cell? ⟨w.heap.size, 3, none⟩ = some c3 ∧
    w2.frozen? ⟨w.heap.size, 0, none⟩ = false ∧ w2.frozen? ⟨w.heap.size, 1, none⟩ = false ∧ w2.frozen? ⟨w.heap.size, 2, none⟩ = false ∧ w2.frozen? ⟨w.heap.size, 3, none⟩ = false ∧ w.heap.size < w2.heap.size := by
  have hs : w.heap.size < (w.alloc (.cells #[c0, c1, c2, c3] t)).heap.size := by simp
  have hk := hb.block w.heap.size hs (fun e => by injection e with e; omega)
  have e1 : ∀ o, w2.cell? ⟨w.heap.size, o, none⟩ = (w.alloc (.cells #[c0, c1, c2, c3] t)).cell? ⟨w.heap.size, o, none⟩ := fun o => World.cell?_of_block hk
  have e2 : ∀ o, w2.frozen? ⟨w.heap.size, o, none⟩ = (w.alloc (.cells #[c0, c1, c2, c3] t)).frozen? ⟨w.heap.size, o, none⟩ := fun o => World.frozen?_of_block hk
  refine ⟨?_, ?_, ?_, ?_, ?_, ?_, ?_, ?_, Nat.lt_of_lt_of_le hs hb.size⟩
  · rw [e1, World.cell?_alloc_mark]; rfl
  · rw [e1, World.cell?_alloc_mark]; rfl
  · rw [e1, World.cell?_alloc_mark]; rfl
  · rw [e1, World.cell?_alloc_mark]; rfl
  · rw [e2, World.frozen?_alloc_mark]; rfl
  · rw [e2, World.frozen?_alloc_mark]; rfl
  · rw [e2, World.frozen?_alloc_mark]; rfl
  · rw [e2, World.frozen?_alloc_mark]; rfl

/-- a world with the four cells of block r written -/
def set4 (w : World) (r : Nat) (u0 u1 u2 u3 : Value) : World := (((w.setCell ⟨r, 0, none⟩ u0).setCell ⟨r, 1, none⟩ u1).setCell ⟨r, 2, none⟩ u2).setCell ⟨r, 3, none⟩ u3
theorem set4_size (w : World) (r : Nat) (u0 u1 u2 u3 : Value) : (set4 w r u0 u1 u2 u3).heap.size = w.heap.size := by
  unfold set4
  simp [World.setCell]
theorem set4_keep (w : World) (r : Nat) (u0 u1 u2 u3 : Value) (b : Nat) (hb : b ≠ r) : (set4 w r u0 u1 u2 u3).heap[b]? = w.heap[b]? := by
  unfold set4
  rw [Below.heap_setCell _ _ _ b hb, Below.heap_setCell _ _ _ b hb, Below.heap_setCell _ _ _ b hb, Below.heap_setCell _ _ _ b hb]
theorem set4_alloc_keep (w : World) (r : Nat) (u0 u1 u2 u3 : Value) (o : Obj) (b : Nat) (hb : b ≠ r) (hlt : b < w.heap.size) : ((set4 w r u0 u1 u2 u3).alloc o).heap[b]? = w.heap[b]? := by
  rw [Below.heap_alloc _ o b (by rw [set4_size]; exact hlt), set4_keep w r u0 u1 u2 u3 b hb]
theorem efat_new (w : World) (r : Nat) (u0 u1 u2 u3 : Value) (l : List Value) (t : TypeId) (o : Nat) (f : EF) (h : l[o]? = some (.int .i64 f.op) ∧ l[o + 1]? = some (.int .i64 f.num) ∧ l[o + 2]? = some (.string ⟨f.name.toArray⟩) ∧ l[o + 3]? = some (.slice f.A f.n f.c)) :
    EFat ((set4 w r u0 u1 u2 u3).alloc (.cells l.toArray t)) w.heap.size o f := by
  have hs := set4_size w r u0 u1 u2 u3
  have e : ∀ o', ((set4 w r u0 u1 u2 u3).alloc (.cells l.toArray t)).cell? ⟨w.heap.size, o', none⟩ = l[o']? := by
    intro o'
    rw [← hs, World.cell?_alloc_mark]
    simp
  exact ⟨(e _).trans h.1, (e _).trans h.2.1, (e _).trans h.2.2.1, (e _).trans h.2.2.2⟩
theorem grown_new {w w2 : World} {g r : Nat} (h : w.grownBy w2 (some g)) (hr : w.heap.size ≤ r) (u0 u1 u2 u3 : Value) (o : Obj) : w.grownBy ((set4 w2 r u0 u1 u2 u3).alloc o) (some g) :=
  ⟨h.os, h.tape, h.output, by have := h.size; have := set4_size w2 r u0 u1 u2 u3; simp; omega, fun i hi hne => (set4_alloc_keep w2 r u0 u1 u2 u3 o i (by omega) (by have := h.size; omega)).trans (h.block i hi hne)⟩
theorem exM_new {w2 : World} {n0 n1 r : Nat} {E : Ex} {f : EF} (h : ExM w2 (n1 ≤ ·) E f) (h0 : n0 ≤ n1) (hr : r < n1) (u0 u1 u2 u3 : Value) (o : Obj) : ExM ((set4 w2 r u0 u1 u2 u3).alloc o) (n0 ≤ ·) E f :=
  (h.keep fun b hb hlt => set4_alloc_keep w2 r u0 u1 u2 u3 o b (by omega) hlt).more fun b hb => Nat.le_trans h0 hb

theorem exprG_leaf (names : List (List UInt8)) (xs : List Int) (d i : Nat) (h : nextV xs i 10 < 2) : exprG names xs (d + 1) i = exprG.leafG names xs (nextI xs i) := by
  rw [exprG]
  dsimp only
  rw [if_pos h]
theorem exprG_un (names : List (List UInt8)) (xs : List Int) (d i : Nat) (h2 : ¬ nextV xs i 10 < 2) (h4 : nextV xs i 10 < 4) : exprG names xs (d + 1) i = (.mk (3 + (nextV xs i 10 % 2 : Nat)) 0 [] [(exprG names xs d (nextI xs i)).1], (exprG names xs d (nextI xs i)).2) := by
  rw [exprG]
  dsimp only
  rw [if_neg h2, if_pos h4]
theorem exprG_bin (names : List (List UInt8)) (xs : List Int) (d i : Nat) (h2 : ¬ nextV xs i 10 < 2) (h4 : ¬ nextV xs i 10 < 4) : exprG names xs (d + 1) i =
    (.mk (5 + (nextV xs (nextI xs i) 13 : Nat)) 0 [] [(exprG names xs d (nextI xs (nextI xs i))).1, (exprG names xs d (exprG names xs d (nextI xs (nextI xs i))).2).1], (exprG names xs d (exprG names xs d (nextI xs (nextI xs i))).2).2) := by
  rw [exprG]
  dsimp only
  rw [if_neg h2, if_neg h4]

theorem grown_of_alloc {w w' : World} {o : Obj} {r : Option Nat} (h : (w.alloc o).grownBy w' r) : w.grownBy w' r :=
  ⟨h.os, h.tape, h.output, Nat.le_trans (by simp) h.size, fun i hi hr => (h.block i (by simp; omega) hr).trans (Below.heap_alloc w o i hi)⟩
theorem grown_set {w w' : World} {r : Option Nat} (h : w.grownBy w' r) {p : Addr} (hp : w.heap.size ≤ p.block) (u : Value) : w.grownBy (w'.setCell p u) r :=
  ⟨h.os, h.tape, h.output, by simpa [World.setCell] using h.size, fun i hi hr => (Below.heap_setCell w' p u i (by omega)).trans (h.block i hi hr)⟩
end Go.Proofs.Ytobpnpkcafacjaa
