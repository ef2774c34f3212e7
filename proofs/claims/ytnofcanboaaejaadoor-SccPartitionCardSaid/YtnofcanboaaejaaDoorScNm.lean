/- Rows of numbers that a call makes itself. No statement of the program is proved in this file. -/
import Derived.Test.YtnofcanboaaejaaDoorScMem
namespace Go.Proofs.YtnofcanboaaejaaDoor
open Go.RowKit
set_option maxRecDepth 100000

/-- the row of numbers at block g -/
def NmR (w : World) (g n : Nat) (f : Nat → Int) : Prop := ∀ i, i < n → w.cell? ⟨g, i, none⟩ = some (.int .i64 (f i)) ∧ w.frozen? ⟨g, i, none⟩ = false
theorem NmR.later {w w' : World} {g n : Nat} {f : Nat → Int} (h : NmR w g n f) (hb : Below w.heap.size w w') : NmR w' g n f := fun i hi => by
  have hl := World.block_lt_of_cell? _ _ (h i hi).1
  have hk := hb.block g hl
  exact ⟨(World.cell?_of_block hk).trans (h i hi).1, (World.frozen?_of_block hk).trans (h i hi).2⟩
theorem NmR.put {w : World} {g n k : Nat} {f f' : Nat → Int} (h : NmR w g n f) (v : Int) (hf : ∀ j, j < n → f' j = if j = k then v else f j) : NmR (w.setCell ⟨g, k, none⟩ (.int .i64 v)) g n f' := fun i hi => by
  obtain ⟨hc, hz⟩ := h i hi
  refine ⟨?_, by rw [World.frozen?_setCell]; exact hz⟩
  rw [hf i hi]
  by_cases e : i = k
  · subst e
    rw [if_pos rfl]
    exact World.cell?_setCell_same _ _ _ hc
  · rw [if_neg e, World.cell?_setCell_other _ _ _ _ (by intro h; injection h with h1 h2; exact e h2.symm)]
    exact hc
theorem wpList_make_nums (w : World) {ops : Array Oper} {rest : List Oper} {o : Oper} {a : Act} {Q : Exit → Act → World → Prop} (hg : o.guard = none) (l c : Operand) (hop : o.op = Op.makeSlice 22 l c)
    (n : Nat) (hl : a.eval l = .int .i64 (n : Int)) (hc : a.eval c = .int .i64 (n : Int)) (hn : n ≤ 1000000) (H : Nat) (hH : w.heap.size = H)
    (hK : ∀ w', NmR w' H n (fun _ => 0) → Below w.heap.size w w' → w'.heap.size = H + 1 → wpList Tryd.prog ops Q rest (a.put o.dst (.slice (some ⟨H, 0, none⟩) n n)) w') : wpList Tryd.prog ops Q (o :: rest) a w :=
  wpList_make_one (.int .i64 0) 8 Tryd.underlying22 Tryd.infoN (by omega) rfl w hg l c hop n hl hc hn H hH fun w' _ h1 h2 h3 => hK w' h1 h2 h3

end Go.Proofs.YtnofcanboaaejaaDoor
