/- What the listed package variables give the walks: the table of signs lies in memory. No statement of the program is proved in this file. -/
import Derived.Test.YtjjooekkieddbaaDoorGPar
import Derived.ProofKit
import Derived.LaidMore
import Derived.OpenShut
import Derived.Stop.Joined
namespace Go.Proofs.YtjjooekkieddbaaDoor
open Go.ChangeShapes Go.WideShapes Go.ChangeAt Go.RowKit

theorem gSigns : Tryd.prog.globalNamed "lockorder/expr.signs" = some 0 := by kernel_rfl
theorem tSigns : (Tryd.prog.globals[(0 : Nat)]?).map (·.type) = some 136 := by kernel_rfl
def laid1 {H : Type} : List (String × DataW H) := [("lockorder/expr.signs", Rows.laid_lockorder_expr_signs)]
theorem laid_signs {H : Type} : (Rows.laid_lockorder_expr_signs : DataW H) = .agg (Ps.sgTab.map fun s => .lit (.string s)) := rfl

theorem agg_inj {H : Type} {a b : List (DataW H)} (h : (DataW.agg a : DataW H) = .agg b) : a = b := by
  injection h
/-- The door's own heap meets the condition. -/
theorem door_met (os : Os) (args : Array Value) : laidMetH Tryd.prog laid1 ((World.doorLaid Tryd.prog 400 os).forCall (fun _ _ => 0) ⟨#[], args, []⟩).memory :=
  laidMetH_of_parts3 (fuel := 8) (laidMet_of_run' 8 (by kernel_rfl) (by kernel_rfl)) (by kernel_rfl) (by kernel_rfl)

theorem of_laid {W : World} (h : laidMetH Tryd.prog laid1 W) : SgT W := by
  rw [MakeChecks.laidMetH_plain _ _ _ (by kernel_rfl)] at h
  obtain ⟨ps, ⟨g3, t3, cs3, f3, p3, q3, hg3, ht3, hv3, hd3, _, _⟩, _⟩ := h
  obtain rfl := Option.some.inj (gSigns.symm.trans hg3)
  obtain rfl := Option.some.inj (tSigns.symm.trans ht3)
  obtain ⟨xs, m, rfl, hx, hlen, hn, hel⟩ := DataW.trod_array Tryd.underlying136 hd3
  have c1 : Tryd.prog.cellsOf 9 = 1 := by kernel_rfl
  have c18 : Tryd.prog.cellsOf 136 = 18 := by kernel_rfl
  simp only [Prod.mk.injEq] at hx
  have hxs : xs.map (·.1) = Ps.sgTab.map fun s => .lit (.string s) := agg_inj (hx.1.symm.trans laid_signs)
  have hL : Ps.sgTab.length = 18 := rfl
  unfold SgT
  generalize Ps.sgTab = L at *
  intro i hi
  have h1 := hel i (by omega)
  rw [c1, Nat.mul_one] at h1
  have hxi : i < xs.length := by omega
  rw [List.getElem?_eq_getElem hxi] at h1
  obtain ⟨s, e1, e2, _⟩ := DataW.trod_string Tryd.underlying9 h1
  have hcell : cs3.toList[i]? = some (.string s) := by
    have h2 : ((cs3.toList.drop i).take 1)[0]? = some (Value.string s) := by rw [e1]; rfl
    rw [List.getElem?_take, if_pos (by omega), List.getElem?_drop, Nat.add_zero] at h2
    exact h2
  have hs : s.data.toList = L[i] := by
    have h3 : (xs.map (·.1))[i]? = (L.map fun s => (DataW.lit (.string s) : DataW _))[i]? := by rw [hxs]
    rw [List.getElem?_map, List.getElem?_map, List.getElem?_eq_getElem hxi, List.getElem?_eq_getElem hi, e2] at h3
    simpa using h3
  rw [World.var?_cell hg3 hv3 i, ← Array.getElem?_toList, hcell, ← hs]

end Go.Proofs.YtjjooekkieddbaaDoor
