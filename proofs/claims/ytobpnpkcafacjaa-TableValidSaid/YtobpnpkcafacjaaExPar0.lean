/- The parser of package expr in memory, and what its method sign returns. -/
import Derived.Test.YtobpnpkcafacjaaExOps
import Derived.Test.YtobpnpkcafacjaaTokS
import Derived.RegionTactic
import Derived.Deep.RegionHeld3
namespace Go.Proofs.Ytobpnpkcafacjaa
open Go.RowKit

theorem sgn_is (ts : List Tk.Tok) (k : Nat) (hk : k < ts.length) (h : Ps.kindAt ts k = 4) : Ps.sgn ts k = Ps.textAt ts k := by
  unfold Ps.sgn Ps.textAt
  unfold Ps.kindAt at h
  rw [List.getElem?_eq_getElem hk] at h ⊢
  dsimp only at h ⊢
  rw [if_pos h]
theorem sgn_not (ts : List Tk.Tok) (k : Nat) (h : Ps.kindAt ts k ≠ 4) : Ps.sgn ts k = [] := by
  by_cases hs : Ps.sgn ts k = []
  · exact hs
  · exact absurd (Ps.sgn_kind hs) h

end Go.Proofs.Ytobpnpkcafacjaa
