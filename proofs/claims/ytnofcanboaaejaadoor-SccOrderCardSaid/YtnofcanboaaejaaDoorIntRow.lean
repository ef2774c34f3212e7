/- Slices of numbers that came in. No statement of the program is proved in this file. -/
import Derived.Test.YtnofcanboaaejaaDoorTokSkip
namespace Go.Proofs.YtnofcanboaaejaaDoor
open Go.RowKit

/-- the slice at A holds the numbers xs, which fit -/
def IntR (w : World) (A : Option Addr) (xs : List Int) : Prop :=
  ∀ i (h : i < xs.length), ∃ b off, A = some ⟨b, off, none⟩ ∧ w.cell? ⟨b, off + i, none⟩ = some (.int .i64 xs[i]) ∧ -9223372036854775808 ≤ xs[i] ∧ xs[i] ≤ 9223372036854775807
theorem IntR.later {w w' : World} {A : Option Addr} {xs : List Int} (h : IntR w A xs) (hb : Below w.heap.size w w') : IntR w' A xs := by
  intro i hi
  obtain ⟨b, off, e, hc, r⟩ := h i hi
  exact ⟨b, off, e, cell_later hb hc, r⟩
end Go.Proofs.YtnofcanboaaejaaDoor
