/- Conversions between strings and bytes, and decimal digits. No statement of the program is proved in this file. -/
import Derived.Test.YtobpnpkcafacjaaNumMath
import Derived.Test.YtobpnpkcafacjaaTokS
namespace Go.Proofs.Ytobpnpkcafacjaa
open Go.RowKit

theorem bapp (a b : List UInt8) : (⟨a.toArray⟩ : ByteArray) ++ (⟨b.toArray⟩ : ByteArray) = ⟨(a ++ b).toArray⟩ := by
  apply ByteArray.ext
  simp
theorem decLoop_go (f k : Nat) (s : List UInt8) (h : k > 0 ∨ s = []) : decLoop (f + 1) k s = decLoop f (k / 10) (digC k :: s) := by rw [decLoop, if_pos h]
theorem decLoop_stop (f k : Nat) (s : List UInt8) (h : ¬ (k > 0 ∨ s = [])) : decLoop f k s = s := by
  cases f with
  | zero => rfl
  | succ f => rw [decLoop, if_neg h]

end Go.Proofs.Ytobpnpkcafacjaa
