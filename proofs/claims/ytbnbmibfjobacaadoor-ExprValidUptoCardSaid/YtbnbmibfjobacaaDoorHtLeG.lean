/- The height of any tree is at most twice the number of its nodes. No statement of the program is proved in this file. -/
import Derived.Test.YtbnbmibfjobacaaDoorOpExG
namespace Go.Proofs.YtbnbmibfjobacaaDoor
open Go.RowKit

mutual
theorem ht_cnt : ∀ (E : Ex), exHt E + 1 ≤ 2 * exCnt E
  | .mk op num name args => by
    have h := hts_cnt op args 0 0
    rw [exHt_mk, exCnt_mk]
    split <;> omega
theorem hts_cnt (op : Int) : ∀ (args : List Ex) (k h : Nat), exHts op k args h ≤ max h (2 * exCnts args)
  | [], k, h => by rw [exHts_nil]; exact Nat.le_max_left _ _
  | e :: r, k, h => by
    have h1 := ht_cnt e
    have h2 := hts_cnt op r (k + 1) (max h (htPart op k e))
    have h3 : htPart op k e ≤ exHt e + 1 := by unfold htPart; split <;> omega
    rw [exHts_cons, exCnts]
    omega
end

end Go.Proofs.YtbnbmibfjobacaaDoor
