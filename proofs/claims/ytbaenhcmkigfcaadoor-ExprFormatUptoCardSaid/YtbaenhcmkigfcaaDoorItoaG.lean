/- The library's decimal numeral is the reference's. No statement of the program is proved in this file. -/
import Derived.Test.YtbaenhcmkigfcaaDoorGTxt
import Derived.Lib.ItoaNum
namespace Go.Proofs.YtbaenhcmkigfcaaDoor

theorem decLoop_dd : ∀ (f k : Nat) (s : List UInt8), 0 < k → k < 10 ^ f → decLoop f k s = Lib.decDigits k ++ s
  | 0, k, s, h0, h => by simp at h; omega
  | f + 1, k, s, h0, h => by
    rw [decLoop_go f k s (.inl h0), Lib.decDigits]
    by_cases hk : k < 10
    · rw [dif_pos hk, show k / 10 = 0 by omega, decLoop_stop f 0 (digC k :: s) (by simp)]
      unfold digC
      rw [Nat.mod_eq_of_lt hk]
      rfl
    · rw [Nat.pow_succ] at h
      rw [dif_neg hk, decLoop_dd f (k / 10) (digC k :: s) (by omega) (by omega), List.append_assoc]
      rfl
theorem decLoop_all (k : Nat) (h : k < 10 ^ 20) : decLoop 20 k [] = Lib.decDigits k := by
  by_cases h0 : k = 0
  · subst h0
    rw [show (20 : Nat) = 19 + 1 from rfl, decLoop_go 19 0 [] (.inr rfl), decLoop_stop 19 (0 / 10) [digC 0] (by simp), Lib.decDigits, dif_pos (by decide)]
    rfl
  · rw [decLoop_dd 20 k [] (by omega) h, List.append_nil]
theorem itoa_num (n : Int) (h0 : -9223372036854775808 ≤ n) (h1 : n ≤ 9223372036854775807) : Lib.itoa n = numText n := by
  unfold Lib.itoa numText
  split
  · rw [decLoop_all _ (by omega), show n.natAbs = (-n).toNat by omega]
  · rw [decLoop_all _ (by omega)]

end Go.Proofs.YtbaenhcmkigfcaaDoor
