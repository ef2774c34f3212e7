/- What scanNumber of package token returns. -/
import Derived.Test.YtobpnpkcafacjaaTokName
namespace Go.Proofs.Ytobpnpkcafacjaa
open Go.RowKit

theorem num_at (l : List UInt8) (m n : Nat) (h : m < l.length) (hd : Tk.isDig l[m] = true) :
    Tk.numVal n ((l.drop m).takeWhile Tk.isDig) = if n > (9223372036854775807 - (l[m].toNat - 48)) / 10 then none else Tk.numVal (10 * n + (l[m].toNat - 48)) ((l.drop (m + 1)).takeWhile Tk.isDig) := by
  rw [List.drop_eq_getElem_cons h, List.takeWhile_cons, if_pos hd]
  rfl
theorem num_stop (l : List UInt8) (m n : Nat) (h : m < l.length) (hd : Tk.isDig l[m] = false) : Tk.numVal n ((l.drop m).takeWhile Tk.isDig) = some n := by
  rw [List.drop_eq_getElem_cons h, List.takeWhile_cons, if_neg (by simp [hd])]
  rfl
theorem num_end (l : List UInt8) (m n : Nat) (h : l.length ≤ m) : Tk.numVal n ((l.drop m).takeWhile Tk.isDig) = some n := by
  rw [List.drop_eq_nil_of_le h]
  rfl
theorem num_great (l : List UInt8) (k : Nat) (h : Tk.numVal 0 ((l.drop k).takeWhile Tk.isDig) = none) :
    Value.tuple #[.agg #[.int .i64 0, .string ⟨#[]⟩, .int .i64 0, .int .i64 0], .int .i64 2] = scanVal (Tk.numAt l k) := by
  have hn : Tk.numAt l k = .error 2 := by
    unfold Tk.numAt
    dsimp only
    rw [h]
  rw [hn]
  rfl
theorem num_good (l : List UInt8) (k m n : Nat) (h : some n = Tk.numVal 0 ((l.drop k).takeWhile Tk.isDig)) (hm : m - k = ((l.drop k).takeWhile Tk.isDig).length) :
    Value.tuple #[.agg #[.int .i64 2, .string ⟨((l.drop k).take (m - k)).toArray⟩, .int .i64 (n : Int), .int .i64 (k : Int)], .int .i64 0] = scanVal (Tk.numAt l k) := by
  have hn : Tk.numAt l k = .ok ⟨2, (l.drop k).takeWhile Tk.isDig, n, k⟩ := by
    unfold Tk.numAt
    dsimp only
    rw [← h]
  rw [hn, ← run_take Tk.isDig _ (m - k) hm]
  rfl

end Go.Proofs.Ytobpnpkcafacjaa
