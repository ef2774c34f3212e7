/- What scanName of package token returns. -/
import Derived.Test.YtobpnpkcafacjaaTokSkip
namespace Go.Proofs.Ytobpnpkcafacjaa
open Go.RowKit

def tokVal (t : Tk.Tok) : Value := .agg #[.int .i64 (t.kind : Int), .string ⟨t.text.toArray⟩, .int .i64 (t.num : Int), .int .i64 (t.pos : Int)]
def noTok : Value := .agg #[.int .i64 0, .string ⟨#[]⟩, .int .i64 0, .int .i64 0]
def scanVal : Except Nat Tk.Tok → Value
  | .error e => .tuple #[noTok, .int .i64 (e : Int)]
  | .ok t => .tuple #[tokVal t, .int .i64 0]

theorem run_at (p : UInt8 → Bool) (l : List UInt8) (m : Nat) (h : m < l.length) : ((l.drop m).takeWhile p).length = if p l[m] then ((l.drop (m + 1)).takeWhile p).length + 1 else 0 := by
  rw [List.drop_eq_getElem_cons h, List.takeWhile_cons]
  split <;> simp
theorem run_end (p : UInt8 → Bool) (l : List UInt8) (m : Nat) (h : l.length ≤ m) : ((l.drop m).takeWhile p).length = 0 := by
  rw [List.drop_eq_nil_of_le h]; rfl
theorem run_take (p : UInt8 → Bool) (s : List UInt8) (n : Nat) (h : n = (s.takeWhile p).length) : s.take n = s.takeWhile p := by
  subst h
  induction s with
  | nil => rfl
  | cons c r ih =>
    rw [List.takeWhile_cons]
    split
    · simp [ih]
    · rfl

theorem name_long (l : List UInt8) (k m : Nat) (_hkm : k ≤ m) (h : m - k = ((l.drop k).takeWhile Tk.isLD).length) (h16 : 16 < (m : Int) - (k : Int)) :
    Value.tuple #[.agg #[.int .i64 0, .string ⟨#[]⟩, .int .i64 0, .int .i64 0], .int .i64 3] = scanVal (Tk.nameAt l k) := by
  unfold Tk.nameAt
  rw [if_pos (by omega)]
  rfl
theorem name_short (l : List UInt8) (k m : Nat) (_hkm : k ≤ m) (h : m - k = ((l.drop k).takeWhile Tk.isLD).length) (h16 : (m : Int) - (k : Int) ≤ 16) (q : Bool) (hq : Tk.resv ((l.drop k).take (m - k)) = q) :
    Value.tuple #[.agg #[.int .i64 (if q then 3 else 1), .string ⟨((l.drop k).take (m - k)).toArray⟩, .int .i64 0, .int .i64 (k : Int)], .int .i64 0] = scanVal (Tk.nameAt l k) := by
  have hn : Tk.nameAt l k = .ok ⟨if Tk.resv ((l.drop k).takeWhile Tk.isLD) then 3 else 1, (l.drop k).takeWhile Tk.isLD, 0, k⟩ := by
    unfold Tk.nameAt
    dsimp only
    rw [if_neg (by omega)]
  rw [hn, ← run_take Tk.isLD _ (m - k) h, hq]
  cases q <;> rfl

end Go.Proofs.Ytobpnpkcafacjaa
