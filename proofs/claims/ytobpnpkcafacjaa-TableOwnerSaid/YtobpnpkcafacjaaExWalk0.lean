/- What inParentheses, added, isName, wellFormed of package expr and the functions handed to its walk return. -/
import Derived.Test.YtobpnpkcafacjaaExParse
import Derived.Test.YtobpnpkcafacjaaRefName
import Derived.Test.YtobpnpkcafacjaaDec
namespace Go.Proofs.Ytobpnpkcafacjaa
open Go.RowKit

/-- is Arg number k printed in parentheses -/
def inPar (op aop : Int) (k : Nat) : Bool := decide (Ps.strD aop < Ps.strD op) || (Ps.strD aop == Ps.strD op && k == 1)
theorem below_rev' {w w1 w2 : World} (h2 : Below w1.heap.size w1 w2) (h1 : Below w.heap.size w w1) : Below w.heap.size w w2 := h1.trans (h2.mono h1.size)
/-- what an expression puts around its Arg number k -/
def addV (op aop : Int) (k : Nat) : Nat := (if unB op then 1 else 0) + (if inPar op aop k then 1 else 0)
/-- is a text one name -/
def nmD (s : List UInt8) : Bool := (Tk.lex s).2.2 == 0 && (Ps.kindAt (Tk.lex s).1 0 == 1 && Ps.textAt (Tk.lex s).1 0 == s)

theorem lexGo_ne (f : Nat) (l : List UInt8) (k : Nat) (acc : List Tk.Tok) (hf : 0 < f) (h : l.length - k < f) : (Tk.lexGo f l k acc).2.2 = 0 → (Tk.lexGo f l k acc).1 ≠ [] := by
  induction f generalizing k acc with
  | zero => omega
  | succ f ih =>
    rw [Tk.lexGo]
    split
    · intro _; simp
    · rename_i hk
      split
      · rename_i e he
        intro h0
        have := tok_err l k e he
        simp at h0
        omega
      · rename_i t ht
        split
        · intro h0; simp at h0
        · have h1 := tok_ok l k t (by omega) ht
          have h2 : k + t.text.length ≤ Tk.skipTo l (k + t.text.length) := by unfold Tk.skipTo; omega
          exact ih _ _ (by omega) (by omega)
theorem lex_ne (l : List UInt8) (h : (Tk.lex l).2.2 = 0) : 0 < (Tk.lex l).1.length := by
  unfold Tk.lex at h ⊢
  split at h
  · simp at h
  · rename_i hl
    rw [if_neg hl]
    have h1 : Tk.skipTo l 0 ≤ l.length := Tk.skipTo_le l 0 (Nat.zero_le _)
    have := lexGo_ne (l.length + 1) l (Tk.skipTo l 0) [] (by omega) (by omega) h
    exact List.length_pos_iff.2 this

end Go.Proofs.Ytobpnpkcafacjaa
