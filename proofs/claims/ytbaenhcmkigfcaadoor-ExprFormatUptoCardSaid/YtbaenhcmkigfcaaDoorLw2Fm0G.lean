/- The text of an expression is read as the expression. No statement of the program is proved in this file. -/
import Derived.Test.YtbaenhcmkigfcaaDoorGRt
namespace Go.Proofs.YtbaenhcmkigfcaaDoor
open Go.RowKit

theorem text_parse {E : Ex} {l : List K3} (h : TkOf E l) (hl : (exText E).length ≤ 3000) (hh : exHt E ≤ 20) : ∃ m : Nat, parseV (Tk.lex (exText E)).1 0 = (E, (m : Int), 0) ∧ (Tk.lex (exText E)).1.length = m + 1 := by
  have hlen := tk_len h
  have h2 := tk_lex h
  obtain ⟨toks, hm, hx⟩ := h2 [] [] ((exText E).length - l.length + 1) [] (.inl rfl) (by simp; omega)
  have htl : toks.length = l.length := by rw [← hm, List.length_map]
  have hS := tk_starts h
  have hlex : Tk.lex (exText E) = (toks ++ [⟨5, [], 0, (exText E).length⟩], (exText E).length, 0) := by
    unfold Tk.lex
    rw [if_neg (by omega)]
    have e1 : Tk.lexGo ((exText E).length + 1) (exText E) (Tk.skipTo (exText E) 0) [] = lxs ((exText E).length - l.length + 1 + l.length) [] (exText E ++ []) [] := by
      unfold lxs Tk.skipTo
      rw [List.append_nil, List.nil_append, List.drop_zero, show (exText E).length - l.length + 1 + l.length = (exText E).length + 1 by omega, starts_sep hS]
      rfl
    rw [e1, hx, lxs_end]
    simp
  rw [hlex]
  obtain ⟨ts, hts⟩ : ∃ ts, ts = toks ++ [(⟨5, [], 0, (exText E).length⟩ : Tk.Tok)] := ⟨_, rfl⟩
  have hA : AtK ts 0 l := by
    intro i hi
    rw [hts, Nat.zero_add, List.getElem?_append_left (by omega), ← List.getElem?_map, hm, List.getElem?_eq_getElem hi]
  have hlast : ts[l.length]? = some ⟨5, [], 0, (exText E).length⟩ := by
    rw [hts, List.getElem?_append_right (by omega), htl, Nat.sub_self]
    rfl
  have htsl : ts.length = l.length + 1 := by rw [hts, List.length_append, htl]; rfl
  rw [← hts]
  clear hts hlex hx hm h2
  have hsE : Ps.sgn ts l.length = [] := by unfold Ps.sgn; rw [hlast]; rfl
  have hkE : Ps.kindAt ts (ts.length - 1) = 5 := by unfold Ps.kindAt; rw [htsl, Nat.add_sub_cancel, hlast]
  have hPE : Ps.PE ts 1 0 0 = .ok E l.length := by
    rw [(tk_parse h).2 ts 0 0 1 hA (by omega) (by omega) (by omega) (by rw [Nat.zero_add, hsE]; exact Nat.zero_le _), Nat.zero_add, Ps.PC_stop ts 1 0 E l.length (by rw [hsE]; decide)]
  refine ⟨l.length, ?_, htsl⟩
  unfold parseV
  rw [if_pos ⟨Int.le_refl 0, by rw [htsl]; omega, hkE⟩]
  show ((Ps.PE ts 1 0 0).ex, ((Ps.PE ts 1 0 0).at_ : Int), (Ps.PE ts 1 0 0).err) = _
  rw [hPE]
  rfl
end Go.Proofs.YtbaenhcmkigfcaaDoor
