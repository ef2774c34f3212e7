/- Plain facts about texts of parentheses and unary operators around one name: their tokens, and what the plain parser makes of them. No statement of the program is proved in this file. -/
import Derived.Test.YtbaenhcmkigfcaaDoorGRfB
import Derived.Test.YtbaenhcmkigfcaaDoorGPar
namespace Go.Proofs.YtbaenhcmkigfcaaDoor
open Go.RowKit

/-- the bytes of such texts -/
def dpB (b : UInt8) : Bool := b == 40 || b == 45 || b == 33 || b == 41 || b == 97
def dpTok (b : UInt8) (k : Nat) : Tk.Tok := if b = 97 then ⟨1, [97], 0, k⟩ else ⟨4, [b], 0, k⟩
theorem dpB_cases {b : UInt8} (h : dpB b = true) : b = 40 ∨ b = 45 ∨ b = 33 ∨ b = 41 ∨ b = 97 := by
  unfold dpB at h
  simp only [Bool.or_eq_true, beq_iff_eq] at h
  rcases h with (((h | h) | h) | h) | h <;> simp [h]
/-- every byte is a token of its own -/
structure DpT (bs : List UInt8) : Prop where
  all : ∀ b ∈ bs, dpB b = true
  one : ∀ k (h : k < bs.length) (h' : k + 1 < bs.length), bs[k] = 97 → bs[k + 1] ≠ 97

theorem dp_sep {bs : List UInt8} (h : DpT bs) (k : Nat) : Tk.skipTo bs k = k := by
  unfold Tk.skipTo
  have : Tk.sepLen false (bs.drop k) = 0 := by
    cases hd : bs.drop k with
    | nil => rfl
    | cons c r =>
      have hc : c ∈ bs := List.mem_of_mem_drop (by rw [hd]; simp)
      rcases dpB_cases (h.all c hc) with rfl | rfl | rfl | rfl | rfl <;> rfl
  rw [this]
  rfl
theorem dp_tok {bs : List UInt8} (h : DpT bs) (k : Nat) (hk : k < bs.length) : Tk.tokAt bs k = .ok (dpTok bs[k] k) := by
  have hd : bs.drop k = bs[k] :: bs.drop (k + 1) := List.drop_eq_getElem_cons hk
  have hg : bs.getD k 0 = bs[k] := by simp [List.getD, List.getElem?_eq_getElem hk]
  have hb := dpB_cases (h.all _ (List.getElem_mem hk))
  have hone := h.one k hk
  unfold Tk.tokAt
  rw [hg]
  by_cases h97 : bs[k] = 97
  · rw [h97, if_pos (by decide)]
    unfold Tk.nameAt
    rw [hd, h97]
    have ht : (97 :: bs.drop (k + 1)).takeWhile Tk.isLD = [97] := by
      rw [List.takeWhile_cons, if_pos (by decide)]
      cases hd2 : bs.drop (k + 1) with
      | nil => rfl
      | cons c r =>
        have hk2 : k + 1 < bs.length := by
          rcases Nat.lt_or_ge (k + 1) bs.length with h1 | h1
          · exact h1
          · rw [List.drop_of_length_le h1] at hd2
            cases hd2
        have hc : bs[k + 1] = c := by
          have := List.drop_eq_getElem_cons hk2
          rw [hd2] at this
          injection this with this _
          exact this.symm
        have hc97 : c ≠ 97 := by rw [← hc]; exact hone hk2 h97
        have hcm : dpB c = true := h.all c (by rw [← hc]; exact List.getElem_mem hk2)
        have hcf : Tk.isLD c = false := by
          rcases dpB_cases hcm with rfl | rfl | rfl | rfl | rfl
          · decide
          · decide
          · decide
          · decide
          · exact absurd rfl hc97
        rw [List.takeWhile_cons, if_neg (by rw [hcf]; decide)]
    rw [ht]
    rfl
  · have hL : Tk.isLet bs[k] = false := by
      rcases hb with e | e | e | e | e
      · rw [e]; decide
      · rw [e]; decide
      · rw [e]; decide
      · rw [e]; decide
      · exact absurd e h97
    have hD : Tk.isDig bs[k] = false := by
      rcases hb with e | e | e | e | e
      · rw [e]; decide
      · rw [e]; decide
      · rw [e]; decide
      · rw [e]; decide
      · exact absurd e h97
    rw [if_neg (by rw [hL]; decide), if_neg (by rw [hD]; decide)]
    unfold Tk.signAt
    have h2 : Tk.signs2.contains ((bs.drop k).take 2) = false := by
      rw [hd]
      cases hd2 : bs.drop (k + 1) with
      | nil =>
        rcases hb with e | e | e | e | e <;> rw [e] <;> decide
      | cons c r =>
        have hcm : dpB c = true := h.all c (List.mem_of_mem_drop (by rw [hd2]; simp))
        rw [show (bs[k] :: c :: r).take 2 = [bs[k], c] from rfl]
        rcases hb with e | e | e | e | e <;> rw [e] <;> rcases dpB_cases hcm with rfl | rfl | rfl | rfl | rfl <;> decide
    have h1 : Tk.signs1.contains ((bs.drop k).take 1) = true := by
      rw [hd, show (bs[k] :: bs.drop (k + 1)).take 1 = [bs[k]] from rfl]
      rcases hb with e | e | e | e | e
      · rw [e]; decide
      · rw [e]; decide
      · rw [e]; decide
      · rw [e]; decide
      · exact absurd e h97
    rw [if_neg (by rw [h2]; intro h; exact absurd h.2 (by decide)), if_pos h1, hd]
    unfold dpTok
    rw [if_neg h97]
    rfl
theorem dpTok_len (b : UInt8) (k : Nat) : (dpTok b k).text.length = 1 := by
  unfold dpTok
  split <;> rfl
/-- the tokens from a place on -/
def dpToks (bs : List UInt8) (k : Nat) : List Tk.Tok := (bs.drop k).zipIdx k |>.map fun p => dpTok p.1 p.2
theorem dp_lexGo {bs : List UInt8} (h : DpT bs) (f : Nat) : ∀ (k : Nat) (acc : List Tk.Tok), k ≤ bs.length → bs.length - k < f → acc.length + (bs.length - k) ≤ 4000 →
    Tk.lexGo f bs k acc = (acc ++ dpToks bs k ++ [⟨5, [], 0, bs.length⟩], bs.length, 0) := by
  induction f with
  | zero => intro k acc _ h1; omega
  | succ f ih =>
    intro k acc hk hf ha
    rw [Tk.lexGo]
    by_cases hlt : k < bs.length
    · rw [if_neg (by omega), dp_tok h k hlt]
      dsimp only
      rw [if_neg (by omega), dpTok_len, dp_sep h, ih (k + 1) _ (by omega) (by omega) (by simp; omega)]
      have hd : bs.drop k = bs[k] :: bs.drop (k + 1) := List.drop_eq_getElem_cons hlt
      have : dpToks bs k = dpTok bs[k] k :: dpToks bs (k + 1) := by
        unfold dpToks
        rw [hd]
        rfl
      rw [this]
      simp
    · have hke : k = bs.length := by omega
      rw [if_pos (by omega)]
      have : dpToks bs k = [] := by
        unfold dpToks
        rw [List.drop_of_length_le (by omega)]
        rfl
      rw [this]
      simp
theorem dp_lex {bs : List UInt8} (h : DpT bs) (hl : bs.length ≤ 4000) : Tk.lex bs = (dpToks bs 0 ++ [⟨5, [], 0, bs.length⟩], bs.length, 0) := by
  unfold Tk.lex
  rw [if_neg (by omega), dp_sep h, dp_lexGo h _ 0 [] (by omega) (by omega) (by simpa using hl)]
  rfl
theorem dpToks_len (bs : List UInt8) : (dpToks bs 0).length = bs.length := by simp [dpToks]
theorem dpToks_at (bs : List UInt8) (k : Nat) (hk : k < bs.length) : (dpToks bs 0)[k]? = some (dpTok bs[k] k) := by
  unfold dpToks
  rw [List.drop_zero, List.getElem?_map, List.getElem?_zipIdx, List.getElem?_eq_getElem hk]
  simp

/-- the text: fs in front, a name, and as many closing parentheses as there are opening ones -/
def dpTxt (fs : List UInt8) : List UInt8 := fs ++ 97 :: List.replicate (fs.count 40) 41
def dpTs (fs : List UInt8) : List Tk.Tok := dpToks (dpTxt fs) 0 ++ [⟨5, [], 0, (dpTxt fs).length⟩]
def DpF (fs : List UInt8) : Prop := ∀ b ∈ fs, b = 40 ∨ b = 45 ∨ b = 33
theorem dpTxt_len (fs : List UInt8) : (dpTxt fs).length = fs.length + 1 + fs.count 40 := by simp [dpTxt]; omega
theorem dpTxt_front (fs : List UInt8) (k : Nat) (hk : k < fs.length) : (dpTxt fs)[k]? = some fs[k] := by
  unfold dpTxt
  rw [List.getElem?_append_left hk, List.getElem?_eq_getElem hk]
theorem dpTxt_mid (fs : List UInt8) : (dpTxt fs)[fs.length]? = some 97 := by
  unfold dpTxt
  rw [List.getElem?_append_right (Nat.le_refl _)]
  simp
theorem dpTxt_back (fs : List UInt8) (k : Nat) (h1 : fs.length < k) (h2 : k < (dpTxt fs).length) : (dpTxt fs)[k]? = some 41 := by
  rw [dpTxt_len] at h2
  unfold dpTxt
  rw [List.getElem?_append_right (by omega), show k - fs.length = (k - fs.length - 1) + 1 by omega, List.getElem?_cons_succ, List.getElem?_replicate, if_pos (by omega)]
theorem dpT_txt {fs : List UInt8} (h : DpF fs) : DpT (dpTxt fs) := by
  refine ⟨?_, ?_⟩
  · intro b hb
    unfold dpTxt at hb
    rw [List.mem_append, List.mem_cons] at hb
    rcases hb with hb | hb | hb
    · rcases h b hb with rfl | rfl | rfl <;> decide
    · rw [hb]; decide
    · rw [(List.mem_replicate.1 hb).2]; decide
  · intro k hk hk' e
    have hkn : k = fs.length := by
      rcases Nat.lt_trichotomy k fs.length with h1 | h1 | h1
      · have := dpTxt_front fs k h1
        rw [List.getElem?_eq_getElem hk, e] at this
        injection this with this
        rcases h fs[k] (List.getElem_mem h1) with h2 | h2 | h2 <;> rw [h2] at this <;> exact absurd this (by decide)
      · exact h1
      · have := dpTxt_back fs k h1 hk
        rw [List.getElem?_eq_getElem hk, e] at this
        injection this with this
        exact absurd this (by decide)
    have := dpTxt_back fs (k + 1) (by omega) hk'
    rw [List.getElem?_eq_getElem hk'] at this
    injection this with this
    rw [this]
    decide
theorem dpTs_len (fs : List UInt8) : (dpTs fs).length = fs.length + 2 + fs.count 40 := by
  unfold dpTs
  rw [List.length_append, dpToks_len, dpTxt_len]
  simp
  omega
theorem dpTs_lex {fs : List UInt8} (h : DpF fs) (hl : fs.length ≤ 1000) : (Tk.lex (dpTxt fs)).1 = dpTs fs := by
  have hc := List.count_le_length (a := (40 : UInt8)) (l := fs)
  rw [dp_lex (dpT_txt h) (by rw [dpTxt_len]; omega)]
  rfl
theorem dpTs_at (fs : List UInt8) (k : Nat) (b : UInt8) (h : (dpTxt fs)[k]? = some b) : (dpTs fs)[k]? = some (dpTok b k) := by
  have hk : k < (dpTxt fs).length := by
    rcases Nat.lt_or_ge k (dpTxt fs).length with h1 | h1
    · exact h1
    · rw [List.getElem?_eq_none h1] at h; cases h
  unfold dpTs
  rw [List.getElem?_append_left (by rw [dpToks_len]; exact hk), dpToks_at _ k hk]
  rw [List.getElem?_eq_getElem hk] at h
  injection h with h
  rw [h]
theorem dpTs_end (fs : List UInt8) : (dpTs fs)[(dpTxt fs).length]? = some ⟨5, [], 0, (dpTxt fs).length⟩ := by
  unfold dpTs
  rw [List.getElem?_append_right (by rw [dpToks_len]; exact Nat.le_refl _), dpToks_len, Nat.sub_self]
  rfl
theorem dp_sgn (fs : List UInt8) (h : DpF fs) (k : Nat) (hk : k < fs.length) : Ps.kindAt (dpTs fs) k = 4 ∧ Ps.sgn (dpTs fs) k = [fs[k]] := by
  have e := dpTs_at fs k _ (dpTxt_front fs k hk)
  have hne : fs[k] ≠ 97 := by
    rcases h fs[k] (List.getElem_mem hk) with h2 | h2 | h2 <;> rw [h2] <;> decide
  unfold dpTok at e
  rw [if_neg hne] at e
  constructor
  · unfold Ps.kindAt; rw [e]
  · unfold Ps.sgn; rw [e]; rfl
theorem dp_mid (fs : List UInt8) : Ps.kindAt (dpTs fs) fs.length = 1 := by
  unfold Ps.kindAt
  rw [dpTs_at fs _ _ (dpTxt_mid fs)]
  rfl
theorem dp_back (fs : List UInt8) (k : Nat) (h1 : fs.length < k) (h2 : k < fs.length + 1 + fs.count 40) : Ps.sgn (dpTs fs) k = [41] := by
  unfold Ps.sgn
  rw [dpTs_at fs _ _ (dpTxt_back fs k h1 (by rw [dpTxt_len]; exact h2))]
  rfl
theorem dp_last (fs : List UInt8) : Ps.kindAt (dpTs fs) (fs.length + 1 + fs.count 40) = 5 ∧ Ps.sgn (dpTs fs) (fs.length + 1 + fs.count 40) = [] := by
  have e := dpTs_end fs
  rw [dpTxt_len] at e
  constructor
  · unfold Ps.kindAt; rw [e]
  · unfold Ps.sgn; rw [e]; rfl
theorem dpTok_kind (b : UInt8) (k : Nat) : (dpTok b k).kind = 1 ∨ (dpTok b k).kind = 4 := by
  unfold dpTok
  split
  · exact .inl rfl
  · exact .inr rfl
theorem dp_wok (fs : List UInt8) : WOk (dpTs fs) := by
  intro k h3
  exfalso
  unfold Ps.kindAt at h3
  unfold dpTs at h3
  rcases Nat.lt_or_ge k (dpTxt fs).length with h1 | h1
  · rw [List.getElem?_append_left (by rw [dpToks_len]; exact h1), dpToks_at _ k h1] at h3
    have h4 : (dpTok (dpTxt fs)[k] k).kind = 3 := h3
    rcases dpTok_kind (dpTxt fs)[k] k with e | e <;> (rw [e] at h4; exact absurd h4 (by decide))
  · rw [List.getElem?_append_right (by rw [dpToks_len]; exact h1)] at h3
    rcases Nat.eq_or_lt_of_le h1 with h2 | h2
    · rw [← h2, dpToks_len, Nat.sub_self] at h3
      have h4 : (5 : Nat) = 3 := h3
      exact absurd h4 (by decide)
    · rw [List.getElem?_eq_none (by rw [dpToks_len]; simp; omega)] at h3
      exact absurd h3 (by decide)
theorem PC_no (ts : List Tk.Tok) (o : Nat) (x : Ex) (k : Nat) (h : Ps.sgn ts k = [] ∨ Ps.sgn ts k = [41]) : Ps.PC ts 1 o x k = .ok x k := by
  refine Ps.PC_stop ts 1 o x k ?_
  rcases h with h | h <;> rw [h] <;> decide
/-- at most 24 deep: an expression -/
theorem dp_ok (fs : List UInt8) (h : DpF fs) (hn : fs.length ≤ 24) (j : Nat) : ∀ k, k + j = fs.length → ∃ x, Ps.PO (dpTs fs) k k = .ok x (fs.length + 1 + (fs.drop k).count 40) := by
  induction j with
  | zero =>
    intro k hk
    have hk' : k = fs.length := by omega
    subst hk'
    rw [Ps.PO_eq, if_neg (by rw [dp_mid]; decide), if_pos (dp_mid fs), List.drop_of_length_le (Nat.le_refl _)]
    exact ⟨_, rfl⟩
  | succ j ih =>
    intro k hk
    have hlt : k < fs.length := by omega
    obtain ⟨hkd, hsg⟩ := dp_sgn fs h k hlt
    obtain ⟨x, hx⟩ := ih (k + 1) (by omega)
    have hd : fs.drop k = fs[k] :: fs.drop (k + 1) := List.drop_eq_getElem_cons hlt
    have hsub : (fs.drop k).count 40 ≤ fs.count 40 := (List.drop_sublist k fs).count_le 40
    rw [Ps.PO_eq, if_neg (by rw [hkd]; decide), if_neg (by rw [hkd]; decide), hsg]
    rcases h fs[k] (List.getElem_mem hlt) with e | e | e
    · rw [hd, e] at hsub
      rw [e, if_neg (by intro h; exact absurd rfl h.2), if_neg (by omega), if_pos (by decide), Ps.PE_eq _ 1 _ _ (by omega), hx]
      rw [List.count_cons_self] at hsub
      have hs := dp_back fs (fs.length + 1 + (fs.drop (k + 1)).count 40) (by omega) (by omega)
      refine ⟨x, ?_⟩
      show (Ps.PC (dpTs fs) 1 (k + 1) x (fs.length + 1 + (fs.drop (k + 1)).count 40)).bind _ = _
      rw [PC_no _ _ _ _ (.inr hs)]
      show (if Ps.sgn (dpTs fs) (fs.length + 1 + (fs.drop (k + 1)).count 40) = [41] then _ else _) = _
      rw [if_pos hs, hd, e, List.count_cons_self]
      rfl
    · rw [e, if_neg (by intro h; exact absurd h.1 (by decide)), if_neg (by omega), if_neg (by decide), hx]
      refine ⟨.mk (Ps.uop [45] : Nat) 0 [] [x], ?_⟩
      rw [hd, e, List.count_cons_of_ne (by decide)]
      rfl
    · rw [e, if_neg (by intro h; exact absurd h.1 (by decide)), if_neg (by omega), if_neg (by decide), hx]
      refine ⟨.mk (Ps.uop [33] : Nat) 0 [] [x], ?_⟩
      rw [hd, e, List.count_cons_of_ne (by decide)]
      rfl
/-- deeper: an error -/
theorem dp_bad (fs : List UInt8) (h : DpF fs) (hn : 24 < fs.length) (j : Nat) : ∀ k, k + j = 24 → Ps.PO (dpTs fs) k k = .bad 24 3 := by
  induction j with
  | zero =>
    intro k hk
    have hk' : k = 24 := by omega
    subst hk'
    obtain ⟨hkd, hsg⟩ := dp_sgn fs h 24 hn
    rw [Ps.PO_eq, if_neg (by rw [hkd]; decide), if_neg (by rw [hkd]; decide), hsg]
    rcases h fs[24] (List.getElem_mem hn) with e | e | e
    · rw [e, if_neg (by intro h; exact absurd rfl h.2), if_pos rfl]
    · rw [e, if_neg (by intro h; exact absurd h.1 (by decide)), if_pos rfl]
    · rw [e, if_neg (by intro h; exact absurd h.1 (by decide)), if_pos rfl]
  | succ j ih =>
    intro k hk
    have hlt : k < fs.length := by omega
    obtain ⟨hkd, hsg⟩ := dp_sgn fs h k hlt
    have hx := ih (k + 1) (by omega)
    rw [Ps.PO_eq, if_neg (by rw [hkd]; decide), if_neg (by rw [hkd]; decide), hsg]
    rcases h fs[k] (List.getElem_mem hlt) with e | e | e
    · rw [e, if_neg (by intro h; exact absurd rfl h.2), if_neg (by omega), if_pos (by decide), Ps.PE_eq _ 1 _ _ (by omega), hx]
      rfl
    · rw [e, if_neg (by intro h; exact absurd h.1 (by decide)), if_neg (by omega), if_neg (by decide), hx]
      rfl
    · rw [e, if_neg (by intro h; exact absurd h.1 (by decide)), if_neg (by omega), if_neg (by decide), hx]
      rfl
/-- the error of such a text -/
theorem dp_parse (fs : List UInt8) (h : DpF fs) : (parseV (dpTs fs) 0).2.2 = if fs.length ≤ 24 then 0 else 3 := by
  have hlen := dpTs_len fs
  have hl := (dp_last fs).1
  unfold parseV
  rw [if_pos ⟨by omega, by omega, by rw [hlen, show fs.length + 2 + fs.count 40 - 1 = fs.length + 1 + fs.count 40 by omega]; exact hl⟩]
  show (Ps.PE (dpTs fs) 1 0 0).err = _
  rw [Ps.PE_eq _ 1 _ _ (by omega)]
  by_cases h24 : fs.length ≤ 24
  · obtain ⟨x, hx⟩ := dp_ok fs h h24 fs.length 0 (by omega)
    rw [hx, if_pos h24]
    show (Ps.PC (dpTs fs) 1 0 x (fs.length + 1 + (fs.drop 0).count 40)).err = 0
    rw [List.drop_zero, PC_no _ _ _ _ (.inl (dp_last fs).2)]
    rfl
  · rw [dp_bad fs h (by omega) 24 0 (by omega), if_neg h24]
    rfl
end Go.Proofs.YtbaenhcmkigfcaaDoor
