/- The texts of tokens, put together with single blanks, as plain functions. No statement of the program is proved in this file. What Text of the reference returns: the texts of all tokens but the ends, separated by single blanks. When two lists of tokens are the same, as a plain word. No statement of the program is proved in this file. What separates tokens does not change them: plain lemmas about Tk.lex. No statement of the program is proved in this file. What Text of package token returns: the texts of all tokens but the ends, separated by single blanks. What the fixed example of the statements about tokens answers: true. What SameTokens of the reference returns for lists with the same Kinds, Texts and Nums, and, if places count, the same Pos: true. What TokenText answers, given what Program of the made inputs returns. Bytes of a block of the call's own, which may be written. No statement of the program is proved in this file. What the comparison of both Lex functions answers for every slice of at most 262144 bytes: true. What TokenChanged answers, given what Program of the made inputs returns. Tokens with what separates them, as TokenSpace puts them one behind the other: plain. No statement of the program is proved in this file. -/
import Derived.Test.YtlnbmmgbfgmboaaQ2
import Derived.Lib.Join
import Derived.Test.YtlnbmmgbfgmboaaShelf
import Derived.Lib.SlBytesConst
import Derived.Deep.QuietTactic
import Derived.BigQuiet
import Derived.Test.YtlnbmmgbfgmboaaQ16
import Derived.Test.YtlnbmmgbfgmboaaRefLexG
import Derived.Deep.RegionHeld3
namespace Go.Proofs.Ytlnbmmgbfgmboaa
open Go.RowKit

/-- the texts of all tokens but the ends -/
def textsOf (ts : List Tk.Tok) : List (List UInt8) := (ts.filter fun t => t.kind != 5).map (·.text)
def textOf (ts : List Tk.Tok) : List UInt8 := Lib.join (textsOf ts) [32]

theorem texts_skip (ts : List Tk.Tok) (k : Nat) (h : k < ts.length) (h5 : ts[k].kind = 5) : textsOf (ts.take (k + 1)) = textsOf (ts.take k) := by
  unfold textsOf
  rw [List.take_succ_eq_append_getElem h, List.filter_append, List.map_append]
  simp only [List.filter_cons, List.filter_nil, h5]
  simp
theorem texts_take (ts : List Tk.Tok) (k : Nat) (h : k < ts.length) (h5 : ts[k].kind ≠ 5) : textsOf (ts.take (k + 1)) = textsOf (ts.take k) ++ [ts[k].text] := by
  unfold textsOf
  rw [List.take_succ_eq_append_getElem h, List.filter_append, List.map_append]
  have : (ts[k].kind != 5) = true := by simpa using h5
  simp only [List.filter_cons, List.filter_nil, this]
  simp
theorem texts_le (ts : List Tk.Tok) (k : Nat) : (textsOf (ts.take k)).length ≤ k := by
  unfold textsOf
  rw [List.length_map]
  exact Nat.le_trans (List.length_filter_le _ _) (by simp; omega)
end Go.Proofs.Ytlnbmmgbfgmboaa

namespace Go.Proofs.Ytlnbmmgbfgmboaa
open Go.RowKit

theorem join_app (xs ys : List (List UInt8)) : (Lib.join xs [32]).length ≤ (Lib.join (xs ++ ys) [32]).length := by
  cases xs with
  | nil => rw [Lib.join_nil]; simp
  | cons x r =>
    rw [List.cons_append, Lib.join_cons, Lib.join_cons]
    unfold Lib.joinTail
    rw [List.map_append, List.flatten_append, List.length_append, List.length_append, List.length_append]
    omega
theorem join_snoc (xs : List (List UInt8)) (y : List UInt8) : Lib.join (xs ++ [y]) [32] = if xs = [] then y else Lib.join xs [32] ++ ([32] ++ y) := by
  cases xs with
  | nil => rw [if_pos rfl, List.nil_append, Lib.join_one]
  | cons x r =>
    rw [if_neg (by simp), List.cons_append, Lib.join_cons, Lib.join_cons]
    unfold Lib.joinTail
    simp
theorem textOf_le (ts : List Tk.Tok) (k : Nat) : (textOf (ts.take k)).length ≤ (textOf ts).length := by
  have h : textsOf ts = textsOf (ts.take k) ++ textsOf (ts.drop k) := by
    unfold textsOf
    rw [← List.map_append, ← List.filter_append, List.take_append_drop]
  unfold textOf
  rw [h]
  exact join_app _ _

set_option maxRecDepth 100000 in
set_option maxHeartbeats 2000000 in
theorem refTextT_any (ts : List Tk.Tok) (A : Option Addr) (cap : Nat) (w : World) (hT : TokS w A ts) (hn : ts.length ≤ 1000000) (hlen : (textOf ts).length ≤ 1000000000) :
    Calls Try.prog 12 #[.slice A ts.length cap] w fun e w' => e = .returned (.string ⟨(textOf ts).toArray⟩) ∧ Below w.heap.size w w' := by
  have HT := Lib.hid hT
  have HL := Lib.hid hlen
  have happ := bapp
  clear hT hlen
  go_enter Try.func12, Try.ntmps12
  go_wp2_with fail
  go_loopw [3, 4, 5] (fun s f i wr => ∃ (k : Nat) (t : List UInt8), k ≤ ts.length ∧ i = .int .i64 k ∧ s = .string ⟨t.toArray⟩ ∧ f = .bool (decide (textsOf (ts.take k) = [])) ∧ Hid (t = textOf (ts.take k)) ∧ Hid (wr = w)) (fun _ _ i _ => ts.length - (intOf i).toNat)
  case atStart => exact ⟨0, [], Nat.zero_le _, rfl, rfl, by simp [textsOf], rfl, rfl⟩
  case round =>
    obtain ⟨k, t, hk, rfl, rfl, rfl, ht, hw⟩ := hrel
    have hw' : wr = w := hw.out
    subst hw'
    by_cases hlt : k < ts.length
    · obtain ⟨b, rfl, c0, c1, -, -⟩ := HT.out k hlt
      have i0 : (0 : Int) ≤ (k : Int) := by omega
      have i1 : (k : Int) < (ts.length : Int) := by omega
      by_cases h5 : ts[k].kind = 5
      · have hk5 : (((ts[k].kind : Nat) : Int) == 5) = true := bT (by omega)
        have HSK := Lib.hid (texts_skip ts k hlt h5)
        clear h5
        go_wp2_with fail
        go_roundw
        case rel =>
          refine ⟨k + 1, t, by omega, by go_num, rfl, ?_, ?_, trivial⟩
          · rw [HSK.out]
          · show _ = _
            rw [ht.out, textOf, textOf, HSK.out]
        case measure => simp [intOf]; omega
      · have hk5 : (((ts[k].kind : Nat) : Int) == 5) = false := bF (by omega)
        have HSK := Lib.hid (texts_take ts k hlt h5)
        have hle := textOf_le ts (k + 1)
        have hL := HL.out
        have HTK : Hid (textOf (ts.take (k + 1)) = if textsOf (ts.take k) = [] then ts[k].text else textOf (ts.take k) ++ ([32] ++ ts[k].text)) := by
          show _ = _
          unfold textOf
          rw [HSK.out, join_snoc]
        have HNE : Hid (decide (textsOf (ts.take (k + 1)) = []) = false) := by
          show _ = _
          rw [HSK.out]
          simp
        clear h5
        by_cases he : textsOf (ts.take k) = []
        · have hd : decide (textsOf (ts.take k) = []) = true := decide_eq_true he
          have ht0 : t = [] := by rw [ht.out, textOf, he]; rfl
          subst ht0
          have hT1 := HTK.out
          rw [if_pos he] at hT1
          have HT1 := Lib.hid hT1
          have hl1 : ts[k].text.length ≤ 1000000000 := by rw [hT1] at hle; omega
          rw [hd]
          clear he hT1 hle hL hd
          go_wp2_with fail
          go_roundw
          case rel =>
            refine ⟨k + 1, ts[k].text, by omega, by go_num, rfl, ?_, ?_, trivial⟩
            · rw [HNE.out]
            · show _ = _
              rw [HT1.out]
          case measure => simp [intOf]; omega
        · have hd : decide (textsOf (ts.take k) = []) = false := decide_eq_false he
          have hT1 := HTK.out
          rw [if_neg he, ← ht.out] at hT1
          have HT1 := Lib.hid hT1
          have hl1 : t.length + (1 + ts[k].text.length) ≤ 1000000000 := by rw [hT1] at hle; simp at hle; omega
          rw [hd]
          clear he hT1 hle hL hd
          go_wp2_with fail
          go_roundw
          case rel =>
            refine ⟨k + 1, t ++ ([32] ++ ts[k].text), by omega, by go_num, ?_, ?_, ?_, trivial⟩
            · simp
            · rw [HNE.out]
            · show _ = _
              rw [HT1.out]
          case measure => simp [intOf]; omega
    · have i1 : ¬ (k : Int) < (ts.length : Int) := by omega
      have HTE : Hid (t = textOf ts) := by show _ = _; rw [ht.out, List.take_of_length_le (by omega)]
      go_wp2_with fail
      go_ret
      exact ⟨by rw [HTE.out]; rfl, Below.refl _ _⟩
end Go.Proofs.Ytlnbmmgbfgmboaa

namespace Go.Proofs.Ytlnbmmgbfgmboaa

def SameT (p : Bool) (ts us : List Tk.Tok) : Prop :=
  us.length = ts.length ∧ ∀ i (h : i < ts.length) (h' : i < us.length), us[i].kind = ts[i].kind ∧ us[i].text = ts[i].text ∧ us[i].num = ts[i].num ∧ (p = true → us[i].pos = ts[i].pos)
theorem SameT.refl (p : Bool) (ts : List Tk.Tok) : SameT p ts ts := ⟨rfl, fun _ _ _ => ⟨rfl, rfl, rfl, fun _ => rfl⟩⟩
end Go.Proofs.Ytlnbmmgbfgmboaa

namespace Go.Proofs.Ytlnbmmgbfgmboaa

/-- what may follow a token: nothing, or a byte that separates -/
def Aft (r : List UInt8) : Prop := r = [] ∨ ∃ c r', r = c :: r' ∧ (c.toNat = 32 ∨ c.toNat = 9 ∨ c.toNat = 13 ∨ c.toNat = 10)
/-- a token that is read again wherever its text stands before a separator -/
structure Good (t : Tk.Tok) : Prop where
  ne : t.text ≠ []
  again : ∀ (pre r : List UInt8), Aft r → Tk.tokAt (pre ++ (t.text ++ r)) pre.length = .ok { t with pos := pre.length }
  stop : ∀ r, Aft r → Tk.sepLen false (t.text ++ r) = 0

theorem takeWhile_aft (p : UInt8 → Bool) (s r : List UInt8) (hs : ∀ c ∈ s, p c = true) (hr : Aft r) (hp : ∀ c : UInt8, (c.toNat = 32 ∨ c.toNat = 9 ∨ c.toNat = 13 ∨ c.toNat = 10) → p c = false) : (s ++ r).takeWhile p = s := by
  induction s with
  | nil =>
    rcases hr with rfl | ⟨c, r', rfl, hc⟩
    · rfl
    · rw [List.nil_append, List.takeWhile_cons, if_neg (by simp [hp c hc])]
  | cons a s ih =>
    rw [List.cons_append, List.takeWhile_cons, if_pos (hs a (by simp)), ih (fun c hc => hs c (by simp [hc]))]
theorem drop_pre (pre s : List UInt8) : (pre ++ s).drop pre.length = s := by simp
theorem getD_pre (pre : List UInt8) (c : UInt8) (s : List UInt8) : (pre ++ c :: s).getD pre.length 0 = c := by simp [List.getD]
theorem takeWhile_mem (p : UInt8 → Bool) (s : List UInt8) : ∀ c ∈ s.takeWhile p, p c = true := by
  induction s with
  | nil => simp
  | cons a r ih =>
    rw [List.takeWhile_cons]
    split
    · rename_i h
      intro c hc
      rcases List.mem_cons.1 hc with rfl | hc
      · exact h
      · exact ih c hc
    · simp
theorem ld_spc (c : UInt8) (h : c.toNat = 32 ∨ c.toNat = 9 ∨ c.toNat = 13 ∨ c.toNat = 10) : Tk.isLD c = false ∧ Tk.isDig c = false := by
  unfold Tk.isLD Tk.isLet Tk.isDig
  rcases h with h | h | h | h <;> simp [h]
theorem sep_ld (c : UInt8) (s : List UInt8) (h : Tk.isLD c = true) : Tk.sepLen false (c :: s) = 0 := by
  have h1 : Tk.isSpc c = false ∧ c.toNat ≠ 47 := by
    unfold Tk.isLD Tk.isLet Tk.isDig at h
    unfold Tk.isSpc
    simp at h ⊢
    omega
  rw [Tk.sepLen_f, if_neg (by simp [h1.1]), if_neg (fun h => h1.2 h.1)]

theorem good_name (l : List UInt8) (k : Nat) (t : Tk.Tok) (hk : k < l.length) (hL : Tk.isLet l[k] = true) (h : Tk.nameAt l k = .ok t) : Good t := by
  have hd : l.drop k = l[k] :: l.drop (k + 1) := List.drop_eq_getElem_cons hk
  have hLD : Tk.isLD l[k] = true := by simp [Tk.isLD, hL]
  have hx : (l.drop k).takeWhile Tk.isLD = l[k] :: (l.drop (k + 1)).takeWhile Tk.isLD := by rw [hd, List.takeWhile_cons, if_pos hLD]
  have hall := takeWhile_mem Tk.isLD (l.drop k)
  unfold Tk.nameAt at h
  dsimp only at h
  split at h
  · cases h
  · rename_i h16
    injection h with h
    subst h
    rw [hx] at hall h16
    refine ⟨by rw [hx]; simp, ?_, ?_⟩
    · intro pre r hr
      dsimp only
      rw [hx]
      have htw := takeWhile_aft Tk.isLD _ r hall hr (fun c hc => (ld_spc c hc).1)
      unfold Tk.tokAt
      rw [List.cons_append, getD_pre, if_pos hL]
      unfold Tk.nameAt
      rw [drop_pre]
      rw [List.cons_append] at htw
      rw [htw]
      dsimp only
      rw [if_neg h16]
    · intro r _
      dsimp only
      rw [hx, List.cons_append]
      exact sep_ld _ _ hLD
theorem good_num (l : List UInt8) (k : Nat) (t : Tk.Tok) (hk : k < l.length) (hL : Tk.isLet l[k] = false) (hD : Tk.isDig l[k] = true) (h : Tk.numAt l k = .ok t) : Good t := by
  have hd : l.drop k = l[k] :: l.drop (k + 1) := List.drop_eq_getElem_cons hk
  have hLD : Tk.isLD l[k] = true := by simp [Tk.isLD, hD]
  have hx : (l.drop k).takeWhile Tk.isDig = l[k] :: (l.drop (k + 1)).takeWhile Tk.isDig := by rw [hd, List.takeWhile_cons, if_pos hD]
  have hall := takeWhile_mem Tk.isDig (l.drop k)
  unfold Tk.numAt at h
  dsimp only at h
  split at h
  · cases h
  · rename_i v hv
    injection h with h
    subst h
    rw [hx] at hall hv
    refine ⟨by rw [hx]; simp, ?_, ?_⟩
    · intro pre r hr
      dsimp only
      rw [hx]
      have htw := takeWhile_aft Tk.isDig _ r hall hr (fun c hc => (ld_spc c hc).2)
      unfold Tk.tokAt
      rw [List.cons_append, getD_pre, if_neg (by simp [hL]), if_pos hD]
      unfold Tk.numAt
      rw [drop_pre]
      rw [List.cons_append] at htw
      rw [htw]
      dsimp only
      rw [hv]
    · intro r _
      dsimp only
      rw [hx, List.cons_append]
      exact sep_ld _ _ hLD
theorem sign_facts2 (s : List UInt8) (h : Tk.signs2.contains s = true) : ∃ a b, s = [a, b] ∧ Tk.isLet a = false ∧ Tk.isDig a = false ∧ Tk.isSpc a = false ∧ a.toNat ≠ 47 := by
  simp [Tk.signs2] at h
  rcases h with rfl | rfl | rfl | rfl | rfl | rfl <;> exact ⟨_, _, rfl, by decide, by decide, by decide, by decide⟩
theorem sign_facts1 (s : List UInt8) (h : Tk.signs1.contains s = true) : ∃ a, s = [a] ∧ Tk.isLet a = false ∧ Tk.isDig a = false ∧ Tk.isSpc a = false := by
  simp [Tk.signs1] at h
  rcases h with rfl | rfl | rfl | rfl | rfl | rfl | rfl | rfl | rfl | rfl | rfl | rfl | rfl | rfl | rfl | rfl | rfl <;> exact ⟨_, rfl, by decide, by decide, by decide⟩
theorem sign_not2 (a c : UInt8) (hc : c.toNat = 32 ∨ c.toNat = 9 ∨ c.toNat = 13 ∨ c.toNat = 10) : Tk.signs2.contains [a, c] = false := by
  have h1 : c ≠ 61 ∧ c ≠ 38 ∧ c ≠ 124 := by
    refine ⟨?_, ?_, ?_⟩ <;> (rintro rfl; revert hc; decide)
  simp [Tk.signs2, h1]
theorem good_sign (l : List UInt8) (k : Nat) (t : Tk.Tok) (h : Tk.signAt l k = .ok t) : Good t := by
  unfold Tk.signAt at h
  split at h
  · rename_i h2
    injection h with h
    subst h
    obtain ⟨a, b, e, hL, hD, hS, h47⟩ := sign_facts2 _ h2.2
    have hc := h2.2
    rw [e] at hc
    refine ⟨by rw [e]; simp, ?_, ?_⟩
    · intro pre r hr
      dsimp only
      rw [e]
      unfold Tk.tokAt
      rw [List.cons_append, getD_pre, if_neg (by simp [hL]), if_neg (by simp [hD])]
      unfold Tk.signAt
      rw [drop_pre]
      have ht : (a :: ([b] ++ r)).take 2 = [a, b] := rfl
      rw [ht, if_pos ⟨by simp, hc⟩]
    · intro r _
      dsimp only
      rw [e, List.cons_append, Tk.sepLen_f, if_neg (by simp [hS]), if_neg (fun h => h47 h.1)]
  · split at h
    · rename_i h1
      injection h with h
      subst h
      obtain ⟨a, e, hL, hD, hS⟩ := sign_facts1 _ h1
      rw [e] at h1
      refine ⟨by rw [e]; simp, ?_, ?_⟩
      · intro pre r hr
        dsimp only
        rw [e]
        unfold Tk.tokAt
        rw [List.cons_append, getD_pre, if_neg (by simp [hL]), if_neg (by simp [hD])]
        unfold Tk.signAt
        rw [drop_pre]
        have ht : (a :: ([] ++ r)).take 1 = [a] := rfl
        rw [ht]
        have h2 : ¬ (pre.length + 2 ≤ (pre ++ a :: ([] ++ r)).length ∧ Tk.signs2.contains ((a :: ([] ++ r)).take 2) = true) := by
          rintro ⟨g1, g2⟩
          rcases hr with rfl | ⟨c, r', rfl, hc⟩
          · simp at g1
          · have : (a :: ([] ++ c :: r')).take 2 = [a, c] := rfl
            rw [this, sign_not2 a c hc] at g2
            cases g2
        rw [if_neg h2, if_pos h1]
      · intro r hr
        dsimp only
        rw [e, List.cons_append, Tk.sepLen_f, if_neg (by simp [hS]), if_neg]
        rintro ⟨_, g⟩
        rcases hr with rfl | ⟨c, r', rfl, hc⟩
        · simp at g
        · simp at g
          omega
    · cases h
theorem tok_kind (l : List UInt8) (k : Nat) (t : Tk.Tok) (h : Tk.tokAt l k = .ok t) : t.kind ≠ 5 := by
  unfold Tk.tokAt at h
  split at h
  · unfold Tk.nameAt at h
    dsimp only at h
    split at h
    · cases h
    · injection h with h
      subst h
      dsimp only
      split <;> omega
  · split at h
    · unfold Tk.numAt at h
      dsimp only at h
      split at h
      · cases h
      · injection h with h
        subst h
        dsimp only
        omega
    · unfold Tk.signAt at h
      split at h
      · injection h with h
        subst h
        dsimp only
        omega
      · split at h
        · injection h with h
          subst h
          dsimp only
          omega
        · cases h
theorem good_tok (l : List UInt8) (k : Nat) (t : Tk.Tok) (hk : k < l.length) (h : Tk.tokAt l k = .ok t) : Good t := by
  have hg : l.getD k 0 = l[k] := by simp [List.getD, List.getElem?_eq_getElem hk]
  unfold Tk.tokAt at h
  rw [hg] at h
  split at h
  · exact good_name l k t hk (by assumption) h
  · split at h
    · rename_i h1 h2
      exact good_num l k t hk (by simpa using h1) h2 h
    · exact good_sign l k t h

/-- all tokens that Lex finds are good, and there are not too many -/
theorem lexGo_good (l : List UInt8) (f : Nat) : ∀ (k : Nat) (acc : List Tk.Tok), k ≤ l.length → l.length - k < f → acc.length ≤ 4000 → (∀ t ∈ acc, Good t ∧ t.kind ≠ 5) → (Tk.lexGo f l k acc).2.2 = 0 →
    ∃ ts, Tk.lexGo f l k acc = (ts ++ [⟨5, [], 0, l.length⟩], l.length, 0) ∧ (∀ t ∈ ts, Good t ∧ t.kind ≠ 5) ∧ ts.length ≤ 4000 := by
  induction f with
  | zero => intro k acc _ h; omega
  | succ f ih =>
    intro k acc hk hf ha hg h0
    by_cases hlt : k < l.length
    · cases ht : Tk.tokAt l k with
      | error e =>
        rw [lexGo_err f l k e acc hlt ht] at h0
        have := tok_err l k e ht
        dsimp only at h0
        omega
      | ok t =>
        by_cases hn : acc.length = 4000
        · rw [lexGo_many f l k acc t hlt ht hn] at h0
          cases h0
        · rw [lexGo_step f l k acc t hlt ht hn] at h0 ⊢
          obtain ⟨hp, hle, _⟩ := tok_ok l k t hlt ht
          have hs : k + t.text.length ≤ Tk.skipTo l (k + t.text.length) := by unfold Tk.skipTo; omega
          refine ih _ _ (Tk.skipTo_le l _ hle) (by omega) (by simp; omega) ?_ h0
          intro u hu
          rcases List.mem_append.1 hu with hu | hu
          · exact hg u hu
          · rw [List.mem_singleton.1 hu]
            exact ⟨good_tok l k t hlt ht, tok_kind l k t ht⟩
    · exact ⟨acc, lexGo_end f l k acc (by omega), hg, ha⟩
theorem lex_good (l : List UInt8) (h0 : (Tk.lex l).2.2 = 0) : ∃ ts, Tk.lex l = (ts ++ [⟨5, [], 0, l.length⟩], l.length, 0) ∧ (∀ t ∈ ts, Good t ∧ t.kind ≠ 5) ∧ ts.length ≤ 4000 ∧ l.length ≤ 262144 := by
  by_cases hl : l.length > 262144
  · unfold Tk.lex at h0
    rw [if_pos hl] at h0
    cases h0
  · have e : Tk.lex l = Tk.lexGo (l.length + 1) l (Tk.skipTo l 0) [] := by unfold Tk.lex; rw [if_neg hl]
    rw [e] at h0 ⊢
    obtain ⟨ts, h1, h2, h3⟩ := lexGo_good l (l.length + 1) (Tk.skipTo l 0) [] (Tk.skipTo_le l 0 (by omega)) (by omega) (by simp) (by simp) h0
    exact ⟨ts, h1, h2, h3, by omega⟩

/-- bytes that only separate -/
def SepOk (s : List UInt8) : Prop := ∀ tail, Tk.sepLen false (s ++ tail) = s.length + Tk.sepLen false tail
theorem SepOk.nil : SepOk [] := fun tail => by simp
theorem SepOk.app {s r : List UInt8} (h : SepOk s) (h' : SepOk r) : SepOk (s ++ r) := fun tail => by
  rw [List.append_assoc, h, h', List.length_append]
  omega
theorem SepOk.spc (c : UInt8) (hc : Tk.isSpc c = true) : SepOk [c] := fun tail => by
  rw [List.cons_append, Tk.sepLen_f, if_pos hc]
  simp
  omega

/-- tokens, each with what separates it from the next one -/
def spaced : List (Tk.Tok × List UInt8) → List UInt8
  | [] => []
  | p :: r => p.1.text ++ (p.2 ++ spaced r)
/-- every token but the last one is followed by a separator -/
def Spaced : List (Tk.Tok × List UInt8) → Prop
  | [] => True
  | p :: r => Good p.1 ∧ SepOk p.2 ∧ Aft (p.2 ++ spaced r) ∧ Spaced r
def SameTok (t u : Tk.Tok) : Prop := u.kind = t.kind ∧ u.text = t.text ∧ u.num = t.num

theorem spaced_stop (ps : List (Tk.Tok × List UInt8)) (h : Spaced ps) : Tk.sepLen false (spaced ps) = 0 := by
  cases ps with
  | nil => rfl
  | cons p r => exact h.1.stop _ h.2.2.1
theorem relex_go (ps : List (Tk.Tok × List UInt8)) : ∀ (f : Nat) (acc : List Tk.Tok) (pre : List UInt8), Spaced ps → acc.length + ps.length ≤ 4000 → ps.length < f →
    ∃ us, Tk.lexGo f (pre ++ spaced ps) pre.length acc = (acc ++ us ++ [⟨5, [], 0, (pre ++ spaced ps).length⟩], (pre ++ spaced ps).length, 0) ∧ us.length = ps.length ∧ ∀ i (h : i < ps.length) (h' : i < us.length), SameTok ps[i].1 us[i] := by
  induction ps with
  | nil =>
    intro f acc pre _ _ hf
    obtain ⟨f, rfl⟩ : ∃ g, f = g + 1 := ⟨f - 1, by omega⟩
    refine ⟨[], ?_, rfl, fun i h => absurd h (by simp)⟩
    rw [lexGo_end f _ _ _ (by simp [spaced])]
    simp
  | cons p r ih =>
    intro f acc pre hS ha hf
    obtain ⟨hG, hO, hA, hR⟩ := hS
    obtain ⟨f, rfl⟩ : ∃ g, f = g + 1 := ⟨f - 1, by omega⟩
    have ht := hG.again pre (p.2 ++ spaced r) hA
    have hne : 0 < p.1.text.length := List.length_pos_iff.2 hG.ne
    have hlt : pre.length < (pre ++ spaced (p :: r)).length := by simp [spaced]; omega
    have hstep := lexGo_step f (pre ++ spaced (p :: r)) pre.length acc { p.1 with pos := pre.length } hlt ht (by simp at ha; omega)
    have hskip : Tk.skipTo (pre ++ spaced (p :: r)) (pre.length + p.1.text.length) = (pre ++ (p.1.text ++ p.2)).length := by
      unfold Tk.skipTo
      have hd : (pre ++ spaced (p :: r)).drop (pre.length + p.1.text.length) = p.2 ++ spaced r := by
        rw [spaced, ← List.drop_drop]
        simp
      rw [hd, hO, spaced_stop r hR]
      simp
      omega
    have e : pre ++ spaced (p :: r) = (pre ++ (p.1.text ++ p.2)) ++ spaced r := by rw [spaced]; simp
    obtain ⟨us, h1, h2, h3⟩ := ih f (acc ++ [{ p.1 with pos := pre.length }]) (pre ++ (p.1.text ++ p.2)) hR (by simp at ha ⊢; omega) (by simp at hf; omega)
    refine ⟨{ p.1 with pos := pre.length } :: us, ?_, by simp [h2], ?_⟩
    · rw [hstep]
      dsimp only
      rw [hskip]
      rw [← e] at h1
      rw [h1]
      simp
    · intro i h h'
      cases i with
      | zero => exact ⟨rfl, rfl, rfl⟩
      | succ i => exact h3 i (by simpa using h) (by simpa using h')
/-- what separates tokens does not change them -/
theorem relex (ps : List (Tk.Tok × List UInt8)) (hS : Spaced ps) (hn : ps.length ≤ 4000) (hl : (spaced ps).length ≤ 262144) :
    ∃ us, Tk.lex (spaced ps) = (us ++ [⟨5, [], 0, (spaced ps).length⟩], (spaced ps).length, 0) ∧ us.length = ps.length ∧ ∀ i (h : i < ps.length) (h' : i < us.length), SameTok ps[i].1 us[i] := by
  have hpl : ps.length ≤ (spaced ps).length := by
    clear hn hl
    induction ps with
    | nil => simp
    | cons p r ih =>
      have := ih hS.2.2.2
      have hne : 0 < p.1.text.length := List.length_pos_iff.2 hS.1.ne
      simp [spaced]
      omega
  have h := relex_go ps ((spaced ps).length + 1) [] [] hS (by simp; omega) (by omega)
  simp only [List.nil_append, List.length_nil] at h
  have e : Tk.lex (spaced ps) = Tk.lexGo ((spaced ps).length + 1) (spaced ps) 0 [] := by
    unfold Tk.lex
    rw [if_neg (by omega)]
    have : Tk.skipTo (spaced ps) 0 = 0 := by
      unfold Tk.skipTo
      rw [List.drop_zero, spaced_stop ps hS]
    rw [this]
  rw [e]
  exact h

/-- tokens with single blanks between them -/
def pairs : List Tk.Tok → List (Tk.Tok × List UInt8)
  | [] => []
  | [t] => [(t, [])]
  | t :: u :: r => (t, [32]) :: pairs (u :: r)
theorem pairs_len (ts : List Tk.Tok) : (pairs ts).length = ts.length := by
  induction ts with
  | nil => rfl
  | cons t r ih =>
    cases r with
    | nil => rfl
    | cons u r => simp [pairs, ih]
theorem pairs_at (ts : List Tk.Tok) (i : Nat) (h : i < ts.length) (h' : i < (pairs ts).length) : ((pairs ts)[i]).1 = ts[i] := by
  induction ts generalizing i with
  | nil => simp at h
  | cons t r ih =>
    cases r with
    | nil =>
      have : i = 0 := by simpa using h
      subst this
      rfl
    | cons u r =>
      cases i with
      | zero => rfl
      | succ i => exact ih i (by simpa using h) (by rw [pairs_len] at h' ⊢; simpa using h')
theorem pairs_spaced (ts : List Tk.Tok) (h : ∀ t ∈ ts, Good t) : Spaced (pairs ts) := by
  induction ts with
  | nil => exact trivial
  | cons t r ih =>
    cases r with
    | nil => exact ⟨h t (by simp), SepOk.nil, .inl rfl, trivial⟩
    | cons u r => exact ⟨h t (by simp), SepOk.spc 32 (by decide), .inr ⟨32, _, rfl, .inl rfl⟩, ih (fun x hx => h x (by simp [hx]))⟩
theorem join_spaced (ts : List Tk.Tok) : Lib.join (ts.map (·.text)) [32] = spaced (pairs ts) := by
  induction ts with
  | nil => rfl
  | cons t r ih =>
    cases r with
    | nil => simp [pairs, spaced, Lib.join_one]
    | cons u r =>
      rw [List.map_cons] at ih
      rw [List.map_cons, List.map_cons, Lib.join_cons]
      rw [Lib.join_cons] at ih
      simp only [pairs, spaced]
      rw [← ih]
      simp [Lib.joinTail]
/-- the texts of the tokens together -/
def sumLen (ts : List Tk.Tok) : Nat := (ts.map fun t => t.text.length).sum
theorem spaced_len (ts : List Tk.Tok) : (spaced (pairs ts)).length ≤ sumLen ts + ts.length := by
  induction ts with
  | nil => simp [pairs, spaced]
  | cons t r ih =>
    cases r with
    | nil => simp [pairs, spaced, sumLen]
    | cons u r =>
      simp only [pairs, spaced, sumLen, List.map_cons, List.sum_cons, List.length_append, List.length_cons] at ih ⊢
      simp only [List.length_nil]
      omega
theorem lexGo_sum (l : List UInt8) (f : Nat) : ∀ (k : Nat) (acc : List Tk.Tok), k ≤ l.length → sumLen acc ≤ k → sumLen (Tk.lexGo f l k acc).1 ≤ l.length := by
  induction f with
  | zero => intro k acc _ _; simp [Tk.lexGo, sumLen]
  | succ f ih =>
    intro k acc hk hs
    by_cases hlt : k < l.length
    · cases ht : Tk.tokAt l k with
      | error e => rw [lexGo_err f l k e acc hlt ht]; simp [sumLen]
      | ok t =>
        by_cases hn : acc.length = 4000
        · rw [lexGo_many f l k acc t hlt ht hn]; simp [sumLen]
        · rw [lexGo_step f l k acc t hlt ht hn]
          obtain ⟨hp, hle, _⟩ := tok_ok l k t hlt ht
          have hsk : k + t.text.length ≤ Tk.skipTo l (k + t.text.length) := by unfold Tk.skipTo; omega
          refine ih _ _ (Tk.skipTo_le l _ hle) ?_
          simp [sumLen] at hs ⊢
          omega
    · rw [lexGo_end f l k acc (by omega)]
      simp [sumLen] at hs ⊢
      omega
theorem lex_sum (l : List UInt8) : sumLen (Tk.lex l).1 ≤ l.length := by
  unfold Tk.lex
  split
  · simp [sumLen]
  · exact lexGo_sum l _ _ [] (Tk.skipTo_le l 0 (by omega)) (by simp [sumLen])
theorem texts_good (ts : List Tk.Tok) (n : Nat) (h : ∀ t ∈ ts, t.kind ≠ 5) : textsOf (ts ++ [⟨5, [], 0, n⟩]) = ts.map (·.text) := by
  unfold textsOf
  rw [List.filter_append, List.filter_eq_self.2 (fun t ht => by simpa using h t ht)]
  simp
/-- Lex of Text of the tokens of a text returns the same tokens -/
theorem text_again (l : List UInt8) (h0 : (Tk.lex l).2.2 = 0) (hb : l.length ≤ 258000) :
    (textOf (Tk.lex l).1).length ≤ 262144 ∧ (Tk.lex (textOf (Tk.lex l).1)).2.2 = 0 ∧ SameT false (Tk.lex l).1 (Tk.lex (textOf (Tk.lex l).1)).1 := by
  obtain ⟨ts, e, hg, hn, _⟩ := lex_good l h0
  have hsum := lex_sum l
  rw [e] at hsum ⊢
  dsimp only at hsum ⊢
  have ht : textOf (ts ++ [⟨5, [], 0, l.length⟩]) = spaced (pairs ts) := by
    unfold textOf
    rw [texts_good ts _ (fun t h => (hg t h).2), join_spaced]
  have hs2 : sumLen ts ≤ l.length := by
    simp [sumLen] at hsum ⊢
    omega
  have hlen := spaced_len ts
  rw [ht]
  obtain ⟨us, h1, h2, h3⟩ := relex (pairs ts) (pairs_spaced ts (fun t h => (hg t h).1)) (by rw [pairs_len]; exact hn) (by omega)
  rw [pairs_len] at h2
  refine ⟨by omega, by rw [h1], ?_⟩
  rw [h1]
  refine ⟨by simp [h2], fun i hi hi' => ?_⟩
  by_cases hit : i < ts.length
  · have hs := h3 i (by rw [pairs_len]; exact hit) (by omega)
    rw [pairs_at ts i hit] at hs
    rw [List.getElem_append_left hit, List.getElem_append_left (by omega)]
    exact ⟨hs.1, hs.2.1, hs.2.2, fun h => by cases h⟩
  · have hi2 : i = ts.length := by simp at hi; omega
    subst hi2
    rw [List.getElem_append_right (by omega), List.getElem_append_right (by omega)]
    simp [h2]

end Go.Proofs.Ytlnbmmgbfgmboaa

namespace Go.Proofs.Ytlnbmmgbfgmboaa
open Go.RowKit

theorem join_own (xs : List (List UInt8)) (A : Option Addr) (c base : Nat) (w : World) (h : w.ownsRow base 9 1 (.slice A xs.length c) xs.length (xs.map fun s => Value.string ⟨s.toArray⟩)) (hn : xs.length ≤ 1000000) (hlen : (Lib.join xs [32]).length ≤ 1000000000) :
    Calls Try.prog 22 #[.slice A xs.length c, .string ⟨#[32]⟩] w fun e w' => e = .returned (.string ⟨(Lib.join xs [32]).toArray⟩) ∧ Below w.heap.size w w' := by
  by_cases h0 : xs = []
  · subst h0
    refine (Try.strings_Join_none A c ⟨#[32]⟩ w).mono ?_
    rintro e w' ⟨rfl, rfl⟩
    exact ⟨rfl, Below.refl _ _⟩
  · have hpos : 0 < xs.length := List.length_pos_iff.2 h0
    have h' := h
    obtain ⟨_, h2⟩ := h'
    rcases h2 with ⟨_, hz⟩ | ⟨g, cap, cur, e, _, hh, hcap, _⟩
    · omega
    · injection e with e1 _ e3
      subst e1 e3
      have hmap : (xs.map fun s => (⟨s.toArray⟩ : ByteArray)).map (·.data.toList) = xs := by
        rw [List.map_map]
        exact (List.map_congr_left (g := id) (fun a _ => by simp)).trans (List.map_id xs)
      have hl' : (xs.map fun s => (⟨s.toArray⟩ : ByteArray)).length = xs.length := by simp
      have hj := Try.strings_Join g 0 c (xs.map fun s => (⟨s.toArray⟩ : ByteArray)) ⟨#[32]⟩ w (by
        intro j x hx
        have hjl : j < xs.length := by
          have := (List.getElem?_eq_some_iff.1 hx).1
          simpa using this
        have := World.ownsRow.cellAt h j (by omega)
        rw [Nat.zero_add, this]
        simp [List.getElem?_eq_getElem hjl] at hx ⊢
        exact hx) (lt_of_block hh) (by rw [hl']; omega) (by rw [hl']; exact hcap) (by rw [hmap]; exact Nat.le_trans hlen (by omega))
      rw [hmap, hl'] at hj
      exact hj

set_option maxRecDepth 100000 in
set_option maxHeartbeats 1000000 in
theorem text_any (ts : List Tk.Tok) (A : Option Addr) (cap : Nat) (w : World) (hT : TokS w A ts) (hn : ts.length ≤ 1000000) (hlen : (textOf ts).length ≤ 1000000000) :
    Calls Try.prog 11 #[.slice A ts.length cap] w fun e w' => e = .returned (.string ⟨(textOf ts).toArray⟩) ∧ Below w.heap.size w w' := by
  obtain ⟨i0, hi, hz0, hz1, hz2⟩ := info_parts Try.infoStr
  have HT := Lib.hid hT
  have HL := Lib.hid hlen
  clear hT hlen
  go_enter Try.func11, Try.ntmps11
  go_wp2
  go_loopw [3, 5, 8] (fun v _ i wr => ∃ k : Nat, k ≤ ts.length ∧ i = .int .i64 k ∧ wr.ownsRow w.heap.size 9 1 v (textsOf (ts.take k)).length ((textsOf (ts.take k)).map fun s => Value.string ⟨s.toArray⟩) ∧ Below w.heap.size w wr)
    (fun _ _ i _ => ts.length - (intOf i).toNat)
  case atStart => exact ⟨0, Nat.zero_le _, rfl, World.ownsRow_nil _ _ _ _, Below.refl _ _⟩
  case round =>
    obtain ⟨k, hk, rfl, hown, hbel⟩ := hrel
    have HO := Lib.hid hown
    have HBE := Lib.hid hbel
    clear hown hbel
    by_cases hlt : k < ts.length
    · obtain ⟨b, rfl, h0, h1, h2, h3⟩ := HT.out.later HBE.out k hlt
      obtain ⟨sa, sc, rfl⟩ := owns_form HO.out
      have hle := texts_le ts k
      by_cases h5 : ts[k].kind = 5
      · have t5 := nF (show ((ts[k].kind : Nat) : Int) = 5 by omega)
        have HX := Lib.hid (texts_skip ts k hlt h5)
        clear h5
        go_wp2
        go_roundw
        case rel => exact ⟨k + 1, by omega, by go_num, by rw [HX.out]; exact HO.out.alloc _, HBE.out.alloc HBE.out.size _⟩
        case measure => simp [intOf]; omega
      · have t5 := nT (show ((ts[k].kind : Nat) : Int) ≠ 5 by omega)
        have HX := Lib.hid (texts_take ts k hlt h5)
        clear h5
        go_wp2_with (first | (at_builtin; refine wpList_append_own _ rfl (.tmp 15) (.tmp 18) 42 rfl w.heap.size 9 i0 _ 1 16 Try.underlying42 hi hz0 hz1 hz2 rfl (by decide) _ (textsOf (ts.take k)).length ((textsOf (ts.take k)).map fun s => Value.string ⟨s.toArray⟩) rfl ((HO.out.alloc _).alloc _) ⟨wr.heap.size + 1, 0, none⟩ 1 1 [.string ⟨ts[k].text.toArray⟩] rfl rfl (news_one (wr.alloc _) (wr.heap.size + 1) (by simp) _ _) (one_one _) (by unfold maxLen; omega) (by omega) (by have := HBE.out.size; simp; omega) ?_))
        intro v' w5 hown' hgrow _
        have hbel5 := grown_two HO.out HBE.out hgrow
        have HO' := Lib.hid hown'
        have HBE' := Lib.hid hbel5
        clear hown' hgrow hbel5
        go_wp2
        go_roundw
        case rel =>
          refine ⟨k + 1, by omega, by go_num, ?_, HBE'.out⟩
          rw [HX.out]
          simpa using HO'.out
        case measure => simp [intOf]; omega
    · have ht : ts.take k = ts := List.take_of_length_le (by omega)
      obtain ⟨sa, sc, rfl⟩ := owns_form HO.out
      have hle := texts_le ts k
      have HJ := Lib.hid (join_own (textsOf (ts.take k)) sa sc w.heap.size wr HO.out (by omega) (by rw [ht]; exact HL.out))
      have HTK := Lib.hid ht
      clear ht
      go_wp2_with (first | (go_at_call 22; refine HJ.out.mono ?_; rintro e w2 ⟨rfl, hb⟩))
      go_ret
      refine ⟨?_, HBE.out.trans (hb.mono HBE.out.size)⟩
      have := HTK.out
      unfold textOf
      rw [this]
      rfl

end Go.Proofs.Ytlnbmmgbfgmboaa

namespace Go.Proofs.Ytlnbmmgbfgmboaa
open Go.RowKit

def txt1 : List UInt8 := [108, 111, 99, 107, 32, 97, 91, 49, 93, 59, 32, 47, 47, 32, 98]
def txt2 : List UInt8 := [97, 32, 38, 32, 98]
def toks1 : List Tk.Tok := [⟨3, [108, 111, 99, 107], 0, 0⟩, ⟨1, [97], 0, 5⟩, ⟨4, [91], 0, 6⟩, ⟨2, [49], 1, 7⟩, ⟨4, [93], 0, 8⟩, ⟨4, [59], 0, 9⟩, ⟨5, [], 0, 15⟩]
theorem lex1 : Tk.lex txt1 = (toks1, 15, 0) := by decide +kernel
theorem lex2 : Tk.lex txt2 = ([], 2, 1) := by decide +kernel
theorem textOf1 : textOf toks1 = [108, 111, 99, 107, 32, 97, 32, 91, 32, 49, 32, 93, 32, 59] := by decide +kernel

def byteVals (l : List UInt8) : Array Value := (l.map fun c => Value.int .u8 (c.toNat : Int)).toArray
theorem byt_lit (w : World) (l : List UInt8) (t : TypeId) (fr : Nat × Nat) : Byt (w.alloc (.cells (byteVals l) t fr)) (some ⟨w.heap.size, 0, none⟩) l := by
  intro i hi
  refine ⟨_, _, rfl, ?_⟩
  rw [Nat.zero_add, World.cell?_alloc_mark]
  simp [byteVals, List.getElem?_eq_getElem hi]

/-- what the first call leaves -/
def Lex1Post (w : World) (e : Ending) (w' : World) : Prop :=
  ∃ g c, e = .returned (.tuple #[.slice (some ⟨g, 0, none⟩) 7 c, .int .i64 15, .int .i64 0]) ∧ TokS w' (some ⟨g, 0, none⟩) toks1 ∧ g < w'.heap.size ∧ Below w.heap.size w w'
theorem lexA_any (w : World) : Calls Try.prog 10 #[.slice (some ⟨w.heap.size, 0, none⟩) 15 15] (w.alloc (.cells #[.int .u8 108, .int .u8 111, .int .u8 99, .int .u8 107, .int .u8 32, .int .u8 97, .int .u8 91, .int .u8 49, .int .u8 93, .int .u8 59, .int .u8 32, .int .u8 47, .int .u8 47, .int .u8 32, .int .u8 98] 5 (15, 16))) (Lex1Post w) := by
  have hB : Byt (w.alloc (.cells #[.int .u8 108, .int .u8 111, .int .u8 99, .int .u8 107, .int .u8 32, .int .u8 97, .int .u8 91, .int .u8 49, .int .u8 93, .int .u8 59, .int .u8 32, .int .u8 47, .int .u8 47, .int .u8 32, .int .u8 98] 5 (15, 16))) (some ⟨w.heap.size, 0, none⟩) txt1 := byt_lit w txt1 5 (15, 16)
  refine (lex_any txt1 (some ⟨w.heap.size, 0, none⟩) 15 _ hB (by decide) (by decide)).mono ?_
  rintro e w' ⟨v, rfl, hown, hbel⟩
  rw [lex1] at hown ⊢
  have hT := fun A c (hv : v = .slice A toks1.length c) => TokS.of_own (ts := toks1) rfl (hv ▸ hown)
  obtain ⟨A, c, rfl⟩ := owns_form hown
  obtain ⟨g, hA, h0, _⟩ := hT A c rfl 0 (by decide)
  subst hA
  refine ⟨g, c, rfl, hT _ c rfl, World.block_lt_of_cell? _ _ h0, ?_⟩
  exact ((Below.refl _ _).alloc (Nat.le_refl _) _).trans (hbel.mono (by simp))
theorem lexB_any (w : World) : Calls Try.prog 10 #[.slice (some ⟨w.heap.size, 0, none⟩) 5 5] (w.alloc (.cells #[.int .u8 97, .int .u8 32, .int .u8 38, .int .u8 32, .int .u8 98] 5 (5, 6))) fun e w' => (∃ v, e = .returned (.tuple #[v, .int .i64 2, .int .i64 1])) ∧ Below w.heap.size w w' := by
  have hB : Byt (w.alloc (.cells #[.int .u8 97, .int .u8 32, .int .u8 38, .int .u8 32, .int .u8 98] 5 (5, 6))) (some ⟨w.heap.size, 0, none⟩) txt2 := byt_lit w txt2 5 (5, 6)
  refine (lex_any txt2 (some ⟨w.heap.size, 0, none⟩) 5 _ hB (by decide) (by decide)).mono ?_
  rintro e w' ⟨v, rfl, hown, hbel⟩
  rw [lex2]
  refine ⟨⟨v, rfl⟩, ?_⟩
  exact ((Below.refl _ _).alloc (Nat.le_refl _) _).trans (hbel.mono (by simp))
theorem textA_any (w : World) (g c : Nat) (hT : TokS w (some ⟨g, 0, none⟩) toks1) : Calls Try.prog 11 #[.slice (some ⟨g, 0, none⟩) 7 c] w fun e w' => e = .returned (.string ⟨#[108, 111, 99, 107, 32, 97, 32, 91, 32, 49, 32, 93, 32, 59]⟩) ∧ Below w.heap.size w w' := by
  have := text_any toks1 (some ⟨g, 0, none⟩) c w hT (by decide) (by rw [textOf1]; decide)
  rw [textOf1] at this
  exact this

theorem reservedGo (w : World) : Calls Try.prog 19 #[.string ⟨#[103, 111]⟩] w fun e w' => e = .returned (.bool true) ∧ w = w' := by
  refine (reserved_any [103, 111] w).mono ?_
  rintro e w' ⟨rfl, rfl⟩
  exact ⟨ret_bool (by decide), rfl⟩

set_option maxRecDepth 100000 in
set_option maxHeartbeats 1000000 in
theorem awake_any (w : World) : Calls Try.prog 9 #[] w fun e w' => e = .returned (.bool true) ∧ Below w.heap.size w w' := by
  have kc := fun (w : World) (C : Array Value) (n c : Nat) => Lib.run_convert_bytes_const (P := Try.prog) w 23 5 C n c Try.underlying23 Try.underlying5
  go_enter Try.func9, Try.ntmps9
  go_wp2_with fail
  refine (lexA_any w).mono ?_
  rintro e w1 ⟨g, c, rfl, hT, hg, hb1⟩
  have HT := Lib.hid hT
  have HB1 := Lib.hid hb1
  clear hT hb1
  go_wp2_with fail
  refine (lexB_any _).mono ?_
  rintro e w2 ⟨⟨v, rfl⟩, hb2⟩
  have hT2 := HT.out.later hb2
  obtain ⟨b', e1, q0, -, -, -⟩ := hT2 0 (by decide)
  obtain ⟨b'', e2, -, -, q3, -⟩ := hT2 3 (by decide)
  have HT2 := Lib.hid hT2
  have HB2 := Lib.hid hb2
  clear hT2 hb2
  injection e1 with e1
  injection e1 with e1
  injection e2 with e2
  injection e2 with e2
  subst e1 e2
  simp only [toks1] at q0 q3
  go_wp2_with fail
  refine (textA_any _ g c HT2.out).mono ?_
  rintro e w3 ⟨rfl, hb3⟩
  have HB3 := Lib.hid hb3
  clear hb3 q0 q3
  go_wp2_with fail
  refine (reservedGo _).mono ?_
  rintro e w4 ⟨rfl, rfl⟩
  go_wp2
  go_ret
  refine ⟨rfl, ?_⟩
  have h1 := HB1.out
  have h2 := HB2.out
  have h3 := HB3.out
  exact (h1.trans (h2.mono h1.size)).trans (h3.mono (Nat.le_trans h1.size h2.size))

end Go.Proofs.Ytlnbmmgbfgmboaa

namespace Go.Proofs.Ytlnbmmgbfgmboaa
open Go.RowKit

set_option maxRecDepth 100000 in
set_option maxHeartbeats 1000000 in
theorem same_any (p : Bool) (ts us : List Tk.Tok) (A B : Option Addr) (ca cb : Nat) (w : World) (hT : TokS w A ts) (hU : TokS w B us) (hs : SameT p ts us) (hn : ts.length ≤ 1000000) :
    Calls Try.prog 13 #[.slice A ts.length ca, .slice B us.length cb, .bool p] w fun e w' => e = .returned (.bool true) ∧ Below w.heap.size w w' := by
  obtain ⟨hl, hs⟩ := hs
  have HT := Lib.hid hT
  have HU := Lib.hid hU
  have HS := Lib.hid hs
  clear hT hU hs
  have HL := Lib.hid hl
  rw [hl]
  clear hl
  have t0 := nF (show ((ts.length : Nat) : Int) = ts.length from rfl)
  go_enter Try.func13, Try.ntmps13
  go_wp2
  clear t0
  go_loopw [7] (fun i wr => ∃ k n : Nat, k ≤ ts.length ∧ i = .int .i64 k ∧ w.drewN n = wr) (fun i _ => ts.length - (intOf i).toNat)
  case atStart => exact ⟨0, 0, Nat.zero_le _, rfl, rfl⟩
  case round =>
    obtain ⟨k, n, hk, rfl, rfl⟩ := hrel
    by_cases hlt : k < ts.length
    · have hlu : k < us.length := by rw [HL.out]; exact hlt
      obtain ⟨b, rfl, a0, a1, a2, a3⟩ := HT.out k hlt
      obtain ⟨b', rfl, c0, c1, c2, c3⟩ := HU.out k hlu
      obtain ⟨s0, s1, s2, s3⟩ := HS.out k hlt hlu
      rw [s0] at c0
      rw [s1] at c1
      rw [s2] at c2
      clear s0 s1 s2
      have i0 : (0 : Int) ≤ (k : Int) := by omega
      have i1 : (k : Int) < (ts.length : Int) := by omega
      have n0 := nF (show ((ts[k].kind : Nat) : Int) = ts[k].kind from rfl)
      have n2 := nF (show ((ts[k].num : Nat) : Int) = ts[k].num from rfl)
      cases p with
      | true =>
        rw [s3 rfl] at c3
        have n3 := nF (show ((ts[k].pos : Nat) : Int) = ts[k].pos from rfl)
        clear s3
        go_wp2
        go_quiet (fail)
        go_wp2
        go_roundw
        case rel => exact ⟨k + 1, _, by omega, by go_num, rfl⟩
        case measure => simp [intOf]; omega
      | false =>
        clear s3 a3 c3
        go_wp2
        go_quiet (fail)
        go_wp2
        go_roundw
        case rel => exact ⟨k + 1, _, by omega, by go_num, rfl⟩
        case measure => simp [intOf]; omega
    · go_wp2
      go_ret
      exact ⟨rfl, below_drewN (Below.refl _ _) _⟩

end Go.Proofs.Ytlnbmmgbfgmboaa

namespace Go.Proofs.Ytlnbmmgbfgmboaa
open Go.RowKit

set_option maxRecDepth 100000 in
set_option maxHeartbeats 4000000 in
theorem tokenText_of (xs : List Int) (hC : ProgC xs) (A : Option Addr) (cap : Nat) (w : World) (hR : IntR w A xs) (hc : xs.length ≤ cap) (hm : xs.length ≤ 9223372036854775807) :
    Calls Try.prog 4 #[.slice A xs.length cap] w fun e w' => e = .returned (.bool true) ∧ Below w.heap.size w w' := by
  have HTX := Lib.hid (mtext_of xs hC A cap w hR hc hm)
  clear hC hR hc hm
  go_enter Try.func4, Try.ntmps4
  go_wp2_with fail
  refine HTX.out.mono ?_
  rintro e w1 ⟨P, hP, rfl, hb1⟩
  have HB1 := Lib.hid hb1
  have hl0 := fmtT_len hP
  have hx0 := @fmtT_lex P
  obtain ⟨a1, a2, a3⟩ := text_again (fmtT P) hx0 (by omega)
  have HTA := Lib.hid a3
  have hN1 := lex_len (fmtT P)
  clear hP hb1 HTX a3
  generalize fmtT P = L at *
  obtain ⟨c1, W1, hcv1, hB1, hc1, hb2⟩ := conv_bytes L w1
  have HL := Lib.hid (lex_any L (some ⟨w1.heap.size, 0, none⟩) c1 W1 hB1 (by omega) hc1)
  have HB2 := Lib.hid (below_two HB1.out hb2)
  have HX0 := Lib.hid hx0
  clear hB1 hc1 hb2 hx0
  go_wp2_with fail
  refine HL.out.mono ?_
  intro e w2 hp
  obtain ⟨A2, c2, rfl, hT, hb3⟩ := lexPost_open hp
  rw [HX0.out]
  have HT := Lib.hid hT
  have HB3 := Lib.hid (below_two HB2.out hb3)
  clear hp hb3 hcv1 hT
  have HA2 := Lib.hid a2
  generalize Tk.lex L = V at *
  go_wp2_with fail
  refine (text_any V.1 A2 c2 w2 HT.out (by omega) (by omega)).mono ?_
  rintro e w3 ⟨rfl, hb4⟩
  have HT3 := Lib.hid (HT.out.later hb4)
  have HB4 := Lib.hid (below_two HB3.out hb4)
  clear hb4
  go_wp2_with fail
  refine (refTextT_any V.1 A2 c2 w3 HT3.out (by omega) (by omega)).mono ?_
  rintro e w4 ⟨rfl, hb5⟩
  have HT4 := Lib.hid (HT3.out.later hb5)
  have HB5 := Lib.hid (below_two HB4.out hb5)
  clear hb5
  go_wp2_with fail
  refine (text_any V.1 A2 c2 w4 HT4.out (by omega) (by omega)).mono ?_
  rintro e w5 ⟨rfl, hb6⟩
  have HT5 := Lib.hid (HT4.out.later hb6)
  have HB6 := Lib.hid (below_two HB5.out hb6)
  clear hb6 HT3 HT4
  generalize textOf V.1 = M at *
  obtain ⟨c3, W3, hcv3, hB3, hc3, hb7⟩ := conv_bytes M w5
  have HM := Lib.hid (lex_any M (some ⟨w5.heap.size, 0, none⟩) c3 W3 hB3 (by omega) hc3)
  have HB7 := Lib.hid (below_two HB6.out hb7)
  have HT7 := Lib.hid (HT5.out.later hb7)
  clear hB3 hc3 hb7
  go_wp2_with fail
  refine HM.out.mono ?_
  intro e w6 hp
  obtain ⟨A4, c4, rfl, hU, hb8⟩ := lexPost_open hp
  rw [HA2.out]
  have HU := Lib.hid hU
  have HT8 := Lib.hid (HT7.out.later hb8)
  have HB8 := Lib.hid (below_two HB7.out hb8)
  clear hp hU hb8 hcv3
  go_wp2_with fail
  refine (same_any false V.1 (Tk.lex M).1 A2 A4 c2 c4 w6 HT8.out HU.out HTA.out (by omega)).mono ?_
  rintro e w7 ⟨rfl, hb9⟩
  have HB9 := Lib.hid (below_two HB8.out hb9)
  clear hb9
  go_wp2_with fail
  refine (awake_any _).mono ?_
  rintro e w8 ⟨rfl, hb10⟩
  have HB10 := Lib.hid (below_two HB9.out hb10)
  clear hb10
  go_wp2_with fail
  go_ret
  exact ⟨rfl, HB10.out⟩
end Go.Proofs.Ytlnbmmgbfgmboaa

namespace Go.Proofs.Ytlnbmmgbfgmboaa
open Go.RowKit

/-- the bytes of a block of the call's own, which may be written -/
def BytO (w : World) (g : Nat) (l : List UInt8) : Prop := ∀ i (h : i < l.length), w.cell? ⟨g, i, none⟩ = some (.int .u8 (l[i].toNat : Int)) ∧ w.frozen? ⟨g, i, none⟩ = false
theorem BytO.byt {w : World} {g : Nat} {l : List UInt8} (h : BytO w g l) : Byt w (some ⟨g, 0, none⟩) l := by
  intro i hi
  exact ⟨g, 0, rfl, by rw [Nat.zero_add]; exact (h i hi).1⟩
theorem conv_own (s : List UInt8) (w : World) : ∃ c W1, (convert 9 23 (.string ⟨s.toArray⟩)).run Try.prog w = .ok (.slice (some ⟨w.heap.size, 0, none⟩) s.length c) W1 ∧ BytO W1 w.heap.size s ∧ s.length ≤ c ∧ Below w.heap.size w W1 := by
  have h := run_bytes_of_string (P := Try.prog) w 9 23 5 ⟨s.toArray⟩ Try.underlying9 Try.underlying23 Try.underlying5
  have hs : (⟨s.toArray⟩ : ByteArray).size = s.length := by simp [ByteArray.size]
  rw [hs] at h
  refine ⟨_, _, h, ?_, grownCap_ge _ _ _ _, ((Below.refl _ _).drew).alloc (Nat.le_refl _) _⟩
  intro i hi
  constructor
  · refine (World.cell?_alloc_mark w.drew _ _ _ i).trans ?_
    rw [bytesRow_at _ _ i (by simpa using hi)]
    simp
  · have hn : ∀ (C : Array Value) (t : TypeId), i < C.size → (w.drew.alloc (.cells C t (C.size, C.size + 1))).frozen? ⟨w.heap.size, i, none⟩ = false := by
      intro C t hC
      have hb : (w.drew.alloc (.cells C t (C.size, C.size + 1))).heap[w.heap.size]? = some (.cells C t (C.size, C.size + 1)) := heap_alloc_new w.drew _
      unfold World.frozen?
      rw [hb]
      simp
      omega
    refine hn _ _ ?_
    unfold bytesRow
    simp
    omega
theorem BytO.set {w : World} {g : Nat} {l : List UInt8} (h : BytO w g l) (j : Nat) (_hj : j < l.length) (x : UInt8) (v : Value) (hv : v = .int .u8 (x.toNat : Int)) : BytO (w.setCell ⟨g, j, none⟩ v) g (l.set j x) := by
  intro i hi
  rw [List.length_set] at hi
  obtain ⟨h1, h2⟩ := h i hi
  refine ⟨?_, by rw [World.frozen?_setCell]; exact h2⟩
  by_cases e : j = i
  · subst e
    rw [World.cell?_setCell_same _ _ _ h1, hv, List.getElem_set_self]
  · rw [World.cell?_setCell_other _ _ _ _ (by intro he; injection he with _ he; exact e he), h1, List.getElem_set_ne e]
theorem keep_one {w : World} {b i : Nat} {p : Addr} {v u : Value} (h : w.cell? ⟨b, i, none⟩ = some v) (hne : b ≠ p.block) : (w.setCell p u).drew.cell? ⟨b, i, none⟩ = some v := by
  show (w.setCell p u).cell? ⟨b, i, none⟩ = some v
  exact (World.cell?_of_block (a := ⟨b, i, none⟩) (Below.heap_setCell w p u b hne)).trans h
theorem BytO.drew {w : World} {g : Nat} {l : List UInt8} (h : BytO w g l) : BytO w.drew g l := h
end Go.Proofs.Ytlnbmmgbfgmboaa

namespace Go.Proofs.Ytlnbmmgbfgmboaa
open Go.RowKit

set_option maxRecDepth 100000 in
set_option maxHeartbeats 1000000 in
theorem sameB_any (l : List UInt8) (ao : Option Addr) (cap : Nat) (w : World) (hB : Byt w ao l) (hl : l.length ≤ 262144) (hcap : l.length ≤ cap) :
    Calls Try.prog 8 #[.slice ao l.length cap] w fun e w' => e = .returned (.bool true) ∧ Below w.heap.size w w' := by
  have hlen := lex_len l
  have HX := Lib.hid (lex_any l ao cap w hB hl hcap)
  have HY := fun w1 (h1 : Below w.heap.size w w1) => refLex_any l ao cap w1 (hB.later h1) hl hcap
  have HYY := Lib.hid HY
  clear HY
  obtain ⟨ts, n, e0, hR⟩ : ∃ ts n e0, Tk.lex l = (ts, n, e0) := ⟨_, _, _, rfl⟩
  rw [hR] at HX HYY hlen
  dsimp only at hlen
  clear hR hB
  have t1 := bT (show ((n : Nat) : Int) = n from rfl)
  have t2 := bT (show ((e0 : Nat) : Int) = e0 from rfl)
  go_enter Try.func8, Try.ntmps8
  go_wp2_with fail
  refine HX.out.mono ?_
  intro e w1 hp
  obtain ⟨A, c, rfl, hT, hb1⟩ := lexPost_open hp
  have HT := Lib.hid hT
  have HB1 := Lib.hid hb1
  clear hp hT hb1
  go_wp2_with fail
  refine (HYY.out w1 HB1.out).mono ?_
  intro e w2 hp
  obtain ⟨A2, c2, rfl, hU, hb2⟩ := lexPost_open hp
  have HU := Lib.hid hU
  have HB2 := Lib.hid hb2
  clear hp hU hb2
  go_wp2_with fail
  refine (same_any true ts ts A A2 c c2 w2 (HT.out.later HB2.out) HU.out (SameT.refl _ _) (by omega)).mono ?_
  rintro e w3 ⟨rfl, hb3⟩
  have HB3 := Lib.hid hb3
  clear hb3
  go_wp2
  go_ret
  refine ⟨rfl, ?_⟩
  have h1 := HB1.out
  have h2 := HB2.out
  have h3 := HB3.out
  exact (h1.trans (h2.mono h1.size)).trans (h3.mono (Nat.le_trans h1.size h2.size))

end Go.Proofs.Ytlnbmmgbfgmboaa

namespace Go.Proofs.Ytlnbmmgbfgmboaa
open Go.RowKit

set_option maxRecDepth 100000 in
set_option maxHeartbeats 8000000 in
theorem tokenChanged_of (xs ys : List Int) (bs : List UInt8) (hC : ProgC xs) (A A' B : Option Addr) (cap cap' cap2 : Nat) (w : World) (hR : IntR w A xs) (hR' : IntR w A' ys) (hB : Byt w B bs) (hc : xs.length ≤ cap) (hm : xs.length ≤ 9223372036854775807) (_hm' : ys.length ≤ 9223372036854775807) (_hmb : bs.length ≤ 9223372036854775807) :
    Calls Try.prog 3 #[.slice A xs.length cap, .slice A' ys.length cap', .slice B bs.length cap2] w fun e w' => e = .returned (.bool true) ∧ Below w.heap.size w w' := by
  have HTX := Lib.hid (mtext_of xs hC A cap w hR hc hm)
  have HY := Lib.hid hR'
  have HBy := Lib.hid hB
  clear hC hR hR' hB hc hm
  go_enter Try.func3, Try.ntmps3
  go_wp2_with fail
  refine HTX.out.mono ?_
  rintro e w1 ⟨P, hP, rfl, hb1⟩
  have HB1 := Lib.hid hb1
  have hFl := fmtT_len hP
  clear hP hb1 HTX
  generalize fmtT P = s at *
  obtain ⟨c, W1, hrun, hBO, hcap, hb3⟩ := conv_own s w1
  have HBO := Lib.hid hBO
  have HB3 := Lib.hid (below_two HB1.out hb3)
  have hgw : w.heap.size ≤ w1.heap.size := HB1.out.size
  clear hBO hb3
  go_wp2_with fail
  clear hrun
  generalize w1.heap.size = g at *
  obtain ⟨n, hn⟩ : ∃ n, n = s.length := ⟨_, rfl⟩
  rw [← hn] at hcap hFl ⊢
  have HN := Lib.hid hn
  clear hn
  have HBW1 : Hid (Below w.heap.size w W1) := HB3.out
  go_loopw [8] (fun i wr => ∃ (k : Nat) (l : List UInt8), k ≤ 4 ∧ i = .int .i64 (k : Int) ∧ l.length = n ∧ Hid (BytO wr g l) ∧ Hid (Below w.heap.size w wr)) (fun i _ => 4 - (intOf i).toNat)
  case atStart => exact ⟨0, s, by omega, rfl, HN.out.symm, HBO, HBW1⟩
  case round =>
    obtain ⟨k, l, hk3, rfl, hll, hO, hW⟩ := hrel
    by_cases hall : k < ys.length ∧ k < bs.length ∧ k < 4 ∧ 0 < n
    · obtain ⟨h1, h2, h3, h4⟩ := hall
      have d1 : decide ((k : Int) < (ys.length : Int)) = true := decide_eq_true (by omega)
      have d2 : decide ((k : Int) < (bs.length : Int)) = true := decide_eq_true (by omega)
      have d3 : decide ((k : Int) < 4) = true := decide_eq_true (by omega)
      have d4 : decide ((n : Int) > 0) = true := decide_eq_true (by omega)
      obtain ⟨ba, oa, rfl, ca, r1, r2⟩ := (HY.out.later hW.out) k h1
      obtain ⟨bb, ob, rfl, cb⟩ := (HBy.out.later hW.out) k h2
      have hba : ba < w.heap.size := by obtain ⟨b2, o2, e2, h, _⟩ := HY.out k h1; injection e2 with e2; injection e2 with e2 _; subst e2; exact World.block_lt_of_cell? _ _ h
      have hbb : bb < w.heap.size := by obtain ⟨b2, o2, e2, h⟩ := HBy.out k h2; injection e2 with e2; injection e2 with e2 _; subst e2; exact World.block_lt_of_cell? _ _ h
      have hna : ba ≠ g := by omega
      have hnb : bb ≠ g := by omega
      have hq := within_lt ys[k] n (by omega)
      obtain ⟨q, hqe⟩ : ∃ q, q = within ys[k] n := ⟨_, rfl⟩
      rw [← hqe] at hq
      have HQ := Lib.hid hqe
      have hql : q < l.length := by omega
      obtain ⟨cq, fq⟩ := hO.out q hql
      have i0 : (0 : Int) ≤ (k : Int) := by omega
      have i1 : (k : Int) < (ys.length : Int) := by omega
      have i2 : (k : Int) < (bs.length : Int) := by omega
      have i3 : (0 : Int) ≤ (q : Int) := by omega
      have i4 : (q : Int) < (n : Int) := by omega
      have hsl : (0 : Int) < (n : Int) := by omega
      clear hqe
      go_wp2_with fail
      go_region_held3 (fun w' => w'.cell? ⟨ba, oa + k, none⟩ = some (.int .i64 ys[k]) ∧ w'.cell? ⟨bb, ob + k, none⟩ = some (.int .u8 (bs[k].toNat : Int)))
        (first | exact ⟨keep_one (p := ⟨g, q, none⟩) ca hna, keep_one (p := ⟨g, q, none⟩) cb hnb⟩ | go_keep)
        (first
          | (go_at_call 7; refine (within_big ys[k] (n : Int) wr.drew ⟨r1, r2⟩ hsl (by omega)).mono ?_; rintro e w3 ⟨rfl, rfl⟩; rw [Int.toNat_natCast, ← HQ.out]))
      all_goals
        go_wp2_with fail
        go_roundw
        case rel =>
          refine ⟨k + 1, l.set q bs[k], by omega, by go_num, by rw [List.length_set]; exact hll, hO.out.drew.set q hql bs[k] _ rfl, ?_⟩
          have hW2 := hW.out
          exact ⟨hW2.os, hW2.tape, hW2.output, by have := hW2.size; simp [World.setCell]; exact this, fun b hb => (Below.heap_setCell _ _ _ b (by show b ≠ g; omega)).trans (hW2.block b hb)⟩
        case measure => simp [intOf]; omega
    · by_cases h0 : ¬ k < ys.length
      · have d0 : decide ((k : Int) < (ys.length : Int)) = false := decide_eq_false (by omega)
        clear hall
        have hlx : l.length ≤ 262144 := by omega
        have HSB := Lib.hid (sameB_any l (some ⟨g, 0, none⟩) c wr hO.out.byt hlx (by omega))
        rw [hll] at HSB
        go_wp2_with fail
        refine HSB.out.mono ?_
        rintro e w4 ⟨rfl, hb4⟩
        have HB4 := Lib.hid (below_two hW.out hb4)
        clear hb4 HSB
        go_wp2_with fail
        refine (awake_any _).mono ?_
        rintro e w6 ⟨rfl, hb6⟩
        have HB6 := Lib.hid (below_two HB4.out hb6)
        clear hb6
        go_wp2_with fail
        go_ret
        exact ⟨rfl, HB6.out⟩
      have d0 : decide ((k : Int) < (ys.length : Int)) = true := decide_eq_true (by omega)
      by_cases h1 : ¬ k < bs.length
      · have d1 : decide ((k : Int) < (bs.length : Int)) = false := decide_eq_false (by omega)
        clear hall
        have hlx : l.length ≤ 262144 := by omega
        have HSB := Lib.hid (sameB_any l (some ⟨g, 0, none⟩) c wr hO.out.byt hlx (by omega))
        rw [hll] at HSB
        go_wp2_with fail
        refine HSB.out.mono ?_
        rintro e w4 ⟨rfl, hb4⟩
        have HB4 := Lib.hid (below_two hW.out hb4)
        clear hb4 HSB
        go_wp2_with fail
        refine (awake_any _).mono ?_
        rintro e w6 ⟨rfl, hb6⟩
        have HB6 := Lib.hid (below_two HB4.out hb6)
        clear hb6
        go_wp2_with fail
        go_ret
        exact ⟨rfl, HB6.out⟩
      have d1 : decide ((k : Int) < (bs.length : Int)) = true := decide_eq_true (by omega)
      by_cases h2 : ¬ k < 4
      · have d2 : decide ((k : Int) < 4) = false := decide_eq_false (by omega)
        clear hall
        have hlx : l.length ≤ 262144 := by omega
        have HSB := Lib.hid (sameB_any l (some ⟨g, 0, none⟩) c wr hO.out.byt hlx (by omega))
        rw [hll] at HSB
        go_wp2_with fail
        refine HSB.out.mono ?_
        rintro e w4 ⟨rfl, hb4⟩
        have HB4 := Lib.hid (below_two hW.out hb4)
        clear hb4 HSB
        go_wp2_with fail
        refine (awake_any _).mono ?_
        rintro e w6 ⟨rfl, hb6⟩
        have HB6 := Lib.hid (below_two HB4.out hb6)
        clear hb6
        go_wp2_with fail
        go_ret
        exact ⟨rfl, HB6.out⟩
      have d2 : decide ((k : Int) < 4) = true := decide_eq_true (by omega)
      have d3 : decide ((n : Int) > 0) = false := decide_eq_false (by omega)
      have d9 : ¬ 0 < n := by omega
      have d8 : decide (0 < n) = false := decide_eq_false (by omega)
      clear hall
      have hlx : l.length ≤ 262144 := by omega
      have HSB := Lib.hid (sameB_any l (some ⟨g, 0, none⟩) c wr hO.out.byt hlx (by omega))
      rw [hll] at HSB
      go_wp2_with fail
      refine HSB.out.mono ?_
      rintro e w4 ⟨rfl, hb4⟩
      have HB4 := Lib.hid (below_two hW.out hb4)
      clear hb4 HSB
      go_wp2_with fail
      refine (awake_any _).mono ?_
      rintro e w6 ⟨rfl, hb6⟩
      have HB6 := Lib.hid (below_two HB4.out hb6)
      clear hb6
      go_wp2_with fail
      go_ret
      exact ⟨rfl, HB6.out⟩
end Go.Proofs.Ytlnbmmgbfgmboaa

namespace Go.Proofs.Ytlnbmmgbfgmboaa

/-- the five separators -/
def sep5 : Nat → List UInt8
  | 0 => [32]
  | 1 => [10]
  | 2 => [9, 13, 32]
  | 3 => [32, 47, 47, 32, 118, 97, 114, 32, 120, 32, 40, 10]
  | _ => [32, 32, 47, 47, 10, 47, 47, 10]
theorem sep5_ok (q : Nat) : SepOk (sep5 q) ∧ (∃ c r, sep5 q = c :: r ∧ (c.toNat = 32 ∨ c.toNat = 9 ∨ c.toNat = 13 ∨ c.toNat = 10)) ∧ (sep5 q).length ≤ 12 := by
  have hc : sep5 q = sep5 0 ∨ sep5 q = sep5 1 ∨ sep5 q = sep5 2 ∨ sep5 q = sep5 3 ∨ sep5 q = sep5 4 := by
    match q with
    | 0 => exact .inl rfl
    | 1 => exact .inr (.inl rfl)
    | 2 => exact .inr (.inr (.inl rfl))
    | 3 => exact .inr (.inr (.inr (.inl rfl)))
    | n + 4 => exact .inr (.inr (.inr (.inr rfl)))
  rcases hc with e | e | e | e | e <;> rw [e]
  · exact ⟨fun t => by simp [sep5, Tk.sepLen_f, Tk.isSpc]; omega, ⟨_, _, rfl, by decide⟩, by decide⟩
  · exact ⟨fun t => by simp [sep5, Tk.sepLen_f, Tk.isSpc]; omega, ⟨_, _, rfl, by decide⟩, by decide⟩
  · exact ⟨fun t => by simp [sep5, Tk.sepLen_f, Tk.isSpc]; omega, ⟨_, _, rfl, by decide⟩, by decide⟩
  · exact ⟨fun t => by simp [sep5, Tk.sepLen_f, Tk.sepLen_t, Tk.isSpc]; omega, ⟨_, _, rfl, by decide⟩, by decide⟩
  · exact ⟨fun t => by simp [sep5, Tk.sepLen_f, Tk.sepLen_t, Tk.isSpc]; omega, ⟨_, _, rfl, by decide⟩, by decide⟩
/-- each token's text and the separator behind it -/
def bld : List (Tk.Tok × Nat) → List UInt8
  | [] => []
  | p :: r => p.1.text ++ (sep5 p.2 ++ bld r)
theorem bld_app (a b : List (Tk.Tok × Nat)) : bld (a ++ b) = bld a ++ bld b := by
  induction a with
  | nil => rfl
  | cons p r ih => simp [bld, ih]
theorem bld_snoc (l : List (Tk.Tok × Nat)) (t : Tk.Tok) (q : Nat) : bld (l ++ [(t, q)]) = (bld l ++ t.text) ++ sep5 q := by
  rw [bld_app]
  simp [bld]
theorem sumLen_app (a b : List Tk.Tok) : sumLen (a ++ b) = sumLen a + sumLen b := by simp [sumLen]
theorem sumLen_take (l : List Tk.Tok) (k : Nat) : sumLen (l.take k) ≤ sumLen l := by
  have := sumLen_app (l.take k) (l.drop k)
  rw [List.take_append_drop] at this
  omega
theorem sumLen_mem (l : List Tk.Tok) (t : Tk.Tok) (h : t ∈ l) : t.text.length ≤ sumLen l := by
  induction l with
  | nil => cases h
  | cons a r ih =>
    have e : sumLen (a :: r) = a.text.length + sumLen r := by simp [sumLen]
    rcases List.mem_cons.1 h with rfl | h
    · omega
    · have := ih h
      omega
theorem bld_len (l : List (Tk.Tok × Nat)) : (bld l).length ≤ sumLen (l.map (·.1)) + 12 * l.length := by
  induction l with
  | nil => simp [bld]
  | cons p r ih =>
    have := (sep5_ok p.2).2.2
    simp only [bld, sumLen, List.map_cons, List.sum_cons, List.length_append, List.length_cons] at ih ⊢
    omega
theorem lex_sepOnly (s : List UInt8) (h : SepOk s) (hl : s.length ≤ 262144) : Tk.lex s = ([⟨5, [], 0, s.length⟩], s.length, 0) := by
  have e : Tk.lex s = Tk.lexGo (s.length + 1) s (Tk.skipTo s 0) [] := by unfold Tk.lex; rw [if_neg (by omega)]
  have h0 : Tk.skipTo s 0 = s.length := by
    have := h []
    rw [List.append_nil] at this
    unfold Tk.skipTo
    rw [List.drop_zero, this]
    simp [Tk.sepLen]
  rw [e, h0, lexGo_end _ _ _ _ (by omega)]
  rfl
/-- the same as tokens with what separates them; e: what follows the last one -/
def toSp : List (Tk.Tok × Nat) → List UInt8 → List (Tk.Tok × List UInt8)
  | [], _ => []
  | [p], e => [(p.1, sep5 p.2 ++ e)]
  | p :: q :: r, e => (p.1, sep5 p.2) :: toSp (q :: r) e
theorem toSp_len (l : List (Tk.Tok × Nat)) (e : List UInt8) : (toSp l e).length = l.length := by
  induction l with
  | nil => rfl
  | cons p r ih =>
    cases r with
    | nil => rfl
    | cons q r => simp [toSp, ih]
theorem toSp_at (l : List (Tk.Tok × Nat)) (e : List UInt8) (i : Nat) (h : i < l.length) (h' : i < (toSp l e).length) : ((toSp l e)[i]).1 = l[i].1 := by
  induction l generalizing i with
  | nil => simp at h
  | cons p r ih =>
    cases r with
    | nil =>
      have : i = 0 := by simpa using h
      subst this
      rfl
    | cons q r =>
      cases i with
      | zero => rfl
      | succ i => exact ih i (by simpa using h) (by rw [toSp_len] at h' ⊢; simpa using h')
theorem toSp_text (l : List (Tk.Tok × Nat)) (e : List UInt8) (h : l ≠ []) : spaced (toSp l e) = bld l ++ e := by
  induction l with
  | nil => exact absurd rfl h
  | cons p r ih =>
    cases r with
    | nil => simp [toSp, spaced, bld]
    | cons q r =>
      have := ih (by simp)
      simp only [toSp, spaced] at this ⊢
      rw [this]
      simp [bld]
theorem toSp_spaced (l : List (Tk.Tok × Nat)) (e : List UInt8) (he : SepOk e) (h : ∀ p ∈ l, Good p.1) : Spaced (toSp l e) := by
  induction l with
  | nil => exact trivial
  | cons p r ih =>
    obtain ⟨s1, ⟨c, r', hc, hs⟩, -⟩ := sep5_ok p.2
    cases r with
    | nil => exact ⟨h p (by simp), s1.app he, .inr ⟨c, r' ++ e ++ [], by simp [hc, spaced], hs⟩, trivial⟩
    | cons q r => exact ⟨h p (by simp), s1, .inr ⟨c, r' ++ spaced (toSp (q :: r) e), by rw [hc]; rfl, hs⟩, ih fun x hx => h x (by simp [hx])⟩
theorem sp_lex (L : List UInt8) (h0 : (Tk.lex L).2.2 = 0) (hb : L.length ≤ 101000) (ps : List (Tk.Tok × Nat)) (hp : ps.map (·.1) = (Tk.lex L).1) :
    (bld ps).length ≤ 262144 ∧ (Tk.lex (bld ps)).2.2 = 0 ∧ SameT false (Tk.lex L).1 (Tk.lex (bld ps)).1 := by
  obtain ⟨ts, e, hg, hn, _⟩ := lex_good L h0
  have hsum := lex_sum L
  have hlen := bld_len ps
  have hpl : ps.length = ts.length + 1 := by
    have := congrArg List.length hp
    rw [e] at this
    simpa using this
  rw [hp] at hlen
  refine ⟨by omega, ?_⟩
  rw [e] at hp ⊢
  dsimp only at hp ⊢
  have hne : ps ≠ [] := fun h => by rw [h] at hpl; simp at hpl
  obtain ⟨qs, ⟨u, q⟩, rfl⟩ : ∃ qs p, ps = qs ++ [p] := ⟨ps.dropLast, ps.getLast hne, (List.dropLast_concat_getLast hne).symm⟩
  rw [List.map_append] at hp
  obtain ⟨hq, hu⟩ := List.append_inj' hp rfl
  have hu' : u = ⟨5, [], 0, L.length⟩ := by simpa using hu
  subst hu'
  have hB : bld (qs ++ [((⟨5, [], 0, L.length⟩ : Tk.Tok), q)]) = bld qs ++ sep5 q := by rw [bld_snoc]; simp
  have hs5 := sep5_ok q
  have hbl : (bld qs ++ sep5 q).length ≤ 262144 := by rw [← hB]; omega
  rw [hB]
  by_cases hz : qs = []
  · subst hz
    have hts : ts = [] := by simpa using hq.symm
    subst hts
    have e0 : bld ([] : List (Tk.Tok × Nat)) ++ sep5 q = sep5 q := rfl
    rw [e0, lex_sepOnly _ hs5.1 (by have := hs5.2.2; omega)]
    refine ⟨rfl, rfl, fun i hi hi' => ?_⟩
    have : i = 0 := by simpa using hi
    subst this
    exact ⟨rfl, rfl, rfl, fun h => by cases h⟩
  · have hgq : ∀ p ∈ qs, Good p.1 := fun p hp => (hg p.1 (by rw [← hq]; exact List.mem_map_of_mem hp)).1
    have hql : qs.length = ts.length := by rw [← hq, List.length_map]
    obtain ⟨us, h1, h2, h3⟩ := relex (toSp qs (sep5 q)) (toSp_spaced qs _ hs5.1 hgq) (by rw [toSp_len]; omega) (by rw [toSp_text qs _ hz]; exact hbl)
    rw [toSp_text qs _ hz] at h1
    rw [toSp_len] at h2
    rw [h1]
    refine ⟨rfl, by simp [h2, hql], fun i hi hi' => ?_⟩
    by_cases hit : i < ts.length
    · have hs := h3 i (by rw [toSp_len]; omega) (by omega)
      rw [toSp_at qs _ i (by omega)] at hs
      have he : qs[i].1 = ts[i] := by
        have : (qs.map (·.1))[i]'(by simp; omega) = ts[i] := by simp only [hq]
        simpa using this
      rw [he] at hs
      rw [List.getElem_append_left hit, List.getElem_append_left (by omega)]
      exact ⟨hs.1, hs.2.1, hs.2.2, fun h => by cases h⟩
    · have hi2 : i = ts.length := by simp at hi; omega
      subst hi2
      rw [List.getElem_append_right (by omega), List.getElem_append_right (by omega)]
      simp [h2, hql]
end Go.Proofs.Ytlnbmmgbfgmboaa
