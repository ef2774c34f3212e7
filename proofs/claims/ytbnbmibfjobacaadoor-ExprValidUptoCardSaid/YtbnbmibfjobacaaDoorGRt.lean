/- The tokens of the text of an expression: plain. No statement of the program is proved in this file. The parser reads the tokens of an expression's text as that expression: plain. No statement of the program is proved in this file. -/
import Derived.Test.YtbnbmibfjobacaaDoorGFmt
import Derived.Test.YtbnbmibfjobacaaDoorGRfB
import Derived.Test.YtbnbmibfjobacaaDoorGPar
namespace Go.Proofs.YtbnbmibfjobacaaDoor
open Go.RowKit

/-- a token without its place: kind, text, number -/
abbrev K3 := Nat × List UInt8 × Nat
def k3 (t : Tk.Tok) : K3 := (t.kind, t.text, t.num)
/-- an Arg's tokens, perhaps in parentheses -/
def parK (p : Bool) (l : List K3) : List K3 := if p then (4, [40], 0) :: (l ++ [(4, [41], 0)]) else l
/-- a name that may be read again -/
structure NmOk (s : List UInt8) : Prop where
  ld : ∀ c ∈ s, Tk.isLD c = true
  head : ∃ c r, s = c :: r ∧ Tk.isLet c = true
  len : s.length ≤ 16
  resv : Tk.resv s = false
  nb : nameB s = true
/-- an expression and its tokens -/
inductive TkOf : Ex → List K3 → Prop
  | num (n : Nat) (h : n ≤ 9223372036854775807) : TkOf (.mk 1 (n : Int) [] []) [(2, numText (n : Int), n)]
  | name (s : List UInt8) (h : NmOk s) : TkOf (.mk 2 0 s []) [(1, s, 0)]
  | un (op : Nat) (ho : op = 3 ∨ op = 4) (a : Ex) (la : List K3) (ha : TkOf a la) : TkOf (.mk (op : Int) 0 [] [a]) ((4, Ps.sgTab.getD op [], 0) :: parK (innerV op a.op 0) la)
  | bin (op : Nat) (ho : 5 ≤ op ∧ op ≤ 17) (a b : Ex) (la lb : List K3) (ha : TkOf a la) (hb : TkOf b lb) : TkOf (.mk (op : Int) 0 [] [a, b]) (parK (innerV op a.op 0) la ++ (4, Ps.sgTab.getD op [], 0) :: parK (innerV op b.op 1) lb)

/-- the bytes with which an expression begins -/
def startB (c : UInt8) : Bool := Tk.isLet c || Tk.isDig c || c == 40 || c == 45 || c == 33
/-- what may follow an expression -/
def EndR (r : List UInt8) : Prop := r = [] ∨ ∃ c r', r = c :: r' ∧ (c = 32 ∨ c = 41)
theorem startB_cases {c : UInt8} (h : startB c = true) : Tk.isLD c = true ∨ c = 40 ∨ c = 45 ∨ c = 33 := by
  unfold startB at h
  unfold Tk.isLD
  simp only [Bool.or_eq_true, beq_iff_eq] at h ⊢
  rcases h with (((h | h) | h) | h) | h
  · exact .inl (.inl h)
  · exact .inl (.inr h)
  · exact .inr (.inl h)
  · exact .inr (.inr (.inl h))
  · exact .inr (.inr (.inr h))
theorem sep_start {c : UInt8} (r : List UInt8) (h : startB c = true) : Tk.sepLen false (c :: r) = 0 := by
  have h1 : Tk.isSpc c = false ∧ c.toNat ≠ 47 := by
    rcases startB_cases h with h | rfl | rfl | rfl
    · unfold Tk.isLD Tk.isLet Tk.isDig at h
      unfold Tk.isSpc
      simp at h ⊢
      omega
    · decide
    · decide
    · decide
  rw [Tk.sepLen_f, if_neg (by simp [h1.1]), if_neg (fun h => h1.2 h.1)]
/-- the text begins so -/
def Starts (s : List UInt8) : Prop := ∃ c r, s = c :: r ∧ startB c = true
theorem numText_starts (n : Nat) : Starts (numText (n : Int)) ∧ (∀ c ∈ numText (n : Int), Tk.isDig c = true) := by
  have e : numText (n : Int) = decLoop 20 n [] := by
    unfold numText
    rw [if_neg (by omega), Int.toNat_natCast]
  have hd : ∀ c ∈ decLoop 20 n [], Tk.isDig c = true := decLoop_dig 20 n [] (fun c h => absurd h (by simp))
  have hne : decLoop 20 n [] ≠ [] := by
    rw [decLoop_go 19 n [] (.inr rfl)]
    exact decLoop_ne _ _ _ (by simp)
  rw [e]
  refine ⟨?_, hd⟩
  cases hs : decLoop 20 n [] with
  | nil => exact absurd hs hne
  | cons c r =>
    refine ⟨c, r, rfl, ?_⟩
    have := hd c (by rw [hs]; simp)
    unfold startB
    rw [this]
    simp
theorem part_starts {op : Int} {k : Nat} {e : Ex} (h : Starts (exText e)) : Starts (partText op k e) := by
  unfold partText
  split
  · exact ⟨40, _, rfl, by decide⟩
  · exact h
theorem un_text (op : Nat) (ho : op = 3 ∨ op = 4) (a : Ex) : exText (.mk (op : Int) 0 [] [a]) = Ps.sgTab.getD op [] ++ partText op 0 a := by
  rw [exText_mk, exParts_cons, exParts_nil]
  unfold finText
  rcases ho with rfl | rfl <;> rfl
theorem signOf_tab (op : Nat) (ho : 5 ≤ op ∧ op ≤ 17) : signOf (op : Int) = some (Ps.sgTab.getD op []) := by
  have h := sign_tab (op : Int) (by omega)
  rw [Int.toNat_natCast] at h
  exact h
theorem bin_text (op : Nat) (ho : 5 ≤ op ∧ op ≤ 17) (a b : Ex) : exText (.mk (op : Int) 0 [] [a, b]) = partText op 0 a ++ (32 :: (Ps.sgTab.getD op [] ++ 32 :: partText op 1 b)) := by
  rw [exText_mk, exParts_cons, exParts_cons, exParts_nil]
  unfold finText
  rw [if_neg (by omega), if_neg (by omega), if_neg (by omega), if_neg (by omega), signOf_tab op ho]
  simp
theorem tk_starts {E : Ex} {l : List K3} (h : TkOf E l) : Starts (exText E) := by
  induction h with
  | num n h =>
    have : exText (.mk 1 (n : Int) [] []) = numText (n : Int) := by rw [exText_mk]; rfl
    rw [this]
    exact (numText_starts n).1
  | name s h =>
    have : exText (.mk 2 0 s []) = s := by rw [exText_mk]; rfl
    rw [this]
    obtain ⟨c, r, e, hc⟩ := h.head
    exact ⟨c, r, e, by unfold startB; rw [hc]; rfl⟩
  | un op ho a la ha ih =>
    rw [un_text op ho a]
    rcases ho with rfl | rfl
    · exact ⟨45, _, rfl, by decide⟩
    · exact ⟨33, _, rfl, by decide⟩
  | bin op ho a b la lb ha hb iha ihb =>
    rw [bin_text op ho a b]
    obtain ⟨c, r, e, hc⟩ := part_starts (op := (op : Int)) (k := 0) iha
    exact ⟨c, _, by rw [e]; rfl, hc⟩

/-- the rest of a text, from its first token on -/
def lxs (f : Nat) (pre s : List UInt8) (acc : List Tk.Tok) : List Tk.Tok × Nat × Nat := Tk.lexGo f (pre ++ s) (pre.length + Tk.sepLen false s) acc
theorem lxs_space (f : Nat) (pre s : List UInt8) (acc : List Tk.Tok) : lxs f pre (32 :: s) acc = lxs f (pre ++ [32]) s acc := by
  unfold lxs
  have h1 : Tk.sepLen false (32 :: s) = Tk.sepLen false s + 1 := by rw [Tk.sepLen_f, if_pos (by decide)]
  rw [h1, List.append_assoc]
  simp only [List.length_append, List.length_singleton, List.singleton_append]
  congr 1
  omega
theorem lxs_tok (f : Nat) (pre t r : List UInt8) (acc : List Tk.Tok) (tk : Tk.Tok) (h : Tk.tokAt (pre ++ (t ++ r)) pre.length = .ok tk) (ht : tk.text = t) (hne : t ≠ []) (hs : Tk.sepLen false (t ++ r) = 0) (ha : acc.length < 4000) :
    lxs (f + 1) pre (t ++ r) acc = lxs f (pre ++ t) r (acc ++ [tk]) := by
  have hl : 0 < t.length := List.length_pos_iff.2 hne
  have e0 : pre.length + Tk.sepLen false (t ++ r) = pre.length := by rw [hs]; rfl
  unfold lxs
  rw [e0, lexGo_step f _ _ acc tk (by simp; omega) h (by omega), ht]
  have hd : (pre ++ (t ++ r)).drop (pre.length + t.length) = r := by
    rw [← List.append_assoc, show pre.length + t.length = (pre ++ t).length by simp, List.drop_left]
  unfold Tk.skipTo
  rw [hd, List.append_assoc, List.length_append]
theorem lxs_end (f : Nat) (pre : List UInt8) (acc : List Tk.Tok) : lxs (f + 1) pre [] acc = (acc ++ [⟨5, [], 0, pre.length⟩], pre.length, 0) := by
  unfold lxs
  rw [List.append_nil]
  exact lexGo_end f pre _ acc (by omega)

theorem drop_at (pre s : List UInt8) : (pre ++ s).drop pre.length = s := by simp
theorem getD_at (pre : List UInt8) (c : UInt8) (s : List UInt8) : (pre ++ c :: s).getD pre.length 0 = c := by simp [List.getD]
theorem take_end (p : UInt8 → Bool) (s r : List UInt8) (hs : ∀ c ∈ s, p c = true) (hr : EndR r) (h32 : p 32 = false) (h41 : p 41 = false) : (s ++ r).takeWhile p = s := by
  induction s with
  | nil =>
    rcases hr with rfl | ⟨c, r', rfl, rfl | rfl⟩
    · rfl
    · rw [List.nil_append, List.takeWhile_cons, if_neg (by rw [h32]; decide)]
    · rw [List.nil_append, List.takeWhile_cons, if_neg (by rw [h41]; decide)]
  | cons a s ih => rw [List.cons_append, List.takeWhile_cons, if_pos (hs a (by simp)), ih (fun c hc => hs c (by simp [hc]))]
theorem tok_numT (pre r : List UInt8) (n : Nat) (hn : n ≤ 9223372036854775807) (hr : EndR r) : Tk.tokAt (pre ++ (numText (n : Int) ++ r)) pre.length = .ok ⟨2, numText (n : Int), n, pre.length⟩ := by
  obtain ⟨⟨c, s, e, _⟩, hd⟩ := numText_starts n
  have hc := hd c (by rw [e]; simp)
  obtain ⟨_, _, hL⟩ := dig_nums c hc
  have htw := take_end Tk.isDig _ r hd hr (by decide) (by decide)
  have hv : Tk.numVal 0 (numText (n : Int)) = some n := by
    have e1 : numText (n : Int) = decLoop 20 n [] := by
      unfold numText
      rw [if_neg (by omega), Int.toNat_natCast]
    have h1 : decVal 0 (numText (n : Int)) = n := by
      rw [e1, decLoop_val 20 n [] (Nat.lt_of_le_of_lt hn (by decide)) (.inr (by omega)), decVal_nil]
    rw [numVal_small _ hd 0 (by rw [h1]; exact hn), h1]
  unfold Tk.tokAt
  have hg : (pre ++ (numText (n : Int) ++ r)).getD pre.length 0 = c := by rw [e]; exact getD_at pre c _
  rw [hg, if_neg (by simp [hL]), if_pos hc]
  unfold Tk.numAt
  rw [drop_at, htw]
  dsimp only
  rw [hv]
theorem tok_nameT (pre r s : List UInt8) (h : NmOk s) (hr : EndR r) : Tk.tokAt (pre ++ (s ++ r)) pre.length = .ok ⟨1, s, 0, pre.length⟩ := by
  obtain ⟨c, s', e, hc⟩ := h.head
  have htw := take_end Tk.isLD s r h.ld hr (by decide) (by decide)
  have hl := h.len
  have hv := h.resv
  unfold Tk.tokAt
  have hg : (pre ++ (s ++ r)).getD pre.length 0 = c := by rw [e]; exact getD_at pre c _
  rw [hg, if_pos hc]
  unfold Tk.nameAt
  rw [drop_at, htw]
  dsimp only
  rw [if_neg (by omega), hv]
  rfl
/-- a sign of one byte -/
theorem tok_sign1T (pre r : List UInt8) (c : UInt8) (hc : c = 40 ∨ c = 45 ∨ c = 33 ∨ c = 41) (hr : Starts r ∨ EndR r) : Tk.tokAt (pre ++ ([c] ++ r)) pre.length = .ok ⟨4, [c], 0, pre.length⟩ := by
  have hL : Tk.isLet c = false ∧ Tk.isDig c = false ∧ Tk.signs1.contains [c] = true := by rcases hc with rfl | rfl | rfl | rfl <;> decide
  have h2 : Tk.signs2.contains ((c :: r).take 2) = false := by
    have hn : ∀ d : UInt8, d ≠ 61 → Tk.signs2.contains [c, d] = false := by
      intro d hd
      rcases hc with rfl | rfl | rfl | rfl <;> simp [Tk.signs2, hd]
    cases r with
    | nil => rcases hc with rfl | rfl | rfl | rfl <;> decide
    | cons d r' =>
      refine hn d ?_
      rintro rfl
      rcases hr with ⟨c', r2, e, h⟩ | h
      · injection e with e _
        rw [← e] at h
        exact absurd h (by decide)
      · rcases h with h | ⟨c', r2, e, h⟩
        · cases h
        · injection e with e _
          rw [← e] at h
          exact absurd h (by decide)
  unfold Tk.tokAt
  rw [List.singleton_append, getD_at, if_neg (by rw [hL.1]; decide), if_neg (by rw [hL.2.1]; decide)]
  unfold Tk.signAt
  rw [drop_at, if_neg (by rw [h2]; intro h; exact absurd h.2 (by decide)), show (c :: r).take 1 = [c] from rfl, if_pos hL.2.2]
/-- the sign of a binary operator, before a blank -/
theorem tok_signB (pre r : List UInt8) (op : Nat) (ho : 5 ≤ op ∧ op ≤ 17) : Tk.tokAt (pre ++ (Ps.sgTab.getD op [] ++ 32 :: r)) pre.length = .ok ⟨4, Ps.sgTab.getD op [], 0, pre.length⟩ ∧ Tk.sepLen false (Ps.sgTab.getD op [] ++ 32 :: r) = 0 ∧ Ps.sgTab.getD op [] ≠ [] := by
  have hc : op = 5 ∨ op = 6 ∨ op = 7 ∨ op = 8 ∨ op = 9 ∨ op = 10 ∨ op = 11 ∨ op = 12 ∨ op = 13 ∨ op = 14 ∨ op = 15 ∨ op = 16 ∨ op = 17 := by omega
  have one : ∀ c : UInt8, Tk.isLet c = false → Tk.isDig c = false → Tk.signs2.contains [c, 32] = false → Tk.signs1.contains [c] = true → Tk.tokAt (pre ++ ([c] ++ 32 :: r)) pre.length = .ok ⟨4, [c], 0, pre.length⟩ := by
    intro c h1 h2 h3 h4
    unfold Tk.tokAt
    rw [List.singleton_append, getD_at, if_neg (by rw [h1]; decide), if_neg (by rw [h2]; decide)]
    unfold Tk.signAt
    rw [drop_at, show (c :: 32 :: r).take 2 = [c, 32] from rfl, if_neg (by rw [h3]; intro h; exact absurd h.2 (by decide)), show (c :: 32 :: r).take 1 = [c] from rfl, if_pos h4]
  have two : ∀ c d : UInt8, Tk.isLet c = false → Tk.isDig c = false → Tk.signs2.contains [c, d] = true → Tk.tokAt (pre ++ ([c, d] ++ 32 :: r)) pre.length = .ok ⟨4, [c, d], 0, pre.length⟩ := by
    intro c d h1 h2 h3
    unfold Tk.tokAt
    rw [show [c, d] ++ 32 :: r = c :: (d :: 32 :: r) from rfl, getD_at, if_neg (by rw [h1]; decide), if_neg (by rw [h2]; decide)]
    unfold Tk.signAt
    rw [drop_at, show (c :: d :: 32 :: r).take 2 = [c, d] from rfl, if_pos ⟨by simp, h3⟩]
  rcases hc with rfl | rfl | rfl | rfl | rfl | rfl | rfl | rfl | rfl | rfl | rfl | rfl | rfl
  · exact ⟨one 42 (by decide) (by decide) (by decide) (by decide), rfl, by decide⟩
  · exact ⟨one 47 (by decide) (by decide) (by decide) (by decide), rfl, by decide⟩
  · exact ⟨one 37 (by decide) (by decide) (by decide) (by decide), rfl, by decide⟩
  · exact ⟨one 43 (by decide) (by decide) (by decide) (by decide), rfl, by decide⟩
  · exact ⟨one 45 (by decide) (by decide) (by decide) (by decide), rfl, by decide⟩
  · exact ⟨one 60 (by decide) (by decide) (by decide) (by decide), rfl, by decide⟩
  · exact ⟨two 60 61 (by decide) (by decide) (by decide), rfl, by decide⟩
  · exact ⟨one 62 (by decide) (by decide) (by decide) (by decide), rfl, by decide⟩
  · exact ⟨two 62 61 (by decide) (by decide) (by decide), rfl, by decide⟩
  · exact ⟨two 61 61 (by decide) (by decide) (by decide), rfl, by decide⟩
  · exact ⟨two 33 61 (by decide) (by decide) (by decide), rfl, by decide⟩
  · exact ⟨two 38 38 (by decide) (by decide) (by decide), rfl, by decide⟩
  · exact ⟨two 124 124 (by decide) (by decide) (by decide), rfl, by decide⟩

/-- a piece of text has these tokens -/
def LexP (s : List UInt8) (l : List K3) : Prop := ∀ (pre r : List UInt8) (f : Nat) (acc : List Tk.Tok), EndR r → acc.length + l.length ≤ 4000 → ∃ toks : List Tk.Tok, toks.map k3 = l ∧ lxs (f + l.length) pre (s ++ r) acc = lxs f (pre ++ s) r (acc ++ toks)
theorem starts_append {s r : List UInt8} (h : Starts s) : Starts (s ++ r) := by
  obtain ⟨c, s', e, hc⟩ := h
  exact ⟨c, s' ++ r, by rw [e]; rfl, hc⟩
theorem starts_sep {s : List UInt8} (h : Starts s) : Tk.sepLen false s = 0 := by
  obtain ⟨c, s', e, hc⟩ := h
  rw [e]
  exact sep_start s' hc
/-- in parentheses -/
theorem lexP_par {s : List UInt8} {l : List K3} (hS : Starts s) (h : LexP s l) : LexP (40 :: (s ++ [41])) ((4, [40], 0) :: (l ++ [(4, [41], 0)])) := by
  intro pre r f acc hr ha
  simp only [List.length_cons, List.length_append, List.length_nil] at ha
  have e1 : lxs (f + ((4, [40], 0) :: (l ++ [(4, [41], 0)]) : List K3).length) pre (40 :: (s ++ [41]) ++ r) acc = lxs (f + (l.length + 1)) (pre ++ [40]) (s ++ (41 :: r)) (acc ++ [⟨4, [40], 0, pre.length⟩]) := by
    have h0 := lxs_tok (f + (l.length + 1)) pre [40] (s ++ (41 :: r)) acc ⟨4, [40], 0, pre.length⟩ (tok_sign1T pre _ 40 (.inl rfl) (.inl (starts_append hS))) rfl (by simp) (sep_start _ (by decide)) (by omega)
    have e2 : 40 :: (s ++ [41]) ++ r = [40] ++ (s ++ (41 :: r)) := by simp
    rw [e2, ← h0]
    congr 1
    simp
    omega
  obtain ⟨toks, hm, h2⟩ := h (pre ++ [40]) (41 :: r) (f + 1) (acc ++ [⟨4, [40], 0, pre.length⟩]) (.inr ⟨41, r, rfl, .inr rfl⟩) (by simp; omega)
  have hlt : toks.length = l.length := by rw [← hm, List.length_map]
  have h3 := lxs_tok f (pre ++ [40] ++ s) [41] r (acc ++ [⟨4, [40], 0, pre.length⟩] ++ toks) ⟨4, [41], 0, (pre ++ [40] ++ s).length⟩ (tok_sign1T _ _ 41 (.inr (.inr (.inr rfl))) (.inr hr)) rfl (by simp) (by rw [List.singleton_append, Tk.sepLen_f]; rfl) (by simp; omega)
  refine ⟨⟨4, [40], 0, pre.length⟩ :: (toks ++ [⟨4, [41], 0, (pre ++ [40] ++ s).length⟩]), ?_, ?_⟩
  · simp [k3, hm]
  · rw [e1, show f + (l.length + 1) = f + 1 + l.length by omega, h2]
    have e3 : 41 :: r = [41] ++ r := rfl
    rw [e3, h3]
    simp
theorem lexP_part {op : Int} {k : Nat} {e : Ex} {l : List K3} (hS : Starts (exText e)) (h : LexP (exText e) l) : LexP (partText op k e) (parK (innerV op e.op k) l) := by
  unfold partText parK
  split
  · exact lexP_par hS h
  · exact h
theorem tk_lex {E : Ex} {l : List K3} (h : TkOf E l) : LexP (exText E) l := by
  induction h with
  | num n hn =>
    intro pre r f acc hr ha
    have e : exText (.mk 1 (n : Int) [] []) = numText (n : Int) := by rw [exText_mk]; rfl
    obtain ⟨hs, hd⟩ := numText_starts n
    rw [e]
    refine ⟨[⟨2, numText (n : Int), n, pre.length⟩], rfl, ?_⟩
    exact lxs_tok f pre _ r acc _ (tok_numT pre r n hn hr) rfl (by obtain ⟨c, s, e, _⟩ := hs; rw [e]; simp) (starts_sep (starts_append hs)) (by simp at ha; omega)
  | name s h =>
    intro pre r f acc hr ha
    have e : exText (.mk 2 0 s []) = s := by rw [exText_mk]; rfl
    have hs : Starts s := by
      obtain ⟨c, r, e, hc⟩ := h.head
      exact ⟨c, r, e, by unfold startB; rw [hc]; rfl⟩
    rw [e]
    refine ⟨[⟨1, s, 0, pre.length⟩], rfl, ?_⟩
    exact lxs_tok f pre _ r acc _ (tok_nameT pre r s h hr) rfl (by obtain ⟨c, s, e, _⟩ := hs; rw [e]; simp) (starts_sep (starts_append hs)) (by simp at ha; omega)
  | un op ho a la hta ih =>
    intro pre r f acc hr ha
    rw [un_text op ho a]
    have hpS : Starts (partText op 0 a) := part_starts (tk_starts hta)
    have hp : LexP (partText op 0 a) (parK (innerV op a.op 0) la) := lexP_part (tk_starts hta) ih
    generalize partText op 0 a = P at *
    generalize parK (innerV op a.op 0) la = L at *
    simp only [List.length_cons] at ha
    obtain ⟨c, hc, hcv⟩ : ∃ c, Ps.sgTab.getD op [] = [c] ∧ (c = 40 ∨ c = 45 ∨ c = 33 ∨ c = 41) := by
      rcases ho with rfl | rfl
      · exact ⟨45, rfl, .inr (.inl rfl)⟩
      · exact ⟨33, rfl, .inr (.inr (.inl rfl))⟩
    have hst : startB c = true ∨ c = 41 := by rcases hcv with rfl | rfl | rfl | rfl <;> decide
    rw [hc]
    have h0 := lxs_tok (f + L.length) pre [c] (P ++ r) acc ⟨4, [c], 0, pre.length⟩ (tok_sign1T pre _ c hcv (.inl (starts_append hpS))) rfl (by simp) (by
      rcases hcv with rfl | rfl | rfl | rfl
      · exact sep_start _ (by decide)
      · exact sep_start _ (by decide)
      · exact sep_start _ (by decide)
      · rw [List.singleton_append, Tk.sepLen_f]; rfl) (by omega)
    obtain ⟨toks, hm, h2⟩ := hp (pre ++ [c]) r f (acc ++ [⟨4, [c], 0, pre.length⟩]) hr (by simp; omega)
    refine ⟨⟨4, [c], 0, pre.length⟩ :: toks, by simp [k3, hm], ?_⟩
    have e2 : [c] ++ P ++ r = [c] ++ (P ++ r) := by simp
    rw [e2, show f + ((4, [c], 0) :: L : List K3).length = f + L.length + 1 by simp; omega, h0, h2]
    simp
  | bin op ho a b la lb hta htb iha ihb =>
    intro pre r f acc hr ha
    rw [bin_text op ho a b]
    have hpS : Starts (partText op 1 b) := part_starts (tk_starts htb)
    have hp : LexP (partText op 0 a) (parK (innerV op a.op 0) la) := lexP_part (tk_starts hta) iha
    have hq : LexP (partText op 1 b) (parK (innerV op b.op 1) lb) := lexP_part (tk_starts htb) ihb
    generalize partText op 0 a = P at *
    generalize partText op 1 b = Q at *
    generalize parK (innerV op a.op 0) la = L at *
    generalize parK (innerV op b.op 1) lb = M at *
    simp only [List.length_cons, List.length_append] at ha
    obtain ⟨t1, hm1, h1⟩ := hp pre (32 :: (Ps.sgTab.getD op [] ++ 32 :: (Q ++ r))) (f + M.length + 1) acc (.inr ⟨32, _, rfl, .inl rfl⟩) (by omega)
    have hl1 : t1.length = L.length := by rw [← hm1, List.length_map]
    obtain ⟨hk, hsep, hne⟩ := tok_signB (pre ++ P ++ [32]) (Q ++ r) op ho
    have h2 := lxs_tok (f + M.length) (pre ++ P ++ [32]) (Ps.sgTab.getD op []) (32 :: (Q ++ r)) (acc ++ t1) _ hk rfl hne hsep (by simp; omega)
    obtain ⟨t3, hm3, h3⟩ := hq (pre ++ P ++ [32] ++ Ps.sgTab.getD op [] ++ [32]) r f (acc ++ t1 ++ [⟨4, Ps.sgTab.getD op [], 0, (pre ++ P ++ [32]).length⟩]) hr (by simp; omega)
    refine ⟨t1 ++ ⟨4, Ps.sgTab.getD op [], 0, (pre ++ P ++ [32]).length⟩ :: t3, by simp [k3, hm1, hm3], ?_⟩
    have e2 : P ++ 32 :: (Ps.sgTab.getD op [] ++ 32 :: Q) ++ r = P ++ 32 :: (Ps.sgTab.getD op [] ++ 32 :: (Q ++ r)) := by simp
    rw [e2, show f + (L ++ (4, Ps.sgTab.getD op [], 0) :: M : List K3).length = f + M.length + 1 + L.length by simp; omega, h1, lxs_space, h2, lxs_space, h3]
    simp
end Go.Proofs.YtbnbmibfjobacaaDoor

namespace Go.Proofs.YtbnbmibfjobacaaDoor
open Go.RowKit

/-- the tokens from a place on are these -/
def AtK (ts : List Tk.Tok) (k : Nat) (l : List K3) : Prop := ∀ i (h : i < l.length), (ts[k + i]?).map k3 = some l[i]
theorem AtK.left {ts : List Tk.Tok} {k : Nat} {l m : List K3} (h : AtK ts k (l ++ m)) : AtK ts k l := by
  intro i hi
  have h1 := h i (by simp; omega)
  rw [List.getElem_append_left hi] at h1
  exact h1
theorem AtK.right {ts : List Tk.Tok} {k : Nat} {l m : List K3} (h : AtK ts k (l ++ m)) : AtK ts (k + l.length) m := by
  intro i hi
  have h1 := h (l.length + i) (by simp; omega)
  rw [List.getElem_append_right (by omega)] at h1
  simp only [Nat.add_sub_cancel_left] at h1
  rw [Nat.add_assoc]
  exact h1
theorem AtK.tail {ts : List Tk.Tok} {k : Nat} {x : K3} {l : List K3} (h : AtK ts k (x :: l)) : AtK ts (k + 1) l := (show AtK ts k ([x] ++ l) from h).right
theorem AtK.head {ts : List Tk.Tok} {k a c : Nat} {b : List UInt8} {l : List K3} (h : AtK ts k ((a, b, c) :: l)) : Ps.kindAt ts k = a ∧ Ps.textAt ts k = b ∧ Ps.numAt ts k = c ∧ (a = 4 → Ps.sgn ts k = b) := by
  have h1 := h 0 (by simp)
  rw [Nat.add_zero, List.getElem_cons_zero] at h1
  cases ht : ts[k]? with
  | none => rw [ht] at h1; cases h1
  | some t =>
    rw [ht] at h1
    injection h1 with h1
    unfold k3 at h1
    injection h1 with e1 e2
    injection e2 with e2 e3
    refine ⟨?_, ?_, ?_, ?_⟩
    · unfold Ps.kindAt; rw [ht]; exact e1
    · unfold Ps.textAt; rw [ht]; exact e2
    · unfold Ps.numAt; rw [ht]; exact e3
    · intro h4
      unfold Ps.sgn
      rw [ht]
      dsimp only
      rw [if_pos (e1.trans h4)]
      exact e2
theorem po_pe {ts : List Tk.Tok} {o k m lv : Nat} {E : Ex} (h : Ps.PO ts o k = .ok E m) (hl : 1 ≤ lv) : Ps.PE ts lv o k = Ps.PC ts lv o E m := by
  rw [Ps.PE_eq ts lv o k hl, h]
  rfl
theorem paren_po {ts : List Tk.Tok} {o k m : Nat} {E : Ex} {l : List K3} (hA : AtK ts k ((4, [40], 0) :: l)) (ho : o < 24) (h : Ps.PE ts 1 (o + 1) (k + 1) = Ps.PC ts 1 (o + 1) E m) (hm : Ps.sgn ts m = [41]) : Ps.PO ts o k = .ok E (m + 1) := by
  obtain ⟨h1, _, _, h4⟩ := hA.head
  have hs := h4 rfl
  rw [Ps.PO_eq, if_neg (by rw [h1]; decide), if_neg (by rw [h1]; decide), hs, if_neg (by intro h; exact absurd rfl h.2), if_neg (by omega), if_pos (by decide), h, Ps.PC_stop ts 1 (o + 1) E m (by rw [hm]; decide)]
  show (if Ps.sgn ts m = [41] then _ else _) = _
  rw [if_pos hm]
theorem bin_tab : ((List.range 13).all fun k => Ps.bop (Ps.sgTab.getD (k + 5) []) == k + 5 && (Ps.strD ((k + 5 : Nat) : Int) == strV ((k + 5 : Nat) : Int) + 1 && decide (strV ((k + 5 : Nat) : Int) ≤ 4))) = true := by kernel_rfl
theorem bin_facts (op : Nat) (ho : 5 ≤ op ∧ op ≤ 17) : Ps.bop (Ps.sgTab.getD op []) = op ∧ Ps.strD (op : Int) = strV (op : Int) + 1 ∧ strV (op : Int) ≤ 4 := by
  have h := List.all_eq_true.1 bin_tab (op - 5) (List.mem_range.2 (by omega))
  rw [show op - 5 + 5 = op by omega] at h
  simpa using h
theorem inner_no {op aop : Int} {k : Nat} (h : innerV op aop k = false) : strV op ≤ strV aop ∧ (k = 1 → strV op < strV aop) := by
  unfold innerV at h
  simp at h
  refine ⟨by omega, fun hk => ?_⟩
  have := h.2
  subst hk
  by_cases e : strV aop = strV op
  · exact absurd rfl (this e)
  · omega

/-- what is asked of an expression and its tokens -/
def TkP (E : Ex) (l : List K3) : Prop :=
  (∀ ts k o, AtK ts k l → o + exHt E ≤ 24 → 5 ≤ strV E.op → Ps.PO ts o k = .ok E (k + l.length)) ∧
  (∀ ts k o lv, AtK ts k l → o + exHt E ≤ 24 → 1 ≤ lv → lv ≤ strV E.op + 1 → Ps.strD (Ps.bop (Ps.sgn ts (k + l.length)) : Int) ≤ strV E.op + 1 → Ps.PE ts lv o k = Ps.PC ts lv o E (k + l.length))
/-- in parentheses -/
theorem par_po {E : Ex} {l : List K3} (h : TkP E l) (ts : List Tk.Tok) (k o : Nat) (hA : AtK ts k (parK true l)) (hh : o + exHt E + 1 ≤ 24) : Ps.PO ts o k = .ok E (k + (parK true l).length) := by
  have hA' : AtK ts k ((4, [40], 0) :: (l ++ [(4, [41], 0)])) := hA
  have h1 := hA'.tail.left
  have h2 := hA'.tail.right
  obtain ⟨_, _, _, h4⟩ := h2.head
  have hm := h4 rfl
  have h5 := h.2 ts (k + 1) (o + 1) 1 h1 (by omega) (by omega) (by omega) (by rw [hm]; exact Nat.zero_le _)
  rw [paren_po hA' (by omega) h5 hm]
  congr 1
  unfold parK
  simp
  omega
theorem parK_len (q : Bool) (l : List K3) : (parK q l).length = l.length + (if q then 2 else 0) := by
  unfold parK
  cases q <;> simp
theorem tk_parse {E : Ex} {l : List K3} (h : TkOf E l) : TkP E l := by
  induction h with
  | num n hn =>
    have hO : ∀ ts k o, AtK ts k [(2, numText (n : Int), n)] → Ps.PO ts o k = .ok (.mk 1 (n : Int) [] []) (k + 1) := by
      intro ts k o hA
      obtain ⟨h1, _, h3, _⟩ := hA.head
      rw [Ps.PO_eq, if_pos h1, h3]
    exact ⟨fun ts k o hA _ _ => hO ts k o hA, fun ts k o lv hA _ hl _ _ => po_pe (hO ts k o hA) hl⟩
  | name s hs =>
    have hO : ∀ ts k o, AtK ts k [(1, s, 0)] → Ps.PO ts o k = .ok (.mk 2 0 s []) (k + 1) := by
      intro ts k o hA
      obtain ⟨h1, h2, _, _⟩ := hA.head
      rw [Ps.PO_eq, if_neg (by rw [h1]; decide), if_pos h1, h2]
    exact ⟨fun ts k o hA _ _ => hO ts k o hA, fun ts k o lv hA _ hl _ _ => po_pe (hO ts k o hA) hl⟩
  | un op ho a la hta ih =>
    have h5 : strV (op : Int) = 5 := by rcases ho with rfl | rfl <;> rfl
    have hht : exHt (.mk (op : Int) 0 [] [a]) = exHt a + (if innerV op a.op 0 then 1 else 0) + 1 := by
      rw [exHt_mk, exHts_cons, exHts_nil, if_pos h5]
      unfold htPart
      omega
    have hO : ∀ ts k o, AtK ts k ((4, Ps.sgTab.getD op [], 0) :: parK (innerV op a.op 0) la) → o + exHt (.mk (op : Int) 0 [] [a]) ≤ 24 → Ps.PO ts o k = .ok (.mk (op : Int) 0 [] [a]) (k + ((4, Ps.sgTab.getD op [], 0) :: parK (innerV op a.op 0) la).length) := by
      intro ts k o hA hh
      obtain ⟨h1, _, _, h4⟩ := hA.head
      have hs := h4 rfl
      have hu : Ps.uop (Ps.sgTab.getD op []) = op := by rcases ho with rfl | rfl <;> decide
      rw [hht] at hh
      rw [Ps.PO_eq, if_neg (by rw [h1]; decide), if_neg (by rw [h1]; decide), hs, hu, if_neg (by intro h; have := h.1; omega), if_neg (by omega), if_neg (by omega)]
      have hp : Ps.PO ts (o + 1) (k + 1) = .ok a (k + 1 + (parK (innerV op a.op 0) la).length) := by
        have hA2 := hA.tail
        cases hq : innerV (op : Int) a.op 0 with
        | true =>
          rw [hq] at hA2 hh
          exact par_po ih ts (k + 1) (o + 1) hA2 (by simp at hh; omega)
        | false =>
          rw [hq] at hA2 hh
          have := (inner_no hq).1
          exact ih.1 ts (k + 1) (o + 1) hA2 (by simp at hh; omega) (by omega)
      rw [hp]
      show Ps.R.ok _ _ = _
      congr 1
      simp
      omega
    exact ⟨fun ts k o hA hh _ => hO ts k o hA hh, fun ts k o lv hA hh hl _ _ => po_pe (hO ts k o hA hh) hl⟩
  | bin op ho a b la lb hta htb iha ihb =>
    obtain ⟨hbop, hstr, hs4⟩ := bin_facts op ho
    have hht : exHt (.mk (op : Int) 0 [] [a, b]) = max (exHt a + (if innerV op a.op 0 then 1 else 0)) (exHt b + (if innerV op b.op 1 then 1 else 0)) := by
      rw [exHt_mk, exHts_cons, exHts_cons, exHts_nil, if_neg (by omega)]
      simp only [htPart, Nat.zero_add]
      omega
    refine ⟨fun ts k o hA hh h5 => absurd (show 5 ≤ strV (op : Int) from h5) (by omega), ?_⟩
    intro ts k o lv hA hh hl1 hl2 hnx
    have hl2' : lv ≤ strV (op : Int) + 1 := hl2
    have hnx' : Ps.strD (Ps.bop (Ps.sgn ts (k + (parK (innerV op a.op 0) la ++ (4, Ps.sgTab.getD op [], 0) :: parK (innerV op b.op 1) lb).length)) : Int) ≤ strV (op : Int) + 1 := hnx
    rw [hht] at hh
    have hAa := hA.left
    have hAs := hA.right
    obtain ⟨_, _, _, h4⟩ := hAs.head
    have hsg := h4 rfl
    have hAb := hAs.tail
    have hend : k + (parK (innerV op a.op 0) la ++ (4, Ps.sgTab.getD op [], 0) :: parK (innerV op b.op 1) lb).length = k + (parK (innerV op a.op 0) la).length + 1 + (parK (innerV op b.op 1) lb).length := by simp; omega
    rw [hend] at hnx' ⊢
    have hpa : Ps.PE ts lv o k = Ps.PC ts lv o a (k + (parK (innerV op a.op 0) la).length) := by
      cases hq : innerV (op : Int) a.op 0 with
      | true =>
        rw [hq] at hAa hh
        exact po_pe (par_po iha ts k o hAa (by simp at hh; omega)) hl1
      | false =>
        rw [hq] at hAa hh hsg
        have h0 := (inner_no hq).1
        exact iha.2 ts k o lv hAa (by simp at hh; omega) hl1 (by omega) (by
          have e : parK false la = la := rfl
          rw [e] at hsg
          rw [hsg, hbop, hstr]
          omega)
    have hpb : Ps.PE ts (strV (op : Int) + 2) o (k + (parK (innerV op a.op 0) la).length + 1) = .ok b (k + (parK (innerV op a.op 0) la).length + 1 + (parK (innerV op b.op 1) lb).length) := by
      generalize k + (parK (innerV op a.op 0) la).length + 1 = k2 at *
      have hstop : ∀ m, m = k2 + (parK (innerV op b.op 1) lb).length → Ps.PC ts (strV (op : Int) + 2) o b m = .ok b m := fun m hm => Ps.PC_stop _ _ _ _ _ (by rw [hm]; omega)
      cases hq : innerV (op : Int) b.op 1 with
      | true =>
        rw [hq] at hAb hh hstop
        rw [po_pe (par_po ihb ts k2 o hAb (by simp at hh; omega)) (by omega)]
        exact hstop _ rfl
      | false =>
        rw [hq] at hAb hh hstop hnx'
        have h0 := (inner_no hq).2 rfl
        rw [ihb.2 ts k2 o (strV (op : Int) + 2) hAb (by simp at hh; omega) (by omega) (by omega) (by
          have e : parK false lb = lb := rfl
          rw [e] at hnx'
          omega)]
        exact hstop _ rfl
    rw [hpa, Ps.PC_go ts lv o a _ hl1 (by rw [hsg, hbop, hstr]; omega), hsg, hbop, hstr, hpb]
    rfl

theorem tk_len {E : Ex} {l : List K3} (h : TkOf E l) : l.length ≤ (exText E).length := by
  have hpt : ∀ (op : Int) (k : Nat) (e : Ex) (l : List K3), l.length ≤ (exText e).length → (parK (innerV op e.op k) l).length ≤ (partText op k e).length := by
    intro op k e l h
    unfold partText parK
    split
    · simp; omega
    · exact h
  induction h with
  | num n hn =>
    have e : exText (.mk 1 (n : Int) [] []) = numText (n : Int) := by rw [exText_mk]; rfl
    obtain ⟨⟨c, s, e2, _⟩, _⟩ := numText_starts n
    rw [e, e2]
    simp
  | name s hs =>
    have e : exText (.mk 2 0 s []) = s := by rw [exText_mk]; rfl
    obtain ⟨c, r, e2, _⟩ := hs.head
    rw [e, e2]
    simp
  | un op ho a la hta ih =>
    rw [un_text op ho a]
    have := hpt (op : Int) 0 a la ih
    rcases ho with rfl | rfl
    · simp [Ps.sgTab] at this ⊢; omega
    · simp [Ps.sgTab] at this ⊢; omega
  | bin op ho a b la lb hta htb iha ihb =>
    rw [bin_text op ho a b]
    have h1 := hpt (op : Int) 0 a la iha
    have h2 := hpt (op : Int) 1 b lb ihb
    simp
    omega
/-- the text of an expression in two pairs of parentheses -/
def dblT (s : List UInt8) : List UInt8 := 40 :: 40 :: (s ++ [41, 41])
theorem dbl_parse {E : Ex} {l : List K3} (h : TkOf E l) (hl : (exText E).length ≤ 3000) (hh : exHt E ≤ 20) : ∃ m : Nat, parseV (Tk.lex (dblT (exText E))).1 0 = (E, (m : Int), 0) := by
  have hS := tk_starts h
  have hlen := tk_len h
  have h1 := lexP_par hS (tk_lex h)
  have hS1 : Starts (40 :: (exText E ++ [41])) := ⟨40, _, rfl, by decide⟩
  have h2 := lexP_par hS1 h1
  have eT : (40 :: (40 :: (exText E ++ [41]) ++ [41]) : List UInt8) = dblT (exText E) := by unfold dblT; simp
  rw [eT] at h2
  have hTl : (dblT (exText E)).length = (exText E).length + 4 := by unfold dblT; simp
  obtain ⟨K, hK⟩ : ∃ K, K = ((4, [40], 0) :: (((4, [40], 0) :: (l ++ [(4, [41], 0)])) ++ [(4, [41], 0)]) : List K3) := ⟨_, rfl⟩
  rw [← hK] at h2
  have hKl : K.length = l.length + 4 := by rw [hK]; simp
  obtain ⟨toks, hm, hx⟩ := h2 [] [] ((dblT (exText E)).length - K.length + 1) [] (.inl rfl) (by simp; omega)
  have htl : toks.length = K.length := by rw [← hm, List.length_map]
  have hlex : Tk.lex (dblT (exText E)) = (toks ++ [⟨5, [], 0, (dblT (exText E)).length⟩], (dblT (exText E)).length, 0) := by
    unfold Tk.lex
    rw [if_neg (by omega)]
    have e1 : Tk.lexGo ((dblT (exText E)).length + 1) (dblT (exText E)) (Tk.skipTo (dblT (exText E)) 0) [] = lxs ((dblT (exText E)).length - K.length + 1 + K.length) [] (dblT (exText E) ++ []) [] := by
      unfold lxs Tk.skipTo
      rw [List.append_nil, List.nil_append, List.drop_zero, show (dblT (exText E)).length - K.length + 1 + K.length = (dblT (exText E)).length + 1 by omega]
      rfl
    rw [e1, hx, lxs_end]
    simp
  rw [hlex]
  obtain ⟨ts, hts⟩ : ∃ ts, ts = toks ++ [(⟨5, [], 0, (dblT (exText E)).length⟩ : Tk.Tok)] := ⟨_, rfl⟩
  have hA : AtK ts 0 K := by
    intro i hi
    rw [hts, Nat.zero_add, List.getElem?_append_left (by omega), ← List.getElem?_map, hm, List.getElem?_eq_getElem hi]
  have hlast : ts[K.length]? = some ⟨5, [], 0, (dblT (exText E)).length⟩ := by
    rw [hts, List.getElem?_append_right (by omega), htl, Nat.sub_self]
    rfl
  have htsl : ts.length = K.length + 1 := by rw [hts, List.length_append, htl]; rfl
  rw [← hts]
  clear hts hlex hx hm h2 h1
  rw [hK] at hA
  have hA1 := hA.tail.left
  have hA2 := hA.tail.right
  obtain ⟨_, _, _, h4⟩ := hA2.head
  have hsg := h4 rfl
  have hP1 := par_po (tk_parse h) ts (0 + 1) 1 hA1 (by omega)
  have hm1 : 0 + 1 + (parK true l).length = 0 + 1 + ((4, [40], 0) :: (l ++ [(4, [41], 0)]) : List K3).length := rfl
  rw [hm1] at hP1
  have hP0 := paren_po hA (by omega) (po_pe hP1 (by omega)) hsg
  have hend : 0 + 1 + ((4, [40], 0) :: (l ++ [(4, [41], 0)]) : List K3).length + 1 = K.length := by rw [hK]; simp; omega
  rw [hend] at hP0
  have hsE : Ps.sgn ts K.length = [] := by unfold Ps.sgn; rw [hlast]; rfl
  have hkE : Ps.kindAt ts (ts.length - 1) = 5 := by unfold Ps.kindAt; rw [htsl, Nat.add_sub_cancel, hlast]
  have hPE : Ps.PE ts 1 0 0 = .ok E K.length := by
    rw [po_pe hP0 (by omega), Ps.PC_stop ts 1 0 E K.length (by rw [hsE]; decide)]
  refine ⟨K.length, ?_⟩
  unfold parseV
  rw [if_pos ⟨Int.le_refl 0, by rw [htsl]; omega, hkE⟩]
  show ((Ps.PE ts 1 0 0).ex, ((Ps.PE ts 1 0 0).at_ : Int), (Ps.PE ts 1 0 0).err) = _
  rw [hPE]
  rfl
end Go.Proofs.YtbnbmibfjobacaaDoor
