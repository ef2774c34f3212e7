/- The tokens of texts that are put together out of pieces: plain. No statement of the program is proved in this file. -/
import Derived.Test.YtjjooekkieddbaaDoorGTok
namespace Go.Proofs.YtjjooekkieddbaaDoor

/-- a token without its place: kind, text, number -/
def kt (t : Tk.Tok) : Nat × List UInt8 × Nat := (t.kind, t.text, t.num)
/-- the rest of a text, from its first token on -/
def lxt (f : Nat) (pre s : List UInt8) (acc : List Tk.Tok) : List Tk.Tok × Nat × Nat := Tk.lexGo f (pre ++ s) (pre.length + Tk.sepLen false s) acc
theorem lxt_space (f : Nat) (pre s : List UInt8) (acc : List Tk.Tok) : lxt f pre (32 :: s) acc = lxt f (pre ++ [32]) s acc := by
  unfold lxt
  have h1 : Tk.sepLen false (32 :: s) = Tk.sepLen false s + 1 := by rw [Tk.sepLen_f, if_pos (by decide)]
  rw [h1, List.append_assoc]
  simp only [List.length_append, List.length_singleton, List.singleton_append]
  congr 1
  omega
theorem lxt_tok (f : Nat) (pre t r : List UInt8) (acc : List Tk.Tok) (tk : Tk.Tok) (h : Tk.tokAt (pre ++ (t ++ r)) pre.length = .ok tk) (ht : tk.text = t) (hne : t ≠ []) (hs : Tk.sepLen false (t ++ r) = 0) (ha : acc.length < 4000) :
    lxt (f + 1) pre (t ++ r) acc = lxt f (pre ++ t) r (acc ++ [tk]) := by
  have hl : 0 < t.length := List.length_pos_iff.2 hne
  have e0 : pre.length + Tk.sepLen false (t ++ r) = pre.length := by rw [hs]; rfl
  unfold lxt
  rw [e0, lexGo_step f _ _ acc tk (by simp; omega) h (by omega), ht]
  have hd : (pre ++ (t ++ r)).drop (pre.length + t.length) = r := by
    rw [← List.append_assoc, show pre.length + t.length = (pre ++ t).length by simp, List.drop_left]
  unfold Tk.skipTo
  rw [hd, List.append_assoc, List.length_append]
theorem lxt_end (f : Nat) (pre : List UInt8) (acc : List Tk.Tok) : lxt (f + 1) pre [] acc = (acc ++ [⟨5, [], 0, pre.length⟩], pre.length, 0) := by
  unfold lxt
  rw [List.append_nil]
  exact lexGo_end f pre _ acc (by omega)
theorem drop_on (pre s : List UInt8) : (pre ++ s).drop pre.length = s := by simp
theorem getD_on (pre : List UInt8) (c : UInt8) (s : List UInt8) : (pre ++ c :: s).getD pre.length 0 = c := by simp [List.getD]
/-- no letter and no digit comes next -/
def EndW (r : List UInt8) : Prop := ∀ c r', r = c :: r' → Tk.isLD c = false
theorem take_on (p : UInt8 → Bool) (s r : List UInt8) (hs : s.all p = true) (hr : ∀ c r', r = c :: r' → p c = false) : (s ++ r).takeWhile p = s := by
  induction s with
  | nil =>
    cases r with
    | nil => rfl
    | cons c r => rw [List.nil_append, List.takeWhile_cons, if_neg (by rw [hr c r rfl]; decide)]
  | cons a s ih =>
    rw [List.all_cons, Bool.and_eq_true] at hs
    rw [List.cons_append, List.takeWhile_cons, if_pos hs.1, ih hs.2]
/-- a word -/
def wordB (s : List UInt8) : Bool := s.all Tk.isLD && decide (s.length ≤ 16) && (match s with | [] => false | c :: _ => Tk.isLet c)
theorem sep_let (c : UInt8) (r : List UInt8) (h : Tk.isLD c = true) : Tk.sepLen false (c :: r) = 0 := by
  have h1 : Tk.isSpc c = false ∧ c.toNat ≠ 47 := by
    unfold Tk.isLD Tk.isLet Tk.isDig at h
    unfold Tk.isSpc
    simp at h ⊢
    omega
  rw [Tk.sepLen_f, if_neg (by rw [h1.1]; decide), if_neg (fun h => h1.2 h.1)]
theorem lxt_word (f : Nat) (pre s r : List UInt8) (acc : List Tk.Tok) (h : wordB s = true) (hr : EndW r) (ha : acc.length < 4000) :
    lxt (f + 1) pre (s ++ r) acc = lxt f (pre ++ s) r (acc ++ [⟨if Tk.resv s then 3 else 1, s, 0, pre.length⟩]) := by
  cases s with
  | nil => simp [wordB] at h
  | cons c s =>
    unfold wordB at h
    simp only [Bool.and_eq_true, decide_eq_true_eq] at h
    obtain ⟨⟨h1, h2⟩, h3⟩ := h
    have hld : Tk.isLD c = true := by unfold Tk.isLD; rw [h3]; rfl
    refine lxt_tok f pre (c :: s) r acc _ ?_ rfl (by simp) (sep_let c _ hld) ha
    unfold Tk.tokAt
    rw [show pre ++ (c :: s ++ r) = pre ++ c :: (s ++ r) from rfl, getD_on, if_pos h3]
    unfold Tk.nameAt
    rw [drop_on, show c :: (s ++ r) = (c :: s) ++ r from rfl, take_on Tk.isLD (c :: s) r h1 hr]
    dsimp only
    rw [if_neg (by omega)]
theorem lxt_num (f : Nat) (pre r : List UInt8) (c : UInt8) (acc : List Tk.Tok) (h : Tk.isDig c = true) (hl : Tk.isLet c = false) (hr : EndW r) (ha : acc.length < 4000) :
    lxt (f + 1) pre (c :: r) acc = lxt f (pre ++ [c]) r (acc ++ [⟨2, [c], c.toNat - 48, pre.length⟩]) := by
  refine lxt_tok f pre [c] r acc _ ?_ rfl (by simp) (sep_let c _ (by unfold Tk.isLD; rw [h]; simp)) ha
  unfold Tk.tokAt
  rw [show pre ++ ([c] ++ r) = pre ++ c :: r from rfl, getD_on, if_neg (by rw [hl]; decide), if_pos h]
  unfold Tk.numAt
  rw [drop_on, show c :: r = [c] ++ r from rfl, take_on Tk.isDig [c] r (by simp [h]) (fun c r' e => by have := hr c r' e; unfold Tk.isLD at this; simp at this; exact this.2)]
  have hc : c.toNat ≤ 57 ∧ 48 ≤ c.toNat := by unfold Tk.isDig at h; simp at h; omega
  have hv : Tk.numVal 0 [c] = some (c.toNat - 48) := by
    rw [Tk.numVal, if_neg (by omega), Tk.numVal]
    simp
  dsimp only
  rw [hv]
/-- a sign that begins no other -/
def sgB (c : UInt8) : Bool := c == 59 || c == 40 || c == 41 || c == 123 || c == 125 || c == 91 || c == 93 || c == 44
theorem sgB_cases {c : UInt8} (h : sgB c = true) : c = 59 ∨ c = 40 ∨ c = 41 ∨ c = 123 ∨ c = 125 ∨ c = 91 ∨ c = 93 ∨ c = 44 := by
  unfold sgB at h
  simpa [or_assoc] using h
theorem lxt_sg (f : Nat) (pre r : List UInt8) (c : UInt8) (acc : List Tk.Tok) (h : sgB c = true) (ha : acc.length < 4000) :
    lxt (f + 1) pre (c :: r) acc = lxt f (pre ++ [c]) r (acc ++ [⟨4, [c], 0, pre.length⟩]) := by
  have hc := sgB_cases h
  have hL : Tk.isLet c = false ∧ Tk.isDig c = false ∧ Tk.signs1.contains [c] = true ∧ Tk.isSpc c = false ∧ c.toNat ≠ 47 := by
    rcases hc with rfl | rfl | rfl | rfl | rfl | rfl | rfl | rfl <;> decide
  have h2 : Tk.signs2.contains ((c :: r).take 2) = false := by
    cases r with
    | nil => rcases hc with rfl | rfl | rfl | rfl | rfl | rfl | rfl | rfl <;> decide
    | cons d r' => rcases hc with rfl | rfl | rfl | rfl | rfl | rfl | rfl | rfl <;> simp [Tk.signs2]
  refine lxt_tok f pre [c] r acc _ ?_ rfl (by simp) ?_ ha
  · unfold Tk.tokAt
    rw [show pre ++ ([c] ++ r) = pre ++ c :: r from rfl, getD_on, if_neg (by rw [hL.1]; decide), if_neg (by rw [hL.2.1]; decide)]
    unfold Tk.signAt
    rw [drop_on, if_neg (by rw [h2]; intro h; exact absurd h.2 (by decide)), show (c :: r).take 1 = [c] from rfl, if_pos hL.2.2.1]
  · rw [show [c] ++ r = c :: r from rfl, Tk.sepLen_f, if_neg (by rw [hL.2.2.2.1]; decide), if_neg (fun h => hL.2.2.2.2 h.1)]

/-- a piece and its tokens, whatever follows -/
def LxA (s : List UInt8) (T : List (Nat × List UInt8 × Nat)) : Prop :=
  ∀ f pre r acc, acc.length + T.length ≤ 4000 → ∃ A : List Tk.Tok, A.map kt = T ∧ lxt (f + T.length) pre (s ++ r) acc = lxt f (pre ++ s) r (acc ++ A)
/-- a piece that ends in a word: no letter and no digit may follow -/
def LxN (s : List UInt8) (T : List (Nat × List UInt8 × Nat)) : Prop :=
  ∀ f pre r acc, acc.length + T.length ≤ 4000 → EndW r → ∃ A : List Tk.Tok, A.map kt = T ∧ lxt (f + T.length) pre (s ++ r) acc = lxt f (pre ++ s) r (acc ++ A)
theorem LxA.nil : LxA [] [] := fun f pre r acc _ => ⟨[], rfl, by simp⟩
theorem LxA.sp : LxA [32] [] := fun f pre r acc _ => ⟨[], rfl, by simpa using lxt_space f pre r acc⟩
theorem LxA.sg (c : UInt8) (h : sgB c = true) : LxA [c] [(4, [c], 0)] := fun f pre r acc ha => ⟨[⟨4, [c], 0, pre.length⟩], rfl, lxt_sg f pre r c acc h (by simp at ha; omega)⟩
theorem LxN.word (s : List UInt8) (h : wordB s = true) : LxN s [(if Tk.resv s then 3 else 1, s, 0)] := fun f pre r acc ha hr => ⟨[⟨if Tk.resv s then 3 else 1, s, 0, pre.length⟩], rfl, lxt_word f pre s r acc h hr (by simp at ha; omega)⟩
theorem LxN.num (c : UInt8) (h : Tk.isDig c = true) (hl : Tk.isLet c = false) : LxN [c] [(2, [c], c.toNat - 48)] := fun f pre r acc ha hr => ⟨[⟨2, [c], c.toNat - 48, pre.length⟩], rfl, lxt_num f pre r c acc h hl hr (by simp at ha; omega)⟩
theorem LxA.app {s s' : List UInt8} {T T' : List (Nat × List UInt8 × Nat)} (h : LxA s T) (h' : LxA s' T') : LxA (s ++ s') (T ++ T') := by
  intro f pre r acc ha
  rw [List.length_append] at ha
  obtain ⟨A, e1, e2⟩ := h (f + T'.length) pre (s' ++ r) acc (by omega)
  have hA : A.length = T.length := by rw [← e1, List.length_map]
  obtain ⟨B, e3, e4⟩ := h' f (pre ++ s) r (acc ++ A) (by rw [List.length_append]; omega)
  refine ⟨A ++ B, by rw [List.map_append, e1, e3], ?_⟩
  rw [List.append_assoc, List.length_append, show f + (T.length + T'.length) = f + T'.length + T.length by omega, e2, e4, List.append_assoc, List.append_assoc]
theorem LxA.appN {s s' : List UInt8} {T T' : List (Nat × List UInt8 × Nat)} (h : LxA s T) (h' : LxN s' T') : LxN (s ++ s') (T ++ T') := by
  intro f pre r acc ha hr
  rw [List.length_append] at ha
  obtain ⟨A, e1, e2⟩ := h (f + T'.length) pre (s' ++ r) acc (by omega)
  have hA : A.length = T.length := by rw [← e1, List.length_map]
  obtain ⟨B, e3, e4⟩ := h' f (pre ++ s) r (acc ++ A) (by rw [List.length_append]; omega) hr
  refine ⟨A ++ B, by rw [List.map_append, e1, e3], ?_⟩
  rw [List.append_assoc, List.length_append, show f + (T.length + T'.length) = f + T'.length + T.length by omega, e2, e4, List.append_assoc, List.append_assoc]
theorem LxN.app {s s' : List UInt8} {T T' : List (Nat × List UInt8 × Nat)} {c : UInt8} (h : LxN s T) (hc : Tk.isLD c = false) (h' : LxA (c :: s') T') : LxA (s ++ c :: s') (T ++ T') := by
  intro f pre r acc ha
  rw [List.length_append] at ha
  obtain ⟨A, e1, e2⟩ := h (f + T'.length) pre (c :: s' ++ r) acc (by omega) (fun d r' e => by injection e with e _; rw [← e]; exact hc)
  have hA : A.length = T.length := by rw [← e1, List.length_map]
  obtain ⟨B, e3, e4⟩ := h' f (pre ++ s) r (acc ++ A) (by rw [List.length_append]; omega)
  refine ⟨A ++ B, by rw [List.map_append, e1, e3], ?_⟩
  rw [List.append_assoc, List.length_append, show f + (T.length + T'.length) = f + T'.length + T.length by omega, e2, e4, List.append_assoc, List.append_assoc]
theorem LxN.appN {s s' : List UInt8} {T T' : List (Nat × List UInt8 × Nat)} {c : UInt8} (h : LxN s T) (hc : Tk.isLD c = false) (h' : LxN (c :: s') T') : LxN (s ++ c :: s') (T ++ T') := by
  intro f pre r acc ha hr
  rw [List.length_append] at ha
  obtain ⟨A, e1, e2⟩ := h (f + T'.length) pre (c :: s' ++ r) acc (by omega) (fun d r' e => by injection e with e _; rw [← e]; exact hc)
  have hA : A.length = T.length := by rw [← e1, List.length_map]
  obtain ⟨B, e3, e4⟩ := h' f (pre ++ s) r (acc ++ A) (by rw [List.length_append]; omega) hr
  refine ⟨A ++ B, by rw [List.map_append, e1, e3], ?_⟩
  rw [List.append_assoc, List.length_append, show f + (T.length + T'.length) = f + T'.length + T.length by omega, e2, e4, List.append_assoc, List.append_assoc]
theorem LxA.lex {s : List UInt8} {T : List (Nat × List UInt8 × Nat)} (h : LxA s T) (h1 : T.length ≤ 4000) (h2 : T.length ≤ s.length) (h3 : s.length ≤ 262144) : ∃ A : List Tk.Tok, A.map kt = T ∧ Tk.lex s = (A ++ [⟨5, [], 0, s.length⟩], s.length, 0) := by
  obtain ⟨A, e1, e2⟩ := h (s.length - T.length + 1) [] [] [] (by simpa using h1)
  refine ⟨A, e1, ?_⟩
  have e3 : Tk.lex s = lxt (s.length + 1) [] s [] := by
    unfold Tk.lex lxt Tk.skipTo
    rw [if_neg (by omega)]
    rfl
  rw [e3]
  rw [List.append_nil, show s.length - T.length + 1 + T.length = s.length + 1 by omega] at e2
  rw [e2, List.nil_append, List.nil_append]
  exact lxt_end _ _ _
end Go.Proofs.YtjjooekkieddbaaDoor
