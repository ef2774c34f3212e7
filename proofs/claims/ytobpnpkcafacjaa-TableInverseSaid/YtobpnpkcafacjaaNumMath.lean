/- Decimal digits, and what Lex does with them: plain lemmas. No statement of the program is proved in this file. -/
import Derived.Test.YtobpnpkcafacjaaTokLex
namespace Go.Proofs.Ytobpnpkcafacjaa
/-- the last decimal digit of a number -/
def digC (k : Nat) : UInt8 := UInt8.ofNat (48 + k % 10)
/-- the decimal digits of a number before other digits; at least one if nothing follows -/
def decLoop : Nat → Nat → List UInt8 → List UInt8
  | 0, _, s => s
  | f + 1, k, s => if k > 0 ∨ s = [] then decLoop f (k / 10) (digC k :: s) else s

theorem digC_num (k : Nat) : (digC k).toNat = 48 + k % 10 ∧ Tk.isDig (digC k) = true := by
  have h1 : (digC k).toNat = 48 + k % 10 := by
    unfold digC
    rw [UInt8.toNat_ofNat']
    omega
  refine ⟨h1, ?_⟩
  unfold Tk.isDig
  rw [h1]
  simp
  omega

/-- the value of digits, without a bound -/
def decVal (n : Nat) (s : List UInt8) : Nat := s.foldl (fun n c => 10 * n + (c.toNat - 48)) n
theorem decVal_cons (n : Nat) (c : UInt8) (r : List UInt8) : decVal n (c :: r) = decVal (10 * n + (c.toNat - 48)) r := by
  unfold decVal
  rw [List.foldl_cons]
theorem decVal_nil (n : Nat) : decVal n [] = n := by
  unfold decVal
  rw [List.foldl_nil]
theorem decVal_ge (n : Nat) (s : List UInt8) : n ≤ decVal n s := by
  induction s generalizing n with
  | nil => rw [decVal_nil]; exact Nat.le_refl _
  | cons c r ih =>
    have := ih (10 * n + (c.toNat - 48))
    rw [decVal_cons]
    omega
theorem numVal_cons (n : Nat) (c : UInt8) (r : List UInt8) : Tk.numVal n (c :: r) = if n > (9223372036854775807 - (c.toNat - 48)) / 10 then none else Tk.numVal (10 * n + (c.toNat - 48)) r := rfl
theorem numVal_small (s : List UInt8) (hd : ∀ c ∈ s, Tk.isDig c = true) (n : Nat) (h : decVal n s ≤ 9223372036854775807) : Tk.numVal n s = some (decVal n s) := by
  induction s generalizing n with
  | nil => rw [decVal_nil]; rfl
  | cons c r ih =>
    have hc := hd c (by simp)
    have hc' : 48 ≤ c.toNat ∧ c.toNat ≤ 57 := by simpa [Tk.isDig] using hc
    rw [decVal_cons] at h ⊢
    have := decVal_ge (10 * n + (c.toNat - 48)) r
    rw [numVal_cons, if_neg (by omega)]
    exact ih (fun x hx => hd x (by simp [hx])) _ h
theorem numVal_great (s : List UInt8) (hd : ∀ c ∈ s, Tk.isDig c = true) (n : Nat) (hn : n ≤ 9223372036854775807) (h : ¬ decVal n s ≤ 9223372036854775807) : Tk.numVal n s = none := by
  induction s generalizing n with
  | nil => rw [decVal_nil] at h; exact absurd hn h
  | cons c r ih =>
    have hc := hd c (by simp)
    have hc' : 48 ≤ c.toNat ∧ c.toNat ≤ 57 := by simpa [Tk.isDig] using hc
    rw [decVal_cons] at h
    rw [numVal_cons]
    by_cases h2 : n > (9223372036854775807 - (c.toNat - 48)) / 10
    · rw [if_pos h2]
    · rw [if_neg h2]
      exact ih (fun x hx => hd x (by simp [hx])) _ (by omega) h
theorem decVal_append (n : Nat) (s t : List UInt8) : decVal n (s ++ t) = decVal (decVal n s) t := by
  unfold decVal
  rw [List.foldl_append]
/-- what stands before the digits s when k is left of a number, and s has the value v with so many places -/
theorem decLoop_val (f k : Nat) (s : List UInt8) (hk : k < 10 ^ f) (hs : s ≠ [] ∨ 0 < f) : decVal 0 (decLoop f k s) = decVal k s := by
  induction f generalizing k s with
  | zero =>
    have : k = 0 := by simpa using hk
    subst this
    rfl
  | succ f ih =>
    rw [decLoop]
    by_cases h : k > 0 ∨ s = []
    · rw [if_pos h, ih (k / 10) _ (by rw [Nat.pow_succ] at hk; omega) (.inl (by simp)), decVal_cons, (digC_num k).1]
      congr 1
      omega
    · rw [if_neg h]
      have : k = 0 := by omega
      subst this
      rfl
theorem decLoop_dig (f k : Nat) (s : List UInt8) (hs : ∀ c ∈ s, Tk.isDig c = true) : ∀ c ∈ decLoop f k s, Tk.isDig c = true := by
  induction f generalizing k s with
  | zero => exact hs
  | succ f ih =>
    rw [decLoop]
    split
    · refine ih _ _ (fun c hc => ?_)
      rcases List.mem_cons.1 hc with rfl | hc
      · exact (digC_num k).2
      · exact hs c hc
    · exact hs
theorem decLoop_len (f k : Nat) (s : List UInt8) : (decLoop f k s).length ≤ s.length + f := by
  induction f generalizing k s with
  | zero => simp [decLoop]
  | succ f ih =>
    rw [decLoop]
    split
    · have := ih (k / 10) (digC k :: s)
      rw [List.length_cons] at this
      omega
    · omega
theorem decLoop_ne (f k : Nat) (s : List UInt8) (hs : s ≠ []) : decLoop f k s ≠ [] := by
  induction f generalizing k s with
  | zero => exact hs
  | succ f ih =>
    rw [decLoop]
    split
    · exact ih _ _ (by simp)
    · exact hs
theorem decVal_zeros (s : List UInt8) (z : Nat) : decVal 0 (List.replicate z 48 ++ s) = decVal 0 s := by
  induction z with
  | zero => rfl
  | succ z ih =>
    rw [List.replicate_succ, List.cons_append, decVal_cons]
    exact ih

theorem takeWhile_self (p : UInt8 → Bool) (s : List UInt8) (h : ∀ c ∈ s, p c = true) : s.takeWhile p = s := by
  induction s with
  | nil => rfl
  | cons a r ih =>
    rw [List.takeWhile_cons, if_pos (h a (by simp)), ih (fun c hc => h c (by simp [hc]))]
theorem dig_nums (c : UInt8) (h : Tk.isDig c = true) : 48 ≤ c.toNat ∧ c.toNat ≤ 57 ∧ Tk.isLet c = false := by
  have h1 : 48 ≤ c.toNat ∧ c.toNat ≤ 57 := by simpa [Tk.isDig] using h
  refine ⟨h1.1, h1.2, ?_⟩
  unfold Tk.isLet
  simp
  omega
theorem lex_start (s : List UInt8) (hne : 0 < s.length) (hd : ∀ c ∈ s, Tk.isDig c = true) (hlen : s.length ≤ 262144) : Tk.lex s = Tk.lexGo (s.length + 1) s 0 [] ∧ Tk.tokAt s 0 = Tk.numAt s 0 := by
  have h0 := dig_nums s[0] (hd _ (List.getElem_mem hne))
  have hsk : Tk.skipTo s 0 = 0 := skip_stop s 0 hne (by omega) (fun h => absurd h (by omega))
  constructor
  · unfold Tk.lex
    rw [if_neg (by omega), hsk]
  · have hg : s.getD 0 0 = s[0] := by simp [List.getD, List.getElem?_eq_getElem hne]
    unfold Tk.tokAt
    rw [hg, if_neg (by simp [h0.2.2]), if_pos (hd _ (List.getElem_mem hne))]
theorem numAt_digits (s : List UInt8) (hd : ∀ c ∈ s, Tk.isDig c = true) : Tk.numAt s 0 = match Tk.numVal 0 s with | none => .error 2 | some n => .ok ⟨2, s, n, 0⟩ := by
  unfold Tk.numAt
  rw [List.drop_zero, takeWhile_self _ _ hd]
  try rfl
theorem lex_great (s : List UInt8) (hne : 0 < s.length) (hd : ∀ c ∈ s, Tk.isDig c = true) (hlen : s.length ≤ 262144) (hv : Tk.numVal 0 s = none) : Tk.lex s = ([], 0, 2) := by
  obtain ⟨h1, h2⟩ := lex_start s hne hd hlen
  rw [h1]
  refine lexGo_err _ s 0 2 [] hne ?_
  rw [h2, numAt_digits s hd, hv]
theorem lexGo_at_end (f : Nat) (l : List UInt8) (k : Nat) (acc : List Tk.Tok) (hf : 0 < f) (h : l.length ≤ k) : Tk.lexGo f l k acc = (acc ++ [⟨5, [], 0, l.length⟩], l.length, 0) := by
  obtain ⟨g, rfl⟩ : ∃ g, f = g + 1 := ⟨f - 1, by omega⟩
  exact lexGo_end g l k acc h
theorem lex_number (s : List UInt8) (hne : 0 < s.length) (hd : ∀ c ∈ s, Tk.isDig c = true) (hlen : s.length ≤ 262144) (v : Nat) (hv : Tk.numVal 0 s = some v) : Tk.lex s = ([⟨2, s, v, 0⟩, ⟨5, [], 0, s.length⟩], s.length, 0) := by
  obtain ⟨h1, h2⟩ := lex_start s hne hd hlen
  have ht : Tk.tokAt s 0 = .ok ⟨2, s, v, 0⟩ := by rw [h2, numAt_digits s hd, hv]
  rw [h1, lexGo_step s.length s 0 [] _ hne ht (by simp)]
  have hsk : Tk.skipTo s (0 + s.length) = s.length := by rw [Nat.zero_add]; exact skip_end s _ (Nat.le_refl _)
  dsimp only
  rw [hsk, lexGo_at_end s.length s s.length _ hne (Nat.le_refl _)]
  rfl

end Go.Proofs.Ytobpnpkcafacjaa
