/- Plain functions on lists of bytes that say what tokens a text has. No statement of the program is proved in this file. -/
namespace Go.Proofs.YtnofcanboaaejaaDoor
namespace Tk

def isLet (c : UInt8) : Bool := (97 ≤ c.toNat && c.toNat ≤ 122) || (65 ≤ c.toNat && c.toNat ≤ 90) || c.toNat == 95
def isDig (c : UInt8) : Bool := 48 ≤ c.toNat && c.toNat ≤ 57
def isLD (c : UInt8) : Bool := isLet c || isDig c
def isSpc (c : UInt8) : Bool := c.toNat == 32 || c.toNat == 9 || c.toNat == 13 || c.toNat == 10

def words : List (List UInt8) := [[118, 97, 114], [109, 117, 116, 101, 120], [114, 109, 117, 116, 101, 120], [102, 117, 110, 99], [108, 111, 99, 107], [117, 110, 108, 111, 99, 107], [103, 111], [105, 102], [101, 108, 115, 101], [119, 104, 105, 108, 101], [114, 101, 116, 117, 114, 110]]
def resv (s : List UInt8) : Bool := words.contains s
def signs2 : List (List UInt8) := [[60, 61], [62, 61], [61, 61], [33, 61], [38, 38], [124, 124]]
def signs1 : List (List UInt8) := [[40], [41], [123], [125], [91], [93], [44], [59], [61], [43], [45], [42], [47], [37], [60], [62], [33]]
def isSg (s : List UInt8) : Bool := signs2.contains s || signs1.contains s

/-- how many bytes up to the next line feed, or to the end -/
def lineLen : List UInt8 → Nat
  | [] => 0
  | c :: r => if c.toNat = 10 then 0 else lineLen r + 1

/-- how many bytes separate: in a comment (true) or outside (false) -/
def sepLen : Bool → List UInt8 → Nat
  | _, [] => 0
  | true, c :: r => if c.toNat = 10 then sepLen false r + 1 else sepLen true r + 1
  | false, c :: r => if isSpc c then sepLen false r + 1 else if c.toNat = 47 ∧ (r.head?.map UInt8.toNat) = some 47 then sepLen true r + 1 else 0

def skipTo (b : List UInt8) (at_ : Nat) : Nat := at_ + sepLen false (b.drop at_)

/-- the value of digits that follow a value; none: it is too great -/
def numVal : Nat → List UInt8 → Option Nat
  | n, [] => some n
  | n, c :: r => if n > (9223372036854775807 - (c.toNat - 48)) / 10 then none else numVal (10 * n + (c.toNat - 48)) r

structure Tok where
  kind : Nat
  text : List UInt8
  num : Nat
  pos : Nat
deriving DecidableEq

/-- the token at a place, or an error -/
def nameAt (b : List UInt8) (at_ : Nat) : Except Nat Tok :=
  let t := (b.drop at_).takeWhile isLD
  if t.length > 16 then .error 3 else .ok ⟨if resv t then 3 else 1, t, 0, at_⟩
def numAt (b : List UInt8) (at_ : Nat) : Except Nat Tok :=
  let t := (b.drop at_).takeWhile isDig
  match numVal 0 t with
  | none => .error 2
  | some n => .ok ⟨2, t, n, at_⟩
def signAt (b : List UInt8) (at_ : Nat) : Except Nat Tok :=
  if at_ + 2 ≤ b.length ∧ signs2.contains ((b.drop at_).take 2) then .ok ⟨4, (b.drop at_).take 2, 0, at_⟩
  else if signs1.contains ((b.drop at_).take 1) then .ok ⟨4, (b.drop at_).take 1, 0, at_⟩
  else .error 1
def tokAt (b : List UInt8) (at_ : Nat) : Except Nat Tok :=
  if isLet (b.getD at_ 0) then nameAt b at_ else if isDig (b.getD at_ 0) then numAt b at_ else signAt b at_

def lexGo : Nat → List UInt8 → Nat → List Tok → List Tok × Nat × Nat
  | 0, _, _, _ => ([], 0, 0)
  | f + 1, b, at_, acc =>
    if b.length ≤ at_ then (acc ++ [⟨5, [], 0, b.length⟩], b.length, 0)
    else match tokAt b at_ with
      | .error e => ([], at_, e)
      | .ok t => if acc.length = 4000 then ([], at_, 3) else lexGo f b (skipTo b (at_ + t.text.length)) (acc ++ [t])
def lex (b : List UInt8) : List Tok × Nat × Nat :=
  if b.length > 262144 then ([], 262144, 3) else lexGo (b.length + 1) b (skipTo b 0) []

theorem lineLen_le (l : List UInt8) : lineLen l ≤ l.length := by
  induction l with
  | nil => simp [lineLen]
  | cons c r ih => unfold lineLen; split <;> simp <;> omega
theorem sepLen_le (q : Bool) (l : List UInt8) : sepLen q l ≤ l.length := by
  induction l generalizing q with
  | nil => cases q <;> simp [sepLen]
  | cons c r ih =>
    have h1 := ih true
    have h2 := ih false
    cases q <;> unfold sepLen
    · split
      · simp; omega
      · split
        · simp; omega
        · simp
    · split <;> simp <;> omega
theorem sepLen_t (c : UInt8) (r : List UInt8) : sepLen true (c :: r) = if c.toNat = 10 then sepLen false r + 1 else sepLen true r + 1 := rfl
theorem sepLen_f (c : UInt8) (r : List UInt8) : sepLen false (c :: r) = if isSpc c then sepLen false r + 1 else if c.toNat = 47 ∧ (r.head?.map UInt8.toNat) = some 47 then sepLen true r + 1 else 0 := rfl
theorem lineLen_c (c : UInt8) (r : List UInt8) : lineLen (c :: r) = if c.toNat = 10 then 0 else lineLen r + 1 := rfl
theorem sepLen_comment (l : List UInt8) : sepLen true l = lineLen l + sepLen false (l.drop (lineLen l)) := by
  induction l with
  | nil => rfl
  | cons c r ih =>
    by_cases h : c.toNat = 10
    · simp [sepLen_t, sepLen_f, lineLen_c, isSpc, h]
    · simp only [sepLen_t, lineLen_c, h, if_false, List.drop_succ_cons, ih]
      omega
theorem sepLen_slashes (c d : UInt8) (r : List UInt8) (hc : c.toNat = 47) (hd : d.toNat = 47) :
    sepLen false (c :: d :: r) = lineLen (c :: d :: r) + sepLen false ((c :: d :: r).drop (lineLen (c :: d :: r))) := by
  have h : sepLen false (c :: d :: r) = sepLen true (c :: d :: r) := by
    simp [sepLen_t, sepLen_f, isSpc, hc, hd]
  rw [h, sepLen_comment]
theorem skipTo_le (b : List UInt8) (k : Nat) (h : k ≤ b.length) : skipTo b k ≤ b.length := by
  have := sepLen_le false (b.drop k)
  unfold skipTo
  simp at this
  omega

end Tk
end Go.Proofs.YtnofcanboaaejaaDoor
