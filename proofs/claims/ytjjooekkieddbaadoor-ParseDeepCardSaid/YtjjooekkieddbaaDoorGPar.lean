/- Plain functions that say what a parser of expressions returns for a list of tokens, and their equations. No statement of the program is proved in this file. What the small functions on operators of package expr return. The parser of package expr in memory, and what its method sign returns. What afterUnary and afterParenthesis of package expr return, if the functions that they call return what they should. What operand of package expr returns, if the functions that it calls return what they should. What expression and operand of package expr return: what the plain parser says. What Parse of package expr returns: the plain function parseV. -/
import Derived.Test.YtjjooekkieddbaaDoorGSrc
import Derived.Test.YtjjooekkieddbaaDoorGTxt
import Derived.Deep.QuietTactic
import Derived.BigQuiet
import Derived.Test.YtjjooekkieddbaaDoorGTok
import Derived.RegionTactic
import Derived.Deep.RegionHeld3
namespace Go.Proofs.YtjjooekkieddbaaDoor
namespace Ps

/-- what a parser returns: the place of the error and its number, or the expression and the place behind it -/
inductive R where
  | bad (at_ e : Nat)
  | ok (x : Ex) (at_ : Nat)
def R.bind (r : R) (f : Ex → Nat → R) : R :=
  match r with
  | .bad a e => .bad a e
  | .ok x k => f x k

/-- the signs of the operators, by number -/
def sgTab : List (List UInt8) := [[], [], [], [45], [33], [42], [47], [37], [43], [45], [60], [60, 61], [62], [62, 61], [61, 61], [33, 61], [38, 38], [124, 124]]
/-- the operator with a sign among n of them from op on, or 0 -/
def opFind (s : List UInt8) : Nat → Nat → Nat
  | 0, _ => 0
  | n + 1, op => if sgTab.getD op [] = s then op else opFind s n (op + 1)
def uop (s : List UInt8) : Nat := opFind s 2 3
def bop (s : List UInt8) : Nat := opFind s 13 5
def strD (op : Int) : Nat := if 1 ≤ op ∧ op ≤ 17 then strV op + 1 else 0

def kindAt (ts : List Tk.Tok) (k : Nat) : Nat := match ts[k]? with | some t => t.kind | none => 5
def sgn (ts : List Tk.Tok) (k : Nat) : List UInt8 := match ts[k]? with | some t => if t.kind = 4 then t.text else [] | none => []
def numAt (ts : List Tk.Tok) (k : Nat) : Nat := match ts[k]? with | some t => t.num | none => 0
def textAt (ts : List Tk.Tok) (k : Nat) : List UInt8 := match ts[k]? with | some t => t.text | none => []

mutual
def pE (ts : List Tk.Tok) : Nat → Nat → Nat → Nat → R
  | 0, _, _, k => .bad k 0
  | f + 1, least, o, k => (pO ts f o k).bind fun x k' => pC ts f least o x k'
def pC (ts : List Tk.Tok) : Nat → Nat → Nat → Ex → Nat → R
  | 0, _, _, _, k => .bad k 0
  | f + 1, least, o, x, k =>
    if strD (bop (sgn ts k)) < least then .ok x k
    else (pE ts f (strD (bop (sgn ts k)) + 1) o (k + 1)).bind fun r k' => pC ts f least o (.mk (bop (sgn ts k)) 0 [] [x, r]) k'
def pO (ts : List Tk.Tok) : Nat → Nat → Nat → R
  | 0, _, k => .bad k 0
  | f + 1, o, k =>
    if kindAt ts k = 2 then .ok (.mk 1 (numAt ts k) [] []) (k + 1)
    else if kindAt ts k = 1 then .ok (.mk 2 0 (textAt ts k) []) (k + 1)
    else if uop (sgn ts k) = 0 ∧ sgn ts k ≠ [40] then .bad k 4
    else if o = 24 then .bad k 3
    else if uop (sgn ts k) = 0 then (pE ts f 1 (o + 1) (k + 1)).bind fun x k' => if sgn ts k' = [41] then .ok x (k' + 1) else .bad k' 4
    else (pO ts f (o + 1) (k + 1)).bind fun x k' => .ok (.mk (uop (sgn ts k)) 0 [] [x]) k'
end

theorem bind_ok {r : R} {f : Ex → Nat → R} {y : Ex} {m : Nat} (h : r.bind f = .ok y m) : ∃ x k, r = .ok x k ∧ f x k = .ok y m := by
  cases r with
  | bad a e => cases h
  | ok x k => exact ⟨x, k, rfl, h⟩
theorem bind_congr {r : R} {f g : Ex → Nat → R} (h : ∀ x k, r = .ok x k → f x k = g x k) : r.bind f = r.bind g := by
  cases r with
  | bad a e => rfl
  | ok x k => exact h x k rfl
theorem bind_assoc (r : R) (f g : Ex → Nat → R) : (r.bind f).bind g = r.bind fun x k => (f x k).bind g := by cases r <;> rfl

theorem step_E (ts : List Tk.Tok) (f l o k : Nat) : pE ts (f + 1) l o k = (pO ts f o k).bind fun x k' => pC ts f l o x k' := by rw [pE]
theorem step_C (ts : List Tk.Tok) (f l o : Nat) (x : Ex) (k : Nat) : pC ts (f + 1) l o x k = if strD (bop (sgn ts k)) < l then .ok x k
    else (pE ts f (strD (bop (sgn ts k)) + 1) o (k + 1)).bind fun r k' => pC ts f l o (.mk (bop (sgn ts k)) 0 [] [x, r]) k' := by rw [pC]
theorem step_O (ts : List Tk.Tok) (f o k : Nat) : pO ts (f + 1) o k =
    if kindAt ts k = 2 then .ok (.mk 1 (numAt ts k) [] []) (k + 1)
    else if kindAt ts k = 1 then .ok (.mk 2 0 (textAt ts k) []) (k + 1)
    else if uop (sgn ts k) = 0 ∧ sgn ts k ≠ [40] then .bad k 4
    else if o = 24 then .bad k 3
    else if uop (sgn ts k) = 0 then (pE ts f 1 (o + 1) (k + 1)).bind fun x k' => if sgn ts k' = [41] then .ok x (k' + 1) else .bad k' 4
    else (pO ts f (o + 1) (k + 1)).bind fun x k' => .ok (.mk (uop (sgn ts k)) 0 [] [x]) k' := by rw [pO]

/-- a parser that succeeds moves on -/
theorem moves (ts : List Tk.Tok) (f : Nat) : (∀ l o k y m, pE ts f l o k = .ok y m → k < m) ∧ (∀ l o x k y m, pC ts f l o x k = .ok y m → k ≤ m) ∧ (∀ o k y m, pO ts f o k = .ok y m → k < m) := by
  induction f with
  | zero =>
    refine ⟨?_, ?_, ?_⟩
    · intro l o k y m h; rw [pE] at h; cases h
    · intro l o x k y m h; rw [pC] at h; cases h
    · intro o k y m h; rw [pO] at h; cases h
  | succ f ih =>
    obtain ⟨iE, iC, iO⟩ := ih
    refine ⟨?_, ?_, ?_⟩
    · intro l o k y m h
      rw [step_E] at h
      obtain ⟨x, k', h1, h2⟩ := bind_ok h
      have := iO _ _ _ _ h1
      have := iC _ _ _ _ _ _ h2
      omega
    · intro l o x k y m h
      rw [step_C] at h
      split at h
      · injection h with _ h; omega
      · obtain ⟨r, k', h1, h2⟩ := bind_ok h
        have := iE _ _ _ _ _ h1
        have := iC _ _ _ _ _ _ h2
        omega
    · intro o k y m h
      rw [step_O] at h
      split at h
      · injection h with _ h; omega
      split at h
      · injection h with _ h; omega
      split at h
      · cases h
      split at h
      · cases h
      split at h
      · obtain ⟨r, k', h1, h2⟩ := bind_ok h
        have := iE _ _ _ _ _ h1
        split at h2
        · injection h2 with _ h2; omega
        · cases h2
      · obtain ⟨r, k', h1, h2⟩ := bind_ok h
        have := iO _ _ _ _ h1
        injection h2 with _ h2; omega

theorem out_kind (ts : List Tk.Tok) (k : Nat) (h : ts.length ≤ k) : kindAt ts k = 5 := by
  unfold kindAt
  rw [List.getElem?_eq_none h]
theorem out_sgn (ts : List Tk.Tok) (k : Nat) (h : ts.length ≤ k) : sgn ts k = [] := by
  unfold sgn
  rw [List.getElem?_eq_none h]
theorem uop_nil : uop [] = 0 := by decide
theorem bop_nil : bop [] = 0 := by decide
theorem strD_zero : strD 0 = 0 := by decide
theorem out_O (ts : List Tk.Tok) (f o k : Nat) (h : ts.length ≤ k) : pO ts (f + 1) o k = .bad k 4 := by
  rw [step_O, out_kind ts k h, out_sgn ts k h, uop_nil, if_neg (by decide), if_neg (by decide), if_pos ⟨rfl, by decide⟩]
theorem inside_C (ts : List Tk.Tok) (l k : Nat) (hl : 1 ≤ l) (h : ¬ strD (bop (sgn ts k)) < l) : k < ts.length := by
  rcases Nat.lt_or_ge k ts.length with h1 | h1
  · exact h1
  · rw [out_sgn ts k h1, bop_nil] at h
    exact absurd (show strD (0 : Nat) < l from by rw [show ((0 : Nat) : Int) = 0 from rfl, strD_zero]; omega) h

/-- enough fuel is enough -/
theorem fuel (ts : List Tk.Tok) (f : Nat) : (∀ l o k, 1 ≤ l → 3 * (ts.length - k) + 2 ≤ f → pE ts (f + 1) l o k = pE ts f l o k) ∧
    (∀ l o x k, 1 ≤ l → 3 * (ts.length - k) + 1 ≤ f → pC ts (f + 1) l o x k = pC ts f l o x k) ∧ (∀ o k, 3 * (ts.length - k) + 1 ≤ f → pO ts (f + 1) o k = pO ts f o k) := by
  induction f with
  | zero => exact ⟨fun _ _ _ _ h => absurd h (by omega), fun _ _ _ _ _ h => absurd h (by omega), fun _ _ h => absurd h (by omega)⟩
  | succ f ih =>
    obtain ⟨iE, iC, iO⟩ := ih
    obtain ⟨mE, mC, mO⟩ := moves ts f
    refine ⟨?_, ?_, ?_⟩
    · intro l o k hl h
      rw [step_E ts (f + 1), step_E ts f, iO o k (by omega)]
      refine bind_congr fun x k' hx => ?_
      have := mO _ _ _ _ hx
      exact iC _ _ _ _ hl (by omega)
    · intro l o x k hl h
      rw [step_C ts (f + 1), step_C ts f]
      split
      · rfl
      · rename_i hn
        have hk := inside_C ts l k hl hn
        rw [iE _ _ (k + 1) (by omega) (by omega)]
        refine bind_congr fun r k' hx => ?_
        have := mE _ _ _ _ _ hx
        exact iC _ _ _ _ hl (by omega)
    · intro o k h
      rcases Nat.lt_or_ge k ts.length with hk | hk
      · rw [step_O ts (f + 1) o k, step_O ts f o k, iE 1 (o + 1) (k + 1) (by omega) (by omega), iO (o + 1) (k + 1) (by omega)]
      · rw [out_O ts _ o k hk, out_O ts _ o k hk]

def PE (ts : List Tk.Tok) (l o k : Nat) : R := pE ts (3 * (ts.length - k) + 2) l o k
def PC (ts : List Tk.Tok) (l o : Nat) (x : Ex) (k : Nat) : R := pC ts (3 * (ts.length - k) + 1) l o x k
def PO (ts : List Tk.Tok) (o k : Nat) : R := pO ts (3 * (ts.length - k) + 1) o k
theorem fuelE (ts : List Tk.Tok) (f l o k : Nat) (hl : 1 ≤ l) (h : 3 * (ts.length - k) + 2 ≤ f) : pE ts f l o k = PE ts l o k := by
  induction f with
  | zero => omega
  | succ f ih =>
    rcases Nat.lt_or_ge f (3 * (ts.length - k) + 2) with h1 | h1
    · have : f + 1 = 3 * (ts.length - k) + 2 := by omega
      rw [this]; rfl
    · rw [(fuel ts f).1 l o k hl h1, ih h1]
theorem fuelC (ts : List Tk.Tok) (f l o : Nat) (x : Ex) (k : Nat) (hl : 1 ≤ l) (h : 3 * (ts.length - k) + 1 ≤ f) : pC ts f l o x k = PC ts l o x k := by
  induction f with
  | zero => omega
  | succ f ih =>
    rcases Nat.lt_or_ge f (3 * (ts.length - k) + 1) with h1 | h1
    · have : f + 1 = 3 * (ts.length - k) + 1 := by omega
      rw [this]; rfl
    · rw [(fuel ts f).2.1 l o x k hl h1, ih h1]
theorem fuelO (ts : List Tk.Tok) (f o k : Nat) (h : 3 * (ts.length - k) + 1 ≤ f) : pO ts f o k = PO ts o k := by
  induction f with
  | zero => omega
  | succ f ih =>
    rcases Nat.lt_or_ge f (3 * (ts.length - k) + 1) with h1 | h1
    · have : f + 1 = 3 * (ts.length - k) + 1 := by omega
      rw [this]; rfl
    · rw [(fuel ts f).2.2 o k h1, ih h1]

theorem PO_moves {ts : List Tk.Tok} {o k : Nat} {y : Ex} {m : Nat} (h : PO ts o k = .ok y m) : k < m := (moves ts _).2.2 _ _ _ _ h
theorem PE_moves {ts : List Tk.Tok} {l o k : Nat} {y : Ex} {m : Nat} (h : PE ts l o k = .ok y m) : k < m := (moves ts _).1 _ _ _ _ _ h
theorem PC_moves {ts : List Tk.Tok} {l o : Nat} {x : Ex} {k : Nat} {y : Ex} {m : Nat} (h : PC ts l o x k = .ok y m) : k ≤ m := (moves ts _).2.1 _ _ _ _ _ _ h

theorem PE_eq (ts : List Tk.Tok) (l o k : Nat) (hl : 1 ≤ l) : PE ts l o k = (PO ts o k).bind fun x k' => PC ts l o x k' := by
  have h : PE ts l o k = (PO ts o k).bind fun x k' => pC ts (3 * (ts.length - k) + 1) l o x k' := step_E ts (3 * (ts.length - k) + 1) l o k
  rw [h]
  refine bind_congr fun x k' hx => ?_
  have := PO_moves hx
  exact fuelC _ _ _ _ _ _ hl (by omega)
theorem PC_stop (ts : List Tk.Tok) (l o : Nat) (x : Ex) (k : Nat) (h : strD (bop (sgn ts k)) < l) : PC ts l o x k = .ok x k := by
  unfold PC
  rw [step_C, if_pos h]
theorem PC_go (ts : List Tk.Tok) (l o : Nat) (x : Ex) (k : Nat) (hl : 1 ≤ l) (h : ¬ strD (bop (sgn ts k)) < l) : PC ts l o x k = (PE ts (strD (bop (sgn ts k)) + 1) o (k + 1)).bind fun r k' => PC ts l o (.mk (bop (sgn ts k)) 0 [] [x, r]) k' := by
  have hk := inside_C ts l k hl h
  have h0 : PC ts l o x k = _ := step_C ts (3 * (ts.length - k)) l o x k
  rw [h0, if_neg h, fuelE _ _ _ _ (k + 1) (by omega) (by omega)]
  refine bind_congr fun x k' hx => ?_
  have := PE_moves hx
  exact fuelC _ _ _ _ _ _ hl (by omega)
theorem PO_eq (ts : List Tk.Tok) (o k : Nat) : PO ts o k =
    if kindAt ts k = 2 then .ok (.mk 1 (numAt ts k) [] []) (k + 1)
    else if kindAt ts k = 1 then .ok (.mk 2 0 (textAt ts k) []) (k + 1)
    else if uop (sgn ts k) = 0 ∧ sgn ts k ≠ [40] then .bad k 4
    else if o = 24 then .bad k 3
    else if uop (sgn ts k) = 0 then (PE ts 1 (o + 1) (k + 1)).bind fun x k' => if sgn ts k' = [41] then .ok x (k' + 1) else .bad k' 4
    else (PO ts (o + 1) (k + 1)).bind fun x k' => .ok (.mk (uop (sgn ts k)) 0 [] [x]) k' := by
  rcases Nat.lt_or_ge k ts.length with hk | hk
  · have h0 : PO ts o k = _ := step_O ts (3 * (ts.length - k)) o k
    rw [h0, fuelE _ _ 1 _ (k + 1) (by omega) (by omega), fuelO _ _ _ (k + 1) (by omega)]
  · have h0 : PO ts o k = _ := out_O ts (3 * (ts.length - k)) o k hk
    rw [h0, out_kind ts k hk, out_sgn ts k hk, uop_nil, if_neg (by decide), if_neg (by decide), if_pos ⟨rfl, by decide⟩]

theorem opFind_le (s : List UInt8) (n op : Nat) : opFind s n op = 0 ∨ op ≤ opFind s n op ∧ opFind s n op < op + n := by
  induction n generalizing op with
  | zero => left; rfl
  | succ n ih =>
    unfold opFind
    split
    · right; omega
    · rcases ih (op + 1) with h | h
      · left; exact h
      · right; omega
theorem bop_str (s : List UInt8) : strD (bop s) ≤ 5 := by
  rcases opFind_le s 13 5 with h | h
  · show strD (opFind s 13 5) ≤ 5
    rw [h]; decide
  · show strD (opFind s 13 5) ≤ 5
    generalize opFind s 13 5 = n at *
    unfold strD strV
    split <;> (repeat' split) <;> omega

/-- an expression ends before a weaker operator -/
theorem PC_ends (ts : List Tk.Tok) (n : Nat) : ∀ (l o : Nat) (x : Ex) (k : Nat) (y : Ex) (m : Nat), ts.length - k < n → 1 ≤ l → PC ts l o x k = .ok y m → strD (bop (sgn ts m)) < l := by
  induction n with
  | zero => intro l o x k y m h; omega
  | succ n ih =>
    intro l o x k y m hn hl h
    by_cases hs : strD (bop (sgn ts k)) < l
    · rw [PC_stop ts l o x k hs] at h
      injection h with _ h
      rw [← h]; exact hs
    · have hk := inside_C ts l k hl hs
      rw [PC_go ts l o x k hl hs] at h
      obtain ⟨r, k', h1, h2⟩ := bind_ok h
      have := PE_moves h1
      exact ih l o _ k' y m (by omega) hl h2
theorem PE_ends {ts : List Tk.Tok} {l o k : Nat} {y : Ex} {m : Nat} (hl : 1 ≤ l) (h : PE ts l o k = .ok y m) : strD (bop (sgn ts m)) < l := by
  rw [PE_eq ts l o k hl] at h
  obtain ⟨r, k', h1, h2⟩ := bind_ok h
  exact PC_ends ts _ l o r k' y m (Nat.lt_succ_self _) hl h2
/-- the weaker operators follow the stronger ones -/
theorem PC_split (ts : List Tk.Tok) (n : Nat) : ∀ (l o : Nat) (x : Ex) (k : Nat), ts.length - k < n → 1 ≤ l → PC ts l o x k = (PC ts (l + 1) o x k).bind fun y m => PC ts l o y m := by
  induction n with
  | zero => intro l o x k h; omega
  | succ n ih =>
    intro l o x k hn hl
    by_cases hs : strD (bop (sgn ts k)) < l + 1
    · rw [PC_stop ts (l + 1) o x k hs]; rfl
    · have hk := inside_C ts (l + 1) k (by omega) hs
      rw [PC_go ts (l + 1) o x k (by omega) hs, PC_go ts l o x k hl (by omega), bind_assoc]
      refine bind_congr fun r k' hx => ?_
      have := PE_moves hx
      exact ih l o _ k' (by omega) hl
theorem PE_split (ts : List Tk.Tok) (l o k : Nat) (hl : 1 ≤ l) : PE ts l o k = (PE ts (l + 1) o k).bind fun y m => PC ts l o y m := by
  rw [PE_eq ts l o k hl, PE_eq ts (l + 1) o k (by omega), bind_assoc]
  exact bind_congr fun x k' _ => PC_split ts _ l o x k' (Nat.lt_succ_self _) hl
theorem PE_six (ts : List Tk.Tok) (o k : Nat) : PE ts 6 o k = PO ts o k := by
  rw [PE_eq ts 6 o k (by omega)]
  have : ∀ x k', PC ts 6 o x k' = .ok x k' := fun x k' => PC_stop ts 6 o x k' (by have := bop_str (sgn ts k'); omega)
  cases PO ts o k with
  | bad a e => rfl
  | ok x k' => exact this x k'

theorem sgn_kind {ts : List Tk.Tok} {k : Nat} (h : sgn ts k ≠ []) : kindAt ts k = 4 := by
  unfold sgn at h
  unfold kindAt
  cases hk : ts[k]? with
  | none => rw [hk] at h; exact absurd rfl h
  | some t =>
    rw [hk] at h
    dsimp only at h ⊢
    split at h
    · assumption
    · exact absurd rfl h
theorem next_in {ts : List Tk.Tok} (hlast : kindAt ts (ts.length - 1) = 5) {k : Nat} (hk : k < ts.length) (h : kindAt ts k ≠ 5) : k + 1 < ts.length := by
  rcases Nat.lt_or_ge (k + 1) ts.length with h1 | h1
  · exact h1
  · have : k = ts.length - 1 := by omega
    rw [this] at h
    exact absurd hlast h
theorem bop_sgn {ts : List Tk.Tok} {l k : Nat} (hl : 1 ≤ l) (h : ¬ strD (bop (sgn ts k)) < l) : sgn ts k ≠ [] := by
  intro e
  rw [e, bop_nil] at h
  exact h (show strD (0 : Nat) < l from by rw [show ((0 : Nat) : Int) = 0 from rfl, strD_zero]; omega)
def R.at_ : R → Nat
  | .bad m _ => m
  | .ok _ m => m
theorem bind_in {r : R} {f : Ex → Nat → R} {n : Nat} (h : r.at_ < n) (hf : ∀ x k, k < n → (f x k).at_ < n) : (r.bind f).at_ < n := by
  cases r with
  | bad a e => exact h
  | ok x k => exact hf x k h
/-- where a parser stops, there is a token -/
theorem inside (ts : List Tk.Tok) (hlast : kindAt ts (ts.length - 1) = 5) (f : Nat) : (∀ l o k, k < ts.length → 1 ≤ l → (pE ts f l o k).at_ < ts.length) ∧ (∀ l o x k, k < ts.length → 1 ≤ l → (pC ts f l o x k).at_ < ts.length) ∧ (∀ o k, k < ts.length → (pO ts f o k).at_ < ts.length) := by
  induction f with
  | zero =>
    refine ⟨?_, ?_, ?_⟩
    · intro l o k h _; rw [pE]; exact h
    · intro l o x k h _; rw [pC]; exact h
    · intro o k h; rw [pO]; exact h
  | succ f ih =>
    obtain ⟨iE, iC, iO⟩ := ih
    refine ⟨?_, ?_, ?_⟩
    · intro l o k h hl
      rw [step_E]
      exact bind_in (iO o k h) fun x k' hk' => iC l o x k' hk' hl
    · intro l o x k h hl
      rw [step_C]
      split
      · exact h
      · rename_i hn
        have h1 := next_in hlast h (by rw [sgn_kind (bop_sgn hl hn)]; decide)
        exact bind_in (iE _ o _ h1 (by omega)) fun x k' hk' => iC l o _ k' hk' hl
    · intro o k h
      rw [step_O]
      split
      · rename_i h2
        exact next_in hlast h (by rw [h2]; decide)
      split
      · rename_i h2
        exact next_in hlast h (by rw [h2]; decide)
      split
      · exact h
      · rename_i hq
        have hs : sgn ts k ≠ [] := by
          intro e
          rw [e] at hq
          exact hq ⟨uop_nil, by decide⟩
        have h1 := next_in hlast h (by rw [sgn_kind hs]; decide)
        split
        · exact h
        split
        · refine bind_in (iE 1 _ _ h1 (by omega)) fun x k' hk' => ?_
          split
          · rename_i h41
            exact next_in hlast hk' (by rw [sgn_kind (by rw [h41]; decide)]; decide)
          · exact hk'
        · exact bind_in (iO _ _ h1) fun x k' hk' => hk'
theorem PE_in {ts : List Tk.Tok} (hlast : kindAt ts (ts.length - 1) = 5) (l o k : Nat) (h : k < ts.length) (hl : 1 ≤ l) : (PE ts l o k).at_ < ts.length := (inside ts hlast _).1 l o k h hl
theorem PC_in {ts : List Tk.Tok} (hlast : kindAt ts (ts.length - 1) = 5) (l o : Nat) (x : Ex) (k : Nat) (h : k < ts.length) (hl : 1 ≤ l) : (PC ts l o x k).at_ < ts.length := (inside ts hlast _).2.1 l o x k h hl
theorem PO_in {ts : List Tk.Tok} (hlast : kindAt ts (ts.length - 1) = 5) (o k : Nat) (h : k < ts.length) : (PO ts o k).at_ < ts.length := (inside ts hlast _).2.2 o k h
theorem bind_bad {r : R} {f : Ex → Nat → R} {m e : Nat} (h : r.bind f = .bad m e) : r = .bad m e ∨ ∃ x k, r = .ok x k ∧ f x k = .bad m e := by
  cases r with
  | bad a e => left; exact h
  | ok x k => right; exact ⟨x, k, rfl, h⟩
/-- the errors of a parser -/
theorem errs (ts : List Tk.Tok) (f : Nat) : (∀ l o k m e, 1 ≤ l → 3 * (ts.length - k) + 2 ≤ f → pE ts f l o k = .bad m e → e = 3 ∨ e = 4) ∧
    (∀ l o x k m e, 1 ≤ l → 3 * (ts.length - k) + 1 ≤ f → pC ts f l o x k = .bad m e → e = 3 ∨ e = 4) ∧ (∀ o k m e, 3 * (ts.length - k) + 1 ≤ f → pO ts f o k = .bad m e → e = 3 ∨ e = 4) := by
  induction f with
  | zero => exact ⟨fun _ _ _ _ _ _ h => absurd h (by omega), fun _ _ _ _ _ _ _ h => absurd h (by omega), fun _ _ _ _ h => absurd h (by omega)⟩
  | succ f ih =>
    obtain ⟨iE, iC, iO⟩ := ih
    obtain ⟨mE, mC, mO⟩ := moves ts f
    refine ⟨?_, ?_, ?_⟩
    · intro l o k m e hl hf h
      rw [step_E] at h
      rcases bind_bad h with h | ⟨x, k', h1, h2⟩
      · exact iO _ _ _ _ (by omega) h
      · have := mO _ _ _ _ h1
        exact iC _ _ _ _ _ _ hl (by omega) h2
    · intro l o x k m e hl hf h
      rw [step_C] at h
      split at h
      · cases h
      · rename_i hn
        have hk := inside_C ts l k hl hn
        rcases bind_bad h with h | ⟨r, k', h1, h2⟩
        · exact iE _ _ _ _ _ (by omega) (by omega) h
        · have := mE _ _ _ _ _ h1
          exact iC _ _ _ _ _ _ hl (by omega) h2
    · intro o k m e hf h
      rcases Nat.lt_or_ge k ts.length with hk | hk
      · rw [step_O] at h
        split at h
        · cases h
        split at h
        · cases h
        split at h
        · injection h with _ h; omega
        split at h
        · injection h with _ h; omega
        split at h
        · rcases bind_bad h with h | ⟨r, k', h1, h2⟩
          · exact iE _ _ _ _ _ (by omega) (by omega) h
          · split at h2
            · cases h2
            · injection h2 with _ h2; omega
        · rcases bind_bad h with h | ⟨r, k', h1, h2⟩
          · exact iO _ _ _ _ (by omega) h
          · cases h2
      · rw [out_O ts f o k hk] at h
        injection h with _ h; omega
theorem PE_err {ts : List Tk.Tok} {l o k m e : Nat} (hl : 1 ≤ l) (h : PE ts l o k = .bad m e) : e = 3 ∨ e = 4 := (errs ts _).1 l o k m e hl (Nat.le_refl _) h
theorem PC_err {ts : List Tk.Tok} {l o : Nat} {x : Ex} {k m e : Nat} (hl : 1 ≤ l) (h : PC ts l o x k = .bad m e) : e = 3 ∨ e = 4 := (errs ts _).2.1 l o x k m e hl (Nat.le_refl _) h
theorem PO_err {ts : List Tk.Tok} {o k m e : Nat} (h : PO ts o k = .bad m e) : e = 3 ∨ e = 4 := (errs ts _).2.2 o k m e (Nat.le_refl _) h
end Ps
end Go.Proofs.YtjjooekkieddbaaDoor

namespace Go.Proofs.YtjjooekkieddbaaDoor
open Go.RowKit

theorem strD_out (op : Int) (h : ¬ (1 ≤ op ∧ op ≤ 17)) : Ps.strD op = 0 := if_neg h

set_option maxRecDepth 100000 in
set_option maxHeartbeats 4000000 in
theorem strengthD_any (op : Int) (w : World) : Calls Tryd.prog 73 #[.int .i64 op] w fun e w' => e = .returned (.int .i64 (Ps.strD op : Int)) ∧ w = w' := by
  by_cases h : 1 ≤ op ∧ op ≤ 17
  · have hc : op = 1 ∨ op = 2 ∨ op = 3 ∨ op = 4 ∨ op = 5 ∨ op = 6 ∨ op = 7 ∨ op = 8 ∨ op = 9 ∨ op = 10 ∨ op = 11 ∨ op = 12 ∨ op = 13 ∨ op = 14 ∨ op = 15 ∨ op = 16 ∨ op = 17 := by omega
    clear h
    rcases hc with rfl | rfl | rfl | rfl | rfl | rfl | rfl | rfl | rfl | rfl | rfl | rfl | rfl | rfl | rfl | rfl | rfl
    all_goals
      go_enter Tryd.func73, Tryd.ntmps73
      go_wp2
      go_ret
      exact ⟨ret_int (by decide), rfl⟩
  · have HZ := Lib.hid (strD_out op h)
    have b1 := bF (show op ≠ 1 by omega)
    have b2 := bF (show op ≠ 2 by omega)
    have b3 := bF (show op ≠ 3 by omega)
    have b4 := bF (show op ≠ 4 by omega)
    have b5 := bF (show op ≠ 5 by omega)
    have b6 := bF (show op ≠ 6 by omega)
    have b7 := bF (show op ≠ 7 by omega)
    have b8 := bF (show op ≠ 8 by omega)
    have b9 := bF (show op ≠ 9 by omega)
    have b10 := bF (show op ≠ 10 by omega)
    have b11 := bF (show op ≠ 11 by omega)
    have b12 := bF (show op ≠ 12 by omega)
    have b13 := bF (show op ≠ 13 by omega)
    have b14 := bF (show op ≠ 14 by omega)
    have b15 := bF (show op ≠ 15 by omega)
    have b16 := bF (show op ≠ 16 by omega)
    have b17 := bF (show op ≠ 17 by omega)
    clear h
    go_enter Tryd.func73, Tryd.ntmps73
    go_wp2
    go_ret
    exact ⟨ret_int (by rw [HZ.out]; rfl), rfl⟩

def unB (op : Int) : Bool := op == 3 || op == 4
def biB (op : Int) : Bool := decide (5 ≤ op) && decide (op ≤ 17)
set_option maxHeartbeats 1000000 in
theorem isUnary_any (op : Int) (w : World) : Calls Tryd.prog 37 #[.int .i64 op] w fun e w' => e = .returned (.bool (unB op)) ∧ w = w' := by
  go_enter Tryd.func37, Tryd.ntmps37
  go_wp2
  all_goals
    go_ret
    refine ⟨ret_bool ?_, rfl⟩
    rw [Bool.eq_iff_iff]
    simp [unB]
    try omega
set_option maxHeartbeats 1000000 in
theorem isBinary_any (op : Int) (w : World) : Calls Tryd.prog 38 #[.int .i64 op] w fun e w' => e = .returned (.bool (biB op)) ∧ w = w' := by
  go_enter Tryd.func38, Tryd.ntmps38
  go_wp2
  all_goals
    go_ret
    refine ⟨ret_bool ?_, rfl⟩
    rw [Bool.eq_iff_iff]
    simp [biB]
    omega

/-- the package's table of signs lies in memory -/
def SgT (w : World) : Prop := ∀ i (h : i < Ps.sgTab.length), w.cell? ⟨0, i, none⟩ = some (.string ⟨Ps.sgTab[i].toArray⟩)
theorem SgT.later {w w' : World} (h : SgT w) (hb : Below w.heap.size w w') : SgT w' := fun i hi => cell_later hb (h i hi)
theorem SgT.lt {w : World} (h : SgT w) : 0 < w.heap.size := World.block_lt_of_cell? _ _ (h 0 (by decide))
theorem SgT.keep {w w' : World} (h : SgT w) (hb : w'.heap[(0 : Nat)]? = w.heap[(0 : Nat)]?) : SgT w' := fun i hi => (World.cell?_of_block hb).trans (h i hi)

theorem str_eq_T {a b : List UInt8} (h : a = b) : (a == b) = true := beq_iff_eq.2 h
theorem str_eq_F {a b : List UInt8} (h : a ≠ b) : (a == b) = false := beq_eq_false_iff_ne.2 h
theorem str_ne_T {a b : List UInt8} (h : a ≠ b) : (a != b) = true := bne_iff_ne.2 h
theorem str_ne_F {a b : List UInt8} (h : a = b) : (a != b) = false := by simp [h]
theorem opFind_hit (s : List UInt8) (n op : Nat) (h : op < Ps.sgTab.length) (he : Ps.sgTab[op] = s) : Ps.opFind s (n + 1) op = op := by
  have : Ps.sgTab.getD op [] = s := by rw [← he]; simp [List.getD, List.getElem?_eq_getElem h]
  rw [Ps.opFind, if_pos this]
theorem opFind_miss (s : List UInt8) (n op : Nat) (h : op < Ps.sgTab.length) (he : Ps.sgTab[op] ≠ s) : Ps.opFind s (n + 1) op = Ps.opFind s n (op + 1) := by
  have : Ps.sgTab.getD op [] ≠ s := by simpa [List.getD, List.getElem?_eq_getElem h] using he
  rw [Ps.opFind, if_neg this]

set_option maxRecDepth 100000 in
set_option maxHeartbeats 2000000 in
theorem find_any (s : List UInt8) (first n : Nat) (last : Int) (hlast : last + 1 = first + n) (hn : first + n ≤ 18) (w : World) (hT : SgT w) :
    Calls Tryd.prog 103 #[.string ⟨s.toArray⟩, .int .i64 (first : Int), .int .i64 last] w fun e w' => e = .returned (.int .i64 (Ps.opFind s n first : Int)) ∧ w = w' := by
  have HT := Lib.hid hT
  clear hT
  have hlen : Ps.sgTab.length = 18 := rfl
  obtain ⟨N, hN⟩ : ∃ N, N = Ps.sgTab.length := ⟨_, rfl⟩
  have HN := Lib.hid hN
  rw [hlen] at hN
  have hl1 : last ≤ 17 := by omega
  have hl0 : -1 ≤ last := by omega
  have HLA := Lib.hid hlast
  clear hlast hlen hN
  go_enter Tryd.func103, Tryd.ntmps103
  go_wp2
  go_loop [7] (fun i => ∃ op m : Nat, op ≤ 18 ∧ i = .int .i64 (op : Int) ∧ Hid ((op : Int) + m = last + 1) ∧ Hid (Ps.opFind s m op = Ps.opFind s n first)) (fun i => (last + 1 - intOf i).toNat)
  case atStart => exact ⟨first, n, by omega, rfl, HLA.out.symm, rfl⟩
  case round =>
    obtain ⟨op, m, hop, rfl, hm, hrel⟩ := hrel
    by_cases hlt : (op : Int) ≤ last
    · have hol : op < Ps.sgTab.length := by rw [← HN.out]; have := HN.out; simp [Ps.sgTab] at this; omega
      have hc := HT.out op hol
      obtain ⟨m', rfl⟩ : ∃ m', m = m' + 1 := ⟨m - 1, by have := hm.out; omega⟩
      have i0 : (0 : Int) ≤ (op : Int) := by omega
      have i1 : (op : Int) < 18 := by omega
      have i2 : op < 18 := by omega
      have HH := Lib.hid (opFind_hit s m' op hol)
      have HM := Lib.hid (opFind_miss s m' op hol)
      generalize Ps.sgTab[op] = x at *
      clear hol
      by_cases he : x = s
      · have HE := Lib.hid ((HH.out he).symm.trans hrel.out)
        have t1 := str_eq_T he
        clear he
        go_wp2
        go_ret
        exact ⟨ret_int (by rw [← HE.out]), rfl⟩
      · have HE := Lib.hid ((HM.out he).symm.trans hrel.out)
        have t1 := str_eq_F he
        clear he
        go_wp2
        go_round
        case rel => exact ⟨op + 1, m', by omega, by go_num, by have := hm.out; show _ = _; omega, HE⟩
        case measure => simp [intOf]; omega
    · obtain rfl : m = 0 := by have := hm.out; omega
      go_wp2
      go_ret
      exact ⟨ret_int (by rw [← hrel.out]; rfl), rfl⟩

set_option maxHeartbeats 1000000 in
theorem unaryOp_any (s : List UInt8) (w : World) (hT : SgT w) : Calls Tryd.prog 100 #[.string ⟨s.toArray⟩] w fun e w' => e = .returned (.int .i64 (Ps.uop s : Int)) ∧ w = w' := by
  have HT := Lib.hid hT
  clear hT
  go_enter Tryd.func100, Tryd.ntmps100
  go_wp2_with fail
  refine (find_any s 3 2 4 (by omega) (by omega) w HT.out).mono ?_
  rintro e w' ⟨rfl, rfl⟩
  go_wp2
  go_ret
  exact ⟨rfl, rfl⟩
set_option maxHeartbeats 1000000 in
theorem binaryOp_any (s : List UInt8) (w : World) (hT : SgT w) : Calls Tryd.prog 71 #[.string ⟨s.toArray⟩] w fun e w' => e = .returned (.int .i64 (Ps.bop s : Int)) ∧ w = w' := by
  have HT := Lib.hid hT
  clear hT
  go_enter Tryd.func71, Tryd.ntmps71
  go_wp2_with fail
  refine (find_any s 5 13 17 (by omega) (by omega) w HT.out).mono ?_
  rintro e w' ⟨rfl, rfl⟩
  go_wp2
  go_ret
  exact ⟨rfl, rfl⟩

end Go.Proofs.YtjjooekkieddbaaDoor

namespace Go.Proofs.YtjjooekkieddbaaDoor
open Go.RowKit

/-- block g is a parser over the tokens ts at place k with o open parentheses and operators -/
def Psr (w : World) (g : Nat) (ts : List Tk.Tok) (k o : Nat) : Prop :=
  ∃ A c, w.heap[g]? = some (.cells #[.slice A ts.length c, .int .i64 (k : Int), .int .i64 (o : Int)] 82 (0, 0)) ∧ k < ts.length ∧ o ≤ 24 ∧ ts.length ≤ 1000000 ∧ SgT w ∧ 0 < g ∧
    ∀ i (h : i < ts.length), ∃ b, A = some ⟨b, 0, none⟩ ∧ b < g ∧ w.cell? ⟨b, i * 4, none⟩ = some (.int .i64 (ts[i].kind : Int)) ∧ w.cell? ⟨b, i * 4 + 1, none⟩ = some (.string ⟨ts[i].text.toArray⟩) ∧
      w.cell? ⟨b, i * 4 + 2, none⟩ = some (.int .i64 (ts[i].num : Int)) ∧ w.cell? ⟨b, i * 4 + 3, none⟩ = some (.int .i64 (ts[i].pos : Int))

theorem Psr.keep {w w' : World} {g : Nat} {ts : List Tk.Tok} {k o : Nat} (h : Psr w g ts k o) (hk : ∀ b, b ≤ g → w'.heap[b]? = w.heap[b]?) : Psr w' g ts k o := by
  obtain ⟨A, c, hb, hl, ho, hn, hT, hg, hc⟩ := h
  refine ⟨A, c, (hk g (Nat.le_refl _)).trans hb, hl, ho, hn, hT.keep (hk _ (by omega)), hg, fun i hi => ?_⟩
  obtain ⟨b, e, hbg, h0, h1, h2, h3⟩ := hc i hi
  have e1 : ∀ o', w'.cell? ⟨b, o', none⟩ = w.cell? ⟨b, o', none⟩ := fun o' => World.cell?_of_block (hk b (by omega))
  exact ⟨b, e, hbg, (e1 _).trans h0, (e1 _).trans h1, (e1 _).trans h2, (e1 _).trans h3⟩
theorem Psr.lt {w : World} {g : Nat} {ts : List Tk.Tok} {k o : Nat} (h : Psr w g ts k o) : g < w.heap.size := by
  obtain ⟨A, c, hb, _⟩ := h
  exact lt_of_block hb
theorem Psr.alloc {w : World} {g : Nat} {ts : List Tk.Tok} {k o : Nat} (h : Psr w g ts k o) (ob : Obj) : Psr (w.alloc ob) g ts k o :=
  h.keep fun b hb => Below.heap_alloc w ob b (by have := h.lt; omega)
theorem Psr.later {w w' : World} {g : Nat} {ts : List Tk.Tok} {k o : Nat} (h : Psr w g ts k o) (hb : Below w.heap.size w w') : Psr w' g ts k o :=
  h.keep fun b hle => hb.block b (by have := h.lt; omega)
theorem Psr.set {w : World} {g : Nat} {ts : List Tk.Tok} {k o : Nat} (h : Psr w g ts k o) {p : Addr} (hp : g < p.block) (u : Value) : Psr (w.setCell p u) g ts k o :=
  h.keep fun b hb => Below.heap_setCell w p u b (by omega)
theorem Psr.inT {w : World} {g : Nat} {ts : List Tk.Tok} {k o : Nat} (h : Psr w g ts k o) : k < ts.length := by
  obtain ⟨A, c, hb, hl, _⟩ := h
  exact hl
theorem Psr.tab {w : World} {g : Nat} {ts : List Tk.Tok} {k o : Nat} (h : Psr w g ts k o) : SgT w := by
  obtain ⟨A, c, hb, hl, ho, hn, hT, _⟩ := h
  exact hT
/-- the place moves -/
theorem Psr.at {w : World} {g : Nat} {ts : List Tk.Tok} {k o : Nat} (h : Psr w g ts k o) (j : Nat) (hj : j < ts.length) : Psr (w.setCell ⟨g, 1, none⟩ (.int .i64 (j : Int))) g ts j o := by
  obtain ⟨A, c, hb, hl, ho, hn, hT, hg, hc⟩ := h
  have hk : ∀ b, b ≠ g → (w.setCell ⟨g, 1, none⟩ (.int .i64 (j : Int))).heap[b]? = w.heap[b]? := fun b hb => Below.heap_setCell w _ _ b (by simpa using hb)
  refine ⟨A, c, ?_, hj, ho, hn, hT.keep (hk _ (by omega)), hg, fun i hi => ?_⟩
  · simp [World.setCell, Array.getElem?_modify]
    exact ⟨_, hb, rfl⟩
  · obtain ⟨b, e, hbg, h0, h1, h2, h3⟩ := hc i hi
    have e1 : ∀ o', (w.setCell ⟨g, 1, none⟩ (.int .i64 (j : Int))).cell? ⟨b, o', none⟩ = w.cell? ⟨b, o', none⟩ := fun o' => World.cell?_of_block (hk b (by omega))
    exact ⟨b, e, hbg, (e1 _).trans h0, (e1 _).trans h1, (e1 _).trans h2, (e1 _).trans h3⟩
/-- more or less is open -/
theorem Psr.op {w : World} {g : Nat} {ts : List Tk.Tok} {k o : Nat} (h : Psr w g ts k o) (j : Nat) (hj : j ≤ 24) : Psr (w.setCell ⟨g, 2, none⟩ (.int .i64 (j : Int))) g ts k j := by
  obtain ⟨A, c, hb, hl, ho, hn, hT, hg, hc⟩ := h
  have hk : ∀ b, b ≠ g → (w.setCell ⟨g, 2, none⟩ (.int .i64 (j : Int))).heap[b]? = w.heap[b]? := fun b hb => Below.heap_setCell w _ _ b (by simpa using hb)
  refine ⟨A, c, ?_, hl, hj, hn, hT.keep (hk _ (by omega)), hg, fun i hi => ?_⟩
  · simp [World.setCell, Array.getElem?_modify]
    exact ⟨_, hb, rfl⟩
  · obtain ⟨b, e, hbg, h0, h1, h2, h3⟩ := hc i hi
    have e1 : ∀ o', (w.setCell ⟨g, 2, none⟩ (.int .i64 (j : Int))).cell? ⟨b, o', none⟩ = w.cell? ⟨b, o', none⟩ := fun o' => World.cell?_of_block (hk b (by omega))
    exact ⟨b, e, hbg, (e1 _).trans h0, (e1 _).trans h1, (e1 _).trans h2, (e1 _).trans h3⟩
/-- what a walk wants to know of a parser -/
theorem Psr.cells {w : World} {g : Nat} {ts : List Tk.Tok} {k o : Nat} (h : Psr w g ts k o) : ∃ b c, b ≠ g ∧ b < w.heap.size ∧ w.cell? ⟨g, 0, none⟩ = some (.slice (some ⟨b, 0, none⟩) ts.length c) ∧ w.cell? ⟨g, 1, none⟩ = some (.int .i64 (k : Int)) ∧ w.cell? ⟨g, 2, none⟩ = some (.int .i64 (o : Int)) ∧
    w.frozen? ⟨g, 1, none⟩ = false ∧ w.frozen? ⟨g, 2, none⟩ = false ∧
    w.cell? ⟨b, k * 4, none⟩ = some (.int .i64 (Ps.kindAt ts k : Int)) ∧ w.cell? ⟨b, k * 4 + 1, none⟩ = some (.string ⟨(Ps.textAt ts k).toArray⟩) ∧ w.cell? ⟨b, k * 4 + 2, none⟩ = some (.int .i64 (Ps.numAt ts k : Int)) ∧ (∃ v : Int, w.cell? ⟨b, k * 4 + 3, none⟩ = some (.int .i64 v)) := by
  obtain ⟨A, c, hb, hl, ho, hn, hT, hg, hc⟩ := h
  obtain ⟨b, rfl, hbg, h0, h1, h2, h3⟩ := hc k hl
  have e1 : Ps.kindAt ts k = ts[k].kind := by unfold Ps.kindAt; rw [List.getElem?_eq_getElem hl]
  have e2 : Ps.textAt ts k = ts[k].text := by unfold Ps.textAt; rw [List.getElem?_eq_getElem hl]
  have e3 : Ps.numAt ts k = ts[k].num := by unfold Ps.numAt; rw [List.getElem?_eq_getElem hl]
  refine ⟨b, c, by omega, World.block_lt_of_cell? _ _ h0, ?_, ?_, ?_, ?_, ?_, by rw [e1]; exact h0, by rw [e2]; exact h1, by rw [e3]; exact h2, _, h3⟩
  · rw [cell_of_row w g 0 _ _ _ hb]; rfl
  · rw [cell_of_row w g 1 _ _ _ hb]; rfl
  · rw [cell_of_row w g 2 _ _ _ hb]; rfl
  · simp [World.frozen?, hb]
  · simp [World.frozen?, hb]

theorem sgn_is (ts : List Tk.Tok) (k : Nat) (hk : k < ts.length) (h : Ps.kindAt ts k = 4) : Ps.sgn ts k = Ps.textAt ts k := by
  unfold Ps.sgn Ps.textAt
  unfold Ps.kindAt at h
  rw [List.getElem?_eq_getElem hk] at h ⊢
  dsimp only at h ⊢
  rw [if_pos h]
theorem sgn_not (ts : List Tk.Tok) (k : Nat) (h : Ps.kindAt ts k ≠ 4) : Ps.sgn ts k = [] := by
  by_cases hs : Ps.sgn ts k = []
  · exact hs
  · exact absurd (Ps.sgn_kind hs) h

set_option maxRecDepth 100000 in
set_option maxHeartbeats 4000000 in
theorem psign_any (w : World) (g : Nat) (ts : List Tk.Tok) (k o : Nat) (hP : Psr w g ts k o) :
    Calls Tryd.prog 72 #[.pointer (some ⟨g, 0, none⟩)] w fun e w' => e = .returned (.string ⟨(Ps.sgn ts k).toArray⟩) ∧ Below w.heap.size w w' := by
  have hk := hP.inT
  obtain ⟨b, c, hne, hbl, q0, q1, q2, f1, f2, a0, a1, a2, v, a3⟩ := hP.cells
  have hgl := hP.lt
  clear hP q2 f1 f2
  have i0 : (0 : Int) ≤ (k : Int) := by omega
  have i1 : (k : Int) < (ts.length : Int) := by omega
  by_cases h4 : Ps.kindAt ts k = 4
  · have HS := Lib.hid (sgn_is ts k hk h4)
    have t4 := bT (show ((Ps.kindAt ts k : Nat) : Int) = 4 by omega)
    clear h4
    generalize Ps.kindAt ts k = K at *
    generalize Ps.textAt ts k = T at *
    generalize Ps.numAt ts k = M at *
    go_enter Tryd.func72, Tryd.ntmps72
    go_wp2
    go_region
    all_goals
      go_wp2
      go_ret
      rw [HS.out]
      exact ⟨rfl, (Below.refl _ _).drew.alloc (Nat.le_refl _) _⟩
  · have HS := Lib.hid (sgn_not ts k h4)
    have t4 := bF (show ((Ps.kindAt ts k : Nat) : Int) ≠ 4 by omega)
    clear h4
    generalize Ps.kindAt ts k = K at *
    generalize Ps.textAt ts k = T at *
    generalize Ps.numAt ts k = M at *
    go_enter Tryd.func72, Tryd.ntmps72
    go_wp2
    go_region
    all_goals
      go_wp2
      go_ret
      rw [HS.out]
      exact ⟨rfl, (Below.refl _ _).drew.alloc (Nat.le_refl _) _⟩

end Go.Proofs.YtjjooekkieddbaaDoor

namespace Go.Proofs.YtjjooekkieddbaaDoor
open Go.RowKit

def Ps.R.err : Ps.R → Nat
  | .bad _ e => e
  | .ok _ _ => 0
def Ps.R.ex : Ps.R → Ex
  | .bad _ _ => .mk 0 0 [] []
  | .ok x _ => x
/-- what a method of the parser leaves -/
def PsPost (w : World) (g : Nat) (ts : List Tk.Tok) (o : Nat) (R : Ps.R) (e : Ending) (w' : World) : Prop :=
  ∃ f : EF, e = .returned (.tuple #[f.val, .int .i64 (R.err : Int)]) ∧ ExM w' (w.heap.size ≤ ·) R.ex f ∧ Psr w' g ts R.at_ o ∧ w.grownBy w' (some g)

theorem Psr.unset {w W : World} {g : Nat} {ts : List Tk.Tok} {k o : Nat} (h : Psr w g ts k o) {r : Nat} (hr : g < r) (hW : ∀ b, b < w.heap.size → b ≠ r → W.heap[b]? = w.heap[b]?) : Psr W g ts k o :=
  h.keep fun b hb => hW b (by have := h.lt; omega) (by omega)
theorem grown_unset {w w1 W : World} {g r : Nat} (h : w.grownBy w1 (some g)) (hr : w.heap.size ≤ r) (hs : w1.heap.size ≤ W.heap.size) (ho : W.os = w1.os) (ht : W.tape = w1.tape) (hu : W.output = w1.output) (hW : ∀ b, b < w1.heap.size → b ≠ r → W.heap[b]? = w1.heap[b]?) : w.grownBy W (some g) :=
  ⟨ho.trans h.os, ht.trans h.tape, hu.trans h.output, Nat.le_trans h.size hs, fun i hi hne => (hW i (by have := h.size; omega) (by omega)).trans (h.block i hi hne)⟩

theorem set4_alloc2_keep (w : World) (r : Nat) (u0 u1 u2 u3 : Value) (o o' : Obj) (b : Nat) (hb : b ≠ r) (hlt : b < w.heap.size) : (((set4 w r u0 u1 u2 u3).alloc o).alloc o').heap[b]? = w.heap[b]? := by
  rw [Below.heap_alloc _ o' b (by have := set4_size w r u0 u1 u2 u3; simp; omega), set4_alloc_keep w r u0 u1 u2 u3 o b hb hlt]
theorem efat_new2 (w : World) (r : Nat) (u0 u1 u2 u3 : Value) (ob : Obj) (l : List Value) (t : TypeId) (o : Nat) (f : EF) (h : l[o]? = some (.int .i64 f.op) ∧ l[o + 1]? = some (.int .i64 f.num) ∧ l[o + 2]? = some (.string ⟨f.name.toArray⟩) ∧ l[o + 3]? = some (.slice f.A f.n f.c)) :
    EFat (((set4 w r u0 u1 u2 u3).alloc ob).alloc (.cells l.toArray t)) (w.heap.size + 1) o f := by
  have hs := set4_size w r u0 u1 u2 u3
  have hs2 : ((set4 w r u0 u1 u2 u3).alloc ob).heap.size = w.heap.size + 1 := by simp [hs]
  have e : ∀ o', (((set4 w r u0 u1 u2 u3).alloc ob).alloc (.cells l.toArray t)).cell? ⟨w.heap.size + 1, o', none⟩ = l[o']? := by
    intro o'
    rw [← hs2, World.cell?_alloc_mark]
    simp
  exact ⟨(e _).trans h.1, (e _).trans h.2.1, (e _).trans h.2.2.1, (e _).trans h.2.2.2⟩
theorem blk4 {w : World} {b : Nat} {c0 c1 c2 c3 : Value} {t : TypeId} (h : w.heap[b]? = some (.cells #[c0, c1, c2, c3] t (0, 0))) :
    w.cell? ⟨b, 0, none⟩ = some c0 ∧ w.cell? ⟨b, 1, none⟩ = some c1 ∧ w.cell? ⟨b, 2, none⟩ = some c2 ∧ w.cell? ⟨b, 3, none⟩ = some c3 ∧
    w.frozen? ⟨b, 0, none⟩ = false ∧ w.frozen? ⟨b, 1, none⟩ = false ∧ w.frozen? ⟨b, 2, none⟩ = false ∧ w.frozen? ⟨b, 3, none⟩ = false ∧ b < w.heap.size := by
  refine ⟨?_, ?_, ?_, ?_, ?_, ?_, ?_, ?_, lt_of_block h⟩
  · rw [cell_of_row w b 0 _ _ _ h]; rfl
  · rw [cell_of_row w b 1 _ _ _ h]; rfl
  · rw [cell_of_row w b 2 _ _ _ h]; rfl
  · rw [cell_of_row w b 3 _ _ _ h]; rfl
  · simp [World.frozen?, h]
  · simp [World.frozen?, h]
  · simp [World.frozen?, h]
  · simp [World.frozen?, h]
theorem set4_at {w : World} {b : Nat} {c0 c1 c2 c3 : Value} {t : TypeId} (h : w.heap[b]? = some (.cells #[c0, c1, c2, c3] t (0, 0))) (u0 u1 u2 u3 : Value) :
    (set4 w b u0 u1 u2 u3).heap[b]? = some (.cells #[u0, u1, u2, u3] t (0, 0)) := by
  unfold set4
  simp [World.setCell, Array.getElem?_modify, h]
/-- what is left of a call that wrote its result to block r -/
theorem ps_end {w w1 W : World} {g r : Nat} {ts : List Tk.Tok} {o : Nat} {R : Ps.R} {f : EF} (hgr : g < r) (hwr : w.heap.size ≤ r) (hP : Psr w1 g ts R.at_ o) (hG : w.grownBy w1 (some g)) (hs : w1.heap.size ≤ W.heap.size) (ho : W.os = w1.os) (ht : W.tape = w1.tape) (hu : W.output = w1.output)
    (hW : ∀ b, b < w1.heap.size → b ≠ r → W.heap[b]? = w1.heap[b]?) (hE : ExM W (w.heap.size ≤ ·) R.ex f) : PsPost w g ts o R (.returned (.tuple #[f.val, .int .i64 (R.err : Int)])) W :=
  ⟨f, rfl, hE, hP.unset hgr hW, grown_unset hG hwr hs ho ht hu hW⟩
/-- an error, with two more blocks or one -/
theorem ps_bad {w w1 : World} {g : Nat} {ts : List Tk.Tok} {o : Nat} {m e0 : Nat} (hgw : g < w.heap.size) (hP : Psr w1 g ts m o) (hG : w.grownBy w1 (some g)) (u0 u1 u2 u3 : Value) (ob : Obj) :
    PsPost w g ts o (.bad m e0) (.returned (.tuple #[.agg #[.int .i64 0, .int .i64 0, .string ⟨#[]⟩, .slice none 0 0], .int .i64 (e0 : Int)])) ((set4 w1 w.heap.size u0 u1 u2 u3).alloc ob) := by
  have hW := fun b (hb : b < w1.heap.size) (hne : b ≠ w.heap.size) => set4_alloc_keep w1 w.heap.size u0 u1 u2 u3 ob b hne hb
  exact ⟨⟨0, 0, [], none, 0, 0⟩, rfl, ExM.leaf _ _ _ _ _ _ _, hP.unset hgw hW, grown_unset hG (Nat.le_refl _) (by have := set4_size w1 w.heap.size u0 u1 u2 u3; simp; omega) rfl rfl rfl hW⟩



set_option maxRecDepth 100000 in
set_option maxHeartbeats 4000000 in
theorem afterUnary_of (w : World) (g : Nat) (ts : List Tk.Tok) (k o : Nat) (op : Nat) (hP : Psr w g ts k o) (hO : ∀ w', Psr w' g ts k o → Calls Tryd.prog 70 #[.pointer (some ⟨g, 0, none⟩)] w' (PsPost w' g ts o (Ps.PO ts o k))) :
    Calls Tryd.prog 102 #[.pointer (some ⟨g, 0, none⟩), .int .i64 (op : Int)] w (PsPost w g ts o ((Ps.PO ts o k).bind fun x k' => .ok (.mk op 0 [] [x]) k')) := by
  have HP := Lib.hid (hP.alloc (.cells #[.int .i64 0, .int .i64 0, .string ⟨#[]⟩, .slice none 0 0] 25))
  have hgw := hP.lt
  have HO := Lib.hid hO
  clear hP hO
  go_enter Tryd.func102, Tryd.ntmps102
  go_wp2_with fail
  refine (HO.out _ HP.out).mono ?_
  rintro e w1 ⟨f, rfl, hE, hP1, hG⟩
  unfold EF.val
  obtain ⟨q0, q1, q2, q3, f0, f1, f2, f3, hz⟩ := four_grown hgw hG
  have HG := Lib.hid (grown_of_alloc hG)
  have HE := Lib.hid hE
  have HP1 := Lib.hid hP1
  clear hG hE hP1
  cases hR : Ps.PO ts o k with
  | bad m e0 =>
    have he := Ps.PO_err hR
    have t0 := nT (show ((e0 : Nat) : Int) ≠ 0 by omega)
    rw [hR] at HE HP1
    have HR := Lib.hid hR
    clear hR
    dsimp only [Ps.R.err]
    go_wp2_with fail
    refine bodyPost_ret (v := .tuple #[.agg #[.int .i64 0, .int .i64 0, .string ⟨#[]⟩, .slice none 0 0], .int .i64 (e0 : Int)]) (by simp [results, Tryd.results102, go_sem, q0, q1, q2, q3, hz]) rfl ?_
    rw [HR.out]
    exact ps_bad hgw HP1.out HG.out _ _ _ _ _
  | ok x m =>
    rw [hR] at HE HP1
    have HR := Lib.hid hR
    clear hR
    dsimp only [Ps.R.err]
    go_wp2_with fail
    refine bodyPost_ret (v := .tuple #[.agg #[.int .i64 (op : Int), .int .i64 0, .string ⟨#[]⟩, .slice (some ⟨w1.heap.size + 1, 0, none⟩) 1 1], .int .i64 0]) (by simp [results, Tryd.results102, go_sem, q0, q1, q2, q3, hz]) rfl ?_
    rw [HR.out]
    have hE : ExM w1 (w.heap.size < ·) x f := HE.out.more fun b hb => by simp at hb; omega
    refine ps_end (R := .ok (.mk op 0 [] [x]) m) (f := ⟨(op : Int), 0, [], some ⟨w1.heap.size + 1, 0, none⟩, 1, 1⟩) hgw (Nat.le_refl _) HP1.out HG.out (by have := set4_size w1 w.heap.size; simp [World.setCell]; omega) rfl rfl rfl (fun b hb hne => set4_alloc2_keep w1 w.heap.size _ _ _ _ _ _ b hne hb) ?_
    exact ExM.one _ _ _ (w1.heap.size + 1) 0 1 (by omega) (efat_new2 w1 w.heap.size _ _ _ _ _ [.int .i64 f.op, .int .i64 f.num, .string ⟨f.name.toArray⟩, .slice f.A f.n f.c] 25 0 f ⟨rfl, rfl, rfl, rfl⟩) ((hE.keep fun b hb hlt => set4_alloc2_keep w1 w.heap.size _ _ _ _ _ _ b (by omega) hlt).more fun b hb => by omega)



set_option maxRecDepth 100000 in
set_option maxHeartbeats 4000000 in
theorem afterParenthesis_of (w : World) (g : Nat) (ts : List Tk.Tok) (k o : Nat) (hlast : Ps.kindAt ts (ts.length - 1) = 5) (hP : Psr w g ts k o) (hO : ∀ w', Psr w' g ts k o → Calls Tryd.prog 42 #[.pointer (some ⟨g, 0, none⟩), .int .i64 1] w' (PsPost w' g ts o (Ps.PE ts 1 o k))) :
    Calls Tryd.prog 101 #[.pointer (some ⟨g, 0, none⟩)] w (PsPost w g ts o ((Ps.PE ts 1 o k).bind fun x k' => if Ps.sgn ts k' = [41] then .ok x (k' + 1) else .bad k' 4)) := by
  have HP := Lib.hid (hP.alloc (.cells #[.int .i64 0, .int .i64 0, .string ⟨#[]⟩, .slice none 0 0] 25))
  have hgw := hP.lt
  have HO := Lib.hid hO
  have HL := Lib.hid hlast
  clear hP hO hlast
  go_enter Tryd.func101, Tryd.ntmps101
  go_wp2_with fail
  refine (HO.out _ HP.out).mono ?_
  rintro e w1 ⟨f, rfl, hE, hP1, hG⟩
  unfold EF.val
  obtain ⟨q0, q1, q2, q3, f0, f1, f2, f3, hz⟩ := four_grown hgw hG
  have HG := Lib.hid (grown_of_alloc hG)
  have HE := Lib.hid hE
  have HP1 := Lib.hid hP1
  clear hG hE hP1
  cases hR : Ps.PE ts 1 o k with
  | bad m e0 =>
    have he := Ps.PE_err (Nat.le_refl 1) hR
    have t0 := nT (show ((e0 : Nat) : Int) ≠ 0 by omega)
    rw [hR] at HE HP1
    have HR := Lib.hid hR
    clear hR
    dsimp only [Ps.R.err]
    go_wp2_with fail
    refine bodyPost_ret (v := .tuple #[.agg #[.int .i64 0, .int .i64 0, .string ⟨#[]⟩, .slice none 0 0], .int .i64 (e0 : Int)]) (by simp [results, Tryd.results101, go_sem, q0, q1, q2, q3, hz]) rfl ?_
    rw [HR.out]
    exact ps_bad hgw HP1.out HG.out _ _ _ _ _
  | ok x m =>
    rw [hR] at HE HP1
    have HR := Lib.hid hR
    have hmT : m < ts.length := HP1.out.inT
    clear hR
    dsimp only [Ps.R.err]
    go_wp2_with fail
    refine (psign_any _ g ts m o (HP1.out.alloc _)).mono ?_
    rintro e w2 ⟨rfl, hb2⟩
    have hS0 : (w1.alloc (.cells #[.int .i64 f.op, .int .i64 f.num, .string ⟨f.name.toArray⟩, .slice f.A f.n f.c] 25)).heap.size = w1.heap.size + 1 := by simp
    have hP2 : Psr w2 g ts m o := (HP1.out.alloc _).later hb2
    have hG2 : w.grownBy w2 (some g) := grown_trans HG.out ⟨hb2.os, hb2.tape, hb2.output, by have := hb2.size; omega, fun b hb _ => (hb2.block b (by omega)).trans (Below.heap_alloc w1 _ b hb)⟩
    have hE2 : ExM w2 (w.heap.size < ·) x f := (HE.out.keep fun b hb hlt => (hb2.block b (by omega)).trans (Below.heap_alloc w1 _ b hlt)).more fun b hb => by simp at hb; omega
    have hL2 : w2.heap[w1.heap.size]? = some (.cells #[.int .i64 f.op, .int .i64 f.num, .string ⟨f.name.toArray⟩, .slice f.A f.n f.c] 25 (0, 0)) := (hb2.block _ (by omega)).trans (heap_alloc_new w1 _)
    have hR2 : w2.heap[w.heap.size]? = w1.heap[w.heap.size]? := (hb2.block _ (by omega)).trans (Below.heap_alloc w1 _ _ hz)
    have r0 : w2.cell? ⟨w.heap.size, 0, none⟩ = some (.int .i64 0) := (World.cell?_of_block hR2).trans q0
    have r1 : w2.cell? ⟨w.heap.size, 1, none⟩ = some (.int .i64 0) := (World.cell?_of_block hR2).trans q1
    have r2 : w2.cell? ⟨w.heap.size, 2, none⟩ = some (.string ⟨#[]⟩) := (World.cell?_of_block hR2).trans q2
    have r3 : w2.cell? ⟨w.heap.size, 3, none⟩ = some (.slice none 0 0) := (World.cell?_of_block hR2).trans q3
    have z0 : w2.frozen? ⟨w.heap.size, 0, none⟩ = false := (World.frozen?_of_block hR2).trans f0
    have z1 : w2.frozen? ⟨w.heap.size, 1, none⟩ = false := (World.frozen?_of_block hR2).trans f1
    have z2 : w2.frozen? ⟨w.heap.size, 2, none⟩ = false := (World.frozen?_of_block hR2).trans f2
    have z3 : w2.frozen? ⟨w.heap.size, 3, none⟩ = false := (World.frozen?_of_block hR2).trans f3
    obtain ⟨l0, l1, l2, l3, -, -, -, -, hl2⟩ := blk4 hL2
    obtain ⟨tb, tc, hne, hbl, p0, p1, p2, g1, g2, -, -, -, -⟩ := hP2.cells
    have hzz : w.heap.size < w2.heap.size := by omega
    have hn1 : w1.heap.size ≠ w.heap.size := by omega
    have hn2 : g ≠ w.heap.size := by omega
    have hn3 : g ≠ w1.heap.size := by omega
    have HP2 := Lib.hid hP2
    have HG2 := Lib.hid hG2
    have HE2 := Lib.hid hE2
    clear hb2 hS0 hP2 hG2 hE2 hL2 hR2 q0 q1 q2 q3 f0 f1 f2 f3 p0 p2 g2 hbl HO
    by_cases h41 : Ps.sgn ts m = [41]
    · have t1 := str_eq_T h41
      have hm1 : m + 1 < ts.length := Ps.next_in HL.out hmT (by rw [Ps.sgn_kind (by rw [h41]; decide)]; decide)
      have hmx : m + 1 ≤ 1000000 := by obtain ⟨A, c, hb, hl, ho, hn, _⟩ := HP2.out; omega
      have H41 := Lib.hid h41
      clear h41
      go_wp2_with fail
      refine bodyPost_ret (v := .tuple #[.agg #[.int .i64 f.op, .int .i64 f.num, .string ⟨f.name.toArray⟩, .slice f.A f.n f.c], .int .i64 0]) (by simp [results, Tryd.results101, go_sem, r0, r1, r2, r3]) rfl ?_
      rw [HR.out]
      show PsPost w g ts o (if Ps.sgn ts m = [41] then Ps.R.ok x (m + 1) else Ps.R.bad m 4) _ _
      rw [if_pos H41.out]
      have hP3 := HP2.out.at (m + 1) hm1
      rw [show (((m + 1 : Nat) : Nat) : Int) = (m : Int) + 1 by omega] at hP3
      have hs1 : (w2.setCell ⟨g, 1, none⟩ (.int .i64 ((m : Int) + 1))).heap.size = w2.heap.size := by simp [World.setCell]
      have hk1 : ∀ b, b ≠ g → (w2.setCell ⟨g, 1, none⟩ (.int .i64 ((m : Int) + 1))).heap[b]? = w2.heap[b]? := fun b hb => Below.heap_setCell w2 _ _ b (by simpa using hb)
      refine ps_end (R := .ok x (m + 1)) (f := f) hgw (Nat.le_refl _) hP3 (grown_trans HG2.out ⟨rfl, rfl, rfl, Nat.le_of_eq hs1.symm, fun b _ hne => hk1 b (fun e => hne (by rw [e]))⟩) (Nat.le_of_eq (set4_size _ w.heap.size _ _ _ _).symm) rfl rfl rfl (fun b _ hne => set4_keep _ w.heap.size _ _ _ _ b hne) ?_
      exact (HE2.out.keep fun b hb hlt => (set4_keep _ w.heap.size _ _ _ _ b (by omega)).trans (hk1 b (by omega))).more fun b hb => by omega
    · have t1 := str_eq_F h41
      have H41 := Lib.hid h41
      clear h41
      go_wp2_with fail
      refine bodyPost_ret (v := .tuple #[.agg #[.int .i64 0, .int .i64 0, .string ⟨#[]⟩, .slice none 0 0], .int .i64 4]) (by simp [results, Tryd.results101, go_sem, r0, r1, r2, r3]) rfl ?_
      rw [HR.out]
      show PsPost w g ts o (if Ps.sgn ts m = [41] then Ps.R.ok x (m + 1) else Ps.R.bad m 4) _ _
      rw [if_neg H41.out]
      exact ps_end (R := .bad m 4) (f := ⟨0, 0, [], none, 0, 0⟩) hgw (Nat.le_refl _) HP2.out HG2.out (Nat.le_of_eq (set4_size w2 w.heap.size _ _ _ _).symm) rfl rfl rfl (fun b _ hne => set4_keep w2 w.heap.size _ _ _ _ b hne) (ExM.leaf _ _ _ _ _ _ _)
end Go.Proofs.YtjjooekkieddbaaDoor

namespace Go.Proofs.YtjjooekkieddbaaDoor
open Go.RowKit

theorem setCell_size (W : World) (p : Addr) (u : Value) : (W.setCell p u).heap.size = W.heap.size := by simp [World.setCell]
theorem Psr.drew {w : World} {g : Nat} {ts : List Tk.Tok} {k o : Nat} (h : Psr w g ts k o) : Psr w.drew g ts k o := h.keep fun _ _ => rfl
/-- the world in which operand calls what follows a parenthesis or a unary operator -/
def opWorld (w3 : World) (g k o : Nat) : World := ((w3.setCell ⟨g, 2, none⟩ (.int .i64 ((o : Int) + 1))).setCell ⟨g, 1, none⟩ (.int .i64 ((k : Int) + 1))).alloc (.cells #[.int .i64 0, .int .i64 0, .string ⟨#[]⟩, .slice none 0 0] 25)
theorem opWorld_keep (w3 : World) (g k o b : Nat) (hb : b < w3.heap.size) (hne : b ≠ g) : (opWorld w3 g k o).heap[b]? = w3.heap[b]? := by
  unfold opWorld
  rw [Below.heap_alloc _ _ b (by simp [World.setCell]; omega), Below.heap_setCell _ _ _ b (by simpa using hne), Below.heap_setCell _ _ _ b (by simpa using hne)]
theorem opWorld_os (w3 : World) (g k o : Nat) : (opWorld w3 g k o).os = w3.os ∧ (opWorld w3 g k o).tape = w3.tape ∧ (opWorld w3 g k o).output = w3.output := ⟨rfl, rfl, rfl⟩
theorem setCell_os (W : World) (p : Addr) (u : Value) : (W.setCell p u).os = W.os ∧ (W.setCell p u).tape = W.tape ∧ (W.setCell p u).output = W.output := ⟨rfl, rfl, rfl⟩
theorem set4_os (W : World) (r : Nat) (u0 u1 u2 u3 : Value) : (set4 W r u0 u1 u2 u3).os = W.os ∧ (set4 W r u0 u1 u2 u3).tape = W.tape ∧ (set4 W r u0 u1 u2 u3).output = W.output := ⟨rfl, rfl, rfl⟩
theorem opWorld_size (w3 : World) (g k o : Nat) : (opWorld w3 g k o).heap.size = w3.heap.size + 1 := by
  unfold opWorld
  simp [World.setCell]
theorem opWorld_psr {w3 : World} {g : Nat} {ts : List Tk.Tok} {k o : Nat} (h : Psr w3 g ts k o) (hk : k + 1 < ts.length) (ho : o < 24) : Psr (opWorld w3 g k o) g ts (k + 1) (o + 1) := by
  have h1 := (h.op (o + 1) (by omega)).at (k + 1) hk
  exact h1.alloc _
theorem opWorld_new (w3 : World) (g k o : Nat) : (opWorld w3 g k o).heap[w3.heap.size]? = some (.cells #[.int .i64 0, .int .i64 0, .string ⟨#[]⟩, .slice none 0 0] 25 (0, 0)) := by
  have hs : ((w3.setCell ⟨g, 2, none⟩ (.int .i64 ((o : Int) + 1))).setCell ⟨g, 1, none⟩ (.int .i64 ((k : Int) + 1))).heap.size = w3.heap.size := by simp [World.setCell]
  have := heap_alloc_new ((w3.setCell ⟨g, 2, none⟩ (.int .i64 ((o : Int) + 1))).setCell ⟨g, 1, none⟩ (.int .i64 ((k : Int) + 1))) (.cells #[.int .i64 0, .int .i64 0, .string ⟨#[]⟩, .slice none 0 0] 25)
  rw [hs] at this
  exact this
/-- what is left of operand behind that call -/
theorem ps_tail {w w3 w4 : World} {g k o : Nat} {ts : List Tk.Tok} {R : Ps.R} {f : EF} (hgr : g < w.heap.size) (hre : w.heap.size < w3.heap.size) (h3 : w.grownBy w3 (some g)) (hG : (opWorld w3 g k o).grownBy w4 (some g))
    (hE : ExM w4 ((opWorld w3 g k o).heap.size ≤ ·) R.ex f) (hP : Psr w4 g ts R.at_ (o + 1)) (ho : o ≤ 24) (u0 u1 u2 u3 v0 v1 v2 v3 : Value) :
    PsPost w g ts o R (.returned (.tuple #[f.val, .int .i64 (R.err : Int)])) (set4 ((set4 w4 w3.heap.size u0 u1 u2 u3).setCell ⟨g, 2, none⟩ (.int .i64 (o : Int))) w.heap.size v0 v1 v2 v3) := by
  have hs3 := opWorld_size w3 g k o
  have hs4 := hG.size
  have hk1 : ∀ b, b ≠ w3.heap.size → (set4 w4 w3.heap.size u0 u1 u2 u3).heap[b]? = w4.heap[b]? := fun b hb => set4_keep w4 w3.heap.size u0 u1 u2 u3 b hb
  have hP1 : Psr (set4 w4 w3.heap.size u0 u1 u2 u3) g ts R.at_ (o + 1) := hP.keep fun b hb => hk1 b (by omega)
  have hP2 := hP1.op o ho
  have hk2 : ∀ b, b ≠ g → ((set4 w4 w3.heap.size u0 u1 u2 u3).setCell ⟨g, 2, none⟩ (.int .i64 (o : Int))).heap[b]? = (set4 w4 w3.heap.size u0 u1 u2 u3).heap[b]? := fun b hb => Below.heap_setCell _ _ _ b (by simpa using hb)
  have hsz : ((set4 w4 w3.heap.size u0 u1 u2 u3).setCell ⟨g, 2, none⟩ (.int .i64 (o : Int))).heap.size = w4.heap.size := (setCell_size _ _ _).trans (set4_size w4 w3.heap.size u0 u1 u2 u3)
  have hG2 : w.grownBy ((set4 w4 w3.heap.size u0 u1 u2 u3).setCell ⟨g, 2, none⟩ (.int .i64 (o : Int))) (some g) := by
    obtain ⟨o1, o2, o3⟩ := opWorld_os w3 g k o
    obtain ⟨s1, s2, s3⟩ := set4_os w4 w3.heap.size u0 u1 u2 u3
    obtain ⟨c1, c2, c3⟩ := setCell_os (set4 w4 w3.heap.size u0 u1 u2 u3) ⟨g, 2, none⟩ (.int .i64 (o : Int))
    refine ⟨(((c1.trans s1).trans hG.os).trans o1).trans h3.os, (((c2.trans s2).trans hG.tape).trans o2).trans h3.tape, (((c3.trans s3).trans hG.output).trans o3).trans h3.output, by rw [hsz]; have := h3.size; omega, fun b hb hne => ?_⟩
    have hbg : b ≠ g := fun e => hne (by rw [e])
    exact (hk2 b hbg).trans ((hk1 b (by omega)).trans ((hG.block b (by omega) hne).trans ((opWorld_keep w3 g k o b (by omega) hbg).trans (h3.block b hb hne))))
  obtain ⟨d1, d2, d3⟩ := set4_os ((set4 w4 w3.heap.size u0 u1 u2 u3).setCell ⟨g, 2, none⟩ (.int .i64 (o : Int))) w.heap.size v0 v1 v2 v3
  refine ps_end hgr (Nat.le_refl _) hP2 hG2 (Nat.le_of_eq (set4_size _ w.heap.size _ _ _ _).symm) d1 d2 d3 (fun b _ hne => set4_keep _ w.heap.size _ _ _ _ b hne) ?_
  exact (hE.keep fun b hb hlt => (set4_keep _ w.heap.size _ _ _ _ b (by omega)).trans ((hk2 b (by omega)).trans (hk1 b (by omega)))).more fun b hb => by omega

theorem op_facts {w w2 : World} {g : Nat} {ts : List Tk.Tok} {k o : Nat} {cs : Array Value} {t : TypeId} (hP : Psr w g ts k o)
    (hb : Below ((w.alloc (.cells #[.int .i64 0, .int .i64 0, .string ⟨#[]⟩, .slice none 0 0] 25)).alloc (.cells cs t)).drew.heap.size ((w.alloc (.cells #[.int .i64 0, .int .i64 0, .string ⟨#[]⟩, .slice none 0 0] 25)).alloc (.cells cs t)).drew w2) :
    Psr w2 g ts k o ∧ w2.heap[w.heap.size]? = some (.cells #[.int .i64 0, .int .i64 0, .string ⟨#[]⟩, .slice none 0 0] 25 (0, 0)) ∧ w.grownBy w2 (some g) ∧ w.heap.size + 2 ≤ w2.heap.size := by
  have hs : ((w.alloc (.cells #[.int .i64 0, .int .i64 0, .string ⟨#[]⟩, .slice none 0 0] 25)).alloc (.cells cs t)).drew.heap.size = w.heap.size + 2 := by simp
  have hsz := hb.size
  refine ⟨(((hP.alloc _).alloc _).drew).later hb, ?_, ⟨hb.os, hb.tape, hb.output, by omega, fun b hbb _ => ?_⟩, by omega⟩
  · refine (hb.block _ (by omega)).trans ?_
    refine (Below.heap_alloc _ _ _ (by simp)).trans ?_
    exact heap_alloc_new w _
  · exact (hb.block b (by omega)).trans ((Below.heap_alloc _ _ b (by simp; omega)).trans (Below.heap_alloc w _ b hbb))
/-- the blocks of the result and of the part behind that call -/
theorem op_back {w w3 w4 : World} {g k o : Nat} {Z : Obj} (hZ : w3.heap[w.heap.size]? = some Z) (hr : w.heap.size < w3.heap.size) (hg : g < w.heap.size) (hG : (opWorld w3 g k o).grownBy w4 (some g)) :
    w4.heap[w.heap.size]? = some Z ∧ w4.heap[w3.heap.size]? = some (.cells #[.int .i64 0, .int .i64 0, .string ⟨#[]⟩, .slice none 0 0] 25 (0, 0)) := by
  have hs := opWorld_size w3 g k o
  exact ⟨(hG.block _ (by omega) (fun e => by injection e with e; omega)).trans ((opWorld_keep w3 g k o _ hr (by omega)).trans hZ), (hG.block _ (by omega) (fun e => by injection e with e; omega)).trans (opWorld_new w3 g k o)⟩
/-- a number or a name was read -/
theorem op_leaf {w : World} {g : Nat} {ts : List Tk.Tok} {k o : Nat} (hP : Psr w g ts k o) (hk : k + 1 < ts.length) (op num : Int) (name : List UInt8) (cs : Array Value) (t t' : TypeId) :
    PsPost w g ts o (.ok (.mk op num name []) (k + 1)) (.returned (.tuple #[.agg #[.int .i64 op, .int .i64 num, .string ⟨name.toArray⟩, .slice none 0 0], .int .i64 0]))
      (((w.setCell ⟨g, 1, none⟩ (.int .i64 ((k : Int) + 1))).alloc (.cells #[.int .i64 op, .int .i64 num, .string ⟨name.toArray⟩, .slice none 0 0] t)).alloc (.cells cs t')).drew := by
  have hs : (w.setCell ⟨g, 1, none⟩ (.int .i64 ((k : Int) + 1))).heap.size = w.heap.size := by simp [World.setCell]
  have hP1 : Psr (w.setCell ⟨g, 1, none⟩ (.int .i64 ((k : Int) + 1))) g ts (k + 1) o := hP.at (k + 1) hk
  refine ⟨⟨op, num, name, none, 0, 0⟩, rfl, ExM.leaf _ _ _ _ _ _ _, ((hP1.alloc _).alloc _).drew, ⟨rfl, rfl, rfl, ?_, fun b hb hne => ?_⟩⟩
  · show w.heap.size ≤ ((((w.setCell ⟨g, 1, none⟩ (.int .i64 ((k : Int) + 1))).alloc _).alloc _)).heap.size
    simp [hs]
    omega
  · show ((((w.setCell ⟨g, 1, none⟩ (.int .i64 ((k : Int) + 1))).alloc _).alloc _)).heap[b]? = _
    rw [Below.heap_alloc _ _ b (by simp; omega), Below.heap_alloc _ _ b (by omega), Below.heap_setCell _ _ _ b (by simp; exact fun e => hne (by rw [e]))]

set_option maxRecDepth 100000 in
set_option maxHeartbeats 4000000 in
theorem operand_of (w : World) (g : Nat) (ts : List Tk.Tok) (k o : Nat) (hlast : Ps.kindAt ts (ts.length - 1) = 5) (hP : Psr w g ts k o)
    (hE : k + 1 < ts.length → o < 24 → ∀ w', Psr w' g ts (k + 1) (o + 1) → Calls Tryd.prog 42 #[.pointer (some ⟨g, 0, none⟩), .int .i64 1] w' (PsPost w' g ts (o + 1) (Ps.PE ts 1 (o + 1) (k + 1))))
    (hO : k + 1 < ts.length → o < 24 → ∀ w', Psr w' g ts (k + 1) (o + 1) → Calls Tryd.prog 70 #[.pointer (some ⟨g, 0, none⟩)] w' (PsPost w' g ts (o + 1) (Ps.PO ts (o + 1) (k + 1)))) :
    Calls Tryd.prog 70 #[.pointer (some ⟨g, 0, none⟩)] w (PsPost w g ts o (Ps.PO ts o k)) := by
  have hk := hP.inT
  have hgl := hP.lt
  have HP0 := Lib.hid hP
  have HPO := Lib.hid (Ps.PO_eq ts o k)
  obtain ⟨b, c, hne, hbl, q0, q1, q2, f1, f2, a0, a1, a2, v, a3⟩ := hP.cells
  have hmx : k + 1 ≤ 1000000 ∧ o ≤ 24 := by obtain ⟨A, c, hb, hl, ho, hn, _⟩ := hP; omega
  have HE := Lib.hid hE
  have HO := Lib.hid hO
  have HL := Lib.hid hlast
  clear hP hE hO hlast
  have i0 : (0 : Int) ≤ (k : Int) := by omega
  have i1 : (k : Int) < (ts.length : Int) := by omega
  by_cases h2 : Ps.kindAt ts k = 2
  · have t2 := bT (show ((Ps.kindAt ts k : Nat) : Int) = 2 by omega)
    have hnx : k + 1 < ts.length := Ps.next_in HL.out hk (by rw [h2]; decide)
    have H2 := Lib.hid h2
    clear h2
    generalize Ps.kindAt ts k = K at *
    generalize Ps.textAt ts k = T at *
    generalize Ps.numAt ts k = M at *
    go_enter Tryd.func70, Tryd.ntmps70
    go_wp2
    go_region
    all_goals
      go_wp2
      refine bodyPost_ret (v := .tuple #[.agg #[.int .i64 1, .int .i64 (M : Int), .string ⟨#[]⟩, .slice none 0 0], .int .i64 0]) (by simp [results, Tryd.results70, go_sem]) rfl ?_
      rw [HPO.out, if_pos H2.out]
      exact op_leaf HP0.out hnx 1 (M : Int) [] _ _ _
  · have hn2 := bF (show ((Ps.kindAt ts k : Nat) : Int) ≠ 2 by omega)
    by_cases h1 : Ps.kindAt ts k = 1
    · have t1 := bT (show ((Ps.kindAt ts k : Nat) : Int) = 1 by omega)
      have hnx : k + 1 < ts.length := Ps.next_in HL.out hk (by rw [h1]; decide)
      have H2 := Lib.hid h2
      have H1 := Lib.hid h1
      clear h2 h1
      generalize Ps.kindAt ts k = K at *
      generalize Ps.textAt ts k = T at *
      generalize Ps.numAt ts k = M at *
      go_enter Tryd.func70, Tryd.ntmps70
      go_wp2
      go_region
      all_goals
        go_wp2
        refine bodyPost_ret (v := .tuple #[.agg #[.int .i64 2, .int .i64 0, .string ⟨T.toArray⟩, .slice none 0 0], .int .i64 0]) (by simp [results, Tryd.results70, go_sem]) rfl ?_
        rw [HPO.out, if_neg H2.out, if_pos H1.out]
        exact op_leaf HP0.out hnx 2 0 T _ _ _
    · have hn1 := bF (show ((Ps.kindAt ts k : Nat) : Int) ≠ 1 by omega)
      have HPO2 := Lib.hid HPO.out
      rw [if_neg h2, if_neg h1] at HPO2
      clear h2 h1 HPO
      generalize Ps.kindAt ts k = K at *
      generalize Ps.textAt ts k = T at *
      generalize Ps.numAt ts k = M at *
      go_enter Tryd.func70, Tryd.ntmps70
      go_wp2
      go_region
      go_wp2_with fail
      refine (psign_any _ g ts k o ((HP0.out.alloc _).alloc _).drew).mono ?_
      rintro e w2 ⟨rfl, hb2⟩
      obtain ⟨hP2, hZ2, hG2, hs2⟩ := op_facts HP0.out hb2
      clear hb2 hgl hbl q0 q1 q2 f1 f2 a0 a1 a2 a3 hne i0 i1 hn1 hn2
      have HP2 := Lib.hid hP2
      have HG2 := Lib.hid hG2
      have hgl := HP0.out.lt
      obtain ⟨r0, r1, r2, r3, z0, z1, z2, z3, -⟩ := blk4 hZ2
      obtain ⟨tb, tc, hne, hbl, p0, p1, p2, g1, g2, -, -, -, -⟩ := hP2.cells
      have hn0 : g ≠ w.heap.size := by omega
      have HZ2 := Lib.hid hZ2
      clear hP2 hG2 hZ2 p0
      go_wp2_with fail
      refine (unaryOp_any (Ps.sgn ts k) w2 HP2.out.tab).mono ?_
      rintro e w3 ⟨rfl, rfl⟩
      by_cases hu : Ps.uop (Ps.sgn ts k) = 0
      · have tu := bT (show ((Ps.uop (Ps.sgn ts k) : Nat) : Int) = 0 by omega)
        have HU := Lib.hid hu
        clear hu
        go_wp2_with fail
        refine (psign_any _ g ts k o HP2.out).mono ?_
        rintro e w3 ⟨rfl, hb3⟩
        have hP3 := HP2.out.later hb3
        have hZ3 := (hb3.block _ (lt_of_block HZ2.out)).trans HZ2.out
        have hG3 : w.grownBy w3 (some g) := grown_trans HG2.out ⟨hb3.os, hb3.tape, hb3.output, hb3.size, fun b hb _ => hb3.block b hb⟩
        have hs3 : w.heap.size + 2 ≤ w3.heap.size := by have := hb3.size; omega
        have HP3 := Lib.hid hP3
        have HG3 := Lib.hid hG3
        have HZ3 := Lib.hid hZ3
        clear p1 p2 g1 g2 r0 r1 r2 r3 z0 z1 z2 z3 hbl hne hs2 HP2 HG2 HZ2 hb3
        obtain ⟨r0, r1, r2, r3, z0, z1, z2, z3, -⟩ := blk4 hZ3
        obtain ⟨tb, tc, hne, hbl, p0, p1, p2, g1, g2, -, -, -, -⟩ := hP3.cells
        clear hP3 hG3 hZ3 p0
        by_cases h40 : Ps.sgn ts k = [40]
        · have t40 := str_eq_T h40
          have H40 := Lib.hid h40
          have hnx : k + 1 < ts.length := Ps.next_in HL.out hk (by rw [Ps.sgn_kind (by rw [h40]; decide)]; decide)
          clear h40
          by_cases h24 : o = 24
          · have t24 := bT (show ((o : Nat) : Int) = 24 by omega)
            have H24 := Lib.hid h24
            clear h24
            go_wp2_with fail
            refine bodyPost_ret (v := .tuple #[.agg #[.int .i64 0, .int .i64 0, .string ⟨#[]⟩, .slice none 0 0], .int .i64 3]) (by simp [results, Tryd.results70, go_sem, r0, r1, r2, r3]) rfl ?_
            rw [HPO2.out, if_neg (fun h => h.2 H40.out), if_pos H24.out]
            exact ps_end (R := .bad k 3) (f := ⟨0, 0, [], none, 0, 0⟩) hgl (Nat.le_refl _) HP3.out HG3.out (Nat.le_of_eq (set4_size w3 w.heap.size _ _ _ _).symm) rfl rfl rfl (fun b _ hne => set4_keep w3 w.heap.size _ _ _ _ b hne) (ExM.leaf _ _ _ _ _ _ _)
          · have t24 := bF (show ((o : Nat) : Int) ≠ 24 by omega)
            have ho : o < 24 := by omega
            have H24 := Lib.hid h24
            clear h24
            go_wp2_with fail
            refine (afterParenthesis_of (opWorld w3 g k o) g ts (k + 1) (o + 1) HL.out (opWorld_psr HP3.out hnx ho) (HE.out hnx ho)).mono ?_
            rintro e w4 ⟨f, rfl, hE4, hP4, hG4⟩
            unfold EF.val
            obtain ⟨hZ4, hB4⟩ := op_back HZ3.out (by omega) hgl hG4
            obtain ⟨r0', r1', r2', r3', z0', z1', z2', z3', hl1⟩ := blk4 hZ4
            obtain ⟨b0, b1, b2, b3, y0, y1, y2, y3, hl2⟩ := blk4 hB4
            obtain ⟨tb', tc', hne', hbl', p0', p1', p2', g1', g2', -, -, -, -⟩ := hP4.cells
            rw [show (((o + 1 : Nat) : Nat) : Int) = (o : Int) + 1 by omega] at p2'
            have HX := Lib.hid (fun u0 u1 u2 u3 v0 v1 v2 v3 => ps_tail (k := k) hgl (by omega) HG3.out hG4 hE4 hP4 (by omega) u0 u1 u2 u3 v0 v1 v2 v3)
            have hnn : w3.heap.size ≠ w.heap.size := by omega
            have hnm : g ≠ w3.heap.size := by omega
            clear hZ4 hB4 hE4 hP4 hG4 p0' p1' g1' p1 p2 g1 g2 r0 r1 r2 r3 z0 z1 z2 z3 hbl hbl' hne hne'
            generalize ((Ps.PE ts 1 (o + 1) (k + 1)).bind fun x k' => if Ps.sgn ts k' = [41] then Ps.R.ok x (k' + 1) else Ps.R.bad k' 4) = R at *
            go_wp2_with fail
            refine bodyPost_ret (v := .tuple #[.agg #[.int .i64 f.op, .int .i64 f.num, .string ⟨f.name.toArray⟩, .slice f.A f.n f.c], .int .i64 (R.err : Int)]) (by simp [results, Tryd.results70, go_sem, r0', r1', r2', r3']) rfl ?_
            rw [HPO2.out, if_neg (fun h => h.2 H40.out), if_neg H24.out, if_pos HU.out]
            exact HX.out _ _ _ _ _ _ _ _
        · have t40 := str_eq_F h40
          have H40 := Lib.hid h40
          clear h40
          go_wp2_with fail
          refine bodyPost_ret (v := .tuple #[.agg #[.int .i64 0, .int .i64 0, .string ⟨#[]⟩, .slice none 0 0], .int .i64 4]) (by simp [results, Tryd.results70, go_sem, r0, r1, r2, r3]) rfl ?_
          rw [HPO2.out, if_pos ⟨HU.out, H40.out⟩]
          exact ps_end (R := .bad k 4) (f := ⟨0, 0, [], none, 0, 0⟩) hgl (Nat.le_refl _) HP3.out HG3.out (Nat.le_of_eq (set4_size w3 w.heap.size _ _ _ _).symm) rfl rfl rfl (fun b _ hne => set4_keep w3 w.heap.size _ _ _ _ b hne) (ExM.leaf _ _ _ _ _ _ _)
      · have tu := bF (show ((Ps.uop (Ps.sgn ts k) : Nat) : Int) ≠ 0 by omega)
        have HU := Lib.hid hu
        have hsg : Ps.sgn ts k ≠ [] := fun e => hu (by rw [e]; exact Ps.uop_nil)
        have hnx : k + 1 < ts.length := Ps.next_in HL.out hk (by rw [Ps.sgn_kind hsg]; decide)
        clear hu hsg
        by_cases h24 : o = 24
        · have t24 := bT (show ((o : Nat) : Int) = 24 by omega)
          have H24 := Lib.hid h24
          clear h24
          go_wp2_with fail
          refine bodyPost_ret (v := .tuple #[.agg #[.int .i64 0, .int .i64 0, .string ⟨#[]⟩, .slice none 0 0], .int .i64 3]) (by simp [results, Tryd.results70, go_sem, r0, r1, r2, r3]) rfl ?_
          rw [HPO2.out, if_neg (fun h => HU.out h.1), if_pos H24.out]
          exact ps_end (R := .bad k 3) (f := ⟨0, 0, [], none, 0, 0⟩) hgl (Nat.le_refl _) HP2.out HG2.out (Nat.le_of_eq (set4_size w2 w.heap.size _ _ _ _).symm) rfl rfl rfl (fun b _ hne => set4_keep w2 w.heap.size _ _ _ _ b hne) (ExM.leaf _ _ _ _ _ _ _)
        · have t24 := bF (show ((o : Nat) : Int) ≠ 24 by omega)
          have ho : o < 24 := by omega
          have H24 := Lib.hid h24
          clear h24
          go_wp2_with fail
          refine (afterUnary_of (opWorld w2 g k o) g ts (k + 1) (o + 1) (Ps.uop (Ps.sgn ts k)) (opWorld_psr HP2.out hnx ho) (HO.out hnx ho)).mono ?_
          rintro e w4 ⟨f, rfl, hE4, hP4, hG4⟩
          unfold EF.val
          obtain ⟨hZ4, hB4⟩ := op_back HZ2.out (by omega) hgl hG4
          obtain ⟨r0', r1', r2', r3', z0', z1', z2', z3', hl1⟩ := blk4 hZ4
          obtain ⟨b0, b1, b2, b3, y0, y1, y2, y3, hl2⟩ := blk4 hB4
          obtain ⟨tb', tc', hne', hbl', p0', p1', p2', g1', g2', -, -, -, -⟩ := hP4.cells
          rw [show (((o + 1 : Nat) : Nat) : Int) = (o : Int) + 1 by omega] at p2'
          have HX := Lib.hid (fun u0 u1 u2 u3 v0 v1 v2 v3 => ps_tail (k := k) hgl (by omega) HG2.out hG4 hE4 hP4 (by omega) u0 u1 u2 u3 v0 v1 v2 v3)
          have hnn : w2.heap.size ≠ w.heap.size := by omega
          have hnm : g ≠ w2.heap.size := by omega
          clear hZ4 hB4 hE4 hP4 hG4 p0' p1' g1' p1 p2 g1 g2 r0 r1 r2 r3 z0 z1 z2 z3 hbl hbl' hne hne'
          generalize ((Ps.PO ts (o + 1) (k + 1)).bind fun x k' => Ps.R.ok (Ex.mk (↑(Ps.uop (Ps.sgn ts k))) 0 [] [x]) k') = R at *
          go_wp2_with fail
          refine bodyPost_ret (v := .tuple #[.agg #[.int .i64 f.op, .int .i64 f.num, .string ⟨f.name.toArray⟩, .slice f.A f.n f.c], .int .i64 (R.err : Int)]) (by simp [results, Tryd.results70, go_sem, r0', r1', r2', r3']) rfl ?_
          rw [HPO2.out, if_neg (fun h => HU.out h.1), if_neg H24.out, if_neg HU.out]
          exact HX.out _ _ _ _ _ _ _ _

end Go.Proofs.YtjjooekkieddbaaDoor

namespace Go.Proofs.YtjjooekkieddbaaDoor
open Go.RowKit

/-- the world in which expression reads the right side of an operator -/
def exWorld (w2 : World) (g m : Nat) : World := (w2.setCell ⟨g, 1, none⟩ (.int .i64 ((m : Int) + 1))).alloc (.cells #[.int .i64 0, .int .i64 0, .string ⟨#[]⟩, .slice none 0 0] 25)
theorem exWorld_keep (w2 : World) (g m b : Nat) (hb : b < w2.heap.size) (hne : b ≠ g) : (exWorld w2 g m).heap[b]? = w2.heap[b]? := by
  unfold exWorld
  rw [Below.heap_alloc _ _ b (by rw [setCell_size]; exact hb), Below.heap_setCell _ _ _ b (by simpa using hne)]
theorem exWorld_size (w2 : World) (g m : Nat) : (exWorld w2 g m).heap.size = w2.heap.size + 1 := by
  unfold exWorld
  simp [World.setCell]
theorem exWorld_os (w2 : World) (g m : Nat) : (exWorld w2 g m).os = w2.os ∧ (exWorld w2 g m).tape = w2.tape ∧ (exWorld w2 g m).output = w2.output := ⟨rfl, rfl, rfl⟩
theorem exWorld_psr {w2 : World} {g : Nat} {ts : List Tk.Tok} {m o : Nat} (h : Psr w2 g ts m o) (hk : m + 1 < ts.length) : Psr (exWorld w2 g m) g ts (m + 1) o := (h.at (m + 1) hk).alloc _
theorem exWorld_new (w2 : World) (g m : Nat) : (exWorld w2 g m).heap[w2.heap.size]? = some (.cells #[.int .i64 0, .int .i64 0, .string ⟨#[]⟩, .slice none 0 0] 25 (0, 0)) := by
  have := heap_alloc_new (w2.setCell ⟨g, 1, none⟩ (.int .i64 ((m : Int) + 1))) (.cells #[.int .i64 0, .int .i64 0, .string ⟨#[]⟩, .slice none 0 0] 25)
  rw [setCell_size] at this
  exact this

/-- the blocks of what a loop of expression has read -/
def LS (w : World) (lb : Nat) (b : Nat) : Prop := w.heap.size < b ∧ b ≠ lb
/-- a block holds the fields f -/
def Blk (w : World) (b : Nat) (f : EF) : Prop := w.heap[b]? = some (.cells #[.int .i64 f.op, .int .i64 f.num, .string ⟨f.name.toArray⟩, .slice f.A f.n f.c] 25 (0, 0))
def Blk0 (w : World) (b : Nat) : Prop := w.heap[b]? = some (.cells #[.int .i64 0, .int .i64 0, .string ⟨#[]⟩, .slice none 0 0] 25 (0, 0))

set_option maxHeartbeats 2000000 in
/-- what a round of expression's loop leaves -/
theorem ex_round {w wr w2 w4 : World} {g lb m o : Nat} {ts : List Tk.Tok} {at_ : Nat} {x y : Ex} {f fr : EF} {op : Nat} (hgr : g < w.heap.size) (hlb : w.heap.size < lb) (hL : Blk wr lb f) (hZ : Blk0 wr w.heap.size) (hGw : w.grownBy wr (some g)) (hb2 : Below wr.heap.size wr w2)
    (hG : (exWorld w2 g m).grownBy w4 (some g)) (hP : Psr w4 g ts at_ o) (hx : ExM wr (LS w lb) x f) (hy : ExM w4 ((exWorld w2 g m).heap.size ≤ ·) y fr) (u0 u1 u2 u3 : Value) (W : World) (hWd : W = (set4 (set4 w4 w2.heap.size u0 u1 u2 u3) lb (.int .i64 (op : Int)) (.int .i64 0) (.string ⟨#[]⟩) (.slice (some ⟨w4.heap.size, 0, none⟩) 2 2)).alloc (.cells #[.int .i64 f.op, .int .i64 f.num, .string ⟨f.name.toArray⟩, .slice f.A f.n f.c, .int .i64 fr.op, .int .i64 fr.num, .string ⟨fr.name.toArray⟩, .slice fr.A fr.n fr.c] 25)) :
    Psr W g ts at_ o ∧ Blk W lb ⟨op, 0, [], some ⟨w4.heap.size, 0, none⟩, 2, 2⟩ ∧ Blk0 W w.heap.size ∧ w.grownBy W (some g) ∧ ExM W (LS w lb) (.mk op 0 [] [x, y]) ⟨op, 0, [], some ⟨w4.heap.size, 0, none⟩, 2, 2⟩ := by
  have hlw : lb < wr.heap.size := lt_of_block hL
  have hs2 := hb2.size
  have hsX := exWorld_size w2 g m
  have hs4 := hG.size
  generalize hA : set4 (set4 w4 w2.heap.size u0 u1 u2 u3) lb (.int .i64 (op : Int)) (.int .i64 0) (.string ⟨#[]⟩) (.slice (some ⟨w4.heap.size, 0, none⟩) 2 2) = A at hWd
  have hsz : A.heap.size = w4.heap.size := by rw [← hA, set4_size, set4_size]
  have hAk : ∀ b, b ≠ w2.heap.size → b ≠ lb → A.heap[b]? = w4.heap[b]? := by
    intro b h1 h2
    rw [← hA, set4_keep _ lb _ _ _ _ b h2, set4_keep _ _ _ _ _ _ b h1]
  have h4r : ∀ b, b < wr.heap.size → b ≠ g → w4.heap[b]? = wr.heap[b]? := fun b hb hne =>
    (hG.block b (by omega) (fun e => hne (by injection e))).trans ((exWorld_keep w2 g m b (by omega) hne).trans (hb2.block b hb))
  have hAl : Blk A lb ⟨op, 0, [], some ⟨w4.heap.size, 0, none⟩, 2, 2⟩ := by
    have h4 : (set4 w4 w2.heap.size u0 u1 u2 u3).heap[lb]? = some (.cells #[.int .i64 f.op, .int .i64 f.num, .string ⟨f.name.toArray⟩, .slice f.A f.n f.c] 25 (0, 0)) :=
      (set4_keep w4 w2.heap.size u0 u1 u2 u3 lb (by omega)).trans ((h4r lb hlw (by omega)).trans hL)
    rw [← hA]
    exact set4_at h4 _ _ _ _
  have hAo : A.os = w4.os ∧ A.tape = w4.tape ∧ A.output = w4.output := by
    obtain ⟨a1, a2, a3⟩ := set4_os w4 w2.heap.size u0 u1 u2 u3
    obtain ⟨b1, b2, b3⟩ := set4_os (set4 w4 w2.heap.size u0 u1 u2 u3) lb (.int .i64 (op : Int)) (.int .i64 0) (.string ⟨#[]⟩) (.slice (some ⟨w4.heap.size, 0, none⟩) 2 2)
    rw [← hA]
    exact ⟨b1.trans a1, b2.trans a2, b3.trans a3⟩
  clear hA
  have hW : ∀ b, b < w4.heap.size → b ≠ w2.heap.size → b ≠ lb → W.heap[b]? = w4.heap[b]? := by
    intro b hb h1 h2
    rw [hWd, Below.heap_alloc _ _ b (by rw [hsz]; exact hb), hAk b h1 h2]
  have hWs : W.heap.size = w4.heap.size + 1 := by rw [hWd]; simp [hsz]
  have e : ∀ o', W.cell? ⟨w4.heap.size, o', none⟩ = [Value.int .i64 f.op, .int .i64 f.num, .string ⟨f.name.toArray⟩, .slice f.A f.n f.c, .int .i64 fr.op, .int .i64 fr.num, .string ⟨fr.name.toArray⟩, .slice fr.A fr.n fr.c][o']? := by
    intro o'
    rw [hWd, ← hsz, World.cell?_alloc_mark]
    simp
  have hWl : W.heap[lb]? = A.heap[lb]? := by rw [hWd, Below.heap_alloc _ _ lb (by rw [hsz]; omega)]
  have hWo : W.os = w4.os ∧ W.tape = w4.tape ∧ W.output = w4.output := by rw [hWd]; exact hAo
  clear hWd
  have hbw := hGw.size
  refine ⟨hP.keep fun b hb => hW b (by have := hP.lt; omega) (by omega) (by omega), hWl.trans hAl, (hW _ (by omega) (by omega) (by omega)).trans ((h4r _ (by omega) (by omega)).trans hZ), ?_, ?_⟩
  · obtain ⟨o1, o2, o3⟩ := exWorld_os w2 g m
    refine ⟨((hWo.1.trans hG.os).trans o1).trans (hb2.os.trans hGw.os), ((hWo.2.1.trans hG.tape).trans o2).trans (hb2.tape.trans hGw.tape), ((hWo.2.2.trans hG.output).trans o3).trans (hb2.output.trans hGw.output), by omega, fun b hb hne => ?_⟩
    exact (hW b (by omega) (by omega) (by omega)).trans ((h4r b (by omega) (fun e => hne (by rw [e]))).trans (hGw.block b hb hne))
  · refine ExM.two _ _ _ w4.heap.size 0 2 ⟨by omega, by omega⟩ ⟨(e 0).trans rfl, (e 1).trans rfl, (e 2).trans rfl, (e 3).trans rfl⟩ ⟨(e 4).trans rfl, (e 5).trans rfl, (e 6).trans rfl, (e 7).trans rfl⟩ ?_ ?_
    · exact hx.keep fun b hb hlt => (hW b (by omega) (by omega) hb.2).trans (h4r b hlt (by have := hb.1; omega))
    · exact (hy.keep fun b hb hlt => hW b hlt (by omega) (by omega)).more fun b hb => ⟨by omega, by omega⟩

theorem ExM.inside {w : World} {S : Nat → Prop} {E : Ex} {f : EF} (h : ExM w S E f) : ExM w (fun b => S b ∧ b < w.heap.size) E f := by
  induction h with
  | mk op num name args A c F hc hs ih =>
    refine .mk op num name args A c F (fun i hi => ?_) ih
    obtain ⟨b, off, e, hb, hat⟩ := hc i hi
    exact ⟨b, off, e, ⟨hb, hat.lt⟩, hat⟩
/-- where a parser stands -/
def atOf (w : World) (g : Nat) : Nat := match w.cell? ⟨g, 1, none⟩ with
  | some (.int _ n) => n.toNat
  | _ => 0
theorem Psr.atOf {w : World} {g : Nat} {ts : List Tk.Tok} {k o : Nat} (h : Psr w g ts k o) : atOf w g = k := by
  obtain ⟨b, c, -, -, -, q1, -⟩ := h.cells
  unfold Go.Proofs.YtjjooekkieddbaaDoor.atOf
  rw [q1]
  simp
/-- a list of states of the loop -/
def ExRel (w : World) (g lb : Nat) (ts : List Tk.Tok) (least o k : Nat) (er : Value) (wr : World) : Prop :=
  ∃ (R : Ps.R) (f : EF), er = .int .i64 (R.err : Int) ∧ R.bind (fun x m => Ps.PC ts least o x m) = Ps.PE ts least o k ∧ (∀ m e, R = .bad m e → e = 3 ∨ e = 4) ∧ Psr wr g ts R.at_ o ∧ Blk wr lb f ∧ Blk0 wr w.heap.size ∧ w.grownBy wr (some g) ∧ (∀ x m, R = .ok x m → ExM wr (LS w lb) x f ∧ k < m)

theorem err_bind (R : Ps.R) (h : Ex → Ex) : (R.bind fun r k' => .ok (h r) k').err = R.err ∧ (R.bind fun r k' => .ok (h r) k').at_ = R.at_ := by cases R <;> exact ⟨rfl, rfl⟩
theorem ex_next {w wr w2 w4 : World} {g lb m o least k : Nat} {ts : List Tk.Tok} {R4 : Ps.R} {x : Ex} {f fr : EF} {op : Nat} (hgr : g < w.heap.size) (hlb : w.heap.size < lb) (hL : Blk wr lb f) (hZ : Blk0 wr w.heap.size) (hGw : w.grownBy wr (some g)) (hb2 : Below wr.heap.size wr w2)
    (hG : (exWorld w2 g m).grownBy w4 (some g)) (hP : Psr w4 g ts R4.at_ o) (hx : ExM wr (LS w lb) x f) (hy : ExM w4 ((exWorld w2 g m).heap.size ≤ ·) R4.ex fr)
    (hF : Ps.PC ts least o x m = R4.bind fun r k' => Ps.PC ts least o (.mk op 0 [] [x, r]) k') (hB : Ps.PC ts least o x m = Ps.PE ts least o k) (herr : ∀ a e, R4 = .bad a e → e = 3 ∨ e = 4) (hmv : ∀ y a, R4 = .ok y a → m + 1 < a) (hkm : k < m) (u0 u1 u2 u3 : Value)
    (W : World) (hWd : W = (set4 (set4 w4 w2.heap.size u0 u1 u2 u3) lb (.int .i64 (op : Int)) (.int .i64 0) (.string ⟨#[]⟩) (.slice (some ⟨w4.heap.size, 0, none⟩) 2 2)).alloc (.cells #[.int .i64 f.op, .int .i64 f.num, .string ⟨f.name.toArray⟩, .slice f.A f.n f.c, .int .i64 fr.op, .int .i64 fr.num, .string ⟨fr.name.toArray⟩, .slice fr.A fr.n fr.c] 25)) :
    ExRel w g lb ts least o k (.int .i64 (R4.err : Int)) W ∧ (if ((R4.err : Nat) : Int) = 0 then ts.length - atOf W g + 1 else 0) < (if (0 : Int) = 0 then ts.length - m + 1 else 0) := by
  obtain ⟨h1, h2, h3, h4, h5⟩ := ex_round (op := op) hgr hlb hL hZ hGw hb2 hG hP hx hy u0 u1 u2 u3 W hWd
  obtain ⟨e1, e2⟩ := err_bind R4 fun r => .mk op 0 [] [x, r]
  refine ⟨⟨R4.bind fun r k' => .ok (.mk op 0 [] [x, r]) k', _, by rw [e1], ?_, ?_, by rw [e2]; exact h1, h2, h3, h4, ?_⟩, ?_⟩
  · rw [Ps.bind_assoc, ← hB, hF]
    rfl
  · intro a e he
    cases R4 with
    | bad a' e' => exact herr a e (by injection he with i1 i2; rw [i1, i2])
    | ok y a' => cases he
  · intro y a he
    cases R4 with
    | bad a' e' => cases he
    | ok z a' =>
      injection he with i1 i2
      subst i1 i2
      exact ⟨h5, by have := hmv z a' rfl; omega⟩
  · have hat := h1.atOf
    have hin := h1.inT
    rw [hat]
    rw [if_pos (rfl : (0 : Int) = 0)]
    split
    · rename_i h0
      cases R4 with
      | bad a' e' =>
        have := herr a' e' rfl
        simp [Ps.R.err] at h0
        omega
      | ok z a' =>
        have := hmv z a' rfl
        simp only [Ps.R.at_] at *
        omega
    · omega

set_option maxRecDepth 100000 in
set_option maxHeartbeats 4000000 in
theorem expression_of (w : World) (g : Nat) (ts : List Tk.Tok) (least k o : Nat) (hlast : Ps.kindAt ts (ts.length - 1) = 5) (hl1 : 1 ≤ least) (_hl6 : least ≤ 6) (hP : Psr w g ts k o)
    (hO : ∀ w', Psr w' g ts k o → Calls Tryd.prog 70 #[.pointer (some ⟨g, 0, none⟩)] w' (PsPost w' g ts o (Ps.PO ts o k)))
    (hE : ∀ l k' : Nat, 1 ≤ l → l ≤ 6 → k < k' → k' < ts.length → ∀ w', Psr w' g ts k' o → Calls Tryd.prog 42 #[.pointer (some ⟨g, 0, none⟩), .int .i64 (l : Int)] w' (PsPost w' g ts o (Ps.PE ts l o k'))) :
    Calls Tryd.prog 42 #[.pointer (some ⟨g, 0, none⟩), .int .i64 (least : Int)] w (PsPost w g ts o (Ps.PE ts least o k)) := by
  have HP := Lib.hid (hP.alloc (.cells #[.int .i64 0, .int .i64 0, .string ⟨#[]⟩, .slice none 0 0] 25))
  have hgw := hP.lt
  have hmx : ts.length ≤ 1000000 := by obtain ⟨A, c, hb, hl, ho, hn, _⟩ := hP; exact hn
  have HO := Lib.hid hO
  have HE := Lib.hid hE
  have HL := Lib.hid hlast
  clear hP hO hE hlast
  go_enter Tryd.func42, Tryd.ntmps42
  go_wp2_with fail
  refine (HO.out _ HP.out).mono ?_
  rintro e w1 ⟨f, rfl, hE1, hP1, hG1⟩
  unfold EF.val
  have hz1 : w.heap.size < w1.heap.size := by have := hG1.size; simp at this; omega
  have HR0 : Hid (ExRel w g w1.heap.size ts least o k (.int .i64 ((Ps.PO ts o k).err : Int)) (w1.alloc (.cells #[.int .i64 f.op, .int .i64 f.num, .string ⟨f.name.toArray⟩, .slice f.A f.n f.c] 25))) := by
    refine ⟨Ps.PO ts o k, f, rfl, (Ps.PE_eq ts least o k hl1).symm, fun m e he => Ps.PO_err he, hP1.alloc _, heap_alloc_new w1 _, ?_, ?_, fun x m hx => ⟨?_, Ps.PO_moves hx⟩⟩
    · exact (Below.heap_alloc w1 _ _ hz1).trans ((hG1.block _ (by simp) (fun e => by injection e with e; omega)).trans (heap_alloc_new w _))
    · have h := grown_of_alloc hG1
      exact ⟨h.os, h.tape, h.output, by have := h.size; simp; omega, fun b hb hne => (Below.heap_alloc w1 _ b (by omega)).trans (h.block b hb hne)⟩
    · rw [hx] at hE1
      exact (hE1.inside.keep fun b hb hlt => Below.heap_alloc w1 _ b hlt).more fun b hb => ⟨by have := hb.1; simp at this; omega, by have := hb.2; omega⟩
  clear hE1 hP1 hG1
  generalize (Ps.PO ts o k).err = E0 at *
  go_wp2_with fail
  have hlbw : w.heap.size < w1.heap.size := hz1
  generalize hlbd : w1.heap.size = lb at *
  clear hlbd
  go_loopw [7] (fun er wr => Hid (ExRel w g lb ts least o k er wr)) (fun er wr => if intOf er = 0 then ts.length - atOf wr g + 1 else 0)
  case atStart => exact HR0
  case round =>
    obtain ⟨R, f', rfl, hB, hbad, hPr, hLb, hZb, hGr, hok⟩ := hrel.out
    clear hrel HR0 HO HP
    have HB := Lib.hid hB
    have HPr := Lib.hid hPr
    have HLb := Lib.hid hLb
    have HZb := Lib.hid hZb
    have HGr := Lib.hid hGr
    cases R with
    | bad m e0 =>
      have he := hbad m e0 rfl
      obtain ⟨r0, r1, r2, r3, z0, z1, z2, z3, -⟩ := blk4 hZb
      have t0 := bF (show ((e0 : Nat) : Int) ≠ 0 by omega)
      clear hB hbad hPr hLb hZb hGr hok
      dsimp only [Ps.R.err]
      go_wp2_with fail
      refine bodyPost_ret (v := .tuple #[.agg #[.int .i64 0, .int .i64 0, .string ⟨#[]⟩, .slice none 0 0], .int .i64 (e0 : Int)]) (by simp [results, Tryd.results42, go_sem, r0, r1, r2, r3]) rfl ?_
      rw [← HB.out]
      exact ps_end (R := .bad m e0) (f := ⟨0, 0, [], none, 0, 0⟩) hgw (Nat.le_refl _) HPr.out HGr.out (Nat.le_of_eq (set4_size wr w.heap.size _ _ _ _).symm) rfl rfl rfl (fun b _ hne => set4_keep wr w.heap.size _ _ _ _ b hne) (ExM.leaf _ _ _ _ _ _ _)
    | ok x m =>
      have HPr : Hid (Psr wr g ts m o) := hPr
      obtain ⟨hx, hkm⟩ := hok x m rfl
      have HX := Lib.hid hx
      have hmT : m < ts.length := hPr.inT
      clear hB hbad hPr hLb hZb hGr hok hx
      dsimp only [Ps.R.err]
      go_wp2_with fail
      refine (psign_any wr g ts m o HPr.out).mono ?_
      rintro e w2 ⟨rfl, hb2⟩
      have hP2 := HPr.out.later hb2
      have hL2 : Blk w2 lb f' := (hb2.block _ (lt_of_block HLb.out)).trans HLb.out
      have hZ2 : Blk0 w2 w.heap.size := (hb2.block _ (lt_of_block HZb.out)).trans HZb.out
      have hG2 : w.grownBy w2 (some g) := grown_trans HGr.out ⟨hb2.os, hb2.tape, hb2.output, hb2.size, fun b hb _ => hb2.block b hb⟩
      have HP2 := Lib.hid hP2
      have HL2 := Lib.hid hL2
      have HZ2 := Lib.hid hZ2
      have HG2 := Lib.hid hG2
      have HB2 := Lib.hid hb2
      obtain ⟨r0, r1, r2, r3, z0, z1, z2, z3, hrl⟩ := blk4 hZ2
      obtain ⟨l0, l1, l2, l3, -, -, -, -, hll⟩ := blk4 hL2
      obtain ⟨tb, tc, hne, hbl, p0, p1, p2, g1, g2, -, -, -, -⟩ := hP2.cells
      have hn0 : g ≠ w.heap.size := by omega
      have hn1 : g ≠ lb := by omega
      have hn2 : lb ≠ w.heap.size := by omega
      clear hP2 hL2 hZ2 hG2 hb2 p0 p2 g2 hbl hne
      go_wp2_with fail
      refine (binaryOp_any (Ps.sgn ts m) w2 HP2.out.tab).mono ?_
      rintro e w3 ⟨rfl, rfl⟩
      go_wp2_with fail
      refine (strengthD_any _ w2).mono ?_
      rintro e w3 ⟨rfl, rfl⟩
      by_cases hs : Ps.strD (Ps.bop (Ps.sgn ts m)) < least
      · have d1 : decide (Ps.strD (Ps.bop (Ps.sgn ts m)) < least) = true := by simp; omega
        have HF := Lib.hid (Ps.PC_stop ts least o x m hs)
        clear hs
        go_wp2_with fail
        refine bodyPost_ret (v := .tuple #[.agg #[.int .i64 f'.op, .int .i64 f'.num, .string ⟨f'.name.toArray⟩, .slice f'.A f'.n f'.c], .int .i64 0]) (by simp [results, Tryd.results42, go_sem, r0, r1, r2, r3]) rfl ?_
        rw [← HB.out]
        show PsPost w g ts o (Ps.PC ts least o x m) _ _
        rw [HF.out]
        refine ps_end (R := .ok x m) (f := f') hgw (Nat.le_refl _) HP2.out HG2.out (Nat.le_of_eq (set4_size w2 w.heap.size _ _ _ _).symm) rfl rfl rfl (fun b _ hne => set4_keep w2 w.heap.size _ _ _ _ b hne) ?_
        exact (HX.out.keep fun b hb hlt => (set4_keep w2 w.heap.size _ _ _ _ b (by have := hb.1; omega)).trans (HB2.out.block b hlt)).more fun b hb => by have := hb.1; omega
      · have d1 : decide (Ps.strD (Ps.bop (Ps.sgn ts m)) < least) = false := decide_eq_false hs
        have HF := Lib.hid (Ps.PC_go ts least o x m hl1 hs)
        have hnx : m + 1 < ts.length := Ps.next_in HL.out hmT (by rw [Ps.sgn_kind (Ps.bop_sgn hl1 hs)]; decide)
        have hs5 := Ps.bop_str (Ps.sgn ts m)
        clear hs
        generalize hSd : Ps.strD (Ps.bop (Ps.sgn ts m)) = sd at *
        have HSd := Lib.hid hSd
        clear hSd
        go_wp2_with fail
        refine (strengthD_any _ _).mono ?_
        rintro e w3 ⟨rfl, rfl⟩
        rw [HSd.out]
        go_wp2_with fail
        refine (HE.out (sd + 1) (m + 1) (by omega) (by omega) (by omega) hnx (exWorld w2 g m) (exWorld_psr HP2.out hnx)).mono ?_
        rintro e w4 ⟨fr, rfl, hE4, hP4, hG4⟩
        unfold EF.val
        have hR4 : w4.heap[w2.heap.size]? = some (.cells #[.int .i64 0, .int .i64 0, .string ⟨#[]⟩, .slice none 0 0] 25 (0, 0)) := (hG4.block _ (by rw [exWorld_size]; omega) (fun e => by injection e with e; omega)).trans (exWorld_new w2 g m)
        have hL4 : Blk w4 lb f' := (hG4.block _ (by rw [exWorld_size]; omega) (fun e => by injection e with e; omega)).trans ((exWorld_keep w2 g m lb hll (by omega)).trans HL2.out)
        obtain ⟨c0, c1, c2, c3, y0, y1, y2, y3, hcl⟩ := blk4 hR4
        obtain ⟨k0, k1, k2, k3, x0, x1, x2, x3, hkl⟩ := blk4 hL4
        have HE4 := Lib.hid hE4
        have HP4 := Lib.hid hP4
        have HG4 := Lib.hid hG4
        have hn3 : lb ≠ w2.heap.size := by omega
        have hRerr : ∀ a e, Ps.PE ts (sd + 1) o (m + 1) = .bad a e → e = 3 ∨ e = 4 := fun a e h => Ps.PE_err (by omega) h
        have HRerr := Lib.hid hRerr
        have HRmv : Hid (∀ y a, Ps.PE ts (sd + 1) o (m + 1) = .ok y a → m + 1 < a) := fun y a h => Ps.PE_moves h
        clear hR4 hL4 hE4 hP4 hG4 hRerr p1 g1 r0 r1 r2 r3 z0 z1 z2 z3 l0 l1 l2 l3
        generalize Ps.PE ts (sd + 1) o (m + 1) = R4 at *
        have HW := Lib.hid (fun u0 u1 u2 u3 W hW => ex_next (least := least) (k := k) (x := x) hgw hlbw HLb.out HZb.out HGr.out HB2.out HG4.out HP4.out HX.out HE4.out HF.out HB.out HRerr.out HRmv.out hkm u0 u1 u2 u3 W hW)
        obtain ⟨E4, hE4e⟩ : ∃ n, n = R4.err := ⟨_, rfl⟩
        rw [← hE4e]
        have HE4e := Lib.hid hE4e
        clear hE4e
        go_wp2_with fail
        go_roundw
        case rel =>
          have h := (HW.out (.int .i64 fr.op) (.int .i64 fr.num) (.string ⟨fr.name.toArray⟩) (.slice fr.A fr.n fr.c) _ rfl).1
          rw [← HE4e.out] at h
          exact h
        case measure =>
          have h := (HW.out (.int .i64 fr.op) (.int .i64 fr.num) (.string ⟨fr.name.toArray⟩) (.slice fr.A fr.n fr.c) _ rfl).2
          rw [← HE4e.out] at h
          have h0 := HPr.out.atOf
          simp only [intOf, h0]
          exact h

/-- the parser, whatever it is asked -/
theorem parser_fuel (g : Nat) (ts : List Tk.Tok) (hlast : Ps.kindAt ts (ts.length - 1) = 5) (N : Nat) : ∀ (k o : Nat) (w : World), ts.length - k < N → Psr w g ts k o →
    (∀ least : Nat, 1 ≤ least → least ≤ 6 → Calls Tryd.prog 42 #[.pointer (some ⟨g, 0, none⟩), .int .i64 (least : Int)] w (PsPost w g ts o (Ps.PE ts least o k))) ∧
    Calls Tryd.prog 70 #[.pointer (some ⟨g, 0, none⟩)] w (PsPost w g ts o (Ps.PO ts o k)) := by
  induction N with
  | zero => intro k o w h; omega
  | succ N ih =>
    intro k o w hN hP
    have hO : ∀ w', Psr w' g ts k o → Calls Tryd.prog 70 #[.pointer (some ⟨g, 0, none⟩)] w' (PsPost w' g ts o (Ps.PO ts o k)) := fun w' hP' =>
      operand_of w' g ts k o hlast hP' (fun hk _ w'' hP'' => (ih (k + 1) (o + 1) w'' (by omega) hP'').1 1 (by omega) (by omega)) (fun hk _ w'' hP'' => (ih (k + 1) (o + 1) w'' (by omega) hP'').2)
    refine ⟨fun least h1 h6 => ?_, hO w hP⟩
    exact expression_of w g ts least k o hlast h1 h6 hP hO fun l k' hl1 hl6 hkk hkt w' hP' => (ih k' o w' (by omega) hP').1 l hl1 hl6

end Go.Proofs.YtjjooekkieddbaaDoor

namespace Go.Proofs.YtjjooekkieddbaaDoor
open Go.RowKit

/-- the expression, the place and the error -/
def parseV (ts : List Tk.Tok) (at_ : Int) : Ex × Int × Nat :=
  if 0 ≤ at_ ∧ at_ < ts.length ∧ Ps.kindAt ts (ts.length - 1) = 5 then ((Ps.PE ts 1 0 at_.toNat).ex, ((Ps.PE ts 1 0 at_.toNat).at_ : Int), (Ps.PE ts 1 0 at_.toNat).err) else (.mk 0 0 [] [], at_, 4)
/-- what Parse leaves -/
def ParsePost (w : World) (R : Ex × Int × Nat) (e : Ending) (w' : World) : Prop :=
  ∃ f : EF, e = .returned (.tuple #[f.val, .int .i64 R.2.1, .int .i64 (R.2.2 : Int)]) ∧ ExM w' (w.heap.size ≤ ·) R.1 f ∧ Below w.heap.size w w'

theorem parse_no (w : World) (at_ : Int) (W : World) (hW : Below w.heap.size w W) : ParsePost w (.mk 0 0 [] [], at_, 4) (.returned (.tuple #[.agg #[.int .i64 0, .int .i64 0, .string ⟨#[]⟩, .slice none 0 0], .int .i64 at_, .int .i64 4])) W :=
  ⟨⟨0, 0, [], none, 0, 0⟩, rfl, ExM.leaf _ _ _ _ _ _ _, hW⟩
/-- a new parser -/
theorem psr_new (w : World) (ts : List Tk.Tok) (k : Nat) (A : Option Addr) (c : Nat) (hT : TokS w A ts) (hS : SgT w) (hk : k < ts.length) (hn : ts.length ≤ 1000000) (Z : Obj) :
    Psr ((w.alloc Z).alloc (.cells #[.slice A ts.length c, .int .i64 (k : Int), .int .i64 0] 82)) (w.heap.size + 1) ts k 0 := by
  have hb : ∀ b, b < w.heap.size → ((w.alloc Z).alloc (.cells #[.slice A ts.length c, .int .i64 (k : Int), .int .i64 0] 82)).heap[b]? = w.heap[b]? := fun b hb => (Below.heap_alloc _ _ b (by simp; omega)).trans (Below.heap_alloc w Z b hb)
  refine ⟨A, c, ?_, hk, by omega, hn, hS.keep (hb _ hS.lt), by have := hS.lt; omega, fun i hi => ?_⟩
  · have := heap_alloc_new (w.alloc Z) (.cells #[.slice A ts.length c, .int .i64 (k : Int), .int .i64 0] 82)
    simpa using this
  · obtain ⟨b, e, h0, h1, h2, h3⟩ := hT i hi
    have hbl : b < w.heap.size := World.block_lt_of_cell? _ _ h0
    have e1 : ∀ o', ((w.alloc Z).alloc (.cells #[.slice A ts.length c, .int .i64 (k : Int), .int .i64 0] 82)).cell? ⟨b, o', none⟩ = w.cell? ⟨b, o', none⟩ := fun o' => World.cell?_of_block (hb b hbl)
    exact ⟨b, e, by omega, (e1 _).trans h0, (e1 _).trans h1, (e1 _).trans h2, (e1 _).trans h3⟩

theorem set4_below {w w1 : World} (h : Below w.heap.size w w1) (hr : w.heap.size < w1.heap.size) (u0 u1 u2 u3 : Value) (o : Obj) : Below w.heap.size w ((set4 w1 w.heap.size u0 u1 u2 u3).alloc o) := by
  obtain ⟨a1, a2, a3⟩ := set4_os w1 w.heap.size u0 u1 u2 u3
  exact ⟨a1.trans h.os, a2.trans h.tape, a3.trans h.output, by have := set4_size w1 w.heap.size u0 u1 u2 u3; simp; omega, fun b hb => (set4_alloc_keep w1 w.heap.size u0 u1 u2 u3 o b (by omega) (by omega)).trans (h.block b hb)⟩
theorem below_new {w w1 : World} {Z : Array Value} {t : TypeId} {P : Obj} (hG : ((w.alloc (.cells Z t)).alloc P).grownBy w1 (some (w.heap.size + 1))) : Below w.heap.size w w1 ∧ w1.heap[w.heap.size]? = some (.cells Z t (0, 0)) := by
  have hs : ((w.alloc (.cells Z t)).alloc P).heap.size = w.heap.size + 2 := by simp
  have hb : ∀ b, b ≤ w.heap.size → w1.heap[b]? = (w.alloc (.cells Z t)).heap[b]? := fun b hb => (hG.block b (by omega) (fun e => by injection e with e; omega)).trans (Below.heap_alloc _ _ b (by simp; omega))
  exact ⟨⟨hG.os, hG.tape, hG.output, by have := hG.size; omega, fun b hbb => (hb b (by omega)).trans (Below.heap_alloc w _ b hbb)⟩, (hb _ (Nat.le_refl _)).trans (heap_alloc_new w _)⟩

set_option maxRecDepth 100000 in
set_option maxHeartbeats 4000000 in
theorem parse_any (ts : List Tk.Tok) (A : Option Addr) (c : Nat) (at_ : Int) (w : World) (hT : TokS w A ts) (hS : SgT w) (hn : ts.length ≤ 1000000) (hat : -9223372036854775808 ≤ at_ ∧ at_ ≤ 9223372036854775807) :
    Calls Tryd.prog 25 #[.slice A ts.length c, .int .i64 at_] w (ParsePost w (parseV ts at_)) := by
  have hb0 : Below w.heap.size w (w.alloc (.cells #[.int .i64 0, .int .i64 0, .string ⟨#[]⟩, .slice none 0 0] 25)) := (Below.refl _ _).alloc (Nat.le_refl _) _
  have HB0 := Lib.hid hb0
  clear hb0
  by_cases h0 : 0 ≤ at_
  · by_cases h1 : at_ < ts.length
    · obtain ⟨k, rfl⟩ := Int.eq_ofNat_of_zero_le h0
      have hk : k < ts.length := by omega
      have hl : ts.length - 1 < ts.length := by omega
      obtain ⟨b, rfl, q0, -, -, -⟩ := hT (ts.length - 1) hl
      have hkd : Ps.kindAt ts (ts.length - 1) = ts[ts.length - 1].kind := by unfold Ps.kindAt; rw [List.getElem?_eq_getElem hl]
      rw [← hkd] at q0
      have hbl : b < w.heap.size := World.block_lt_of_cell? _ _ q0
      have i0 : (0 : Int) ≤ (ts.length : Int) - 1 := by omega
      have i1 : (ts.length : Int) - 1 < (ts.length : Int) := by omega
      have i2 : ((ts.length : Int) - 1).toNat = ts.length - 1 := by omega
      have d0 : decide ((k : Int) < 0) = false := decide_eq_false (by omega)
      have d1 : decide ((ts.length : Int) - 1 < (k : Int)) = false := decide_eq_false (by omega)
      by_cases h5 : Ps.kindAt ts (ts.length - 1) = 5
      · have t5 := nF (show ((Ps.kindAt ts (ts.length - 1) : Nat) : Int) = 5 by omega)
        have HV : Hid (parseV ts (k : Int) = ((Ps.PE ts 1 0 k).ex, ((Ps.PE ts 1 0 k).at_ : Int), (Ps.PE ts 1 0 k).err)) := by
          unfold parseV
          rw [if_pos ⟨h0, h1, h5⟩, Int.toNat_natCast]
          rfl
        have HPs := Lib.hid (psr_new w ts k _ c hT hS hk hn (.cells #[.int .i64 0, .int .i64 0, .string ⟨#[]⟩, .slice none 0 0] 25))
        have HPF := Lib.hid (fun W (hW : Psr W (w.heap.size + 1) ts k 0) => (parser_fuel (w.heap.size + 1) ts h5 (ts.length + 1) k 0 W (by omega) hW).1 1 (by omega) (by omega))
        clear hT hS h0 h1 h5 hkd hat
        generalize Ps.kindAt ts (ts.length - 1) = K at *
        go_enter Tryd.func25, Tryd.ntmps25
        go_wp2_with fail
        refine (HPF.out _ HPs.out).mono ?_
        rintro e w1 ⟨f, rfl, hE, hP, hG⟩
        unfold EF.val
        obtain ⟨hBw, hZ⟩ := below_new hG
        have hPat := hP.cells
        obtain ⟨tb, tc, -, -, -, p1, -⟩ := hPat
        obtain ⟨r0, r1, r2, r3, z0, z1, z2, z3, hrl⟩ := blk4 hZ
        have HE := Lib.hid hE
        have HBw := Lib.hid hBw
        have hgl : w.heap.size + 1 < w1.heap.size := hP.lt
        clear hE hP hG hBw hZ HPF HPs
        obtain ⟨E0, hE0⟩ : ∃ n, n = (Ps.PE ts 1 0 k).err := ⟨_, rfl⟩
        obtain ⟨A0, hA0⟩ : ∃ n, n = (Ps.PE ts 1 0 k).at_ := ⟨_, rfl⟩
        rw [← hE0] at HV ⊢
        rw [← hA0] at p1 HV
        clear hE0 hA0
        generalize (Ps.PE ts 1 0 k).ex = X0 at *
        go_wp2_with fail
        go_region
        go_wp2_with fail
        refine bodyPost_ret (v := .tuple #[.agg #[.int .i64 f.op, .int .i64 f.num, .string ⟨f.name.toArray⟩, .slice f.A f.n f.c], .int .i64 (A0 : Int), .int .i64 (E0 : Int)]) (by simp [results, Tryd.results25, go_sem, r0, r1, r2, r3, hrl]) rfl ?_
        rw [HV.out]
        refine ⟨f, rfl, ?_, (set4_below HBw.out hrl (.int .i64 f.op) (.int .i64 f.num) (.string ⟨f.name.toArray⟩) (.slice f.A f.n f.c) _).drew⟩
        have hE2 : ExM w1 (w.heap.size + 2 ≤ ·) X0 f := HE.out.more fun b hb => by simp at hb; omega
        refine ExM.more (S := fun b => w.heap.size + 2 ≤ b) ?_ (fun b hb => by omega)
        refine hE2.keep ?_
        intro b hb hlt
        exact set4_alloc_keep w1 w.heap.size (.int .i64 f.op) (.int .i64 f.num) (.string ⟨f.name.toArray⟩) (.slice f.A f.n f.c) _ b (by omega) hlt
      · have t5 := nT (show ((Ps.kindAt ts (ts.length - 1) : Nat) : Int) ≠ 5 by omega)
        have HV : Hid (parseV ts (k : Int) = (.mk 0 0 [] [], (k : Int), 4)) := if_neg fun h => h5 h.2.2
        clear hT hS h0 h1 h5 hkd hat
        generalize Ps.kindAt ts (ts.length - 1) = K at *
        go_enter Tryd.func25, Tryd.ntmps25
        go_wp2_with fail
        refine bodyPost_ret (v := .tuple #[.agg #[.int .i64 0, .int .i64 0, .string ⟨#[]⟩, .slice none 0 0], .int .i64 (k : Int), .int .i64 4]) (by simp [results, Tryd.results25, go_sem]) rfl ?_
        rw [HV.out]
        exact parse_no w _ _ HB0.out
    · have HV : Hid (parseV ts at_ = (.mk 0 0 [] [], at_, 4)) := if_neg fun h => h1 h.2.1
      have d0 : decide (at_ < 0) = false := decide_eq_false (by omega)
      have d1 : decide ((ts.length : Int) - 1 < at_) = true := decide_eq_true (by omega)
      clear hT hS h0 h1
      go_enter Tryd.func25, Tryd.ntmps25
      go_wp2_with fail
      refine bodyPost_ret (v := .tuple #[.agg #[.int .i64 0, .int .i64 0, .string ⟨#[]⟩, .slice none 0 0], .int .i64 at_, .int .i64 4]) (by simp [results, Tryd.results25, go_sem]) rfl ?_
      rw [HV.out]
      exact parse_no w _ _ HB0.out
  · have HV : Hid (parseV ts at_ = (.mk 0 0 [] [], at_, 4)) := if_neg fun h => h0 h.1
    have d0 : decide (at_ < 0) = true := decide_eq_true (by omega)
    clear hT hS h0
    go_enter Tryd.func25, Tryd.ntmps25
    go_wp2_with fail
    refine bodyPost_ret (v := .tuple #[.agg #[.int .i64 0, .int .i64 0, .string ⟨#[]⟩, .slice none 0 0], .int .i64 at_, .int .i64 4]) (by simp [results, Tryd.results25, go_sem]) rfl ?_
    rw [HV.out]
    exact parse_no w _ _ HB0.out
end Go.Proofs.YtjjooekkieddbaaDoor
