/- Plain functions that say what a parser of expressions returns for a list of tokens, and their equations. No statement of the program is proved in this file. -/
import Derived.Test.YtobpnpkcafacjaaExM
import Derived.Test.YtobpnpkcafacjaaRefSigns
namespace Go.Proofs.Ytobpnpkcafacjaa
namespace Ps

/-- what a parser returns: the place of the error and its number, or the expression and the place behind it -/
inductive R where
  | bad (at_ e : Nat)
  | ok (x : Ex) (at_ : Nat)
def R.bind (r : R) (f : Ex → Nat → R) : R :=
  match r with
  | .bad a e => .bad a e
  | .ok x k => f x k

/-- the signs of the operators, by number -/
def sgTab : List (List UInt8) := [[], [], [], [45], [33], [42], [47], [37], [43], [45], [60], [60, 61], [62], [62, 61], [61, 61], [33, 61], [38, 38], [124, 124]]
/-- the operator with a sign among n of them from op on, or 0 -/
def opFind (s : List UInt8) : Nat → Nat → Nat
  | 0, _ => 0
  | n + 1, op => if sgTab.getD op [] = s then op else opFind s n (op + 1)
def uop (s : List UInt8) : Nat := opFind s 2 3
def bop (s : List UInt8) : Nat := opFind s 13 5
def strD (op : Int) : Nat := if 1 ≤ op ∧ op ≤ 17 then strV op + 1 else 0

def kindAt (ts : List Tk.Tok) (k : Nat) : Nat := match ts[k]? with | some t => t.kind | none => 5
def sgn (ts : List Tk.Tok) (k : Nat) : List UInt8 := match ts[k]? with | some t => if t.kind = 4 then t.text else [] | none => []
def numAt (ts : List Tk.Tok) (k : Nat) : Nat := match ts[k]? with | some t => t.num | none => 0
def textAt (ts : List Tk.Tok) (k : Nat) : List UInt8 := match ts[k]? with | some t => t.text | none => []

mutual
def pE (ts : List Tk.Tok) : Nat → Nat → Nat → Nat → R
  | 0, _, _, k => .bad k 0
  | f + 1, least, o, k => (pO ts f o k).bind fun x k' => pC ts f least o x k'
def pC (ts : List Tk.Tok) : Nat → Nat → Nat → Ex → Nat → R
  | 0, _, _, _, k => .bad k 0
  | f + 1, least, o, x, k =>
    if strD (bop (sgn ts k)) < least then .ok x k
    else (pE ts f (strD (bop (sgn ts k)) + 1) o (k + 1)).bind fun r k' => pC ts f least o (.mk (bop (sgn ts k)) 0 [] [x, r]) k'
def pO (ts : List Tk.Tok) : Nat → Nat → Nat → R
  | 0, _, k => .bad k 0
  | f + 1, o, k =>
    if kindAt ts k = 2 then .ok (.mk 1 (numAt ts k) [] []) (k + 1)
    else if kindAt ts k = 1 then .ok (.mk 2 0 (textAt ts k) []) (k + 1)
    else if uop (sgn ts k) = 0 ∧ sgn ts k ≠ [40] then .bad k 4
    else if o = 24 then .bad k 3
    else if uop (sgn ts k) = 0 then (pE ts f 1 (o + 1) (k + 1)).bind fun x k' => if sgn ts k' = [41] then .ok x (k' + 1) else .bad k' 4
    else (pO ts f (o + 1) (k + 1)).bind fun x k' => .ok (.mk (uop (sgn ts k)) 0 [] [x]) k'
end

theorem bind_ok {r : R} {f : Ex → Nat → R} {y : Ex} {m : Nat} (h : r.bind f = .ok y m) : ∃ x k, r = .ok x k ∧ f x k = .ok y m := by
  cases r with
  | bad a e => cases h
  | ok x k => exact ⟨x, k, rfl, h⟩
theorem bind_congr {r : R} {f g : Ex → Nat → R} (h : ∀ x k, r = .ok x k → f x k = g x k) : r.bind f = r.bind g := by
  cases r with
  | bad a e => rfl
  | ok x k => exact h x k rfl
theorem bind_assoc (r : R) (f g : Ex → Nat → R) : (r.bind f).bind g = r.bind fun x k => (f x k).bind g := by cases r <;> rfl

theorem step_E (ts : List Tk.Tok) (f l o k : Nat) : pE ts (f + 1) l o k = (pO ts f o k).bind fun x k' => pC ts f l o x k' := by rw [pE]
theorem step_C (ts : List Tk.Tok) (f l o : Nat) (x : Ex) (k : Nat) : pC ts (f + 1) l o x k = if strD (bop (sgn ts k)) < l then .ok x k
    else (pE ts f (strD (bop (sgn ts k)) + 1) o (k + 1)).bind fun r k' => pC ts f l o (.mk (bop (sgn ts k)) 0 [] [x, r]) k' := by rw [pC]
theorem step_O (ts : List Tk.Tok) (f o k : Nat) : pO ts (f + 1) o k =
    if kindAt ts k = 2 then .ok (.mk 1 (numAt ts k) [] []) (k + 1)
    else if kindAt ts k = 1 then .ok (.mk 2 0 (textAt ts k) []) (k + 1)
    else if uop (sgn ts k) = 0 ∧ sgn ts k ≠ [40] then .bad k 4
    else if o = 24 then .bad k 3
    else if uop (sgn ts k) = 0 then (pE ts f 1 (o + 1) (k + 1)).bind fun x k' => if sgn ts k' = [41] then .ok x (k' + 1) else .bad k' 4
    else (pO ts f (o + 1) (k + 1)).bind fun x k' => .ok (.mk (uop (sgn ts k)) 0 [] [x]) k' := by rw [pO]

/-- a parser that succeeds moves on -/
theorem moves (ts : List Tk.Tok) (f : Nat) : (∀ l o k y m, pE ts f l o k = .ok y m → k < m) ∧ (∀ l o x k y m, pC ts f l o x k = .ok y m → k ≤ m) ∧ (∀ o k y m, pO ts f o k = .ok y m → k < m) := by
  induction f with
  | zero =>
    refine ⟨?_, ?_, ?_⟩
    · intro l o k y m h; rw [pE] at h; cases h
    · intro l o x k y m h; rw [pC] at h; cases h
    · intro o k y m h; rw [pO] at h; cases h
  | succ f ih =>
    obtain ⟨iE, iC, iO⟩ := ih
    refine ⟨?_, ?_, ?_⟩
    · intro l o k y m h
      rw [step_E] at h
      obtain ⟨x, k', h1, h2⟩ := bind_ok h
      have := iO _ _ _ _ h1
      have := iC _ _ _ _ _ _ h2
      omega
    · intro l o x k y m h
      rw [step_C] at h
      split at h
      · injection h with _ h; omega
      · obtain ⟨r, k', h1, h2⟩ := bind_ok h
        have := iE _ _ _ _ _ h1
        have := iC _ _ _ _ _ _ h2
        omega
    · intro o k y m h
      rw [step_O] at h
      split at h
      · injection h with _ h; omega
      split at h
      · injection h with _ h; omega
      split at h
      · cases h
      split at h
      · cases h
      split at h
      · obtain ⟨r, k', h1, h2⟩ := bind_ok h
        have := iE _ _ _ _ _ h1
        split at h2
        · injection h2 with _ h2; omega
        · cases h2
      · obtain ⟨r, k', h1, h2⟩ := bind_ok h
        have := iO _ _ _ _ h1
        injection h2 with _ h2; omega

theorem out_kind (ts : List Tk.Tok) (k : Nat) (h : ts.length ≤ k) : kindAt ts k = 5 := by
  unfold kindAt
  rw [List.getElem?_eq_none h]
theorem out_sgn (ts : List Tk.Tok) (k : Nat) (h : ts.length ≤ k) : sgn ts k = [] := by
  unfold sgn
  rw [List.getElem?_eq_none h]
theorem uop_nil : uop [] = 0 := by decide
theorem bop_nil : bop [] = 0 := by decide
theorem strD_zero : strD 0 = 0 := by decide
theorem out_O (ts : List Tk.Tok) (f o k : Nat) (h : ts.length ≤ k) : pO ts (f + 1) o k = .bad k 4 := by
  rw [step_O, out_kind ts k h, out_sgn ts k h, uop_nil, if_neg (by decide), if_neg (by decide), if_pos ⟨rfl, by decide⟩]
theorem inside_C (ts : List Tk.Tok) (l k : Nat) (hl : 1 ≤ l) (h : ¬ strD (bop (sgn ts k)) < l) : k < ts.length := by
  rcases Nat.lt_or_ge k ts.length with h1 | h1
  · exact h1
  · rw [out_sgn ts k h1, bop_nil] at h
    exact absurd (show strD (0 : Nat) < l from by rw [show ((0 : Nat) : Int) = 0 from rfl, strD_zero]; omega) h

/-- enough fuel is enough -/
theorem fuel (ts : List Tk.Tok) (f : Nat) : (∀ l o k, 1 ≤ l → 3 * (ts.length - k) + 2 ≤ f → pE ts (f + 1) l o k = pE ts f l o k) ∧
    (∀ l o x k, 1 ≤ l → 3 * (ts.length - k) + 1 ≤ f → pC ts (f + 1) l o x k = pC ts f l o x k) ∧ (∀ o k, 3 * (ts.length - k) + 1 ≤ f → pO ts (f + 1) o k = pO ts f o k) := by
  induction f with
  | zero => exact ⟨fun _ _ _ _ h => absurd h (by omega), fun _ _ _ _ _ h => absurd h (by omega), fun _ _ h => absurd h (by omega)⟩
  | succ f ih =>
    obtain ⟨iE, iC, iO⟩ := ih
    obtain ⟨mE, mC, mO⟩ := moves ts f
    refine ⟨?_, ?_, ?_⟩
    · intro l o k hl h
      rw [step_E ts (f + 1), step_E ts f, iO o k (by omega)]
      refine bind_congr fun x k' hx => ?_
      have := mO _ _ _ _ hx
      exact iC _ _ _ _ hl (by omega)
    · intro l o x k hl h
      rw [step_C ts (f + 1), step_C ts f]
      split
      · rfl
      · rename_i hn
        have hk := inside_C ts l k hl hn
        rw [iE _ _ (k + 1) (by omega) (by omega)]
        refine bind_congr fun r k' hx => ?_
        have := mE _ _ _ _ _ hx
        exact iC _ _ _ _ hl (by omega)
    · intro o k h
      rcases Nat.lt_or_ge k ts.length with hk | hk
      · rw [step_O ts (f + 1) o k, step_O ts f o k, iE 1 (o + 1) (k + 1) (by omega) (by omega), iO (o + 1) (k + 1) (by omega)]
      · rw [out_O ts _ o k hk, out_O ts _ o k hk]

def PE (ts : List Tk.Tok) (l o k : Nat) : R := pE ts (3 * (ts.length - k) + 2) l o k
def PC (ts : List Tk.Tok) (l o : Nat) (x : Ex) (k : Nat) : R := pC ts (3 * (ts.length - k) + 1) l o x k
def PO (ts : List Tk.Tok) (o k : Nat) : R := pO ts (3 * (ts.length - k) + 1) o k
theorem fuelE (ts : List Tk.Tok) (f l o k : Nat) (hl : 1 ≤ l) (h : 3 * (ts.length - k) + 2 ≤ f) : pE ts f l o k = PE ts l o k := by
  induction f with
  | zero => omega
  | succ f ih =>
    rcases Nat.lt_or_ge f (3 * (ts.length - k) + 2) with h1 | h1
    · have : f + 1 = 3 * (ts.length - k) + 2 := by omega
      rw [this]; rfl
    · rw [(fuel ts f).1 l o k hl h1, ih h1]
theorem fuelC (ts : List Tk.Tok) (f l o : Nat) (x : Ex) (k : Nat) (hl : 1 ≤ l) (h : 3 * (ts.length - k) + 1 ≤ f) : pC ts f l o x k = PC ts l o x k := by
  induction f with
  | zero => omega
  | succ f ih =>
    rcases Nat.lt_or_ge f (3 * (ts.length - k) + 1) with h1 | h1
    · have : f + 1 = 3 * (ts.length - k) + 1 := by omega
      rw [this]; rfl
    · rw [(fuel ts f).2.1 l o x k hl h1, ih h1]
theorem fuelO (ts : List Tk.Tok) (f o k : Nat) (h : 3 * (ts.length - k) + 1 ≤ f) : pO ts f o k = PO ts o k := by
  induction f with
  | zero => omega
  | succ f ih =>
    rcases Nat.lt_or_ge f (3 * (ts.length - k) + 1) with h1 | h1
    · have : f + 1 = 3 * (ts.length - k) + 1 := by omega
      rw [this]; rfl
    · rw [(fuel ts f).2.2 o k h1, ih h1]

theorem PO_moves {ts : List Tk.Tok} {o k : Nat} {y : Ex} {m : Nat} (h : PO ts o k = .ok y m) : k < m := (moves ts _).2.2 _ _ _ _ h
theorem PE_moves {ts : List Tk.Tok} {l o k : Nat} {y : Ex} {m : Nat} (h : PE ts l o k = .ok y m) : k < m := (moves ts _).1 _ _ _ _ _ h
theorem PC_moves {ts : List Tk.Tok} {l o : Nat} {x : Ex} {k : Nat} {y : Ex} {m : Nat} (h : PC ts l o x k = .ok y m) : k ≤ m := (moves ts _).2.1 _ _ _ _ _ _ h

theorem PE_eq (ts : List Tk.Tok) (l o k : Nat) (hl : 1 ≤ l) : PE ts l o k = (PO ts o k).bind fun x k' => PC ts l o x k' := by
  have h : PE ts l o k = (PO ts o k).bind fun x k' => pC ts (3 * (ts.length - k) + 1) l o x k' := step_E ts (3 * (ts.length - k) + 1) l o k
  rw [h]
  refine bind_congr fun x k' hx => ?_
  have := PO_moves hx
  exact fuelC _ _ _ _ _ _ hl (by omega)
theorem PC_stop (ts : List Tk.Tok) (l o : Nat) (x : Ex) (k : Nat) (h : strD (bop (sgn ts k)) < l) : PC ts l o x k = .ok x k := by
  unfold PC
  rw [step_C, if_pos h]
theorem PC_go (ts : List Tk.Tok) (l o : Nat) (x : Ex) (k : Nat) (hl : 1 ≤ l) (h : ¬ strD (bop (sgn ts k)) < l) : PC ts l o x k = (PE ts (strD (bop (sgn ts k)) + 1) o (k + 1)).bind fun r k' => PC ts l o (.mk (bop (sgn ts k)) 0 [] [x, r]) k' := by
  have hk := inside_C ts l k hl h
  have h0 : PC ts l o x k = _ := step_C ts (3 * (ts.length - k)) l o x k
  rw [h0, if_neg h, fuelE _ _ _ _ (k + 1) (by omega) (by omega)]
  refine bind_congr fun x k' hx => ?_
  have := PE_moves hx
  exact fuelC _ _ _ _ _ _ hl (by omega)
theorem PO_eq (ts : List Tk.Tok) (o k : Nat) : PO ts o k =
    if kindAt ts k = 2 then .ok (.mk 1 (numAt ts k) [] []) (k + 1)
    else if kindAt ts k = 1 then .ok (.mk 2 0 (textAt ts k) []) (k + 1)
    else if uop (sgn ts k) = 0 ∧ sgn ts k ≠ [40] then .bad k 4
    else if o = 24 then .bad k 3
    else if uop (sgn ts k) = 0 then (PE ts 1 (o + 1) (k + 1)).bind fun x k' => if sgn ts k' = [41] then .ok x (k' + 1) else .bad k' 4
    else (PO ts (o + 1) (k + 1)).bind fun x k' => .ok (.mk (uop (sgn ts k)) 0 [] [x]) k' := by
  rcases Nat.lt_or_ge k ts.length with hk | hk
  · have h0 : PO ts o k = _ := step_O ts (3 * (ts.length - k)) o k
    rw [h0, fuelE _ _ 1 _ (k + 1) (by omega) (by omega), fuelO _ _ _ (k + 1) (by omega)]
  · have h0 : PO ts o k = _ := out_O ts (3 * (ts.length - k)) o k hk
    rw [h0, out_kind ts k hk, out_sgn ts k hk, uop_nil, if_neg (by decide), if_neg (by decide), if_pos ⟨rfl, by decide⟩]

theorem opFind_le (s : List UInt8) (n op : Nat) : opFind s n op = 0 ∨ op ≤ opFind s n op ∧ opFind s n op < op + n := by
  induction n generalizing op with
  | zero => left; rfl
  | succ n ih =>
    unfold opFind
    split
    · right; omega
    · rcases ih (op + 1) with h | h
      · left; exact h
      · right; omega
theorem bop_str (s : List UInt8) : strD (bop s) ≤ 5 := by
  rcases opFind_le s 13 5 with h | h
  · show strD (opFind s 13 5) ≤ 5
    rw [h]; decide
  · show strD (opFind s 13 5) ≤ 5
    generalize opFind s 13 5 = n at *
    unfold strD strV
    split <;> (repeat' split) <;> omega

/-- an expression ends before a weaker operator -/
theorem PC_ends (ts : List Tk.Tok) (n : Nat) : ∀ (l o : Nat) (x : Ex) (k : Nat) (y : Ex) (m : Nat), ts.length - k < n → 1 ≤ l → PC ts l o x k = .ok y m → strD (bop (sgn ts m)) < l := by
  induction n with
  | zero => intro l o x k y m h; omega
  | succ n ih =>
    intro l o x k y m hn hl h
    by_cases hs : strD (bop (sgn ts k)) < l
    · rw [PC_stop ts l o x k hs] at h
      injection h with _ h
      rw [← h]; exact hs
    · have hk := inside_C ts l k hl hs
      rw [PC_go ts l o x k hl hs] at h
      obtain ⟨r, k', h1, h2⟩ := bind_ok h
      have := PE_moves h1
      exact ih l o _ k' y m (by omega) hl h2
theorem PE_ends {ts : List Tk.Tok} {l o k : Nat} {y : Ex} {m : Nat} (hl : 1 ≤ l) (h : PE ts l o k = .ok y m) : strD (bop (sgn ts m)) < l := by
  rw [PE_eq ts l o k hl] at h
  obtain ⟨r, k', h1, h2⟩ := bind_ok h
  exact PC_ends ts _ l o r k' y m (Nat.lt_succ_self _) hl h2
/-- the weaker operators follow the stronger ones -/
theorem PC_split (ts : List Tk.Tok) (n : Nat) : ∀ (l o : Nat) (x : Ex) (k : Nat), ts.length - k < n → 1 ≤ l → PC ts l o x k = (PC ts (l + 1) o x k).bind fun y m => PC ts l o y m := by
  induction n with
  | zero => intro l o x k h; omega
  | succ n ih =>
    intro l o x k hn hl
    by_cases hs : strD (bop (sgn ts k)) < l + 1
    · rw [PC_stop ts (l + 1) o x k hs]; rfl
    · have hk := inside_C ts (l + 1) k (by omega) hs
      rw [PC_go ts (l + 1) o x k (by omega) hs, PC_go ts l o x k hl (by omega), bind_assoc]
      refine bind_congr fun r k' hx => ?_
      have := PE_moves hx
      exact ih l o _ k' (by omega) hl
theorem PE_split (ts : List Tk.Tok) (l o k : Nat) (hl : 1 ≤ l) : PE ts l o k = (PE ts (l + 1) o k).bind fun y m => PC ts l o y m := by
  rw [PE_eq ts l o k hl, PE_eq ts (l + 1) o k (by omega), bind_assoc]
  exact bind_congr fun x k' _ => PC_split ts _ l o x k' (Nat.lt_succ_self _) hl
theorem PE_six (ts : List Tk.Tok) (o k : Nat) : PE ts 6 o k = PO ts o k := by
  rw [PE_eq ts 6 o k (by omega)]
  have : ∀ x k', PC ts 6 o x k' = .ok x k' := fun x k' => PC_stop ts 6 o x k' (by have := bop_str (sgn ts k'); omega)
  cases PO ts o k with
  | bad a e => rfl
  | ok x k' => exact this x k'

theorem sgn_kind {ts : List Tk.Tok} {k : Nat} (h : sgn ts k ≠ []) : kindAt ts k = 4 := by
  unfold sgn at h
  unfold kindAt
  cases hk : ts[k]? with
  | none => rw [hk] at h; exact absurd rfl h
  | some t =>
    rw [hk] at h
    dsimp only at h ⊢
    split at h
    · assumption
    · exact absurd rfl h
theorem next_in {ts : List Tk.Tok} (hlast : kindAt ts (ts.length - 1) = 5) {k : Nat} (hk : k < ts.length) (h : kindAt ts k ≠ 5) : k + 1 < ts.length := by
  rcases Nat.lt_or_ge (k + 1) ts.length with h1 | h1
  · exact h1
  · have : k = ts.length - 1 := by omega
    rw [this] at h
    exact absurd hlast h
theorem bop_sgn {ts : List Tk.Tok} {l k : Nat} (hl : 1 ≤ l) (h : ¬ strD (bop (sgn ts k)) < l) : sgn ts k ≠ [] := by
  intro e
  rw [e, bop_nil] at h
  exact h (show strD (0 : Nat) < l from by rw [show ((0 : Nat) : Int) = 0 from rfl, strD_zero]; omega)
def R.at_ : R → Nat
  | .bad m _ => m
  | .ok _ m => m
theorem bind_in {r : R} {f : Ex → Nat → R} {n : Nat} (h : r.at_ < n) (hf : ∀ x k, k < n → (f x k).at_ < n) : (r.bind f).at_ < n := by
  cases r with
  | bad a e => exact h
  | ok x k => exact hf x k h
/-- where a parser stops, there is a token -/
theorem inside (ts : List Tk.Tok) (hlast : kindAt ts (ts.length - 1) = 5) (f : Nat) : (∀ l o k, k < ts.length → 1 ≤ l → (pE ts f l o k).at_ < ts.length) ∧ (∀ l o x k, k < ts.length → 1 ≤ l → (pC ts f l o x k).at_ < ts.length) ∧ (∀ o k, k < ts.length → (pO ts f o k).at_ < ts.length) := by
  induction f with
  | zero =>
    refine ⟨?_, ?_, ?_⟩
    · intro l o k h _; rw [pE]; exact h
    · intro l o x k h _; rw [pC]; exact h
    · intro o k h; rw [pO]; exact h
  | succ f ih =>
    obtain ⟨iE, iC, iO⟩ := ih
    refine ⟨?_, ?_, ?_⟩
    · intro l o k h hl
      rw [step_E]
      exact bind_in (iO o k h) fun x k' hk' => iC l o x k' hk' hl
    · intro l o x k h hl
      rw [step_C]
      split
      · exact h
      · rename_i hn
        have h1 := next_in hlast h (by rw [sgn_kind (bop_sgn hl hn)]; decide)
        exact bind_in (iE _ o _ h1 (by omega)) fun x k' hk' => iC l o _ k' hk' hl
    · intro o k h
      rw [step_O]
      split
      · rename_i h2
        exact next_in hlast h (by rw [h2]; decide)
      split
      · rename_i h2
        exact next_in hlast h (by rw [h2]; decide)
      split
      · exact h
      · rename_i hq
        have hs : sgn ts k ≠ [] := by
          intro e
          rw [e] at hq
          exact hq ⟨uop_nil, by decide⟩
        have h1 := next_in hlast h (by rw [sgn_kind hs]; decide)
        split
        · exact h
        split
        · refine bind_in (iE 1 _ _ h1 (by omega)) fun x k' hk' => ?_
          split
          · rename_i h41
            exact next_in hlast hk' (by rw [sgn_kind (by rw [h41]; decide)]; decide)
          · exact hk'
        · exact bind_in (iO _ _ h1) fun x k' hk' => hk'
theorem PE_in {ts : List Tk.Tok} (hlast : kindAt ts (ts.length - 1) = 5) (l o k : Nat) (h : k < ts.length) (hl : 1 ≤ l) : (PE ts l o k).at_ < ts.length := (inside ts hlast _).1 l o k h hl
theorem PC_in {ts : List Tk.Tok} (hlast : kindAt ts (ts.length - 1) = 5) (l o : Nat) (x : Ex) (k : Nat) (h : k < ts.length) (hl : 1 ≤ l) : (PC ts l o x k).at_ < ts.length := (inside ts hlast _).2.1 l o x k h hl
theorem PO_in {ts : List Tk.Tok} (hlast : kindAt ts (ts.length - 1) = 5) (o k : Nat) (h : k < ts.length) : (PO ts o k).at_ < ts.length := (inside ts hlast _).2.2 o k h
theorem bind_bad {r : R} {f : Ex → Nat → R} {m e : Nat} (h : r.bind f = .bad m e) : r = .bad m e ∨ ∃ x k, r = .ok x k ∧ f x k = .bad m e := by
  cases r with
  | bad a e => left; exact h
  | ok x k => right; exact ⟨x, k, rfl, h⟩
/-- the errors of a parser -/
theorem errs (ts : List Tk.Tok) (f : Nat) : (∀ l o k m e, 1 ≤ l → 3 * (ts.length - k) + 2 ≤ f → pE ts f l o k = .bad m e → e = 3 ∨ e = 4) ∧
    (∀ l o x k m e, 1 ≤ l → 3 * (ts.length - k) + 1 ≤ f → pC ts f l o x k = .bad m e → e = 3 ∨ e = 4) ∧ (∀ o k m e, 3 * (ts.length - k) + 1 ≤ f → pO ts f o k = .bad m e → e = 3 ∨ e = 4) := by
  induction f with
  | zero => exact ⟨fun _ _ _ _ _ _ h => absurd h (by omega), fun _ _ _ _ _ _ _ h => absurd h (by omega), fun _ _ _ _ h => absurd h (by omega)⟩
  | succ f ih =>
    obtain ⟨iE, iC, iO⟩ := ih
    obtain ⟨mE, mC, mO⟩ := moves ts f
    refine ⟨?_, ?_, ?_⟩
    · intro l o k m e hl hf h
      rw [step_E] at h
      rcases bind_bad h with h | ⟨x, k', h1, h2⟩
      · exact iO _ _ _ _ (by omega) h
      · have := mO _ _ _ _ h1
        exact iC _ _ _ _ _ _ hl (by omega) h2
    · intro l o x k m e hl hf h
      rw [step_C] at h
      split at h
      · cases h
      · rename_i hn
        have hk := inside_C ts l k hl hn
        rcases bind_bad h with h | ⟨r, k', h1, h2⟩
        · exact iE _ _ _ _ _ (by omega) (by omega) h
        · have := mE _ _ _ _ _ h1
          exact iC _ _ _ _ _ _ hl (by omega) h2
    · intro o k m e hf h
      rcases Nat.lt_or_ge k ts.length with hk | hk
      · rw [step_O] at h
        split at h
        · cases h
        split at h
        · cases h
        split at h
        · injection h with _ h; omega
        split at h
        · injection h with _ h; omega
        split at h
        · rcases bind_bad h with h | ⟨r, k', h1, h2⟩
          · exact iE _ _ _ _ _ (by omega) (by omega) h
          · split at h2
            · cases h2
            · injection h2 with _ h2; omega
        · rcases bind_bad h with h | ⟨r, k', h1, h2⟩
          · exact iO _ _ _ _ (by omega) h
          · cases h2
      · rw [out_O ts f o k hk] at h
        injection h with _ h; omega
theorem PE_err {ts : List Tk.Tok} {l o k m e : Nat} (hl : 1 ≤ l) (h : PE ts l o k = .bad m e) : e = 3 ∨ e = 4 := (errs ts _).1 l o k m e hl (Nat.le_refl _) h
theorem PC_err {ts : List Tk.Tok} {l o : Nat} {x : Ex} {k m e : Nat} (hl : 1 ≤ l) (h : PC ts l o x k = .bad m e) : e = 3 ∨ e = 4 := (errs ts _).2.1 l o x k m e hl (Nat.le_refl _) h
theorem PO_err {ts : List Tk.Tok} {o k m e : Nat} (h : PO ts o k = .bad m e) : e = 3 ∨ e = 4 := (errs ts _).2.2 o k m e (Nat.le_refl _) h
end Ps
end Go.Proofs.Ytobpnpkcafacjaa
