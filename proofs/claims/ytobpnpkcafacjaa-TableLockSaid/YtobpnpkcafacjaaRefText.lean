/- What the reference's text of an expression is: the plain function exText. -/
import Derived.Test.YtobpnpkcafacjaaRefInner
import Derived.Test.YtobpnpkcafacjaaTokS
import Derived.Deep.QuietTactic
import Derived.BigQuiet
namespace Go.Proofs.Ytobpnpkcafacjaa
open Go.RowKit

/-- the sign of an operator, if it is a binary one -/
def signFind : List Int → List (List UInt8) → Int → Option (List UInt8)
  | o :: os, s :: ss, op => if o = op then some s else signFind os ss op
  | _, _, _ => none
def signOf (op : Int) : Option (List UInt8) := signFind (sgO (strV op : Int)) (sgS (strV op : Int)) op
/-- the text of an operator with the texts of its Args -/
def finText (op num : Int) (name : List UInt8) (ps : List (List UInt8)) : List UInt8 :=
  if op = 1 then numText num else if op = 2 then name else if op = 3 then 45 :: ps.getD 0 [] else if op = 4 then 33 :: ps.getD 0 [] else
  match signOf op with
  | some s => ps.getD 0 [] ++ [32] ++ s ++ [32] ++ ps.getD 1 []
  | none => []
mutual
def exText : Ex → List UInt8
  | .mk op num name args => finText op num name (exParts op 0 args)
def exParts (op : Int) : Nat → List Ex → List (List UInt8)
  | _, [] => []
  | k, e :: r => (if innerV op e.op k then 40 :: (exText e ++ [41]) else exText e) :: exParts op (k + 1) r
end
/-- the text of one Arg -/
def partText (op : Int) (k : Nat) (e : Ex) : List UInt8 := if innerV op e.op k then 40 :: (exText e ++ [41]) else exText e
theorem exText_mk (op num : Int) (name : List UInt8) (args : List Ex) : exText (.mk op num name args) = finText op num name (exParts op 0 args) := by rw [exText]
theorem exParts_cons (op : Int) (k : Nat) (e : Ex) (r : List Ex) : exParts op k (e :: r) = partText op k e :: exParts op (k + 1) r := by rw [exParts, partText]
theorem exParts_nil (op : Int) (k : Nat) : exParts op k [] = [] := by rw [exParts]
theorem exParts_len (op : Int) (k : Nat) (args : List Ex) : (exParts op k args).length = args.length := by
  induction args generalizing k with
  | nil => rw [exParts_nil]; rfl
  | cons e r ih => rw [exParts_cons, List.length_cons, ih, List.length_cons]
theorem exParts_snoc (op : Int) (k : Nat) (args : List Ex) (m : Nat) (h : m < args.length) : exParts op k (args.take (m + 1)) = exParts op k (args.take m) ++ [partText op (k + m) args[m]] := by
  induction args generalizing k m with
  | nil => simp at h
  | cons e r ih =>
    cases m with
    | zero => simp [exParts_cons, exParts_nil]
    | succ m =>
      have := ih (k + 1) m (by simpa using h)
      rw [List.take_succ_cons, List.take_succ_cons, exParts_cons, exParts_cons, this]
      simp
      congr 1
      omega
/-- the expressions that are printed -/
inductive ExOk : Ex → Prop
  | mk (op num : Int) (name : List UInt8) (args : List Ex) (hn : -9223372036854775808 ≤ num ∧ num ≤ 9223372036854775807)
      (ha : (op = 1 ∨ op = 2) ∧ args.length = 0 ∨ (op = 3 ∨ op = 4) ∧ args.length = 1 ∨ 5 ≤ op ∧ op ≤ 17 ∧ args.length = 2) (hs : ∀ i (h : i < args.length), ExOk args[i]) : ExOk (.mk op num name args)
theorem signOf_some (op : Int) (h : 5 ≤ op ∧ op ≤ 17) : ∃ s, signOf op = some s ∧ s.length ≤ 2 := by
  have hc : op = 5 ∨ op = 6 ∨ op = 7 ∨ op = 8 ∨ op = 9 ∨ op = 10 ∨ op = 11 ∨ op = 12 ∨ op = 13 ∨ op = 14 ∨ op = 15 ∨ op = 16 ∨ op = 17 := by omega
  rcases hc with rfl | rfl | rfl | rfl | rfl | rfl | rfl | rfl | rfl | rfl | rfl | rfl | rfl <;> exact ⟨_, rfl, by decide⟩
theorem signFind_at (os : List Int) (ss : List (List UInt8)) (op : Int) (m : Nat) (h : m < os.length) (h' : m < ss.length) (he : os[m] = op) (hn : op ∉ os.take m) : signFind os ss op = some ss[m] := by
  induction os generalizing ss m with
  | nil => simp at h
  | cons o os ih =>
    cases ss with
    | nil => simp at h'
    | cons s ss =>
      rw [signFind]
      cases m with
      | zero =>
        simp at he
        rw [if_pos he]
        rfl
      | succ m =>
        simp at hn he
        rw [if_neg (fun e => hn.1 e.symm), ih ss m (by simpa using h) (by simpa using h') he hn.2]
        simp
theorem sg_len (level : Int) : (sgS level).length = (sgO level).length := by
  unfold sgS sgO
  split <;> rfl
theorem sg_mem (op : Int) (h : 5 ≤ op ∧ op ≤ 17) : op ∈ sgO (strV op : Int) := by
  have hc : op = 5 ∨ op = 6 ∨ op = 7 ∨ op = 8 ∨ op = 9 ∨ op = 10 ∨ op = 11 ∨ op = 12 ∨ op = 13 ∨ op = 14 ∨ op = 15 ∨ op = 16 ∨ op = 17 := by omega
  rcases hc with rfl | rfl | rfl | rfl | rfl | rfl | rfl | rfl | rfl | rfl | rfl | rfl | rfl <;> decide
theorem sgS_len2 (level : Int) (m : Nat) (h : m < (sgS level).length) : ((sgS level)[m]).length ≤ 2 := by
  have hm := List.getElem_mem h
  generalize (sgS level)[m] = x at hm
  unfold sgS at hm
  split at hm <;> simp at hm <;> (first | (subst hm; decide) | (rcases hm with h | h | h | h | h | h <;> subst h <;> decide) | (rcases hm with h | h | h <;> subst h <;> decide) | (rcases hm with h | h <;> subst h <;> decide))
theorem size_arg (op num : Int) (name : List UInt8) (args : List Ex) (i : Nat) (h : i < args.length) : SizeOf.sizeOf args[i] < SizeOf.sizeOf (Ex.mk op num name args) := by
  have h1 := List.sizeOf_lt_of_mem (List.getElem_mem h)
  have h2 : SizeOf.sizeOf args < SizeOf.sizeOf (Ex.mk op num name args) := by simp; omega
  omega

theorem ExM.op_eq {w : World} {S : Nat → Prop} {E : Ex} {f : EF} (h : ExM w S E f) : f.op = E.op := by
  cases h
  rfl
theorem ExM.later {w w' : World} {S : Nat → Prop} {E : Ex} {f : EF} (h : ExM w S E f) (hb : Below w.heap.size w w') : ExM w' S E f := h.keep fun b _ hlt => hb.block b hlt
theorem part_le (op num : Int) (name : List UInt8) (args : List Ex) (hok : ExOk (.mk op num name args)) (i : Nat) (h : i < args.length) : (exText args[i]).length ≤ (exText (.mk op num name args)).length ∧ (partText op i args[i]).length ≤ (exText (.mk op num name args)).length := by
  have hp : (exText args[i]).length ≤ (partText op i args[i]).length := by
    unfold partText
    split
    · simp; omega
    · exact Nat.le_refl _
  suffices hq : (partText op i args[i]).length ≤ (exText (.mk op num name args)).length from ⟨Nat.le_trans hp hq, hq⟩
  rw [exText_mk]
  cases hok with
  | mk _ _ _ _ hn ha hs =>
    rcases ha with ⟨_, h0⟩ | ⟨ho, h1⟩ | ⟨o1, o2, h2⟩
    · omega
    · obtain ⟨a, rfl⟩ : ∃ a, args = [a] := List.length_eq_one_iff.1 h1
      have : i = 0 := by simpa using h
      subst this
      simp only [exParts_cons, exParts_nil, List.getElem_cons_zero]
      unfold finText
      rw [if_neg (by omega), if_neg (by omega)]
      rcases ho with rfl | rfl
      · simp
      · simp
    · obtain ⟨a, b, rfl⟩ : ∃ a b, args = [a, b] := by
        match args, h2 with
        | [a, b], _ => exact ⟨a, b, rfl⟩
      obtain ⟨s, hs, _⟩ := signOf_some op ⟨o1, o2⟩
      simp only [exParts_cons, exParts_nil]
      unfold finText
      rw [if_neg (by omega), if_neg (by omega), if_neg (by omega), if_neg (by omega), hs]
      have hi : i = 0 ∨ i = 1 := by simp at h; omega
      rcases hi with rfl | rfl
      · simp
      · simp
        omega

def strCells (l : List (List UInt8)) : List Value := l.map fun s => Value.string ⟨s.toArray⟩
theorem strCells_snoc (l : List (List UInt8)) (s : List UInt8) : strCells (l ++ [s]) = strCells l ++ [.string ⟨s.toArray⟩] := by simp [strCells]

theorem owns_some {w : World} {base : Nat} {e : TypeId} {size n c : Nat} {A : Option Addr} {xs : List Value} (h : w.ownsRow base e size (.slice A n c) n xs) (hn : 0 < n) : ∃ g, A = some ⟨g, 0, none⟩ := by
  rcases h.2 with ⟨_, h0⟩ | ⟨g, cap, cur, e, _⟩
  · omega
  · injection e with e1
    exact ⟨g, e1⟩
/-- what an append to a row of the call's own leaves, behind one new block -/
theorem grown_row {w wr W w5 : World} {o0 o : Obj} {e size n : Nat} {v : Value} {xs : List Value} (ho : wr.ownsRow (w.heap.size + 1) e size v n xs) (hw : Below (w.alloc o0).heap.size (w.alloc o0) wr) (hb : Below wr.heap.size wr W)
    (hg : (W.alloc o).grownBy w5 v.ownBlock) : Below (w.alloc o0).heap.size (w.alloc o0) w5 := by
  have h1 := hw.size
  have h2 := hb.size
  exact ((hw.trans (hb.mono h1)).alloc (by omega) _).grown hg (by simp at *; omega) (fun k hk => by have := (owns_block ho k hk).1; simp; omega)

end Go.Proofs.Ytobpnpkcafacjaa
