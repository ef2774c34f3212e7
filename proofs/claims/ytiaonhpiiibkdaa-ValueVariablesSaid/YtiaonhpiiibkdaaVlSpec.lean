/- Values of expressions as plain functions, and the evaluation with a list of open expressions. No statement of the program is proved in this file. -/
import Derived.Test.YtiaonhpiiibkdaaMdExl
import Derived.IntWalk
namespace Go.Proofs.Ytiaonhpiiibkdaa
open Go.RowKit

/-- the number of a truth value -/
def trV (b : Bool) : Int := if b then 1 else 0
/-- what an operator does with the values of its Args -/
def opV (op a b : Int) : Int :=
  if op = 3 then wrap64 (-a) else if op = 4 then trV (a == 0) else if op = 5 then wrap64 (a * b) else if op = 6 then wrap64 (a.tdiv b) else if op = 7 then a.tmod b
  else if op = 8 then wrap64 (a + b) else if op = 9 then wrap64 (a - b) else if op = 10 then trV (decide (a < b)) else if op = 11 then trV (decide (a ≤ b)) else if op = 12 then trV (decide (b < a))
  else if op = 13 then trV (decide (b ≤ a)) else if op = 14 then trV (a == b) else if op = 15 then trV (!(a == b)) else if op = 16 then trV (!(a == 0) && !(b == 0)) else if op = 17 then trV (!(a == 0) || !(b == 0)) else 0
/-- the value of a variable -/
def varV (l : List Int) (n : Int) : Int := if n < 0 then 0 else l.getD n.toNat 0
/-- the value of an operator out of those of its Args -/
def finV (gs ls : List Int) (op num : Int) (rs : List (Int × Int)) : Int × Int :=
  if op = 1 then (num, 0) else if op = 18 then (varV ls num, 0) else if op = 19 then (varV gs num, 0) else
  match rs with
  | [r] => if r.2 ≠ 0 then (0, r.2) else (opV op r.1 0, 0)
  | [r, s] => if r.2 ≠ 0 then (0, r.2) else if op = 16 ∧ r.1 = 0 then (0, 0) else if op = 17 ∧ r.1 ≠ 0 then (1, 0) else if s.2 ≠ 0 then (0, s.2)
      else if (op = 6 ∨ op = 7) ∧ s.1 = 0 then (0, 1) else (opV op r.1 s.1, 0)
  | _ => (0, 0)
mutual
/-- the value and the fault of an expression -/
def evV (gs ls : List Int) : Ex → Int × Int
  | .mk op num _ args => finV gs ls op num (evVs gs ls args)
def evVs (gs ls : List Int) : List Ex → List (Int × Int)
  | [] => []
  | e :: r => evV gs ls e :: evVs gs ls r
end
theorem evV_mk (gs ls : List Int) (op num : Int) (name : List UInt8) (args : List Ex) : evV gs ls (.mk op num name args) = finV gs ls op num (evVs gs ls args) := by rw [evV]
theorem evVs_nil (gs ls : List Int) : evVs gs ls [] = [] := by rw [evVs]
theorem evVs_cons (gs ls : List Int) (e : Ex) (r : List Ex) : evVs gs ls (e :: r) = evV gs ls e :: evVs gs ls r := by rw [evVs]

/-- resolved expressions over so many variables -/
inductive RsOk (ng nl : Nat) : Ex → Prop
  | mk (op num : Int) (name : List UInt8) (args : List Ex) (hn : -9223372036854775808 ≤ num ∧ num ≤ 9223372036854775807) (hl : name.length ≤ 9223372036854775807)
      (ha : (op = 1 ∨ op = 18 ∧ 0 ≤ num ∧ num < nl ∨ op = 19 ∧ 0 ≤ num ∧ num < ng) ∧ args.length = 0 ∨ (op = 3 ∨ op = 4) ∧ args.length = 1 ∨ 5 ≤ op ∧ op ≤ 17 ∧ args.length = 2)
      (hs : ∀ i (h : i < args.length), RsOk ng nl args[i]) : RsOk ng nl (.mk op num name args)
def I64 (x : Int) : Prop := -9223372036854775808 ≤ x ∧ x ≤ 9223372036854775807
theorem wrap64_i64 (x : Int) : I64 (wrap64 x) := by unfold I64 wrap64; omega
theorem trV_i64 (b : Bool) : I64 (trV b) := by cases b <;> (simp [trV, I64])
theorem tmod_i64 {a b : Int} (ha : I64 a) : I64 (a.tmod b) := by
  have h1 : (a.tmod b).natAbs ≤ a.natAbs := by
    rw [Int.natAbs_tmod]
    exact Nat.mod_le _ _
  unfold I64 at *
  have h2 : 0 ≤ a → 0 ≤ a.tmod b := fun h => Int.tmod_nonneg b h
  have h3 : a ≤ 0 → a.tmod b ≤ 0 := fun h => by
    have := Int.tmod_nonneg b (show 0 ≤ -a by omega)
    rw [Int.neg_tmod] at this
    omega
  omega
theorem ite_i64 {c : Prop} [Decidable c] {x y : Int} (h : c → I64 x) (h' : I64 y) : I64 (if c then x else y) := by
  split
  · exact h (by assumption)
  · exact h'
theorem opV_i64 {op a b : Int} (ha : I64 a) : I64 (opV op a b) := by
  unfold opV
  have hz : I64 0 := by unfold I64; omega
  repeat (refine ite_i64 (fun _ => ?_) ?_; first | exact wrap64_i64 _ | exact trV_i64 _ | exact tmod_i64 ha)
  exact hz
def AllI (l : List Int) : Prop := ∀ i (h : i < l.length), I64 l[i]
theorem varV_i64 {l : List Int} (h : AllI l) (n : Int) : I64 (varV l n) := by
  unfold varV
  split
  · unfold I64; omega
  · by_cases hn : n.toNat < l.length
    · rw [List.getD_eq_getElem?_getD, List.getElem?_eq_getElem hn]
      exact h _ hn
    · rw [List.getD_eq_getElem?_getD, List.getElem?_eq_none (by omega)]
      show I64 0
      unfold I64; omega
/-- what values are: fits, and a fault is 0 or 1, with the value 0 -/
def ResOk (r : Int × Int) : Prop := I64 r.1 ∧ (r.2 = 0 ∨ r.2 = 1 ∧ r.1 = 0)
theorem ResOk.fault {r : Int × Int} (h : ResOk r) (hf : r.2 ≠ 0) : ResOk (0, r.2) := by
  refine ⟨by unfold I64; omega, ?_⟩
  rcases h.2 with h | h
  · exact absurd h hf
  · exact .inr ⟨h.1, rfl⟩
theorem evV_ok {gs ls : List Int} (hg : AllI gs) (hl : AllI ls) (E : Ex) (h : RsOk gs.length ls.length E) : ResOk (evV gs ls E) := by
  induction h with
  | mk op num name args hn _ ha hs ih =>
    rw [evV_mk]
    rcases ha with ⟨ho, h0⟩ | ⟨ho, h1⟩ | ⟨o1, o2, h2⟩
    · unfold finV
      rcases ho with rfl | ⟨rfl, _⟩ | ⟨rfl, _⟩
      · rw [if_pos rfl]; exact ⟨hn, .inl rfl⟩
      · rw [if_neg (by omega), if_pos rfl]; exact ⟨varV_i64 hl _, .inl rfl⟩
      · rw [if_neg (by omega), if_neg (by omega), if_pos rfl]; exact ⟨varV_i64 hg _, .inl rfl⟩
    · obtain ⟨x, rfl⟩ : ∃ x, args = [x] := List.length_eq_one_iff.1 h1
      have hx := ih 0 (by simp)
      simp only [List.getElem_cons_zero] at hx
      rw [evVs_cons, evVs_nil]
      unfold finV
      rw [if_neg (by omega), if_neg (by omega), if_neg (by omega)]
      dsimp only
      split
      · rename_i hf
        exact hx.fault hf
      · exact ⟨opV_i64 hx.1, .inl rfl⟩
    · obtain ⟨x, y, rfl⟩ : ∃ x y, args = [x, y] := by
        match args, h2 with
        | [x, y], _ => exact ⟨x, y, rfl⟩
      have hx := ih 0 (by simp)
      have hy := ih 1 (by simp)
      simp only [List.getElem_cons_zero, List.getElem_cons_succ] at hx hy
      rw [evVs_cons, evVs_cons, evVs_nil]
      unfold finV
      rw [if_neg (by omega), if_neg (by omega), if_neg (by omega)]
      dsimp only
      split
      · rename_i hf
        exact hx.fault hf
      · split
        · exact ⟨by unfold I64; omega, .inl rfl⟩
        · split
          · exact ⟨by unfold I64; omega, .inl rfl⟩
          · split
            · rename_i hf
              exact hy.fault hf
            · split
              · exact ⟨by unfold I64; omega, .inr ⟨rfl, rfl⟩⟩
              · exact ⟨opV_i64 hx.1, .inl rfl⟩

/-! ### an expression of which k Args are known -/
/-- the values of the Args that are known -/
def knV (k : Nat) (a b : Int) : List (Int × Int) := if k = 0 then [] else if k = 1 then [(a, 0)] else [(a, 0), (b, 0)]
/-- the value of an expression of which k Args are known -/
def finK (gs ls : List Int) (E : Ex) (k : Nat) (a b : Int) : Int × Int :=
  match E with
  | .mk op num _ args => finV gs ls op num (knV k a b ++ evVs gs ls (args.drop k))
def Ex.argsOf : Ex → List Ex | .mk _ _ _ args => args
def Ex.numOf : Ex → Int | .mk _ num _ _ => num
/-- is no further Arg to be evaluated -/
def decV (E : Ex) (k : Nat) (a : Int) : Bool := (k == 1 && (E.op == 16 && a == 0 || E.op == 17 && !(a == 0))) || k == E.argsOf.length
/-- what is returned for it then -/
def valV (gs ls : List Int) (E : Ex) (a b : Int) : Int × Int :=
  if E.op = 1 then (E.numOf, 0) else if E.op = 18 then (varV ls E.numOf, 0) else if E.op = 19 then (varV gs E.numOf, 0) else
  if (E.op = 6 ∨ E.op = 7) ∧ b = 0 then (0, 1) else (opV E.op a b, 0)
theorem finK_zero (gs ls : List Int) (E : Ex) (a b : Int) : finK gs ls E 0 a b = evV gs ls E := by
  cases E
  rw [finK, evV_mk]
  simp [knV]
theorem op_eq_mk (op num : Int) (name : List UInt8) (args : List Ex) : (Ex.mk op num name args).op = op := rfl
/-- an expression that is decided -/
theorem finK_dec {ng nl : Nat} (gs ls : List Int) (E : Ex) (k : Nat) (a b : Int) (h : RsOk ng nl E) (hk : k ≤ E.argsOf.length) (hb : k < 2 → b = 0) (hd : decV E k a = true) : finK gs ls E k a b = valV gs ls E a b := by
  cases h with
  | mk op num name args hn _ ha hs =>
    unfold Ex.argsOf at hk
    unfold decV Ex.argsOf at hd
    rw [op_eq_mk] at hd
    unfold finK valV Ex.numOf
    rw [op_eq_mk]
    dsimp only at hd hk ⊢
    rcases ha with ⟨ho, h0⟩ | ⟨ho, h1⟩ | ⟨o1, o2, h2⟩
    · unfold finV
      rcases ho with rfl | ⟨rfl, _⟩ | ⟨rfl, _⟩
      · rw [if_pos rfl, if_pos rfl]
      · rw [if_neg (by omega), if_pos rfl, if_neg (by omega), if_pos rfl]
      · rw [if_neg (by omega), if_neg (by omega), if_pos rfl, if_neg (by omega), if_neg (by omega), if_pos rfl]
    · have hk1 : k = 1 := by
        rcases Nat.lt_or_ge k 1 with h | h
        · obtain rfl : k = 0 := by omega
          rw [h1] at hd
          simp at hd
        · omega
      subst hk1
      rw [List.drop_of_length_le (by omega), evVs_nil]
      have hb0 := hb (by omega)
      subst hb0
      unfold finV knV
      rw [if_neg (by omega), if_neg (by omega), if_neg (by omega), if_neg (by omega), if_pos rfl, if_neg (by omega), if_neg (by omega), if_neg (by omega), if_neg (by omega)]
      simp
    · obtain ⟨x, y, rfl⟩ : ∃ x y, args = [x, y] := by
        match args, h2 with
        | [x, y], _ => exact ⟨x, y, rfl⟩
      have hc : k = 0 ∨ k = 1 ∨ k = 2 := by simp at hk; omega
      unfold finV
      rw [if_neg (by omega), if_neg (by omega), if_neg (by omega), if_neg (by omega), if_neg (by omega), if_neg (by omega)]
      rcases hc with rfl | rfl | rfl
      · simp at hd
      · have hb0 := hb (by omega)
        subst hb0
        simp at hd
        rw [List.drop_succ_cons, List.drop_zero, evVs_cons, evVs_nil]
        rcases hd with ⟨h16, ha⟩ | ⟨h17, ha⟩
        · subst h16 ha
          simp [knV, opV, trV]
        · subst h17
          simp [knV, opV, trV, ha]
      · rw [List.drop_of_length_le (by simp), evVs_nil]
        simp only [knV, List.append_nil]
        rw [if_neg (by omega), if_neg (by omega)]
        dsimp only
        rw [if_neg (by simp), if_neg (c := (0 : Int) ≠ 0) (by simp)]
        by_cases h16 : op = 16 ∧ a = 0
        · obtain ⟨rfl, rfl⟩ := h16
          simp [opV, trV]
        · rw [if_neg h16]
          by_cases h17 : op = 17 ∧ a ≠ 0
          · obtain ⟨rfl, h⟩ := h17
            simp [opV, trV, h]
          · rw [if_neg h17]
/-- an expression that is not decided has a further Arg -/
theorem finK_open {ng nl : Nat} (gs ls : List Int) (E : Ex) (k : Nat) (a b : Int) (h : RsOk ng nl E) (hk : k ≤ E.argsOf.length) (hd : decV E k a = false) :
    ∃ hlt : k < E.argsOf.length, k < 2 ∧ ∀ r, r = evV gs ls E.argsOf[k] → (r.2 ≠ 0 → finK gs ls E k a b = (0, r.2)) ∧
      (r.2 = 0 → finK gs ls E k a b = finK gs ls E (k + 1) (if k = 0 then r.1 else a) (if k = 1 then r.1 else b)) := by
  cases h with
  | mk op num name args hn _ ha hs =>
    unfold Ex.argsOf at hk ⊢
    unfold decV Ex.argsOf at hd
    rw [op_eq_mk] at hd
    unfold finK
    dsimp only at hd hk ⊢
    have hne : k ≠ args.length := by
      intro e
      subst e
      simp at hd
    have hlt : k < args.length := by omega
    refine ⟨hlt, by omega, fun r hr => ?_⟩
    rw [List.drop_eq_getElem_cons hlt, evVs_cons, ← hr]
    rcases ha with ⟨ho, h0⟩ | ⟨ho, h1⟩ | ⟨o1, o2, h2⟩
    · omega
    · obtain rfl : k = 0 := by omega
      unfold finV
      rw [if_neg (by omega), if_neg (by omega), if_neg (by omega), if_neg (by omega), if_neg (by omega), if_neg (by omega), List.drop_of_length_le (by omega), evVs_nil]
      simp only [knV]
      rcases r with ⟨r1, r2⟩
      constructor
      · intro hf
        simp at hf
        simp [hf]
      · intro hf
        simp at hf
        subst hf
        simp
    · obtain ⟨x, y, rfl⟩ : ∃ x y, args = [x, y] := by
        match args, h2 with
        | [x, y], _ => exact ⟨x, y, rfl⟩
      have hc : k = 0 ∨ k = 1 := by simp at hlt; omega
      unfold finV
      rw [if_neg (by omega), if_neg (by omega), if_neg (by omega), if_neg (by omega), if_neg (by omega), if_neg (by omega)]
      rcases r with ⟨r1, r2⟩
      rcases hc with rfl | rfl
      · simp only [knV, Nat.zero_add, List.drop_succ_cons, List.drop_zero, evVs_cons, evVs_nil]
        constructor
        · intro hf
          have hf : r2 ≠ 0 := hf
          simp [hf]
        · intro hf
          have hf : r2 = 0 := hf
          subst hf
          simp
      · simp at hd
        simp only [knV, List.drop_succ_cons, List.drop_zero, evVs_nil]
        have h16 : ¬(op = 16 ∧ a = 0) := fun ⟨e1, e2⟩ => hd.1 e1 e2
        have h17 : ¬(op = 17 ∧ a ≠ 0) := fun ⟨e1, e2⟩ => e2 (hd.2 e1)
        constructor
        · intro hf
          have hf : r2 ≠ 0 := hf
          simp [h16, hf]
          intro e
          exact hd.2 e
        · intro hf
          have hf : r2 = 0 := hf
          subst hf
          simp

end Go.Proofs.Ytiaonhpiiibkdaa
