/- Paths in a graph, components, and Warshall's way to find them: plain facts. No statement of the program is proved in this file. -/
import Derived.Test.YtnofcanboaaejaaDoorRefLeaf
namespace Go.Proofs.YtnofcanboaaejaaDoor
namespace Sc

/-- an edge between nodes below n -/
def Ed (n : Nat) (P : List (List Int)) (a b : Nat) : Prop := a < n ∧ b < n ∧ [(a : Int), (b : Int)] ∈ P
/-- a path of one or more edges -/
inductive Rc (E : Nat → Nat → Prop) : Nat → Nat → Prop
  | one {a b : Nat} : E a b → Rc E a b
  | step {a b c : Nat} : Rc E a b → E b c → Rc E a c
theorem Rc.trans {E : Nat → Nat → Prop} {a b c : Nat} (h : Rc E a b) (k : Rc E b c) : Rc E a c := by
  induction k with
  | one e => exact .step h e
  | step _ e ih => exact .step ih e
theorem Rc.more {E F : Nat → Nat → Prop} (hEF : ∀ a b, E a b → F a b) {a b : Nat} (h : Rc E a b) : Rc F a b := by
  induction h with
  | one e => exact .one (hEF _ _ e)
  | step _ e ih => exact .step ih (hEF _ _ e)
theorem Rc.lt {n : Nat} {P : List (List Int)} {a b : Nat} (h : Rc (Ed n P) a b) : a < n ∧ b < n := by
  induction h with
  | one e => exact ⟨e.1, e.2.1⟩
  | step _ e ih => exact ⟨ih.1, e.2.1⟩
/-- whether a reaches b -/
noncomputable def rch (n : Nat) (P : List (List Int)) (a b : Nat) : Bool := @decide (Rc (Ed n P) a b) (Classical.propDecidable _)
theorem rch_iff {n : Nat} {P : List (List Int)} {a b : Nat} : rch n P a b = true ↔ Rc (Ed n P) a b := by unfold rch; exact @decide_eq_true_iff _ (Classical.propDecidable _)
theorem rch_ext {n : Nat} {P Q : List (List Int)} (h : ∀ p, p ∈ P ↔ p ∈ Q) : rch n P = rch n Q := by
  funext a b
  rw [Bool.eq_iff_iff, rch_iff, rch_iff]
  exact ⟨Rc.more fun a b e => ⟨e.1, e.2.1, (h _).1 e.2.2⟩, Rc.more fun a b e => ⟨e.1, e.2.1, (h _).2 e.2.2⟩⟩
theorem rch_more {n : Nat} {P Q : List (List Int)} (h : ∀ p, p ∈ P → p ∈ Q) {a b : Nat} (hr : rch n P a b = true) : rch n Q a b = true :=
  rch_iff.2 ((rch_iff.1 hr).more fun _ _ e => ⟨e.1, e.2.1, h _ e.2.2⟩)

/-- a path whose inner nodes are below k -/
def Pk (E : Nat → Nat → Prop) : Nat → Nat → Nat → Prop
  | 0, a, b => E a b
  | k + 1, a, b => Pk E k a b ∨ Pk E k a k ∧ Pk E k k b
theorem Pk.mono {E : Nat → Nat → Prop} {k a b : Nat} (h : E a b) : Pk E k a b := by
  induction k with
  | zero => exact h
  | succ k ih => exact .inl ih
theorem Pk.sound {E : Nat → Nat → Prop} {k : Nat} : ∀ {a b : Nat}, Pk E k a b → Rc E a b := by
  induction k with
  | zero => exact fun h => .one h
  | succ k ih =>
    intro a b h
    rcases h with h | ⟨h1, h2⟩
    · exact ih h
    · exact (ih h1).trans (ih h2)
theorem Pk.trans {E : Nat → Nat → Prop} {k : Nat} : ∀ {a m c : Nat}, m < k → Pk E k a m → Pk E k m c → Pk E k a c := by
  induction k with
  | zero => intro a m c h; omega
  | succ k ih =>
    intro a m c hm h1 h2
    by_cases e : m = k
    · subst e
      have h1' : Pk E m a m := by rcases h1 with h | ⟨h, _⟩ <;> exact h
      have h2' : Pk E m m c := by rcases h2 with h | ⟨_, h⟩ <;> exact h
      exact .inr ⟨h1', h2'⟩
    · have hm' : m < k := by omega
      rcases h1 with h1 | ⟨h1, h1'⟩
      · rcases h2 with h2 | ⟨h2, h2'⟩
        · exact .inl (ih hm' h1 h2)
        · exact .inr ⟨ih hm' h1 h2, h2'⟩
      · rcases h2 with h2 | ⟨h2, h2'⟩
        · exact .inr ⟨h1, ih hm' h1' h2⟩
        · exact .inr ⟨h1, h2'⟩
theorem Pk.all {n : Nat} {P : List (List Int)} {a b : Nat} (h : Rc (Ed n P) a b) : Pk (Ed n P) n a b := by
  induction h with
  | one e => exact .mono e
  | step _ e ih => exact Pk.trans e.1 ih (.mono e)

/-- the matrix M during the rounds: the rounds for the nodes below k are done, and in round k the places before (i, j) -/
structure Wr (n : Nat) (P : List (List Int)) (k i j : Nat) (M : Nat → Nat → Bool) : Prop where
  sound : ∀ a b, a < n → b < n → M a b = true → Rc (Ed n P) a b
  old : ∀ a b, a < n → b < n → Pk (Ed n P) k a b → M a b = true
  new : ∀ a b, a < n → b < n → a < i ∨ a = i ∧ b < j → Pk (Ed n P) (k + 1) a b → M a b = true
def put (M : Nat → Nat → Bool) (i j : Nat) (v : Bool) : Nat → Nat → Bool := fun a b => if a = i ∧ b = j then v else M a b
theorem put_at (M : Nat → Nat → Bool) (i j : Nat) (v : Bool) : put M i j v i j = v := if_pos ⟨rfl, rfl⟩
theorem put_far (M : Nat → Nat → Bool) (i j : Nat) (v : Bool) {a b : Nat} (h : ¬(a = i ∧ b = j)) : put M i j v a b = M a b := if_neg h
theorem Wr.next {n : Nat} {P : List (List Int)} {k i j : Nat} {M : Nat → Nat → Bool} (h : Wr n P k i j M) (hk : k < n) (hi : i < n) (hj : j < n) : Wr n P k i (j + 1) (put M i j (M i j || M i k && M k j)) := by
  refine ⟨fun a b ha hb hm => ?_, fun a b ha hb hp => ?_, fun a b ha hb hab hp => ?_⟩
  · by_cases e : a = i ∧ b = j
    · obtain ⟨rfl, rfl⟩ := e
      rw [put_at, Bool.or_eq_true, Bool.and_eq_true] at hm
      rcases hm with hm | ⟨h1, h2⟩
      · exact h.sound _ _ ha hb hm
      · exact (h.sound _ _ ha hk h1).trans (h.sound _ _ hk hb h2)
    · rw [put_far _ _ _ _ e] at hm
      exact h.sound _ _ ha hb hm
  · by_cases e : a = i ∧ b = j
    · obtain ⟨rfl, rfl⟩ := e
      rw [put_at, h.old _ _ ha hb hp, Bool.true_or]
    · rw [put_far _ _ _ _ e]
      exact h.old _ _ ha hb hp
  · by_cases e : a = i ∧ b = j
    · obtain ⟨rfl, rfl⟩ := e
      rw [put_at, Bool.or_eq_true, Bool.and_eq_true]
      rcases hp with hp | ⟨h1, h2⟩
      · exact .inl (h.old _ _ ha hb hp)
      · exact .inr ⟨h.old _ _ ha hk h1, h.old _ _ hk hb h2⟩
    · rw [put_far _ _ _ _ e]
      refine h.new _ _ ha hb ?_ hp
      rcases hab with hab | ⟨rfl, hab⟩
      · exact .inl hab
      · exact .inr ⟨rfl, by have : b ≠ j := fun h => e ⟨rfl, h⟩; omega⟩
theorem Wr.row {n : Nat} {P : List (List Int)} {k i : Nat} {M : Nat → Nat → Bool} (h : Wr n P k i n M) : Wr n P k (i + 1) 0 M :=
  ⟨h.sound, h.old, fun a b ha hb hab hp => h.new a b ha hb (by omega) hp⟩
theorem Wr.round {n : Nat} {P : List (List Int)} {k : Nat} {M : Nat → Nat → Bool} (h : Wr n P k n 0 M) : Wr n P (k + 1) 0 0 M :=
  ⟨h.sound, fun a b ha hb hp => h.new a b ha hb (by omega) hp, fun a b _ _ hab _ => by omega⟩
theorem Wr.done {n i j : Nat} {P : List (List Int)} {M : Nat → Nat → Bool} (h : Wr n P n i j M) {a b : Nat} (ha : a < n) (hb : b < n) : M a b = rch n P a b := by
  rw [Bool.eq_iff_iff, rch_iff]
  exact ⟨h.sound a b ha hb, fun hr => h.old a b ha hb (.all hr)⟩
/-- the matrix of the edges among the first k pairs -/
def edM (n : Nat) (P : List (List Int)) (k : Nat) : Nat → Nat → Bool := fun a b => decide (a < n) && decide (b < n) && decide ([(a : Int), (b : Int)] ∈ P.take k)
theorem edM_zero (n : Nat) (P : List (List Int)) : edM n P 0 = fun _ _ => false := by funext a b; simp [edM]
theorem edM_start (n : Nat) (P : List (List Int)) {k : Nat} (hk : P.length ≤ k) : Wr n P 0 0 0 (edM n P k) := by
  have e : P.take k = P := List.take_of_length_le hk
  refine ⟨fun a b ha hb hm => .one ?_, fun a b ha hb hp => ?_, fun a b _ _ hab _ => by omega⟩
  · simp only [edM, e, Bool.and_eq_true, decide_eq_true_eq] at hm
    exact ⟨ha, hb, hm.2⟩
  · simp only [edM, e, Bool.and_eq_true, decide_eq_true_eq]
    exact ⟨⟨ha, hb⟩, hp.2.2⟩
/-- whether an element of pairs is an edge -/
def arr (n : Nat) : List Int → Bool
  | [a, b] => decide (0 ≤ a) && decide (a < (n : Int)) && decide (0 ≤ b) && decide (b < (n : Int))
  | _ => false
theorem arr_some {n : Nat} {p : List Int} (h : arr n p = true) : ∃ a b : Nat, p = [(a : Int), (b : Int)] ∧ a < n ∧ b < n := by
  match p, h with
  | [a, b], h =>
    simp only [arr, Bool.and_eq_true, decide_eq_true_eq] at h
    refine ⟨a.toNat, b.toNat, ?_, by omega, by omega⟩
    rw [Int.toNat_of_nonneg (by omega), Int.toNat_of_nonneg (by omega)]
theorem arr_ed {n a b : Nat} (ha : a < n) (hb : b < n) : arr n [(a : Int), (b : Int)] = true := by
  simp only [arr, Bool.and_eq_true, decide_eq_true_eq]
  omega
theorem edM_skip {n k : Nat} {P : List (List Int)} (hk : k < P.length) (h : arr n P[k] = false) : edM n P (k + 1) = edM n P k := by
  funext a b
  unfold edM
  rw [List.take_succ_eq_append_getElem hk]
  by_cases ha : a < n
  · by_cases hb : b < n
    · congr 1
      rw [decide_eq_decide, List.mem_append, List.mem_singleton]
      constructor
      · rintro (e | e)
        · exact e
        · rw [← e, arr_ed ha hb] at h
          cases h
      · exact .inl
    · rw [decide_eq_false hb, Bool.and_false, Bool.false_and, Bool.false_and]
  · rw [decide_eq_false ha, Bool.false_and, Bool.false_and, Bool.false_and]
theorem edM_put {n k a b : Nat} {P : List (List Int)} (hk : k < P.length) (ha : a < n) (hb : b < n) (h : P[k] = [(a : Int), (b : Int)]) : edM n P (k + 1) = put (edM n P k) a b true := by
  funext x y
  unfold edM put
  rw [List.take_succ_eq_append_getElem hk, h]
  by_cases e : x = a ∧ y = b
  · obtain ⟨rfl, rfl⟩ := e
    simp [ha, hb]
  · rw [if_neg e]
    congr 1
    rw [decide_eq_decide, List.mem_append, List.mem_singleton]
    constructor
    · rintro (h | h)
      · exact h
      · simp only [List.cons.injEq, and_true] at h
        exact absurd ⟨by omega, by omega⟩ e
    · exact .inl

/-- two nodes reach each other -/
def eqv (R : Nat → Nat → Bool) (a b : Nat) : Bool := R a b && R b a
/-- no smaller node is in the component of i -/
def lead (R : Nat → Nat → Bool) (i : Nat) : Bool := !(List.range i).any fun j => eqv R j i
/-- the component of i, from i on, as far as the nodes below k go -/
def cls (R : Nat → Nat → Bool) (i k : Nat) : List Nat := i :: (List.range k).filter fun j => decide (i < j) && eqv R i j
def cmp (R : Nat → Nat → Bool) (n i : Nat) : List (List Nat) := ((List.range i).filter (lead R)).map fun i => cls R i n
def compV (R : Nat → Nat → Bool) (n : Nat) : List (List Nat) := cmp R n n
def cycV (R : Nat → Nat → Bool) (n : Nat) : List (List Nat) := (compV R n).filter fun x => R (x.headD 0) (x.headD 0)
theorem cls_zero (R : Nat → Nat → Bool) (i : Nat) : cls R i (i + 1) = [i] := by
  unfold cls
  congr 1
  rw [List.filter_eq_nil_iff]
  intro j hj
  have := List.mem_range.1 hj
  simp
  omega
theorem cls_take {R : Nat → Nat → Bool} {i j : Nat} (hij : i < j) (h : eqv R i j = true) : cls R i (j + 1) = cls R i j ++ [j] := by
  unfold cls
  rw [List.range_succ, List.filter_append]
  simp [hij, h]
theorem cls_skip {R : Nat → Nat → Bool} {i j : Nat} (h : eqv R i j = false) : cls R i (j + 1) = cls R i j := by
  unfold cls
  rw [List.range_succ, List.filter_append]
  simp [h]
theorem cmp_take {R : Nat → Nat → Bool} {n i : Nat} (h : lead R i = true) : cmp R n (i + 1) = cmp R n i ++ [cls R i n] := by
  unfold cmp
  rw [List.range_succ, List.filter_append]
  simp [h]
theorem cmp_skip {R : Nat → Nat → Bool} {n i : Nat} (h : lead R i = false) : cmp R n (i + 1) = cmp R n i := by
  unfold cmp
  rw [List.range_succ, List.filter_append]
  simp [h]
/-- the marks behind round i -/
def mk (R : Nat → Nat → Bool) (i j : Nat) : Bool := (List.range i).any fun k => decide (k < j) && eqv R k j
theorem mk_iff {R : Nat → Nat → Bool} {i j : Nat} : mk R i j = true ↔ ∃ k, k < i ∧ k < j ∧ eqv R k j = true := by
  unfold mk
  simp only [List.any_eq_true, List.mem_range, Bool.and_eq_true, decide_eq_true_eq]
theorem mk_lead (R : Nat → Nat → Bool) (i : Nat) : mk R i i = !lead R i := by
  unfold lead
  rw [Bool.not_not, Bool.eq_iff_iff, mk_iff, List.any_eq_true]
  simp only [List.mem_range]
  exact ⟨fun ⟨k, h, _, e⟩ => ⟨k, h, e⟩, fun ⟨k, h, e⟩ => ⟨k, h, h, e⟩⟩
structure Eqv (R : Nat → Nat → Bool) : Prop where
  trans : ∀ a b c, R a b = true → R b c = true → R a c = true
theorem rch_eqv (n : Nat) (P : List (List Int)) : Eqv (rch n P) := ⟨fun _ _ _ h k => rch_iff.2 ((rch_iff.1 h).trans (rch_iff.1 k))⟩
theorem eqv_iff {R : Nat → Nat → Bool} {a b : Nat} : eqv R a b = true ↔ R a b = true ∧ R b a = true := by unfold eqv; rw [Bool.and_eq_true]
theorem eqv_symm {R : Nat → Nat → Bool} {a b : Nat} (h : eqv R a b = true) : eqv R b a = true := eqv_iff.2 ⟨(eqv_iff.1 h).2, (eqv_iff.1 h).1⟩
theorem Eqv.eqv {R : Nat → Nat → Bool} (hR : Eqv R) {a b c : Nat} (h : eqv R a b = true) (k : Sc.eqv R b c = true) : Sc.eqv R a c = true :=
  eqv_iff.2 ⟨hR.trans _ _ _ (eqv_iff.1 h).1 (eqv_iff.1 k).1, hR.trans _ _ _ (eqv_iff.1 k).2 (eqv_iff.1 h).2⟩
/-- a round that is left at once -/
theorem mk_skip {R : Nat → Nat → Bool} (hR : Eqv R) {i : Nat} (h : lead R i = false) (j : Nat) : mk R (i + 1) j = mk R i j := by
  have hm : mk R i i = true := by rw [mk_lead, h]; rfl
  obtain ⟨k, hk, _, e⟩ := mk_iff.1 hm
  rw [Bool.eq_iff_iff, mk_iff, mk_iff]
  constructor
  · rintro ⟨x, hx, hxj, ex⟩
    by_cases e2 : x = i
    · subst e2
      exact ⟨k, hk, by omega, hR.eqv e ex⟩
    · exact ⟨x, by omega, hxj, ex⟩
  · rintro ⟨x, hx, r⟩
    exact ⟨x, by omega, r⟩
/-- the marks in round i, before j -/
def mk2 (R : Nat → Nat → Bool) (i j x : Nat) : Bool := mk R i x || decide (i < x) && decide (x < j) && eqv R i x
theorem mk2_start (R : Nat → Nat → Bool) (i : Nat) : mk2 R i (i + 1) = mk R i := by
  funext x
  unfold mk2
  by_cases h : i < x
  · rw [decide_eq_false (show ¬ x < i + 1 by omega)]; simp
  · rw [decide_eq_false h]; simp
theorem mk2_end {R : Nat → Nat → Bool} {i n x : Nat} (hx : x < n) : mk2 R i n x = mk R (i + 1) x := by
  unfold mk2
  rw [decide_eq_true hx, Bool.and_true]
  unfold mk
  rw [List.range_succ, List.any_append]
  simp
theorem mk2_take {R : Nat → Nat → Bool} {i j : Nat} (hij : i < j) (h : eqv R i j = true) (x : Nat) : mk2 R i (j + 1) x = if x = j then true else mk2 R i j x := by
  unfold mk2
  by_cases e : x = j
  · subst e; simp [hij, h]
  · rw [if_neg e]
    have : decide (x < j + 1) = decide (x < j) := by rw [decide_eq_decide]; omega
    rw [this]
theorem mk2_skip {R : Nat → Nat → Bool} {i j : Nat} (h : eqv R i j = false) : mk2 R i (j + 1) = mk2 R i j := by
  funext x
  unfold mk2
  by_cases e : x = j
  · subst e; simp [h]
  · have : decide (x < j + 1) = decide (x < j) := by rw [decide_eq_decide]; omega
    rw [this]
theorem mk_zero (R : Nat → Nat → Bool) : mk R 0 = fun _ => false := by funext x; simp [mk]
end Sc
end Go.Proofs.YtnofcanboaaejaaDoor
