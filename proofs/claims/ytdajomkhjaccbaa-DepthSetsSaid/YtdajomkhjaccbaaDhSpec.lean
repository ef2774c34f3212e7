/- Package depth in plain functions: sets of depths are numbers, relations are lists of them. No statement of the program is proved in this file. -/
import Derived.Test.YtdajomkhjaccbaaRefLeaf
import Derived.Laws.BitsLemmas
namespace Go.Proofs.Ytdajomkhjaccbaa
set_option maxRecDepth 100000

def inS (s : Nat) (d : Int) : Bool := decide (0 ≤ d) && (decide (d ≤ 8) && s.testBit d.toNat)
theorem inS_nat (s d : Nat) (h : d ≤ 8) : inS s (d : Int) = s.testBit d := by
  unfold inS; rw [decide_eq_true (show (0 : Int) ≤ d by omega), decide_eq_true (show (d : Int) ≤ 8 by omega)]; simp
theorem inS_not (s : Nat) (d : Int) (h : d < 0 ∨ 8 < d) : inS s d = false := by
  unfold inS
  rcases h with h | h
  · rw [decide_eq_false (show ¬ 0 ≤ d by omega)]; rfl
  · rw [decide_eq_false (show ¬ d ≤ 8 by omega)]; simp

/-- what may follow one of the first n depths of a set -/
def apS (r : List Nat) (s : Nat) : Nat → Nat
  | 0 => 0
  | n + 1 => if s.testBit n then apS r s n ||| r.getD n 0 else apS r s n
def apV (r : List Nat) (s : Nat) : Nat := apS r s 9
def cmV (a b : List Nat) : List Nat := a.map (apV b)
def unV (a b : List Nat) : List Nat := (List.range a.length).map fun d => a.getD d 0 ||| b.getD d 0
def wiT (a b : List Nat) (n : Nat) : Bool := (List.range n).all fun d => a.getD d 0 &&& b.getD d 0 == a.getD d 0
def wiV (a b : List Nat) : Bool := wiT a b a.length
def idV (k : Nat) : List Nat := (List.range (k + 1)).map fun d => 2 ^ d
def upV (k : Nat) : List Nat := (List.range (k + 1)).map fun d => 2 ^ (d + 1) &&& (2 ^ (k + 1) - 1)
def dnV (k : Nat) : List Nat := (List.range (k + 1)).map fun d => if d = 0 then 0 else 2 ^ (d - 1)
def relV (xs : List Int) (k : Nat) : List Nat := (List.range (k + 1)).map fun d => if h : d < xs.length then within xs[d] (2 ^ (k + 1)) else 0

/-- sets of depths from 0 to 8 -/
def BdR (r : List Nat) : Prop := ∀ v ∈ r, v < 512
theorem BdR.at {r : List Nat} (h : BdR r) (i : Nat) (hi : i < r.length) : r[i] < 512 := h _ (List.getElem_mem hi)
theorem BdR.getD {r : List Nat} (h : BdR r) (i : Nat) : r.getD i 0 < 512 := by
  by_cases hi : i < r.length
  · rw [List.getD_eq_getElem?_getD, List.getElem?_eq_getElem hi]; exact h.at i hi
  · rw [List.getD_eq_getElem?_getD, List.getElem?_eq_none (by omega)]; exact (by decide : (0 : Nat) < 512)
theorem getD_in (r : List Nat) (i : Nat) (hi : i < r.length) : r.getD i 0 = r[i] := by
  rw [List.getD_eq_getElem?_getD, List.getElem?_eq_getElem hi]; rfl
theorem getD_out (r : List Nat) (i : Nat) (hi : r.length ≤ i) : r.getD i 0 = 0 := by
  rw [List.getD_eq_getElem?_getD, List.getElem?_eq_none hi]; rfl
theorem or_lt {a b : Nat} (h : a < 512) (h' : b < 512) : a ||| b < 512 := Nat.or_lt_two_pow (n := 9) h h'
theorem apS_lt {r : List Nat} (h : BdR r) (s n : Nat) : apS r s n < 512 := by
  induction n with
  | zero => exact (by decide : (0 : Nat) < 512)
  | succ n ih =>
    unfold apS
    split
    · exact or_lt ih (h.getD n)
    · exact ih
theorem apV_lt {r : List Nat} (h : BdR r) (s : Nat) : apV r s < 512 := apS_lt h s 9
theorem cmV_len (a b : List Nat) : (cmV a b).length = a.length := by simp [cmV]
theorem unV_len (a b : List Nat) : (unV a b).length = a.length := by simp [unV]
theorem relV_len (xs : List Int) (k : Nat) : (relV xs k).length = k + 1 := by simp [relV]
theorem idV_len (k : Nat) : (idV k).length = k + 1 := by simp [idV]
theorem upV_len (k : Nat) : (upV k).length = k + 1 := by simp [upV]
theorem dnV_len (k : Nat) : (dnV k).length = k + 1 := by simp [dnV]
theorem cmV_bd {a b : List Nat} (h : BdR b) : BdR (cmV a b) := fun v hv => by
  unfold cmV at hv
  obtain ⟨x, _, rfl⟩ := List.mem_map.1 hv
  exact apV_lt h x
theorem unV_bd {a b : List Nat} (h : BdR a) (h' : BdR b) : BdR (unV a b) := fun v hv => by
  unfold unV at hv
  obtain ⟨x, _, rfl⟩ := List.mem_map.1 hv
  exact or_lt (h.getD x) (h'.getD x)

/-- a relation with the limit k -/
structure RlG (k : Nat) (r : List Nat) : Prop where
  len : r.length = k + 1
  lt : ∀ v ∈ r, v < 2 ^ (k + 1)
theorem pow_le512 {k : Nat} (h : k ≤ 8) : 2 ^ (k + 1) ≤ 512 := Nat.pow_le_pow_right (j := 9) (by decide) (by omega)
theorem RlG.bd {k : Nat} {r : List Nat} (h : RlG k r) (hk : k ≤ 8) : BdR r := fun v hv => Nat.lt_of_lt_of_le (h.lt v hv) (pow_le512 hk)
theorem relV_g (xs : List Int) (k : Nat) : RlG k (relV xs k) := ⟨relV_len xs k, fun v hv => by
  have hp := Nat.two_pow_pos (k + 1)
  unfold relV at hv
  obtain ⟨x, _, rfl⟩ := List.mem_map.1 hv
  split
  · exact within_lt _ _ hp
  · exact hp⟩
theorem apS_pow {k : Nat} {r : List Nat} (h : RlG k r) (s n : Nat) : apS r s n < 2 ^ (k + 1) := by
  induction n with
  | zero => exact Nat.two_pow_pos _
  | succ n ih =>
    unfold apS
    split
    · refine Nat.or_lt_two_pow ih ?_
      by_cases hi : n < r.length
      · rw [getD_in r n hi]; exact h.lt _ (List.getElem_mem hi)
      · rw [getD_out r n (by omega)]; exact Nat.two_pow_pos _
    · exact ih
theorem cmV_g {k : Nat} {a b : List Nat} (h : RlG k a) (h' : RlG k b) : RlG k (cmV a b) := ⟨by rw [cmV_len]; exact h.len, fun v hv => by
  unfold cmV at hv
  obtain ⟨x, _, rfl⟩ := List.mem_map.1 hv
  exact apS_pow h' x 9⟩
theorem RlG.getD {k : Nat} {r : List Nat} (h : RlG k r) (i : Nat) : r.getD i 0 < 2 ^ (k + 1) := by
  by_cases hi : i < r.length
  · rw [getD_in r i hi]; exact h.lt _ (List.getElem_mem hi)
  · rw [getD_out r i (by omega)]; exact Nat.two_pow_pos _
theorem unV_g {k : Nat} {a b : List Nat} (h : RlG k a) (h' : RlG k b) : RlG k (unV a b) := ⟨by rw [unV_len]; exact h.len, fun v hv => by
  unfold unV at hv
  obtain ⟨x, _, rfl⟩ := List.mem_map.1 hv
  exact Nat.or_lt_two_pow (h.getD x) (h'.getD x)⟩
theorem idV_g (k : Nat) : RlG k (idV k) := ⟨idV_len k, fun v hv => by
  unfold idV at hv
  obtain ⟨x, hx, rfl⟩ := List.mem_map.1 hv
  exact Nat.pow_lt_pow_right (by decide) (List.mem_range.1 hx)⟩

theorem apS_bit (r : List Nat) (s n j : Nat) : (apS r s n).testBit j = true ↔ ∃ d, d < n ∧ s.testBit d = true ∧ (r.getD d 0).testBit j = true := by
  induction n with
  | zero => simp [apS]
  | succ n ih =>
    unfold apS
    constructor
    · intro h
      by_cases hs : s.testBit n = true
      · rw [if_pos hs, Nat.testBit_or, Bool.or_eq_true] at h
        rcases h with h | h
        · obtain ⟨d, h1, h2⟩ := ih.1 h
          exact ⟨d, by omega, h2⟩
        · exact ⟨n, by omega, hs, h⟩
      · rw [if_neg hs] at h
        obtain ⟨d, h1, h2⟩ := ih.1 h
        exact ⟨d, by omega, h2⟩
    · rintro ⟨d, h1, h2, h3⟩
      by_cases hd : d = n
      · subst hd
        rw [if_pos h2, Nat.testBit_or, h3, Bool.or_true]
      · have := ih.2 ⟨d, by omega, h2, h3⟩
        split
        · rw [Nat.testBit_or, this, Bool.true_or]
        · exact this
theorem apV_bit (r : List Nat) (s j : Nat) : (apV r s).testBit j = true ↔ ∃ d, d < 9 ∧ s.testBit d = true ∧ (r.getD d 0).testBit j = true := apS_bit r s 9 j
theorem eq_of_bits {a b : Nat} (h : ∀ j, a.testBit j = true ↔ b.testBit j = true) : a = b :=
  Nat.eq_of_testBit_eq fun j => Bool.eq_iff_iff.2 (h j)
theorem cmV_get (a b : List Nat) (d : Nat) : (cmV a b).getD d 0 = apV b (a.getD d 0) := by
  by_cases hd : d < a.length
  · rw [getD_in _ _ (by rw [cmV_len]; exact hd), getD_in _ _ hd]; simp [cmV]
  · rw [getD_out _ _ (by rw [cmV_len]; omega), getD_out _ _ (by omega)]
    refine eq_of_bits fun j => ?_
    rw [apV_bit]; simp
theorem unV_get {a b : List Nat} (h : a.length = b.length) (d : Nat) : (unV a b).getD d 0 = a.getD d 0 ||| b.getD d 0 := by
  by_cases hd : d < a.length
  · rw [getD_in _ _ (by rw [unV_len]; exact hd)]; simp [unV]
  · rw [getD_out _ _ (by rw [unV_len]; omega), getD_out _ _ (by omega), getD_out _ _ (by omega)]; rfl
theorem idV_get (k d : Nat) : (idV k).getD d 0 = if d ≤ k then 2 ^ d else 0 := by
  by_cases hd : d ≤ k
  · rw [getD_in _ _ (by rw [idV_len]; omega), if_pos hd]; simp [idV]
  · rw [getD_out _ _ (by rw [idV_len]; omega), if_neg hd]
theorem rel_ext {a b : List Nat} (h : a.length = b.length) (hg : ∀ d, a.getD d 0 = b.getD d 0) : a = b :=
  List.ext_getElem h fun i h1 h2 => by have := hg i; rwa [getD_in _ _ h1, getD_in _ _ h2] at this

theorem ap_ap (x y : List Nat) (s : Nat) : apV (cmV x y) s = apV y (apV x s) := by
  refine eq_of_bits fun j => ?_
  rw [apV_bit, apV_bit]
  constructor
  · rintro ⟨d, h1, h2, h3⟩
    rw [cmV_get, apV_bit] at h3
    obtain ⟨e, g1, g2, g3⟩ := h3
    exact ⟨e, g1, (apV_bit _ _ _).2 ⟨d, h1, h2, g2⟩, g3⟩
  · rintro ⟨e, g1, g2, g3⟩
    obtain ⟨d, h1, h2, h3⟩ := (apV_bit _ _ _).1 g2
    exact ⟨d, h1, h2, by rw [cmV_get, apV_bit]; exact ⟨e, g1, h3, g3⟩⟩
theorem cm_assoc (x y z : List Nat) : cmV (cmV x y) z = cmV x (cmV y z) :=
  rel_ext (by simp only [cmV_len]) fun d => by rw [cmV_get, cmV_get, cmV_get, ap_ap y z _]
theorem pow_bit (d j : Nat) : (2 ^ d).testBit j = true ↔ d = j := by rw [Nat.testBit_two_pow]; simp
theorem cm_id {k : Nat} {x : List Nat} (h : RlG k x) (hk : k ≤ 8) : cmV x (idV k) = x :=
  rel_ext (cmV_len _ _) fun d => by
    rw [cmV_get]
    refine eq_of_bits fun j => ?_
    rw [apV_bit]
    constructor
    · rintro ⟨e, h1, h2, h3⟩
      rw [idV_get] at h3
      split at h3
      · rw [pow_bit] at h3; subst h3; exact h2
      · simp at h3
    · intro hj
      have hjk : j ≤ k := by
        refine Nat.le_of_lt_succ (Nat.lt_of_not_le fun hle => ?_)
        rw [Nat.testBit_lt_two_pow (Nat.lt_of_lt_of_le (h.getD d) (Nat.pow_le_pow_right (by decide) hle))] at hj
        cases hj
      exact ⟨j, by omega, hj, by rw [idV_get, if_pos hjk, pow_bit]⟩
theorem id_cm {k : Nat} {x : List Nat} (h : RlG k x) (hk : k ≤ 8) : cmV (idV k) x = x :=
  rel_ext (by rw [cmV_len, idV_len, h.len]) fun d => by
    rw [cmV_get, idV_get]
    by_cases hd : d ≤ k
    · rw [if_pos hd]
      refine eq_of_bits fun j => ?_
      rw [apV_bit]
      constructor
      · rintro ⟨e, h1, h2, h3⟩
        rw [pow_bit] at h2; subst h2; exact h3
      · intro hj
        exact ⟨d, by omega, (pow_bit d d).2 rfl, hj⟩
    · rw [if_neg hd, getD_out x d (by rw [h.len]; omega)]
      refine eq_of_bits fun j => ?_
      rw [apV_bit]; simp
theorem ap_or (x : List Nat) (s t : Nat) : apV x (s ||| t) = apV x s ||| apV x t := by
  refine eq_of_bits fun j => ?_
  rw [Nat.testBit_or, Bool.or_eq_true, apV_bit, apV_bit, apV_bit]
  constructor
  · rintro ⟨d, h1, h2, h3⟩
    rw [Nat.testBit_or, Bool.or_eq_true] at h2
    rcases h2 with h2 | h2
    · exact .inl ⟨d, h1, h2, h3⟩
    · exact .inr ⟨d, h1, h2, h3⟩
  · rintro (⟨d, h1, h2, h3⟩ | ⟨d, h1, h2, h3⟩)
    · exact ⟨d, h1, by rw [Nat.testBit_or, h2, Bool.true_or], h3⟩
    · exact ⟨d, h1, by rw [Nat.testBit_or, h2, Bool.or_true], h3⟩
theorem un_ap {x y : List Nat} (h : x.length = y.length) (s : Nat) : apV (unV x y) s = apV x s ||| apV y s := by
  refine eq_of_bits fun j => ?_
  rw [Nat.testBit_or, Bool.or_eq_true, apV_bit, apV_bit, apV_bit]
  constructor
  · rintro ⟨d, h1, h2, h3⟩
    rw [unV_get h, Nat.testBit_or, Bool.or_eq_true] at h3
    rcases h3 with h3 | h3
    · exact .inl ⟨d, h1, h2, h3⟩
    · exact .inr ⟨d, h1, h2, h3⟩
  · rintro (⟨d, h1, h2, h3⟩ | ⟨d, h1, h2, h3⟩)
    · exact ⟨d, h1, h2, by rw [unV_get h, Nat.testBit_or, h3, Bool.true_or]⟩
    · exact ⟨d, h1, h2, by rw [unV_get h, Nat.testBit_or, h3, Bool.or_true]⟩
theorem un_cm {x y : List Nat} (z : List Nat) (h : x.length = y.length) : cmV (unV x y) z = unV (cmV x z) (cmV y z) :=
  rel_ext (by simp only [cmV_len, unV_len]) fun d => by
    rw [unV_get (by simp only [cmV_len]; exact h), cmV_get, cmV_get, cmV_get, unV_get h, ap_or]
theorem cm_un {x y : List Nat} (z : List Nat) (h : x.length = y.length) : cmV z (unV x y) = unV (cmV z x) (cmV z y) :=
  rel_ext (by simp only [cmV_len, unV_len]) fun d => by
    rw [unV_get (by simp only [cmV_len]), cmV_get, cmV_get, cmV_get, un_ap h]

/-- a set is contained in another one -/
theorem and_sub (a b : Nat) : a &&& b = a ↔ ∀ j, a.testBit j = true → b.testBit j = true := by
  constructor
  · intro h j hj
    rw [← h, Nat.testBit_and, Bool.and_eq_true] at hj
    exact hj.2
  · intro h
    refine eq_of_bits fun j => ?_
    rw [Nat.testBit_and, Bool.and_eq_true]
    exact ⟨fun h' => h'.1, fun h' => ⟨h', h j h'⟩⟩
theorem wiT_iff (a b : List Nat) (n : Nat) : wiT a b n = true ↔ ∀ d, d < n → ∀ j, (a.getD d 0).testBit j = true → (b.getD d 0).testBit j = true := by
  unfold wiT
  rw [List.all_eq_true]
  constructor
  · intro h d hd
    have := h d (List.mem_range.2 hd)
    rw [beq_iff_eq, and_sub] at this
    exact this
  · intro h d hd
    rw [beq_iff_eq, and_sub]
    exact h d (List.mem_range.1 hd)
theorem wiV_iff (a b : List Nat) : wiV a b = true ↔ ∀ d j, (a.getD d 0).testBit j = true → (b.getD d 0).testBit j = true := by
  unfold wiV
  rw [wiT_iff]
  constructor
  · intro h d j hj
    by_cases hd : d < a.length
    · exact h d hd j hj
    · rw [getD_out a d (by omega)] at hj; simp at hj
  · intro h d _ j hj
    exact h d j hj
theorem wi_un {x y : List Nat} (h : x.length = y.length) : wiV x (unV x y) = true := by
  rw [wiV_iff]
  intro d j hj
  rw [unV_get h, Nat.testBit_or, hj, Bool.true_or]
theorem wi_cm_l {x y : List Nat} (z : List Nat) (h : wiV x y = true) : wiV (cmV x z) (cmV y z) = true := by
  rw [wiV_iff] at h ⊢
  intro d j hj
  rw [cmV_get, apV_bit] at hj ⊢
  obtain ⟨e, h1, h2, h3⟩ := hj
  exact ⟨e, h1, h d e h2, h3⟩
theorem wi_cm_r {x y : List Nat} (z : List Nat) (h : wiV x y = true) : wiV (cmV z x) (cmV z y) = true := by
  rw [wiV_iff] at h ⊢
  intro d j hj
  rw [cmV_get, apV_bit] at hj ⊢
  obtain ⟨e, h1, h2, h3⟩ := hj
  exact ⟨e, h1, h2, h e j h3⟩
theorem wi_lub {x y : List Nat} (z : List Nat) (h : x.length = y.length) : (wiV x z && wiV y z) = wiV (unV x y) z := by
  rw [Bool.eq_iff_iff, Bool.and_eq_true, wiV_iff, wiV_iff, wiV_iff]
  constructor
  · rintro ⟨h1, h2⟩ d j hj
    rw [unV_get h, Nat.testBit_or, Bool.or_eq_true] at hj
    rcases hj with hj | hj
    · exact h1 d j hj
    · exact h2 d j hj
  · intro g
    refine ⟨fun d j hj => g d j ?_, fun d j hj => g d j ?_⟩
    · rw [unV_get h, Nat.testBit_or, hj, Bool.true_or]
    · rw [unV_get h, Nat.testBit_or, hj, Bool.or_true]
theorem wi_anti {x y : List Nat} (h : x.length = y.length) (h1 : wiV x y = true) (h2 : wiV y x = true) : x = y :=
  rel_ext h fun d => by
    rw [wiV_iff] at h1 h2
    exact eq_of_bits fun j => ⟨h1 d j, h2 d j⟩
end Go.Proofs.Ytdajomkhjaccbaa
