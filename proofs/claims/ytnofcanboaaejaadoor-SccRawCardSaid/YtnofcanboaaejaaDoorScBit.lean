/- Sets of nodes as numbers of 64 bits, and the way to what a node reaches: plain facts. No statement of the program is proved in this file. -/
import Derived.Test.YtnofcanboaaejaaDoorScSpec
import Derived.Laws.BitsAllLaws
import Derived.Lib.TrailingZeros
namespace Go.Proofs.YtnofcanboaaejaaDoor
namespace Sc

/-- the number with the bits of p below k -/
def nbk (p : Nat → Bool) : Nat → Nat
  | 0 => 0
  | k + 1 => nbk p k ||| (if p k then 2 ^ k else 0)
theorem nbk_lt (p : Nat → Bool) (k : Nat) : nbk p k < 2 ^ k := by
  induction k with
  | zero => exact Nat.one_pos
  | succ k ih =>
    have h : 2 ^ k < 2 ^ (k + 1) := by rw [Nat.pow_succ]; have := Nat.two_pow_pos k; omega
    refine Nat.or_lt_two_pow (Nat.lt_trans ih h) ?_
    by_cases e : p k = true
    · rw [if_pos e]; exact h
    · rw [if_neg e]; exact Nat.two_pow_pos _
theorem nbk_bit (p : Nat → Bool) (k j : Nat) : (nbk p k).testBit j = (decide (j < k) && p j) := by
  induction k with
  | zero => simp [nbk]
  | succ k ih =>
    unfold nbk
    rw [Nat.testBit_or, ih]
    by_cases e : j = k
    · subst e
      by_cases e2 : p j = true
      · rw [if_pos e2, e2, Nat.testBit_two_pow]; simp
      · rw [if_neg e2]; simp [e2]
    · have e3 : decide (j < k + 1) = decide (j < k) := by rw [decide_eq_decide]; omega
      rw [e3]
      by_cases e2 : p k = true
      · rw [if_pos e2, Nat.testBit_two_pow, decide_eq_false (show ¬ k = j from fun h => e h.symm), Bool.or_false]
      · rw [if_neg e2, Nat.zero_testBit, Bool.or_false]
def nb (p : Nat → Bool) : Nat := nbk p 64
theorem nb_lt (p : Nat → Bool) : nb p < 18446744073709551616 := nbk_lt p 64
theorem nb_bit (p : Nat → Bool) (j : Nat) : (nb p).testBit j = (decide (j < 64) && p j) := nbk_bit p 64 j
theorem bit_64 {s j : Nat} (hs : s < 18446744073709551616) (h : s.testBit j = true) : j < 64 := by
  rcases Nat.lt_or_ge j 64 with h1 | h1
  · exact h1
  · rw [Nat.testBit_lt_two_pow (Nat.lt_of_lt_of_le hs (Nat.pow_le_pow_right (n := 2) (by decide) h1))] at h
    cases h
theorem nb_ext {s : Nat} {p : Nat → Bool} (hs : s < 18446744073709551616) (h : ∀ j, j < 64 → s.testBit j = p j) : s = nb p := by
  refine Nat.eq_of_testBit_eq fun j => ?_
  rw [nb_bit]
  by_cases hj : j < 64
  · rw [h j hj, decide_eq_true hj, Bool.true_and]
  · rw [decide_eq_false hj, Bool.false_and]
    cases e : s.testBit j with
    | false => rfl
    | true => exact absurd (bit_64 hs e) hj
theorem pow_64 {d : Nat} (hd : d < 64) : 2 ^ d < 18446744073709551616 := Nat.pow_lt_pow_right (a := 2) (by decide) hd
theorem or_64 {s t : Nat} (hs : s < 18446744073709551616) (ht : t < 18446744073709551616) : s ||| t < 18446744073709551616 := Nat.or_lt_two_pow (n := 64) hs ht
theorem nb_zero : nb (fun _ => false) = 0 := (nb_ext (by decide) fun j _ => Nat.zero_testBit j).symm
theorem nb_only {d : Nat} (hd : d < 64) : nb (fun j => decide (d = j)) = 2 ^ d := (nb_ext (pow_64 hd) fun _ _ => Nat.testBit_two_pow).symm
theorem nb_put (p : Nat → Bool) {d : Nat} (hd : d < 64) : nb p ||| 2 ^ d = nb (fun j => p j || decide (d = j)) :=
  nb_ext (or_64 (nb_lt p) (pow_64 hd)) fun j hj => by rw [Nat.testBit_or, nb_bit, Nat.testBit_two_pow, decide_eq_true hj, Bool.true_and]
theorem and_bit (s d : Nat) : (s &&& 2 ^ d ≠ 0) ↔ s.testBit d = true := by
  constructor
  · intro h
    cases hs : s.testBit d with
    | true => rfl
    | false =>
      refine absurd (Nat.eq_of_testBit_eq fun j => ?_) h
      rw [Nat.testBit_and, Nat.testBit_two_pow, Nat.zero_testBit]
      by_cases hj : d = j
      · subst hj; rw [hs]; rfl
      · rw [decide_eq_false hj, Bool.and_false]
  · intro h h0
    have : (s &&& 2 ^ d).testBit d = true := by rw [Nat.testBit_and, h, Nat.testBit_two_pow]; simp
    rw [h0] at this
    simp at this
/-- s without t -/
def dif (s t : Nat) : Nat := s &&& (18446744073709551615 - t)
theorem dif_lt {s : Nat} (t : Nat) (hs : s < 18446744073709551616) : dif s t < 18446744073709551616 := Nat.lt_of_le_of_lt Nat.and_le_left hs
theorem dif_bit {s t : Nat} (hs : s < 18446744073709551616) (ht : t < 18446744073709551616) (j : Nat) : (dif s t).testBit j = (s.testBit j && !t.testBit j) := by
  have e : (18446744073709551615 - t).testBit j = (decide (j < 64) && !t.testBit j) := by
    have h := Nat.testBit_two_pow_sub_succ (n := 64) ht j
    rw [show (2 : Nat) ^ 64 - (t + 1) = 18446744073709551615 - t by omega] at h
    exact h
  unfold dif
  rw [Nat.testBit_and, e]
  cases h : s.testBit j with
  | false => rfl
  | true => rw [decide_eq_true (bit_64 hs h)]; rfl
/-- the least node of a set -/
theorem ctz_spec {s : Nat} (h0 : s ≠ 0) (hs : s < 18446744073709551616) : Lib.ctz 64 s < 64 ∧ s.testBit (Lib.ctz 64 s) = true ∧ ∀ j, j < Lib.ctz 64 s → s.testBit j = false := by
  obtain ⟨m, hm, hk⟩ := Lib.ctzFrom_spec 64 s (by omega) hs
  have e : Lib.ctz 64 s = Lib.ctzFrom 64 s := if_neg h0
  rw [e]
  have hb : ∀ j, s.testBit j = (decide (Lib.ctzFrom 64 s ≤ j) && (2 * m + 1).testBit (j - Lib.ctzFrom 64 s)) := fun j => by
    have h1 := congrArg (fun x => x.testBit j) hm
    rw [Nat.testBit_two_pow_mul] at h1
    exact h1
  generalize Lib.ctzFrom 64 s = c at *
  refine ⟨hk, ?_, fun j hj => ?_⟩
  · rw [hb, Nat.sub_self, Nat.testBit_zero]
    simp
  · rw [hb, decide_eq_false (by omega), Bool.false_and]
theorem ctz_eq {s k : Nat} (hs : s < 18446744073709551616) (hk : s.testBit k = true) : Lib.ctz 64 s = k ↔ ∀ j, j < k → s.testBit j = false := by
  have h0 : s ≠ 0 := fun e => by rw [e, Nat.zero_testBit] at hk; cases hk
  obtain ⟨_, h2, h3⟩ := ctz_spec h0 hs
  constructor
  · intro e j hj
    exact h3 j (by omega)
  · intro h
    rcases Nat.lt_trichotomy (Lib.ctz 64 s) k with h4 | h4 | h4
    · rw [h _ h4] at h2; cases h2
    · exact h4
    · rw [h3 _ h4] at hk; cases hk
/-- the nodes of a set in ascending order -/
def bl (s : Nat) : List Nat := (List.range 64).filter s.testBit
theorem range_at {i n : Nat} (h : i < n) : List.range n = List.range i ++ i :: List.range' (i + 1) (n - (i + 1)) := by
  have e : n = i + (1 + (n - (i + 1))) := by omega
  rw [List.range_eq_range', List.range_eq_range']
  conv => lhs; rw [e]
  rw [← List.range'_append, ← List.range'_append]
  simp
theorem bl_lt {s x : Nat} (h : x ∈ bl s) : x < 64 := List.mem_range.1 (List.mem_filter.1 h).1
theorem bl_len (s : Nat) : (bl s).length ≤ 64 := by
  have := List.length_filter_le s.testBit (List.range 64)
  simpa [bl] using this
theorem bl_zero : bl 0 = [] := List.filter_eq_nil_iff.2 fun j _ => by rw [Nat.zero_testBit]; exact Bool.false_ne_true
theorem bl_step {s : Nat} (h0 : s ≠ 0) (hs : s < 18446744073709551616) : bl s = Lib.ctz 64 s :: bl (dif s (2 ^ Lib.ctz 64 s)) := by
  obtain ⟨h1, h2, h3⟩ := ctz_spec h0 hs
  have hd : ∀ j, (dif s (2 ^ Lib.ctz 64 s)).testBit j = (s.testBit j && !decide (Lib.ctz 64 s = j)) := fun j => by rw [dif_bit hs (pow_64 h1), Nat.testBit_two_pow]
  generalize Lib.ctz 64 s = c at *
  unfold bl
  rw [range_at h1, List.filter_append, List.filter_append]
  have e1 : (List.range c).filter s.testBit = [] := List.filter_eq_nil_iff.2 fun j hj => by rw [h3 j (List.mem_range.1 hj)]; exact Bool.false_ne_true
  have e2 : (List.range c).filter (dif s (2 ^ c)).testBit = [] := List.filter_eq_nil_iff.2 fun j hj => by rw [hd, h3 j (List.mem_range.1 hj), Bool.false_and]; exact Bool.false_ne_true
  rw [e1, e2, List.nil_append, List.nil_append, List.filter_cons_of_pos h2, List.filter_cons_of_neg (by rw [hd]; simp)]
  congr 1
  refine List.filter_congr fun j hj => ?_
  have := (List.mem_range'_1.1 hj).1
  rw [hd, decide_eq_false (by omega), Bool.not_false, Bool.and_true]

/-- the edges, as reckoned -/
theorem edM_ed {n : Nat} {P : List (List Int)} {a b : Nat} : edM n P P.length a b = true ↔ Ed n P a b := by
  unfold edM Ed
  rw [List.take_of_length_le (Nat.le_refl _)]
  simp only [Bool.and_eq_true, decide_eq_true_eq, and_assoc]
/-- what reached knows at its label: found, followed, node -/
structure Rd (n : Nat) (P : List (List Int)) (fr fo fl nd : Nat) : Prop where
  o64 : fo < 18446744073709551616
  l64 : fl < 18446744073709551616
  sound : ∀ b, fo.testBit b = true → Rc (Ed n P) fr b
  sub : ∀ b, fl.testBit b = true → fo.testBit b = true
  shut : ∀ x, x ≠ nd → fl.testBit x = true ∨ x = fr → ∀ b, Ed n P x b → fo.testBit b = true
  at_ : nd = fr ∨ fl.testBit nd = true
theorem Rd.start (n : Nat) (P : List (List Int)) (fr : Nat) : Rd n P fr 0 0 fr :=
  ⟨by decide, by decide, fun b h => (by rw [Nat.zero_testBit] at h; cases h), fun b h => (by rw [Nat.zero_testBit] at h; cases h),
    fun x hx h => (by
      rcases h with h | h
      · rw [Nat.zero_testBit] at h; cases h
      · exact absurd h hx), .inl rfl⟩
/-- behind found |= g[node] -/
structure Rf (n : Nat) (P : List (List Int)) (fr fo fl : Nat) : Prop where
  o64 : fo < 18446744073709551616
  l64 : fl < 18446744073709551616
  sound : ∀ b, fo.testBit b = true → Rc (Ed n P) fr b
  sub : ∀ b, fl.testBit b = true → fo.testBit b = true
  shut : ∀ x, fl.testBit x = true ∨ x = fr → ∀ b, Ed n P x b → fo.testBit b = true
theorem Rd.found {n fr fo fl nd : Nat} {P : List (List Int)} (h : Rd n P fr fo fl nd) (hn : n ≤ 64) : Rf n P fr (fo ||| nb (edM n P P.length nd)) fl := by
  have hb : ∀ b, (fo ||| nb (edM n P P.length nd)).testBit b = true ↔ fo.testBit b = true ∨ Ed n P nd b := fun b => by
    rw [Nat.testBit_or, Bool.or_eq_true, nb_bit, Bool.and_eq_true, edM_ed, decide_eq_true_eq]
    exact ⟨fun h => h.imp id (·.2), fun h => h.imp id fun e => ⟨Nat.lt_of_lt_of_le e.2.1 hn, e⟩⟩
  refine ⟨or_64 h.o64 (nb_lt _), h.l64, fun b hf => ?_, fun b hf => (hb b).2 (.inl (h.sub b hf)), fun x hx b he => ?_⟩
  · rcases (hb b).1 hf with h1 | h1
    · exact h.sound b h1
    · rcases h.at_ with h2 | h2
      · exact .one (h2 ▸ h1)
      · exact .step (h.sound _ (h.sub _ h2)) h1
  · by_cases e : x = nd
    · exact (hb b).2 (.inr (e ▸ he))
    · exact (hb b).2 (.inl (h.shut x e hx b he))
theorem Rf.done {n fr fo fl : Nat} {P : List (List Int)} (h : Rf n P fr fo fl) (h0 : dif fo fl = 0) : fo = nb (rch n P fr) := by
  have hs : ∀ b, fo.testBit b = true → fl.testBit b = true := fun b hb => by
    have h1 := dif_bit h.o64 h.l64 b
    rw [h0, Nat.zero_testBit, hb, Bool.true_and] at h1
    cases e : fl.testBit b with
    | true => rfl
    | false => rw [e] at h1; cases h1
  have hall : ∀ j, Rc (Ed n P) fr j → fo.testBit j = true := fun j hr => by
    induction hr with
    | one e => exact h.shut _ (.inr rfl) _ e
    | step _ e ih => exact h.shut _ (.inl (hs _ ih)) _ e
  refine nb_ext h.o64 fun j _ => ?_
  rw [Bool.eq_iff_iff, rch_iff]
  exact ⟨h.sound j, hall j⟩
theorem Rf.next {n fr fo fl : Nat} {P : List (List Int)} (h : Rf n P fr fo fl) (h0 : dif fo fl ≠ 0) :
    Lib.ctz 64 (dif fo fl) < 64 ∧ Lib.ctz 64 (dif fo fl) < n ∧ Rd n P fr fo (fl ||| 2 ^ Lib.ctz 64 (dif fo fl)) (Lib.ctz 64 (dif fo fl)) ∧ fl < fl ||| 2 ^ Lib.ctz 64 (dif fo fl) := by
  obtain ⟨h1, h2, _⟩ := ctz_spec h0 (dif_lt _ h.o64)
  generalize Lib.ctz 64 (dif fo fl) = c at *
  rw [dif_bit h.o64 h.l64, Bool.and_eq_true] at h2
  obtain ⟨h2, h3⟩ := h2
  have h3' : fl.testBit c = false := by cases e : fl.testBit c with
    | false => rfl
    | true => rw [e] at h3; cases h3
  have hb : ∀ b, (fl ||| 2 ^ c).testBit b = true ↔ fl.testBit b = true ∨ c = b := fun b => by rw [Nat.testBit_or, Bool.or_eq_true, Nat.testBit_two_pow, decide_eq_true_eq]
  refine ⟨h1, (h.sound c h2).lt.2, ⟨h.o64, or_64 h.l64 (pow_64 h1), h.sound, fun b hf => ?_, fun x hx hf b he => ?_, .inr ((hb c).2 (.inr rfl))⟩, ?_⟩
  · rcases (hb b).1 hf with e | e
    · exact h.sub b e
    · exact e ▸ h2
  · refine h.shut x ?_ b he
    rcases hf with hf | hf
    · rcases (hb x).1 hf with e | e
      · exact .inl e
      · exact absurd e.symm hx
    · exact .inr hf
  · refine Nat.lt_of_le_of_ne Nat.left_le_or fun e => ?_
    have := (hb c).2 (.inr rfl)
    rw [← e, h3'] at this
    cases this

/-- the component of i as a set -/
def cpV (R : Nat → Nat → Bool) (i : Nat) : Nat := nb fun j => decide (i = j) || eqv R i j
theorem cpV_bit (R : Nat → Nat → Bool) (i j : Nat) : (cpV R i).testBit j = (decide (j < 64) && (decide (i = j) || eqv R i j)) := nb_bit _ _
/-- as far as the first k nodes that i reaches go -/
def cpk (R : Nat → Nat → Bool) (i k : Nat) : Nat := nb fun j => decide (i = j) || (((bl (nb (R i))).take k).contains j && R j i)
theorem cpk_zero (R : Nat → Nat → Bool) {i : Nat} (hi : i < 64) : cpk R i 0 = 2 ^ i := by
  rw [← nb_only hi]
  unfold cpk
  congr 1
  funext j
  simp
theorem cpk_skip {R : Nat → Nat → Bool} {i k : Nat} (hk : k < (bl (nb (R i))).length) (h : R (bl (nb (R i)))[k] i = false) : cpk R i (k + 1) = cpk R i k := by
  unfold cpk
  congr 1
  funext j
  rw [List.take_succ_eq_append_getElem hk]
  generalize (bl (nb (R i)))[k] = x at *
  by_cases e : j = x
  · subst e; rw [h, Bool.and_false, Bool.and_false]
  · simp [e]
theorem cpk_take {R : Nat → Nat → Bool} {i k : Nat} (hk : k < (bl (nb (R i))).length) (h : R (bl (nb (R i)))[k] i = true) : cpk R i (k + 1) = cpk R i k ||| 2 ^ (bl (nb (R i)))[k] := by
  have hx := bl_lt (List.getElem_mem hk)
  unfold cpk
  rw [nb_put _ hx]
  congr 1
  funext j
  rw [List.take_succ_eq_append_getElem hk]
  generalize (bl (nb (R i)))[k] = x at *
  by_cases e : j = x
  · subst e; simp [h]
  · have e2 : ¬ x = j := fun h => e h.symm
    simp [e, e2]
theorem cpk_end (R : Nat → Nat → Bool) (i : Nat) : cpk R i (bl (nb (R i))).length = cpV R i := by
  unfold cpk cpV
  refine nb_ext (nb_lt _) fun j hj => ?_
  rw [nb_bit, decide_eq_true hj, Bool.true_and, List.take_of_length_le (Nat.le_refl _)]
  congr 1
  unfold eqv
  congr 1
  rw [Bool.eq_iff_iff, List.contains_iff_mem]
  unfold bl
  rw [List.mem_filter, nb_bit, decide_eq_true hj, Bool.true_and, List.mem_range]
  exact ⟨(·.2), fun h => ⟨hj, h⟩⟩
theorem cpV_lead {n i : Nat} {R : Nat → Nat → Bool} (hn : n ≤ 64) (hi : i < n) : Lib.ctz 64 (cpV R i) = i ↔ lead R i = true := by
  rw [ctz_eq (s := cpV R i) (nb_lt _) (by show (cpV R i).testBit i = true; rw [cpV_bit, decide_eq_true (by omega)]; simp)]
  unfold lead
  rw [Bool.not_eq_true', List.any_eq_false]
  constructor
  · intro h j hj
    have hj := List.mem_range.1 hj
    have h1 := h j hj
    rw [cpV_bit, decide_eq_true (by omega), Bool.true_and, decide_eq_false (by omega), Bool.false_or] at h1
    intro h2
    rw [eqv_symm h2] at h1
    cases h1
  · intro h j hj
    rw [cpV_bit, decide_eq_true (by omega), Bool.true_and, decide_eq_false (by omega), Bool.false_or]
    cases e : eqv R i j with
    | false => rfl
    | true => exact absurd (eqv_symm e) (h j (List.mem_range.2 hj))
theorem cpV_cls {n i : Nat} {R : Nat → Nat → Bool} (hn : n ≤ 64) (hi : i < n) (hR : ∀ a b, R a b = true → b < n) (h : lead R i = true) : bl (cpV R i) = cls R i n := by
  have hc := (ctz_eq (s := cpV R i) (nb_lt _) (by show (cpV R i).testBit i = true; rw [cpV_bit, decide_eq_true (by omega)]; simp)).1 ((cpV_lead hn hi).2 h)
  unfold bl cls
  rw [range_at (show i < 64 by omega), List.filter_append]
  have e1 : (List.range i).filter (cpV R i).testBit = [] := List.filter_eq_nil_iff.2 fun j hj => by
    rw [show (cpV R i).testBit j = false from hc j (List.mem_range.1 hj)]; exact Bool.false_ne_true
  rw [e1, List.nil_append, List.filter_cons_of_pos (by rw [cpV_bit, decide_eq_true (by omega)]; simp)]
  congr 1
  have e2 : (List.range n).filter (fun j => decide (i < j) && eqv R i j) = (List.range 64).filter (fun j => decide (i < j) && eqv R i j) := by
    by_cases e : n = 64
    · rw [e]
    · rw [range_at (show n < 64 by omega), List.filter_append]
      have e3 : (n :: List.range' (n + 1) (64 - (n + 1))).filter (fun j => decide (i < j) && eqv R i j) = [] := List.filter_eq_nil_iff.2 fun j hj => by
        have hj2 : n ≤ j := by
          rcases List.mem_cons.1 hj with h | h
          · omega
          · have := (List.mem_range'_1.1 h).1; omega
        intro h2
        rw [Bool.and_eq_true] at h2
        have := hR _ _ (eqv_iff.1 h2.2).1
        omega
      rw [e3, List.append_nil]
  rw [e2, range_at (show i < 64 by omega), List.filter_append]
  have e4 : (List.range i).filter (fun j => decide (i < j) && eqv R i j) = [] := List.filter_eq_nil_iff.2 fun j hj => by
    have := List.mem_range.1 hj
    rw [decide_eq_false (by omega), Bool.false_and]; exact Bool.false_ne_true
  rw [e4, List.nil_append, List.filter_cons_of_neg (by simp)]
  refine List.filter_congr fun j hj => ?_
  have hj2 := List.mem_range'_1.1 hj
  rw [cpV_bit, decide_eq_true (by omega), decide_eq_false (by omega), decide_eq_true (by omega)]
  rfl
theorem cpV_ne {i : Nat} {R : Nat → Nat → Bool} (hi : i < 64) : cpV R i ≠ 0 := fun e => by
  have h := cpV_bit R i i
  rw [e, Nat.zero_testBit, decide_eq_true hi] at h
  simp at h
end Sc
end Go.Proofs.YtnofcanboaaejaaDoor
