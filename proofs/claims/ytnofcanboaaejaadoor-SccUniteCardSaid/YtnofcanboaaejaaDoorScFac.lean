/- The components divide the nodes: plain facts. No statement of the program is proved in this file. -/
import Derived.Test.YtnofcanboaaejaaDoorScCyc
namespace Go.Proofs.YtnofcanboaaejaaDoor
namespace Sc
theorem mem_cls {R : Nat → Nat → Bool} {a n v : Nat} (ha : a < n) : v ∈ cls R a n ↔ v < n ∧ (v = a ∨ a < v ∧ eqv R a v = true) := by
  unfold cls
  simp only [List.mem_cons, List.mem_filter, List.mem_range, Bool.and_eq_true, decide_eq_true_eq]
  constructor
  · rintro (rfl | ⟨h1, h2, h3⟩)
    · exact ⟨ha, .inl rfl⟩
    · exact ⟨h1, .inr ⟨h2, h3⟩⟩
  · rintro ⟨h1, rfl | ⟨h2, h3⟩⟩
    · exact .inl rfl
    · exact .inr ⟨h1, h2, h3⟩
theorem lead_iff {R : Nat → Nat → Bool} {i : Nat} : lead R i = true ↔ ∀ j, j < i → eqv R j i = false := by
  unfold lead
  rw [Bool.not_eq_true', Bool.eq_false_iff]
  constructor
  · intro h j hj
    rw [Bool.eq_false_iff]
    intro e
    exact h (List.any_eq_true.2 ⟨j, List.mem_range.2 hj, e⟩)
  · intro h e
    obtain ⟨j, hj, e⟩ := List.any_eq_true.1 e
    rw [h j (List.mem_range.1 hj)] at e
    cases e
theorem lead_ex {R : Nat → Nat → Bool} (hR : Eqv R) : ∀ v, ∃ a, a ≤ v ∧ lead R a = true ∧ (v = a ∨ a < v ∧ eqv R a v = true) := by
  intro v
  induction v using Nat.strongRecOn with
  | ind v ih =>
    cases hl : lead R v with
    | true => exact ⟨v, Nat.le_refl _, hl, .inl rfl⟩
    | false =>
      have : ¬ lead R v = true := by rw [hl]; decide
      rw [lead_iff] at this
      have hex : ∃ j, j < v ∧ eqv R j v = true := Classical.byContradiction fun hc => this fun j hj => by
        rw [Bool.eq_false_iff]
        intro e
        exact hc ⟨j, hj, e⟩
      obtain ⟨j, hj, hv⟩ := hex
      obtain ⟨a, ha, hla, h⟩ := ih j hj
      refine ⟨a, by omega, hla, .inr ⟨by omega, ?_⟩⟩
      rcases h with rfl | ⟨_, h⟩
      · exact hv
      · exact hR.eqv h hv
theorem lead_one {R : Nat → Nat → Bool} (hR : Eqv R) {a b u v : Nat} (hla : lead R a = true) (hlb : lead R b = true) (ha : u = a ∨ a < u ∧ eqv R a u = true) (hb : v = b ∨ b < v ∧ eqv R b v = true) (huv : u = v ∨ eqv R u v = true) : a = b := by
  have hab : a = b ∨ eqv R a b = true := by
    have h1 : a = u ∨ eqv R a u = true := by rcases ha with h | h; exact .inl h.symm; exact .inr h.2
    have h2 : v = b ∨ eqv R v b = true := by rcases hb with h | h; exact .inl h; exact .inr (eqv_symm h.2)
    have h3 : a = v ∨ eqv R a v = true := by
      rcases h1 with rfl | h1
      · exact huv
      · rcases huv with rfl | h
        · exact .inr h1
        · exact .inr (hR.eqv h1 h)
    rcases h3 with rfl | h3
    · exact h2
    · rcases h2 with rfl | h2
      · exact .inr h3
      · exact .inr (hR.eqv h3 h2)
  rcases hab with h | h
  · exact h
  · rcases Nat.lt_trichotomy a b with h1 | h1 | h1
    · rw [lead_iff.1 hlb a h1] at h; cases h
    · exact h1
    · exact absurd (eqv_symm h) (by rw [lead_iff.1 hla b h1]; decide)
/-- which component a node is in -/
theorem comp_idx {R : Nat → Nat → Bool} (hR : Eqv R) (n : Nat) : ∃ f : Nat → Nat, (∀ v, v < n → f v < (compV R n).length) ∧ (∀ v j (h : j < (compV R n).length), v ∈ (compV R n)[j] ↔ v < n ∧ j = f v) ∧ (∀ u v, u < n → v < n → (f u = f v ↔ u = v ∨ eqv R u v = true)) := by
  have hget : ∀ j (h : j < (compV R n).length), ∃ h' : j < ((List.range n).filter (lead R)).length, (compV R n)[j] = cls R ((List.range n).filter (lead R))[j] n := fun j h => by
    have h' : j < ((List.range n).filter (lead R)).length := by unfold compV cmp at h; simpa using h
    exact ⟨h', List.getElem_map _⟩
  have hnd : ((List.range n).filter (lead R)).Nodup := List.Nodup.sublist List.filter_sublist List.nodup_range
  have hlen : (compV R n).length = ((List.range n).filter (lead R)).length := by unfold compV cmp; simp
  generalize hl : (List.range n).filter (lead R) = l at *
  have hmem : ∀ a, a ∈ l ↔ a < n ∧ lead R a = true := fun a => by rw [← hl, List.mem_filter, List.mem_range]
  have hex : ∀ v, v < n → ∃ j, ∃ h : j < l.length, v = l[j] ∨ l[j] < v ∧ eqv R l[j] v = true := fun v hv => by
    obtain ⟨a, ha, hla, h⟩ := lead_ex hR v
    obtain ⟨j, hj, e⟩ := List.getElem_of_mem ((hmem a).2 ⟨by omega, hla⟩)
    exact ⟨j, hj, by rw [e]; exact h⟩
  have huni : ∀ u v j k (hj : j < l.length) (hk : k < l.length), (u = l[j] ∨ l[j] < u ∧ eqv R l[j] u = true) → (v = l[k] ∨ l[k] < v ∧ eqv R l[k] v = true) → (u = v ∨ eqv R u v = true) → j = k := fun u v j k hj hk h1 h2 h3 => by
    have h4 := (hmem l[j]).1 (List.getElem_mem hj)
    have h5 := (hmem l[k]).1 (List.getElem_mem hk)
    exact (List.getElem_inj hnd).1 (lead_one hR h4.2 h5.2 h1 h2 h3)
  obtain ⟨f, hf⟩ : ∃ f : Nat → Nat, ∀ v, v < n → ∃ h : f v < l.length, v = l[f v] ∨ l[f v] < v ∧ eqv R l[f v] v = true :=
    Classical.axiomOfChoice (r := fun v j => v < n → ∃ h : j < l.length, v = l[j] ∨ l[j] < v ∧ eqv R l[j] v = true) fun v => by
      by_cases hv : v < n
      · obtain ⟨j, hj⟩ := hex v hv
        exact ⟨j, fun _ => hj⟩
      · exact ⟨0, fun h => absurd h hv⟩
  refine ⟨f, fun v hv => ?_, fun v j h => ?_, fun u v hu hv => ?_⟩
  · rw [hlen]
    exact (hf v hv).1
  · obtain ⟨h', e⟩ := hget j h
    have hj := (hmem l[j]).1 (List.getElem_mem h')
    rw [e, mem_cls hj.1]
    constructor
    · rintro ⟨hv, hm⟩
      obtain ⟨h1, h2⟩ := hf v hv
      exact ⟨hv, huni v v j _ h' h1 hm h2 (.inl rfl)⟩
    · rintro ⟨hv, hm⟩
      obtain ⟨h1, h2⟩ := hf v hv
      refine ⟨hv, ?_⟩
      subst hm
      exact h2
  · obtain ⟨h1, h2⟩ := hf u hu
    obtain ⟨h3, h4⟩ := hf v hv
    constructor
    · intro e
      have h5 : l[f u] = l[f v] := by congr 1
      have h6 : u = l[f v] ∨ eqv R u l[f v] = true := by
        rw [← h5]
        rcases h2 with h | h
        · exact .inl h
        · exact .inr (eqv_symm h.2)
      rcases h4 with h4 | h4
      · rw [← h4] at h6; exact h6
      · rcases h6 with h6 | h6
        · exact .inr (by rw [h6]; exact h4.2)
        · exact .inr (hR.eqv h6 h4.2)
    · intro e
      exact huni u v _ _ h1 h3 h2 h4 e
theorem cntP_or (p q : Nat → Bool) (hpq : ∀ x, p x = true → q x = true → False) (l : List Nat) : l.countP (fun x => p x || q x) = l.countP p + l.countP q := by
  induction l with
  | nil => rfl
  | cons x r ih =>
    rw [List.countP_cons, List.countP_cons, List.countP_cons, ih]
    cases h1 : p x <;> cases h2 : q x
    · simp
    · simp; omega
    · simp; omega
    · exact absurd h2 fun h => hpq x h1 h
theorem cnt_one {n i : Nat} (h : i < n) : (List.range n).countP (fun x => decide (x = i)) = 1 := by
  induction n with
  | zero => omega
  | succ n ih =>
    rw [List.range_succ, List.countP_append]
    by_cases e : i = n
    · subst e
      have h0 : (List.range i).countP (fun x => decide (x = i)) = 0 := by
        rw [List.countP_eq_zero]
        intro x hx
        have := List.mem_range.1 hx
        simp
        omega
      rw [h0]
      simp
    · rw [ih (by omega)]
      simp
      omega
/-- how many nodes the components have -/
theorem comp_total {R : Nat → Nat → Bool} (hR : Eqv R) (n : Nat) : ((compV R n).map List.length).sum = n := by
  suffices H : ∀ i, i ≤ n → ((cmp R n i).map List.length).sum = (List.range n).countP (fun v => (List.range i).any fun a => lead R a && (decide (v = a) || decide (a < v) && eqv R a v)) by
    have h := H n (Nat.le_refl _)
    unfold compV
    rw [h]
    have : (List.range n).countP (fun v => (List.range n).any fun a => lead R a && (decide (v = a) || decide (a < v) && eqv R a v)) = (List.range n).length := by
      rw [List.countP_eq_length]
      intro v hv
      obtain ⟨a, ha, hla, h⟩ := lead_ex hR v
      refine List.any_eq_true.2 ⟨a, List.mem_range.2 (by have := List.mem_range.1 hv; omega), ?_⟩
      rw [hla, Bool.true_and]
      rcases h with rfl | ⟨h1, h2⟩
      · simp
      · simp [h1, h2]
    rw [this, List.length_range]
  intro i
  induction i with
  | zero =>
    intro _
    symm
    rw [show ((cmp R n 0).map List.length).sum = 0 from rfl, List.countP_eq_zero]
    intro v _
    simp
  | succ i ih =>
    intro hi
    have ih := ih (by omega)
    cases hl : lead R i with
    | false =>
      rw [cmp_skip hl, ih]
      congr 1
      funext v
      rw [List.range_succ, List.any_append]
      simp [hl]
    | true =>
      rw [cmp_take hl, List.map_append, List.sum_append, ih]
      have e : (fun v => (List.range (i + 1)).any fun a => lead R a && (decide (v = a) || decide (a < v) && eqv R a v)) = fun v => ((List.range i).any fun a => lead R a && (decide (v = a) || decide (a < v) && eqv R a v)) || (decide (v = i) || decide (i < v) && eqv R i v) := by
        funext v
        rw [List.range_succ, List.any_append]
        simp [hl]
      rw [e, cntP_or]
      · congr 1
        rw [cntP_or]
        · rw [cnt_one (by omega)]
          unfold cls
          simp only [List.map_cons, List.map_nil, List.sum_cons, List.sum_nil, List.length_cons]
          rw [← List.countP_eq_length_filter]
          omega
        · intro x h1 h2
          simp at h1 h2
          omega
      · intro v h1 h2
        obtain ⟨a, ha, h⟩ := List.any_eq_true.1 h1
        have ha := List.mem_range.1 ha
        simp only [Bool.and_eq_true, Bool.or_eq_true, decide_eq_true_eq] at h h2
        have := lead_one hR h.1 hl h.2 h2 (.inl rfl)
        omega
/-- a further pair can only unite components -/
theorem comp_fewer {R S : Nat → Nat → Bool} (h : ∀ a b, R a b = true → S a b = true) (n : Nat) : (compV S n).length ≤ (compV R n).length := by
  unfold compV cmp
  rw [List.length_map, List.length_map, ← List.countP_eq_length_filter, ← List.countP_eq_length_filter]
  refine List.countP_mono_left fun i _ hi => ?_
  rw [lead_iff] at hi ⊢
  intro j hj
  have := hi j hj
  rw [Bool.eq_false_iff] at this ⊢
  exact fun e => this (eqv_iff.2 ⟨h _ _ (eqv_iff.1 e).1, h _ _ (eqv_iff.1 e).2⟩)
theorem comp_pos (R : Nat → Nat → Bool) {n : Nat} (h : 0 < n) : 0 < (compV R n).length := by
  unfold compV cmp
  rw [List.length_map]
  refine List.length_pos_of_mem (a := 0) (List.mem_filter.2 ⟨List.mem_range.2 h, ?_⟩)
  exact lead_iff.2 fun j hj => by omega
end Sc
end Go.Proofs.YtnofcanboaaejaaDoor
