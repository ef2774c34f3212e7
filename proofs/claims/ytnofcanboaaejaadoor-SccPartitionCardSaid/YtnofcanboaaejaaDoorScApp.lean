/- Appends of lists of lists. No statement of the program is proved in this file. -/
import Derived.Test.YtnofcanboaaejaaDoorScPk
namespace Go.Proofs.YtnofcanboaaejaaDoor
open Go.RowKit
set_option maxRecDepth 100000

theorem RowK.cs_append {α : Type} (K : RowK α) (P Q : List α) : K.cs (P ++ Q) = K.cs P ++ K.cs Q := by simp [RowK.cs, List.flatMap_append]
theorem liCs_at (L : List LiE) (i : Nat) (h : i < L.length) : (liK.cs L)[i]? = some (.slice L[i].2.1 L[i].1.length L[i].2.2) := by
  have h1 := liK.cs_at L i 0 h (by decide)
  rw [show i * liK.sz + 0 = i from by show i * 1 + 0 = i; omega] at h1
  rw [h1]
  rfl
theorem liCs_len (L : List LiE) : (liK.cs L).length = L.length := by
  rw [liK.cs_len]
  show _ * 1 = _
  omega
/-- the elements that are read at A, with the places where they lie -/
theorem LiR.list {w : World} {A : Option Addr} {P : List (List Int)} (h : LiR w A P) : ∃ L : List LiE, L.map (·.1) = P ∧ (∀ p ∈ L, IntR w p.2.1 p.1) ∧ ∀ i (_ : i < L.length), ∃ b off, A = some ⟨b, off, none⟩ ∧ w.cell? ⟨b, off + i, none⟩ = (liK.cs L)[i]? := by
  suffices H : ∀ k, k ≤ P.length → ∃ L : List LiE, L.map (·.1) = P.take k ∧ (∀ p ∈ L, IntR w p.2.1 p.1) ∧ ∀ i (_ : i < L.length), ∃ b off, A = some ⟨b, off, none⟩ ∧ w.cell? ⟨b, off + i, none⟩ = (liK.cs L)[i]? by
    obtain ⟨L, h1, h2, h3⟩ := H P.length (Nat.le_refl _)
    exact ⟨L, by rw [h1, List.take_length], h2, h3⟩
  intro k
  induction k with
  | zero => exact fun _ => ⟨[], rfl, fun p hp => absurd hp (by simp), fun i hi => absurd hi (by simp)⟩
  | succ k ih =>
    intro hk
    obtain ⟨L, h1, h2, h3⟩ := ih (by omega)
    have hlt : k < P.length := by omega
    have hL : L.length = k := by
      have := congrArg List.length h1
      rw [List.length_map, List.length_take] at this
      omega
    obtain ⟨b, off, Ai, ci, e, hc, hr⟩ := h k hlt
    refine ⟨L ++ [(P[k], Ai, ci)], ?_, fun p hp => ?_, fun i hi => ?_⟩
    · rw [List.map_append, h1, List.take_succ_eq_append_getElem hlt]; rfl
    · rcases List.mem_append.1 hp with hp | hp
      · exact h2 p hp
      · rw [List.mem_singleton.1 hp]; exact hr
    · rw [List.length_append] at hi
      by_cases hik : i < L.length
      · obtain ⟨b', off', e', hc'⟩ := h3 i hik
        refine ⟨b', off', e', ?_⟩
        rw [hc', liCs_at L i hik, liCs_at _ i (by rw [List.length_append]; omega), List.getElem_append_left hik]
      · obtain rfl : i = k := by simp at hi; omega
        refine ⟨b, off, e, ?_⟩
        rw [hc, liCs_at _ i (by rw [List.length_append]; simp; omega)]
        congr 1
        rw [List.getElem_append_right (by omega)]
        simp
/-- an append of a list of lists, which may be empty -/
theorem wpList_append_lix (w : World) {ops : Array Oper} {rest : List Oper} {o : Oper} {a : Act} {Q : Exit → Act → World → Prop} (hgd : o.guard = none) (s x : Operand)
    (ho : o.op = .call { callee := .builtin .append, args := #[s, x], argTypes := #[24, 24] }) (B g0 cap0 : Nat) (L1 : List LiE) (hs : a.eval s = .slice (some ⟨g0, 0, none⟩) L1.length cap0)
    (hown : w.ownsRow B 22 1 (.slice (some ⟨g0, 0, none⟩) L1.length cap0) L1.length (liK.cs L1)) (hB : B ≤ w.heap.size) (A : Option Addr) (n c : Nat) (P : List (List Int)) (hx : a.eval x = .slice A n c) (hn : n = P.length) (wR : World) (hR : LiR wR A P) (hbR : Below wR.heap.size wR w) (h1 : L1.length ≤ 1000000) (h2 : P.length ≤ 1000000)
    (hK : ∀ g cap L2 w', L2.map (·.1) = P → (∀ p ∈ L2, IntR wR p.2.1 p.1) → (∀ i (_ : i < L2.length), ∃ b off, A = some ⟨b, off, none⟩ ∧ wR.cell? ⟨b, off + i, none⟩ = (liK.cs L2)[i]?) → w'.ownsRow B 22 1 (.slice (some ⟨g, 0, none⟩) (L1 ++ L2).length cap) (L1 ++ L2).length (liK.cs (L1 ++ L2)) → w.grownBy w' (some g0) → (some g0 = some g ∨ g = w.heap.size) → g < w'.heap.size → wpList Tryd.prog ops Q rest (a.put o.dst (.slice (some ⟨g, 0, none⟩) (L1 ++ L2).length cap)) w') : wpList Tryd.prog ops Q (o :: rest) a w := by
  subst hn
  obtain ⟨i, hi, hzz⟩ := Option.map_eq_some_iff.1 Tryd.infoNs
  simp only [Prod.mk.injEq] at hzz
  obtain ⟨hz0, hz1, hz2⟩ := hzz
  obtain ⟨L2, e1, e2, e3⟩ := hR.list
  have hl2 : L2.length = P.length := by rw [← e1, List.length_map]
  refine wpList_append_some w hgd s x 24 ho B 22 i _ 1 24 Tryd.underlying24 hi hz0 hz1 hz2 rfl (by decide) g0 cap0 L1.length (liK.cs L1) hs hown A P.length c (liK.cs L2) hx (by rw [liCs_len]; omega) ?_ ?_ (by unfold maxLen; omega) (by omega) hB _ rfl ?_
  · intro hm
    obtain ⟨b, off, e, -⟩ := e3 0 (by omega)
    refine ⟨⟨b, off, none⟩, e, fun j u hj => ?_⟩
    have hjl : j < L2.length := by
      rcases Nat.lt_or_ge j (liK.cs L2).length with h | h
      · rw [liCs_len] at h; exact h
      · rw [List.getElem?_eq_none h] at hj; cases hj
    obtain ⟨b', off', e', hc⟩ := e3 j hjl
    rw [e] at e'
    injection e' with e'
    injection e' with e4 e5
    subst e4 e5
    rw [hj] at hc
    rw [Go.WideShapes.add_plain]
    exact cell_later hbR hc
  · intro u hu
    obtain ⟨p, -, hp⟩ := List.mem_flatMap.1 hu
    exact liK.one p u hp
  · intro g cap w' hown' hg hl hgl
    have := hK g cap L2 w' e1 e2 e3
    rw [List.length_append, liK.cs_append, hl2] at this
    exact this hown' hg hl hgl
theorem wpList_append_li (w : World) {ops : Array Oper} {rest : List Oper} {o : Oper} {a : Act} {Q : Exit → Act → World → Prop} (hgd : o.guard = none) (s x : Operand)
    (ho : o.op = .call { callee := .builtin .append, args := #[s, x], argTypes := #[24, 24] }) (B g0 cap0 : Nat) (L1 : List LiE) (hs : a.eval s = .slice (some ⟨g0, 0, none⟩) L1.length cap0)
    (hown : w.ownsRow B 22 1 (.slice (some ⟨g0, 0, none⟩) L1.length cap0) L1.length (liK.cs L1)) (hB : B ≤ w.heap.size) (A : Option Addr) (n c : Nat) (P : List (List Int)) (hx : a.eval x = .slice A n c) (hn : n = P.length) (wR : World) (hR : LiR wR A P) (hbR : Below wR.heap.size wR w) (h1 : L1.length ≤ 1000000) (h2 : P.length ≤ 1000000)
    (hK : ∀ g cap L2 w', L2.map (·.1) = P → (∀ p ∈ L2, IntR wR p.2.1 p.1) → w'.ownsRow B 22 1 (.slice (some ⟨g, 0, none⟩) (L1 ++ L2).length cap) (L1 ++ L2).length (liK.cs (L1 ++ L2)) → w.grownBy w' (some g0) → (some g0 = some g ∨ g = w.heap.size) → g < w'.heap.size → wpList Tryd.prog ops Q rest (a.put o.dst (.slice (some ⟨g, 0, none⟩) (L1 ++ L2).length cap)) w') : wpList Tryd.prog ops Q (o :: rest) a w :=
  wpList_append_lix w hgd s x ho B g0 cap0 L1 hs hown hB A n c P hx hn wR hR hbR h1 h2 fun g cap L2 w' e1 e2 _ => hK g cap L2 w' e1 e2
/-- an append of a row of the call's own -/
theorem wpList_append_own2 (w : World) {ops : Array Oper} {rest : List Oper} {o : Oper} {a : Act} {Q : Exit → Act → World → Prop} (hgd : o.guard = none) (s x : Operand)
    (ho : o.op = .call { callee := .builtin .append, args := #[s, x], argTypes := #[24, 24] }) (B g0 cap0 : Nat) (L1 : List LiE) (hs : a.eval s = .slice (some ⟨g0, 0, none⟩) L1.length cap0)
    (hown : w.ownsRow B 22 1 (.slice (some ⟨g0, 0, none⟩) L1.length cap0) L1.length (liK.cs L1)) (hB : B ≤ w.heap.size) (A : Option Addr) (c B2 : Nat) (L2 : List LiE) (hx : a.eval x = .slice A L2.length c) (h2 : w.ownsRow B2 22 1 (.slice A L2.length c) L2.length (liK.cs L2)) (hl1 : L1.length ≤ 1000000) (hl2 : L2.length ≤ 1000000)
    (hK : ∀ g cap w', w'.ownsRow B 22 1 (.slice (some ⟨g, 0, none⟩) (L1 ++ L2).length cap) (L1 ++ L2).length (liK.cs (L1 ++ L2)) → w.grownBy w' (some g0) → (some g0 = some g ∨ g = w.heap.size) → g < w'.heap.size → wpList Tryd.prog ops Q rest (a.put o.dst (.slice (some ⟨g, 0, none⟩) (L1 ++ L2).length cap)) w') : wpList Tryd.prog ops Q (o :: rest) a w := by
  obtain ⟨i, hi, hzz⟩ := Option.map_eq_some_iff.1 Tryd.infoNs
  simp only [Prod.mk.injEq] at hzz
  obtain ⟨hz0, hz1, hz2⟩ := hzz
  refine wpList_append_some w hgd s x 24 ho B 22 i _ 1 24 Tryd.underlying24 hi hz0 hz1 hz2 rfl (by decide) g0 cap0 L1.length (liK.cs L1) hs hown A L2.length c (liK.cs L2) hx (by rw [liCs_len]; omega) ?_ ?_ (by unfold maxLen; omega) (by omega) hB _ rfl ?_
  · intro hm
    rcases h2.2 with ⟨_, h0⟩ | ⟨g', cap', cur, e', hr⟩
    · omega
    · injection e' with e1 _ e3
      subst e1 e3
      refine ⟨⟨g', 0, none⟩, rfl, fun j u hj => ?_⟩
      have hjl : j < L2.length := by
        rcases Nat.lt_or_ge j (liK.cs L2).length with h | h
        · rw [liCs_len] at h; exact h
        · rw [List.getElem?_eq_none h] at hj; cases hj
      rw [Go.WideShapes.add_plain, Nat.zero_add]
      exact (World.ownsRow.cellAt h2 j (by omega)).trans hj
  · intro u hu
    obtain ⟨p, -, hp⟩ := List.mem_flatMap.1 hu
    exact liK.one p u hp
  · intro g cap w' hown' hg hl hgl
    have := hK g cap w'
    rw [List.length_append, liK.cs_append] at this
    exact this hown' hg hl hgl
end Go.Proofs.YtnofcanboaaejaaDoor
