/- What is known of an expression that the Source makes of names that may be declared. No statement of the program is proved in this file. -/
import Derived.Test.YtbnbmibfjobacaaDoorGFmt
namespace Go.Proofs.YtbnbmibfjobacaaDoor
open Go.RowKit

structure MdE (d : Nat) (E : Ex) : Prop where
  ok : ExOk E
  b : ExB E
  sh : exShape E = true
  ht : exHt E ≤ 2 * d
  tx : (exText E).length + 8 ≤ 30 * 2 ^ d
theorem nameB_len {s : List UInt8} (h : nameB s = true) : 1 ≤ s.length ∧ s.length ≤ 16 := by
  simp only [nameB, Bool.and_eq_true, decide_eq_true_eq] at h
  exact ⟨h.2.1.1, h.2.1.2⟩
theorem part_len' (op : Int) (k : Nat) (e : Ex) : (partText op k e).length ≤ (exText e).length + 2 := by
  unfold partText
  split
  · simp
  · omega
theorem ht_part' (op : Int) (k : Nat) (e : Ex) : htPart op k e ≤ exHt e + 1 := by
  unfold htPart
  split <;> omega
theorem two_pow_pos (d : Nat) : 1 ≤ 2 ^ d := Nat.pow_pos (by omega)
theorem md_num (n : Nat) (hn : n ≤ 4611686018427387904) (d : Nat) : MdE d (.mk 1 (n : Int) [] []) := by
  have hp := two_pow_pos d
  refine ⟨.mk _ _ _ _ (by omega) (.inl ⟨.inl rfl, rfl⟩) (fun j hj => absurd hj (by simp)), .mk _ _ _ _ (by simp) (by simp) (fun j hj => absurd hj (by simp)), ?_, ?_, ?_⟩
  · rw [exShape_mk, exShapes, shapeHead, if_pos (by decide)]
    simp
  · rw [exHt_mk, exHts_nil, if_neg (by decide)]
    omega
  · rw [exText_mk, finText, if_pos rfl]
    have := numText_len (n : Int)
    omega
theorem md_name (s : List UInt8) (h : nameB s = true) (d : Nat) : MdE d (.mk 2 0 s []) := by
  have hp := two_pow_pos d
  obtain ⟨h1, h2⟩ := nameB_len h
  refine ⟨.mk _ _ _ _ (by omega) (.inl ⟨.inr rfl, rfl⟩) (fun j hj => absurd hj (by simp)), .mk _ _ _ _ (by simp) (by omega) (fun j hj => absurd hj (by simp)), ?_, ?_, ?_⟩
  · rw [exShape_mk, exShapes, shapeHead, if_pos (by decide)]
    simp [h]
  · rw [exHt_mk, exHts_nil, if_neg (by decide)]
    omega
  · rw [exText_mk, finText, if_neg (by decide), if_pos rfl]
    omega
theorem md_un (op : Int) (ho : op = 3 ∨ op = 4) (d : Nat) (x : Ex) (h : MdE d x) : MdE (d + 1) (.mk op 0 [] [x]) := by
  have hp := two_pow_pos d
  have hq : 2 ^ (d + 1) = 2 * 2 ^ d := by rw [Nat.pow_succ]; omega
  have h5 : strV op = 5 := by rcases ho with rfl | rfl <;> decide
  refine ⟨.mk _ _ _ _ (by omega) (.inr (.inl ⟨ho, rfl⟩)) (fun j hj => ?_), .mk _ _ _ _ (by simp) (by simp) (fun j hj => ?_), ?_, ?_, ?_⟩
  · obtain rfl : j = 0 := by simpa using hj
    exact h.ok
  · obtain rfl : j = 0 := by simpa using hj
    exact h.b
  · rw [exShape_mk, exShapes, exShapes, shapeHead, h5, if_neg (by decide), if_pos rfl, h.sh]
    simp
  · have := ht_part' op 0 x
    have := h.ht
    rw [exHt_mk, exHts_cons, exHts_nil, if_pos h5]
    omega
  · have h1 := part_len' op 0 x
    have h2 := h.tx
    rw [exText_mk, exParts_cons, exParts_nil, finText, if_neg (by omega), if_neg (by omega)]
    rcases ho with rfl | rfl
    · rw [if_pos rfl]
      simp
      omega
    · rw [if_neg (by decide), if_pos rfl]
      simp
      omega
theorem md_bin (op : Int) (o1 : 5 ≤ op) (o2 : op ≤ 17) (d : Nat) (x y : Ex) (h : MdE d x) (k : MdE d y) : MdE (d + 1) (.mk op 0 [] [x, y]) := by
  have hp := two_pow_pos d
  have hq : 2 ^ (d + 1) = 2 * 2 ^ d := by rw [Nat.pow_succ]; omega
  have h5 : strV op ≠ 5 ∧ strV op ≠ 6 := by
    have hc : op = 5 ∨ op = 6 ∨ op = 7 ∨ op = 8 ∨ op = 9 ∨ op = 10 ∨ op = 11 ∨ op = 12 ∨ op = 13 ∨ op = 14 ∨ op = 15 ∨ op = 16 ∨ op = 17 := by omega
    rcases hc with rfl | rfl | rfl | rfl | rfl | rfl | rfl | rfl | rfl | rfl | rfl | rfl | rfl <;> decide
  refine ⟨.mk _ _ _ _ (by omega) (.inr (.inr ⟨o1, o2, rfl⟩)) (fun j hj => ?_), .mk _ _ _ _ (by simp) (by simp) (fun j hj => ?_), ?_, ?_, ?_⟩
  · have : j = 0 ∨ j = 1 := by simp at hj; omega
    rcases this with rfl | rfl
    · exact h.ok
    · exact k.ok
  · have : j = 0 ∨ j = 1 := by simp at hj; omega
    rcases this with rfl | rfl
    · exact h.b
    · exact k.b
  · rw [exShape_mk, exShapes, exShapes, exShapes, shapeHead, if_neg h5.2, if_neg h5.1, h.sh, k.sh]
    simp
  · have := ht_part' op 0 x
    have := ht_part' op 1 y
    have := h.ht
    have := k.ht
    rw [exHt_mk, exHts_cons, exHts_cons, exHts_nil, if_neg h5.1]
    show max (max 0 (htPart op 0 x)) (htPart op 1 y) + 0 ≤ _
    omega
  · have h1 := part_len' op 0 x
    have h2 := part_len' op 1 y
    have h3 := h.tx
    have h4 := k.tx
    obtain ⟨s, hs', hsl⟩ := signOf_some op ⟨o1, o2⟩
    rw [exText_mk, exParts_cons, exParts_cons, exParts_nil, finText, if_neg (by omega), if_neg (by omega), if_neg (by omega), if_neg (by omega), hs']
    simp
    omega
theorem numG_le (xs : List Int) (j : Nat) : (numG xs j).1 ≤ 4611686018427387904 := by
  unfold numG
  split
  · have := nextV_lt xs (nextI xs j) 4611686018427387904 (by omega)
    dsimp only
    omega
  · have := nextV_lt xs (nextI xs j) 4 (by omega)
    dsimp only
    omega
theorem md_leaf (names : List (List UInt8)) (hN : ∀ n ∈ names, nameB n = true) (xs : List Int) (i d : Nat) : MdE d (exprG.leafG names xs i).1 := by
  unfold exprG.leafG
  split
  · rename_i h
    refine md_name _ (hN _ ?_) d
    have := nextV_lt xs (nextI xs i) names.length h.1
    rw [List.getD_eq_getElem?_getD, List.getElem?_eq_getElem this]
    exact List.getElem_mem this
  · exact md_num _ (numG_le _ _) d
theorem exprG_md (names : List (List UInt8)) (hN : ∀ n ∈ names, nameB n = true) (xs : List Int) (d : Nat) : ∀ i, MdE d (exprG names xs d i).1 := by
  induction d with
  | zero =>
    intro i
    have e : exprG names xs 0 i = exprG.leafG names xs (nextI xs i) := by rw [exprG]
    rw [e]
    exact md_leaf names hN xs _ _
  | succ d ih =>
    intro i
    by_cases h2 : nextV xs i 10 < 2
    · rw [exprG_leaf names xs d i h2]
      exact md_leaf names hN xs _ _
    · by_cases h4 : nextV xs i 10 < 4
      · rw [exprG_un names xs d i h2 h4]
        exact md_un _ (by omega) d _ (ih _)
      · rw [exprG_bin names xs d i h2 h4]
        have hv := nextV_lt xs (nextI xs i) 13 (by omega)
        exact md_bin _ (by omega) (by omega) d _ _ (ih _) (ih _)
end Go.Proofs.YtbnbmibfjobacaaDoor
