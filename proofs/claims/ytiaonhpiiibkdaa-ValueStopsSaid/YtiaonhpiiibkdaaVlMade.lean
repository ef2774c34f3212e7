/- What is known of a made expression whose names are replaced by variables. -/
import Derived.Test.YtiaonhpiiibkdaaVlAwk
namespace Go.Proofs.Ytiaonhpiiibkdaa
open Go.RowKit

theorem rsG_ok {ng nl : Nat} (hg : 2 ≤ ng) (hl : 1 ≤ nl) (E : Ex) (h : ExOk E) : RsOk ng nl (rsG E) ∧ exCnt (rsG E) ≤ exCnt E := by
  induction h with
  | mk op num name args hn ha hs ih =>
    rw [rsG_mk]
    by_cases h2 : op = 2
    · rw [if_pos h2]
      have hc : 1 ≤ exCnt (.mk op num name args) := by rw [exCnt]; omega
      have lf : ∀ o m : Int, exCnt (.mk o m [] []) = 1 := fun o m => by rw [exCnt, exCnts]
      split
      · exact ⟨.mk _ _ _ _ (by omega) (by simp) (.inl ⟨.inr (.inl ⟨rfl, by omega, by omega⟩), rfl⟩) (fun j hj => absurd hj (by simp)), by rw [lf]; exact hc⟩
      · split
        · exact ⟨.mk _ _ _ _ (by omega) (by simp) (.inl ⟨.inr (.inr ⟨rfl, by omega, by omega⟩), rfl⟩) (fun j hj => absurd hj (by simp)), by rw [lf]; exact hc⟩
        · exact ⟨.mk _ _ _ _ (by omega) (by simp) (.inl ⟨.inr (.inr ⟨rfl, by omega, by omega⟩), rfl⟩) (fun j hj => absurd hj (by simp)), by rw [lf]; exact hc⟩
    · rw [if_neg h2]
      refine ⟨.mk _ _ _ _ hn (by simp) ?_ (fun j hj => ?_), ?_⟩
      · rw [rsGs_len]
        omega
      · have hj' : j < args.length := by rw [rsGs_len] at hj; exact hj
        rw [rsGs_at args j hj' hj]
        exact (ih j hj').1
      · rw [exCnt, exCnt]
        have : exCnts (rsGs args) ≤ exCnts args := by
          clear ha hs
          induction args with
          | nil => rw [rsGs_nil]; exact Nat.le_refl _
          | cons e r ihr =>
            rw [rsGs_cons, exCnts, exCnts]
            have h0 := (ih 0 (by simp)).2
            have h1 := ihr (fun i hi => by have := ih (i + 1) (by simpa using hi); simpa using this)
            simp only [List.getElem_cons_zero] at h0
            omega
        omega
/-- the made expression with variables -/
def vmE (xs : List Int) : Ex := rsG (madeG xs)
theorem vmE_ok {ng nl : Nat} (hg : 2 ≤ ng) (hl : 1 ≤ nl) (xs : List Int) : RsOk ng nl (vmE xs) ∧ exCnt (vmE xs) ≤ 64 := by
  obtain ⟨h1, h2, h3⟩ := madeG_ok xs
  obtain ⟨a, b⟩ := rsG_ok hg hl _ h1
  exact ⟨a, Nat.le_trans b h3⟩

/-- a new slice of integers -/
theorem intR_new2 (W : World) (b c : Int) (hb : I64 b) (hc : I64 c) : IntR (W.alloc (.cells #[.int .i64 b, .int .i64 c] 3)) (some ⟨W.heap.size, 0, none⟩) [b, c] := by
  intro i hi
  have q : ∀ j, (W.alloc (.cells #[.int .i64 b, .int .i64 c] 3)).cell? ⟨W.heap.size, j, none⟩ = _ := fun j => cell_of_row _ W.heap.size j _ _ _ (heap_alloc_new W _)
  have : i = 0 ∨ i = 1 := by simp at hi; omega
  rcases this with rfl | rfl
  · exact ⟨_, 0, rfl, q 0, hb.1, hb.2⟩
  · exact ⟨_, 0, rfl, q 1, hc.1, hc.2⟩
theorem intR_new1 (W : World) (a : Int) (ha : I64 a) : IntR (W.alloc (.cells #[.int .i64 a] 3)) (some ⟨W.heap.size, 0, none⟩) [a] := by
  intro i hi
  have q : ∀ j, (W.alloc (.cells #[.int .i64 a] 3)).cell? ⟨W.heap.size, j, none⟩ = _ := fun j => cell_of_row _ W.heap.size j _ _ _ (heap_alloc_new W _)
  have : i = 0 := by simpa using hi
  subst this
  exact ⟨_, 0, rfl, q 0, ha.1, ha.2⟩
theorem intR_new3 (W : World) (b c d : Int) (hb : I64 b) (hc : I64 c) (hd : I64 d) : IntR (W.alloc (.cells #[.int .i64 b, .int .i64 c, .int .i64 d] 3)) (some ⟨W.heap.size, 0, none⟩) [b, c, d] := by
  intro i hi
  have q : ∀ j, (W.alloc (.cells #[.int .i64 b, .int .i64 c, .int .i64 d] 3)).cell? ⟨W.heap.size, j, none⟩ = _ := fun j => cell_of_row _ W.heap.size j _ _ _ (heap_alloc_new W _)
  have : i = 0 ∨ i = 1 ∨ i = 2 := by simp at hi; omega
  rcases this with rfl | rfl | rfl
  · exact ⟨_, 0, rfl, q 0, hb.1, hb.2⟩
  · exact ⟨_, 0, rfl, q 1, hc.1, hc.2⟩
  · exact ⟨_, 0, rfl, q 2, hd.1, hd.2⟩
theorem allI_1 {a : Int} (ha : I64 a) : AllI [a] := fun i hi => by
  have : i = 0 := by simpa using hi
  subst this
  exact ha
theorem allI_2 {b c : Int} (hb : I64 b) (hc : I64 c) : AllI [b, c] := fun i hi => by
  have : i = 0 ∨ i = 1 := by simp at hi; omega
  rcases this with rfl | rfl
  · exact hb
  · exact hc
theorem allI_3 {b c d : Int} (hb : I64 b) (hc : I64 c) (hd : I64 d) : AllI [b, c, d] := fun i hi => by
  have : i = 0 ∨ i = 1 ∨ i = 2 := by simp at hi; omega
  rcases this with rfl | rfl | rfl
  · exact hb
  · exact hc
  · exact hd
/-- Eval of the project and of the reference in the laws: two new lists of variables -/
theorem lawEval_any (W : World) (N : Nat) (hN : W.heap.size = N) (E : Ex) (f : EF) (a b c : Int) (hM : ExM W (fun _ => True) E f) (hR : RsOk 2 1 E) (hC : exCnt E ≤ 10000000000) (ha : I64 a) (hb : I64 b) (hc : I64 c) :
    Calls Try.prog 12 #[f.val, .slice (some ⟨N, 0, none⟩) 2 2, .slice (some ⟨N + 1, 0, none⟩) 1 1] ((W.alloc (.cells #[.int .i64 b, .int .i64 c] 3)).alloc (.cells #[.int .i64 a] 3)) fun e w' => e = .returned (.tuple #[.int .i64 (evV [b, c] [a] E).1, .int .i64 (evV [b, c] [a] E).2]) ∧ Below W.heap.size W w' := by
  subst hN
  have h1 : Below W.heap.size W (W.alloc (.cells #[.int .i64 b, .int .i64 c] 3)) := (Below.refl _ _).alloc (Nat.le_refl _) _
  have h2 : Below (W.alloc (.cells #[.int .i64 b, .int .i64 c] 3)).heap.size (W.alloc (.cells #[.int .i64 b, .int .i64 c] 3)) ((W.alloc (.cells #[.int .i64 b, .int .i64 c] 3)).alloc (.cells #[.int .i64 a] 3)) := (Below.refl _ _).alloc (Nat.le_refl _) _
  have hl := intR_new1 (W.alloc (.cells #[.int .i64 b, .int .i64 c] 3)) a ha
  rw [show (W.alloc (.cells #[.int .i64 b, .int .i64 c] 3)).heap.size = W.heap.size + 1 by simp] at hl
  refine (evalF_any _ E f [b, c] [a] _ _ 2 1 ((hM.later h1).later h2) hR hC ((intR_new2 W b c hb hc).later h2) hl (allI_2 hb hc) (allI_1 ha)).mono ?_
  rintro e w' ⟨he, hw⟩
  exact ⟨he, below_two (below_two h1 h2) hw⟩
theorem lawRef_any (W : World) (N : Nat) (hN : W.heap.size = N) (E : Ex) (f : EF) (a b c : Int) (hM : ExM W (fun _ => True) E f) (hR : RsOk 2 1 E) (ha : I64 a) (hb : I64 b) (hc : I64 c) :
    Calls Try.prog 13 #[f.val, .slice (some ⟨N, 0, none⟩) 2 2, .slice (some ⟨N + 1, 0, none⟩) 1 1] ((W.alloc (.cells #[.int .i64 b, .int .i64 c] 3)).alloc (.cells #[.int .i64 a] 3)) fun e w' => e = .returned (.tuple #[.int .i64 (evV [b, c] [a] E).1, .int .i64 (evV [b, c] [a] E).2]) ∧ Below W.heap.size W w' := by
  subst hN
  have h1 : Below W.heap.size W (W.alloc (.cells #[.int .i64 b, .int .i64 c] 3)) := (Below.refl _ _).alloc (Nat.le_refl _) _
  have h2 : Below (W.alloc (.cells #[.int .i64 b, .int .i64 c] 3)).heap.size (W.alloc (.cells #[.int .i64 b, .int .i64 c] 3)) ((W.alloc (.cells #[.int .i64 b, .int .i64 c] 3)).alloc (.cells #[.int .i64 a] 3)) := (Below.refl _ _).alloc (Nat.le_refl _) _
  have hl := intR_new1 (W.alloc (.cells #[.int .i64 b, .int .i64 c] 3)) a ha
  rw [show (W.alloc (.cells #[.int .i64 b, .int .i64 c] 3)).heap.size = W.heap.size + 1 by simp] at hl
  refine (refEval_any _ E f [b, c] [a] _ _ 2 1 ((hM.later h1).later h2) hR ((intR_new2 W b c hb hc).later h2) hl (allI_2 hb hc) (allI_1 ha)).mono ?_
  rintro e w' ⟨he, hw⟩
  exact ⟨he, below_two (below_two h1 h2) hw⟩
end Go.Proofs.Ytiaonhpiiibkdaa
