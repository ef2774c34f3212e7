/- What Expr of the made inputs returns: an expression with the stated Args, of the plain function madeG. -/
import Derived.Test.YtobpnpkcafacjaaExWalkM
namespace Go.Proofs.Ytobpnpkcafacjaa
open Go.RowKit

def nm3 : List (List UInt8) := [[97], [98], [120, 49]]
/-- the expression that is made of numbers -/
def madeG (xs : List Int) : Ex := (exprG nm3 (xs.take 100) (1 + nextV (xs.take 100) 0 5) (nextI (xs.take 100) 0)).1
/-- the slice at A holds the numbers xs, which fit -/
def IntR (w : World) (A : Option Addr) (xs : List Int) : Prop :=
  ∀ i (h : i < xs.length), ∃ b off, A = some ⟨b, off, none⟩ ∧ w.cell? ⟨b, off + i, none⟩ = some (.int .i64 xs[i]) ∧ -9223372036854775808 ≤ xs[i] ∧ xs[i] ≤ 9223372036854775807
theorem IntR.later {w w' : World} {A : Option Addr} {xs : List Int} (h : IntR w A xs) (hb : Below w.heap.size w w') : IntR w' A xs := by
  intro i hi
  obtain ⟨b, off, e, hc, r⟩ := h i hi
  exact ⟨b, off, e, cell_later hb hc, r⟩

/-- what Expr leaves -/
def MadePost (w : World) (E : Ex) (e : Ending) (w' : World) : Prop :=
  ∃ num name A n c, e = .returned (.agg #[.int .i64 E.op, .int .i64 num, .string ⟨name.toArray⟩, .slice A n c]) ∧ ExM w' (w.heap.size ≤ ·) E ⟨E.op, num, name, A, n, c⟩ ∧ Below w.heap.size w w'

theorem made_names (W : World) (g : Nat) (hg : g ≠ W.heap.size) : StrN (W.alloc (.cells #[.string ⟨#[97]⟩, .string ⟨#[98]⟩, .string ⟨#[120, 49]⟩] 9)) g (some ⟨W.heap.size, 0, none⟩) nm3 := by
  intro i hi
  refine ⟨W.heap.size, 0, rfl, fun e => hg e.symm, ?_⟩
  rw [Nat.zero_add, World.cell?_alloc_mark]
  have hi3 : i < 3 := hi
  have hc : i = 0 ∨ i = 1 ∨ i = 2 := by omega
  rcases hc with rfl | rfl | rfl <;> rfl

/-- made expressions have the stated Args, short names, few parts -/
theorem exprG_ok (xs : List Int) (d : Nat) : ∀ i, ExOk (exprG nm3 xs d i).1 ∧ ExB (exprG nm3 xs d i).1 ∧ exCnt (exprG nm3 xs d i).1 < 2 ^ (d + 1) := by
  have leaf : ∀ i, ExOk (exprG.leafG nm3 xs i).1 ∧ ExB (exprG.leafG nm3 xs i).1 ∧ exCnt (exprG.leafG nm3 xs i).1 = 1 := by
    intro i
    unfold exprG.leafG
    split
    · refine ⟨.mk _ _ _ _ (by omega) (.inl ⟨.inr rfl, rfl⟩) (fun j hj => absurd hj (by simp)), .mk _ _ _ _ (by simp) ?_ (fun j hj => absurd hj (by simp)), by rw [exCnt]; rfl⟩
      generalize nextV xs (nextI xs i) nm3.length = k
      have : ∀ k, (nm3.getD k []).length ≤ 2 := fun k => by
        by_cases h : k < 3
        · have : ∀ k, k < 3 → (nm3.getD k []).length ≤ 2 := by decide
          exact this k h
        · rw [List.getD_eq_getElem?_getD, List.getElem?_eq_none (by show 3 ≤ k; omega)]
          simp
      have := this k
      omega
    · dsimp only
      have hn : ∀ j, (numG xs j).1 ≤ 4611686018427387904 := fun j => by
        unfold numG
        split
        · have := nextV_lt xs (nextI xs j) 4611686018427387904 (by omega)
          dsimp only
          omega
        · have := nextV_lt xs (nextI xs j) 4 (by omega)
          dsimp only
          omega
      refine ⟨.mk _ _ _ _ ?_ (.inl ⟨.inl rfl, rfl⟩) (fun j hj => absurd hj (by simp)), .mk _ _ _ _ (by simp) (by simp) (fun j hj => absurd hj (by simp)), by rw [exCnt]; rfl⟩
      have := hn (if 0 < nm3.length then nextI xs i else i)
      omega
  induction d with
  | zero =>
    intro i
    obtain ⟨h1, h2, h3⟩ := leaf (nextI xs i)
    have e : exprG nm3 xs 0 i = exprG.leafG nm3 xs (nextI xs i) := by rw [exprG]
    rw [e]
    exact ⟨h1, h2, by rw [h3]; omega⟩
  | succ d ih =>
    intro i
    have hp : 2 ^ (d + 1 + 1) = 2 * 2 ^ (d + 1) := by rw [Nat.pow_succ]; omega
    by_cases h2 : nextV xs i 10 < 2
    · rw [exprG_leaf nm3 xs d i h2]
      obtain ⟨h1, h3, h4⟩ := leaf (nextI xs i)
      have : 0 < 2 ^ (d + 1) := Nat.pow_pos (by omega)
      exact ⟨h1, h3, by omega⟩
    · by_cases h4 : nextV xs i 10 < 4
      · rw [exprG_un nm3 xs d i h2 h4]
        obtain ⟨a1, a2, a3⟩ := ih (nextI xs i)
        refine ⟨.mk _ _ _ _ (by omega) (.inr (.inl ⟨by omega, rfl⟩)) (fun j hj => ?_), .mk _ _ _ _ (by simp) (by simp) (fun j hj => ?_), ?_⟩
        · have : j = 0 := by simpa using hj
          subst this
          exact a1
        · have : j = 0 := by simpa using hj
          subst this
          exact a2
        · rw [exCnt, exCnts, exCnts]
          omega
      · rw [exprG_bin nm3 xs d i h2 h4]
        have hv := nextV_lt xs (nextI xs i) 13 (by omega)
        obtain ⟨a1, a2, a3⟩ := ih (nextI xs (nextI xs i))
        obtain ⟨b1, b2, b3⟩ := ih (exprG nm3 xs d (nextI xs (nextI xs i))).2
        refine ⟨.mk _ _ _ _ (by omega) (.inr (.inr ⟨by omega, by omega, rfl⟩)) (fun j hj => ?_), .mk _ _ _ _ (by simp) (by simp) (fun j hj => ?_), ?_⟩
        · have : j = 0 ∨ j = 1 := by simp at hj; omega
          rcases this with rfl | rfl
          · exact a1
          · exact b1
        · have : j = 0 ∨ j = 1 := by simp at hj; omega
          rcases this with rfl | rfl
          · exact a2
          · exact b2
        · rw [exCnt, exCnts, exCnts, exCnts]
          omega
theorem madeG_ok (xs : List Int) : ExOk (madeG xs) ∧ ExB (madeG xs) ∧ exCnt (madeG xs) ≤ 64 := by
  have hn5 := nextV_lt (xs.take 100) 0 5 (by omega)
  obtain ⟨h1, h2, h3⟩ := exprG_ok (xs.take 100) (1 + nextV (xs.take 100) 0 5) (nextI (xs.take 100) 0)
  refine ⟨h1, h2, ?_⟩
  have : 2 ^ (1 + nextV (xs.take 100) 0 5 + 1) ≤ 2 ^ 6 := Nat.pow_le_pow_right (by omega) (by omega)
  have h4 : exCnt (madeG xs) < 2 ^ (1 + nextV (xs.take 100) 0 5 + 1) := h3
  omega

end Go.Proofs.Ytobpnpkcafacjaa
