/- Which node reaches which, reckoned; lists of lists that are written out. -/
import Derived.Test.YtnofcanboaaejaaDoorScCyc
namespace Go.Proofs.YtnofcanboaaejaaDoor
open Go.RowKit
set_option maxRecDepth 100000
namespace Sc
/-- as Pk, reckoned -/
def pkB (n : Nat) (P : List (List Int)) : Nat → Nat → Nat → Bool
  | 0, a, b => decide (a < n) && decide (b < n) && P.contains [(a : Int), (b : Int)]
  | k + 1, a, b => pkB n P k a b || pkB n P k a k && pkB n P k k b
theorem pkB_iff {n : Nat} {P : List (List Int)} {k : Nat} : ∀ {a b : Nat}, pkB n P k a b = true ↔ Pk (Ed n P) k a b := by
  induction k with
  | zero =>
    intro a b
    simp only [pkB, Pk, Ed, Bool.and_eq_true, decide_eq_true_eq, List.contains_iff_mem, and_assoc]
  | succ k ih =>
    intro a b
    simp only [pkB, Pk, Bool.or_eq_true, Bool.and_eq_true, ih]
theorem rch_pk (n : Nat) (P : List (List Int)) : rch n P = pkB n P n := by
  funext a b
  rw [Bool.eq_iff_iff, rch_iff, pkB_iff]
  exact ⟨Pk.all, Pk.sound⟩
end Sc

/-- what package scc's Reaches returns -/
noncomputable def reV (n : Int) (P : List (List Int)) (x y : Int) : Bool := decide (0 ≤ x) && decide (x < (clV n : Int)) && decide (0 ≤ y) && decide (y < (clV n : Int)) && Sc.rch (clV n) P x.toNat y.toNat

theorem lit_int (W : World) (g : Nat) (hg : g = W.heap.size) (xs : List Int) (t : TypeId) (hx : I64s xs) : IntR (W.alloc (.cells (iCs xs).toArray t)) (some ⟨g, 0, none⟩) xs := fun i hi => by
  subst hg
  refine ⟨W.heap.size, 0, rfl, ?_, hx _ (List.getElem_mem hi)⟩
  rw [Nat.zero_add, World.cell?_alloc_mark]
  simp [iCs, hi]
theorem lit_li (W : World) (g : Nat) (hg : g = W.heap.size) (L : List LiE) (t : TypeId) (hr : ∀ p ∈ L, IntR W p.2.1 p.1) : LiR (W.alloc (.cells (liK.cs L).toArray t)) (some ⟨g, 0, none⟩) (L.map (·.1)) := fun i hi => by
  subst hg
  have hi' : i < L.length := by simpa using hi
  refine ⟨W.heap.size, 0, L[i].2.1, L[i].2.2, rfl, ?_, ?_⟩
  · rw [Nat.zero_add, World.cell?_alloc_mark]
    have h1 := liK.cs_at L i 0 hi' (by decide)
    rw [show i * liK.sz + 0 = i from by show i * 1 + 0 = i; omega] at h1
    simp only [List.getElem_map]
    show (liK.cs L).toArray[i]? = _
    rw [List.getElem?_toArray, h1]
    rfl
  · simp only [List.getElem_map]
    exact (hr _ (List.getElem_mem hi')).later ((Below.refl _ _).alloc (Nat.le_refl _) _)
end Go.Proofs.YtnofcanboaaejaaDoor
