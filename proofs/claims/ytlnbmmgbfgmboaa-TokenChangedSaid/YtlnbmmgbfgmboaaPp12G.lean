/- What size, global and mutex of package parse do. -/
import Derived.Test.YtlnbmmgbfgmboaaPp11G
namespace Go.Proofs.Ytlnbmmgbfgmboaa
open Go.RowKit

theorem blk3 {w : World} {b : Nat} {c0 c1 c2 : Value} {t : TypeId} (h : w.heap[b]? = some (.cells #[c0, c1, c2] t (0, 0))) :
    w.cell? ⟨b, 0, none⟩ = some c0 ∧ w.cell? ⟨b, 1, none⟩ = some c1 ∧ w.cell? ⟨b, 2, none⟩ = some c2 ∧ (∀ j, w.frozen? ⟨b, j, none⟩ = false) ∧ b < w.heap.size := by
  refine ⟨?_, ?_, ?_, fun j => by simp [World.frozen?, h], lt_of_block h⟩
  · rw [cell_of_row w b 0 _ _ _ h]; rfl
  · rw [cell_of_row w b 1 _ _ _ h]; rfl
  · rw [cell_of_row w b 2 _ _ _ h]; rfl
/-- the state behind the check of a size -/
def szP (ts : List Tk.Tok) (σ : Pa.Sg) : Pa.Sg := if Pa.kdS ts σ 2 = true ∧ (Ps.numAt ts σ.k < 1 ∨ 64 < Ps.numAt ts σ.k) then Pa.fl σ 3 else σ
theorem szS_eq (ts : List Tk.Tok) (σ : Pa.Sg) : Pa.szS ts σ = Pa.tk ts (szP ts σ) 2 := rfl

theorem nuV_le {ts : List Tk.Tok} (hN : ∀ k, Ps.numAt ts k ≤ 9223372036854775807) (σ : Pa.Sg) : Pa.nuV ts σ ≤ 9223372036854775807 := by
  unfold Pa.nuV
  split
  · exact hN _
  · omega

theorem blk3set0 {w : World} {X : Nat} {c0 c1 c2 : Value} {t : TypeId} (u : Value) (h : w.heap[X]? = some (.cells #[c0, c1, c2] t (0, 0))) : (w.setCell ⟨X, 0, none⟩ u).heap[X]? = some (.cells #[u, c1, c2] t (0, 0)) := blkset_any 0 u h
theorem blk3set2 {w : World} {X : Nat} {c0 c1 c2 : Value} {t : TypeId} (u : Value) (h : w.heap[X]? = some (.cells #[c0, c1, c2] t (0, 0))) : (w.setCell ⟨X, 2, none⟩ u).heap[X]? = some (.cells #[c0, c1, u] t (0, 0)) := blkset_any 2 u h
theorem blk3set1 {w : World} {X : Nat} {c0 c1 c2 : Value} {t : TypeId} (u : Value) (h : w.heap[X]? = some (.cells #[c0, c1, c2] t (0, 0))) : (w.setCell ⟨X, 1, none⟩ u).heap[X]? = some (.cells #[c0, u, c2] t (0, 0)) := blkset_any 1 u h
/-- the word before a mutex -/
def mxS (ts : List Tk.Tok) (σ : Pa.Sg) : Pa.Sg := if Pa.isS ts σ [114, 109, 117, 116, 101, 120] = true then Pa.nx σ else Pa.xp ts σ [109, 117, 116, 101, 120]

end Go.Proofs.Ytlnbmmgbfgmboaa
