/- What scan of package token returns. -/
import Derived.Test.YtobpnpkcafacjaaTokNum
import Derived.Test.YtobpnpkcafacjaaTokSign
namespace Go.Proofs.Ytobpnpkcafacjaa
open Go.RowKit

theorem scanVal_form (r : Except Nat Tk.Tok) : ∃ (K : Int) (S : ByteArray) (N P E : Int), scanVal r = .tuple #[.agg #[.int .i64 K, .string S, .int .i64 N, .int .i64 P], .int .i64 E] := by
  cases r with
  | error e => exact ⟨_, _, _, _, _, rfl⟩
  | ok t => exact ⟨_, _, _, _, _, rfl⟩

/-- the cells of a block of four cells that was laid last, behind a call that changed nothing that was there -/
theorem four_later {w w2 : World} {c0 c1 c2 c3 : Value} {t : TypeId} (hb : Below (w.alloc (.cells #[c0, c1, c2, c3] t)).heap.size (w.alloc (.cells #[c0, c1, c2, c3] t)) w2) :
    w2.cell? ⟨w.heap.size, 0, none⟩ = some c0 ∧ w2.cell? ⟨w.heap.size, 1, none⟩ = some c1 ∧ w2.cell? ⟨w.heap.size, 2, none⟩ = some c2 ∧ w2.cell? ⟨w.heap.size, 3, none⟩ = some c3 ∧
    w2.frozen? ⟨w.heap.size, 0, none⟩ = false ∧ w2.frozen? ⟨w.heap.size, 1, none⟩ = false ∧ w2.frozen? ⟨w.heap.size, 2, none⟩ = false ∧ w2.frozen? ⟨w.heap.size, 3, none⟩ = false ∧ w.heap.size < w2.heap.size := by
  have hs : w.heap.size < (w.alloc (.cells #[c0, c1, c2, c3] t)).heap.size := by simp
  refine ⟨?_, ?_, ?_, ?_, ?_, ?_, ?_, ?_, Nat.lt_of_lt_of_le hs hb.size⟩
  · rw [hb.cell hs, World.cell?_alloc_mark]; rfl
  · rw [hb.cell hs, World.cell?_alloc_mark]; rfl
  · rw [hb.cell hs, World.cell?_alloc_mark]; rfl
  · rw [hb.cell hs, World.cell?_alloc_mark]; rfl
  · rw [hb.frozen hs, World.frozen?_alloc_mark]; rfl
  · rw [hb.frozen hs, World.frozen?_alloc_mark]; rfl
  · rw [hb.frozen hs, World.frozen?_alloc_mark]; rfl
  · rw [hb.frozen hs, World.frozen?_alloc_mark]; rfl

end Go.Proofs.Ytobpnpkcafacjaa
