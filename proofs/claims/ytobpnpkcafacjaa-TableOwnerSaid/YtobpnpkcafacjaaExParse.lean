/- What Parse of package expr returns: the plain function parseV. -/
import Derived.Test.YtobpnpkcafacjaaExPar3
namespace Go.Proofs.Ytobpnpkcafacjaa
open Go.RowKit

/-- the expression, the place and the error -/
def parseV (ts : List Tk.Tok) (at_ : Int) : Ex × Int × Nat :=
  if 0 ≤ at_ ∧ at_ < ts.length ∧ Ps.kindAt ts (ts.length - 1) = 5 then ((Ps.PE ts 1 0 at_.toNat).ex, ((Ps.PE ts 1 0 at_.toNat).at_ : Int), (Ps.PE ts 1 0 at_.toNat).err) else (.mk 0 0 [] [], at_, 4)
/-- what Parse leaves -/
def ParsePost (w : World) (R : Ex × Int × Nat) (e : Ending) (w' : World) : Prop :=
  ∃ f : EF, e = .returned (.tuple #[f.val, .int .i64 R.2.1, .int .i64 (R.2.2 : Int)]) ∧ ExM w' (w.heap.size ≤ ·) R.1 f ∧ Below w.heap.size w w'

theorem parse_no (w : World) (at_ : Int) (W : World) (hW : Below w.heap.size w W) : ParsePost w (.mk 0 0 [] [], at_, 4) (.returned (.tuple #[.agg #[.int .i64 0, .int .i64 0, .string ⟨#[]⟩, .slice none 0 0], .int .i64 at_, .int .i64 4])) W :=
  ⟨⟨0, 0, [], none, 0, 0⟩, rfl, ExM.leaf _ _ _ _ _ _ _, hW⟩
theorem set4_below {w w1 : World} (h : Below w.heap.size w w1) (hr : w.heap.size < w1.heap.size) (u0 u1 u2 u3 : Value) (o : Obj) : Below w.heap.size w ((set4 w1 w.heap.size u0 u1 u2 u3).alloc o) := by
  obtain ⟨a1, a2, a3⟩ := set4_os w1 w.heap.size u0 u1 u2 u3
  exact ⟨a1.trans h.os, a2.trans h.tape, a3.trans h.output, by have := set4_size w1 w.heap.size u0 u1 u2 u3; simp; omega, fun b hb => (set4_alloc_keep w1 w.heap.size u0 u1 u2 u3 o b (by omega) (by omega)).trans (h.block b hb)⟩
theorem below_new {w w1 : World} {Z : Array Value} {t : TypeId} {P : Obj} (hG : ((w.alloc (.cells Z t)).alloc P).grownBy w1 (some (w.heap.size + 1))) : Below w.heap.size w w1 ∧ w1.heap[w.heap.size]? = some (.cells Z t (0, 0)) := by
  have hs : ((w.alloc (.cells Z t)).alloc P).heap.size = w.heap.size + 2 := by simp
  have hb : ∀ b, b ≤ w.heap.size → w1.heap[b]? = (w.alloc (.cells Z t)).heap[b]? := fun b hb => (hG.block b (by omega) (fun e => by injection e with e; omega)).trans (Below.heap_alloc _ _ b (by simp; omega))
  exact ⟨⟨hG.os, hG.tape, hG.output, by have := hG.size; omega, fun b hbb => (hb b (by omega)).trans (Below.heap_alloc w _ b hbb)⟩, (hb _ (Nat.le_refl _)).trans (heap_alloc_new w _)⟩

end Go.Proofs.Ytobpnpkcafacjaa
