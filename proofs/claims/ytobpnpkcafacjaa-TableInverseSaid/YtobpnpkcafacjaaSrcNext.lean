/- What Next and number of the made inputs' Source return. -/
import Derived.Test.YtobpnpkcafacjaaRefLeaf
import Derived.Deep.QuietTactic
import Derived.BigQuiet
import Derived.Deep.Draws
namespace Go.Proofs.Ytobpnpkcafacjaa
open Go.RowKit

def nextV (xs : List Int) (i n : Nat) : Nat := if h : i < xs.length then within xs[i] n else 0
def nextI (xs : List Int) (i : Nat) : Nat := if i < xs.length then i + 1 else i

set_option maxHeartbeats 400000 in
theorem within_big (x n : Int) (w : World) (_hx : -9223372036854775808 ≤ x ∧ x ≤ 9223372036854775807) (h0 : 0 < n) (_h1 : n ≤ 4611686018427387904) :
    Calls Try.prog 10 #[.int .i64 x, .int .i64 n] w fun e w' => e = .returned (.int .i64 (within x n.toNat)) ∧ w = w' := by
  have q1 : x.tmod n < n := Int.tmod_lt_of_pos x h0
  have q2 : -n < x.tmod n := Int.lt_tmod_of_pos x h0
  have t0 := bF (show n ≠ 0 by omega)
  go_enter Try.func10, Try.ntmps10
  go_wp2
  go_ret
  exact ⟨ret_int (within_eq x n h0), rfl⟩
theorem quiet_eq {P : Program} {f : FuncId} {args : Array Value} {w : World} {n : Nat} {v : Value}
    (h : Calls P f args (w.drewN n) fun e w' => e = .returned v ∧ w.drewN n = w') : Calls P f args (w.drewN n) fun e w'' => e = .returned v ∧ ∃ m, w'' = w.drewN m :=
  h.mono fun _ _ ⟨he, hm⟩ => ⟨he, n, hm.symm⟩

theorem grown_step (w : World) (g : Nat) (u : Value) (n m : Nat) : w.grownBy (((w.drewN n).setCell ⟨g, 1, none⟩ u).drewN m) (some g) := by
  refine ⟨rfl, rfl, rfl, ?_, ?_⟩
  · show w.heap.size ≤ ((w.drewN n).setCell ⟨g, 1, none⟩ u).heap.size
    simp [World.setCell]
  · intro k _ hk
    exact Below.heap_setCell (w.drewN n) _ _ k (by simp; exact fun h => hk (by rw [h]))

/-- a number of the Source, and the place behind it -/
def numG (xs : List Int) (i : Nat) : Nat × Nat :=
  if nextV xs i 8 = 1 then (nextV xs (nextI xs i) 4611686018427387904, nextI xs (nextI xs i)) else (nextV xs (nextI xs i) 4, nextI xs (nextI xs i))
theorem nextV_lt (xs : List Int) (i n : Nat) (h : 0 < n) : nextV xs i n < n := by
  unfold nextV
  split
  · exact within_lt _ _ h
  · exact h

theorem grown_trans {a b c : World} {r : Option Nat} (h : a.grownBy b r) (k : b.grownBy c r) : a.grownBy c r :=
  ⟨k.os.trans h.os, k.tape.trans h.tape, k.output.trans h.output, Nat.le_trans h.size k.size, fun i hi hr => (k.block i (Nat.lt_of_lt_of_le hi h.size) hr).trans (h.block i hi hr)⟩

end Go.Proofs.Ytobpnpkcafacjaa
