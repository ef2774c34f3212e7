/- What Next and number of the made inputs' Source return. -/
import Derived.Test.YtiaonhpiiibkdaaRefLeaf
import Derived.Deep.QuietTactic
import Derived.BigQuiet
import Derived.Deep.Draws
namespace Go.Proofs.Ytiaonhpiiibkdaa
open Go.RowKit

/-- block g is a Source that gives the numbers xs, from place i on -/
def Src (w : World) (g : Nat) (xs : List Int) (i : Nat) : Prop :=
  ∃ A c, w.heap[g]? = some (.cells #[.slice A xs.length c, .int .i64 (i : Int)] 49 (0, 0)) ∧ i ≤ xs.length ∧ xs.length ≤ 1000 ∧
    ∀ k (h : k < xs.length), ∃ b off, A = some ⟨b, off, none⟩ ∧ b < g ∧ w.cell? ⟨b, off + k, none⟩ = some (.int .i64 xs[k]) ∧ -9223372036854775808 ≤ xs[k] ∧ xs[k] ≤ 9223372036854775807

def nextV (xs : List Int) (i n : Nat) : Nat := if h : i < xs.length then within xs[i] n else 0
def nextI (xs : List Int) (i : Nat) : Nat := if i < xs.length then i + 1 else i

set_option maxHeartbeats 400000 in
theorem within_big (x n : Int) (w : World) (_hx : -9223372036854775808 ≤ x ∧ x ≤ 9223372036854775807) (h0 : 0 < n) (_h1 : n ≤ 4611686018427387904) :
    Calls Try.prog 15 #[.int .i64 x, .int .i64 n] w fun e w' => e = .returned (.int .i64 (within x n.toNat)) ∧ w = w' := by
  have q1 : x.tmod n < n := Int.tmod_lt_of_pos x h0
  have q2 : -n < x.tmod n := Int.lt_tmod_of_pos x h0
  have t0 := bF (show n ≠ 0 by omega)
  go_enter Try.func15, Try.ntmps15
  go_wp2
  go_ret
  exact ⟨ret_int (within_eq x n h0), rfl⟩
theorem quiet_eq {P : Program} {f : FuncId} {args : Array Value} {w : World} {n : Nat} {v : Value}
    (h : Calls P f args (w.drewN n) fun e w' => e = .returned v ∧ w.drewN n = w') : Calls P f args (w.drewN n) fun e w'' => e = .returned v ∧ ∃ m, w'' = w.drewN m :=
  h.mono fun _ _ ⟨he, hm⟩ => ⟨he, n, hm.symm⟩

/-- the Source behind its step -/
theorem src_step {w : World} {g : Nat} {xs : List Int} {i : Nat} (hS : Src w g xs i) (j n m : Nat) (hj : j ≤ xs.length) : Src (((w.drewN n).setCell ⟨g, 1, none⟩ (.int .i64 (j : Int))).drewN m) g xs j := by
  obtain ⟨A, c, hb, _, hx, hc⟩ := hS
  refine ⟨A, c, ?_, hj, hx, ?_⟩
  · show ((w.drewN n).setCell ⟨g, 1, none⟩ (.int .i64 (j : Int))).heap[g]? = _
    have hb' : (w.drewN n).heap[g]? = some (.cells #[.slice A xs.length c, .int .i64 (i : Int)] 49 (0, 0)) := hb
    simp [World.setCell, Array.getElem?_modify]
    exact ⟨_, hb', rfl⟩
  · intro k hk
    obtain ⟨b, off, e, hbg, hcc, r⟩ := hc k hk
    refine ⟨b, off, e, hbg, ?_, r⟩
    have : (((w.drewN n).setCell ⟨g, 1, none⟩ (.int .i64 (j : Int))).drewN m).cell? ⟨b, off + k, none⟩ = (w.drewN n).cell? ⟨b, off + k, none⟩ :=
      World.cell?_of_block (Below.heap_setCell (w.drewN n) _ _ b (by simp; omega))
    rw [this]
    exact hcc
theorem grown_step (w : World) (g : Nat) (u : Value) (n m : Nat) : w.grownBy (((w.drewN n).setCell ⟨g, 1, none⟩ u).drewN m) (some g) := by
  refine ⟨rfl, rfl, rfl, ?_, ?_⟩
  · show w.heap.size ≤ ((w.drewN n).setCell ⟨g, 1, none⟩ u).heap.size
    simp [World.setCell]
  · intro k _ hk
    exact Below.heap_setCell (w.drewN n) _ _ k (by simp; exact fun h => hk (by rw [h]))

set_option maxRecDepth 100000 in
set_option maxHeartbeats 1000000 in
theorem next_any (w : World) (g : Nat) (xs : List Int) (i : Nat) (n : Int) (hS : Src w g xs i) (h0 : 0 < n) (h1 : n ≤ 4611686018427387904) :
    Calls Try.prog 22 #[.pointer (some ⟨g, 0, none⟩), .int .i64 n] w fun e w' => e = .returned (.int .i64 (nextV xs i n.toNat : Int)) ∧ Src w' g xs (nextI xs i) ∧ w.grownBy w' (some g) := by
  obtain ⟨A, c, hb, hi, hx, hc⟩ := hS
  have q0 : w.cell? ⟨g, 0, none⟩ = some (.slice A xs.length c) := by rw [cell_of_row w g 0 _ _ _ hb]; rfl
  have q1 : w.cell? ⟨g, 1, none⟩ = some (.int .i64 (i : Int)) := by rw [cell_of_row w g 1 _ _ _ hb]; rfl
  have f1 : w.frozen? ⟨g, 1, none⟩ = false := by simp [World.frozen?, hb]
  have HS : Hid (Src w g xs i) := ⟨A, c, hb, hi, hx, hc⟩
  have HC := Lib.hid hc
  clear hb hc
  by_cases hlt : i < xs.length
  · obtain ⟨b, off, rfl, hbg, hcc, r1, r2⟩ := HC.out i hlt
    have hne : b ≠ g := by omega
    have d1 : decide ((i : Int) ≥ (xs.length : Int)) = false := by simp; omega
    go_enter Try.func22, Try.ntmps22
    go_wp2
    go_quiet (fail)
    go_wp2
    have hstep := fun m => src_step HS.out (i + 1) nq m (by omega)
    have hgrow := fun m => grown_step w g (.int .i64 ((i + 1 : Nat) : Int)) nq m
    have k0 : ((w.drewN nq).setCell ⟨g, 1, none⟩ (.int .i64 ((i : Int) + 1))).cell? ⟨g, 0, none⟩ = some (.slice (some ⟨b, off, none⟩) xs.length c) := by
      rw [World.cell?_setCell_other _ _ _ _ (by intro e; injection e with _ e2; cases e2)]
      exact q0
    have k1 : ((w.drewN nq).setCell ⟨g, 1, none⟩ (.int .i64 ((i : Int) + 1))).cell? ⟨g, 1, none⟩ = some (.int .i64 ((i : Int) + 1)) := World.cell?_setCell_same _ _ _ q1
    have k2 : ((w.drewN nq).setCell ⟨g, 1, none⟩ (.int .i64 ((i : Int) + 1))).cell? ⟨b, off + i, none⟩ = some (.int .i64 xs[i]) := (World.cell?_of_block (Below.heap_setCell (w.drewN nq) _ _ b (by simp; omega))).trans hcc
    rw [show (((i + 1 : Nat) : Int)) = (i : Int) + 1 by omega] at hstep hgrow
    have HST := Lib.hid hstep
    have HGR := Lib.hid hgrow
    clear hstep hgrow q0 q1 f1 hcc
    generalize (w.drewN nq).setCell ⟨g, 1, none⟩ (.int .i64 ((i : Int) + 1)) = W1 at *
    go_quiet ((go_at_call 15; exact quiet_eq (within_big _ _ _ ⟨r1, r2⟩ h0 h1)))
    go_wp2
    go_ret
    refine ⟨ret_int ?_, ?_, ?_⟩
    · unfold nextV
      rw [dif_pos hlt]
    · unfold nextI
      rw [if_pos hlt]
      exact HST.out _
    · exact HGR.out _
  · have d1 : decide (xs.length ≤ i) = true := by simp; omega
    go_enter Try.func22, Try.ntmps22
    go_wp2
    go_quiet (fail)
    go_wp2
    go_ret
    refine ⟨ret_int ?_, ?_, ?_⟩
    · unfold nextV
      rw [dif_neg hlt]
      rfl
    · unfold nextI
      rw [if_neg hlt]
      exact HS.out
    · exact ⟨rfl, rfl, rfl, Nat.le_refl _, fun _ _ _ => rfl⟩

/-- a number of the Source, and the place behind it -/
def numG (xs : List Int) (i : Nat) : Nat × Nat :=
  if nextV xs i 8 = 1 then (nextV xs (nextI xs i) 4611686018427387904, nextI xs (nextI xs i)) else (nextV xs (nextI xs i) 4, nextI xs (nextI xs i))
theorem nextV_lt (xs : List Int) (i n : Nat) (h : 0 < n) : nextV xs i n < n := by
  unfold nextV
  split
  · exact within_lt _ _ h
  · exact h

theorem grown_trans {a b c : World} {r : Option Nat} (h : a.grownBy b r) (k : b.grownBy c r) : a.grownBy c r :=
  ⟨k.os.trans h.os, k.tape.trans h.tape, k.output.trans h.output, Nat.le_trans h.size k.size, fun i hi hr => (k.block i (Nat.lt_of_lt_of_le hi h.size) hr).trans (h.block i hi hr)⟩

set_option maxRecDepth 100000 in
set_option maxHeartbeats 1000000 in
theorem number_gen (w : World) (g : Nat) (xs : List Int) (i : Nat) (hS : Src w g xs i) :
    Calls Try.prog 29 #[.pointer (some ⟨g, 0, none⟩)] w fun e w' => e = .returned (.int .i64 ((numG xs i).1 : Int)) ∧ Src w' g xs (numG xs i).2 ∧ w.grownBy w' (some g) := by
  have HS := Lib.hid hS
  clear hS
  by_cases h8 : nextV xs i 8 = 1
  · have HR : Hid (numG xs i = (nextV xs (nextI xs i) 4611686018427387904, nextI xs (nextI xs i))) := by unfold numG; rw [if_pos h8]; rfl
    have t1 := bT (show ((nextV xs i 8 : Nat) : Int) = 1 by omega)
    clear h8
    go_enter Try.func29, Try.ntmps29
    go_wp2_with fail
    refine (next_any w g xs i 8 HS.out (by omega) (by omega)).mono ?_
    rintro e w1 ⟨rfl, hS1, hg1⟩
    rw [show (8 : Int).toNat = 8 from rfl]
    have HS1 := Lib.hid hS1
    have HG1 := Lib.hid hg1
    clear hS1 hg1
    go_wp2_with fail
    refine (next_any w1 g xs _ 4611686018427387904 HS1.out (by omega) (by omega)).mono ?_
    rintro e w2 ⟨rfl, hS2, hg2⟩
    have HS2 := Lib.hid hS2
    have HG2 := Lib.hid hg2
    clear hS2 hg2
    go_wp2_with fail
    go_ret
    rw [HR.out]
    exact ⟨rfl, HS2.out, grown_trans HG1.out HG2.out⟩
  · have HR : Hid (numG xs i = (nextV xs (nextI xs i) 4, nextI xs (nextI xs i))) := by unfold numG; rw [if_neg h8]; rfl
    have t1 := bF (show ((nextV xs i 8 : Nat) : Int) ≠ 1 by omega)
    clear h8
    go_enter Try.func29, Try.ntmps29
    go_wp2_with fail
    refine (next_any w g xs i 8 HS.out (by omega) (by omega)).mono ?_
    rintro e w1 ⟨rfl, hS1, hg1⟩
    rw [show (8 : Int).toNat = 8 from rfl]
    have HS1 := Lib.hid hS1
    have HG1 := Lib.hid hg1
    clear hS1 hg1
    go_wp2_with fail
    refine (next_any w1 g xs _ 4 HS1.out (by omega) (by omega)).mono ?_
    rintro e w2 ⟨rfl, hS2, hg2⟩
    have HS2 := Lib.hid hS2
    have HG2 := Lib.hid hg2
    clear hS2 hg2
    go_wp2_with fail
    go_ret
    rw [HR.out]
    exact ⟨rfl, HS2.out, grown_trans HG1.out HG2.out⟩

end Go.Proofs.Ytiaonhpiiibkdaa
