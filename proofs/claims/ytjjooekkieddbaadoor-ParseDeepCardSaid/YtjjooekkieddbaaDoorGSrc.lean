/- What Next and number of the made inputs' Source return. Expressions as trees, and what it means that the memory holds one. No statement of the program is proved in this file. What the made inputs' Source.Expr returns: the expression of the plain function exprG. -/
import Derived.Test.YtjjooekkieddbaaDoorGTok
import Derived.Deep.QuietTactic
import Derived.BigQuiet
import Derived.Deep.Draws
namespace Go.Proofs.YtjjooekkieddbaaDoor
open Go.RowKit

/-- block g is a Source that gives the numbers xs, from place i on -/
def Src (w : World) (g : Nat) (xs : List Int) (i : Nat) : Prop :=
  ∃ A c, w.heap[g]? = some (.cells #[.slice A xs.length c, .int .i64 (i : Int)] 38 (0, 0)) ∧ i ≤ xs.length ∧ xs.length ≤ 1000 ∧
    ∀ k (h : k < xs.length), ∃ b off, A = some ⟨b, off, none⟩ ∧ b < g ∧ w.cell? ⟨b, off + k, none⟩ = some (.int .i64 xs[k]) ∧ -9223372036854775808 ≤ xs[k] ∧ xs[k] ≤ 9223372036854775807

def nextV (xs : List Int) (i n : Nat) : Nat := if h : i < xs.length then within xs[i] n else 0
def nextI (xs : List Int) (i : Nat) : Nat := if i < xs.length then i + 1 else i

set_option maxHeartbeats 400000 in
theorem within_big (x n : Int) (w : World) (_hx : -9223372036854775808 ≤ x ∧ x ≤ 9223372036854775807) (h0 : 0 < n) (_h1 : n ≤ 4611686018427387904) :
    Calls Tryd.prog 11 #[.int .i64 x, .int .i64 n] w fun e w' => e = .returned (.int .i64 (within x n.toNat)) ∧ w = w' := by
  have q1 : x.tmod n < n := Int.tmod_lt_of_pos x h0
  have q2 : -n < x.tmod n := Int.lt_tmod_of_pos x h0
  have t0 := bF (show n ≠ 0 by omega)
  go_enter Tryd.func11, Tryd.ntmps11
  go_wp2
  go_ret
  exact ⟨ret_int (within_eq x n h0), rfl⟩
theorem quiet_eq {P : Program} {f : FuncId} {args : Array Value} {w : World} {n : Nat} {v : Value}
    (h : Calls P f args (w.drewN n) fun e w' => e = .returned v ∧ w.drewN n = w') : Calls P f args (w.drewN n) fun e w'' => e = .returned v ∧ ∃ m, w'' = w.drewN m :=
  h.mono fun _ _ ⟨he, hm⟩ => ⟨he, n, hm.symm⟩

/-- the Source behind its step -/
theorem src_step {w : World} {g : Nat} {xs : List Int} {i : Nat} (hS : Src w g xs i) (j n m : Nat) (hj : j ≤ xs.length) : Src (((w.drewN n).setCell ⟨g, 1, none⟩ (.int .i64 (j : Int))).drewN m) g xs j := by
  obtain ⟨A, c, hb, _, hx, hc⟩ := hS
  refine ⟨A, c, ?_, hj, hx, ?_⟩
  · show ((w.drewN n).setCell ⟨g, 1, none⟩ (.int .i64 (j : Int))).heap[g]? = _
    have hb' : (w.drewN n).heap[g]? = some (.cells #[.slice A xs.length c, .int .i64 (i : Int)] 38 (0, 0)) := hb
    simp [World.setCell, Array.getElem?_modify]
    exact ⟨_, hb', rfl⟩
  · intro k hk
    obtain ⟨b, off, e, hbg, hcc, r⟩ := hc k hk
    refine ⟨b, off, e, hbg, ?_, r⟩
    have : (((w.drewN n).setCell ⟨g, 1, none⟩ (.int .i64 (j : Int))).drewN m).cell? ⟨b, off + k, none⟩ = (w.drewN n).cell? ⟨b, off + k, none⟩ :=
      World.cell?_of_block (Below.heap_setCell (w.drewN n) _ _ b (by simp; omega))
    rw [this]
    exact hcc
theorem grown_step (w : World) (g : Nat) (u : Value) (n m : Nat) : w.grownBy (((w.drewN n).setCell ⟨g, 1, none⟩ u).drewN m) (some g) := by
  refine ⟨rfl, rfl, rfl, ?_, ?_⟩
  · show w.heap.size ≤ ((w.drewN n).setCell ⟨g, 1, none⟩ u).heap.size
    simp [World.setCell]
  · intro k _ hk
    exact Below.heap_setCell (w.drewN n) _ _ k (by simp; exact fun h => hk (by rw [h]))

set_option maxRecDepth 100000 in
set_option maxHeartbeats 1000000 in
theorem next_any (w : World) (g : Nat) (xs : List Int) (i : Nat) (n : Int) (hS : Src w g xs i) (h0 : 0 < n) (h1 : n ≤ 4611686018427387904) :
    Calls Tryd.prog 16 #[.pointer (some ⟨g, 0, none⟩), .int .i64 n] w fun e w' => e = .returned (.int .i64 (nextV xs i n.toNat : Int)) ∧ Src w' g xs (nextI xs i) ∧ w.grownBy w' (some g) := by
  obtain ⟨A, c, hb, hi, hx, hc⟩ := hS
  have q0 : w.cell? ⟨g, 0, none⟩ = some (.slice A xs.length c) := by rw [cell_of_row w g 0 _ _ _ hb]; rfl
  have q1 : w.cell? ⟨g, 1, none⟩ = some (.int .i64 (i : Int)) := by rw [cell_of_row w g 1 _ _ _ hb]; rfl
  have f1 : w.frozen? ⟨g, 1, none⟩ = false := by simp [World.frozen?, hb]
  have HS : Hid (Src w g xs i) := ⟨A, c, hb, hi, hx, hc⟩
  have HC := Lib.hid hc
  clear hb hc
  by_cases hlt : i < xs.length
  · obtain ⟨b, off, rfl, hbg, hcc, r1, r2⟩ := HC.out i hlt
    have hne : b ≠ g := by omega
    have d1 : decide ((i : Int) ≥ (xs.length : Int)) = false := by simp; omega
    go_enter Tryd.func16, Tryd.ntmps16
    go_wp2
    go_quiet (fail)
    go_wp2
    have hstep := fun m => src_step HS.out (i + 1) nq m (by omega)
    have hgrow := fun m => grown_step w g (.int .i64 ((i + 1 : Nat) : Int)) nq m
    have k0 : ((w.drewN nq).setCell ⟨g, 1, none⟩ (.int .i64 ((i : Int) + 1))).cell? ⟨g, 0, none⟩ = some (.slice (some ⟨b, off, none⟩) xs.length c) := by
      rw [World.cell?_setCell_other _ _ _ _ (by intro e; injection e with _ e2; cases e2)]
      exact q0
    have k1 : ((w.drewN nq).setCell ⟨g, 1, none⟩ (.int .i64 ((i : Int) + 1))).cell? ⟨g, 1, none⟩ = some (.int .i64 ((i : Int) + 1)) := World.cell?_setCell_same _ _ _ q1
    have k2 : ((w.drewN nq).setCell ⟨g, 1, none⟩ (.int .i64 ((i : Int) + 1))).cell? ⟨b, off + i, none⟩ = some (.int .i64 xs[i]) := (World.cell?_of_block (Below.heap_setCell (w.drewN nq) _ _ b (by simp; omega))).trans hcc
    rw [show (((i + 1 : Nat) : Int)) = (i : Int) + 1 by omega] at hstep hgrow
    have HST := Lib.hid hstep
    have HGR := Lib.hid hgrow
    clear hstep hgrow q0 q1 f1 hcc
    generalize (w.drewN nq).setCell ⟨g, 1, none⟩ (.int .i64 ((i : Int) + 1)) = W1 at *
    go_quiet ((go_at_call 11; exact quiet_eq (within_big _ _ _ ⟨r1, r2⟩ h0 h1)))
    go_wp2
    go_ret
    refine ⟨ret_int ?_, ?_, ?_⟩
    · unfold nextV
      rw [dif_pos hlt]
    · unfold nextI
      rw [if_pos hlt]
      exact HST.out _
    · exact HGR.out _
  · have d1 : decide (xs.length ≤ i) = true := by simp; omega
    go_enter Tryd.func16, Tryd.ntmps16
    go_wp2
    go_quiet (fail)
    go_wp2
    go_ret
    refine ⟨ret_int ?_, ?_, ?_⟩
    · unfold nextV
      rw [dif_neg hlt]
      rfl
    · unfold nextI
      rw [if_neg hlt]
      exact HS.out
    · exact ⟨rfl, rfl, rfl, Nat.le_refl _, fun _ _ _ => rfl⟩

/-- a number of the Source, and the place behind it -/
def numG (xs : List Int) (i : Nat) : Nat × Nat :=
  if nextV xs i 8 = 1 then (nextV xs (nextI xs i) 4611686018427387904, nextI xs (nextI xs i)) else (nextV xs (nextI xs i) 4, nextI xs (nextI xs i))
theorem nextV_lt (xs : List Int) (i n : Nat) (h : 0 < n) : nextV xs i n < n := by
  unfold nextV
  split
  · exact within_lt _ _ h
  · exact h

theorem grown_trans {a b c : World} {r : Option Nat} (h : a.grownBy b r) (k : b.grownBy c r) : a.grownBy c r :=
  ⟨k.os.trans h.os, k.tape.trans h.tape, k.output.trans h.output, Nat.le_trans h.size k.size, fun i hi hr => (k.block i (Nat.lt_of_lt_of_le hi h.size) hr).trans (h.block i hi hr)⟩

set_option maxRecDepth 100000 in
set_option maxHeartbeats 1000000 in
theorem number_gen (w : World) (g : Nat) (xs : List Int) (i : Nat) (hS : Src w g xs i) :
    Calls Tryd.prog 34 #[.pointer (some ⟨g, 0, none⟩)] w fun e w' => e = .returned (.int .i64 ((numG xs i).1 : Int)) ∧ Src w' g xs (numG xs i).2 ∧ w.grownBy w' (some g) := by
  have HS := Lib.hid hS
  clear hS
  by_cases h8 : nextV xs i 8 = 1
  · have HR : Hid (numG xs i = (nextV xs (nextI xs i) 4611686018427387904, nextI xs (nextI xs i))) := by unfold numG; rw [if_pos h8]; rfl
    have t1 := bT (show ((nextV xs i 8 : Nat) : Int) = 1 by omega)
    clear h8
    go_enter Tryd.func34, Tryd.ntmps34
    go_wp2_with fail
    refine (next_any w g xs i 8 HS.out (by omega) (by omega)).mono ?_
    rintro e w1 ⟨rfl, hS1, hg1⟩
    rw [show (8 : Int).toNat = 8 from rfl]
    have HS1 := Lib.hid hS1
    have HG1 := Lib.hid hg1
    clear hS1 hg1
    go_wp2_with fail
    refine (next_any w1 g xs _ 4611686018427387904 HS1.out (by omega) (by omega)).mono ?_
    rintro e w2 ⟨rfl, hS2, hg2⟩
    have HS2 := Lib.hid hS2
    have HG2 := Lib.hid hg2
    clear hS2 hg2
    go_wp2_with fail
    go_ret
    rw [HR.out]
    exact ⟨rfl, HS2.out, grown_trans HG1.out HG2.out⟩
  · have HR : Hid (numG xs i = (nextV xs (nextI xs i) 4, nextI xs (nextI xs i))) := by unfold numG; rw [if_neg h8]; rfl
    have t1 := bF (show ((nextV xs i 8 : Nat) : Int) ≠ 1 by omega)
    clear h8
    go_enter Tryd.func34, Tryd.ntmps34
    go_wp2_with fail
    refine (next_any w g xs i 8 HS.out (by omega) (by omega)).mono ?_
    rintro e w1 ⟨rfl, hS1, hg1⟩
    rw [show (8 : Int).toNat = 8 from rfl]
    have HS1 := Lib.hid hS1
    have HG1 := Lib.hid hg1
    clear hS1 hg1
    go_wp2_with fail
    refine (next_any w1 g xs _ 4 HS1.out (by omega) (by omega)).mono ?_
    rintro e w2 ⟨rfl, hS2, hg2⟩
    have HS2 := Lib.hid hS2
    have HG2 := Lib.hid hg2
    clear hS2 hg2
    go_wp2_with fail
    go_ret
    rw [HR.out]
    exact ⟨rfl, HS2.out, grown_trans HG1.out HG2.out⟩

end Go.Proofs.YtjjooekkieddbaaDoor

namespace Go.Proofs.YtjjooekkieddbaaDoor
open Go.RowKit

inductive Ex where
  | mk (op num : Int) (name : List UInt8) (args : List Ex)

/-- the four fields of an expression's value -/
structure EF where
  op : Int
  num : Int
  name : List UInt8
  A : Option Addr
  n : Nat
  c : Nat
def EF.val (f : EF) : Value := .agg #[.int .i64 f.op, .int .i64 f.num, .string ⟨f.name.toArray⟩, .slice f.A f.n f.c]

/-- the four cells at a place are these fields -/
def EFat (w : World) (b o : Nat) (f : EF) : Prop :=
  w.cell? ⟨b, o, none⟩ = some (.int .i64 f.op) ∧ w.cell? ⟨b, o + 1, none⟩ = some (.int .i64 f.num) ∧ w.cell? ⟨b, o + 2, none⟩ = some (.string ⟨f.name.toArray⟩) ∧ w.cell? ⟨b, o + 3, none⟩ = some (.slice f.A f.n f.c)

/-- the fields are those of the expression, and what they lead to lies in blocks of S -/
inductive ExM (w : World) (S : Nat → Prop) : Ex → EF → Prop
  | mk (op num : Int) (name : List UInt8) (args : List Ex) (A : Option Addr) (c : Nat) (F : Nat → EF)
      (hc : ∀ i, i < args.length → ∃ b off, A = some ⟨b, off, none⟩ ∧ S b ∧ EFat w b (off + i * 4) (F i))
      (hs : ∀ i (h : i < args.length), ExM w S args[i] (F i)) : ExM w S (.mk op num name args) ⟨op, num, name, A, args.length, c⟩

theorem EFat.keep {w w' : World} {b o : Nat} {f : EF} (h : EFat w b o f) (hk : w'.heap[b]? = w.heap[b]?) : EFat w' b o f := by
  have e : ∀ o', w'.cell? ⟨b, o', none⟩ = w.cell? ⟨b, o', none⟩ := fun o' => World.cell?_of_block hk
  exact ⟨(e _).trans h.1, (e _).trans h.2.1, (e _).trans h.2.2.1, (e _).trans h.2.2.2⟩
theorem EFat.lt {w : World} {b o : Nat} {f : EF} (h : EFat w b o f) : b < w.heap.size := World.block_lt_of_cell? _ _ h.1

theorem ExM.keep {w w' : World} {S : Nat → Prop} {E : Ex} {f : EF} (h : ExM w S E f) (hk : ∀ b, S b → b < w.heap.size → w'.heap[b]? = w.heap[b]?) : ExM w' S E f := by
  induction h with
  | mk op num name args A c F hc hs ih =>
    refine .mk op num name args A c F (fun i hi => ?_) ih
    obtain ⟨b, off, e, hb, hat⟩ := hc i hi
    exact ⟨b, off, e, hb, hat.keep (hk b hb hat.lt)⟩
theorem ExM.more {w : World} {S S' : Nat → Prop} {E : Ex} {f : EF} (h : ExM w S E f) (hS : ∀ b, S b → S' b) : ExM w S' E f := by
  induction h with
  | mk op num name args A c F hc hs ih =>
    refine .mk op num name args A c F (fun i hi => ?_) ih
    obtain ⟨b, off, e, hb, hat⟩ := hc i hi
    exact ⟨b, off, e, hS b hb, hat⟩
theorem ExM.grown {w w' : World} {g : Nat} {E : Ex} {f : EF} (h : ExM w (g < ·) E f) (hg : w.grownBy w' (some g)) : ExM w' (g < ·) E f :=
  h.keep fun b hb hlt => hg.block b hlt (fun e => by injection e with e; omega)

/-- a leaf -/
theorem ExM.leaf (w : World) (S : Nat → Prop) (op num : Int) (name : List UInt8) (A : Option Addr) (c : Nat) : ExM w S (.mk op num name []) ⟨op, num, name, A, 0, c⟩ :=
  .mk op num name [] A c (fun _ => ⟨0, 0, [], none, 0, 0⟩) (fun i hi => absurd hi (by simp)) (fun i hi => absurd hi (by simp))
/-- a node with one argument, which lies in a new block -/
theorem ExM.one {w : World} {S : Nat → Prop} {E : Ex} {f : EF} (op num : Int) (name : List UInt8) (b off c : Nat) (hS : S b) (hat : EFat w b off f) (h : ExM w S E f) : ExM w S (.mk op num name [E]) ⟨op, num, name, some ⟨b, off, none⟩, 1, c⟩ := by
  refine .mk op num name [E] (some ⟨b, off, none⟩) c (fun _ => f) (fun i hi => ⟨b, off, rfl, hS, ?_⟩) (fun i hi => ?_)
  · have : i = 0 := by simpa using hi
    subst this
    simpa using hat
  · have : i = 0 := by simpa using hi
    subst this
    exact h
/-- a node with two arguments, which lie in a new block -/
theorem ExM.two {w : World} {S : Nat → Prop} {E E' : Ex} {f f' : EF} (op num : Int) (name : List UInt8) (b off c : Nat) (hS : S b) (hat : EFat w b off f) (hat' : EFat w b (off + 4) f') (h : ExM w S E f) (h' : ExM w S E' f') : ExM w S (.mk op num name [E, E']) ⟨op, num, name, some ⟨b, off, none⟩, 2, c⟩ := by
  refine .mk op num name [E, E'] (some ⟨b, off, none⟩) c (fun i => if i = 0 then f else f') (fun i hi => ⟨b, off, rfl, hS, ?_⟩) (fun i hi => ?_)
  · have : i = 0 ∨ i = 1 := by simp at hi; omega
    rcases this with rfl | rfl
    · simpa using hat
    · simpa using hat'
  · have : i = 0 ∨ i = 1 := by simp at hi; omega
    rcases this with rfl | rfl
    · exact h
    · exact h'

/-- a slice of strings outside block g -/
def StrN (w : World) (g : Nat) (A : Option Addr) (xs : List (List UInt8)) : Prop :=
  ∀ i (h : i < xs.length), ∃ b off, A = some ⟨b, off, none⟩ ∧ b ≠ g ∧ w.cell? ⟨b, off + i, none⟩ = some (.string ⟨xs[i].toArray⟩)
theorem StrN.grown {w w' : World} {g : Nat} {A : Option Addr} {xs : List (List UInt8)} (h : StrN w g A xs) (hg : w.grownBy w' (some g)) : StrN w' g A xs := by
  intro i hi
  obtain ⟨b, off, e, hb, hc⟩ := h i hi
  exact ⟨b, off, e, hb, (World.cell?_of_block (hg.block b (World.block_lt_of_cell? _ _ hc) (fun e => by injection e with e; exact hb e))).trans hc⟩

/-- the expression that the Source makes, and the place behind it -/
def exprG (names : List (List UInt8)) (xs : List Int) : Nat → Nat → Ex × Nat
  | deep, i =>
    let k := nextV xs i 10
    let i1 := nextI xs i
    match deep with
    | 0 => leafG names xs i1
    | d + 1 =>
      if k < 2 then leafG names xs i1
      else if k < 4 then
        let r := exprG names xs d i1
        (.mk (3 + (k % 2 : Nat)) 0 [] [r.1], r.2)
      else
        let r := exprG names xs d (nextI xs i1)
        let r' := exprG names xs d r.2
        (.mk (5 + (nextV xs i1 13 : Nat)) 0 [] [r.1, r'.1], r'.2)
where
  leafG (names : List (List UInt8)) (xs : List Int) (i1 : Nat) : Ex × Nat :=
    if 0 < names.length ∧ nextV xs i1 2 = 1 then (.mk 2 0 (names.getD (nextV xs (nextI xs i1) names.length) []) [], nextI xs (nextI xs i1))
    else let i2 := if 0 < names.length then nextI xs i1 else i1
      (.mk 1 ((numG xs i2).1 : Int) [] [], (numG xs i2).2)

end Go.Proofs.YtjjooekkieddbaaDoor

namespace Go.Proofs.YtjjooekkieddbaaDoor
open Go.RowKit

theorem Src.keep {w w' : World} {g : Nat} {xs : List Int} {i : Nat} (h : Src w g xs i) (hk : ∀ b, b ≤ g → w'.heap[b]? = w.heap[b]?) : Src w' g xs i := by
  obtain ⟨A, c, hb, hi, hx, hc⟩ := h
  refine ⟨A, c, (hk g (Nat.le_refl _)).trans hb, hi, hx, fun k hkk => ?_⟩
  obtain ⟨b, off, e, hbg, hcc, r⟩ := hc k hkk
  exact ⟨b, off, e, hbg, (World.cell?_of_block (hk b (by omega))).trans hcc, r⟩
theorem Src.lt {w : World} {g : Nat} {xs : List Int} {i : Nat} (h : Src w g xs i) : g < w.heap.size := by
  obtain ⟨A, c, hb, _⟩ := h
  exact lt_of_block hb
theorem Src.alloc {w : World} {g : Nat} {xs : List Int} {i : Nat} (h : Src w g xs i) (o : Obj) : Src (w.alloc o) g xs i :=
  h.keep fun b hb => Below.heap_alloc w o b (by have := h.lt; omega)
theorem StrN.alloc {w : World} {g : Nat} {A : Option Addr} {xs : List (List UInt8)} (h : StrN w g A xs) (o : Obj) : StrN (w.alloc o) g A xs := by
  intro i hi
  obtain ⟨b, off, e, hb, hc⟩ := h i hi
  exact ⟨b, off, e, hb, (World.cell?_alloc_lt w o _ (World.block_lt_of_cell? _ _ hc)).trans hc⟩

/-- the cells of a block of four cells that was laid last, behind calls that changed block g alone -/
theorem four_grown {w w2 : World} {g : Nat} {c0 c1 c2 c3 : Value} {t : TypeId} (hlt : g < w.heap.size) (hb : (w.alloc (.cells #[c0, c1, c2, c3] t)).grownBy w2 (some g)) :
    w2.cell? ⟨w.heap.size, 0, none⟩ = some c0 ∧ w2.cell? ⟨w.heap.size, 1, none⟩ = some c1 ∧ w2.cell? ⟨w.heap.size, 2, none⟩ = some c2 ∧ w2.cell? ⟨w.heap.size, 3, none⟩ = some c3 ∧
    w2.frozen? ⟨w.heap.size, 0, none⟩ = false ∧ w2.frozen? ⟨w.heap.size, 1, none⟩ = false ∧ w2.frozen? ⟨w.heap.size, 2, none⟩ = false ∧ w2.frozen? ⟨w.heap.size, 3, none⟩ = false ∧ w.heap.size < w2.heap.size := by
  have hs : w.heap.size < (w.alloc (.cells #[c0, c1, c2, c3] t)).heap.size := by simp
  have hk := hb.block w.heap.size hs (fun e => by injection e with e; omega)
  have e1 : ∀ o, w2.cell? ⟨w.heap.size, o, none⟩ = (w.alloc (.cells #[c0, c1, c2, c3] t)).cell? ⟨w.heap.size, o, none⟩ := fun o => World.cell?_of_block hk
  have e2 : ∀ o, w2.frozen? ⟨w.heap.size, o, none⟩ = (w.alloc (.cells #[c0, c1, c2, c3] t)).frozen? ⟨w.heap.size, o, none⟩ := fun o => World.frozen?_of_block hk
  refine ⟨?_, ?_, ?_, ?_, ?_, ?_, ?_, ?_, Nat.lt_of_lt_of_le hs hb.size⟩
  · rw [e1, World.cell?_alloc_mark]; rfl
  · rw [e1, World.cell?_alloc_mark]; rfl
  · rw [e1, World.cell?_alloc_mark]; rfl
  · rw [e1, World.cell?_alloc_mark]; rfl
  · rw [e2, World.frozen?_alloc_mark]; rfl
  · rw [e2, World.frozen?_alloc_mark]; rfl
  · rw [e2, World.frozen?_alloc_mark]; rfl
  · rw [e2, World.frozen?_alloc_mark]; rfl

/-- a world with the four cells of block r written -/
def set4 (w : World) (r : Nat) (u0 u1 u2 u3 : Value) : World := (((w.setCell ⟨r, 0, none⟩ u0).setCell ⟨r, 1, none⟩ u1).setCell ⟨r, 2, none⟩ u2).setCell ⟨r, 3, none⟩ u3
theorem set4_size (w : World) (r : Nat) (u0 u1 u2 u3 : Value) : (set4 w r u0 u1 u2 u3).heap.size = w.heap.size := by
  unfold set4
  simp [World.setCell]
theorem set4_keep (w : World) (r : Nat) (u0 u1 u2 u3 : Value) (b : Nat) (hb : b ≠ r) : (set4 w r u0 u1 u2 u3).heap[b]? = w.heap[b]? := by
  unfold set4
  rw [Below.heap_setCell _ _ _ b hb, Below.heap_setCell _ _ _ b hb, Below.heap_setCell _ _ _ b hb, Below.heap_setCell _ _ _ b hb]
theorem set4_alloc_keep (w : World) (r : Nat) (u0 u1 u2 u3 : Value) (o : Obj) (b : Nat) (hb : b ≠ r) (hlt : b < w.heap.size) : ((set4 w r u0 u1 u2 u3).alloc o).heap[b]? = w.heap[b]? := by
  rw [Below.heap_alloc _ o b (by rw [set4_size]; exact hlt), set4_keep w r u0 u1 u2 u3 b hb]
theorem efat_new (w : World) (r : Nat) (u0 u1 u2 u3 : Value) (l : List Value) (t : TypeId) (o : Nat) (f : EF) (h : l[o]? = some (.int .i64 f.op) ∧ l[o + 1]? = some (.int .i64 f.num) ∧ l[o + 2]? = some (.string ⟨f.name.toArray⟩) ∧ l[o + 3]? = some (.slice f.A f.n f.c)) :
    EFat ((set4 w r u0 u1 u2 u3).alloc (.cells l.toArray t)) w.heap.size o f := by
  have hs := set4_size w r u0 u1 u2 u3
  have e : ∀ o', ((set4 w r u0 u1 u2 u3).alloc (.cells l.toArray t)).cell? ⟨w.heap.size, o', none⟩ = l[o']? := by
    intro o'
    rw [← hs, World.cell?_alloc_mark]
    simp
  exact ⟨(e _).trans h.1, (e _).trans h.2.1, (e _).trans h.2.2.1, (e _).trans h.2.2.2⟩
theorem src_new {w : World} {g r : Nat} {xs : List Int} {i : Nat} (h : Src w g xs i) (hr : g < r) (u0 u1 u2 u3 : Value) (o : Obj) : Src ((set4 w r u0 u1 u2 u3).alloc o) g xs i :=
  h.keep fun b hb => set4_alloc_keep w r u0 u1 u2 u3 o b (by omega) (by have := h.lt; omega)
theorem grown_new {w w2 : World} {g r : Nat} (h : w.grownBy w2 (some g)) (hr : w.heap.size ≤ r) (u0 u1 u2 u3 : Value) (o : Obj) : w.grownBy ((set4 w2 r u0 u1 u2 u3).alloc o) (some g) :=
  ⟨h.os, h.tape, h.output, by have := h.size; have := set4_size w2 r u0 u1 u2 u3; simp; omega, fun i hi hne => (set4_alloc_keep w2 r u0 u1 u2 u3 o i (by omega) (by have := h.size; omega)).trans (h.block i hi hne)⟩
theorem exM_new {w2 : World} {n0 n1 r : Nat} {E : Ex} {f : EF} (h : ExM w2 (n1 ≤ ·) E f) (h0 : n0 ≤ n1) (hr : r < n1) (u0 u1 u2 u3 : Value) (o : Obj) : ExM ((set4 w2 r u0 u1 u2 u3).alloc o) (n0 ≤ ·) E f :=
  (h.keep fun b hb hlt => set4_alloc_keep w2 r u0 u1 u2 u3 o b (by omega) hlt).more fun b hb => Nat.le_trans h0 hb

theorem exprG_leaf (names : List (List UInt8)) (xs : List Int) (d i : Nat) (h : nextV xs i 10 < 2) : exprG names xs (d + 1) i = exprG.leafG names xs (nextI xs i) := by
  rw [exprG]
  dsimp only
  rw [if_pos h]
theorem exprG_un (names : List (List UInt8)) (xs : List Int) (d i : Nat) (h2 : ¬ nextV xs i 10 < 2) (h4 : nextV xs i 10 < 4) : exprG names xs (d + 1) i = (.mk (3 + (nextV xs i 10 % 2 : Nat)) 0 [] [(exprG names xs d (nextI xs i)).1], (exprG names xs d (nextI xs i)).2) := by
  rw [exprG]
  dsimp only
  rw [if_neg h2, if_pos h4]
theorem exprG_bin (names : List (List UInt8)) (xs : List Int) (d i : Nat) (h2 : ¬ nextV xs i 10 < 2) (h4 : ¬ nextV xs i 10 < 4) : exprG names xs (d + 1) i =
    (.mk (5 + (nextV xs (nextI xs i) 13 : Nat)) 0 [] [(exprG names xs d (nextI xs (nextI xs i))).1, (exprG names xs d (exprG names xs d (nextI xs (nextI xs i))).2).1], (exprG names xs d (exprG names xs d (nextI xs (nextI xs i))).2).2) := by
  rw [exprG]
  dsimp only
  rw [if_neg h2, if_neg h4]

/-- what a call leaves that makes an expression -/
def ExprPost (w : World) (g : Nat) (xs : List Int) (R : Ex × Nat) (e : Ending) (w' : World) : Prop :=
  ∃ f : EF, e = .returned f.val ∧ ExM w' (w.heap.size ≤ ·) R.1 f ∧ Src w' g xs R.2 ∧ w.grownBy w' (some g)

theorem grown_of_alloc {w w' : World} {o : Obj} {r : Option Nat} (h : (w.alloc o).grownBy w' r) : w.grownBy w' r :=
  ⟨h.os, h.tape, h.output, Nat.le_trans (by simp) h.size, fun i hi hr => (h.block i (by simp; omega) hr).trans (Below.heap_alloc w o i hi)⟩
theorem grown_set {w w' : World} {r : Option Nat} (h : w.grownBy w' r) {p : Addr} (hp : w.heap.size ≤ p.block) (u : Value) : w.grownBy (w'.setCell p u) r :=
  ⟨h.os, h.tape, h.output, by simpa [World.setCell] using h.size, fun i hi hr => (Below.heap_setCell w' p u i (by omega)).trans (h.block i hi hr)⟩
theorem Src.set {w : World} {g : Nat} {xs : List Int} {i : Nat} (h : Src w g xs i) {p : Addr} (hp : g < p.block) (u : Value) : Src (w.setCell p u) g xs i :=
  h.keep fun b hb => Below.heap_setCell w p u b (by omega)

set_option maxRecDepth 100000 in
set_option maxHeartbeats 4000000 in
theorem srcExpr_any (names : List (List UInt8)) (xs : List Int) (g : Nat) (A : Option Addr) (cap : Nat) (hnl : names.length ≤ 1000000) (deep : Nat) : ∀ (i : Nat) (w : World), deep ≤ 1000 → Src w g xs i → StrN w g A names →
    Calls Tryd.prog 19 #[.pointer (some ⟨g, 0, none⟩), .slice A names.length cap, .int .i64 (deep : Int)] w (ExprPost w g xs (exprG names xs deep i)) := by
  induction deep with
  | zero =>
    intro i w _ hS hN
    have hgw := hS.lt
    have HS0 := Lib.hid (hS.alloc (.cells #[.int .i64 0, .int .i64 0, .string ⟨#[]⟩, .slice none 0 0] 25))
    have HN0 := Lib.hid (hN.alloc (.cells #[.int .i64 0, .int .i64 0, .string ⟨#[]⟩, .slice none 0 0] 25))
    clear hS hN
    go_enter Tryd.func19, Tryd.ntmps19
    go_wp2_with fail
    refine (next_any _ g xs _ 10 HS0.out (by omega) (by omega)).mono ?_
    rintro e w1 ⟨rfl, hS, hG⟩
    rw [show (10 : Int).toNat = 10 from rfl]
    have HSw1 := Lib.hid hS
    have HGw1 := Lib.hid (hG)
    clear hS hG
    have HRL : Hid (exprG names xs 0 i = exprG.leafG names xs (nextI xs i)) := by unfold exprG; rfl
    by_cases hn0 : 0 < names.length
    · have d0 : decide ((0 : Int) < (names.length : Int)) = true := by simp; omega
      go_wp2_with fail
      refine (next_any _ g xs _ 2 HSw1.out (by omega) (by omega)).mono ?_
      rintro e w2 ⟨rfl, hS, hG⟩
      rw [show (2 : Int).toNat = 2 from rfl]
      have HSw2 := Lib.hid hS
      have HGw2 := Lib.hid (grown_trans HGw1.out hG)
      clear hS hG
      have HNw2 := Lib.hid (HN0.out.grown HGw2.out)
      by_cases h2 : nextV xs (nextI xs i) 2 = 1
      · have t1 := bT (show ((nextV xs (nextI xs i) 2 : Nat) : Int) = 1 by omega)
        have HR : Hid (exprG names xs 0 i = (.mk 2 0 (names.getD (nextV xs (nextI xs (nextI xs i)) names.length) []) [], nextI xs (nextI xs (nextI xs i)))) := by
          rw [HRL.out]
          unfold exprG.leafG
          rw [if_pos ⟨hn0, h2⟩]
          rfl
        clear h2
        go_wp2_with fail
        refine (next_any _ g xs _ names.length HSw2.out (by omega) (by omega)).mono ?_
        rintro e w3 ⟨rfl, hS, hG⟩
        rw [Int.toNat_natCast]
        have HSw3 := Lib.hid hS
        have HGw3 := Lib.hid (grown_trans HGw2.out hG)
        clear hS hG
        have hr := nextV_lt xs (nextI xs (nextI xs i)) names.length hn0
        obtain ⟨b, off, hA, hbg, hcc⟩ := (HN0.out.grown HGw3.out) _ hr
        subst hA
        have hgd : names.getD (nextV xs (nextI xs (nextI xs i)) names.length) [] = names[nextV xs (nextI xs (nextI xs i)) names.length] := by simp [List.getD, List.getElem?_eq_getElem hr]
        rw [hgd] at HR
        clear hgd
        generalize names[nextV xs (nextI xs (nextI xs i)) names.length] = nm at *
        generalize nextV xs (nextI xs (nextI xs i)) names.length = r at *
        obtain ⟨q0, q1, q2, q3, f0, f1, f2, f3, hz⟩ := four_grown hgw HGw3.out
        go_wp2_with fail
        refine bodyPost_ret (v := .agg #[.int .i64 2, .int .i64 0, .string ⟨nm.toArray⟩, .slice none 0 0]) (by simp [results, Tryd.results19, go_sem, q0, q1, q2, q3]) rfl ⟨⟨2, 0, nm, none, 0, 0⟩, rfl, ?_, ?_, ?_⟩
        · rw [HR.out]
          exact ExM.leaf _ _ _ _ _ _ _
        · rw [HR.out]
          (repeat (with_reducible refine Src.set ?_ hgw _)); exact HSw3.out
        · (repeat (with_reducible refine grown_set ?_ (Nat.le_refl _) _)); exact grown_of_alloc HGw3.out
      · have t1 := bF (show ((nextV xs (nextI xs i) 2 : Nat) : Int) ≠ 1 by omega)
        have HR : Hid (exprG names xs 0 i = (.mk 1 ((numG xs (nextI xs (nextI xs i))).1 : Int) [] [], (numG xs (nextI xs (nextI xs i))).2)) := by
          rw [HRL.out]
          unfold exprG.leafG
          rw [if_neg (fun h => h2 h.2), if_pos hn0]
          rfl
        clear h2
        go_wp2_with fail
        refine (number_gen _ g xs _ HSw2.out).mono ?_
        rintro e w9 ⟨rfl, hS, hG⟩
        have HSw9 := Lib.hid hS
        have HGw9 := Lib.hid (grown_trans HGw2.out hG)
        clear hS hG
        obtain ⟨q0, q1, q2, q3, f0, f1, f2, f3, hz⟩ := four_grown hgw HGw9.out
        go_wp2_with fail
        refine bodyPost_ret (v := .agg #[.int .i64 1, .int .i64 ((numG xs (nextI xs (nextI xs i))).1 : Int), .string ⟨#[]⟩, .slice none 0 0]) (by simp [results, Tryd.results19, go_sem, q0, q1, q2, q3]) rfl ⟨⟨1, ((numG xs (nextI xs (nextI xs i))).1 : Int), [], none, 0, 0⟩, rfl, ?_, ?_, ?_⟩
        · rw [HR.out]
          exact ExM.leaf _ _ _ _ _ _ _
        · rw [HR.out]
          (repeat (with_reducible refine Src.set ?_ hgw _)); exact HSw9.out
        · (repeat (with_reducible refine grown_set ?_ (Nat.le_refl _) _)); exact grown_of_alloc HGw9.out
    · have d0 : decide ((0 : Int) < (names.length : Int)) = false := decide_eq_false (by omega)
      have HR : Hid (exprG names xs 0 i = (.mk 1 ((numG xs (nextI xs i)).1 : Int) [] [], (numG xs (nextI xs i)).2)) := by
        rw [HRL.out]
        unfold exprG.leafG
        rw [if_neg (fun h => hn0 h.1), if_neg hn0]
        rfl
      go_wp2_with fail
      refine (number_gen _ g xs _ HSw1.out).mono ?_
      rintro e w9 ⟨rfl, hS, hG⟩
      have HSw9 := Lib.hid hS
      have HGw9 := Lib.hid (grown_trans HGw1.out hG)
      clear hS hG
      obtain ⟨q0, q1, q2, q3, f0, f1, f2, f3, hz⟩ := four_grown hgw HGw9.out
      go_wp2_with fail
      refine bodyPost_ret (v := .agg #[.int .i64 1, .int .i64 ((numG xs (nextI xs i)).1 : Int), .string ⟨#[]⟩, .slice none 0 0]) (by simp [results, Tryd.results19, go_sem, q0, q1, q2, q3]) rfl ⟨⟨1, ((numG xs (nextI xs i)).1 : Int), [], none, 0, 0⟩, rfl, ?_, ?_, ?_⟩
      · rw [HR.out]
        exact ExM.leaf _ _ _ _ _ _ _
      · rw [HR.out]
        (repeat (with_reducible refine Src.set ?_ hgw _)); exact HSw9.out
      · (repeat (with_reducible refine grown_set ?_ (Nat.le_refl _) _)); exact grown_of_alloc HGw9.out
  | succ d ih =>
    intro i w hd hS hN
    have IH := Lib.hid ih
    clear ih
    have hgw := hS.lt
    have HS0 := Lib.hid (hS.alloc (.cells #[.int .i64 0, .int .i64 0, .string ⟨#[]⟩, .slice none 0 0] 25))
    have HN0 := Lib.hid (hN.alloc (.cells #[.int .i64 0, .int .i64 0, .string ⟨#[]⟩, .slice none 0 0] 25))
    clear hS hN
    have tD := bF (show (((d + 1 : Nat) : Int)) ≠ 0 by omega)
    have tE := bF (show ((d : Int) + 1) ≠ 0 by omega)
    go_enter Tryd.func19, Tryd.ntmps19
    go_wp2_with fail
    refine (next_any _ g xs _ 10 HS0.out (by omega) (by omega)).mono ?_
    rintro e w1 ⟨rfl, hS, hG⟩
    rw [show (10 : Int).toNat = 10 from rfl]
    have HSw1 := Lib.hid hS
    have HGw1 := Lib.hid hG
    clear hS hG
    have hkk := nextV_lt xs i 10 (by omega)
    by_cases hk2 : nextV xs i 10 < 2
    · have dk : decide (((nextV xs i 10 : Nat) : Int) < 2) = true := by simp; omega
      have HRL : Hid (exprG names xs (d + 1) i = exprG.leafG names xs (nextI xs i)) := exprG_leaf names xs d i hk2
      by_cases hn0 : 0 < names.length
      · have d0 : decide ((0 : Int) < (names.length : Int)) = true := by simp; omega
        go_wp2_with fail
        refine (next_any _ g xs _ 2 HSw1.out (by omega) (by omega)).mono ?_
        rintro e w2 ⟨rfl, hS, hG⟩
        rw [show (2 : Int).toNat = 2 from rfl]
        have HSw2 := Lib.hid hS
        have HGw2 := Lib.hid (grown_trans HGw1.out hG)
        clear hS hG
        have HNw2 := Lib.hid (HN0.out.grown HGw2.out)
        by_cases h2 : nextV xs (nextI xs i) 2 = 1
        · have t1 := bT (show ((nextV xs (nextI xs i) 2 : Nat) : Int) = 1 by omega)
          have HR : Hid (exprG names xs (d + 1) i = (.mk 2 0 (names.getD (nextV xs (nextI xs (nextI xs i)) names.length) []) [], nextI xs (nextI xs (nextI xs i)))) := by
            rw [HRL.out]
            unfold exprG.leafG
            rw [if_pos ⟨hn0, h2⟩]
            rfl
          clear h2
          go_wp2_with fail
          refine (next_any _ g xs _ names.length HSw2.out (by omega) (by omega)).mono ?_
          rintro e w3 ⟨rfl, hS, hG⟩
          rw [Int.toNat_natCast]
          have HSw3 := Lib.hid hS
          have HGw3 := Lib.hid (grown_trans HGw2.out hG)
          clear hS hG
          have hr := nextV_lt xs (nextI xs (nextI xs i)) names.length hn0
          obtain ⟨b, off, hA, hbg, hcc⟩ := (HN0.out.grown HGw3.out) _ hr
          subst hA
          have hgd : names.getD (nextV xs (nextI xs (nextI xs i)) names.length) [] = names[nextV xs (nextI xs (nextI xs i)) names.length] := by simp [List.getD, List.getElem?_eq_getElem hr]
          rw [hgd] at HR
          clear hgd
          generalize names[nextV xs (nextI xs (nextI xs i)) names.length] = nm at *
          generalize nextV xs (nextI xs (nextI xs i)) names.length = r at *
          obtain ⟨q0, q1, q2, q3, f0, f1, f2, f3, hz⟩ := four_grown hgw HGw3.out
          go_wp2_with fail
          refine bodyPost_ret (v := .agg #[.int .i64 2, .int .i64 0, .string ⟨nm.toArray⟩, .slice none 0 0]) (by simp [results, Tryd.results19, go_sem, q0, q1, q2, q3]) rfl ⟨⟨2, 0, nm, none, 0, 0⟩, rfl, ?_, ?_, ?_⟩
          · rw [HR.out]
            exact ExM.leaf _ _ _ _ _ _ _
          · rw [HR.out]
            (repeat (with_reducible refine Src.set ?_ hgw _)); exact HSw3.out
          · (repeat (with_reducible refine grown_set ?_ (Nat.le_refl _) _)); exact grown_of_alloc HGw3.out
        · have t1 := bF (show ((nextV xs (nextI xs i) 2 : Nat) : Int) ≠ 1 by omega)
          have HR : Hid (exprG names xs (d + 1) i = (.mk 1 ((numG xs (nextI xs (nextI xs i))).1 : Int) [] [], (numG xs (nextI xs (nextI xs i))).2)) := by
            rw [HRL.out]
            unfold exprG.leafG
            rw [if_neg (fun h => h2 h.2), if_pos hn0]
            rfl
          clear h2
          go_wp2_with fail
          refine (number_gen _ g xs _ HSw2.out).mono ?_
          rintro e w9 ⟨rfl, hS, hG⟩
          have HSw9 := Lib.hid hS
          have HGw9 := Lib.hid (grown_trans HGw2.out hG)
          clear hS hG
          obtain ⟨q0, q1, q2, q3, f0, f1, f2, f3, hz⟩ := four_grown hgw HGw9.out
          go_wp2_with fail
          refine bodyPost_ret (v := .agg #[.int .i64 1, .int .i64 ((numG xs (nextI xs (nextI xs i))).1 : Int), .string ⟨#[]⟩, .slice none 0 0]) (by simp [results, Tryd.results19, go_sem, q0, q1, q2, q3]) rfl ⟨⟨1, ((numG xs (nextI xs (nextI xs i))).1 : Int), [], none, 0, 0⟩, rfl, ?_, ?_, ?_⟩
          · rw [HR.out]
            exact ExM.leaf _ _ _ _ _ _ _
          · rw [HR.out]
            (repeat (with_reducible refine Src.set ?_ hgw _)); exact HSw9.out
          · (repeat (with_reducible refine grown_set ?_ (Nat.le_refl _) _)); exact grown_of_alloc HGw9.out
      · have d0 : decide ((0 : Int) < (names.length : Int)) = false := decide_eq_false (by omega)
        have HR : Hid (exprG names xs (d + 1) i = (.mk 1 ((numG xs (nextI xs i)).1 : Int) [] [], (numG xs (nextI xs i)).2)) := by
          rw [HRL.out]
          unfold exprG.leafG
          rw [if_neg (fun h => hn0 h.1), if_neg hn0]
          rfl
        go_wp2_with fail
        refine (number_gen _ g xs _ HSw1.out).mono ?_
        rintro e w9 ⟨rfl, hS, hG⟩
        have HSw9 := Lib.hid hS
        have HGw9 := Lib.hid (grown_trans HGw1.out hG)
        clear hS hG
        obtain ⟨q0, q1, q2, q3, f0, f1, f2, f3, hz⟩ := four_grown hgw HGw9.out
        go_wp2_with fail
        refine bodyPost_ret (v := .agg #[.int .i64 1, .int .i64 ((numG xs (nextI xs i)).1 : Int), .string ⟨#[]⟩, .slice none 0 0]) (by simp [results, Tryd.results19, go_sem, q0, q1, q2, q3]) rfl ⟨⟨1, ((numG xs (nextI xs i)).1 : Int), [], none, 0, 0⟩, rfl, ?_, ?_, ?_⟩
        · rw [HR.out]
          exact ExM.leaf _ _ _ _ _ _ _
        · rw [HR.out]
          (repeat (with_reducible refine Src.set ?_ hgw _)); exact HSw9.out
        · (repeat (with_reducible refine grown_set ?_ (Nat.le_refl _) _)); exact grown_of_alloc HGw9.out
    · have dk : decide (((nextV xs i 10 : Nat) : Int) < 2) = false := decide_eq_false (by omega)
      by_cases hk4 : nextV xs i 10 < 4
      · have dk4 : decide (((nextV xs i 10 : Nat) : Int) < 4) = true := by simp; omega
        have HR := Lib.hid (exprG_un names xs d i hk2 hk4)
        generalize nextV xs i 10 = k at *
        go_wp2_with fail
        refine (IH.out _ w1 (by omega) HSw1.out (HN0.out.grown HGw1.out)).mono ?_
        rintro e w2 ⟨f, rfl, hE, hS, hG⟩
        unfold EF.val
        have HE := Lib.hid hE
        have HSw2 := Lib.hid hS
        have HGw2 := Lib.hid (grown_trans HGw1.out hG)
        clear hE hS hG
        obtain ⟨q0, q1, q2, q3, f0, f1, f2, f3, hz⟩ := four_grown hgw HGw2.out
        go_wp2_with fail
        have hw1 : w.heap.size < w1.heap.size := by have := HGw1.out.size; simp at this; omega
        refine bodyPost_ret (v := .agg #[.int .i64 (3 + (k : Int) % 2), .int .i64 0, .string ⟨#[]⟩, .slice (some ⟨w2.heap.size, 0, none⟩) 1 1]) (by simp [results, Tryd.results19, go_sem, q0, q1, q2, q3, hz]) rfl ⟨⟨3 + (k : Int) % 2, 0, [], some ⟨w2.heap.size, 0, none⟩, 1, 1⟩, rfl, ?_, ?_, ?_⟩
        · rw [HR.out]
          exact ExM.one _ _ _ w2.heap.size 0 1 (by omega) (efat_new w2 w.heap.size _ _ _ _ [.int .i64 f.op, .int .i64 f.num, .string ⟨f.name.toArray⟩, .slice f.A f.n f.c] 25 0 f ⟨rfl, rfl, rfl, rfl⟩) (exM_new HE.out (by omega) hw1 _ _ _ _ _)
        · rw [HR.out]
          exact src_new HSw2.out hgw _ _ _ _ _
        · exact grown_new (grown_of_alloc HGw2.out) (Nat.le_refl _) _ _ _ _ _
      · have dk4 : decide (((nextV xs i 10 : Nat) : Int) < 4) = false := decide_eq_false (by omega)
        have HR := Lib.hid (exprG_bin names xs d i hk2 hk4)
        generalize nextV xs i 10 = k at *
        go_wp2_with fail
        refine (next_any _ g xs _ 13 HSw1.out (by omega) (by omega)).mono ?_
        rintro e w2 ⟨rfl, hS, hG⟩
        rw [show (13 : Int).toNat = 13 from rfl]
        have HSw2 := Lib.hid hS
        have HGw2 := Lib.hid (grown_trans HGw1.out hG)
        clear hS hG
        have hk13 := nextV_lt xs (nextI xs i) 13 (by omega)
        generalize nextV xs (nextI xs i) 13 = k13 at *
        go_wp2_with fail
        refine (IH.out _ w2 (by omega) HSw2.out (HN0.out.grown HGw2.out)).mono ?_
        rintro e w3 ⟨f, rfl, hE, hS, hG⟩
        unfold EF.val
        have HE := Lib.hid hE
        have HSw3 := Lib.hid hS
        have HGw3 := Lib.hid (grown_trans HGw2.out hG)
        clear hE hS hG
        go_wp2_with fail
        refine (IH.out _ w3 (by omega) HSw3.out (HN0.out.grown HGw3.out)).mono ?_
        rintro e w4 ⟨f', rfl, hE, hS, hG⟩
        unfold EF.val
        have HE' := Lib.hid hE
        have HSw4 := Lib.hid hS
        have HGw4 := Lib.hid (grown_trans HGw3.out hG)
        have HE2 := Lib.hid (HE.out.keep (w' := w4) fun b hb hlt => hG.block b hlt (fun e => by injection e with e; have := HSw2.out.lt; omega))
        have hw1 : w.heap.size < w2.heap.size := by have := HGw2.out.size; simp at this; omega
        have hw2 : w.heap.size < w3.heap.size := by have := HGw3.out.size; simp at this; omega
        clear hE hS hG
        obtain ⟨q0, q1, q2, q3, f0, f1, f2, f3, hz⟩ := four_grown hgw HGw4.out
        go_wp2_with fail
        refine bodyPost_ret (v := .agg #[.int .i64 (5 + (k13 : Int)), .int .i64 0, .string ⟨#[]⟩, .slice (some ⟨w4.heap.size, 0, none⟩) 2 2]) (by simp [results, Tryd.results19, go_sem, q0, q1, q2, q3, hz]) rfl ⟨⟨5 + (k13 : Int), 0, [], some ⟨w4.heap.size, 0, none⟩, 2, 2⟩, rfl, ?_, ?_, ?_⟩
        · rw [HR.out]
          exact ExM.two _ _ _ w4.heap.size 0 2 (by omega) (efat_new w4 w.heap.size _ _ _ _ [.int .i64 f.op, .int .i64 f.num, .string ⟨f.name.toArray⟩, .slice f.A f.n f.c, .int .i64 f'.op, .int .i64 f'.num, .string ⟨f'.name.toArray⟩, .slice f'.A f'.n f'.c] 25 0 f ⟨rfl, rfl, rfl, rfl⟩) (efat_new w4 w.heap.size _ _ _ _ [.int .i64 f.op, .int .i64 f.num, .string ⟨f.name.toArray⟩, .slice f.A f.n f.c, .int .i64 f'.op, .int .i64 f'.num, .string ⟨f'.name.toArray⟩, .slice f'.A f'.n f'.c] 25 4 f' ⟨rfl, rfl, rfl, rfl⟩) (exM_new HE2.out (by omega) hw1 _ _ _ _ _) (exM_new HE'.out (by omega) hw2 _ _ _ _ _)
        · rw [HR.out]
          exact src_new HSw4.out hgw _ _ _ _ _
        · exact grown_new (grown_of_alloc HGw4.out) (Nat.le_refl _) _ _ _ _ _

end Go.Proofs.YtjjooekkieddbaaDoor
