/- The parser of package expr in memory, and what its method sign returns. The small methods of the reference's parser: is, fail, take, must, enter, name. The parser of package parse in memory, and what its small methods do. More small methods of package parse: sees, accept, expect, take, name, number. What afterUnary and afterParenthesis of package expr return, if the functions that they call return what they should. What take, name and number of package parse do. What operand of package expr returns, if the functions that it calls return what they should. What expression and operand of package expr return: what the plain parser says. What Parse of package expr returns: the plain function parseV. What expression of package parse does. What reference and argument of package parse do. What argument of package parse does. -/
import Derived.Test.YtlnbmmgbfgmboaaQ3
import Derived.Test.YtlnbmmgbfgmboaaQ2
import Derived.RegionTactic
import Derived.Deep.RegionHeld3
import Derived.Deep.QuietTactic
import Derived.BigQuiet
import Derived.Deep.DeepCutAuto
namespace Go.Proofs.Ytlnbmmgbfgmboaa
open Go.RowKit

theorem sgn_is (ts : List Tk.Tok) (k : Nat) (hk : k < ts.length) (h : Ps.kindAt ts k = 4) : Ps.sgn ts k = Ps.textAt ts k := by
  unfold Ps.sgn Ps.textAt
  unfold Ps.kindAt at h
  rw [List.getElem?_eq_getElem hk] at h ⊢
  dsimp only at h ⊢
  rw [if_pos h]
theorem sgn_not (ts : List Tk.Tok) (k : Nat) (h : Ps.kindAt ts k ≠ 4) : Ps.sgn ts k = [] := by
  by_cases hs : Ps.sgn ts k = []
  · exact hs
  · exact absurd (Ps.sgn_kind hs) h

end Go.Proofs.Ytlnbmmgbfgmboaa

namespace Go.Proofs.Ytlnbmmgbfgmboaa
open Go.RowKit

theorem grown_put (w : World) (g n : Nat) (u : Value) : w.grownBy (w.setCell ⟨g, n, none⟩ u) (some g) :=
  ⟨rfl, rfl, rfl, Nat.le_of_eq (by simp [World.setCell]), fun b _ hne => Below.heap_setCell w _ _ b (by intro h; exact hne (by rw [h]))⟩
theorem grown_below {w w' : World} {g : Nat} (h : Below w.heap.size w w') : w.grownBy w' (some g) :=
  ⟨h.os, h.tape, h.output, h.size, fun b hb _ => h.block b hb⟩

/-- the place behind a take -/
def takeK (ts : List Tk.Tok) (k e : Nat) (s : List UInt8) : Nat := if isB ts k e s = true then k + 1 else k
theorem takeK_T {ts : List Tk.Tok} {k e : Nat} {s : List UInt8} (h : isB ts k e s = true) : takeK ts k e s = k + 1 := if_pos h
theorem takeK_F {ts : List Tk.Tok} {k e : Nat} {s : List UInt8} (h : isB ts k e s = false) : takeK ts k e s = k := if_neg (by rw [h]; decide)
theorem isB_kind {ts : List Tk.Tok} {k e : Nat} {s : List UInt8} (h : isB ts k e s = true) : Ps.kindAt ts k ≠ 5 := by
  intro h5
  unfold isB at h
  rw [h5] at h
  simp at h

end Go.Proofs.Ytlnbmmgbfgmboaa

namespace Go.Proofs.Ytlnbmmgbfgmboaa
open Go.RowKit

end Go.Proofs.Ytlnbmmgbfgmboaa

namespace Go.Proofs.Ytlnbmmgbfgmboaa
open Go.RowKit

theorem quiet_drew {P : Program} {f : FuncId} {args : Array Value} {w : World} {n : Nat} {v : Value}
    (h : Calls P f args (w.drewN n) fun e w' => e = .returned v ∧ w' = (w.drewN n).drew) : Calls P f args (w.drewN n) fun e w'' => e = .returned v ∧ ∃ m, w'' = w.drewN m :=
  h.mono fun _ _ ⟨he, hm⟩ => ⟨he, n + 1, by rw [hm]; rfl⟩

theorem kd_ne (s : List UInt8) : Pa.kd s ≠ 5 ∧ Pa.kd s ≠ 1 ∧ Pa.kd s ≠ 2 := by
  unfold Pa.kd
  split <;> decide
theorem isS_at {ts : List Tk.Tok} {σ : Pa.Sg} {s : List UInt8} (h : Pa.isS ts σ s = true) : ∃ k, σ = .at_ k ∧ Ps.kindAt ts k = Pa.kd s ∧ Ps.textAt ts k = s := by
  cases σ with
  | bad m e => cases h
  | at_ k =>
    simp only [Pa.isS, Bool.and_eq_true, decide_eq_true_eq] at h
    exact ⟨k, rfl, h.1, h.2⟩
theorem kdS_at {ts : List Tk.Tok} {σ : Pa.Sg} {K : Nat} (h : Pa.kdS ts σ K = true) : ∃ k, σ = .at_ k ∧ Ps.kindAt ts k = K := by
  cases σ with
  | bad m e => cases h
  | at_ k =>
    simp only [Pa.kdS, decide_eq_true_eq] at h
    exact ⟨k, rfl, h⟩

end Go.Proofs.Ytlnbmmgbfgmboaa

namespace Go.Proofs.Ytlnbmmgbfgmboaa
open Go.RowKit

def Ps.R.err : Ps.R → Nat
  | .bad _ e => e
  | .ok _ _ => 0
def Ps.R.ex : Ps.R → Ex
  | .bad _ _ => .mk 0 0 [] []
  | .ok x _ => x
theorem grown_unset {w w1 W : World} {g r : Nat} (h : w.grownBy w1 (some g)) (hr : w.heap.size ≤ r) (hs : w1.heap.size ≤ W.heap.size) (ho : W.os = w1.os) (ht : W.tape = w1.tape) (hu : W.output = w1.output) (hW : ∀ b, b < w1.heap.size → b ≠ r → W.heap[b]? = w1.heap[b]?) : w.grownBy W (some g) :=
  ⟨ho.trans h.os, ht.trans h.tape, hu.trans h.output, Nat.le_trans h.size hs, fun i hi hne => (hW i (by have := h.size; omega) (by omega)).trans (h.block i hi hne)⟩

theorem set4_alloc2_keep (w : World) (r : Nat) (u0 u1 u2 u3 : Value) (o o' : Obj) (b : Nat) (hb : b ≠ r) (hlt : b < w.heap.size) : (((set4 w r u0 u1 u2 u3).alloc o).alloc o').heap[b]? = w.heap[b]? := by
  rw [Below.heap_alloc _ o' b (by have := set4_size w r u0 u1 u2 u3; simp; omega), set4_alloc_keep w r u0 u1 u2 u3 o b hb hlt]
theorem efat_new2 (w : World) (r : Nat) (u0 u1 u2 u3 : Value) (ob : Obj) (l : List Value) (t : TypeId) (o : Nat) (f : EF) (h : l[o]? = some (.int .i64 f.op) ∧ l[o + 1]? = some (.int .i64 f.num) ∧ l[o + 2]? = some (.string ⟨f.name.toArray⟩) ∧ l[o + 3]? = some (.slice f.A f.n f.c)) :
    EFat (((set4 w r u0 u1 u2 u3).alloc ob).alloc (.cells l.toArray t)) (w.heap.size + 1) o f := by
  have hs := set4_size w r u0 u1 u2 u3
  have hs2 : ((set4 w r u0 u1 u2 u3).alloc ob).heap.size = w.heap.size + 1 := by simp [hs]
  have e : ∀ o', (((set4 w r u0 u1 u2 u3).alloc ob).alloc (.cells l.toArray t)).cell? ⟨w.heap.size + 1, o', none⟩ = l[o']? := by
    intro o'
    rw [← hs2, World.cell?_alloc_mark]
    simp
  exact ⟨(e _).trans h.1, (e _).trans h.2.1, (e _).trans h.2.2.1, (e _).trans h.2.2.2⟩
theorem blk4 {w : World} {b : Nat} {c0 c1 c2 c3 : Value} {t : TypeId} (h : w.heap[b]? = some (.cells #[c0, c1, c2, c3] t (0, 0))) :
    w.cell? ⟨b, 0, none⟩ = some c0 ∧ w.cell? ⟨b, 1, none⟩ = some c1 ∧ w.cell? ⟨b, 2, none⟩ = some c2 ∧ w.cell? ⟨b, 3, none⟩ = some c3 ∧
    w.frozen? ⟨b, 0, none⟩ = false ∧ w.frozen? ⟨b, 1, none⟩ = false ∧ w.frozen? ⟨b, 2, none⟩ = false ∧ w.frozen? ⟨b, 3, none⟩ = false ∧ b < w.heap.size := by
  refine ⟨?_, ?_, ?_, ?_, ?_, ?_, ?_, ?_, lt_of_block h⟩
  · rw [cell_of_row w b 0 _ _ _ h]; rfl
  · rw [cell_of_row w b 1 _ _ _ h]; rfl
  · rw [cell_of_row w b 2 _ _ _ h]; rfl
  · rw [cell_of_row w b 3 _ _ _ h]; rfl
  · simp [World.frozen?, h]
  · simp [World.frozen?, h]
  · simp [World.frozen?, h]
  · simp [World.frozen?, h]
theorem set4_at {w : World} {b : Nat} {c0 c1 c2 c3 : Value} {t : TypeId} (h : w.heap[b]? = some (.cells #[c0, c1, c2, c3] t (0, 0))) (u0 u1 u2 u3 : Value) :
    (set4 w b u0 u1 u2 u3).heap[b]? = some (.cells #[u0, u1, u2, u3] t (0, 0)) := by
  unfold set4
  simp [World.setCell, Array.getElem?_modify, h]
end Go.Proofs.Ytlnbmmgbfgmboaa

namespace Go.Proofs.Ytlnbmmgbfgmboaa
open Go.RowKit

/-- the token that take returns -/
def tkT (ts : List Tk.Tok) (σ : Pa.Sg) (K : Nat) : List UInt8 := if Pa.kdS ts σ K = true then Ps.textAt ts σ.k else []
def tkN (ts : List Tk.Tok) (σ : Pa.Sg) (K : Nat) : Nat := if Pa.kdS ts σ K = true then Ps.numAt ts σ.k else 0
def TakeP (ts : List Tk.Tok) (σ : Pa.Sg) (K : Nat) (x : Ending) : Prop := ∃ kn ps : Int, x = .returned (.agg #[.int .i64 kn, .string ⟨(tkT ts σ K).toArray⟩, .int .i64 (tkN ts σ K : Int), .int .i64 ps])
theorem grown_alc {w w' : World} {r : Option Nat} (h : w.grownBy w' r) (ob : Obj) : w.grownBy (w'.alloc ob) r :=
  ⟨h.os, h.tape, h.output, Nat.le_trans h.size (by simp), fun i hi hr => (Below.heap_alloc w' ob i (Nat.lt_of_lt_of_le hi h.size)).trans (h.block i hi hr)⟩
theorem grown_drw {w w' : World} {r : Option Nat} (h : w.grownBy w' r) : w.grownBy w'.drew r := ⟨h.os, h.tape, h.output, h.size, h.block⟩
theorem grown_own {w w' : World} {g n : Nat} {u : Value} (h : w.grownBy w' (some g)) : w.grownBy (w'.setCell ⟨g, n, none⟩ u) (some g) := grown_trans h (grown_put w' g n u)

end Go.Proofs.Ytlnbmmgbfgmboaa

namespace Go.Proofs.Ytlnbmmgbfgmboaa
open Go.RowKit

theorem setCell_size (W : World) (p : Addr) (u : Value) : (W.setCell p u).heap.size = W.heap.size := by simp [World.setCell]
/-- the world in which operand calls what follows a parenthesis or a unary operator -/
def opWorld (w3 : World) (g k o : Nat) : World := ((w3.setCell ⟨g, 2, none⟩ (.int .i64 ((o : Int) + 1))).setCell ⟨g, 1, none⟩ (.int .i64 ((k : Int) + 1))).alloc (.cells #[.int .i64 0, .int .i64 0, .string ⟨#[]⟩, .slice none 0 0] 89)
theorem opWorld_keep (w3 : World) (g k o b : Nat) (hb : b < w3.heap.size) (hne : b ≠ g) : (opWorld w3 g k o).heap[b]? = w3.heap[b]? := by
  unfold opWorld
  rw [Below.heap_alloc _ _ b (by simp [World.setCell]; omega), Below.heap_setCell _ _ _ b (by simpa using hne), Below.heap_setCell _ _ _ b (by simpa using hne)]
theorem opWorld_os (w3 : World) (g k o : Nat) : (opWorld w3 g k o).os = w3.os ∧ (opWorld w3 g k o).tape = w3.tape ∧ (opWorld w3 g k o).output = w3.output := ⟨rfl, rfl, rfl⟩
theorem setCell_os (W : World) (p : Addr) (u : Value) : (W.setCell p u).os = W.os ∧ (W.setCell p u).tape = W.tape ∧ (W.setCell p u).output = W.output := ⟨rfl, rfl, rfl⟩
theorem set4_os (W : World) (r : Nat) (u0 u1 u2 u3 : Value) : (set4 W r u0 u1 u2 u3).os = W.os ∧ (set4 W r u0 u1 u2 u3).tape = W.tape ∧ (set4 W r u0 u1 u2 u3).output = W.output := ⟨rfl, rfl, rfl⟩
theorem opWorld_size (w3 : World) (g k o : Nat) : (opWorld w3 g k o).heap.size = w3.heap.size + 1 := by
  unfold opWorld
  simp [World.setCell]
theorem opWorld_new (w3 : World) (g k o : Nat) : (opWorld w3 g k o).heap[w3.heap.size]? = some (.cells #[.int .i64 0, .int .i64 0, .string ⟨#[]⟩, .slice none 0 0] 89 (0, 0)) := by
  have hs : ((w3.setCell ⟨g, 2, none⟩ (.int .i64 ((o : Int) + 1))).setCell ⟨g, 1, none⟩ (.int .i64 ((k : Int) + 1))).heap.size = w3.heap.size := by simp [World.setCell]
  have := heap_alloc_new ((w3.setCell ⟨g, 2, none⟩ (.int .i64 ((o : Int) + 1))).setCell ⟨g, 1, none⟩ (.int .i64 ((k : Int) + 1))) (.cells #[.int .i64 0, .int .i64 0, .string ⟨#[]⟩, .slice none 0 0] 89)
  rw [hs] at this
  exact this
/-- the blocks of the result and of the part behind that call -/
theorem op_back {w w3 w4 : World} {g k o : Nat} {Z : Obj} (hZ : w3.heap[w.heap.size]? = some Z) (hr : w.heap.size < w3.heap.size) (hg : g < w.heap.size) (hG : (opWorld w3 g k o).grownBy w4 (some g)) :
    w4.heap[w.heap.size]? = some Z ∧ w4.heap[w3.heap.size]? = some (.cells #[.int .i64 0, .int .i64 0, .string ⟨#[]⟩, .slice none 0 0] 89 (0, 0)) := by
  have hs := opWorld_size w3 g k o
  exact ⟨(hG.block _ (by omega) (fun e => by injection e with e; omega)).trans ((opWorld_keep w3 g k o _ hr (by omega)).trans hZ), (hG.block _ (by omega) (fun e => by injection e with e; omega)).trans (opWorld_new w3 g k o)⟩
end Go.Proofs.Ytlnbmmgbfgmboaa

namespace Go.Proofs.Ytlnbmmgbfgmboaa
open Go.RowKit

/-- the world in which expression reads the right side of an operator -/
def exWorld (w2 : World) (g m : Nat) : World := (w2.setCell ⟨g, 1, none⟩ (.int .i64 ((m : Int) + 1))).alloc (.cells #[.int .i64 0, .int .i64 0, .string ⟨#[]⟩, .slice none 0 0] 89)
theorem exWorld_keep (w2 : World) (g m b : Nat) (hb : b < w2.heap.size) (hne : b ≠ g) : (exWorld w2 g m).heap[b]? = w2.heap[b]? := by
  unfold exWorld
  rw [Below.heap_alloc _ _ b (by rw [setCell_size]; exact hb), Below.heap_setCell _ _ _ b (by simpa using hne)]
theorem exWorld_size (w2 : World) (g m : Nat) : (exWorld w2 g m).heap.size = w2.heap.size + 1 := by
  unfold exWorld
  simp [World.setCell]
theorem exWorld_os (w2 : World) (g m : Nat) : (exWorld w2 g m).os = w2.os ∧ (exWorld w2 g m).tape = w2.tape ∧ (exWorld w2 g m).output = w2.output := ⟨rfl, rfl, rfl⟩
theorem exWorld_new (w2 : World) (g m : Nat) : (exWorld w2 g m).heap[w2.heap.size]? = some (.cells #[.int .i64 0, .int .i64 0, .string ⟨#[]⟩, .slice none 0 0] 89 (0, 0)) := by
  have := heap_alloc_new (w2.setCell ⟨g, 1, none⟩ (.int .i64 ((m : Int) + 1))) (.cells #[.int .i64 0, .int .i64 0, .string ⟨#[]⟩, .slice none 0 0] 89)
  rw [setCell_size] at this
  exact this

/-- the blocks of what a loop of expression has read -/
def LS (w : World) (lb : Nat) (b : Nat) : Prop := w.heap.size < b ∧ b ≠ lb
/-- a block holds the fields f -/
def Blk (w : World) (b : Nat) (f : EF) : Prop := w.heap[b]? = some (.cells #[.int .i64 f.op, .int .i64 f.num, .string ⟨f.name.toArray⟩, .slice f.A f.n f.c] 89 (0, 0))
def Blk0 (w : World) (b : Nat) : Prop := w.heap[b]? = some (.cells #[.int .i64 0, .int .i64 0, .string ⟨#[]⟩, .slice none 0 0] 89 (0, 0))

theorem ExM.inside {w : World} {S : Nat → Prop} {E : Ex} {f : EF} (h : ExM w S E f) : ExM w (fun b => S b ∧ b < w.heap.size) E f := by
  induction h with
  | mk op num name args A c F hc hs ih =>
    refine .mk op num name args A c F (fun i hi => ?_) ih
    obtain ⟨b, off, e, hb, hat⟩ := hc i hi
    exact ⟨b, off, e, ⟨hb, hat.lt⟩, hat⟩
/-- where a parser stands -/
def atOf (w : World) (g : Nat) : Nat := match w.cell? ⟨g, 1, none⟩ with
  | some (.int _ n) => n.toNat
  | _ => 0
theorem err_bind (R : Ps.R) (h : Ex → Ex) : (R.bind fun r k' => .ok (h r) k').err = R.err ∧ (R.bind fun r k' => .ok (h r) k').at_ = R.at_ := by cases R <;> exact ⟨rfl, rfl⟩
end Go.Proofs.Ytlnbmmgbfgmboaa

namespace Go.Proofs.Ytlnbmmgbfgmboaa
open Go.RowKit

/-- the expression, the place and the error -/
def parseV (ts : List Tk.Tok) (at_ : Int) : Ex × Int × Nat :=
  if 0 ≤ at_ ∧ at_ < ts.length ∧ Ps.kindAt ts (ts.length - 1) = 5 then ((Ps.PE ts 1 0 at_.toNat).ex, ((Ps.PE ts 1 0 at_.toNat).at_ : Int), (Ps.PE ts 1 0 at_.toNat).err) else (.mk 0 0 [] [], at_, 4)
/-- what Parse leaves -/
def ParsePost (w : World) (R : Ex × Int × Nat) (e : Ending) (w' : World) : Prop :=
  ∃ f : EF, e = .returned (.tuple #[f.val, .int .i64 R.2.1, .int .i64 (R.2.2 : Int)]) ∧ ExM w' (w.heap.size ≤ ·) R.1 f ∧ Below w.heap.size w w'

theorem parse_no (w : World) (at_ : Int) (W : World) (hW : Below w.heap.size w W) : ParsePost w (.mk 0 0 [] [], at_, 4) (.returned (.tuple #[.agg #[.int .i64 0, .int .i64 0, .string ⟨#[]⟩, .slice none 0 0], .int .i64 at_, .int .i64 4])) W :=
  ⟨⟨0, 0, [], none, 0, 0⟩, rfl, ExM.leaf _ _ _ _ _ _ _, hW⟩
theorem set4_below {w w1 : World} (h : Below w.heap.size w w1) (hr : w.heap.size < w1.heap.size) (u0 u1 u2 u3 : Value) (o : Obj) : Below w.heap.size w ((set4 w1 w.heap.size u0 u1 u2 u3).alloc o) := by
  obtain ⟨a1, a2, a3⟩ := set4_os w1 w.heap.size u0 u1 u2 u3
  exact ⟨a1.trans h.os, a2.trans h.tape, a3.trans h.output, by have := set4_size w1 w.heap.size u0 u1 u2 u3; simp; omega, fun b hb => (set4_alloc_keep w1 w.heap.size u0 u1 u2 u3 o b (by omega) (by omega)).trans (h.block b hb)⟩
theorem below_new {w w1 : World} {Z : Array Value} {t : TypeId} {P : Obj} (hG : ((w.alloc (.cells Z t)).alloc P).grownBy w1 (some (w.heap.size + 1))) : Below w.heap.size w w1 ∧ w1.heap[w.heap.size]? = some (.cells Z t (0, 0)) := by
  have hs : ((w.alloc (.cells Z t)).alloc P).heap.size = w.heap.size + 2 := by simp
  have hb : ∀ b, b ≤ w.heap.size → w1.heap[b]? = (w.alloc (.cells Z t)).heap[b]? := fun b hb => (hG.block b (by omega) (fun e => by injection e with e; omega)).trans (Below.heap_alloc _ _ b (by simp; omega))
  exact ⟨⟨hG.os, hG.tape, hG.output, by have := hG.size; omega, fun b hbb => (hb b (by omega)).trans (Below.heap_alloc w _ b hbb)⟩, (hb _ (Nat.le_refl _)).trans (heap_alloc_new w _)⟩

end Go.Proofs.Ytlnbmmgbfgmboaa

namespace Go.Proofs.Ytlnbmmgbfgmboaa
open Go.RowKit

/-- what Parse leaves, field by field -/
def ParseX (W : World) (x : Ex) (k e : Nat) (en : Ending) (w' : World) : Prop :=
  ∃ op num name A n c, en = .returned (.tuple #[.agg #[.int .i64 op, .int .i64 num, .string ⟨name.toArray⟩, .slice A n c], .int .i64 (k : Int), .int .i64 (e : Int)]) ∧ ExM w' (W.heap.size ≤ ·) x ⟨op, num, name, A, n, c⟩ ∧ Below W.heap.size W w'
/-- behind the call of Parse: the expression lies in a block of its own -/
def XprMid (W1 : World) (x : Ex) (k e : Nat) (s3 s4 s5 : Value) (wc : World) : Prop :=
  ∃ (b : Nat) (f : EF), s3 = .pointer (some ⟨b, 0, none⟩) ∧ s4 = .int .i64 (k : Int) ∧ s5 = .int .i64 (e : Int) ∧ W1.heap.size ≤ b ∧ wc.heap[b]? = some (.cells #[.int .i64 f.op, .int .i64 f.num, .string ⟨f.name.toArray⟩, .slice f.A f.n f.c] 89 (0, 0)) ∧ ExM wc (W1.heap.size ≤ ·) x f ∧ Below W1.heap.size W1 wc
theorem blk_put4 {w : World} {X : Nat} {c0 c1 c2 c3 : Value} {t : TypeId} (h : w.heap[X]? = some (.cells #[c0, c1, c2, c3] t (0, 0))) (u0 u1 u2 u3 : Value) : (set4 w X u0 u1 u2 u3).heap[X]? = some (.cells #[u0, u1, u2, u3] t (0, 0)) := by
  unfold set4
  simp [World.setCell, Array.getElem?_modify]
  exact ⟨_, h, rfl⟩
theorem xm_one {W1 w' : World} {x : Ex} {k e : Nat} {f : EF} (hb : Below W1.drew.heap.size W1.drew w') (hM : ExM w' (W1.drew.heap.size ≤ ·) x f) :
    XprMid W1 x k e (.pointer (some ⟨w'.heap.size, 0, none⟩)) (.int .i64 (k : Int)) (.int .i64 (e : Int)) (w'.alloc (.cells #[.int .i64 f.op, .int .i64 f.num, .string ⟨f.name.toArray⟩, .slice f.A f.n f.c] 89)) :=
  ⟨w'.heap.size, f, rfl, rfl, rfl, hb.size, heap_alloc_new w' _, hM.keep fun b _ hl => Below.heap_alloc w' _ b hl, Below.alloc (a := W1) ⟨hb.os, hb.tape, hb.output, hb.size, hb.block⟩ hb.size _⟩
theorem xm_two {W1 w' : World} {x : Ex} {k e : Nat} {f : EF} {Z : Obj} {c0 c1 c2 c3 : Value} (hb : Below (W1.alloc Z).drew.heap.size (W1.alloc Z).drew w') (hM : ExM w' ((W1.alloc Z).drew.heap.size ≤ ·) x f) (hZ : w'.heap[W1.heap.size]? = some (.cells #[c0, c1, c2, c3] 89 (0, 0))) :
    XprMid W1 x k e (.pointer (some ⟨W1.heap.size, 0, none⟩)) (.int .i64 (k : Int)) (.int .i64 (e : Int)) (set4 w' W1.heap.size (.int .i64 f.op) (.int .i64 f.num) (.string ⟨f.name.toArray⟩) (.slice f.A f.n f.c)) := by
  have hs : (W1.alloc Z).drew.heap.size = W1.heap.size + 1 := by simp
  have h4 := set4_size w' W1.heap.size (.int .i64 f.op) (.int .i64 f.num) (.string ⟨f.name.toArray⟩) (.slice f.A f.n f.c)
  have hsz := hb.size
  refine ⟨W1.heap.size, f, rfl, rfl, rfl, Nat.le_refl _, blk_put4 hZ _ _ _ _, (hM.keep fun b hb' _ => set4_keep _ _ _ _ _ _ b (by omega)).more (fun b hb' => by omega), ?_⟩
  refine ⟨hb.os, hb.tape, hb.output, by omega, fun b hbb => (set4_keep _ _ _ _ _ _ b (by omega)).trans ((hb.block b (by omega)).trans (Below.heap_alloc W1 Z b hbb))⟩
theorem parseV_live (ts : List Tk.Tok) (k : Nat) (hk : k < ts.length) (h5 : Ps.kindAt ts (ts.length - 1) = 5) : parseV ts (k : Int) = (Pa.exX ts (.at_ k), ((Pa.exS ts (.at_ k)).k : Int), (Pa.exS ts (.at_ k)).e) := by
  unfold parseV
  rw [if_pos ⟨by omega, by omega, h5⟩, show ((k : Int)).toNat = k from rfl]
  unfold Pa.exX Pa.exS
  dsimp only
  cases Ps.PE ts 1 0 k with
  | ok x m => rfl
  | bad m e => rfl
theorem exS_in {ts : List Tk.Tok} {k : Nat} (hk : k < ts.length) (h5 : Ps.kindAt ts (ts.length - 1) = 5) : (Pa.exS ts (.at_ k)).k < ts.length ∧ ((Pa.exS ts (.at_ k)).live = false → (Pa.exS ts (.at_ k)).e ≠ 0) := by
  have h := Ps.PE_in h5 1 0 k hk (by omega)
  unfold Pa.exS
  dsimp only
  cases hR : Ps.PE ts 1 0 k with
  | ok x m => rw [hR] at h; exact ⟨h, fun e => by cases e⟩
  | bad m e =>
    rw [hR] at h
    refine ⟨h, fun _ => ?_⟩
    have := Ps.PE_err (by omega) hR
    show e ≠ 0
    omega
end Go.Proofs.Ytlnbmmgbfgmboaa

namespace Go.Proofs.Ytlnbmmgbfgmboaa
open Go.RowKit

theorem blk2 {w : World} {b : Nat} {c0 c1 : Value} {t : TypeId} (h : w.heap[b]? = some (.cells #[c0, c1] t (0, 0))) :
    w.cell? ⟨b, 0, none⟩ = some c0 ∧ w.cell? ⟨b, 1, none⟩ = some c1 ∧ w.frozen? ⟨b, 0, none⟩ = false ∧ w.frozen? ⟨b, 1, none⟩ = false ∧ b < w.heap.size := by
  refine ⟨?_, ?_, ?_, ?_, lt_of_block h⟩
  · rw [cell_of_row w b 0 _ _ _ h]; rfl
  · rw [cell_of_row w b 1 _ _ _ h]; rfl
  · simp [World.frozen?, h]
  · simp [World.frozen?, h]
theorem kept_own {w w' : World} {g b : Nat} {ob : Obj} (hG : w.grownBy w' (some g)) (h : w.heap[b]? = some ob) (hne : b ≠ g) : w'.heap[b]? = some ob :=
  (hG.block b (lt_of_block h) (fun e => by injection e with e; exact hne e)).trans h
theorem blk2set1 {w : World} {X : Nat} {c0 c1 : Value} {t : TypeId} (u : Value) (h : w.heap[X]? = some (.cells #[c0, c1] t (0, 0))) : (w.setCell ⟨X, 1, none⟩ u).heap[X]? = some (.cells #[c0, u] t (0, 0)) := by
  simp [World.setCell, Array.getElem?_modify]; exact ⟨_, h, rfl⟩
end Go.Proofs.Ytlnbmmgbfgmboaa

namespace Go.Proofs.Ytlnbmmgbfgmboaa
open Go.RowKit

theorem blk7 {w : World} {b : Nat} {c0 c1 c2 c3 c4 c5 c6 : Value} {t : TypeId} (h : w.heap[b]? = some (.cells #[c0, c1, c2, c3, c4, c5, c6] t (0, 0))) :
    w.cell? ⟨b, 0, none⟩ = some c0 ∧ w.cell? ⟨b, 1, none⟩ = some c1 ∧ w.cell? ⟨b, 2, none⟩ = some c2 ∧ w.cell? ⟨b, 3, none⟩ = some c3 ∧ w.cell? ⟨b, 4, none⟩ = some c4 ∧ w.cell? ⟨b, 5, none⟩ = some c5 ∧ w.cell? ⟨b, 6, none⟩ = some c6 ∧ (∀ j, w.frozen? ⟨b, j, none⟩ = false) ∧ b < w.heap.size := by
  refine ⟨?_, ?_, ?_, ?_, ?_, ?_, ?_, fun j => by simp [World.frozen?, h], lt_of_block h⟩
  · rw [cell_of_row w b 0 _ _ _ h]; rfl
  · rw [cell_of_row w b 1 _ _ _ h]; rfl
  · rw [cell_of_row w b 2 _ _ _ h]; rfl
  · rw [cell_of_row w b 3 _ _ _ h]; rfl
  · rw [cell_of_row w b 4 _ _ _ h]; rfl
  · rw [cell_of_row w b 5 _ _ _ h]; rfl
  · rw [cell_of_row w b 6 _ _ _ h]; rfl
theorem blk11 {w : World} {b : Nat} {c0 c1 c2 c3 c4 c5 c6 c7 c8 c9 c10 : Value} {t : TypeId} (h : w.heap[b]? = some (.cells #[c0, c1, c2, c3, c4, c5, c6, c7, c8, c9, c10] t (0, 0))) :
    w.cell? ⟨b, 0, none⟩ = some c0 ∧ w.cell? ⟨b, 1, none⟩ = some c1 ∧ w.cell? ⟨b, 2, none⟩ = some c2 ∧ w.cell? ⟨b, 3, none⟩ = some c3 ∧ w.cell? ⟨b, 4, none⟩ = some c4 ∧ w.cell? ⟨b, 5, none⟩ = some c5 ∧ w.cell? ⟨b, 6, none⟩ = some c6 ∧ w.cell? ⟨b, 7, none⟩ = some c7 ∧ w.cell? ⟨b, 8, none⟩ = some c8 ∧ w.cell? ⟨b, 9, none⟩ = some c9 ∧ w.cell? ⟨b, 10, none⟩ = some c10 ∧ (∀ j, w.frozen? ⟨b, j, none⟩ = false) ∧ b < w.heap.size := by
  refine ⟨?_, ?_, ?_, ?_, ?_, ?_, ?_, ?_, ?_, ?_, ?_, fun j => by simp [World.frozen?, h], lt_of_block h⟩
  · rw [cell_of_row w b 0 _ _ _ h]; rfl
  · rw [cell_of_row w b 1 _ _ _ h]; rfl
  · rw [cell_of_row w b 2 _ _ _ h]; rfl
  · rw [cell_of_row w b 3 _ _ _ h]; rfl
  · rw [cell_of_row w b 4 _ _ _ h]; rfl
  · rw [cell_of_row w b 5 _ _ _ h]; rfl
  · rw [cell_of_row w b 6 _ _ _ h]; rfl
  · rw [cell_of_row w b 7 _ _ _ h]; rfl
  · rw [cell_of_row w b 8 _ _ _ h]; rfl
  · rw [cell_of_row w b 9 _ _ _ h]; rfl
  · rw [cell_of_row w b 10 _ _ _ h]; rfl
/-- a world that differs in block r alone -/
def PutAt (r : Nat) (w w' : World) : Prop := w'.os = w.os ∧ w'.tape = w.tape ∧ w'.output = w.output ∧ w'.heap.size = w.heap.size ∧ ∀ b, b ≠ r → w'.heap[b]? = w.heap[b]?
theorem PutAt.refl (r : Nat) (w : World) : PutAt r w w := ⟨rfl, rfl, rfl, rfl, fun _ _ => rfl⟩
theorem PutAt.set {r : Nat} {w w' : World} (h : PutAt r w w') (n : Nat) (u : Value) : PutAt r w (w'.setCell ⟨r, n, none⟩ u) :=
  ⟨h.1, h.2.1, h.2.2.1, by rw [← h.2.2.2.1]; simp [World.setCell], fun b hb => (Below.heap_setCell w' _ _ b hb).trans (h.2.2.2.2 b hb)⟩
theorem grown_putAt {w w1 w2 : World} {r : Nat} {x : Option Nat} (h : w.grownBy w1 x) (hp : PutAt r w1 w2) (hr : w.heap.size ≤ r) : w.grownBy w2 x :=
  ⟨hp.1.trans h.os, hp.2.1.trans h.tape, hp.2.2.1.trans h.output, by have := h.size; have := hp.2.2.2.1; omega, fun b hb hx => (hp.2.2.2.2 b (by omega)).trans (h.block b hb hx)⟩
theorem ExM.putAt {w w' : World} {r N : Nat} {E : Ex} {f : EF} (h : ExM w (N ≤ ·) E f) (hp : PutAt r w w') (hr : r < N) : ExM w' (N ≤ ·) E f := h.keep fun b hb _ => hp.2.2.2.2 b (by omega)
theorem IdxM.putAt {w w' : World} {r N : Nat} {E : Option Ex} {A : Option Addr} {n : Nat} (h : IdxM w (N ≤ ·) E A n) (hp : PutAt r w w') (hr : r < N) : IdxM w' (N ≤ ·) E A n := h.keep fun b hb _ => hp.2.2.2.2 b (by omega)
theorem IdxM.more {w : World} {S S' : Nat → Prop} {E : Option Ex} {A : Option Addr} {n : Nat} (h : IdxM w S E A n) (hs : ∀ b, S b → S' b) : IdxM w S' E A n := by
  cases E with
  | none => exact h
  | some E =>
    obtain ⟨hn, b, off, f, e, hb, hat, hM⟩ := h
    exact ⟨hn, b, off, f, e, hs b hb, hat, hM.more hs⟩
end Go.Proofs.Ytlnbmmgbfgmboaa
