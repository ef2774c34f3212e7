/- Expressions as trees, and what it means that the memory holds one. No statement of the program is proved in this file. -/
import Derived.Test.YtobpnpkcafacjaaSrcNext
namespace Go.Proofs.Ytobpnpkcafacjaa
open Go.RowKit

inductive Ex where
  | mk (op num : Int) (name : List UInt8) (args : List Ex)

/-- the four fields of an expression's value -/
structure EF where
  op : Int
  num : Int
  name : List UInt8
  A : Option Addr
  n : Nat
  c : Nat
def EF.val (f : EF) : Value := .agg #[.int .i64 f.op, .int .i64 f.num, .string ⟨f.name.toArray⟩, .slice f.A f.n f.c]

/-- the four cells at a place are these fields -/
def EFat (w : World) (b o : Nat) (f : EF) : Prop :=
  w.cell? ⟨b, o, none⟩ = some (.int .i64 f.op) ∧ w.cell? ⟨b, o + 1, none⟩ = some (.int .i64 f.num) ∧ w.cell? ⟨b, o + 2, none⟩ = some (.string ⟨f.name.toArray⟩) ∧ w.cell? ⟨b, o + 3, none⟩ = some (.slice f.A f.n f.c)

/-- the fields are those of the expression, and what they lead to lies in blocks of S -/
inductive ExM (w : World) (S : Nat → Prop) : Ex → EF → Prop
  | mk (op num : Int) (name : List UInt8) (args : List Ex) (A : Option Addr) (c : Nat) (F : Nat → EF)
      (hc : ∀ i, i < args.length → ∃ b off, A = some ⟨b, off, none⟩ ∧ S b ∧ EFat w b (off + i * 4) (F i))
      (hs : ∀ i (h : i < args.length), ExM w S args[i] (F i)) : ExM w S (.mk op num name args) ⟨op, num, name, A, args.length, c⟩

theorem EFat.keep {w w' : World} {b o : Nat} {f : EF} (h : EFat w b o f) (hk : w'.heap[b]? = w.heap[b]?) : EFat w' b o f := by
  have e : ∀ o', w'.cell? ⟨b, o', none⟩ = w.cell? ⟨b, o', none⟩ := fun o' => World.cell?_of_block hk
  exact ⟨(e _).trans h.1, (e _).trans h.2.1, (e _).trans h.2.2.1, (e _).trans h.2.2.2⟩
theorem EFat.lt {w : World} {b o : Nat} {f : EF} (h : EFat w b o f) : b < w.heap.size := World.block_lt_of_cell? _ _ h.1

theorem ExM.keep {w w' : World} {S : Nat → Prop} {E : Ex} {f : EF} (h : ExM w S E f) (hk : ∀ b, S b → b < w.heap.size → w'.heap[b]? = w.heap[b]?) : ExM w' S E f := by
  induction h with
  | mk op num name args A c F hc hs ih =>
    refine .mk op num name args A c F (fun i hi => ?_) ih
    obtain ⟨b, off, e, hb, hat⟩ := hc i hi
    exact ⟨b, off, e, hb, hat.keep (hk b hb hat.lt)⟩
theorem ExM.more {w : World} {S S' : Nat → Prop} {E : Ex} {f : EF} (h : ExM w S E f) (hS : ∀ b, S b → S' b) : ExM w S' E f := by
  induction h with
  | mk op num name args A c F hc hs ih =>
    refine .mk op num name args A c F (fun i hi => ?_) ih
    obtain ⟨b, off, e, hb, hat⟩ := hc i hi
    exact ⟨b, off, e, hS b hb, hat⟩
theorem ExM.grown {w w' : World} {g : Nat} {E : Ex} {f : EF} (h : ExM w (g < ·) E f) (hg : w.grownBy w' (some g)) : ExM w' (g < ·) E f :=
  h.keep fun b hb hlt => hg.block b hlt (fun e => by injection e with e; omega)

/-- a leaf -/
theorem ExM.leaf (w : World) (S : Nat → Prop) (op num : Int) (name : List UInt8) (A : Option Addr) (c : Nat) : ExM w S (.mk op num name []) ⟨op, num, name, A, 0, c⟩ :=
  .mk op num name [] A c (fun _ => ⟨0, 0, [], none, 0, 0⟩) (fun i hi => absurd hi (by simp)) (fun i hi => absurd hi (by simp))
/-- a node with one argument, which lies in a new block -/
theorem ExM.one {w : World} {S : Nat → Prop} {E : Ex} {f : EF} (op num : Int) (name : List UInt8) (b off c : Nat) (hS : S b) (hat : EFat w b off f) (h : ExM w S E f) : ExM w S (.mk op num name [E]) ⟨op, num, name, some ⟨b, off, none⟩, 1, c⟩ := by
  refine .mk op num name [E] (some ⟨b, off, none⟩) c (fun _ => f) (fun i hi => ⟨b, off, rfl, hS, ?_⟩) (fun i hi => ?_)
  · have : i = 0 := by simpa using hi
    subst this
    simpa using hat
  · have : i = 0 := by simpa using hi
    subst this
    exact h
/-- a node with two arguments, which lie in a new block -/
theorem ExM.two {w : World} {S : Nat → Prop} {E E' : Ex} {f f' : EF} (op num : Int) (name : List UInt8) (b off c : Nat) (hS : S b) (hat : EFat w b off f) (hat' : EFat w b (off + 4) f') (h : ExM w S E f) (h' : ExM w S E' f') : ExM w S (.mk op num name [E, E']) ⟨op, num, name, some ⟨b, off, none⟩, 2, c⟩ := by
  refine .mk op num name [E, E'] (some ⟨b, off, none⟩) c (fun i => if i = 0 then f else f') (fun i hi => ⟨b, off, rfl, hS, ?_⟩) (fun i hi => ?_)
  · have : i = 0 ∨ i = 1 := by simp at hi; omega
    rcases this with rfl | rfl
    · simpa using hat
    · simpa using hat'
  · have : i = 0 ∨ i = 1 := by simp at hi; omega
    rcases this with rfl | rfl
    · exact h
    · exact h'

/-- a slice of strings outside block g -/
def StrN (w : World) (g : Nat) (A : Option Addr) (xs : List (List UInt8)) : Prop :=
  ∀ i (h : i < xs.length), ∃ b off, A = some ⟨b, off, none⟩ ∧ b ≠ g ∧ w.cell? ⟨b, off + i, none⟩ = some (.string ⟨xs[i].toArray⟩)
theorem StrN.grown {w w' : World} {g : Nat} {A : Option Addr} {xs : List (List UInt8)} (h : StrN w g A xs) (hg : w.grownBy w' (some g)) : StrN w' g A xs := by
  intro i hi
  obtain ⟨b, off, e, hb, hc⟩ := h i hi
  exact ⟨b, off, e, hb, (World.cell?_of_block (hg.block b (World.block_lt_of_cell? _ _ hc) (fun e => by injection e with e; exact hb e))).trans hc⟩

/-- the expression that the Source makes, and the place behind it -/
def exprG (names : List (List UInt8)) (xs : List Int) : Nat → Nat → Ex × Nat
  | deep, i =>
    let k := nextV xs i 10
    let i1 := nextI xs i
    match deep with
    | 0 => leafG names xs i1
    | d + 1 =>
      if k < 2 then leafG names xs i1
      else if k < 4 then
        let r := exprG names xs d i1
        (.mk (3 + (k % 2 : Nat)) 0 [] [r.1], r.2)
      else
        let r := exprG names xs d (nextI xs i1)
        let r' := exprG names xs d r.2
        (.mk (5 + (nextV xs i1 13 : Nat)) 0 [] [r.1, r'.1], r'.2)
where
  leafG (names : List (List UInt8)) (xs : List Int) (i1 : Nat) : Ex × Nat :=
    if 0 < names.length ∧ nextV xs i1 2 = 1 then (.mk 2 0 (names.getD (nextV xs (nextI xs i1) names.length) []) [], nextI xs (nextI xs i1))
    else let i2 := if 0 < names.length then nextI xs i1 else i1
      (.mk 1 ((numG xs i2).1 : Int) [] [], (numG xs i2).2)

end Go.Proofs.Ytobpnpkcafacjaa
