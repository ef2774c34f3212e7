/- What function of package parse does. The rows of a program that is read. No statement of the program is proved in this file. -/
import Derived.Test.YtlnbmmgbfgmboaaPp12G
namespace Go.Proofs.Ytlnbmmgbfgmboaa
open Go.RowKit

theorem PmsM.keep {w w' : World} {S : Nat → Prop} {l : List Pm} {A : Option Addr} (h : PmsM w S l A) (hk : ∀ b, S b → b < w.heap.size → w'.heap[b]? = w.heap[b]?) : PmsM w' S l A := by
  intro i hi
  obtain ⟨b, off, e, hb, h0, h1⟩ := h i hi
  have e1 : ∀ o', w'.cell? ⟨b, o', none⟩ = w.cell? ⟨b, o', none⟩ := fun o' => World.cell?_of_block (hk b hb (World.block_lt_of_cell? _ _ h0))
  exact ⟨b, off, e, hb, (e1 _).trans h0, (e1 _).trans h1⟩
theorem PmsM.more {w : World} {S S' : Nat → Prop} {l : List Pm} {A : Option Addr} (h : PmsM w S l A) (hs : ∀ b, S b → b < w.heap.size → S' b) : PmsM w S' l A := by
  intro i hi
  obtain ⟨b, off, e, hb, h0, h1⟩ := h i hi
  exact ⟨b, off, e, hs b hb (World.block_lt_of_cell? _ _ h0), h0, h1⟩
theorem PmsM.putAt {w w' : World} {r N : Nat} {l : List Pm} {A : Option Addr} (h : PmsM w (N ≤ ·) l A) (hp : PutAt r w w') (hr : r < N) : PmsM w' (N ≤ ·) l A := h.keep fun b hb _ => hp.2.2.2.2 b (by omega)
theorem PmsM.gr {w w' : World} {g N : Nat} {l : List Pm} {A : Option Addr} (h : PmsM w (N ≤ ·) l A) (hG : w.grownBy w' (some g)) (hg : g < N) : PmsM w' (N ≤ ·) l A := h.keep fun b hb hl => hG.block b hl (fun e => by injection e with e; omega)

end Go.Proofs.Ytlnbmmgbfgmboaa

namespace Go.Proofs.Ytlnbmmgbfgmboaa
open Go.RowKit

def glK : RowK Gl where
  cl := fun p => [.string ⟨p.name.toArray⟩, .int .i64 p.init]
  sz := 2
  hsz := fun _ => rfl
  one := fun p u hu => by
    simp at hu
    rcases hu with rfl | rfl <;> rfl
  In := fun _ _ _ => True
  keep := fun _ _ => trivial
  more := fun _ _ => trivial
def mxK : RowK Mx where
  cl := fun p => [.string ⟨p.name.toArray⟩, .bool p.re, .int .i64 (p.size : Int)]
  sz := 3
  hsz := fun _ => rfl
  one := fun p u hu => by
    simp at hu
    rcases hu with rfl | rfl | rfl <;> rfl
  In := fun _ _ _ => True
  keep := fun _ _ => trivial
  more := fun _ _ => trivial
structure FnG where
  A : Option Addr
  c : Nat
  B : Option Addr
  d : Nat
def fnK : RowK (Fn × FnG) where
  cl := fun p => [.string ⟨p.1.name.toArray⟩, .slice p.2.A p.1.ps.length p.2.c, .slice p.2.B p.1.body.length p.2.d]
  sz := 3
  hsz := fun _ => rfl
  one := fun p u hu => by
    simp at hu
    rcases hu with rfl | rfl | rfl <;> rfl
  In := fun w S p => PmsM w S p.1.ps p.2.A ∧ StsM w S p.1.body p.2.B
  keep := fun h hk => ⟨h.1.keep hk, h.2.keep hk⟩
  more := fun h hs => ⟨h.1.more hs, h.2.more hs⟩
/-- two slices do not share their block -/
def Dj (a b : Value) : Prop := a.ownBlock = none ∨ a.ownBlock ≠ b.ownBlock
theorem Dj.symm {a b : Value} (h : Dj a b) : Dj b a := by
  rcases h with h | h
  · cases hb : b.ownBlock with
    | none => exact .inl hb
    | some k => exact .inr (by rw [h, hb]; intro e; cases e)
  · exact .inr h.symm
/-- the blocks that are none of three slices' -/
def S3 (B : Nat) (a b c : Value) (n : Nat) : Prop := B ≤ n ∧ some n ≠ a.ownBlock ∧ some n ≠ b.ownBlock ∧ some n ≠ c.ownBlock
/-- the three rows of a program -/
structure PgR (w : World) (B : Nat) (vG vM vF : Value) (PG : List Gl) (PM : List Mx) (PF : List (Fn × FnG)) : Prop where
  rG : w.ownsRow B 66 2 vG PG.length (glK.cs PG)
  rM : w.ownsRow B 64 3 vM PM.length (mxK.cs PM)
  rF : w.ownsRow B 70 3 vF PF.length (fnK.cs PF)
  inF : ∀ p ∈ PF, fnK.In w (S3 B vG vM vF) p
  gm : Dj vG vM
  gf : Dj vG vF
  mf : Dj vM vF
theorem owns_keep {w w' : World} {B n size : Nat} {t : TypeId} {v : Value} {xs : List Value} (h : w.ownsRow B t size v n xs) (hk : ∀ b, B ≤ b → b < w.heap.size → w'.heap[b]? = w.heap[b]?) : w'.ownsRow B t size v n xs := by
  refine ⟨h.1, ?_⟩
  rcases h.2 with h0 | ⟨g, cap, cur, e, hg, hb, r⟩
  · exact .inl h0
  · exact .inr ⟨g, cap, cur, e, hg, (hk g hg (lt_of_block hb)).trans hb, r⟩
theorem PgR.nil (w : World) (B : Nat) : PgR w B (.slice none 0 0) (.slice none 0 0) (.slice none 0 0) [] [] [] :=
  ⟨World.ownsRow_nil _ _ _ _, World.ownsRow_nil _ _ _ _, World.ownsRow_nil _ _ _ _, fun p h => absurd h (by simp), .inl rfl, .inl rfl, .inl rfl⟩
theorem PgR.keep {w w' : World} {B : Nat} {vG vM vF : Value} {PG : List Gl} {PM : List Mx} {PF : List (Fn × FnG)} (h : PgR w B vG vM vF PG PM PF) (hk : ∀ b, B ≤ b → b < w.heap.size → w'.heap[b]? = w.heap[b]?) : PgR w' B vG vM vF PG PM PF :=
  ⟨owns_keep h.rG hk, owns_keep h.rM hk, owns_keep h.rF hk, fun p hp => fnK.keep (h.inF p hp) fun b hb hl => hk b hb.1 hl, h.gm, h.gf, h.mf⟩
theorem PgR.grown {w w' : World} {B g : Nat} {vG vM vF : Value} {PG : List Gl} {PM : List Mx} {PF : List (Fn × FnG)} (h : PgR w B vG vM vF PG PM PF) (hG : w.grownBy w' (some g)) (hg : g < B) : PgR w' B vG vM vF PG PM PF :=
  h.keep fun b hb hl => hG.block b hl (fun e => by injection e with e; omega)
theorem PgR.alloc {w : World} {B : Nat} {vG vM vF : Value} {PG : List Gl} {PM : List Mx} {PF : List (Fn × FnG)} (h : PgR w B vG vM vF PG PM PF) (o : Obj) : PgR (w.alloc o) B vG vM vF PG PM PF := h.keep fun b _ hl => Below.heap_alloc w o b hl
theorem PgR.putAt {w w' : World} {B r : Nat} {vG vM vF : Value} {PG : List Gl} {PM : List Mx} {PF : List (Fn × FnG)} (h : PgR w B vG vM vF PG PM PF) (hp : PutAt r w w') (hr : r < B) : PgR w' B vG vM vF PG PM PF := h.keep fun b hb _ => hp.2.2.2.2 b (by omega)
/-- a slice has grown -/
def Grw (w : World) (v v' : Value) : Prop := v'.ownBlock = v.ownBlock ∨ ∃ k, v'.ownBlock = some k ∧ w.heap.size ≤ k
theorem Dj.grw {w : World} {B n size : Nat} {t : TypeId} {a a' b : Value} {xs : List Value} (h : Dj a b) (hg : Grw w a a') (hb : w.ownsRow B t size b n xs) : Dj a' b := by
  rcases hg with e | ⟨k, e, hk⟩
  · unfold Dj
    rw [e]
    exact h
  · refine .inr ?_
    rw [e]
    intro e2
    have := (hb.lt k e2.symm).2
    omega
theorem ne_grw {w : World} {a a' : Value} {n : Nat} (hg : Grw w a a') (h : some n ≠ a.ownBlock) (hl : n < w.heap.size) : some n ≠ a'.ownBlock := by
  rcases hg with e | ⟨k, e, hk⟩
  · rw [e]
    exact h
  · rw [e]
    intro e2
    injection e2 with e2
    omega
theorem PgR.snocG {w w' : World} {B : Nat} {vG vM vF v' : Value} {PG : List Gl} {PM : List Mx} {PF : List (Fn × FnG)} (h : PgR w B vG vM vF PG PM PF) (a : Gl) (ho : w'.ownsRow B 66 2 v' (PG.length + 1) (glK.cs PG ++ glK.cl a)) (hg : w.grownBy w' vG.ownBlock) (hv : Grw w vG v') : PgR w' B v' vM vF (PG ++ [a]) PM PF := by
  refine ⟨?_, h.rM.kept hg h.gm.symm, h.rF.kept hg h.gf.symm, fun p hp => ?_, h.gm.grw hv h.rM, h.gf.grw hv h.rF, h.mf⟩
  · rw [glK.cs_snoc, List.length_append]
    exact ho
  · have h1 : fnK.In w' (fun b => S3 B vG vM vF b ∧ b < w.heap.size) p := fnK.keep (fnK.more (h.inF p hp) (fun b hb hl => ⟨hb, hl⟩)) fun b hb hl => hg.block b hl hb.1.2.1
    exact fnK.more h1 fun b hb _ => ⟨hb.1.1, ne_grw hv hb.1.2.1 hb.2, hb.1.2.2.1, hb.1.2.2.2⟩
theorem PgR.snocM {w w' : World} {B : Nat} {vG vM vF v' : Value} {PG : List Gl} {PM : List Mx} {PF : List (Fn × FnG)} (h : PgR w B vG vM vF PG PM PF) (a : Mx) (ho : w'.ownsRow B 64 3 v' (PM.length + 1) (mxK.cs PM ++ mxK.cl a)) (hg : w.grownBy w' vM.ownBlock) (hv : Grw w vM v') : PgR w' B vG v' vF PG (PM ++ [a]) PF := by
  refine ⟨h.rG.kept hg h.gm, ?_, h.rF.kept hg h.mf.symm, fun p hp => ?_, (h.gm.symm.grw hv h.rG).symm, h.gf, h.mf.grw hv h.rF⟩
  · rw [mxK.cs_snoc, List.length_append]
    exact ho
  · have h1 : fnK.In w' (fun b => S3 B vG vM vF b ∧ b < w.heap.size) p := fnK.keep (fnK.more (h.inF p hp) (fun b hb hl => ⟨hb, hl⟩)) fun b hb hl => hg.block b hl hb.1.2.2.1
    exact fnK.more h1 fun b hb _ => ⟨hb.1.1, hb.1.2.1, ne_grw hv hb.1.2.2.1 hb.2, hb.1.2.2.2⟩
theorem PgR.snocF {w w' : World} {B : Nat} {vG vM vF v' : Value} {PG : List Gl} {PM : List Mx} {PF : List (Fn × FnG)} (h : PgR w B vG vM vF PG PM PF) (a : Fn × FnG) (ha : fnK.In w (S3 B vG vM vF) a) (ho : w'.ownsRow B 70 3 v' (PF.length + 1) (fnK.cs PF ++ fnK.cl a)) (hg : w.grownBy w' vF.ownBlock) (hv : Grw w vF v') : PgR w' B vG vM v' PG PM (PF ++ [a]) := by
  have hin : ∀ p, fnK.In w (S3 B vG vM vF) p → fnK.In w' (S3 B vG vM v') p := fun p hp => by
    have h1 : fnK.In w' (fun b => S3 B vG vM vF b ∧ b < w.heap.size) p := fnK.keep (fnK.more hp (fun b hb hl => ⟨hb, hl⟩)) fun b hb hl => hg.block b hl hb.1.2.2.2
    exact fnK.more h1 fun b hb _ => ⟨hb.1.1, hb.1.2.1, hb.1.2.2.1, ne_grw hv hb.1.2.2.2 hb.2⟩
  refine ⟨h.rG.kept hg h.gf, h.rM.kept hg h.mf, ?_, fun p hp => ?_, h.gm, (h.gf.symm.grw hv h.rG).symm, (h.mf.symm.grw hv h.rM).symm⟩
  · rw [fnK.cs_snoc, List.length_append]
    exact ho
  · rcases List.mem_append.1 hp with h1 | h1
    · exact hin p (h.inF p h1)
    · rw [List.mem_singleton.1 h1]
      exact hin a ha
/-- what lies in new blocks is none of the rows' -/
theorem PgR.fresh {w0 w : World} {B N : Nat} {vG vM vF : Value} {PG : List Gl} {PM : List Mx} {PF : List (Fn × FnG)} {a : Fn × FnG} (h : PgR w0 B vG vM vF PG PM PF) (hi : fnK.In w (N ≤ ·) a) (hN : w0.heap.size ≤ N) (hB : B ≤ N) : fnK.In w (S3 B vG vM vF) a :=
  fnK.more hi fun b hb _ => ⟨by omega, fun e => by have := (h.rG.lt b e.symm).2; omega, fun e => by have := (h.rM.lt b e.symm).2; omega, fun e => by have := (h.rF.lt b e.symm).2; omega⟩
theorem Try.infoGl : (Try.prog.info? 66).map (fun i => (i.zero, i.size, i.bytes)) = some (some (.agg #[.string ⟨#[]⟩, .int .i64 0]), 2, 24) := by kernel_rfl
theorem Try.infoMx : (Try.prog.info? 64).map (fun i => (i.zero, i.size, i.bytes)) = some (some (.agg #[.string ⟨#[]⟩, .bool false, .int .i64 0]), 3, 32) := by kernel_rfl
theorem Try.infoFn : (Try.prog.info? 70).map (fun i => (i.zero, i.size, i.bytes)) = some (some (.agg #[.string ⟨#[]⟩, .slice none 0 0, .slice none 0 0]), 3, 64) := by kernel_rfl
namespace Pa
theorem sProg_dead (ts : List Tk.Tok) (f : Nat) (σ : Sg) (p : Pg) (h : σ.live = false) : sProg ts f σ p = (p, σ) := by
  cases f with
  | zero => rfl
  | succ f => rw [sProg, if_pos (.inl h)]
theorem xp_ac (ts : List Tk.Tok) (σ : Sg) (c m : Nat) (s : List UInt8) (h : isS ts σ s = true) : xp ts (lm σ c m) s = ac ts (lm σ c m) s := by
  unfold lm
  split
  · have hd := fl_dead σ 3
    generalize fl σ 3 = ρ at *
    cases ρ with
    | bad a e => rfl
    | at_ k => cases hd
  · unfold xp ac
    rw [if_pos h, if_pos h]
end Pa
end Go.Proofs.Ytlnbmmgbfgmboaa
