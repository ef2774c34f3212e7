/- Plain functions that say what a parser of statements and programs does with its state, token by token. No statement of the program is proved in this file. A parser that is not behind an error has moved on. No statement of the program is proved in this file. -/
import Derived.Test.YtjjooekkieddbaaDoorGPar
import Derived.Test.YtjjooekkieddbaaDoorGMd
namespace Go.Proofs.YtjjooekkieddbaaDoor
namespace Pa

/-- the state of a parser: behind an error (its token, its number), or at a token -/
inductive Sg where
  | bad (m e : Nat)
  | at_ (k : Nat)
def Sg.k : Sg → Nat | .bad m _ => m | .at_ k => k
def Sg.e : Sg → Nat | .bad _ e => e | .at_ _ => 0
def Sg.live : Sg → Bool | .bad _ _ => false | .at_ _ => true
/-- the kind that a word or a sign has -/
def kd (s : List UInt8) : Nat := if Tk.resv s = true then 3 else 4
def isS (ts : List Tk.Tok) (σ : Sg) (s : List UInt8) : Bool := match σ with | .bad _ _ => false | .at_ k => decide (Ps.kindAt ts k = kd s) && decide (Ps.textAt ts k = s)
def kdS (ts : List Tk.Tok) (σ : Sg) (K : Nat) : Bool := match σ with | .bad _ _ => false | .at_ k => decide (Ps.kindAt ts k = K)
def nx : Sg → Sg | .bad m e => .bad m e | .at_ k => .at_ (k + 1)
def fl (σ : Sg) (e : Nat) : Sg := match σ with | .bad m e' => .bad m e' | .at_ k => .bad k e
def ac (ts : List Tk.Tok) (σ : Sg) (s : List UInt8) : Sg := if isS ts σ s = true then nx σ else σ
def xp (ts : List Tk.Tok) (σ : Sg) (s : List UInt8) : Sg := if isS ts σ s = true then nx σ else fl σ 4
def lm (σ : Sg) (c most : Nat) : Sg := if most ≤ c then fl σ 3 else σ
def tk (ts : List Tk.Tok) (σ : Sg) (K : Nat) : Sg := if kdS ts σ K = true then nx σ else fl σ 4
def nmV (ts : List Tk.Tok) (σ : Sg) : List UInt8 := if kdS ts σ 1 = true then Ps.textAt ts σ.k else []
def nuV (ts : List Tk.Tok) (σ : Sg) : Nat := if kdS ts σ 2 = true then Ps.numAt ts σ.k else 0
def exX (ts : List Tk.Tok) (σ : Sg) : Ex := match σ with | .bad _ _ => noEx | .at_ k => match Ps.PE ts 1 0 k with | .ok x _ => x | .bad _ _ => noEx
def exS (ts : List Tk.Tok) (σ : Sg) : Sg := match σ with | .bad m e => .bad m e | .at_ k => match Ps.PE ts 1 0 k with | .ok _ m => .at_ m | .bad m e => .bad m e

def sRef (ts : List Tk.Tok) (σ : Sg) : Rf × Sg :=
  if isS ts (tk ts σ 1) [91] = true then (⟨nmV ts σ, some (exX ts (nx (tk ts σ 1)))⟩, xp ts (exS ts (nx (tk ts σ 1))) [93]) else (⟨nmV ts σ, none⟩, tk ts σ 1)
def sArg (ts : List Tk.Tok) (σ : Sg) : Ar × Sg :=
  if isS ts σ [109, 117, 116, 101, 120] = true then (⟨true, (sRef ts (nx σ)).1, noEx⟩, (sRef ts (nx σ)).2) else (⟨false, noRf, exX ts σ⟩, exS ts σ)
def sArgL (ts : List Tk.Tok) : Nat → Sg → List Ar → List Ar × Sg
  | 0, σ, l => (l, σ)
  | f + 1, σ, l => if isS ts (sArg ts σ).2 [44] = true then sArgL ts f (nx (sArg ts σ).2) (l ++ [(sArg ts σ).1]) else (l ++ [(sArg ts σ).1], xp ts (sArg ts σ).2 [41])
def sArgs (ts : List Tk.Tok) (σ : Sg) : List Ar × Sg :=
  if isS ts (xp ts σ [40]) [41] = true then ([], nx (xp ts σ [40])) else sArgL ts (ts.length + 1) (xp ts σ [40]) []
def sSet (ts : List Tk.Tok) (kind : Int) (name : List UInt8) (σ : Sg) : St × Sg := (.mk kind name (exX ts (xp ts σ [61])) noRf [] [] [], xp ts (exS ts (xp ts σ [61])) [59])
def sCall (ts : List Tk.Tok) (kind : Int) (name : List UInt8) (σ : Sg) : St × Sg := (.mk kind name noEx noRf (sArgs ts σ).1 [] [], xp ts (sArgs ts σ).2 [59])
def sLock (ts : List Tk.Tok) (kind : Int) (σ : Sg) : St × Sg := (.mk kind [] noEx (sRef ts σ).1 [] [] [], xp ts (sRef ts σ).2 [59])
def sIf (ts : List Tk.Tok) (blk : Sg → List St × Sg) (σ : Sg) : St × Sg :=
  if isS ts (blk (exS ts σ)).2 [101, 108, 115, 101] = true then (.mk 7 [] (exX ts σ) noRf [] (blk (exS ts σ)).1 (blk (nx (blk (exS ts σ)).2)).1, (blk (nx (blk (exS ts σ)).2)).2)
  else (.mk 7 [] (exX ts σ) noRf [] (blk (exS ts σ)).1 [], (blk (exS ts σ)).2)
def sWhile (ts : List Tk.Tok) (blk : Sg → List St × Sg) (σ : Sg) : St × Sg := (.mk 8 [] (exX ts σ) noRf [] (blk (exS ts σ)).1 [], (blk (exS ts σ)).2)
/-- a statement; blk reads a block in it -/
def sStmt (ts : List Tk.Tok) (blk : Sg → List St × Sg) (σ : Sg) : St × Sg :=
  if isS ts σ [118, 97, 114] = true then sSet ts 1 (nmV ts (nx σ)) (tk ts (nx σ) 1)
  else if isS ts σ [103, 111] = true then sCall ts 4 (nmV ts (nx σ)) (tk ts (nx σ) 1)
  else if isS ts σ [108, 111, 99, 107] = true then sLock ts 5 (nx σ)
  else if isS ts σ [117, 110, 108, 111, 99, 107] = true then sLock ts 6 (nx σ)
  else if isS ts σ [105, 102] = true then sIf ts blk (nx σ)
  else if isS ts σ [119, 104, 105, 108, 101] = true then sWhile ts blk (nx σ)
  else if isS ts σ [114, 101, 116, 117, 114, 110] = true then (.mk 9 [] noEx noRf [] [] [], xp ts (nx σ) [59])
  else if isS ts (tk ts σ 1) [40] = true then sCall ts 3 (nmV ts σ) (tk ts σ 1)
  else sSet ts 2 (nmV ts σ) (tk ts σ 1)
/-- statements up to the closing brace; st reads one -/
def sStmts (ts : List Tk.Tok) (st : Sg → St × Sg) : Nat → Sg → List St → List St × Sg
  | 0, σ, l => (l, σ)
  | f + 1, σ, l => if σ.live = false then (l, σ) else if isS ts σ [125] = true then (l, nx σ) else sStmts ts st f (st σ).2 (l ++ [(st σ).1])
/-- a block that o others enclose; f: how many more may be in it, and one -/
def sBlock (ts : List Tk.Tok) : Nat → Nat → Sg → List St × Sg
  | 0, _, σ => ([], σ)
  | f + 1, o, σ => sStmts ts (fun τ => sStmt ts (fun υ => sBlock ts f (o + 1) υ) τ) (ts.length + 1) (xp ts (if isS ts σ [123] = true then lm σ o 24 else σ) [123]) []
def sParam (ts : List Tk.Tok) (i : Nat) (σ : Sg) : Pm × Sg :=
  (⟨nmV ts (ac ts (if isS ts σ [109, 117, 116, 101, 120] = true ∨ kdS ts σ 1 = true then lm σ i 6 else σ) [109, 117, 116, 101, 120]), isS ts (if isS ts σ [109, 117, 116, 101, 120] = true ∨ kdS ts σ 1 = true then lm σ i 6 else σ) [109, 117, 116, 101, 120]⟩,
    tk ts (ac ts (if isS ts σ [109, 117, 116, 101, 120] = true ∨ kdS ts σ 1 = true then lm σ i 6 else σ) [109, 117, 116, 101, 120]) 1)
def sParamL (ts : List Tk.Tok) : Nat → Sg → List Pm → List Pm × Sg
  | 0, σ, l => (l, σ)
  | f + 1, σ, l => if isS ts (sParam ts l.length σ).2 [44] = true then sParamL ts f (nx (sParam ts l.length σ).2) (l ++ [(sParam ts l.length σ).1]) else (l ++ [(sParam ts l.length σ).1], xp ts (sParam ts l.length σ).2 [41])
def sParams (ts : List Tk.Tok) (σ : Sg) : List Pm × Sg :=
  if isS ts (xp ts σ [40]) [41] = true then ([], nx (xp ts σ [40])) else sParamL ts (ts.length + 1) (xp ts σ [40]) []
/-- a global variable behind its word -/
def sGlobal (ts : List Tk.Tok) (σ : Sg) : Gl × Sg :=
  if isS ts (tk ts σ 1) [61] = true then
    (⟨nmV ts σ, if isS ts (nx (tk ts σ 1)) [45] = true then -((nuV ts (nx (nx (tk ts σ 1))) : Nat) : Int) else (nuV ts (nx (tk ts σ 1)) : Nat)⟩,
      xp ts (tk ts (ac ts (nx (tk ts σ 1)) [45]) 2) [59])
  else (⟨nmV ts σ, 0⟩, xp ts (tk ts σ 1) [59])
/-- the number of elements: its limits are checked first -/
def szS (ts : List Tk.Tok) (σ : Sg) : Sg := tk ts (if kdS ts σ 2 = true ∧ (Ps.numAt ts σ.k < 1 ∨ 64 < Ps.numAt ts σ.k) then fl σ 3 else σ) 2
/-- a mutex behind its word -/
def sMutex (ts : List Tk.Tok) (re : Bool) (σ : Sg) : Mx × Sg :=
  if re = false ∧ isS ts (tk ts σ 1) [91] = true then (⟨nmV ts σ, re, nuV ts (nx (tk ts σ 1))⟩, xp ts (xp ts (szS ts (nx (tk ts σ 1))) [93]) [59])
  else (⟨nmV ts σ, re, 0⟩, xp ts (tk ts σ 1) [59])
/-- a function behind its word -/
def sFunc (ts : List Tk.Tok) (σ : Sg) : Fn × Sg :=
  (⟨nmV ts σ, (sParams ts (tk ts σ 1)).1, (sBlock ts 25 0 (sParams ts (tk ts σ 1)).2).1⟩, (sBlock ts 25 0 (sParams ts (tk ts σ 1)).2).2)
def sProg (ts : List Tk.Tok) : Nat → Sg → Pg → Pg × Sg
  | 0, σ, p => (p, σ)
  | f + 1, σ, p =>
    if σ.live = false ∨ kdS ts σ 5 = true then (p, σ)
    else if isS ts σ [118, 97, 114] = true then sProg ts f (sGlobal ts (ac ts (lm σ p.gs.length 16) [118, 97, 114])).2 { p with gs := p.gs ++ [(sGlobal ts (ac ts (lm σ p.gs.length 16) [118, 97, 114])).1] }
    else if isS ts σ [109, 117, 116, 101, 120] = true then sProg ts f (sMutex ts false (ac ts (lm σ p.ms.length 12) [109, 117, 116, 101, 120])).2 { p with ms := p.ms ++ [(sMutex ts false (ac ts (lm σ p.ms.length 12) [109, 117, 116, 101, 120])).1] }
    else if isS ts σ [114, 109, 117, 116, 101, 120] = true then sProg ts f (sMutex ts true (ac ts (lm σ p.ms.length 12) [114, 109, 117, 116, 101, 120])).2 { p with ms := p.ms ++ [(sMutex ts true (ac ts (lm σ p.ms.length 12) [114, 109, 117, 116, 101, 120])).1] }
    else if isS ts σ [102, 117, 110, 99] = true then sProg ts f (sFunc ts (ac ts (lm σ p.fs.length 16) [102, 117, 110, 99])).2 { p with fs := p.fs ++ [(sFunc ts (ac ts (lm σ p.fs.length 16) [102, 117, 110, 99])).1] }
    else (p, fl σ 4)
end Pa
end Go.Proofs.YtjjooekkieddbaaDoor

namespace Go.Proofs.YtjjooekkieddbaaDoor
namespace Pa

/-- if there is no error behind a step, there was none before it, and the place is a later one -/
def Fws (σ τ : Sg) : Prop := τ.live = true → σ.live = true ∧ σ.k < τ.k
def Fwd (σ τ : Sg) : Prop := τ.live = true → σ.live = true ∧ σ.k ≤ τ.k
theorem Fws.fwd {σ τ : Sg} (h : Fws σ τ) : Fwd σ τ := fun hl => ⟨(h hl).1, Nat.le_of_lt (h hl).2⟩
theorem Fwd.refl (σ : Sg) : Fwd σ σ := fun h => ⟨h, Nat.le_refl _⟩
theorem Fwd.trans {a b c : Sg} (h : Fwd a b) (k : Fwd b c) : Fwd a c := fun hl => ⟨(h (k hl).1).1, Nat.le_trans (h (k hl).1).2 (k hl).2⟩
theorem Fws.then {a b c : Sg} (h : Fws a b) (k : Fwd b c) : Fws a c := fun hl => ⟨(h (k hl).1).1, Nat.lt_of_lt_of_le (h (k hl).1).2 (k hl).2⟩
theorem Fwd.then {a b c : Sg} (h : Fwd a b) (k : Fws b c) : Fws a c := fun hl => ⟨(h (k hl).1).1, Nat.lt_of_le_of_lt (h (k hl).1).2 (k hl).2⟩
theorem nx_fws (σ : Sg) : Fws σ (nx σ) := by
  cases σ with
  | bad m e => intro h; cases h
  | at_ k => intro _; exact ⟨rfl, Nat.lt_succ_self k⟩
theorem fl_dead (σ : Sg) (e : Nat) : (fl σ e).live = false := by cases σ <;> rfl
theorem fl_fws (σ τ : Sg) (e : Nat) : Fws τ (fl σ e) := fun h => by rw [fl_dead] at h; cases h
theorem xp_fws (ts : List Tk.Tok) (σ : Sg) (s : List UInt8) : Fws σ (xp ts σ s) := by
  unfold xp
  split
  · exact nx_fws σ
  · exact fl_fws σ σ 4
theorem tk_fws (ts : List Tk.Tok) (σ : Sg) (K : Nat) : Fws σ (tk ts σ K) := by
  unfold tk
  split
  · exact nx_fws σ
  · exact fl_fws σ σ 4
theorem ac_fwd (ts : List Tk.Tok) (σ : Sg) (s : List UInt8) : Fwd σ (ac ts σ s) := by
  unfold ac
  split
  · exact (nx_fws σ).fwd
  · exact .refl σ
theorem lm_fwd (σ : Sg) (c most : Nat) : Fwd σ (lm σ c most) := by
  unfold lm
  split
  · exact (fl_fws σ σ 3).fwd
  · exact .refl σ
theorem exS_fws (ts : List Tk.Tok) (σ : Sg) : Fws σ (exS ts σ) := by
  cases σ with
  | bad m e => intro h; cases h
  | at_ k =>
    unfold exS
    dsimp only
    cases h : Ps.PE ts 1 0 k with
    | ok x m => intro _; exact ⟨rfl, Ps.PE_moves h⟩
    | bad m e => intro h; cases h
theorem sRef_fws (ts : List Tk.Tok) (σ : Sg) : Fws σ (sRef ts σ).2 := by
  unfold sRef
  split
  · exact (tk_fws ts σ 1).then ((nx_fws _).fwd.trans ((exS_fws ts _).fwd.trans (xp_fws ts _ _).fwd))
  · exact tk_fws ts σ 1
theorem sArg_fws (ts : List Tk.Tok) (σ : Sg) : Fws σ (sArg ts σ).2 := by
  unfold sArg
  split
  · exact (nx_fws σ).then (sRef_fws ts _).fwd
  · exact exS_fws ts σ
theorem sArgL_fwd (ts : List Tk.Tok) (f : Nat) : ∀ (σ : Sg) (l : List Ar), Fwd σ (sArgL ts f σ l).2 := by
  induction f with
  | zero => intro σ l; exact .refl σ
  | succ f ih =>
    intro σ l
    rw [sArgL]
    split
    · exact (sArg_fws ts σ).fwd.trans ((nx_fws _).fwd.trans (ih _ _))
    · exact (sArg_fws ts σ).fwd.trans (xp_fws ts _ _).fwd
theorem sArgs_fws (ts : List Tk.Tok) (σ : Sg) : Fws σ (sArgs ts σ).2 := by
  unfold sArgs
  split
  · exact (xp_fws ts σ _).then (nx_fws _).fwd
  · exact (xp_fws ts σ _).then (sArgL_fwd ts _ _ _)
theorem sSet_fws (ts : List Tk.Tok) (kind : Int) (name : List UInt8) (σ : Sg) : Fws σ (sSet ts kind name σ).2 := (xp_fws ts σ _).then ((exS_fws ts _).fwd.trans (xp_fws ts _ _).fwd)
theorem sCall_fws (ts : List Tk.Tok) (kind : Int) (name : List UInt8) (σ : Sg) : Fws σ (sCall ts kind name σ).2 := (sArgs_fws ts σ).then (xp_fws ts _ _).fwd
theorem sLock_fws (ts : List Tk.Tok) (kind : Int) (σ : Sg) : Fws σ (sLock ts kind σ).2 := (sRef_fws ts σ).then (xp_fws ts _ _).fwd
theorem sIf_fws (ts : List Tk.Tok) (blk : Sg → List St × Sg) (hb : ∀ τ, Fwd τ (blk τ).2) (σ : Sg) : Fws σ (sIf ts blk σ).2 := by
  unfold sIf
  split
  · exact (exS_fws ts σ).then ((hb _).trans ((nx_fws _).fwd.trans (hb _)))
  · exact (exS_fws ts σ).then (hb _)
theorem sWhile_fws (ts : List Tk.Tok) (blk : Sg → List St × Sg) (hb : ∀ τ, Fwd τ (blk τ).2) (σ : Sg) : Fws σ (sWhile ts blk σ).2 := (exS_fws ts σ).then (hb _)
theorem sStmt_fws (ts : List Tk.Tok) (blk : Sg → List St × Sg) (hb : ∀ τ, Fwd τ (blk τ).2) (σ : Sg) : Fws σ (sStmt ts blk σ).2 := by
  unfold sStmt
  split
  · exact (nx_fws σ).then ((tk_fws ts _ 1).fwd.trans (sSet_fws ts 1 _ _).fwd)
  split
  · exact (nx_fws σ).then ((tk_fws ts _ 1).fwd.trans (sCall_fws ts 4 _ _).fwd)
  split
  · exact (nx_fws σ).then (sLock_fws ts 5 _).fwd
  split
  · exact (nx_fws σ).then (sLock_fws ts 6 _).fwd
  split
  · exact (nx_fws σ).then (sIf_fws ts blk hb _).fwd
  split
  · exact (nx_fws σ).then (sWhile_fws ts blk hb _).fwd
  split
  · exact (nx_fws σ).then (xp_fws ts _ _).fwd
  split
  · exact (tk_fws ts σ 1).then (sCall_fws ts 3 _ _).fwd
  · exact (tk_fws ts σ 1).then (sSet_fws ts 2 _ _).fwd
theorem sStmts_fwd (ts : List Tk.Tok) (st : Sg → St × Sg) (hs : ∀ τ, Fws τ (st τ).2) (f : Nat) : ∀ (σ : Sg) (l : List St), Fwd σ (sStmts ts st f σ l).2 := by
  induction f with
  | zero => intro σ l; exact .refl σ
  | succ f ih =>
    intro σ l
    rw [sStmts]
    split
    · exact .refl σ
    split
    · exact (nx_fws σ).fwd
    · exact (hs σ).fwd.trans (ih _ _)
theorem sBlock_fwd (ts : List Tk.Tok) (f : Nat) : ∀ (o : Nat) (σ : Sg), Fwd σ (sBlock ts f o σ).2 := by
  induction f with
  | zero => intro o σ; exact .refl σ
  | succ f ih =>
    intro o σ
    rw [sBlock]
    refine Fwd.trans ?_ (sStmts_fwd ts _ (fun τ => sStmt_fws ts _ (fun υ => ih (o + 1) υ) τ) _ _ _)
    split
    · exact (lm_fwd σ o 24).trans (xp_fws ts _ _).fwd
    · exact (xp_fws ts σ _).fwd
theorem sParam_fws (ts : List Tk.Tok) (i : Nat) (σ : Sg) : Fws σ (sParam ts i σ).2 := by
  unfold sParam
  refine Fwd.then ?_ (tk_fws ts _ 1)
  refine Fwd.trans ?_ (ac_fwd ts _ _)
  split
  · exact lm_fwd σ i 6
  · exact .refl σ
theorem sParamL_fwd (ts : List Tk.Tok) (f : Nat) : ∀ (σ : Sg) (l : List Pm), Fwd σ (sParamL ts f σ l).2 := by
  induction f with
  | zero => intro σ l; exact .refl σ
  | succ f ih =>
    intro σ l
    rw [sParamL]
    split
    · exact (sParam_fws ts _ σ).fwd.trans ((nx_fws _).fwd.trans (ih _ _))
    · exact (sParam_fws ts _ σ).fwd.trans (xp_fws ts _ _).fwd
theorem sParams_fws (ts : List Tk.Tok) (σ : Sg) : Fws σ (sParams ts σ).2 := by
  unfold sParams
  split
  · exact (xp_fws ts σ _).then (nx_fws _).fwd
  · exact (xp_fws ts σ _).then (sParamL_fwd ts _ _ _)
theorem sGlobal_fws (ts : List Tk.Tok) (σ : Sg) : Fws σ (sGlobal ts σ).2 := by
  unfold sGlobal
  split
  · exact (tk_fws ts σ 1).then ((nx_fws _).fwd.trans ((ac_fwd ts _ _).trans ((tk_fws ts _ 2).fwd.trans (xp_fws ts _ _).fwd)))
  · exact (tk_fws ts σ 1).then (xp_fws ts _ _).fwd
theorem szS_fwd (ts : List Tk.Tok) (σ : Sg) : Fwd σ (szS ts σ) := by
  unfold szS
  refine Fwd.trans ?_ (tk_fws ts _ 2).fwd
  split
  · exact (fl_fws σ σ 3).fwd
  · exact .refl σ
theorem sMutex_fws (ts : List Tk.Tok) (re : Bool) (σ : Sg) : Fws σ (sMutex ts re σ).2 := by
  unfold sMutex
  split
  · exact (tk_fws ts σ 1).then ((nx_fws _).fwd.trans ((szS_fwd ts _).trans ((xp_fws ts _ _).fwd.trans (xp_fws ts _ _).fwd)))
  · exact (tk_fws ts σ 1).then (xp_fws ts _ _).fwd
theorem sFunc_fws (ts : List Tk.Tok) (σ : Sg) : Fws σ (sFunc ts σ).2 := (tk_fws ts σ 1).then ((sParams_fws ts _).fwd.trans (sBlock_fwd ts 25 0 _))
end Pa
end Go.Proofs.YtjjooekkieddbaaDoor
