import Derived.Test.YtlnbmmgbfgmboaaDoorQ19
import Derived.Test.YtlnbmmgbfgmboaaDoorQ18
import Derived.Test.YtlnbmmgbfgmboaaDoorQ2
import Derived.Deep.RegionHeld3
namespace Go.Proofs.YtlnbmmgbfgmboaaDoor
open Go.RowKit
end Go.Proofs.YtlnbmmgbfgmboaaDoor

namespace Go.Proofs.YtlnbmmgbfgmboaaDoor
open Go.RowKit
end Go.Proofs.YtlnbmmgbfgmboaaDoor

namespace Go.Proofs.YtlnbmmgbfgmboaaDoor
open Go.RowKit
structure TksOk (ts:List Tk.Tok):Prop where
 last:Ps.kindAt ts (ts.length-1)=5
 word:WOk ts
 kinds:WdOk ts
end Go.Proofs.YtlnbmmgbfgmboaaDoor

namespace Go.Proofs.YtlnbmmgbfgmboaaDoor
open Go.RowKit
end Go.Proofs.YtlnbmmgbfgmboaaDoor

namespace Go.Proofs.YtlnbmmgbfgmboaaDoor
open Go.RowKit
theorem ExB.leaf (op num:Int) (name:List UInt8) (h:name.length≤9223372036854775807):ExB (.mk op num name []):=.mk _ _ _ _ (by simp) h (fun i hi=>absurd hi (by simp))
theorem ExB.one (op num:Int) (name:List UInt8) (a:Ex) (h:name.length≤9223372036854775807) (ha:ExB a):ExB (.mk op num name [a]):=.mk _ _ _ _ (by simp) h (fun i hi=>by
 have:i=0:=by simpa using hi
 subst this
 exact ha)
theorem ExB.two (op num:Int) (name:List UInt8) (a b:Ex) (h:name.length≤9223372036854775807) (ha:ExB a) (hb:ExB b):ExB (.mk op num name [a,b]):=.mk _ _ _ _ (by simp) h (fun i hi=>by
 have:i=0∨i=1:=by simp at hi;omega
 rcases this with rfl|rfl
 ·
  exact ha
 ·
  exact hb)
def TxOk (ts:List Tk.Tok):Prop:=∀k,(Ps.textAt ts k).length≤1000000
theorem exB_fuel (ts:List Tk.Tok) (hX:TxOk ts) (f:Nat):(∀l o k y m,Ps.pE ts f l o k=.ok y m→ExB y)∧(∀l o x k y m,ExB x→Ps.pC ts f l o x k=.ok y m→ExB y)∧(∀o k y m,Ps.pO ts f o k=.ok y m→ExB y):=by
 induction f with
 | zero =>
  refine⟨?_,?_,?_⟩
  ·
   intro l o k y m h;rw[Ps.pE] at h;cases h
  ·
   intro l o x k y m _ h;rw[Ps.pC] at h;cases h
  ·
   intro o k y m h;rw[Ps.pO] at h;cases h
 | succ f ih =>
  obtain⟨iE,iC,iO⟩:=ih
  refine⟨?_,?_,?_⟩
  ·
   intro l o k y m h
   rw[Ps.step_E] at h
   obtain⟨x,k',h1,h2⟩:=Ps.bind_ok h
   exact iC _ _ _ _ _ _ (iO _ _ _ _ h1) h2
  ·
   intro l o x k y m hx h
   rw[Ps.step_C] at h
   split at h
   ·
    injection h with h _
    rw[←h]
    exact hx
   ·
    obtain⟨r,k',h1,h2⟩:=Ps.bind_ok h
    exact iC _ _ _ _ _ _ (ExB.two _ _ _ _ _ (by decide) hx (iE _ _ _ _ _ h1)) h2
  ·
   intro o k y m h
   rw[Ps.step_O] at h
   split at h
   ·
    injection h with h _
    rw[←h]
    exact ExB.leaf _ _ _ (by decide)
   split at h
   ·
    injection h with h _
    rw[←h]
    exact ExB.leaf _ _ _ (Nat.le_trans (hX k) (by omega))
   split at h
   ·
    cases h
   split at h
   ·
    cases h
   split at h
   ·
    obtain⟨r,k',h1,h2⟩:=Ps.bind_ok h
    split at h2
    ·
     injection h2 with h2 _
     rw[←h2]
     exact iE _ _ _ _ _ h1
    ·
     cases h2
   ·
    obtain⟨r,k',h1,h2⟩:=Ps.bind_ok h
    injection h2 with h2 _
    rw[←h2]
    exact ExB.one _ _ _ _ (by decide) (iO _ _ _ _ h1)
theorem words_ok:(Tk.words.all fun s=>!(([40]::[41]::Ps.sgTab).contains s))=true:=by kernel_rfl
def tokQ (n:Nat) (t:Tk.Tok):Prop:=(t.kind=3→Tk.resv t.text=true)∧t.text.length≤n
theorem tokAt_q (l:List UInt8) (k:Nat) (t:Tk.Tok) (h:Tk.tokAt l k=.ok t):tokQ l.length t:=by
 have htw:∀p:UInt8→Bool,((l.drop k).takeWhile p).length≤l.length:=fun p=>Nat.le_trans (List.takeWhile_sublist p).length_le (by simp)
 unfold Tk.tokAt at h
 split at h
 ·
  unfold Tk.nameAt at h
  dsimp only at h
  split at h
  ·
   cases h
  ·
   injection h with h
   subst h
   refine⟨?_,htw _⟩
   dsimp only
   intro h3
   split at h3
   ·
    assumption
   ·
    exact absurd h3 (by decide)
 split at h
 ·
  unfold Tk.numAt at h
  dsimp only at h
  split at h
  ·
   cases h
  ·
   injection h with h
   subst h
   exact⟨fun h3=>absurd (show (2:Nat)=3 from h3) (by decide),htw _⟩
 ·
  unfold Tk.signAt at h
  split at h
  ·
   injection h with h
   subst h
   exact⟨fun h3=>absurd (show (4:Nat)=3 from h3) (by decide),by simp;omega⟩
  split at h
  ·
   injection h with h
   subst h
   exact⟨fun h3=>absurd (show (4:Nat)=3 from h3) (by decide),by simp;omega⟩
  ·
   cases h
theorem lexGo_q (f:Nat) (l:List UInt8):∀(k:Nat) (acc:List Tk.Tok),(∀t∈acc,tokQ l.length t)→∀t∈(Tk.lexGo f l k acc).1,tokQ l.length t:=by
 induction f with
 | zero=>intro k acc _ t ht;rw[Tk.lexGo] at ht;cases ht
 | succ f ih =>
  intro k acc ha
  rw[Tk.lexGo]
  split
  ·
   intro t ht
   rcases List.mem_append.1 ht with h|h
   ·
    exact ha t h
   ·
    rw[List.mem_singleton.1 h]
    exact⟨fun h3=>absurd (show (5:Nat)=3 from h3) (by decide),by simp⟩
  ·
   split
   ·
    intro t ht;cases ht
   ·
    rename_i t' ht'
    split
    ·
     intro t ht;cases ht
    ·
     refine ih _ _ ?_
     intro t ht
     rcases List.mem_append.1 ht with h|h
     ·
      exact ha t h
     ·
      rw[List.mem_singleton.1 h]
      exact tokAt_q l k t' ht'
theorem lex_wok (l:List UInt8) (hl:l.length≤262144):WOk (Tk.lex l).1∧TxOk (Tk.lex l).1:=by
 have hq:∀t∈(Tk.lex l).1,tokQ l.length t:=by
  unfold Tk.lex
  rw[if_neg (by omega)]
  exact lexGo_q _ l _ [] (fun t h=>by cases h)
 generalize (Tk.lex l).1=ts at *
 constructor
 ·
  intro k h3
  unfold Ps.kindAt at h3
  unfold Ps.textAt
  cases hk:ts[k]? with
  | none=>rw[hk] at h3;exact absurd h3 (by decide)
  | some t =>
   rw[hk] at h3
   dsimp only at h3 ⊢
   have h1:=(hq t (List.mem_of_getElem? hk)).1 h3
   unfold Tk.resv at h1
   have h2:=List.all_eq_true.1 words_ok t.text (by simpa using h1)
   simpa using h2
 ·
  intro k
  unfold Ps.textAt
  cases hk:ts[k]? with
  | none=>simp
  | some t =>
   dsimp only
   have:=(hq t (List.mem_of_getElem? hk)).2
   omega
end Go.Proofs.YtlnbmmgbfgmboaaDoor

namespace Go.Proofs.YtlnbmmgbfgmboaaDoor
def RfB (r:Rf):Prop:=∀E,r.idx=some E→ExB E
def ArB (a:Ar):Prop:=RfB a.r∧ExB a.e
inductive StB:St→Prop
 | mk (kind:Int) (name:List UInt8) (e:Ex) (r:Rf) (args:List Ar) (thn els:List St) (he:ExB e) (hr:RfB r) (hal:args.length≤1000000) (ha:∀a∈args,ArB a) (htl:thn.length≤1000000) (ht:∀s∈thn,StB s) (hel:els.length≤1000000) (hs:∀s∈els,StB s):StB (.mk kind name e r args thn els)
def StsB (l:List St):Prop:=l.length≤1000000∧∀s∈l,StB s
def FnB (f:Fn):Prop:=f.ps.length≤1000000∧StsB f.body
structure PgB (p:Pg):Prop where
 g:p.gs.length≤1000000
 m:p.ms.length≤1000000
 f:p.fs.length≤1000000
 b:∀f∈p.fs,FnB f
theorem zeK:ExB noEx:=ExB.leaf _ _ _ (by decide)
theorem zeh:RfB noRf:=fun E h=>by cases h
theorem StsB.nil:StsB []:=⟨by simp,fun s h=>by cases h⟩
theorem zhP (ts:List Tk.Tok) (hX:TxOk ts) (σ:Pa.Sg):ExB (Pa.exX ts σ):=by
 cases σ with
 | bad m e=>exact zeK
 | at_ k =>
  show ExB (match Ps.PE ts 1 0 k with|.ok x _=>x|.bad _ _=>noEx)
  cases hR:Ps.PE ts 1 0 k with
  | bad m e=>exact zeK
  | ok x m=>exact(exB_fuel ts hX _).1 _ _ _ _ _ hR
theorem sRef_B (ts:List Tk.Tok) (hX:TxOk ts) (σ:Pa.Sg):RfB (Pa.sRef ts σ).1:=by
 unfold Pa.sRef
 split
 ·
  intro E h
  injection h with h
  rw[←h]
  exact zhP ts hX _
 ·
  intro E h
  cases h
theorem sArg_B (ts:List Tk.Tok) (hX:TxOk ts) (σ:Pa.Sg):ArB (Pa.sArg ts σ).1:=by
 unfold Pa.sArg
 split
 ·
  exact⟨sRef_B ts hX _,zeK⟩
 ·
  exact⟨zeh,zhP ts hX _⟩
theorem sArgL_B (ts:List Tk.Tok) (hX:TxOk ts) (f:Nat):∀(σ:Pa.Sg) (l:List Ar),(∀a∈l,ArB a)→(∀a∈(Pa.sArgL ts f σ l).1,ArB a)∧(Pa.sArgL ts f σ l).1.length≤l.length+f:=by
 induction f with
 | zero=>intro σ l h;exact⟨h,by rw[Pa.sArgL];simp⟩
 | succ f ih =>
  intro σ l h
  have h1:∀a∈l++[(Pa.sArg ts σ).1],ArB a:=fun a ha=>by
   rcases List.mem_append.1 ha with h2|h2
   ·
    exact h a h2
   ·
    rw[List.mem_singleton.1 h2];exact sArg_B ts hX σ
  rw[Pa.sArgL]
  split
  ·
   obtain⟨h2,h3⟩:=ih (Pa.nx (Pa.sArg ts σ).2) _ h1
   refine⟨h2,Nat.le_trans h3 ?_⟩
   simp
   omega
  ·
   refine⟨h1,?_⟩
   simp
theorem zis (ts:List Tk.Tok) (hX:TxOk ts) (hn:ts.length≤900000) (σ:Pa.Sg):(∀a∈(Pa.sArgs ts σ).1,ArB a)∧(Pa.sArgs ts σ).1.length≤1000000:=by
 unfold Pa.sArgs
 split
 ·
  exact⟨(fun a h=>by cases h),by simp⟩
 ·
  obtain⟨h1,h2⟩:=sArgL_B ts hX (ts.length+1) (Pa.xp ts σ [40]) [] (fun a h=>by cases h)
  exact⟨h1,by simp at h2;omega⟩
theorem StB.plain (kind:Int) (name:List UInt8) (e:Ex) (r:Rf) (args:List Ar) (he:ExB e) (hr:RfB r) (hal:args.length≤1000000) (ha:∀a∈args,ArB a):StB (.mk kind name e r args [] []) :=
 .mk kind name e r args [] [] he hr hal ha (by simp) (fun s h=>by cases h) (by simp) (fun s h=>by cases h)
theorem sSet_B (ts:List Tk.Tok) (hX:TxOk ts) (kind:Int) (name:List UInt8) (σ:Pa.Sg):StB (Pa.sSet ts kind name σ).1:=.plain _ _ _ _ _ (zhP ts hX _) zeh (by simp) (fun a h=>by cases h)
theorem ziq (ts:List Tk.Tok) (hX:TxOk ts) (hn:ts.length≤900000) (kind:Int) (name:List UInt8) (σ:Pa.Sg):StB (Pa.sCall ts kind name σ).1:=.plain _ _ _ _ _ zeK zeh (zis ts hX hn σ).2 (zis ts hX hn σ).1
theorem zip (ts:List Tk.Tok) (hX:TxOk ts) (kind:Int) (σ:Pa.Sg):StB (Pa.sLock ts kind σ).1:=.plain _ _ _ _ _ zeK (sRef_B ts hX σ) (by simp) (fun a h=>by cases h)
theorem sStmt_B (ts:List Tk.Tok) (hX:TxOk ts) (hn:ts.length≤900000) (blk:Pa.Sg→List St × Pa.Sg) (hb:∀τ,StsB (blk τ).1) (σ:Pa.Sg):StB (Pa.sStmt ts blk σ).1:=by
 unfold Pa.sStmt
 split
 ·
  exact sSet_B ts hX _ _ _
 split
 ·
  exact ziq ts hX hn _ _ _
 split
 ·
  exact zip ts hX _ _
 split
 ·
  exact zip ts hX _ _
 split
 ·
  unfold Pa.sIf
  split
  ·
   exact .mk _ _ _ _ _ _ _ (zhP ts hX _) zeh (by simp) (fun a h=>by cases h) (hb _).1 (hb _).2 (hb _).1 (hb _).2
  ·
   exact .mk _ _ _ _ _ _ _ (zhP ts hX _) zeh (by simp) (fun a h=>by cases h) (hb _).1 (hb _).2 (by simp) (fun s h=>by cases h)
 split
 ·
  exact .mk _ _ _ _ _ _ _ (zhP ts hX _) zeh (by simp) (fun a h=>by cases h) (hb _).1 (hb _).2 (by simp) (fun s h=>by cases h)
 split
 ·
  exact .plain _ _ _ _ _ zeK zeh (by simp) (fun a h=>by cases h)
 split
 ·
  exact ziq ts hX hn _ _ _
 ·
  exact sSet_B ts hX _ _ _
theorem sStmts_B (ts:List Tk.Tok) (st:Pa.Sg→St × Pa.Sg) (hs:∀τ,StB (st τ).1) (f:Nat):∀(σ:Pa.Sg) (l:List St),(∀s∈l,StB s)→(∀s∈(Pa.sStmts ts st f σ l).1,StB s)∧(Pa.sStmts ts st f σ l).1.length≤l.length+f:=by
 induction f with
 | zero=>intro σ l h;exact⟨h,by rw[Pa.sStmts];simp⟩
 | succ f ih =>
  intro σ l h
  rw[Pa.sStmts]
  split
  ·
   exact⟨h,by simp⟩
  split
  ·
   exact⟨h,by simp⟩
  ·
   obtain⟨h2,h3⟩:=ih (st σ).2 (l++[(st σ).1]) (fun s ha=>by
    rcases List.mem_append.1 ha with h2|h2
    ·
     exact h s h2
    ·
     rw[List.mem_singleton.1 h2];exact hs σ)
   refine⟨h2,Nat.le_trans h3 ?_⟩
   simp
   omega
theorem sBlock_B (ts:List Tk.Tok) (hX:TxOk ts) (hn:ts.length≤900000) (f:Nat):∀(o:Nat) (σ:Pa.Sg),StsB (Pa.sBlock ts f o σ).1:=by
 induction f with
 | zero=>intro o σ;exact StsB.nil
 | succ f ih =>
  intro o σ
  rw[Pa.sBlock]
  obtain⟨h1,h2⟩:=sStmts_B ts (fun τ=>Pa.sStmt ts (fun υ=>Pa.sBlock ts f (o+1) υ) τ) (fun τ=>sStmt_B ts hX hn _ (fun υ=>ih (o+1) υ) τ) (ts.length+1) (Pa.xp ts (if Pa.isS ts σ [123]=true then Pa.lm σ o 24 else σ) [123]) [] (fun s h=>by cases h)
  exact⟨by simp at h2;omega,h1⟩
theorem zio (ts:List Tk.Tok) (f:Nat):∀(σ:Pa.Sg) (l:List Pm),(Pa.sParamL ts f σ l).1.length≤l.length+f:=by
 induction f with
 | zero=>intro σ l;rw[Pa.sParamL];simp
 | succ f ih =>
  intro σ l
  rw[Pa.sParamL]
  split
  ·
   refine Nat.le_trans (ih _ _) ?_
   simp
   omega
  ·
   simp
theorem zin (ts:List Tk.Tok) (hn:ts.length≤900000) (σ:Pa.Sg):(Pa.sParams ts σ).1.length≤1000000:=by
 unfold Pa.sParams
 split
 ·
  simp
 ·
  have:=zio ts (ts.length+1) (Pa.xp ts σ [40]) []
  simp at this
  omega
theorem sFunc_B (ts:List Tk.Tok) (hX:TxOk ts) (hn:ts.length≤900000) (σ:Pa.Sg):FnB (Pa.sFunc ts σ).1:=⟨zin ts hn _,sBlock_B ts hX hn 25 0 _⟩
theorem sProg_B (ts:List Tk.Tok) (hX:TxOk ts) (hn:ts.length≤900000) (f:Nat):∀(σ:Pa.Sg) (p:Pg),(∀x∈p.fs,FnB x)→(∀x∈(Pa.sProg ts f σ p).1.fs,FnB x)∧(Pa.sProg ts f σ p).1.gs.length≤p.gs.length+f∧(Pa.sProg ts f σ p).1.ms.length≤p.ms.length+f∧(Pa.sProg ts f σ p).1.fs.length≤p.fs.length+f:=by
 induction f with
 | zero=>intro σ p h;exact⟨h,by rw[Pa.sProg];simp,by rw[Pa.sProg];simp,by rw[Pa.sProg];simp⟩
 | succ f ih =>
  intro σ p h
  rw[Pa.sProg]
  split
  ·
   exact⟨h,by simp,by simp,by simp⟩
  split
  ·
   obtain⟨h1,h2,h3,h4⟩:=ih (Pa.sGlobal ts (Pa.ac ts (Pa.lm σ p.gs.length 16) [118,97,114])).2 {p with gs:=p.gs++[(Pa.sGlobal ts (Pa.ac ts (Pa.lm σ p.gs.length 16) [118,97,114])).1]} h
   refine⟨h1,Nat.le_trans h2 (by simp;omega),Nat.le_trans h3 (by simp),Nat.le_trans h4 (by simp)⟩
  split
  ·
   obtain⟨h1,h2,h3,h4⟩:=ih (Pa.sMutex ts false (Pa.ac ts (Pa.lm σ p.ms.length 12) [109,117,116,101,120])).2 {p with ms:=p.ms++[(Pa.sMutex ts false (Pa.ac ts (Pa.lm σ p.ms.length 12) [109,117,116,101,120])).1]} h
   refine⟨h1,Nat.le_trans h2 (by simp),Nat.le_trans h3 (by simp;omega),Nat.le_trans h4 (by simp)⟩
  split
  ·
   obtain⟨h1,h2,h3,h4⟩:=ih (Pa.sMutex ts true (Pa.ac ts (Pa.lm σ p.ms.length 12) [114,109,117,116,101,120])).2 {p with ms:=p.ms++[(Pa.sMutex ts true (Pa.ac ts (Pa.lm σ p.ms.length 12) [114,109,117,116,101,120])).1]} h
   refine⟨h1,Nat.le_trans h2 (by simp),Nat.le_trans h3 (by simp;omega),Nat.le_trans h4 (by simp)⟩
  split
  ·
   obtain⟨h1,h2,h3,h4⟩:=ih (Pa.sFunc ts (Pa.ac ts (Pa.lm σ p.fs.length 16) [102,117,110,99])).2 {p with fs:=p.fs++[(Pa.sFunc ts (Pa.ac ts (Pa.lm σ p.fs.length 16) [102,117,110,99])).1]} (fun x hx=>by
    rcases List.mem_append.1 hx with h2|h2
    ·
     exact h x h2
    ·
     rw[List.mem_singleton.1 h2];exact sFunc_B ts hX hn _)
   refine⟨h1,Nat.le_trans h2 (by simp),Nat.le_trans h3 (by simp),Nat.le_trans h4 (by simp;omega)⟩
  ·
   exact⟨h,by simp,by simp,by simp⟩
theorem ziC (l:List UInt8) (hl:l.length≤262144):PgB (zbH l).1:=by
 have hno:PgB noPg:=⟨by simp[noPg],by simp[noPg],by simp[noPg],fun f h=>by cases h⟩
 unfold zbH
 split
 ·
  unfold zhD
  split
  ·
   have hX:=(lex_wok l hl).2
   have hn:=zgv l
   obtain⟨h1,h2,h3,h4⟩:=sProg_B (Tk.lex l).1 hX (by omega) (Tk.lex l).1.length (.at_ 0) noPg (fun x h=>by cases h)
   exact⟨by simp[noPg] at h2 ⊢;omega,by simp[noPg] at h3 ⊢;omega,by simp[noPg] at h4 ⊢;omega,h1⟩
  ·
   exact hno
 ·
  exact hno
end Go.Proofs.YtlnbmmgbfgmboaaDoor

namespace Go.Proofs.YtlnbmmgbfgmboaaDoor
open Go.RowKit
set_option maxRecDepth 100000 in
set_option maxHeartbeats 4000000 in
theorem zhz (N:Nat):∀(E:Ex) (f f':EF) (w:World),SizeOf.sizeOf E<N→ExB E→ExM w (fun _=>True) E f→ExM w (fun _=>True) E f' →
  Calls Tryd.prog 44 #[.agg #[.int .i64 f.op,.int .i64 f.num,.string ⟨f.name.toArray⟩,.slice f.A f.n f.c],.agg #[.int .i64 f'.op,.int .i64 f'.num,.string ⟨f'.name.toArray⟩,.slice f'.A f'.n f'.c]] w fun e w'=>e=.returned (.bool true)∧Below w.heap.size w w':=by
 induction N with
 | zero=>intro E f f' w h;omega
 | succ N ih =>
  intro E f f' w hN hok hM hM'
  have IH:=Lib.hid ih
  clear ih
  cases hM with
  | mk op num name args A c F hc hs =>
  cases hM' with
  | mk _ _ _ _ A' c' F' hc' hs' =>
  have HC:=Lib.hid hc
  have HS:=Lib.hid hs
  have HC':=Lib.hid hc'
  have HS':=Lib.hid hs'
  have HSZ:=Lib.hid (fun i h=>zdR op num name args i h)
  have hal:args.length≤1000000:=by
   cases hok with
   | mk _ _ _ _ hl hn hs=>exact hl
  have HIO:Hid (∀i (h:i<args.length),ExB args[i]):=by
   cases hok with
   | mk _ _ _ _ hl hn hs=>exact hs
  clear hok hc hs hc' hs'
  have n0:=nF (show op=op from rfl)
  have n1:=nF (show num=num from rfl)
  have n2:(name==name)=true:=beq_self_eq_true name
  have n3:=nF (show ((args.length:Nat):Int)=args.length from rfl)
  dsimp only
  go_enter Tryd.func44,Tryd.ntmps44
  go_wp2_with fail
  clear n0 n1 n2 n3
  go_loopw [5] (fun i wr=>∃k:Nat,k≤args.length∧i=.int .i64 k∧Below ((w.alloc (.cells #[.int .i64 op,.int .i64 num,.string ⟨name.toArray⟩,.slice A args.length c] 76)).alloc (.cells #[.int .i64 op,.int .i64 num,.string ⟨name.toArray⟩,.slice A' args.length c'] 76)).heap.size ((w.alloc (.cells #[.int .i64 op,.int .i64 num,.string ⟨name.toArray⟩,.slice A args.length c] 76)).alloc (.cells #[.int .i64 op,.int .i64 num,.string ⟨name.toArray⟩,.slice A' args.length c'] 76)) wr)
   (fun i _=>args.length-(intOf i).toNat)
  case atStart=>exact⟨0,Nat.zero_le _,rfl,Below.refl _ _⟩
  case round =>
   obtain⟨k,hk,rfl,hbel⟩:=hrel
   obtain⟨hr0,hr1,hkeep,hsz⟩:=two_new hbel
   obtain⟨q0,q1,q2,q3,f0,f1,f2,f3,hz⟩:=blk4 hr0
   obtain⟨p0,p1,p2,p3,g0,g1,g2,g3,hz'⟩:=blk4 hr1
   have HBE:=Lib.hid hbel
   have HBW:Hid (Below w.heap.size w wr):=⟨hbel.os,hbel.tape,hbel.output,by omega,hkeep⟩
   clear hbel f0 f1 f2 f3 g0 g1 g2 g3 hr0 hr1 hkeep q0 q1 q2 p0 p1 p2
   by_cases hlt:k<args.length
   ·
    obtain⟨b,off,rfl,-,hat⟩:=HC.out k hlt
    obtain⟨b',off',rfl,-,hat'⟩:=HC'.out k hlt
    have hat1:=hat.keep (HBW.out.block b hat.lt)
    have hat2:=hat'.keep (HBW.out.block b' hat'.lt)
    obtain⟨a0,a1,a2,a3⟩:=hat1
    obtain⟨e0,e1,e2,e3⟩:=hat2
    have HCH:=Lib.hid ((HS.out k hlt).later HBW.out)
    have HCH':=Lib.hid ((HS'.out k hlt).later HBW.out)
    have HSK:=Lib.hid (show SizeOf.sizeOf args[k]<N by have:=HSZ.out k hlt;omega)
    have i0:(0:Int)≤(k:Int):=by omega
    have i1:(k:Int)<(args.length:Int):=by omega
    clear hat hat'
    go_wp2_with fail
    go_region_held3 (fun w'=>w'.cell? ⟨w.heap.size,3,none⟩=some (.slice (some ⟨b,off,none⟩) args.length c)∧w'.cell? ⟨w.heap.size+1,3,none⟩=some (.slice (some ⟨b',off',none⟩) args.length c') ∧
      w'.cell? ⟨b,off+k*4,none⟩=some (.int .i64 (F k).op)∧w'.cell? ⟨b,off+k*4+1,none⟩=some (.int .i64 (F k).num)∧w'.cell? ⟨b,off+k*4+2,none⟩=some (.string ⟨(F k).name.toArray⟩)∧w'.cell? ⟨b,off+k*4+3,none⟩=some (.slice (F k).A (F k).n (F k).c) ∧
      w'.cell? ⟨b',off'+k*4,none⟩=some (.int .i64 (F' k).op)∧w'.cell? ⟨b',off'+k*4+1,none⟩=some (.int .i64 (F' k).num)∧w'.cell? ⟨b',off'+k*4+2,none⟩=some (.string ⟨(F' k).name.toArray⟩)∧w'.cell? ⟨b',off'+k*4+3,none⟩=some (.slice (F' k).A (F' k).n (F' k).c))
     (go_keep)
     (first
      | (go_at_call 44;obtain⟨k0,k1,k2,k3,k4,k5,k6,k7,k8,k9⟩:=‹_∧_∧_∧_∧_∧_∧_∧_∧_∧World.cell? _ ⟨b',off'+k*4+3,none⟩=_›;refine(IH.out args[k] (F k) (F' k) wr.drew HSK.out (HIO.out k hlt) (HCH.out.keep fun _ _ _=>rfl) (HCH'.out.keep fun _ _ _=>rfl)).mono ?_;rintro e w3 ⟨rfl,hb3⟩;have r0:=cell_later hb3 k0;have r1:=cell_later hb3 k1;have r2:=cell_later hb3 k2;have r3:=cell_later hb3 k3;have r4:=cell_later hb3 k4;have r5:=cell_later hb3 k5;have r6:=cell_later hb3 k6;have r7:=cell_later hb3 k7;have r8:=cell_later hb3 k8;have r9:=cell_later hb3 k9;have HB3:=Lib.hid hb3;clear k0 k1 k2 k3 k4 k5 k6 k7 k8 k9 hb3))
    all_goals
     clear r0 r1 r2 r3 r4 r5 r6 r7 r8 r9
     go_wp2_with fail
     go_roundw
     case rel =>
      refine⟨k+1,by omega,by go_num,?_⟩
      exact za1 HBE.out ⟨HB3.out.os,HB3.out.tape,HB3.out.output,HB3.out.size,HB3.out.block⟩
     case measure=>simp[intOf];omega
   ·
    go_wp2_with fail
    go_ret
    exact⟨rfl,HBW.out⟩
theorem zcC (E:Ex) (f f':EF) (w:World) (hB:ExB E) (hM:ExM w (fun _=>True) E f) (hM':ExM w (fun _=>True) E f') :
  Calls Tryd.prog 44 #[.agg #[.int .i64 f.op,.int .i64 f.num,.string ⟨f.name.toArray⟩,.slice f.A f.n f.c],.agg #[.int .i64 f'.op,.int .i64 f'.num,.string ⟨f'.name.toArray⟩,.slice f'.A f'.n f'.c]] w fun e w'=>e=.returned (.bool true)∧Below w.heap.size w w' :=
 zhz (SizeOf.sizeOf E+1) E f f' w (Nat.lt_succ_self _) hB hM hM'
end Go.Proofs.YtlnbmmgbfgmboaaDoor

namespace Go.Proofs.YtlnbmmgbfgmboaaDoor
open Go.RowKit
theorem IdxM.later {w w':World} {E:Option Ex} {A:Option Addr} {n:Nat} (h:IdxM w (fun _=>True) E A n) (hb:Below w.heap.size w w'):IdxM w' (fun _=>True) E A n:=h.keep fun b _ hl=>hb.block b hl
set_option maxRecDepth 100000 in
set_option maxHeartbeats 4000000 in
theorem zdg (r:Rf) (A A':Option Addr) (n n' c c':Nat) (w:World) (hB:RfB r) (hM:IdxM w (fun _=>True) r.idx A n) (hM':IdxM w (fun _=>True) r.idx A' n') :
  Calls Tryd.prog 45 #[.agg #[.string ⟨r.name.toArray⟩,.slice A n c],.agg #[.string ⟨r.name.toArray⟩,.slice A' n' c']] w fun e w'=>e=.returned (.bool true)∧Below w.heap.size w w':=by
 obtain⟨name,idx⟩:=r
 dsimp only at hM hM' ⊢
 have n2:(name==name)=true:=beq_self_eq_true name
 cases idx with
 | none =>
  have h1:n=0:=hM
  have h2:n'=0:=hM'
  subst h1 h2
  clear hM hM' hB
  go_enter Tryd.func45,Tryd.ntmps45
  go_wp2_with fail
  go_region
  all_goals
   go_wp2_with fail
   go_ret
   exact⟨rfl,(((Below.refl _ _).alloc (Nat.le_refl _) _).alloc (by simp) _).drew⟩
 | some E =>
  obtain⟨rfl,b,off,f,rfl,-,hat,hE⟩:=hM
  obtain⟨rfl,b',off',f',rfl,-,hat',hE'⟩:=hM'
  have HEB:=Lib.hid (hB E rfl)
  have hbl:=hat.lt
  have hbl':=hat'.lt
  have hk:∀(o1 o2:Obj) (b:Nat),b<w.heap.size→((w.alloc o1).alloc o2).heap[b]?=w.heap[b]?:=fun o1 o2 b hl=>(Below.heap_alloc _ _ b (by simp;omega)).trans (Below.heap_alloc _ _ b hl)
  obtain⟨W,hW⟩:∃W,W=(w.alloc (.cells #[.string ⟨name.toArray⟩,.slice (some ⟨b,off,none⟩) 1 c] 78)).alloc (.cells #[.string ⟨name.toArray⟩,.slice (some ⟨b',off',none⟩) 1 c'] 78):=⟨_,rfl⟩
  obtain⟨hn1,hn2⟩:=new2 w (.cells #[.string ⟨name.toArray⟩,.slice (some ⟨b,off,none⟩) 1 c] 78) (.cells #[.string ⟨name.toArray⟩,.slice (some ⟨b',off',none⟩) 1 c'] 78)
  rw[←hW] at hn1 hn2
  obtain⟨p0,p1,-,-,-⟩:=blk2 hn1
  obtain⟨q0,q1,-,-,-⟩:=blk2 hn2
  have hkW:∀b,b<w.heap.size→W.heap[b]?=w.heap[b]?:=fun b hl=>by rw[hW];exact hk _ _ b hl
  obtain⟨a0,a1,a2,a3⟩:=hat.keep (hkW b hbl)
  obtain⟨e0,e1,e2,e3⟩:=hat'.keep (hkW b' hbl')
  have HE:=Lib.hid (hE.keep (w':=W) fun b _ hl=>hkW b hl)
  have HE':=Lib.hid (hE'.keep (w':=W) fun b _ hl=>hkW b hl)
  have HBW:Hid (Below w.heap.size w W):=by rw[hW];exact((Below.refl _ _).alloc (Nat.le_refl _) _).alloc (by simp) _
  have HW:=Lib.hid hW
  clear hn1 hn2 hk hkW hat hat' hE hE' hB hW hbl hbl'
  go_enter Tryd.func45,Tryd.ntmps45
  go_wp2_with fail
  rw[←HW.out]
  clear HW
  go_region_held3 (fun w'=>w'.cell? ⟨w.heap.size,1,none⟩=some (.slice (some ⟨b,off,none⟩) 1 c)∧w'.cell? ⟨w.heap.size+1,1,none⟩=some (.slice (some ⟨b',off',none⟩) 1 c') ∧
    w'.cell? ⟨b,off,none⟩=some (.int .i64 f.op)∧w'.cell? ⟨b,off+1,none⟩=some (.int .i64 f.num)∧w'.cell? ⟨b,off+2,none⟩=some (.string ⟨f.name.toArray⟩)∧w'.cell? ⟨b,off+3,none⟩=some (.slice f.A f.n f.c) ∧
    w'.cell? ⟨b',off',none⟩=some (.int .i64 f'.op)∧w'.cell? ⟨b',off'+1,none⟩=some (.int .i64 f'.num)∧w'.cell? ⟨b',off'+2,none⟩=some (.string ⟨f'.name.toArray⟩)∧w'.cell? ⟨b',off'+3,none⟩=some (.slice f'.A f'.n f'.c))
   (go_keep)
   (first
    | (go_at_call 44;obtain⟨k0,k1,k2,k3,k4,k5,k6,k7,k8,k9⟩:=‹_∧_∧_∧_∧_∧_∧_∧_∧_∧World.cell? _ ⟨b',off'+3,none⟩=_›;refine(zcC E f f' W.drew HEB.out (HE.out.keep fun _ _ _=>rfl) (HE'.out.keep fun _ _ _=>rfl)).mono ?_;rintro e w3 ⟨rfl,hb3⟩;have r0:=cell_later hb3 k0;have r1:=cell_later hb3 k1;have r2:=cell_later hb3 k2;have r3:=cell_later hb3 k3;have r4:=cell_later hb3 k4;have r5:=cell_later hb3 k5;have r6:=cell_later hb3 k6;have r7:=cell_later hb3 k7;have r8:=cell_later hb3 k8;have r9:=cell_later hb3 k9;have HB3:=Lib.hid hb3;clear k0 k1 k2 k3 k4 k5 k6 k7 k8 k9 hb3))
  all_goals
   clear r0 r1 r2 r3 r4 r5 r6 r7 r8 r9
   go_wp2_with fail
   go_ret
   exact⟨rfl,zae HB3.out HBW.out.drew⟩
end Go.Proofs.YtlnbmmgbfgmboaaDoor
