import Derived.Test.YtlnbmmgbfgmboaaGreatDoorQa
import Derived.Test.YtlnbmmgbfgmboaaGreatDoorQ10
namespace Go.Proofs.YtlnbmmgbfgmboaaGreatDoor
open Go.RowKit
structure PmL (w wr:World) (g:Nat) (ys:List Int) (T:Nat) (nm:Nm) (N m i:Nat) (PS:List Pm) (pA:Option Addr) (pc:Nat) (wx:World):Prop where
 src:Src wx (w.heap.size+1) ys i
 gr:wr.grownBy wx (some (w.heap.size+1))
 t:wx.heap[T]?=some (.cells #[.string ⟨nm.toArray⟩,.slice pA PS.length pc,.slice none 0 0] 52 (0,0))
 hT:wr.heap.size≤T
 row:wx.ownsRow (T+1) 92 2 (.slice pA PS.length pc) PS.length (pmK.cs PS)
 len:PS.length+m=N
 ok:∀j (h:j<PS.length),PS[j].name=[112,UInt8.ofNat (48+(N-j))]
def ML4 (w wr:World) (g:Nat) (ys:List Int) (T:Nat) (nm:Nm) (N m:Nat) (wx:World):Prop:=∃(i:Nat) (PS:List Pm) (pA:Option Addr) (pc:Nat),PmL w wr g ys T nm N m i PS pA pc wx
theorem PmL.snoc {w wr wx w7:World} {g:Nat} {ys:List Int} {T:Nat} {nm:Nm} {N m i:Nat} {PS:List Pm} {pA:Option Addr} {pc:Nat} (h:PmL w wr g ys T nm N (m+1) i PS pA pc wx) (hq:w.heap.size+1<wr.heap.size) {w5:World} {i5:Nat} (a:Pm) {gb cap:Nat} {o:Obj}
  (hs:Src w5 (w.heap.size+1) ys i5) (hg:wx.grownBy w5 (some (w.heap.size+1))) (hn:a.name=[112,UInt8.ofNat (48+(m+1))])
  (hown:w7.ownsRow (T+1) 92 2 (.slice (some ⟨gb,0,none⟩) (PS.length+1) cap) (PS.length+1) (pmK.cs PS++pmK.cl a)) (hgrow:(w5.alloc o).grownBy w7 (Value.slice pA PS.length pc).ownBlock) :
  PmL w wr g ys T nm N m i5 (PS++[a]) (some ⟨gb,0,none⟩) cap (w7.setCell ⟨T,1,none⟩ (.slice (some ⟨gb,0,none⟩) (PS.length+1) cap)):=by
 have hTl:=lt_of_block h.t;have hT:=h.hT;have hov:∀b,(Value.slice pA PS.length pc).ownBlock=some b→T+1≤b∧b<wx.heap.size:=fun b hb=>h.row.lt b hb;have hsz:=hg.size;have hlow:∀b,b<wx.heap.size→b≤T→b≠w.heap.size+1→w7.heap[b]?=wx.heap[b]?:=fun b hb ht hq'=>(hgrow.block b (by simp;omega) (fun e=>by have:=(hov b e.symm).1;omega)).trans ((Below.heap_alloc w5 o b (by omega)).trans (hg.block b hb (fun e=>by injection e with e;omega)));have hlow5:∀b,b≤w.heap.size+1→w7.heap[b]?=w5.heap[b]?:=fun b hb=>(hgrow.block b (by simp;omega) (fun e=>by have:=(hov b e.symm).1;omega)).trans (Below.heap_alloc w5 o b (by omega));have hst:=(PutAt.refl T w7).set 1 (.slice (some ⟨gb,0,none⟩) (PS.length+1) cap);refine⟨hs.keep fun b hb=>(hst.2.2.2.2 b (by omega)).trans (hlow5 b hb),⟨?_,?_,?_,?_,fun b hb hn=>?_⟩,?_,hT,?_,by rw[List.length_append];have:=h.len;show PS.length+1+m=N;omega,fun j hj=>?_⟩
 ·
  exact hst.1.trans (hgrow.os.trans (hg.os.trans h.gr.os))
 ·
  exact hst.2.1.trans (hgrow.tape.trans (hg.tape.trans h.gr.tape))
 ·
  exact hst.2.2.1.trans (hgrow.output.trans (hg.output.trans h.gr.output))
 ·
  have:=h.gr.size;have:=hgrow.size;simp at this;have:=hst.2.2.2.1;omega
 ·
  have hw:=h.gr.size;exact(hst.2.2.2.2 b (by omega)).trans ((hlow b (by omega) (by omega) (fun e=>hn (by rw[e]))).trans (h.gr.block b hb hn))
 ·
  rw[List.length_append];exact za4 1 _ ((hlow T hTl (lR _) (by omega)).trans h.t)
 ·
  rw[List.length_append,pmK.cs_snoc];exact zas hown fun b hb _ _=>hst.2.2.2.2 b (by omega)
 ·
  rw[List.getElem_append];split
  ·
   exact h.ok j ‹_›
  ·
   have hje:j=PS.length:=by simp at hj;omega
   subst hje
   have:=h.len;simp only[Nat.sub_self,List.getElem_cons_zero];rw[hn,show N-PS.length=m+1 by omega]
structure FnH (p:Fn × FnG) (j:Nat):Prop where
 nm:p.1.name=(if j=0 then [109,97,105,110] else [102,UInt8.ofNat (48+j)])
 len:p.1.ps.length≤2
 main:j=0→p.1.ps=[]
 ps:∀i (h:i<p.1.ps.length),p.1.ps[i].name=[112,UInt8.ofNat (48+(p.1.ps.length-i))]
 body:p.1.body=[]
 B:p.2.B=none
 d:p.2.d=0
def FnOk (PF:List (Fn × FnG)):Prop:=∀j (h:j<PF.length),FnH PF[j] j
theorem FnOk.snoc {PF:List (Fn × FnG)} (h:FnOk PF) {a:Fn × FnG} (ha:FnH a PF.length):FnOk (PF++[a]):=by
 intro j hj;rw[List.getElem_append];split
 ·
  exact h j ‹_›
 ·
  have:j=PF.length:=by simp at hj;omega
  subst this;simp only[Nat.sub_self,List.getElem_cons_zero];exact ha
def ML3 (w:World) (g:Nat) (ys:List Int) (ar:Bool) (vV:Value) (us:List Nm) (vG vM:Value) (PG:List Gl) (PM:List Mx) (k:Nat) (wr:World):Prop :=
 ∃(PF:List (Fn × FnG)) (AF:Option Addr) (cF i:Nat),PF.length=k∧FnOk PF∧PwS w g ys ar vV us vG vM (.slice AF PF.length cF) PG PM PF i wr
theorem pml_in {w wr wx wz:World} {g:Nat} {ys:List Int} {ar:Bool} {vV vG vM vF:Value} {us:List Nm} {PG:List Gl} {PM:List Mx} {PF:List (Fn × FnG)} {i0 T N i:Nat} {nm:Nm} {PS:List Pm} {pA:Option Addr} {pc:Nat} (h0:PwS w g ys ar vV us vG vM vF PG PM PF i0 wr) (h:PmL w wr g ys T nm N 0 i PS pA pc wx) (hz:∀b,b<wx.heap.size→wz.heap[b]?=wx.heap[b]?) :
  fnK.In wz (S3 (g+1) vG vM vF) ((⟨nm,PS,[]⟩,⟨pA,pc,none,0⟩):Fn × FnG):=by
 have hgl:=lt_of_block h0.gb;have hT:=h.hT;refine h0.p.fresh (N:=T+1) ⟨?_,?_⟩ (by omega) (by omega)
 ·
  exact(zea (⟨h.row,fun _ _=>trivial⟩:OwnR pmK 92 wx (T+1) (.slice pA PS.length pc) PS)).keep fun b _ hl=>hz b hl
 ·
  exact StsM.nil _ _ _
theorem zfQ {w wr w5:World} {g:Nat} {ys:List Int} {i T N:Nat} {nm:Nm} (hs:Src w5 (w.heap.size+1) ys i) (hg:wr.grownBy w5 (some (w.heap.size+1))) (ht:w5.heap[T]?=some (.cells #[.string ⟨nm.toArray⟩,.slice none 0 0,.slice none 0 0] 52 (0,0))) (hT:wr.heap.size≤T):ML4 w wr g ys T nm N N w5 :=
 ⟨i,[],none,0,hs,hg,ht,hT,World.ownsRow_nil _ _ _ _,by simp,fun j h=>absurd h (by simp)⟩
end Go.Proofs.YtlnbmmgbfgmboaaGreatDoor
