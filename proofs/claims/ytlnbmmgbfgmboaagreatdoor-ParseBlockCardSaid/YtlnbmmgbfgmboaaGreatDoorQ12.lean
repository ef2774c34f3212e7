import Derived.Test.YtlnbmmgbfgmboaaGreatDoorQa
import Derived.Test.YtlnbmmgbfgmboaaGreatDoorQ11
import Derived.Test.YtlnbmmgbfgmboaaGreatDoorQ9
import Derived.Deep.CutRange
namespace Go.Proofs.YtlnbmmgbfgmboaaGreatDoor
open Go.RowKit
def Ap (g q bF:Nat) (b:Nat):Prop:=b≠g∧b≠q∧b≠bF∧g<b
def zb7 (FS:List (Fn × FnG)):List Hd:=FS.map fun p=>⟨p.1.name,p.1.ps⟩
structure PwF (w:World) (g:Nat) (ys:List Int) (ar:Bool) (vA:Option Addr) (us:List Nm) (AG AM:Option Addr) (cG cM:Nat) (PG:List Gl) (PM:List Mx) (bF cF:Nat) (FS:List (Fn × FnG)) (i left:Nat) (wr:World):Prop where
 r:wr.heap[w.heap.size]?=some (.cells #[.slice none 0 0,.slice none 0 0,.slice none 0 0] 45 (0,0))
 gb:wr.heap[g]?=some (.cells #[.pointer (some ⟨w.heap.size+1,0,none⟩),.slice AG PG.length cG,.slice AM PM.length cM,.slice (some ⟨bF,0,none⟩) FS.length cF,.int .i64 (left:Int),.bool ar] 85 (0,0))
 s:Src wr (w.heap.size+1) ys i
 gl:∀j (h:j<PG.length),∃b,AG=some ⟨b,0,none⟩∧Ap g (w.heap.size+1) bF b∧wr.cell? ⟨b,j*2,none⟩=some (.string ⟨PG[j].name.toArray⟩)∧wr.cell? ⟨b,j*2+1,none⟩=some (.int .i64 PG[j].init)
 mx:∀j (h:j<PM.length),∃b,AM=some ⟨b,0,none⟩∧Ap g (w.heap.size+1) bF b∧wr.cell? ⟨b,j*3,none⟩=some (.string ⟨PM[j].name.toArray⟩)∧wr.cell? ⟨b,j*3+1,none⟩=some (.bool PM[j].re)∧wr.cell? ⟨b,j*3+2,none⟩=some (.int .i64 (PM[j].size:Int))
 fn:∀j (h:j<FS.length),wr.cell? ⟨bF,j*3,none⟩=some (.string ⟨FS[j].1.name.toArray⟩)∧wr.cell? ⟨bF,j*3+1,none⟩=some (.slice FS[j].2.A FS[j].1.ps.length FS[j].2.c)∧wr.cell? ⟨bF,j*3+2,none⟩=some (.slice FS[j].2.B FS[j].1.body.length FS[j].2.d)
 ps:∀j (h:j<FS.length),PmsM wr (Ap g (w.heap.size+1) bF) FS[j].1.ps FS[j].2.A
 bd:∀j (h:j<FS.length),StsM wr (Ap g (w.heap.size+1) bF) FS[j].1.body FS[j].2.B
 v:∀j (h:j<us.length),∃b off,vA=some ⟨b,off,none⟩∧Ap g (w.heap.size+1) bF b∧wr.cell? ⟨b,off+j,none⟩=some (.string ⟨us[j].toArray⟩)
 hz:∃cs t,wr.heap[bF]?=some (.cells cs t (0,0))∧FS.length*3≤cs.size
 hbF:g<bF∧bF<wr.heap.size
 b:Below w.heap.size w wr
 hg:g=w.heap.size+1+1
theorem PwF.keep {w wr w':World} {g:Nat} {ys:List Int} {ar:Bool} {vA:Option Addr} {us:List Nm} {AG AM:Option Addr} {cG cM:Nat} {PG:List Gl} {PM:List Mx} {bF cF:Nat} {FS:List (Fn × FnG)} {i left i' left':Nat}
  (h:PwF w g ys ar vA us AG AM cG cM PG PM bF cF FS i left wr) (hk:∀b,b<wr.heap.size→b≠g→b≠w.heap.size+1→w'.heap[b]?=wr.heap[b]?) (hs:Src w' (w.heap.size+1) ys i') (hsz:wr.heap.size≤w'.heap.size)
  (hos:w'.os=wr.os∧w'.tape=wr.tape∧w'.output=wr.output)
  (hgb:w'.heap[g]?=some (.cells #[.pointer (some ⟨w.heap.size+1,0,none⟩),.slice AG PG.length cG,.slice AM PM.length cM,.slice (some ⟨bF,0,none⟩) FS.length cF,.int .i64 (left':Int),.bool ar] 85 (0,0))) :
  PwF w g ys ar vA us AG AM cG cM PG PM bF cF FS i' left' w':=by
 have hgE:=h.hg;have hgl:=lt_of_block h.gb;have hbF:=h.hbF;have hc:∀ {b o:Nat} {u:Value},b≠g→b≠w.heap.size+1→wr.cell? ⟨b,o,none⟩=some u→w'.cell? ⟨b,o,none⟩=some u:=fun {b o u} n1 n2 hu=>(World.cell?_of_block (a:=⟨b,o,none⟩) (hk b (World.block_lt_of_cell? _ _ hu) n1 n2)).trans hu;have hB:w'.heap[bF]?=wr.heap[bF]?:=hk bF hbF.2 (by omega) (by omega);refine⟨(hk _ (by omega) (by omega) (by omega)).trans h.r,hgb,hs,fun j hj=>?_,fun j hj=>?_,fun j hj=>?_,fun j hj=>(h.ps j hj).keep fun b hb hl=>hk b hl hb.1 hb.2.1,fun j hj=>(h.bd j hj).keep fun b hb hl=>hk b hl hb.1 hb.2.1,fun j hj=>?_,?_,⟨hbF.1,by omega⟩,?_,h.hg⟩
 ·
  obtain⟨b,e,ha,c0,c1⟩:=h.gl j hj;exact⟨b,e,ha,hc ha.1 ha.2.1 c0,hc ha.1 ha.2.1 c1⟩
 ·
  obtain⟨b,e,ha,c0,c1,c2⟩:=h.mx j hj;exact⟨b,e,ha,hc ha.1 ha.2.1 c0,hc ha.1 ha.2.1 c1,hc ha.1 ha.2.1 c2⟩
 ·
  obtain⟨c0,c1,c2⟩:=h.fn j hj;exact⟨hc (by omega) (by omega) c0,hc (by omega) (by omega) c1,hc (by omega) (by omega) c2⟩
 ·
  obtain⟨b,off,e,ha,c0⟩:=h.v j hj;exact⟨b,off,e,ha,hc ha.1 ha.2.1 c0⟩
 ·
  obtain⟨cs,t,hb,hsz⟩:=h.hz;exact⟨cs,t,hB.trans hb,hsz⟩
 ·
  exact⟨hos.1.trans h.b.os,hos.2.1.trans h.b.tape,hos.2.2.trans h.b.output,by have:=h.b.size;omega,fun b hb=>(hk b (by omega) (by omega) (by omega)).trans (h.b.block b hb)⟩
def wpOf (w:World) (g:Nat) (ys:List Int) (ar:Bool) (AG AM:Option Addr) (cG cM:Nat) (PG:List Gl) (PM:List Mx) (bF cF:Nat) (FS:List (Fn × FnG)):WP :=
 ⟨g,w.heap.size+1,ys,ar,.slice AG PG.length cG,AM,cM,some ⟨bF,0,none⟩,cF,PM,zb7 FS⟩
theorem PwF.wrm {w wr:World} {g:Nat} {ys:List Int} {ar:Bool} {vA:Option Addr} {us:List Nm} {AG AM:Option Addr} {cG cM:Nat} {PG:List Gl} {PM:List Mx} {bF cF:Nat} {FS:List (Fn × FnG)} {i left:Nat}
  (h:PwF w g ys ar vA us AG AM cG cM PG PM bF cF FS i left wr) (hl:left≤24) (hm:1≤PM.length∧PM.length≤4) (hf:1≤FS.length∧FS.length≤4) (hM:∀k (h:k<PM.length),PM[k].size≤3∧PM[k].name.length≤16) (hF:∀k (h:k<FS.length),FS[k].1.ps.length≤2∧FS[k].1.name.length≤16) :
  WrM wr (wpOf w g ys ar AG AM cG cM PG PM bF cF FS) i left:=by
 have hgE:=h.hg;have hbF:=h.hbF;have hlen:(zb7 FS).length=FS.length:=List.length_map ..;refine⟨?_,h.s,by show w.heap.size+1<g;omega,fun k hk=>?_,fun k hk=>?_,hm,by show 1≤(zb7 FS).length∧(zb7 FS).length≤4;rw[hlen];exact hf,hl,hM,fun k hk=>?_⟩
 ·
  show wr.heap[g]?=some (.cells #[_,_,_,.slice _ (zb7 FS).length _,_,_] _ _);rw[hlen];exact h.gb
 ·
  obtain⟨b,e,ha,c0,c1,c2⟩:=h.mx k hk;exact⟨b,e,ha.1,ha.2.1,c0,c2⟩
 ·
  have hk':k<FS.length:=by have h1:k<(zb7 FS).length:=hk;omega
  obtain⟨c0,c1,c2⟩:=h.fn k hk';refine⟨bF,FS[k].2.A,FS[k].2.c,FS[k].2.B,FS[k].1.body.length,FS[k].2.d,rfl,by show bF≠g;omega,by show bF≠w.heap.size+1;omega,?_,?_,c2,?_⟩
  ·
   simpa[wpOf,zb7] using c0
  ·
   simpa[wpOf,zb7] using c1
  ·
   have:=(h.ps k hk').more (S':=fun b=>b≠g∧b≠w.heap.size+1) fun b hb _=>⟨hb.1,hb.2.1⟩;simpa[wpOf,zb7] using this
 ·
  have hk':k<FS.length:=by have h1:k<(zb7 FS).length:=hk;omega
  simpa[wpOf,zb7] using hF k hk'
theorem PwF.fz {w wr:World} {g:Nat} {ys:List Int} {ar:Bool} {vA:Option Addr} {us:List Nm} {AG AM:Option Addr} {cG cM:Nat} {PG:List Gl} {PM:List Mx} {bF cF:Nat} {FS:List (Fn × FnG)} {i left:Nat} (h:PwF w g ys ar vA us AG AM cG cM PG PM bF cF FS i left wr) (j:Nat):wr.frozen? ⟨bF,j,none⟩=false:=by
 obtain⟨cs,t,hb,-⟩:=h.hz;exact frozen_of_row wr bF j _ _ hb
theorem zij {w wr:World} {g:Nat} {ys:List Int} {ar:Bool} {vA:Option Addr} {us:List Nm} {AG AM AF:Option Addr} {vc cG cM cF:Nat} {PG:List Gl} {PM:List Mx} {PF:List (Fn × FnG)} {i:Nat}
  (h:PwS w g ys ar (.slice vA us.length vc) us (.slice AG PG.length cG) (.slice AM PM.length cM) (.slice AF PF.length cF) PG PM PF i wr) (hF:0<PF.length) :
  ∃bF,AF=some ⟨bF,0,none⟩∧PwF w g ys ar vA us AG AM cG cM PG PM bF cF PF i 24 wr:=by
 have hgE:=h.hg;obtain⟨bF,rfl⟩:=zcV h.p.rF hF;have hbl:=h.p.rF.lt bF rfl;have hAp:∀ {t:TypeId} {b n c m sz:Nat} {xs:List Value},wr.ownsRow (g+1) t sz (.slice (some ⟨b,0,none⟩) n c) m xs→Dj (.slice (some ⟨b,0,none⟩) n c) (.slice (some ⟨bF,0,none⟩) PF.length cF)→Ap g (w.heap.size+1) bF b:=fun {t b n c m sz xs} ho hd=>by
  have hb:=ho.lt b rfl;refine⟨by omega,by omega,fun e=>?_,by omega⟩;rcases hd with h1|h1
  ·
   cases h1
  ·
   exact h1 (by rw[e];rfl)
 have hin:∀b,S3 (g+1) (.slice AG PG.length cG) (.slice AM PM.length cM) (.slice (some ⟨bF,0,none⟩) PF.length cF) b→Ap g (w.heap.size+1) bF b:=fun b hb=>⟨by have:=hb.1;omega,by have:=hb.1;omega,fun e=>hb.2.2.2 (by rw[e];rfl),by have:=hb.1;omega⟩;refine⟨bF,rfl,h.r,h.gb,h.s,fun j hj=>?_,fun j hj=>?_,fun j hj=>?_,fun j hj=>?_,fun j hj=>?_,fun j hj=>?_,?_,⟨by omega,by omega⟩,h.b,h.hg⟩
 ·
  obtain⟨b,e⟩:=zcV h.p.rG (by omega);subst e;have q:∀o,o<2→wr.cell? ⟨b,j*2+o,none⟩=(glK.cl PG[j])[o]?:=fun o ho=>(World.ownsRow.cellAt h.p.rG _ (by show j*2+o<PG.length*2;omega)).trans (glK.cs_at PG j o hj ho);exact⟨b,rfl,hAp h.p.rG h.p.gf,q 0 (by omega),q 1 (by omega)⟩
 ·
  obtain⟨b,e⟩:=zcV h.p.rM (by omega);subst e;have q:∀o,o<3→wr.cell? ⟨b,j*3+o,none⟩=(mxK.cl PM[j])[o]?:=fun o ho=>(World.ownsRow.cellAt h.p.rM _ (by show j*3+o<PM.length*3;omega)).trans (mxK.cs_at PM j o hj ho);exact⟨b,rfl,hAp h.p.rM h.p.mf,q 0 (by omega),q 1 (by omega),q 2 (by omega)⟩
 ·
  have q:∀o,o<3→wr.cell? ⟨bF,j*3+o,none⟩=(fnK.cl PF[j])[o]?:=fun o ho=>(World.ownsRow.cellAt h.p.rF _ (by show j*3+o<PF.length*3;omega)).trans (fnK.cs_at PF j o hj ho);exact⟨q 0 (by omega),q 1 (by omega),q 2 (by omega)⟩
 ·
  exact(h.p.inF PF[j] (List.getElem_mem hj)).1.more fun b hb _=>hin b hb
 ·
  exact(h.p.inF PF[j] (List.getElem_mem hj)).2.more fun b hb _=>hin b hb
 ·
  obtain⟨b,e⟩:=zcV h.v (by omega);subst e;refine⟨b,0,rfl,hAp h.v h.dF,?_⟩;have q:=(World.ownsRow.cellAt h.v (j*1+0) (by show j*1+0<us.length*1;omega)).trans (strK.cs_at us j 0 hj (by show 0<1;omega));simpa[strK] using q
 ·
  rcases h.p.rF.2 with⟨_,h0⟩|⟨b,cap,cur,e,hg,hb,hn,hm,hcs,_⟩
  ·
   omega
  ·
   injection e with e1;injection e1 with e1;injection e1 with e1;subst e1;exact⟨cur,_,hb,by rw[hcs];exact Nat.mul_le_mul_right 3 hn⟩
theorem PwF.body {w wr:World} {g:Nat} {ys:List Int} {ar:Bool} {vA:Option Addr} {us:List Nm} {AG AM:Option Addr} {cG cM:Nat} {PG:List Gl} {PM:List Mx} {bF cF:Nat} {FS:List (Fn × FnG)} {i left k:Nat}
  (h:PwF w g ys ar vA us AG AM cG cM PG PM bF cF FS i left wr) (hk:k<FS.length) (l:List St) (A:Option Addr) (c:Nat) (hS:StsM wr (Ap g (w.heap.size+1) bF) l A) :
  PwF w g ys ar vA us AG AM cG cM PG PM bF cF (FS.set k (⟨FS[k].1.name,FS[k].1.ps,l⟩,⟨FS[k].2.A,FS[k].2.c,A,c⟩)) i left (wr.setCell ⟨bF,k*3+2,none⟩ (.slice A l.length c)):=by
 have hgE:=h.hg;have hbF:=h.hbF;have hst:=(PutAt.refl bF wr).set (k*3+2) (.slice A l.length c);have hk2:∀b,b≠bF→(wr.setCell ⟨bF,k*3+2,none⟩ (.slice A l.length c)).heap[b]?=wr.heap[b]?:=fun b hb=>hst.2.2.2.2 b hb;have hc:∀ {b o:Nat} {u:Value},b≠bF→wr.cell? ⟨b,o,none⟩=some u→(wr.setCell ⟨bF,k*3+2,none⟩ (.slice A l.length c)).cell? ⟨b,o,none⟩=some u:=fun {b o u} n1 hu=>(World.cell?_of_block (a:=⟨b,o,none⟩) (hk2 b n1)).trans hu;obtain⟨cs,t,hb,hsz0⟩:=h.hz;have hsz:k*3+2<cs.size:=by omega
 have hb':=za4 (k*3+2) (.slice A l.length c) hb;have hne:∀n,n≠k*3+2→(wr.setCell ⟨bF,k*3+2,none⟩ (.slice A l.length c)).cell? ⟨bF,n,none⟩=wr.cell? ⟨bF,n,none⟩:=fun n hn=>by
  rw[cell_of_row _ bF n _ _ _ hb',cell_of_row wr bF n _ _ _ hb,Array.getElem?_setIfInBounds_ne (Ne.symm hn)]
 have heq:(wr.setCell ⟨bF,k*3+2,none⟩ (.slice A l.length c)).cell? ⟨bF,k*3+2,none⟩=some (.slice A l.length c):=by
  rw[cell_of_row _ bF _ _ _ _ hb',Array.getElem?_setIfInBounds_self_of_lt hsz]
 refine⟨(hk2 _ (by omega)).trans h.r,?_,h.s.keep fun b hb=>hk2 b (by omega),fun j hj=>?_,fun j hj=>?_,fun j hj=>?_,fun j hj=>?_,fun j hj=>?_,fun j hj=>?_,⟨_,t,hb',by rw[List.length_set];simpa using hsz0⟩,⟨hbF.1,by rw[hst.2.2.2.1];exact hbF.2⟩,?_,h.hg⟩
 ·
  rw[List.length_set];exact(hk2 _ (by omega)).trans h.gb
 ·
  obtain⟨b,e,ha,c0,c1⟩:=h.gl j hj;exact⟨b,e,ha,hc ha.2.2.1 c0,hc ha.2.2.1 c1⟩
 ·
  obtain⟨b,e,ha,c0,c1,c2⟩:=h.mx j hj;exact⟨b,e,ha,hc ha.2.2.1 c0,hc ha.2.2.1 c1,hc ha.2.2.1 c2⟩
 ·
  have hj':j<FS.length:=by simpa using hj
  obtain⟨c0,c1,c2⟩:=h.fn j hj';by_cases hjk:k=j
  ·
   subst hjk;rw[List.getElem_set_self];exact⟨(hne _ (by omega)).trans c0,(hne _ (by omega)).trans c1,heq⟩
  ·
   rw[List.getElem_set_ne hjk];exact⟨(hne _ (by omega)).trans c0,(hne _ (by omega)).trans c1,(hne _ (by omega)).trans c2⟩
 ·
  have hj':j<FS.length:=by simpa using hj
  have hp:=(h.ps j hj').keep (w':=wr.setCell ⟨bF,k*3+2,none⟩ (.slice A l.length c)) fun b hb _=>hk2 b hb.2.2.1;by_cases hjk:k=j
  ·
   subst hjk;rw[List.getElem_set_self];exact hp
  ·
   rw[List.getElem_set_ne hjk];exact hp
 ·
  have hj':j<FS.length:=by simpa using hj
  by_cases hjk:k=j
  ·
   subst hjk;rw[List.getElem_set_self];exact hS.keep fun b hb _=>hk2 b hb.2.2.1
  ·
   rw[List.getElem_set_ne hjk];exact(h.bd j hj').keep fun b hb _=>hk2 b hb.2.2.1
 ·
  obtain⟨b,off,e,ha,c0⟩:=h.v j hj;exact⟨b,off,e,ha,hc ha.2.2.1 c0⟩
 ·
  exact⟨hst.1.trans h.b.os,hst.2.1.trans h.b.tape,hst.2.2.1.trans h.b.output,by have:=h.b.size;have:=hst.2.2.2.1;omega,fun b hb=>(hk2 b (by omega)).trans (h.b.block b hb)⟩
theorem PwF.call {w wr w':World} {g:Nat} {ys:List Int} {ar:Bool} {vA:Option Addr} {us:List Nm} {AG AM:Option Addr} {cG cM:Nat} {PG:List Gl} {PM:List Mx} {bF cF:Nat} {FS:List (Fn × FnG)} {i left i' lo:Nat}
  (h:PwF w g ys ar vA us AG AM cG cM PG PM bF cF FS i left wr) (hW:WrM w' (wpOf w g ys ar AG AM cG cM PG PM bF cF FS) i' lo) (hF:Fr g (w.heap.size+1) wr w'):PwF w g ys ar vA us AG AM cG cM PG PM bF cF FS i' lo w':=by
 refine h.keep (fun b hb n1 n2=>hF.block b hb n1 n2) hW.src hF.size ⟨hF.os,hF.tape,hF.output⟩ ?_;have hb:=hW.blk;have hlen:(zb7 FS).length=FS.length:=List.length_map ..;change w'.heap[g]?=some (.cells #[_,_,_,.slice _ (zb7 FS).length _,_,_] _ _) at hb;rw[hlen] at hb;exact hb
theorem PwF.out {w wr w':World} {g:Nat} {ys:List Int} {ar:Bool} {vA:Option Addr} {us:List Nm} {AG AM:Option Addr} {cG cM:Nat} {PG:List Gl} {PM:List Mx} {bF cF:Nat} {FS:List (Fn × FnG)} {i left:Nat}
  (h:PwF w g ys ar vA us AG AM cG cM PG PM bF cF FS i left wr) (hp:PutAt w.heap.size wr w'):(∃H,PgM w' ⟨PG,PM,FS.map (·.1)⟩ AG AM (some ⟨bF,0,none⟩) H)∧Below w.heap.size w w':=by
 have hgE:=h.hg;have hbF:=h.hbF;have hc:∀ {b o:Nat} {u:Value},g<b→wr.cell? ⟨b,o,none⟩=some u→w'.cell? ⟨b,o,none⟩=some u:=fun {b o u} n1 hu=>(World.cell?_of_block (a:=⟨b,o,none⟩) (hp.2.2.2.2 b (by omega))).trans hu;refine⟨⟨fun i=>if hi:i<FS.length then FS[i].2 else ⟨none,0,none,0⟩,fun j hj=>?_,fun j hj=>?_,fun j hj=>?_,fun j hj=>?_,fun j hj=>?_⟩,?_⟩
 ·
  obtain⟨b,e,ha,c0,c1⟩:=h.gl j hj;exact⟨b,e,hc ha.2.2.2 c0,hc ha.2.2.2 c1⟩
 ·
  obtain⟨b,e,ha,c0,c1,c2⟩:=h.mx j hj;exact⟨b,e,hc ha.2.2.2 c0,hc ha.2.2.2 c1,hc ha.2.2.2 c2⟩
 ·
  have hj':j<FS.length:=by simpa using hj
  obtain⟨c0,c1,c2⟩:=h.fn j hj';simp only[List.getElem_map,dif_pos hj'];exact⟨bF,rfl,hc hbF.1 c0,hc hbF.1 c1,hc hbF.1 c2⟩
 ·
  have hj':j<FS.length:=by simpa using hj
  simp only[List.getElem_map,dif_pos hj'];exact((h.ps j hj').keep fun b hb _=>hp.2.2.2.2 b (by have:=hb.2.2.2;omega)).more fun _ _ _=>trivial
 ·
  have hj':j<FS.length:=by simpa using hj
  simp only[List.getElem_map,dif_pos hj'];exact((h.bd j hj').keep fun b hb _=>hp.2.2.2.2 b (by have:=hb.2.2.2;omega)).more fun _ _ _=>trivial
 ·
  exact⟨hp.1.trans h.b.os,hp.2.1.trans h.b.tape,hp.2.2.1.trans h.b.output,by have:=h.b.size;have:=hp.2.2.2.1;omega,fun b hb=>(hp.2.2.2.2 b (by omega)).trans (h.b.block b hb)⟩
theorem PwF.later {w wr w':World} {g:Nat} {ys:List Int} {ar:Bool} {vA:Option Addr} {us:List Nm} {AG AM:Option Addr} {cG cM:Nat} {PG:List Gl} {PM:List Mx} {bF cF:Nat} {FS:List (Fn × FnG)} {i left:Nat}
  (h:PwF w g ys ar vA us AG AM cG cM PG PM bF cF FS i left wr) (hb:Below wr.heap.size wr w'):PwF w g ys ar vA us AG AM cG cM PG PM bF cF FS i left w':=by
 have hgl:=lt_of_block h.gb;have hgE:=h.hg;exact h.keep (fun b hl _ _=>hb.block b hl) (h.s.keep fun b hl=>hb.block b (by omega)) hb.size ⟨hb.os,hb.tape,hb.output⟩ ((hb.block g hgl).trans h.gb)
theorem PwF.cells {w wr:World} {g:Nat} {ys:List Int} {ar:Bool} {vA:Option Addr} {us:List Nm} {AG AM:Option Addr} {cG cM:Nat} {PG:List Gl} {PM:List Mx} {bF cF:Nat} {FS:List (Fn × FnG)} {i left:Nat}
  (h:PwF w g ys ar vA us AG AM cG cM PG PM bF cF FS i left wr):wr.cell? ⟨g,1,none⟩=some (.slice AG PG.length cG)∧wr.cell? ⟨g,2,none⟩=some (.slice AM PM.length cM)∧wr.cell? ⟨g,3,none⟩=some (.slice (some ⟨bF,0,none⟩) FS.length cF)∧g<wr.heap.size:=by
 have hg:=h.gb;refine⟨?_,?_,?_,lt_of_block hg⟩
 ·
  rw[cell_of_row wr _ 1 _ _ _ hg];rfl
 ·
  rw[cell_of_row wr _ 2 _ _ _ hg];rfl
 ·
  rw[cell_of_row wr _ 3 _ _ _ hg];rfl
def ownN (us:List Nm) (ps:List Pm):List Nm:=us++(ps.filter fun p=>!p.m).map (·.name)
theorem ziu (us:List Nm) (ps:List Pm) (j:Nat) (h:j<ps.length):ownN us (ps.take (j+1))=ownN us (ps.take j)++(if ps[j].m then [] else [ps[j].name]):=by
 unfold ownN;rw[List.take_succ_eq_append_getElem h,List.filter_append,List.map_append,List.append_assoc];cases hm:ps[j].m<;>simp[hm]
theorem zh1 (us:List Nm) (ps:List Pm):(ownN us ps).length≤us.length+ps.length:=by
 unfold ownN;rw[List.length_append,List.length_map]
 have:=List.length_filter_le (fun p:Pm=>!p.m) ps;omega
def ML6 (wo:World) (N:List Nm) (v:Value) (wr:World):Prop:=wr.ownsRow wo.heap.size 9 1 v N.length (strK.cs N)∧Below wo.heap.size wo wr
def ML5 (w:World) (g:Nat) (ys:List Int) (ar:Bool) (vA:Option Addr) (us:List Nm) (AG AM:Option Addr) (cG cM:Nat) (PG:List Gl) (PM:List Mx) (bF cF:Nat) (H0:List Hd) (k:Nat) (wr:World):Prop :=
 ∃(FS:List (Fn × FnG)) (i left:Nat) (L:Nat→Nat),zb7 FS=H0∧PwF w g ys ar vA us AG AM cG cM PG PM bF cF FS i left wr∧L 0=24∧L k=left∧left≤24 ∧
  ∀j (h:j<FS.length),j<k→∃us',BlW PM H0 FS[j].1.ps 2 (ownN us FS[j].1.ps) (L j) (L (j+1)) FS[j].1.body us'
theorem ML5.step {w:World} {g:Nat} {ys:List Int} {ar:Bool} {vA:Option Addr} {us:List Nm} {AG AM:Option Addr} {cG cM:Nat} {PG:List Gl} {PM:List Mx} {bF cF:Nat} {H0:List Hd} {k:Nat} {FS:List (Fn × FnG)} {i left lo:Nat} {L:Nat→Nat} {w9:World} {l:List St} {A:Option Addr} {c:Nat} {us9:List Nm}
  (hk:k<FS.length) (hH:zb7 FS=H0) (hL0:L 0=24) (hLk:L k=left) (hl:lo≤24) (hb:∀j (h:j<FS.length),j<k→∃us',BlW PM H0 FS[j].1.ps 2 (ownN us FS[j].1.ps) (L j) (L (j+1)) FS[j].1.body us')
  (hB:BlW PM H0 FS[k].1.ps 2 (ownN us FS[k].1.ps) left lo l us9) (hP:PwF w g ys ar vA us AG AM cG cM PG PM bF cF (FS.set k (⟨FS[k].1.name,FS[k].1.ps,l⟩,⟨FS[k].2.A,FS[k].2.c,A,c⟩)) i lo w9) :
  ML5 w g ys ar vA us AG AM cG cM PG PM bF cF H0 (k+1) w9:=by
 refine⟨_,i,lo,fun j=>if j≤k then L j else lo,?_,hP,by show (if 0≤k then L 0 else lo)=24;rw[if_pos (Nat.zero_le _)];exact hL0,by show (if k+1≤k then L (k+1) else lo)=lo;rw[if_neg (by omega)],hl,fun j hj hjk=>?_⟩
 ·
  rw[←hH];unfold zb7;refine List.ext_getElem (by simp) fun n h1 h2=>?_;simp only[List.getElem_map];by_cases hn:k=n
  ·
   subst hn;rw[List.getElem_set_self]
  ·
   rw[List.getElem_set_ne hn]
 ·
  have hj':j<FS.length:=by simpa using hj
  by_cases hn:k=j
  ·
   subst hn;rw[List.getElem_set_self];simp only[lR,if_true,show ¬k+1≤k by omega,if_false,hLk];exact⟨us9,hB⟩
  ·
   rw[List.getElem_set_ne hn];have h1:j<k:=by omega
   simp only[show j≤k by omega,show j+1≤k by omega,if_true];exact hb j hj' h1
theorem zh0 {wr wx:World} {q:Nat} {N:List Nm} {oA:Option Addr} {oc:Nat} (h:wx.ownsRow wr.heap.size 9 1 (.slice oA N.length oc) N.length (strK.cs N)) (hq:q<wr.heap.size):StrN wx q oA N:=by
 intro i hi;obtain⟨b,e⟩:=zcV h (by omega);subst e;have hb:=h.lt b rfl;refine⟨b,0,rfl,by omega,?_⟩
 have:=(World.ownsRow.cellAt h (i*1+0) (by show i*1+0<N.length*1;omega)).trans (strK.cs_at N i 0 hi (by show 0<1;omega));simpa[strK] using this
theorem pwf_strN {w wr:World} {g:Nat} {ys:List Int} {ar:Bool} {vA:Option Addr} {us:List Nm} {AG AM:Option Addr} {cG cM:Nat} {PG:List Gl} {PM:List Mx} {bF cF:Nat} {FS:List (Fn × FnG)} {i left:Nat}
  (h:PwF w g ys ar vA us AG AM cG cM PG PM bF cF FS i left wr):StrN wr g vA us:=by
 intro j hj;obtain⟨b,off,e,ha,c0⟩:=h.v j hj;exact⟨b,off,e,ha.1,c0⟩
set_option maxRecDepth 100000 in
set_option maxHeartbeats 8000000 in
theorem pgLoop6 {w wo w4:World} {g kk:Nat} {ys:List Int} {ar:Bool} {vA:Option Addr} {us:List Nm} {AG AM:Option Addr} {cG cM:Nat} {PG:List Gl} {PM:List Mx} {bF cF:Nat} {FS:List (Fn × FnG)} {i left:Nat} {v17:Value} {R:Act→World→Prop} {u0 u1 u2 u4 u5 u6 u7 u8 u9 a0 a1 a2 a3 a4 a5 a6 a7 a8 a9 aa ab ac ad ae af ag ah ai aj ak al am an ao ap aq au av aw ax ay az aA aB aC aD aE aF aG aH aI aJ aK aL aM aN aO aP aQ aR aS aT aU aV aW aX aY aZ b0 b1 b2 b3 b4 b5 b6 b7 b8 b9 ba bb bc bd be bf bg bh bi bj bk bl bm bn bo bp bq br bs bt bu bv bw bx bz bA bB bC bD bE bG bH bI bJ bK bL bM bN bO bP bQ bR bS bT bU bV bW bX bY bZ c2 c3 c4 c5 c6 c7 c8 c9 ca cb cc cd ce cf cg ch ci cj ck cl cm cn co cp cq cr ct cu cv cw cx cy cz cA cB cC cD cE cH cI cJ cK cL cN cO cP cQ cR cS cT cU cV cW cX cY cZ d0 d1 d2 d3 d4 d5 d6 d7 d8 dS dT dU dV dW dX dY dZ e0 e1 e2 e3 e4 e5 e6 e7 e8 e9 ea eb ec ed ee d9 da db dc dd de df dg dh di dj dk dl dm dn dp dq dr ds dt du dv dw dx dy dz dA dB dC dD dE dF dG dH dI dJ dK dL dM dN dO dP dQ dR:Value}
  (hk:kk<FS.length) (hps:FS[kk].1.ps.length≤2) (hus:us.length≤1000) (HPF:Hid (PwF w g ys ar vA us AG AM cG cM PG PM bF cF FS i left wo)) (HL1:Hid (ML6 wo us v17 w4))
  (HQQ:Hid (∀(ef eg eh ei ej ek el em en eo ep eq er es et eu ev ew ex ey ez eA eB eC eD eE eF eG eH eI eJ eK eL eM eN eO eP eQ eR eS eT eU eV eW eX eY:Value) (w':World),ML6 wo (ownN us FS[kk].1.ps) ef w'→R {tmps:=#[u0,u1,u2,.pointer (some ⟨g,0,none⟩),u4,u5,u6,u7,u8,u9,a0,a1,a2,a3,a4,a5,.int .i64 (kk:Int),ef,eg,a6,a7,a8,a9,aa,ab,ac,ad,ae,af,ag,ah,ai,aj,ak,al,am,an,ao,ap,aq,au,av,aw,ax,ay,az,aA,aB,aC,aD,aE,aF,aG,aH,aI,aJ,aK,aL,aM,aN,aO,aP,aQ,aR,aS,aT,aU,aV,aW,aX,aY,aZ,b0,b1,b2,b3,b4,b5,b6,b7,b8,b9,ba,bb,bc,bd,be,bf,bg,bh,bi,bj,bk,bl,bm,bn,bo,bp,bq,br,bs,bt,bu,bv,bw,bx,bz,bA,bB,bC,bD,bE,bG,bH,bI,bJ,bK,bL,bM,bN,bO,bP,bQ,bR,bS,bT,bU,bV,bW,bX,bY,bZ,c2,c3,c4,c5,c6,c7,c8,c9,ca,cb,cc,cd,ce,cf,cg,ch,ci,cj,ck,cl,cm,cn,co,cp,cq,cr,ct,cu,cv,cw,cx,cy,cz,cA,cB,cC,cD,cE,cH,cI,cJ,cK,cL,cN,cO,cP,cQ,cR,cS,cT,cU,cV,cW,cX,cY,cZ,d0,d1,d2,d3,d4,d5,d6,d7,d8,eh,ei,ej,ek,el,em,en,eo,ep,eq,er,es,et,eu,ev,ew,ex,ey,ez,eA,eB,eC,eD,eE,eF,eG,eH,eI,eJ,eK,eL,eM,eN,eO,eP,eQ,eR,eS,eT,eU,eV,eW,eX,eY,dS,dT,dU,dV,dW,dX,dY,dZ,e0,e1,e2,e3,e4,e5,e6,e7,e8,e9,ea,eb,ec,ed,ee],defers:=[]} w')) :
  (nav [true,true,true,true,true,true,true,true,false,true,false,false,true,false,false,true,false,true,false] (Tryz.f14.body.getD .skip)).wp Tryz.prog (Exit.inBlock 11 (Nrm R)) {tmps:=#[u0,u1,u2,.pointer (some ⟨g,0,none⟩),u4,u5,u6,u7,u8,u9,a0,a1,a2,a3,a4,a5,.int .i64 (kk:Int),v17,.int .i64 0,a6,a7,a8,a9,aa,ab,ac,ad,ae,af,ag,ah,ai,aj,ak,al,am,an,ao,ap,aq,au,av,aw,ax,ay,az,aA,aB,aC,aD,aE,aF,aG,aH,aI,aJ,aK,aL,aM,aN,aO,aP,aQ,aR,aS,aT,aU,aV,aW,aX,aY,aZ,b0,b1,b2,b3,b4,b5,b6,b7,b8,b9,ba,bb,bc,bd,be,bf,bg,bh,bi,bj,bk,bl,bm,bn,bo,bp,bq,br,bs,bt,bu,bv,bw,bx,bz,bA,bB,bC,bD,bE,bG,bH,bI,bJ,bK,bL,bM,bN,bO,bP,bQ,bR,bS,bT,bU,bV,bW,bX,bY,bZ,c2,c3,c4,c5,c6,c7,c8,c9,ca,cb,cc,cd,ce,cf,cg,ch,ci,cj,ck,cl,cm,cn,co,cp,cq,cr,ct,cu,cv,cw,cx,cy,cz,cA,cB,cC,cD,cE,cH,cI,cJ,cK,cL,cN,cO,cP,cQ,cR,cS,cT,cU,cV,cW,cX,cY,cZ,d0,d1,d2,d3,d4,d5,d6,d7,d8,d9,da,db,dc,dd,de,df,dg,dh,di,dj,dk,dl,dm,dn,dp,dq,dr,ds,dt,du,dv,dw,dx,dy,dz,dA,dB,dC,dD,dE,dF,dG,dH,dI,dJ,dK,dL,dM,dN,dO,dP,dQ,dR,dS,dT,dU,dV,dW,dX,dY,dZ,e0,e1,e2,e3,e4,e5,e6,e7,e8,e9,ea,eb,ec,ed,ee],defers:=[]} w4:=by
 obtain⟨i0,hi0,hz0,hz1,hz2⟩:=info_parts Tryz.infoStr;dsimp only[nav,Tryz.f14,Option.getD]
 go_loopw [17,18] (fun v j wr=>∃q:Nat,q≤FS[kk].1.ps.length∧j=.int .i64 q∧Hid (ML6 wo (ownN us (FS[kk].1.ps.take q)) v wr)) (fun _ j _=>FS[kk].1.ps.length-(intOf j).toNat)
 case atStart=>exact⟨0,Nat.zero_le _,rfl,zH (by simpa[ownN] using HL1.out)⟩
 case round =>
  clear HL1;obtain⟨q,hq,rfl,hL⟩:=hrel;have HB:=zH hL.out.2;have HPz:=zH (HPF.out.later HB.out);obtain⟨-,-,g3,hgl⟩:=HPz.out.cells;have g0:wr.cell? ⟨g,0,none⟩=some (.pointer (some ⟨w.heap.size+1,0,none⟩)):=by rw[cell_of_row wr g 0 _ _ _ HPz.out.gb];rfl
  obtain⟨c0,c1,-⟩:=HPz.out.fn kk hk;have HPS:=zH (HPz.out.ps kk hk);have HNL:=zH (zh1 us (FS[kk].1.ps.take q));have i0':(0:Int)≤(kk:Int):=by omega
  have i1':(kk:Int)<(FS.length:Int):=by omega
  have HSN:=zH (ziu us FS[kk].1.ps q);generalize hfk:FS[kk]=fk at *;clear hfk;obtain⟨⟨fnm,fps,fbd⟩,⟨fA,fc,fB,fd⟩⟩:=fk;dsimp only at c0 c1 HPS HNL hps hq HSN hL HQQ ⊢;obtain⟨oA,oc,hv17⟩:=zb4 hL.out.1;subst hv17;by_cases hlt:q<fps.length
  ·
   obtain⟨b,off,hfA,-,m0,m1⟩:=HPS.out q hlt;subst hfA;have hS:=HSN.out hlt;have j0:(0:Int)≤(q:Int):=by omega
   have j1:(q:Int)<(fps.length:Int):=by omega
   have hnl:(ownN us (fps.take q)).length≤1002:=by have h:=HNL.out;rw[List.length_take] at h;omega
   have HL:=zH hL.out;have HS2:=zH hS;clear hS hL;generalize ownN us (fps.take q)=N at *;cases hm:fps[q].m with
   | true =>
    rw[hm] at m1 HS2;go_wp2_with fail;go_roundw
    case rel =>
     refine⟨q+1,by omega,by go_num,?_⟩;rw[HS2.out];exact zH (by simpa using HL.out)
    case measure=>simp[intOf];omega
   | false =>
    rw[hm] at m1 HS2;generalize fps[q].name=nm at *;go_wp2_with (first|(at_builtin;refine wpList_append_lies _ rfl (.tmp 225) (.tmp 239) 26 rfl wo.heap.size 9 i0 _ 1 16 Tryz.underlying26 hi0 hz0 hz1 hz2 rfl (by decide) (.slice oA N.length oc) N.length (strK.cs N) rfl (HL.out.1.alloc _) ⟨wr.heap.size,0,none⟩ 1 1 [.string ⟨nm.toArray⟩] rfl rfl (zak wr _ rfl _ _) (strK.one nm) (by omega) (by unfold maxLen;omega) (by omega) (by have:=HB.out.size;simp;omega) _ rfl ?_));intro gb cap7 w7 hown hgrow hlies hgl7;have HN7:Hid (ML6 wo (N++[nm]) (.slice (some ⟨gb,0,none⟩) (N.length+1) cap7) w7):=by
     refine⟨?_,(HB.out.alloc HB.out.size _).grown hgrow (by have:=HB.out.size;simp;omega) fun b hb=>(HL.out.1.lt b hb).1⟩;rw[strK.cs_snoc,List.length_append];exact hown
    clear hown hgrow hlies hgl7;go_wp2_with fail;go_roundw
    case rel =>
     refine⟨q+1,by omega,by go_num,?_⟩;rw[HS2.out];exact zH (by simpa using HN7.out)
    case measure=>simp[intOf];omega
  ·
   have j1:¬(q:Int)<(fps.length:Int):=by omega
   have hqe:fps.take q=fps:=List.take_of_length_le (by omega);have HQE:=zH hqe;clear hqe;go_wp2_with fail;apply HQQ.out;have h:=hL.out;rw[HQE.out] at h ⊢;exact h
set_option maxRecDepth 100000 in
set_option maxHeartbeats 8000000 in
theorem sw_lock {W:WP} {fn:Nm} {ps:List Pm} {pA bA:Option Addr} {pc bn bc N left d most k:Nat} {w wr w3:World} {vs us:List Nm} {P:List (St × SG)} {oA vA:Option Addr} {oc vc i1 i2 lo m:Nat} {Q:Exit→Act→World→Prop} {K K1 K2:Act→World→Prop} {u5 u7 u8 u9 a0 a1 a2 a3 a4 a5 a6 a7 a8 a9 aa ab ac ad ae af ag ah ai aj ak al am an ao ap aq ar au av aw ax ay az aA aB aC aD aE aF aG aH aI aJ aK aL aM aN aO aP aQ aR aS aT aU aV aW aX aY aZ b0 b1 b2 b3 b4 b5 b6 b7 b8 b9 ba bb bd be bf bg bh bi bj bk bl bm bo bp bq br bs bt bu bv bw bx bz bB bC bD bE bF bG bH bI bJ bK bL bM bN bO bP bQ bR bS bT bU bV bW bX bY bZ c0 c1 c2 c3 c4 c5 c6 c7 c8 c9 ca cb cc cd ce cf cg ch ci cj ck cl cm cn co cp cq cr ct cu cv cw cx cy cz cA cB cC cD cE cF cG cH cI cJ cK cL cM cN cO cP cQ cR cS cT cU cV cW cX cY cZ d0 d1 d2 d3 d4 d5 d6 d7 d8 d9 da db dc dd de df dg dh di dj dk dl dm dn dp dq dr ds dt du dv dw dx dy dz dA dB dC dD dE dF dG dH dI dJ dK dL dM dN dO dP dQ dR dS dT dU:Value} (hC:RndC W fn ps pA bA pc bn bc N left d most k w wr w3 vs us P oA vA oc vc i1 i2 lo m)
  (hK:∀a w,(nav [true,true,true,false,true,false,false,true,false,false,true,true,false,true,false,true] (Tryz.f33.body.getD .skip)).wp Tryz.prog (Exit.inBlock 2 (Exit.then K1 (Exit.inBlock 1 (Exit.then K2 Q)))) a w→K a w)
  (hK1:∀a w,(nav [true,true,true,false,true,false,false,true,false,false,true,true,true] (Tryz.f33.body.getD .skip)).wp Tryz.prog (Exit.inBlock 1 (Exit.then K2 Q)) a w→K1 a w) (hK2:∀a w,(nav [true,true,true,false,true,false,false,true,true] (Tryz.f33.body.getD .skip)).wp Tryz.prog Q a w→K2 a w)
  (HQQ:Hid (∀(dV dW dX dY dZ e0 e1 e2 e3 e4 e5 e6 e7 e8 e9 ea eb ec ed ee ef eg eh ei ej ek el em en eo ep eq er es et eu ev ew ex ey ez eA eB eC eD eE eF eG eH eI eJ eK eL eM eN eO eP eQ eR eS eT eU eV eW eX eY eZ f3 f4 f5 f6 f7 f8 f9 fa fb fc fd fe ff fg fh fi fj fk fl fm fo fp fq fr fs ft fu fv fw fx fy fz fA fB fC fD fE fF fG fH fI fJ fK fL fM fN fO fP fQ fR fS fT fU fV fW fX fY fZ g0 g1 g2 g3 g4 g5 g6 g7 g8 g9 ga gc gd ge gf gg gh gi gj gk gl gm gn gp gq gr gs gt gu gv gw gx gy gz gA gB gC gD gE gF gG gH gI gJ gK gL gM gN gO gP gQ gR gS gT gU gV gW gX gY gZ h0 h1 h2 h3 h5 h6 h7 h8 h9 ha hc he hf hg hh hj ho hp hq hr hs ht hu hv hw hx hy hz hA hB hD hE hF hG hH hJ hL hM hN hO vv vo vn:Value) (w':World),BkL w W ps (.cells #[.string ⟨fn.toArray⟩,.slice pA ps.length pc,.slice bA bn bc] 52 (0,0)) d left most vs vv vo vn w'→(intOf vn).toNat<k→Q .normal {tmps:=#[.pointer (some ⟨W.g,0,none⟩),.agg #[.string ⟨fn.toArray⟩,.slice pA ps.length pc,.slice bA bn bc],vv,.int .i64 (d:Int),.int .i64 (most:Int),u5,.pointer (some ⟨w.heap.size,0,none⟩),u7,u8,u9,a0,vo,vn,dV,dW,dX,dY,a3,a4,a5,a6,a7,a8,a9,aa,ab,ac,dZ,e0,e1,e2,e3,e4,e5,e6,e7,e8,e9,ea,eb,ec,ed,ee,ef,eg,eh,ei,ej,ek,el,em,en,eo,ep,eq,er,es,et,eu,ev,ew,ex,ey,ez,eA,eB,eC,eD,eE,eF,eG,eH,eI,eJ,eK,eL,eM,eN,eO,eP,eQ,eR,eS,eT,eU,eV,eW,eX,eY,eZ,f3,f4,f5,f6,f7,f8,f9,fa,fb,fc,fd,fe,ff,fg,fh,fi,fj,fk,fl,fm,fo,fp,fq,fr,fs,ft,fu,fv,fw,fx,fy,fz,fA,fB,fC,fD,fE,fF,fG,fH,fI,fJ,fK,fL,fM,fN,fO,fP,fQ,fR,fS,fT,fU,fV,fW,fX,fY,fZ,g0,g1,g2,g3,g4,g5,g6,g7,g8,g9,ga,gc,gd,ge,gf,gg,gh,gi,gj,gk,gl,gm,gn,gp,gq,gr,gs,gt,gu,gv,gw,gx,gy,gz,gA,gB,gC,gD,gE,gF,gG,gH,gI,gJ,gK,gL,gM,gN,gO,gP,gQ,gR,gS,gT,gU,gV,gW,gX,gY,gZ,h0,h1,h2,h3,h5,h6,h7,h8,h9,ha,hc,he,hf,hg,hh,hj,ho,hp,hq,hr,hs,ht,hu,hv,hw,hx,hy,hz,hA,hB,hD,hE,hF,hG,hH,hJ,hL,hM,hN,hO,dU],defers:=[]} w'))
  (h4:m<4) :
  (nav [true,true,true,false,true,false,false,true,false,false,true,true,false,true,false,false] (Tryz.f33.body.getD .skip)).wp Tryz.prog (Exit.then K (Exit.inBlock 2 (Exit.then K1 (Exit.inBlock 1 (Exit.then K2 Q))))) {tmps:=#[.pointer (some ⟨W.g,0,none⟩),.agg #[.string ⟨fn.toArray⟩,.slice pA ps.length pc,.slice bA bn bc],.slice vA us.length vc,.int .i64 (d:Int),.int .i64 (most:Int),u5,.pointer (some ⟨w.heap.size,0,none⟩),u7,u8,u9,a0,.slice oA P.length oc,.int .i64 (k:Int),.pointer (some ⟨wr.heap.size,0,none⟩),.int .i64 (m:Int),a1,a2,a3,a4,a5,a6,a7,a8,a9,aa,ab,ac,ad,ae,af,ag,ah,ai,aj,ak,al,am,an,ao,ap,aq,ar,au,av,aw,ax,ay,az,aA,aB,aC,aD,aE,aF,aG,aH,aI,aJ,aK,aL,aM,aN,aO,aP,aQ,aR,aS,aT,aU,aV,aW,aX,aY,aZ,b0,b1,b2,b3,b4,b5,b6,b7,b8,b9,ba,bb,bd,be,bf,bg,bh,bi,bj,bk,bl,bm,bo,bp,bq,br,bs,bt,bu,bv,bw,bx,bz,bB,bC,bD,bE,bF,bG,bH,bI,bJ,bK,bL,bM,bN,bO,bP,bQ,bR,bS,bT,bU,bV,bW,bX,bY,bZ,c0,c1,c2,c3,c4,c5,c6,c7,c8,c9,ca,cb,cc,cd,ce,cf,cg,ch,ci,cj,ck,cl,cm,cn,co,cp,cq,cr,ct,cu,cv,cw,cx,cy,cz,cA,cB,cC,cD,cE,cF,cG,cH,cI,cJ,cK,cL,cM,cN,cO,cP,cQ,cR,cS,cT,cU,cV,cW,cX,cY,cZ,d0,d1,d2,d3,d4,d5,d6,d7,d8,d9,da,db,dc,dd,de,df,dg,dh,di,dj,dk,dl,dm,dn,dp,dq,dr,ds,dt,du,dv,dw,dx,dy,dz,dA,dB,dC,dD,dE,dF,dG,dH,dI,dJ,dK,dL,dM,dN,dO,dP,dQ,dR,dS,dT,dU],defers:=[]} w3:=by
 obtain⟨hps,hl,hd,hm,hn,hql,hgl,hll,hgl',hwr,hk,hk0,hun,hlo,hPl,hm14,HP,IH3,IH2,HBL,HS,HF3,HT3,HW3,HNq,HNg,HPm,f0,f1,f2⟩:=hC;have hg0:=hgl;have hq0:=hql;obtain⟨i0,hi,hz0,hz1,hz2⟩:=info_parts Tryz.infoStr;obtain⟨iS,hiS,hs0,hs1,hs2⟩:=info_parts Tryz.infoSt;dsimp only[nav,Tryz.f33,Option.getD] at hK hK1 hK2 ⊢;have t4:((m:Nat):Int)<4:=by omega
 go_wp2_with fail;refine(zdf w3 W i2 lo us vA vc fn ps pA bA pc bn bc HW3.out HNq.out (by omega) HPm.out hps).mono ?_;rintro e w4 ⟨r,rA,rn,rc,i4,rfl,hR,hI,hW4,hG4⟩
 (try dsimp only)
 have HF4:=zH (HF3.out.trans (Fr.of_grown hG4));have HT4:=zH ((hG4.block _ (lt_of_block HT3.out) (fun e=>by injection e with e;omega)).trans HT3.out);have HW4:=zH hW4;have HR4:=zH hR;have HI4:=zH hI;obtain⟨r0,r1,r2,r3,r4,r5,r6,r7,r8,r9,r10,rf,-⟩:=zac HT4.out;have hz3:=lt_of_block HT3.out;have hz4:=hG4.size;clear hR hI hW4 hG4;have HQ:=zH (((PutAt.refl (wr.heap.size) w4).set 6 (.string ⟨r.name.toArray⟩)).set 7 (.slice rA rn rc));have HFk:=zH (HF4.out.putAt HQ.out (lR _));have HBk:=zH (HS.out.go HFk.out (HS.out.wmk HFk.out HW4.out HQ.out (lR _)));have HSM:Hid (StM ((w4.setCell ⟨wr.heap.size,6,none⟩ (.string ⟨r.name.toArray⟩)).setCell ⟨wr.heap.size,7,none⟩ (.slice rA rn rc)) (wr.heap.size≤·) (St.mk 5 [] noEx r [] [] []) (⟨⟨0,0,[],none,0,0⟩,rA,rn,rc,none,0,none,0,none,0⟩:SG)):=zaL 5 [] noEx r [] [] [] _ (ExM.leaf _ _ _ _ _ _ _) ((HI4.out.keep fun b hb _=>HQ.out.2.2.2.2 b (by omega)).more' fun b hb _=>by omega) (ArsM.nil _ _ _) (StsM.nil _ _ _) (StsM.nil _ _ _);have HBW:=zH (BlW.lock 5 r HBL.out (.inl rfl) HR4.out);have HNB:=zH (HS.out.lt);go_wp2_with (first|(at_builtin;refine wpList_append_lies _ rfl (.tmp 244) (.tmp 246) 35 rfl (w.heap.size+1) 73 iS _ 11 192 Tryz.underlying35 hiS hs0 hs1 hs2 rfl (by decide) (.slice oA P.length oc) P.length (stK.cs P) rfl (HBk.out.o.alloc _) ⟨w4.heap.size,0,none⟩ 1 1 [.int .i64 5,.string ⟨#[]⟩,.int .i64 0,.int .i64 0,.string ⟨#[]⟩,.slice none 0 0,.string ⟨r.name.toArray⟩,.slice rA rn rc,.slice none 0 0,.slice none 0 0,.slice none 0 0] rfl rfl (zak ((w4.setCell ⟨wr.heap.size,6,none⟩ (.string ⟨r.name.toArray⟩)).setCell ⟨wr.heap.size,7,none⟩ (.slice rA rn rc)) _ (by simp[World.setCell]) _ _) (stK.one ((St.mk 5 [] noEx r [] [] []),(⟨⟨0,0,[],none,0,0⟩,rA,rn,rc,none,0,none,0,none,0⟩:SG))) (by omega) (by unfold maxLen;omega) (by omega) (by simp[World.setCell];omega) _ rfl ?_));intro gb cap7 w7 hown hgrow hlies hgl7;have HB7:=zH (HBk.out.snoc (a:=((St.mk 5 [] noEx r [] [] []),(⟨⟨0,0,[],none,0,0⟩,rA,rn,rc,none,0,none,0,none,0⟩:SG))) HSM.out HNB.out HS.out.sz hown hgrow (zah hlies (by simp)));clear hown hgrow hlies hgl7 HSM;go_wp2_with fail;apply HQQ.out
 ·
  exact⟨k-1,P++[((St.mk 5 [] noEx r [] [] []),(⟨⟨0,0,[],none,0,0⟩,rA,rn,rc,none,0,none,0,none,0⟩:SG))],us,i4,lo,by go_num,by omega,by omega,by omega,by rw[List.map_append];exact HBW.out,HB7.out⟩
 ·
  simp[intOf];omega
set_option maxRecDepth 100000 in
set_option maxHeartbeats 8000000 in
theorem zhU {W:WP} {fn:Nm} {ps:List Pm} {pA bA:Option Addr} {pc bn bc N left d most k:Nat} {w wr w3:World} {vs us:List Nm} {P:List (St × SG)} {oA vA:Option Addr} {oc vc i1 i2 lo m:Nat} {Q:Exit→Act→World→Prop} {K K1 K2:Act→World→Prop} {u5 u7 u8 u9 a0 a1 a2 a3 a4 a5 a6 a7 a8 a9 aa ab ac ad ae af ag ah ai aj ak al am an ao ap aq ar au av aw ax ay az aA aB aC aD aE aF aG aH aI aJ aK aL aM aN aO aP aQ aR aS aT aU aV aW aX aY aZ b0 b1 b2 b3 b4 b5 b6 b7 b8 b9 ba bb bd be bf bg bh bi bj bk bl bm bo bp bq br bs bt bu bv bw bx bz bB bC bD bE bF bG bH bI bJ bK bL bM bN bO bP bQ bR bS bT bU bV bW bX bY bZ c0 c1 c2 c3 c4 c5 c6 c7 c8 c9 ca cb cc cd ce cf cg ch ci cj ck cl cm cn co cp cq cr ct cu cv cw cx cy cz cA cB cC cD cE cF cG cH cI cJ cK cL cM cN cO cP cQ cR cS cT cU cV cW cX cY cZ d0 d1 d2 d3 d4 d5 d6 d7 d8 d9 da db dc dd de df dg dh di dj dk dl dm dn dp dq dr ds dt du dv dw dx dy dz dA dB dC dD dE dF dG dH dI dJ dK dL dM dN dO dP dQ dR dS dT dU:Value} (hC:RndC W fn ps pA bA pc bn bc N left d most k w wr w3 vs us P oA vA oc vc i1 i2 lo m)
  (hK:∀a w,(nav [true,true,true,false,true,false,false,true,false,false,true,true,false,true,false,true] (Tryz.f33.body.getD .skip)).wp Tryz.prog (Exit.inBlock 2 (Exit.then K1 (Exit.inBlock 1 (Exit.then K2 Q)))) a w→K a w)
  (hK1:∀a w,(nav [true,true,true,false,true,false,false,true,false,false,true,true,true] (Tryz.f33.body.getD .skip)).wp Tryz.prog (Exit.inBlock 1 (Exit.then K2 Q)) a w→K1 a w) (hK2:∀a w,(nav [true,true,true,false,true,false,false,true,true] (Tryz.f33.body.getD .skip)).wp Tryz.prog Q a w→K2 a w)
  (HQQ:Hid (∀(dV dW dX dY dZ e0 e1 e2 e3 e4 e5 e6 e7 e8 e9 ea eb ec ed ee ef eg eh ei ej ek el em en eo ep eq er es et eu ev ew ex ey ez eA eB eC eD eE eF eG eH eI eJ eK eL eM eN eO eP eQ eR eS eT eU eV eW eX eY eZ f3 f4 f5 f6 f7 f8 f9 fa fb fc fd fe ff fg fh fi fj fk fl fm fo fp fq fr fs ft fu fv fw fx fy fz fA fB fC fD fE fF fG fH fI fJ fK fL fM fN fO fP fQ fR fS fT fU fV fW fX fY fZ g0 g1 g2 g3 g4 g5 g6 g7 g8 g9 ga gc gd ge gf gg gh gi gj gk gl gm gn gp gq gr gs gt gu gv gw gx gy gz gA gB gC gD gE gF gG gH gI gJ gK gL gM gN gO gP gQ gR gS gT gU gV gW gX gY gZ h0 h1 h2 h3 h5 h6 h8 h9 ha hc he hf hg hh hj ho hp hq hr hs ht hu hv hw hx hy hz hA hB hD hE hF hG hH hJ hL hM hN hO hP vv vo vn:Value) (w':World),BkL w W ps (.cells #[.string ⟨fn.toArray⟩,.slice pA ps.length pc,.slice bA bn bc] 52 (0,0)) d left most vs vv vo vn w'→(intOf vn).toNat<k→Q .normal {tmps:=#[.pointer (some ⟨W.g,0,none⟩),.agg #[.string ⟨fn.toArray⟩,.slice pA ps.length pc,.slice bA bn bc],vv,.int .i64 (d:Int),.int .i64 (most:Int),u5,.pointer (some ⟨w.heap.size,0,none⟩),u7,u8,u9,a0,vo,vn,dV,dW,dX,dY,a3,a4,a5,a6,a7,a8,a9,aa,ab,ac,dZ,e0,e1,e2,e3,e4,e5,e6,e7,e8,e9,ea,eb,ec,ed,ee,ef,eg,eh,ei,ej,ek,el,em,en,eo,ep,eq,er,es,et,eu,ev,ew,ex,ey,ez,eA,eB,eC,eD,eE,eF,eG,eH,eI,eJ,eK,eL,eM,eN,eO,eP,eQ,eR,eS,eT,eU,eV,eW,eX,eY,eZ,f3,f4,f5,f6,f7,f8,f9,fa,fb,fc,fd,fe,ff,fg,fh,fi,fj,fk,fl,fm,fo,fp,fq,fr,fs,ft,fu,fv,fw,fx,fy,fz,fA,fB,fC,fD,fE,fF,fG,fH,fI,fJ,fK,fL,fM,fN,fO,fP,fQ,fR,fS,fT,fU,fV,fW,fX,fY,fZ,g0,g1,g2,g3,g4,g5,g6,g7,g8,g9,ga,gc,gd,ge,gf,gg,gh,gi,gj,gk,gl,gm,gn,gp,gq,gr,gs,gt,gu,gv,gw,gx,gy,gz,gA,gB,gC,gD,gE,gF,gG,gH,gI,gJ,gK,gL,gM,gN,gO,gP,gQ,gR,gS,gT,gU,gV,gW,gX,gY,gZ,h0,h1,h2,h3,h5,h6,h8,h9,ha,hc,he,hf,hg,hh,hj,ho,hp,hq,hr,hs,ht,hu,hv,hw,hx,hy,hz,hA,hB,hD,hE,hF,hG,hH,hJ,hL,hM,hN,hO,hP,dU],defers:=[]} w'))
  (h4:¬m<4) (h7:m<7) :
  (nav [true,true,true,false,true,false,false,true,false,false,true,true,false,true,false,false] (Tryz.f33.body.getD .skip)).wp Tryz.prog (Exit.then K (Exit.inBlock 2 (Exit.then K1 (Exit.inBlock 1 (Exit.then K2 Q))))) {tmps:=#[.pointer (some ⟨W.g,0,none⟩),.agg #[.string ⟨fn.toArray⟩,.slice pA ps.length pc,.slice bA bn bc],.slice vA us.length vc,.int .i64 (d:Int),.int .i64 (most:Int),u5,.pointer (some ⟨w.heap.size,0,none⟩),u7,u8,u9,a0,.slice oA P.length oc,.int .i64 (k:Int),.pointer (some ⟨wr.heap.size,0,none⟩),.int .i64 (m:Int),a1,a2,a3,a4,a5,a6,a7,a8,a9,aa,ab,ac,ad,ae,af,ag,ah,ai,aj,ak,al,am,an,ao,ap,aq,ar,au,av,aw,ax,ay,az,aA,aB,aC,aD,aE,aF,aG,aH,aI,aJ,aK,aL,aM,aN,aO,aP,aQ,aR,aS,aT,aU,aV,aW,aX,aY,aZ,b0,b1,b2,b3,b4,b5,b6,b7,b8,b9,ba,bb,bd,be,bf,bg,bh,bi,bj,bk,bl,bm,bo,bp,bq,br,bs,bt,bu,bv,bw,bx,bz,bB,bC,bD,bE,bF,bG,bH,bI,bJ,bK,bL,bM,bN,bO,bP,bQ,bR,bS,bT,bU,bV,bW,bX,bY,bZ,c0,c1,c2,c3,c4,c5,c6,c7,c8,c9,ca,cb,cc,cd,ce,cf,cg,ch,ci,cj,ck,cl,cm,cn,co,cp,cq,cr,ct,cu,cv,cw,cx,cy,cz,cA,cB,cC,cD,cE,cF,cG,cH,cI,cJ,cK,cL,cM,cN,cO,cP,cQ,cR,cS,cT,cU,cV,cW,cX,cY,cZ,d0,d1,d2,d3,d4,d5,d6,d7,d8,d9,da,db,dc,dd,de,df,dg,dh,di,dj,dk,dl,dm,dn,dp,dq,dr,ds,dt,du,dv,dw,dx,dy,dz,dA,dB,dC,dD,dE,dF,dG,dH,dI,dJ,dK,dL,dM,dN,dO,dP,dQ,dR,dS,dT,dU],defers:=[]} w3:=by
 obtain⟨hps,hl,hd,hm,hn,hql,hgl,hll,hgl',hwr,hk,hk0,hun,hlo,hPl,hm14,HP,IH3,IH2,HBL,HS,HF3,HT3,HW3,HNq,HNg,HPm,f0,f1,f2⟩:=hC;have hg0:=hgl;have hq0:=hql;obtain⟨i0,hi,hz0,hz1,hz2⟩:=info_parts Tryz.infoStr;obtain⟨iS,hiS,hs0,hs1,hs2⟩:=info_parts Tryz.infoSt;dsimp only[nav,Tryz.f33,Option.getD] at hK hK1 hK2 ⊢;have t4:¬((m:Nat):Int)<4:=by omega
 have t7:((m:Nat):Int)<7:=by omega
 go_wp2_with fail;refine(zdf w3 W i2 lo us vA vc fn ps pA bA pc bn bc HW3.out HNq.out (by omega) HPm.out hps).mono ?_;rintro e w4 ⟨r,rA,rn,rc,i4,rfl,hR,hI,hW4,hG4⟩
 (try dsimp only)
 have HF4:=zH (HF3.out.trans (Fr.of_grown hG4));have HT4:=zH ((hG4.block _ (lt_of_block HT3.out) (fun e=>by injection e with e;omega)).trans HT3.out);have HW4:=zH hW4;have HR4:=zH hR;have HI4:=zH hI;obtain⟨r0,r1,r2,r3,r4,r5,r6,r7,r8,r9,r10,rf,-⟩:=zac HT4.out;have hz3:=lt_of_block HT3.out;have hz4:=hG4.size;clear hR hI hW4 hG4;have HQ:=zH ((((PutAt.refl (wr.heap.size) w4).set 0 (.int .i64 6)).set 6 (.string ⟨r.name.toArray⟩)).set 7 (.slice rA rn rc));have HFk:=zH (HF4.out.putAt HQ.out (lR _));have HBk:=zH (HS.out.go HFk.out (HS.out.wmk HFk.out HW4.out HQ.out (lR _)));have HSM:Hid (StM (((w4.setCell ⟨wr.heap.size,0,none⟩ (.int .i64 6)).setCell ⟨wr.heap.size,6,none⟩ (.string ⟨r.name.toArray⟩)).setCell ⟨wr.heap.size,7,none⟩ (.slice rA rn rc)) (wr.heap.size≤·) (St.mk 6 [] noEx r [] [] []) (⟨⟨0,0,[],none,0,0⟩,rA,rn,rc,none,0,none,0,none,0⟩:SG)):=zaL 6 [] noEx r [] [] [] _ (ExM.leaf _ _ _ _ _ _ _) ((HI4.out.keep fun b hb _=>HQ.out.2.2.2.2 b (by omega)).more' fun b hb _=>by omega) (ArsM.nil _ _ _) (StsM.nil _ _ _) (StsM.nil _ _ _);have HBW:=zH (BlW.lock 6 r HBL.out (.inr rfl) HR4.out);have HNB:=zH (HS.out.lt);go_wp2_with (first|(at_builtin;refine wpList_append_lies _ rfl (.tmp 244) (.tmp 246) 35 rfl (w.heap.size+1) 73 iS _ 11 192 Tryz.underlying35 hiS hs0 hs1 hs2 rfl (by decide) (.slice oA P.length oc) P.length (stK.cs P) rfl (HBk.out.o.alloc _) ⟨w4.heap.size,0,none⟩ 1 1 [.int .i64 6,.string ⟨#[]⟩,.int .i64 0,.int .i64 0,.string ⟨#[]⟩,.slice none 0 0,.string ⟨r.name.toArray⟩,.slice rA rn rc,.slice none 0 0,.slice none 0 0,.slice none 0 0] rfl rfl (zak (((w4.setCell ⟨wr.heap.size,0,none⟩ (.int .i64 6)).setCell ⟨wr.heap.size,6,none⟩ (.string ⟨r.name.toArray⟩)).setCell ⟨wr.heap.size,7,none⟩ (.slice rA rn rc)) _ (by simp[World.setCell]) _ _) (stK.one ((St.mk 6 [] noEx r [] [] []),(⟨⟨0,0,[],none,0,0⟩,rA,rn,rc,none,0,none,0,none,0⟩:SG))) (by omega) (by unfold maxLen;omega) (by omega) (by simp[World.setCell];omega) _ rfl ?_));intro gb cap7 w7 hown hgrow hlies hgl7;have HB7:=zH (HBk.out.snoc (a:=((St.mk 6 [] noEx r [] [] []),(⟨⟨0,0,[],none,0,0⟩,rA,rn,rc,none,0,none,0,none,0⟩:SG))) HSM.out HNB.out HS.out.sz hown hgrow (zah hlies (by simp)));clear hown hgrow hlies hgl7 HSM;go_wp2_with fail;apply HQQ.out
 ·
  exact⟨k-1,P++[((St.mk 6 [] noEx r [] [] []),(⟨⟨0,0,[],none,0,0⟩,rA,rn,rc,none,0,none,0,none,0⟩:SG))],us,i4,lo,by go_num,by omega,by omega,by omega,by rw[List.map_append];exact HBW.out,HB7.out⟩
 ·
  simp[intOf];omega
end Go.Proofs.YtlnbmmgbfgmboaaGreatDoor
