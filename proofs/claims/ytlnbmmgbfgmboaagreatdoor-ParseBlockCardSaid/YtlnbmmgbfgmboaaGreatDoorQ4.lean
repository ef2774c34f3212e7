import Derived.Test.YtlnbmmgbfgmboaaGreatDoorQa
import Derived.Test.YtlnbmmgbfgmboaaGreatDoorQ3
import Derived.Test.YtlnbmmgbfgmboaaGreatDoorSrcExprG
import Derived.Deep.QuietTactic
import Derived.BigQuiet
import Derived.Test.YtlnbmmgbfgmboaaGreatDoorQ2
import Derived.RegionTactic
import Derived.Deep.RegionHeld3
namespace Go.Proofs.YtlnbmmgbfgmboaaGreatDoor
open Go.RowKit
theorem strD_out (op:Int) (h:¬(1≤op∧op≤17)):Ps.strD op=0:=if_neg h
set_option maxRecDepth 100000 in
set_option maxHeartbeats 4000000 in
theorem zdj (op:Int) (w:World):Calls Tryz.prog 115 #[.int .i64 op] w fun e w'=>e=.returned (.int .i64 (Ps.strD op:Int))∧w=w':=by
 by_cases h:1≤op∧op≤17
 ·
  have hc:op=1∨op=2∨op=3∨op=4∨op=5∨op=6∨op=7∨op=8∨op=9∨op=10∨op=11∨op=12∨op=13∨op=14∨op=15∨op=16∨op=17:=by omega
  clear h;rcases hc with rfl|rfl|rfl|rfl|rfl|rfl|rfl|rfl|rfl|rfl|rfl|rfl|rfl|rfl|rfl|rfl|rfl
  all_goals
   go_enter Tryz.func115,Tryz.ntmps115;go_wp2;go_ret;exact⟨zaz (by decide),rfl⟩
 ·
  have HZ:=zH (strD_out op h);have b1:=bF (show op≠1 by omega);have b2:=bF (show op≠2 by omega);have b3:=bF (show op≠3 by omega);have b4:=bF (show op≠4 by omega);have b5:=bF (show op≠5 by omega);have b6:=bF (show op≠6 by omega);have b7:=bF (show op≠7 by omega);have b8:=bF (show op≠8 by omega);have b9:=bF (show op≠9 by omega);have b10:=bF (show op≠10 by omega);have b11:=bF (show op≠11 by omega);have b12:=bF (show op≠12 by omega);have b13:=bF (show op≠13 by omega);have b14:=bF (show op≠14 by omega);have b15:=bF (show op≠15 by omega);have b16:=bF (show op≠16 by omega);have b17:=bF (show op≠17 by omega);clear h;go_enter Tryz.func115,Tryz.ntmps115;go_wp2;go_ret;exact⟨zaz (by rw[HZ.out];rfl),rfl⟩
def SgT (w:World):Prop:=∀i (h:i<Ps.sgTab.length),w.cell? ⟨0,i,none⟩=some (.string ⟨Ps.sgTab[i].toArray⟩)
theorem SgT.later {w w':World} (h:SgT w) (hb:Below w.heap.size w w'):SgT w':=fun i hi=>cell_later hb (h i hi)
theorem SgT.lt {w:World} (h:SgT w):0<w.heap.size:=World.block_lt_of_cell? _ _ (h 0 (by decide))
theorem SgT.keep {w w':World} (h:SgT w) (hb:w'.heap[(0:Nat)]?=w.heap[(0:Nat)]?):SgT w':=fun i hi=>(World.cell?_of_block hb).trans (h i hi)
theorem zcA {a b:List UInt8} (h:a=b):(a==b)=true:=beq_iff_eq.2 h
theorem zcB {a b:List UInt8} (h:a≠b):(a==b)=false:=beq_eq_false_iff_ne.2 h
theorem zhy (s:List UInt8) (n op:Nat) (h:op<Ps.sgTab.length) (he:Ps.sgTab[op]=s):Ps.opFind s (n+1) op=op:=by
 have:Ps.sgTab.getD op []=s:=by rw[←he];simp[List.getD,List.getElem?_eq_getElem h]
 rw[Ps.opFind,if_pos this]
theorem zgx (s:List UInt8) (n op:Nat) (h:op<Ps.sgTab.length) (he:Ps.sgTab[op]≠s):Ps.opFind s (n+1) op=Ps.opFind s n (op+1):=by
 have:Ps.sgTab.getD op []≠s:=by simpa[List.getD,List.getElem?_eq_getElem h] using he
 rw[Ps.opFind,if_neg this]
set_option maxRecDepth 100000 in
set_option maxHeartbeats 2000000 in
theorem zh7 (s:List UInt8) (first n:Nat) (last:Int) (hlast:last+1=first+n) (hn:first+n≤18) (w:World) (hT:SgT w) :
  Calls Tryz.prog 119 #[.string ⟨s.toArray⟩,.int .i64 (first:Int),.int .i64 last] w fun e w'=>e=.returned (.int .i64 (Ps.opFind s n first:Int))∧w=w':=by
 have HT:=zH hT;clear hT;have hlen:Ps.sgTab.length=18:=rfl;obtain⟨N,hN⟩:∃N,N=Ps.sgTab.length:=⟨_,rfl⟩;have HN:=zH hN;rw[hlen] at hN;have hl1:last≤17:=by omega
 have hl0:-1≤last:=by omega
 have HLA:=zH hlast;clear hlast hlen hN;go_enter Tryz.func119,Tryz.ntmps119;go_wp2
 go_loop [7] (fun i=>∃op m:Nat,op≤18∧i=.int .i64 (op:Int)∧Hid ((op:Int)+m=last+1)∧Hid (Ps.opFind s m op=Ps.opFind s n first)) (fun i=>(last+1-intOf i).toNat)
 case atStart=>exact⟨first,n,by omega,rfl,HLA.out.symm,rfl⟩
 case round =>
  obtain⟨op,m,hop,rfl,hm,hrel⟩:=hrel;by_cases hlt:(op:Int)≤last
  ·
   have hol:op<Ps.sgTab.length:=by rw[←HN.out];have:=HN.out;simp[Ps.sgTab] at this;omega
   have hc:=HT.out op hol;obtain⟨m',rfl⟩:∃m',m=m'+1:=⟨m-1,by have:=hm.out;omega⟩;have i0:(0:Int)≤(op:Int):=by omega
   have i1:(op:Int)<18:=by omega
   have i2:op<18:=by omega
   have HH:=zH (zhy s m' op hol);have HM:=zH (zgx s m' op hol);generalize Ps.sgTab[op]=x at *;clear hol;by_cases he:x=s
   ·
    have HE:=zH ((HH.out he).symm.trans hrel.out);have t1:=zcA he;clear he;go_wp2;go_ret;exact⟨zaz (by rw[←HE.out]),rfl⟩
   ·
    have HE:=zH ((HM.out he).symm.trans hrel.out);have t1:=zcB he;clear he;go_wp2
    go_round
    case rel=>exact⟨op+1,m',by omega,by go_num,by have:=hm.out;show _=_;omega,HE⟩
    case measure=>simp[intOf];omega
  ·
   obtain rfl:m=0:=by have:=hm.out;omega
   go_wp2;go_ret;exact⟨zaz (by rw[←hrel.out];rfl),rfl⟩
set_option maxHeartbeats 1000000 in
theorem zge (s:List UInt8) (w:World) (hT:SgT w):Calls Tryz.prog 116 #[.string ⟨s.toArray⟩] w fun e w'=>e=.returned (.int .i64 (Ps.uop s:Int))∧w=w':=by
 have HT:=zH hT;clear hT;go_enter Tryz.func116,Tryz.ntmps116;go_wp2_with fail;refine(zh7 s 3 2 4 (by omega) (by omega) w HT.out).mono ?_;rintro e w' ⟨rfl,rfl⟩;go_wp2;go_ret;exact⟨rfl,rfl⟩
set_option maxHeartbeats 1000000 in
theorem zga (s:List UInt8) (w:World) (hT:SgT w):Calls Tryz.prog 113 #[.string ⟨s.toArray⟩] w fun e w'=>e=.returned (.int .i64 (Ps.bop s:Int))∧w=w':=by
 have HT:=zH hT;clear hT;go_enter Tryz.func113,Tryz.ntmps113;go_wp2_with fail;refine(zh7 s 5 13 17 (by omega) (by omega) w HT.out).mono ?_;rintro e w' ⟨rfl,rfl⟩;go_wp2;go_ret;exact⟨rfl,rfl⟩
def Psr (w:World) (g:Nat) (ts:List Tk.Tok) (k o:Nat):Prop :=
 ∃A c,w.heap[g]?=some (.cells #[.slice A ts.length c,.int .i64 (k:Int),.int .i64 (o:Int)] 143 (0,0))∧k<ts.length∧o≤24∧ts.length≤1000000∧SgT w∧0<g ∧
  ∀i (h:i<ts.length),∃b,A=some ⟨b,0,none⟩∧b<g∧w.cell? ⟨b,i*4,none⟩=some (.int .i64 (ts[i].kind:Int))∧w.cell? ⟨b,i*4+1,none⟩=some (.string ⟨ts[i].text.toArray⟩) ∧
   w.cell? ⟨b,i*4+2,none⟩=some (.int .i64 (ts[i].num:Int))∧w.cell? ⟨b,i*4+3,none⟩=some (.int .i64 (ts[i].pos:Int))
theorem Psr.keep {w w':World} {g:Nat} {ts:List Tk.Tok} {k o:Nat} (h:Psr w g ts k o) (hk:∀b,b≤g→w'.heap[b]?=w.heap[b]?):Psr w' g ts k o:=by
 obtain⟨A,c,hb,hl,ho,hn,hT,hg,hc⟩:=h;refine⟨A,c,(hk g (lR _)).trans hb,hl,ho,hn,hT.keep (hk _ (by omega)),hg,fun i hi=>?_⟩;obtain⟨b,e,hbg,h0,h1,h2,h3⟩:=hc i hi;have e1:∀o',w'.cell? ⟨b,o',none⟩=w.cell? ⟨b,o',none⟩:=fun o'=>World.cell?_of_block (hk b (by omega));exact⟨b,e,hbg,(e1 _).trans h0,(e1 _).trans h1,(e1 _).trans h2,(e1 _).trans h3⟩
theorem Psr.lt {w:World} {g:Nat} {ts:List Tk.Tok} {k o:Nat} (h:Psr w g ts k o):g<w.heap.size:=by
 obtain⟨A,c,hb,_⟩:=h;exact lt_of_block hb
theorem Psr.alloc {w:World} {g:Nat} {ts:List Tk.Tok} {k o:Nat} (h:Psr w g ts k o) (ob:Obj):Psr (w.alloc ob) g ts k o :=
 h.keep fun b hb=>Below.heap_alloc w ob b (by have:=h.lt;omega)
theorem Psr.later {w w':World} {g:Nat} {ts:List Tk.Tok} {k o:Nat} (h:Psr w g ts k o) (hb:Below w.heap.size w w'):Psr w' g ts k o :=
 h.keep fun b hle=>hb.block b (by have:=h.lt;omega)
theorem Psr.set {w:World} {g:Nat} {ts:List Tk.Tok} {k o:Nat} (h:Psr w g ts k o) {p:Addr} (hp:g<p.block) (u:Value):Psr (w.setCell p u) g ts k o :=
 h.keep fun b hb=>Below.heap_setCell w p u b (by omega)
theorem Psr.inT {w:World} {g:Nat} {ts:List Tk.Tok} {k o:Nat} (h:Psr w g ts k o):k<ts.length:=by
 obtain⟨A,c,hb,hl,_⟩:=h;exact hl
theorem Psr.tab {w:World} {g:Nat} {ts:List Tk.Tok} {k o:Nat} (h:Psr w g ts k o):SgT w:=by
 obtain⟨A,c,hb,hl,ho,hn,hT,_⟩:=h;exact hT
theorem Psr.at {w:World} {g:Nat} {ts:List Tk.Tok} {k o:Nat} (h:Psr w g ts k o) (j:Nat) (hj:j<ts.length):Psr (w.setCell ⟨g,1,none⟩ (.int .i64 (j:Int))) g ts j o:=by
 obtain⟨A,c,hb,hl,ho,hn,hT,hg,hc⟩:=h;have hk:∀b,b≠g→(w.setCell ⟨g,1,none⟩ (.int .i64 (j:Int))).heap[b]?=w.heap[b]?:=fun b hb=>Below.heap_setCell w _ _ b (by simpa using hb);refine⟨A,c,?_,hj,ho,hn,hT.keep (hk _ (by omega)),hg,fun i hi=>?_⟩
 ·
  simp[World.setCell,Array.getElem?_modify];exact⟨_,hb,rfl⟩
 ·
  obtain⟨b,e,hbg,h0,h1,h2,h3⟩:=hc i hi;have e1:∀o',(w.setCell ⟨g,1,none⟩ (.int .i64 (j:Int))).cell? ⟨b,o',none⟩=w.cell? ⟨b,o',none⟩:=fun o'=>World.cell?_of_block (hk b (by omega));exact⟨b,e,hbg,(e1 _).trans h0,(e1 _).trans h1,(e1 _).trans h2,(e1 _).trans h3⟩
theorem Psr.op {w:World} {g:Nat} {ts:List Tk.Tok} {k o:Nat} (h:Psr w g ts k o) (j:Nat) (hj:j≤24):Psr (w.setCell ⟨g,2,none⟩ (.int .i64 (j:Int))) g ts k j:=by
 obtain⟨A,c,hb,hl,ho,hn,hT,hg,hc⟩:=h;have hk:∀b,b≠g→(w.setCell ⟨g,2,none⟩ (.int .i64 (j:Int))).heap[b]?=w.heap[b]?:=fun b hb=>Below.heap_setCell w _ _ b (by simpa using hb);refine⟨A,c,?_,hl,hj,hn,hT.keep (hk _ (by omega)),hg,fun i hi=>?_⟩
 ·
  simp[World.setCell,Array.getElem?_modify];exact⟨_,hb,rfl⟩
 ·
  obtain⟨b,e,hbg,h0,h1,h2,h3⟩:=hc i hi;have e1:∀o',(w.setCell ⟨g,2,none⟩ (.int .i64 (j:Int))).cell? ⟨b,o',none⟩=w.cell? ⟨b,o',none⟩:=fun o'=>World.cell?_of_block (hk b (by omega));exact⟨b,e,hbg,(e1 _).trans h0,(e1 _).trans h1,(e1 _).trans h2,(e1 _).trans h3⟩
theorem Psr.cells {w:World} {g:Nat} {ts:List Tk.Tok} {k o:Nat} (h:Psr w g ts k o):∃b c,b≠g∧b<w.heap.size∧w.cell? ⟨g,0,none⟩=some (.slice (some ⟨b,0,none⟩) ts.length c)∧w.cell? ⟨g,1,none⟩=some (.int .i64 (k:Int))∧w.cell? ⟨g,2,none⟩=some (.int .i64 (o:Int)) ∧
  w.frozen? ⟨g,1,none⟩=false∧w.frozen? ⟨g,2,none⟩=false ∧
  w.cell? ⟨b,k*4,none⟩=some (.int .i64 (Ps.kindAt ts k:Int))∧w.cell? ⟨b,k*4+1,none⟩=some (.string ⟨(Ps.textAt ts k).toArray⟩)∧w.cell? ⟨b,k*4+2,none⟩=some (.int .i64 (Ps.numAt ts k:Int))∧(∃v:Int,w.cell? ⟨b,k*4+3,none⟩=some (.int .i64 v)):=by
 obtain⟨A,c,hb,hl,ho,hn,hT,hg,hc⟩:=h;obtain⟨b,rfl,hbg,h0,h1,h2,h3⟩:=hc k hl;have e1:Ps.kindAt ts k=ts[k].kind:=by unfold Ps.kindAt;rw[List.getElem?_eq_getElem hl]
 have e2:Ps.textAt ts k=ts[k].text:=by unfold Ps.textAt;rw[List.getElem?_eq_getElem hl]
 have e3:Ps.numAt ts k=ts[k].num:=by unfold Ps.numAt;rw[List.getElem?_eq_getElem hl]
 refine⟨b,c,by omega,World.block_lt_of_cell? _ _ h0,?_,?_,?_,?_,?_,by rw[e1];exact h0,by rw[e2];exact h1,by rw[e3];exact h2,_,h3⟩
 ·
  rw[cell_of_row w g 0 _ _ _ hb];rfl
 ·
  rw[cell_of_row w g 1 _ _ _ hb];rfl
 ·
  rw[cell_of_row w g 2 _ _ _ hb];rfl
 ·
  simp[World.frozen?,hb]
 ·
  simp[World.frozen?,hb]
theorem sgn_is (ts:List Tk.Tok) (k:Nat) (hk:k<ts.length) (h:Ps.kindAt ts k=4):Ps.sgn ts k=Ps.textAt ts k:=by
 unfold Ps.sgn Ps.textAt;unfold Ps.kindAt at h;rw[List.getElem?_eq_getElem hk] at h ⊢;dsimp only at h ⊢;rw[if_pos h]
theorem zi0 (ts:List Tk.Tok) (k:Nat) (h:Ps.kindAt ts k≠4):Ps.sgn ts k=[]:=by
 by_cases hs:Ps.sgn ts k=[]
 ·
  exact hs
 ·
  exact absurd (Ps.sgn_kind hs) h
set_option maxRecDepth 100000 in
set_option maxHeartbeats 4000000 in
theorem zdn (w:World) (g:Nat) (ts:List Tk.Tok) (k o:Nat) (hP:Psr w g ts k o) :
  Calls Tryz.prog 114 #[.pointer (some ⟨g,0,none⟩)] w fun e w'=>e=.returned (.string ⟨(Ps.sgn ts k).toArray⟩)∧Below w.heap.size w w':=by
 have hk:=hP.inT;obtain⟨b,c,hne,hbl,q0,q1,q2,f1,f2,a0,a1,a2,v,a3⟩:=hP.cells;have hgl:=hP.lt;clear hP q2 f1 f2;have i0:(0:Int)≤(k:Int):=by omega
 have i1:(k:Int)<(ts.length:Int):=by omega
 by_cases h4:Ps.kindAt ts k=4
 ·
  have HS:=zH (sgn_is ts k hk h4);have t4:=bT (show ((Ps.kindAt ts k:Nat):Int)=4 by omega);clear h4;generalize Ps.kindAt ts k=K at *;generalize Ps.textAt ts k=T at *;generalize Ps.numAt ts k=M at *;go_enter Tryz.func114,Tryz.ntmps114;go_wp2;go_region
  all_goals
   go_wp2;go_ret;rw[HS.out];exact⟨rfl,(Below.refl _ _).drew.alloc (lR _) _⟩
 ·
  have HS:=zH (zi0 ts k h4);have t4:=bF (show ((Ps.kindAt ts k:Nat):Int)≠4 by omega);clear h4;generalize Ps.kindAt ts k=K at *;generalize Ps.textAt ts k=T at *;generalize Ps.numAt ts k=M at *;go_enter Tryz.func114,Tryz.ntmps114;go_wp2;go_region
  all_goals
   go_wp2;go_ret;rw[HS.out];exact⟨rfl,(Below.refl _ _).drew.alloc (lR _) _⟩
theorem zaE (w:World) (g n:Nat) (u:Value):w.grownBy (w.setCell ⟨g,n,none⟩ u) (some g) :=
 ⟨rfl,rfl,rfl,Nat.le_of_eq (by simp[World.setCell]),fun b _ hne=>Below.heap_setCell w _ _ b (by intro h;exact hne (by rw[h]))⟩
theorem za2 {w w':World} {g:Nat} (h:Below w.heap.size w w'):w.grownBy w' (some g) :=
 ⟨h.os,h.tape,h.output,h.size,fun b hb _=>h.block b hb⟩
set_option maxRecDepth 100000 in
set_option maxHeartbeats 4000000 in
theorem zaK (w:World) (g:Nat) (ts:List Tk.Tok) (k bad e o d:Nat) (s:List UInt8) (hP:Rsr w g ts k bad e o d) :
  Calls Tryz.prog 37 #[.pointer (some ⟨g,0,none⟩),.string ⟨s.toArray⟩] w fun x w'=>x=.returned (.bool (isB ts k e s))∧Below w.heap.size w w':=by
 have hk:=hP.inT;obtain⟨b,c,hne,hbl,q0,q1,q2,q3,q4,fr,hkm,ho,a0,a1,a2,v,a3⟩:=hP.cells;have hgl:=hP.lt;clear hP;have i0:(0:Int)≤(k:Int):=by omega
 have i1:(k:Int)<(ts.length:Int):=by omega
 have HB:∃B,B=isB ts k e s:=⟨_,rfl⟩;obtain⟨B,hB⟩:=HB;have HS:=zH hB;unfold isB at hB;by_cases he:e=0
 ·
  have t0:=bT (show ((e:Nat):Int)=0 by omega);by_cases h4:Ps.kindAt ts k=4
  ·
   have t4:=bT (show ((Ps.kindAt ts k:Nat):Int)=4 by omega);by_cases hT:Ps.textAt ts k=s
   ·
    have t5:=zcA hT;have HV:B=true:=by rw[hB];simp[he,h4,hT]
    replace HV:=zH HV;clear hB hT h4 he;generalize Ps.kindAt ts k=K at *;generalize Ps.textAt ts k=T at *;generalize Ps.numAt ts k=M at *;go_enter Tryz.func37,Tryz.ntmps37;go_wp2;go_region
    all_goals
     go_wp2;go_ret;rw[←HS.out,HV.out];exact⟨rfl,((Below.refl _ _).alloc (lR _) _).drew⟩
   ·
    have t5:=zcB hT;have HV:B=false:=by rw[hB];simp[hT]
    replace HV:=zH HV;clear hB hT h4 he;generalize Ps.kindAt ts k=K at *;generalize Ps.textAt ts k=T at *;generalize Ps.numAt ts k=M at *;go_enter Tryz.func37,Tryz.ntmps37;go_wp2;go_region
    all_goals
     go_wp2;go_ret;rw[←HS.out,HV.out];exact⟨rfl,((Below.refl _ _).alloc (lR _) _).drew⟩
  ·
   have t4:=bF (show ((Ps.kindAt ts k:Nat):Int)≠4 by omega);by_cases h3:Ps.kindAt ts k=3
   ·
    have t3:=bT (show ((Ps.kindAt ts k:Nat):Int)=3 by omega);by_cases hT:Ps.textAt ts k=s
    ·
     have t5:=zcA hT;have HV:B=true:=by rw[hB];simp[he,h3,hT]
     replace HV:=zH HV;clear hB hT h4 h3 he;generalize Ps.kindAt ts k=K at *;generalize Ps.textAt ts k=T at *;generalize Ps.numAt ts k=M at *;go_enter Tryz.func37,Tryz.ntmps37;go_wp2;go_region
     all_goals
      go_wp2;go_ret;rw[←HS.out,HV.out];exact⟨rfl,((Below.refl _ _).alloc (lR _) _).drew⟩
    ·
     have t5:=zcB hT;have HV:B=false:=by rw[hB];simp[hT]
     replace HV:=zH HV;clear hB hT h4 h3 he;generalize Ps.kindAt ts k=K at *;generalize Ps.textAt ts k=T at *;generalize Ps.numAt ts k=M at *;go_enter Tryz.func37,Tryz.ntmps37;go_wp2;go_region
     all_goals
      go_wp2;go_ret;rw[←HS.out,HV.out];exact⟨rfl,((Below.refl _ _).alloc (lR _) _).drew⟩
   ·
    have t3:=bF (show ((Ps.kindAt ts k:Nat):Int)≠3 by omega);have HV:B=false:=by rw[hB];simp[h3,h4]
    replace HV:=zH HV;clear hB h4 h3 he;generalize Ps.kindAt ts k=K at *;generalize Ps.textAt ts k=T at *;generalize Ps.numAt ts k=M at *;go_enter Tryz.func37,Tryz.ntmps37;go_wp2;go_region
    all_goals
     go_wp2;go_ret;rw[←HS.out,HV.out];exact⟨rfl,((Below.refl _ _).alloc (lR _) _).drew⟩
 ·
  have t0:=bF (show ((e:Nat):Int)≠0 by omega);have HV:B=false:=by rw[hB];simp[he]
  replace HV:=zH HV;clear hB he;generalize Ps.kindAt ts k=K at *;generalize Ps.textAt ts k=T at *;generalize Ps.numAt ts k=M at *;go_enter Tryz.func37,Tryz.ntmps37;go_wp2;go_region
  all_goals
   go_wp2;go_ret;rw[←HS.out,HV.out];exact⟨rfl,((Below.refl _ _).alloc (lR _) _).drew⟩
set_option maxRecDepth 100000 in
set_option maxHeartbeats 4000000 in
theorem zcr (w:World) (g:Nat) (ts:List Tk.Tok) (k bad e o d E:Nat) (v:Int) (hv:v=(E:Int)) (hP:Rsr w g ts k bad e o d) :
  Calls Tryz.prog 38 #[.pointer (some ⟨g,0,none⟩),.int .i64 v] w fun x w'=>x=.returned (.tuple #[]) ∧
   Rsr w' g ts k (if e=0 then k else bad) (if e=0 then E else e) o d∧w.grownBy w' (some g):=by
 subst hv;have hk:=hP.inT;obtain⟨b,c,hne,hbl,q0,q1,q2,q3,q4,fr,hkm,ho,a0,a1,a2,v,a3⟩:=hP.cells;have hgl:=hP.lt;have f2:=fr 2;have f3:=fr 3;have HP:=zH hP;clear hP fr a0 a1 a2 a3 q4;by_cases he:e=0
 ·
  have t0:=bT (show ((e:Nat):Int)=0 by omega);have HE:=zH he;clear he;go_enter Tryz.func38,Tryz.ntmps38;go_wp2;refine bodyPost_end (results_none rfl _ _ _) rfl ⟨rfl,?_,?_⟩
  ·
   exact(HP.out.err E).bad' k
  ·
   exact za0 (zaE _ _ _ _) (zaE _ _ _ _)
 ·
  have t0:=bF (show ((e:Nat):Int)≠0 by omega);have HE:=zH he;clear he;go_enter Tryz.func38,Tryz.ntmps38;go_wp2;exact bodyPost_end (results_none rfl _ _ _) rfl ⟨rfl,HP.out,za2 (Below.refl _ _)⟩
def zda (ts:List Tk.Tok) (k e:Nat) (s:List UInt8):Nat:=if isB ts k e s=true then k+1 else k
theorem zgg {ts:List Tk.Tok} {k e:Nat} {s:List UInt8} (h:isB ts k e s=true):zda ts k e s=k+1:=if_pos h
theorem zdu {ts:List Tk.Tok} {k e:Nat} {s:List UInt8} (h:isB ts k e s=false):zda ts k e s=k:=if_neg (by rw[h];decide)
theorem zci {ts:List Tk.Tok} {k e:Nat} {s:List UInt8} (h:isB ts k e s=true):Ps.kindAt ts k≠5:=by
 intro h5;unfold isB at h;rw[h5] at h;simp at h
set_option maxRecDepth 100000 in
set_option maxHeartbeats 4000000 in
theorem zcS (w:World) (g:Nat) (ts:List Tk.Tok) (k bad e o d:Nat) (s:List UInt8) (hlast:Ps.kindAt ts (ts.length-1)=5) (hP:Rsr w g ts k bad e o d) :
  Calls Tryz.prog 39 #[.pointer (some ⟨g,0,none⟩),.string ⟨s.toArray⟩] w fun x w'=>x=.returned (.bool (isB ts k e s)) ∧
   Rsr w' g ts (zda ts k e s) bad e o d∧w.grownBy w' (some g):=by
 have HP:=zH hP;have HL:=zH hlast;clear hP hlast;go_enter Tryz.func39,Tryz.ntmps39;go_wp2_with fail;refine(zaK w g ts k bad e o d s HP.out).mono ?_;rintro x w1 ⟨rfl,hb⟩;have hP1:=HP.out.later hb;obtain⟨b,c,hne,hbl,q0,q1,q2,q3,q4,fr,hkm,ho,a0,a1,a2,v,a3⟩:=hP1.cells;have hgl:=hP1.lt;have f1:=fr 1;have HP1:=zH hP1;have HB:=zH hb;clear hP1 hb fr a0 a1 a2 a3 q0 q2 q3 q4;by_cases hI:isB ts k e s=true
 ·
  have hk1:k+1<ts.length:=Ps.next_in HL.out HP.out.inT (zci hI);have HT:=zH (zgg hI);have hk2:k+1<1000000+1:=by omega
  have HI:=zH hI;rw[hI];clear hI;go_wp2;go_ret;rw[HT.out,HI.out]
  have:=HP1.out.at (k+1) hk1;rw[show (((k+1:Nat):Nat):Int)=(k:Int)+1 by omega] at this;exact⟨rfl,this,za0 (za2 HB.out) (zaE _ _ _ _)⟩
 ·
  replace hI:isB ts k e s=false:=by simpa using hI
  have HT:=zH (zdu hI);have HI:=zH hI;rw[hI];clear hI;go_wp2;go_ret;rw[HT.out,HI.out];exact⟨rfl,HP1.out,za2 HB.out⟩
set_option maxRecDepth 100000 in
set_option maxHeartbeats 4000000 in
theorem zc7 (w:World) (g:Nat) (ts:List Tk.Tok) (k bad e o d:Nat) (ho1:o<1000) (hP:Rsr w g ts k bad e o d) :
  Calls Tryz.prog 110 #[.pointer (some ⟨g,0,none⟩)] w fun x w'=>x=.returned (.tuple #[]) ∧
   Rsr w' g ts k (if o=24∧e=0 then k else bad) (if o=24∧e=0 then 3 else e) (o+1) d∧w.grownBy w' (some g):=by
 obtain⟨b,c,hne,hbl,q0,q1,q2,q3,q4,fr,hkm,ho,a0,a1,a2,v,a3⟩:=hP.cells;have hgl:=hP.lt;have f4:=fr 4;have HP:=zH hP;have HB:∃B E,B=(if o=24∧e=0 then k else bad)∧E=(if o=24∧e=0 then 3 else e):=⟨_,_,rfl,rfl⟩;obtain⟨B,E,hB,hE⟩:=HB;rw[←hB,←hE];replace hB:=zH hB;replace hE:=zH hE;clear hP fr a0 a1 a2 a3 q0 q2 q3;by_cases h24:o=24
 ·
  have t0:=bT (show ((o:Nat):Int)=24 by omega);have H24:=zH h24;clear h24;go_enter Tryz.func110,Tryz.ntmps110;go_wp2_with fail;refine(zcr w g ts k bad e o d 3 3 rfl HP.out).mono ?_;rintro x w1 ⟨rfl,hP1,hG1⟩;obtain⟨b,c,hne,hbl,q0,q1,q2,q3,q4,fr,hkm,ho,a0,a1,a2,v,a3⟩:=hP1.cells;have hgl:=hP1.lt;have f4:=fr 4;have HP1:=zH hP1;have HG1:=zH hG1;clear hP1 hG1 fr a0 a1 a2 a3 q0 q2 q3;go_wp2;refine bodyPost_end (results_none rfl _ _ _) rfl ⟨rfl,?_,za0 HG1.out (zaE _ _ _ _)⟩;have hP2:=HP1.out.nest (o+1) (by omega);rw[show (((o+1:Nat):Nat):Int)=(o:Int)+1 by omega] at hP2;have e1:B=if e=0 then k else bad:=by rw[hB.out];simp[H24.out]
  have e2:E=if e=0 then 3 else e:=by rw[hE.out];simp[H24.out]
  rw[e1,e2];exact hP2
 ·
  have t0:=bF (show ((o:Nat):Int)≠24 by omega);have H24:=zH h24;clear h24;go_enter Tryz.func110,Tryz.ntmps110;go_wp2;refine bodyPost_end (results_none rfl _ _ _) rfl ⟨rfl,?_,zaE _ _ _ _⟩;have hP2:=HP.out.nest (o+1) (by omega);rw[show (((o+1:Nat):Nat):Int)=(o:Int)+1 by omega] at hP2;have e1:B=bad:=by rw[hB.out];simp[H24.out]
  have e2:E=e:=by rw[hE.out];simp[H24.out]
  rw[e1,e2];exact hP2
def Pps (w:World) (g:Nat) (ts:List Tk.Tok) (σ:Pa.Sg) (o:Nat):Prop :=
 ∃A c,w.heap[g]?=some (.cells #[.slice A ts.length c,.int .i64 (σ.k:Int),.int .i64 (o:Int),.int .i64 (σ.e:Int)] 60 (0,0))∧σ.k<ts.length∧o≤1000∧ts.length≤1000000∧(σ.live=false→σ.e≠0)∧Ps.kindAt ts (ts.length-1)=5 ∧
  ∀i (h:i<ts.length),∃b,A=some ⟨b,0,none⟩∧b<g∧w.cell? ⟨b,i*4,none⟩=some (.int .i64 (ts[i].kind:Int))∧w.cell? ⟨b,i*4+1,none⟩=some (.string ⟨ts[i].text.toArray⟩) ∧
   w.cell? ⟨b,i*4+2,none⟩=some (.int .i64 (ts[i].num:Int))∧w.cell? ⟨b,i*4+3,none⟩=some (.int .i64 (ts[i].pos:Int))
theorem Pps.keep {w w':World} {g:Nat} {ts:List Tk.Tok} {σ:Pa.Sg} {o:Nat} (h:Pps w g ts σ o) (hk:∀b,b≤g→w'.heap[b]?=w.heap[b]?):Pps w' g ts σ o:=by
 obtain⟨A,c,hb,hl,ho,hn,he,h5,hc⟩:=h;refine⟨A,c,(hk g (lR _)).trans hb,hl,ho,hn,he,h5,fun i hi=>?_⟩;obtain⟨b,e,hbg,h0,h1,h2,h3⟩:=hc i hi;have e1:∀o',w'.cell? ⟨b,o',none⟩=w.cell? ⟨b,o',none⟩:=fun o'=>World.cell?_of_block (hk b (by omega));exact⟨b,e,hbg,(e1 _).trans h0,(e1 _).trans h1,(e1 _).trans h2,(e1 _).trans h3⟩
theorem Pps.lt {w:World} {g:Nat} {ts:List Tk.Tok} {σ:Pa.Sg} {o:Nat} (h:Pps w g ts σ o):g<w.heap.size:=by
 obtain⟨A,c,hb,_⟩:=h;exact lt_of_block hb
theorem Pps.inT {w:World} {g:Nat} {ts:List Tk.Tok} {σ:Pa.Sg} {o:Nat} (h:Pps w g ts σ o):σ.k<ts.length:=by
 obtain⟨A,c,_,hl,_⟩:=h;exact hl
theorem Pps.last {w:World} {g:Nat} {ts:List Tk.Tok} {σ:Pa.Sg} {o:Nat} (h:Pps w g ts σ o):Ps.kindAt ts (ts.length-1)=5:=by
 obtain⟨A,c,_,_,_,_,_,h5,_⟩:=h;exact h5
theorem Pps.err {w:World} {g:Nat} {ts:List Tk.Tok} {σ:Pa.Sg} {o:Nat} (h:Pps w g ts σ o):σ.live=false→σ.e≠0:=by
 obtain⟨A,c,_,_,_,_,he,_⟩:=h;exact he
theorem Pps.later {w w':World} {g:Nat} {ts:List Tk.Tok} {σ:Pa.Sg} {o:Nat} (h:Pps w g ts σ o) (hb:Below w.heap.size w w'):Pps w' g ts σ o :=
 h.keep fun b hle=>hb.block b (by have:=h.lt;omega)
theorem Pps.alloc {w:World} {g:Nat} {ts:List Tk.Tok} {σ:Pa.Sg} {o:Nat} (h:Pps w g ts σ o) (ob:Obj):Pps (w.alloc ob) g ts σ o :=
 h.keep fun b hb=>Below.heap_alloc w ob b (by have:=h.lt;omega)
theorem Pps.set {w:World} {g:Nat} {ts:List Tk.Tok} {σ:Pa.Sg} {o:Nat} (h:Pps w g ts σ o) {p:Addr} (hp:g<p.block) (u:Value):Pps (w.setCell p u) g ts σ o :=
 h.keep fun b hb=>Below.heap_setCell w p u b (by omega)
theorem Pps.mk' {w w':World} {g:Nat} {ts:List Tk.Tok} {σ:Pa.Sg} {o:Nat} (h:Pps w g ts σ o) (τ:Pa.Sg) (o':Nat) (hk':τ.k<ts.length) (ho':o'≤1000) (he':τ.live=false→τ.e≠0)
  (hw:∀A c,w.heap[g]?=some (.cells #[.slice A ts.length c,.int .i64 (σ.k:Int),.int .i64 (o:Int),.int .i64 (σ.e:Int)] 60 (0,0)) →
   w'.heap[g]?=some (.cells #[.slice A ts.length c,.int .i64 (τ.k:Int),.int .i64 (o':Int),.int .i64 (τ.e:Int)] 60 (0,0)))
  (hb:∀b,b≠g→w'.heap[b]?=w.heap[b]?):Pps w' g ts τ o':=by
 obtain⟨A,c,hg,hl,ho,hn,he,h5,hc⟩:=h;refine⟨A,c,hw A c hg,hk',ho',hn,he',h5,fun i hi=>?_⟩;obtain⟨b,e,hbg,h0,h1,h2,h3⟩:=hc i hi;have e1:∀o',w'.cell? ⟨b,o',none⟩=w.cell? ⟨b,o',none⟩:=fun o'=>World.cell?_of_block (hb b (by omega));exact⟨b,e,hbg,(e1 _).trans h0,(e1 _).trans h1,(e1 _).trans h2,(e1 _).trans h3⟩
theorem Pps.oo {w:World} {g:Nat} {ts:List Tk.Tok} {σ:Pa.Sg} {o:Nat} (h:Pps w g ts σ o):o≤1000:=by
 obtain⟨A,c,_,_,ho,_⟩:=h;exact ho
theorem Pps.next {w:World} {g:Nat} {ts:List Tk.Tok} {k o:Nat} (h:Pps w g ts (.at_ k) o) (hk:k+1<ts.length):Pps (w.setCell ⟨g,1,none⟩ (.int .i64 ((k:Int)+1))) g ts (.at_ (k+1)) o:=by
 refine h.mk' (.at_ (k+1)) o hk h.oo (fun e=>by cases e) (fun A c hb=>?_) fun b hb=>Below.heap_setCell w _ _ b (by simpa using hb);simp[World.setCell,Array.getElem?_modify];exact⟨_,hb,rfl⟩
theorem Pps.fail {w:World} {g:Nat} {ts:List Tk.Tok} {k o:Nat} (h:Pps w g ts (.at_ k) o) (E:Nat) (hE:E≠0):Pps (w.setCell ⟨g,3,none⟩ (.int .i64 (E:Int))) g ts (.bad k E) o:=by
 refine h.mk' (.bad k E) o h.inT h.oo (fun _=>hE) (fun A c hb=>?_) fun b hb=>Below.heap_setCell w _ _ b (by simpa using hb);simp[World.setCell,Array.getElem?_modify];exact⟨_,hb,rfl⟩
theorem Pps.opn {w:World} {g:Nat} {ts:List Tk.Tok} {σ:Pa.Sg} {o:Nat} (h:Pps w g ts σ o) (j:Nat) (hj:j≤1000):Pps (w.setCell ⟨g,2,none⟩ (.int .i64 (j:Int))) g ts σ j:=by
 refine h.mk' σ j h.inT hj h.err (fun A c hb=>?_) fun b hb=>Below.heap_setCell w _ _ b (by simpa using hb);simp[World.setCell,Array.getElem?_modify];exact⟨_,hb,rfl⟩
theorem Pps.cells {w:World} {g:Nat} {ts:List Tk.Tok} {σ:Pa.Sg} {o:Nat} (h:Pps w g ts σ o):∃b c,b≠g∧b<w.heap.size∧w.cell? ⟨g,0,none⟩=some (.slice (some ⟨b,0,none⟩) ts.length c)∧w.cell? ⟨g,1,none⟩=some (.int .i64 (σ.k:Int))∧w.cell? ⟨g,2,none⟩=some (.int .i64 (o:Int)) ∧
  w.cell? ⟨g,3,none⟩=some (.int .i64 (σ.e:Int))∧(∀n:Nat,w.frozen? ⟨g,n,none⟩=false)∧σ.k<1000000∧o≤1000 ∧
  w.cell? ⟨b,σ.k*4,none⟩=some (.int .i64 (Ps.kindAt ts σ.k:Int))∧w.cell? ⟨b,σ.k*4+1,none⟩=some (.string ⟨(Ps.textAt ts σ.k).toArray⟩)∧w.cell? ⟨b,σ.k*4+2,none⟩=some (.int .i64 (Ps.numAt ts σ.k:Int))∧(∃v:Int,w.cell? ⟨b,σ.k*4+3,none⟩=some (.int .i64 v))∧ts.length≤1000000:=by
 obtain⟨A,c,hb,hl,ho,hn,he,h5,hc⟩:=h;obtain⟨b,rfl,hbg,h0,h1,h2,h3⟩:=hc σ.k hl;have e1:Ps.kindAt ts σ.k=ts[σ.k].kind:=by unfold Ps.kindAt;rw[List.getElem?_eq_getElem hl]
 have e2:Ps.textAt ts σ.k=ts[σ.k].text:=by unfold Ps.textAt;rw[List.getElem?_eq_getElem hl]
 have e3:Ps.numAt ts σ.k=ts[σ.k].num:=by unfold Ps.numAt;rw[List.getElem?_eq_getElem hl]
 refine⟨b,c,by omega,World.block_lt_of_cell? _ _ h0,?_,?_,?_,?_,?_,by omega,ho,by rw[e1];exact h0,by rw[e2];exact h1,by rw[e3];exact h2,⟨_,h3⟩,hn⟩
 ·
  rw[cell_of_row w g 0 _ _ _ hb];rfl
 ·
  rw[cell_of_row w g 1 _ _ _ hb];rfl
 ·
  rw[cell_of_row w g 2 _ _ _ hb];rfl
 ·
  rw[cell_of_row w g 3 _ _ _ hb];rfl
 ·
  intro n;simp[World.frozen?,hb]
theorem Pps.toks {w:World} {g:Nat} {ts:List Tk.Tok} {σ:Pa.Sg} {o:Nat} (h:Pps w g ts σ o):∃A c,w.cell? ⟨g,0,none⟩=some (.slice A ts.length c)∧TokS w A ts:=by
 obtain⟨A,c,hb,hl,ho,hn,he,h5,hc⟩:=h;refine⟨A,c,by rw[cell_of_row w g 0 _ _ _ hb];rfl,fun i hi=>?_⟩;obtain⟨b,e,_,h0,h1,h2,h3⟩:=hc i hi;exact⟨b,e,h0,h1,h2,h3⟩
set_option maxRecDepth 100000 in
set_option maxHeartbeats 4000000 in
theorem zcs (w:World) (g:Nat) (ts:List Tk.Tok) (σ:Pa.Sg) (o E:Nat) (v:Int) (hv:v=(E:Int)) (hE:E≠0) (hP:Pps w g ts σ o) :
  Calls Tryz.prog 65 #[.pointer (some ⟨g,0,none⟩),.int .i64 v] w fun x w'=>x=.returned (.tuple #[])∧Pps w' g ts (Pa.fl σ E) o∧w.grownBy w' (some g):=by
 subst hv;obtain⟨b,c,hne,hbl,q0,q1,q2,q3,fr,hkm,ho,a0,a1,a2,⟨v,a3⟩,hn⟩:=hP.cells;have f3:=fr 3;have HP:=zH hP;have HE:=zH hE;clear hP fr a0 a1 a2 a3 q0 q1 q2 hE;cases σ with
 | at_ k =>
  have t0:(((Pa.Sg.at_ k).e:Int)==0)=true:=rfl;go_enter Tryz.func65,Tryz.ntmps65;go_wp2;exact bodyPost_end (results_none rfl _ _ _) rfl ⟨rfl,HP.out.fail E HE.out,zaE _ _ _ _⟩
 | bad m e =>
  have he:e≠0:=HP.out.err rfl;have t0:(((Pa.Sg.bad m e).e:Int)==0)=false:=bF (show ((e:Nat):Int)≠0 by omega);go_enter Tryz.func65,Tryz.ntmps65;go_wp2;exact bodyPost_end (results_none rfl _ _ _) rfl ⟨rfl,HP.out,za2 (Below.refl _ _)⟩
set_option maxRecDepth 100000 in
set_option maxHeartbeats 4000000 in
theorem zbF (w:World) (g:Nat) (ts:List Tk.Tok) (σ:Pa.Sg) (o c most:Nat) (vc vm:Int) (hc:vc=(c:Int)) (hm:vm=(most:Int)) (hP:Pps w g ts σ o) :
  Calls Tryz.prog 46 #[.pointer (some ⟨g,0,none⟩),.int .i64 vc,.int .i64 vm] w fun x w'=>x=.returned (.tuple #[])∧Pps w' g ts (Pa.lm σ c most) o∧w.grownBy w' (some g):=by
 subst hc hm;have HP:=zH hP;clear hP;by_cases h:most≤c
 ·
  have HR:Hid (Pa.lm σ c most=Pa.fl σ 3):=if_pos h;go_enter Tryz.func46,Tryz.ntmps46;go_wp2_with fail;refine(zcs w g ts σ o 3 3 rfl (by omega) HP.out).mono ?_;rintro x w1 ⟨rfl,hP1,hG1⟩;have HP1:=zH hP1;have HG1:=zH hG1;clear hP1 hG1;go_wp2;refine bodyPost_end (results_none rfl _ _ _) rfl ⟨rfl,?_,HG1.out⟩;rw[HR.out];exact HP1.out
 ·
  have HR:Hid (Pa.lm σ c most=σ):=if_neg h;go_enter Tryz.func46,Tryz.ntmps46;go_wp2;refine bodyPost_end (results_none rfl _ _ _) rfl ⟨rfl,?_,za2 (Below.refl _ _)⟩;rw[HR.out];exact HP.out
set_option maxRecDepth 100000 in
set_option maxHeartbeats 4000000 in
theorem ze8 (w:World) (g:Nat) (ts:List Tk.Tok) (σ:Pa.Sg) (o K:Nat) (v:Int) (hv:v=(K:Int)) (hP:Pps w g ts σ o) :
  Calls Tryz.prog 61 #[.pointer (some ⟨g,0,none⟩),.int .i64 v] w fun x w'=>x=.returned (.bool (Pa.kdS ts σ K))∧w'=w.drew:=by
 subst hv;have hk:=hP.inT;obtain⟨b,c,hne,hbl,q0,q1,q2,q3,fr,hkm,ho,a0,a1,a2,⟨v,a3⟩,hn⟩:=hP.cells;have hgl:=hP.lt;have HE:=zH hP.err;clear hP fr;cases σ with
 | at_ k =>
  have t0:(((Pa.Sg.at_ k).e:Int)==0)=true:=rfl;have e1:(Pa.Sg.at_ k).k=k:=rfl;rw[e1] at hk q1 hkm a0 a1 a2 a3;have i0:(0:Int)≤(k:Int):=by omega
  have i1:(k:Int)<(ts.length:Int):=by omega
  by_cases hK:Ps.kindAt ts k=K
  ·
   have HS:Pa.kdS ts (.at_ k) K=true:=by simp[Pa.kdS,hK]
   replace HS:=zH HS;have t1:=bT (show ((Ps.kindAt ts k:Nat):Int)=(K:Int) by omega);clear hK e1;generalize Ps.kindAt ts k=K' at *;go_enter Tryz.func61,Tryz.ntmps61;go_wp2;go_region
   all_goals
    go_wp2;go_ret;rw[HS.out];exact⟨rfl,rfl⟩
  ·
   have HS:Pa.kdS ts (.at_ k) K=false:=by simp[Pa.kdS,hK]
   replace HS:=zH HS;have t1:=bF (show ((Ps.kindAt ts k:Nat):Int)≠(K:Int) by omega);clear hK e1;generalize Ps.kindAt ts k=K' at *;go_enter Tryz.func61,Tryz.ntmps61;go_wp2;go_region
   all_goals
    go_wp2;go_ret;rw[HS.out];exact⟨rfl,rfl⟩
 | bad m e =>
  have he:e≠0:=HE.out rfl;have t0:(((Pa.Sg.bad m e).e:Int)==0)=false:=bF (show ((e:Nat):Int)≠0 by omega);have HS:Hid (Pa.kdS ts (.bad m e) K=false):=rfl;clear he;go_enter Tryz.func61,Tryz.ntmps61;go_wp2;go_region
  all_goals
   go_wp2;go_ret;rw[HS.out];exact⟨rfl,rfl⟩
theorem zbY (w:World) (g:Nat) (ts:List Tk.Tok) (σ:Pa.Sg) (o K:Nat) (v:Int) (hv:v=(K:Int)) (hP:Pps w g ts σ o) :
  Calls Tryz.prog 61 #[.pointer (some ⟨g,0,none⟩),.int .i64 v] w fun x w'=>x=.returned (.bool (Pa.kdS ts σ K))∧Below w.heap.size w w' :=
 (ze8 w g ts σ o K v hv hP).mono fun _ _ h=>⟨h.1,by rw[h.2];exact(Below.refl _ _).drew⟩
theorem zc8 {P:Program} {f:FuncId} {args:Array Value} {w:World} {n:Nat} {v:Value}
  (h:Calls P f args (w.drewN n) fun e w'=>e=.returned v∧w'=(w.drewN n).drew):Calls P f args (w.drewN n) fun e w''=>e=.returned v∧∃m,w''=w.drewN m :=
 h.mono fun _ _ ⟨he,hm⟩=>⟨he,n+1,by rw[hm];rfl⟩
set_option maxRecDepth 100000 in
set_option maxHeartbeats 4000000 in
theorem zbP (w:World) (g:Nat) (ts:List Tk.Tok) (σ:Pa.Sg) (o:Nat) (s:List UInt8) (hP:Pps w g ts σ o) :
  Calls Tryz.prog 45 #[.pointer (some ⟨g,0,none⟩),.string ⟨s.toArray⟩] w fun x w'=>x=.returned (.bool (Pa.isS ts σ s))∧Below w.heap.size w w':=by
 have hk:=hP.inT;obtain⟨b,c,hne,hbl,q0,q1,q2,q3,fr,hkm,ho,a0,a1,a2,⟨v,a3⟩,hn⟩:=hP.cells;have hgl:=hP.lt;have i0:(0:Int)≤(σ.k:Int):=by omega
 have i1:(σ.k:Int)<(ts.length:Int):=by omega
 have HSK:Hid (∀n K v,v=((K:Nat):Int)→Calls Tryz.prog 61 #[.pointer (some ⟨g,0,none⟩),.int .i64 v] (w.drewN n) fun x w'=>x=.returned (.bool (Pa.kdS ts σ K))∧w'=(w.drewN n).drew):=fun n K v hv=>ze8 (w.drewN n) g ts σ o K v hv (hP.later (zat (Below.refl _ _) n));clear hP fr;have HB:∃B,B=Pa.isS ts σ s:=⟨_,rfl⟩;obtain⟨B,hB⟩:=HB;rw[←hB];have hkd:Pa.kdS ts σ (Pa.kd s)=false→B=false:=by
  rw[hB];cases σ with
  | bad m e=>intro _;rfl
  | at_ k=>intro h;simp only[Pa.kdS,decide_eq_false_iff_not] at h;simp[Pa.isS,h]
 have hkt:Pa.kdS ts σ (Pa.kd s)=true→B=decide (Ps.textAt ts σ.k=s):=by
  rw[hB];cases σ with
  | bad m e=>intro h;cases h
  | at_ k=>intro h;simp only[Pa.kdS,decide_eq_true_eq] at h;by_cases hx:Ps.textAt ts k=s<;>simp[Pa.isS,h,Pa.Sg.k,hx]
 have HKD:=zH hkd;have HKT:=zH hkt;clear hkd hkt hB;generalize Ps.textAt ts σ.k=T at *;generalize Ps.kindAt ts σ.k=K1 at *;generalize Ps.numAt ts σ.k=M1 at *;by_cases hr:Tk.resv s=true
 ·
  have hK:Pa.kd s=3:=if_pos hr;rw[hK] at HKD HKT;have HQ:=zH (fun n=>HSK.out n 3 3 rfl);clear HSK hK;cases hq:Pa.kdS ts σ 3 with
  | true =>
   rw[hq] at HQ;have hT:=HKT.out hq;clear HKD HKT;by_cases hTs:T=s
   ·
    have t5:=zcA hTs;rw[decide_eq_true hTs] at hT;have HT:=zH hT;clear hT hTs hq;go_enter Tryz.func45,Tryz.ntmps45;go_wp2_with fail;refine(zb0 s w).mono ?_;rw[hr];rintro e w1 ⟨rfl,rfl⟩;clear hr;go_wp2_with fail
    go_quiet ((go_at_call 61;exact zc8 (HQ.out _)))
    go_wp2;go_ret;exact⟨by rw[HT.out];rfl,zat (Below.refl _ _) _⟩
   ·
    have t5:=zcB hTs;rw[decide_eq_false hTs] at hT;have HT:=zH hT;clear hT hTs hq;go_enter Tryz.func45,Tryz.ntmps45;go_wp2_with fail;refine(zb0 s w).mono ?_;rw[hr];rintro e w1 ⟨rfl,rfl⟩;clear hr;go_wp2_with fail
    go_quiet ((go_at_call 61;exact zc8 (HQ.out _)))
    go_wp2;go_ret;exact⟨by rw[HT.out];rfl,zat (Below.refl _ _) _⟩
  | false =>
   rw[hq] at HQ;have HT:=zH (HKD.out hq);clear HKD HKT hq;go_enter Tryz.func45,Tryz.ntmps45;go_wp2_with fail;refine(zb0 s w).mono ?_;rw[hr];rintro e w1 ⟨rfl,rfl⟩;clear hr;go_wp2_with fail
   go_quiet ((go_at_call 61;exact zc8 (HQ.out _)))
   go_wp2;go_ret;exact⟨by rw[HT.out];rfl,zat (Below.refl _ _) _⟩
 ·
  replace hr:Tk.resv s=false:=by simpa using hr
  have hK:Pa.kd s=4:=if_neg (by rw[hr];decide);rw[hK] at HKD HKT;have HQ:=zH (fun n=>HSK.out n 4 4 rfl);clear HSK hK;cases hq:Pa.kdS ts σ 4 with
  | true =>
   rw[hq] at HQ;have hT:=HKT.out hq;clear HKD HKT;by_cases hTs:T=s
   ·
    have t5:=zcA hTs;rw[decide_eq_true hTs] at hT;have HT:=zH hT;clear hT hTs hq;go_enter Tryz.func45,Tryz.ntmps45;go_wp2_with fail;refine(zb0 s w).mono ?_;rw[hr];rintro e w1 ⟨rfl,rfl⟩;clear hr;go_wp2_with fail
    go_quiet ((go_at_call 61;exact zc8 (HQ.out _)))
    go_wp2;go_ret;exact⟨by rw[HT.out];rfl,zat (Below.refl _ _) _⟩
   ·
    have t5:=zcB hTs;rw[decide_eq_false hTs] at hT;have HT:=zH hT;clear hT hTs hq;go_enter Tryz.func45,Tryz.ntmps45;go_wp2_with fail;refine(zb0 s w).mono ?_;rw[hr];rintro e w1 ⟨rfl,rfl⟩;clear hr;go_wp2_with fail
    go_quiet ((go_at_call 61;exact zc8 (HQ.out _)))
    go_wp2;go_ret;exact⟨by rw[HT.out];rfl,zat (Below.refl _ _) _⟩
  | false =>
   rw[hq] at HQ;have HT:=zH (HKD.out hq);clear HKD HKT hq;go_enter Tryz.func45,Tryz.ntmps45;go_wp2_with fail;refine(zb0 s w).mono ?_;rw[hr];rintro e w1 ⟨rfl,rfl⟩;clear hr;go_wp2_with fail
   go_quiet ((go_at_call 61;exact zc8 (HQ.out _)))
   go_wp2;go_ret;exact⟨by rw[HT.out];rfl,zat (Below.refl _ _) _⟩
theorem kd_ne (s:List UInt8):Pa.kd s≠5∧Pa.kd s≠1∧Pa.kd s≠2:=by
 unfold Pa.kd;split<;>decide
theorem zei {ts:List Tk.Tok} {σ:Pa.Sg} {s:List UInt8} (h:Pa.isS ts σ s=true):∃k,σ=.at_ k∧Ps.kindAt ts k=Pa.kd s∧Ps.textAt ts k=s:=by
 cases σ with
 | bad m e=>cases h
 | at_ k =>
  simp only[Pa.isS,Bool.and_eq_true,decide_eq_true_eq] at h;exact⟨k,rfl,h.1,h.2⟩
theorem kdS_at {ts:List Tk.Tok} {σ:Pa.Sg} {K:Nat} (h:Pa.kdS ts σ K=true):∃k,σ=.at_ k∧Ps.kindAt ts k=K:=by
 cases σ with
 | bad m e=>cases h
 | at_ k =>
  simp only[Pa.kdS,decide_eq_true_eq] at h;exact⟨k,rfl,h⟩
set_option maxRecDepth 100000 in
set_option maxHeartbeats 4000000 in
theorem zam (w:World) (g:Nat) (ts:List Tk.Tok) (σ:Pa.Sg) (o:Nat) (s:List UInt8) (hP:Pps w g ts σ o) :
  Calls Tryz.prog 48 #[.pointer (some ⟨g,0,none⟩),.string ⟨s.toArray⟩] w fun x w'=>x=.returned (.bool (Pa.isS ts σ s))∧Pps w' g ts (Pa.ac ts σ s) o∧w.grownBy w' (some g):=by
 have HP:=zH hP;clear hP;go_enter Tryz.func48,Tryz.ntmps48;go_wp2_with fail;refine(zbP w g ts σ o s HP.out).mono ?_;rintro x w1 ⟨rfl,hb⟩;have hP1:=HP.out.later hb;have HB:=zH hb;clear hb;cases hI:Pa.isS ts σ s with
 | true =>
  obtain⟨k,rfl,hk1,-⟩:=zei hI;have hk2:k+1<ts.length:=Ps.next_in hP1.last hP1.inT (by show Ps.kindAt ts k≠5;rw[hk1];exact(kd_ne s).1);obtain⟨b,c,hne,hbl,q0,q1,q2,q3,fr,hkm,ho,a0,a1,a2,⟨v,a3⟩,hn⟩:=hP1.cells;have f1:=fr 1;have e1:(Pa.Sg.at_ k).k=k:=rfl;rw[e1] at q1 hkm;have HP1:=zH hP1;have HR:Hid (Pa.ac ts (.at_ k) s=.at_ (k+1)):=by show _=_;unfold Pa.ac;rw[if_pos hI];rfl
  have HI:=zH hI;clear hP1 hI hk1 a0 a1 a2 a3 q0 q2 q3 fr e1;go_wp2;go_ret;rw[HR.out,HI.out];exact⟨rfl,HP1.out.next hk2,za0 (za2 HB.out) (zaE _ _ _ _)⟩
 | false =>
  have HP1:=zH hP1;have HR:Hid (Pa.ac ts σ s=σ):=if_neg (by rw[hI];decide);have HI:=zH hI;clear hP1 hI;go_wp2;go_ret;rw[HR.out,HI.out];exact⟨rfl,HP1.out,za2 HB.out⟩
set_option maxRecDepth 100000 in
set_option maxHeartbeats 4000000 in
theorem zap (w:World) (g:Nat) (ts:List Tk.Tok) (σ:Pa.Sg) (o:Nat) (s:List UInt8) (hP:Pps w g ts σ o) :
  Calls Tryz.prog 47 #[.pointer (some ⟨g,0,none⟩),.string ⟨s.toArray⟩] w fun x w'=>x=.returned (.tuple #[])∧Pps w' g ts (Pa.xp ts σ s) o∧w.grownBy w' (some g):=by
 have HP:=zH hP;clear hP;go_enter Tryz.func47,Tryz.ntmps47;go_wp2_with fail;refine(zam w g ts σ o s HP.out).mono ?_;rintro x w1 ⟨rfl,hP1,hG1⟩;have HP1:=zH hP1;have HG1:=zH hG1;clear hP1 hG1;cases hI:Pa.isS ts σ s with
 | true =>
  have HR:Hid (Pa.xp ts σ s=Pa.ac ts σ s):=by show _=_;unfold Pa.xp Pa.ac;rw[if_pos hI,if_pos hI]
  clear hI;go_wp2;refine bodyPost_end (results_none rfl _ _ _) rfl ⟨rfl,?_,HG1.out⟩;rw[HR.out];exact HP1.out
 | false =>
  have HR:Hid (Pa.xp ts σ s=Pa.fl σ 4):=if_neg (by rw[hI];decide);have HA:Hid (Pa.ac ts σ s=σ):=if_neg (by rw[hI];decide);rw[HA.out] at HP1;clear hI;go_wp2_with fail;refine(zcs w1 g ts σ o 4 4 rfl (by omega) HP1.out).mono ?_;rintro x w2 ⟨rfl,hP2,hG2⟩;have HP2:=zH hP2;have HG2:=zH hG2;clear hP2 hG2;go_wp2;refine bodyPost_end (results_none rfl _ _ _) rfl ⟨rfl,?_,za0 HG1.out HG2.out⟩;rw[HR.out];exact HP2.out
def Ps.R.err:Ps.R→Nat
 | .bad _ e=>e
 | .ok _ _=>0
def Ps.R.ex:Ps.R→Ex
 | .bad _ _=>.mk 0 0 [] []
 | .ok x _=>x
def zbt (w:World) (g:Nat) (ts:List Tk.Tok) (o:Nat) (R:Ps.R) (e:Ending) (w':World):Prop :=
 ∃f:EF,e=.returned (.tuple #[f.val,.int .i64 (R.err:Int)])∧ExM w' (w.heap.size≤·) R.ex f∧Psr w' g ts R.at_ o∧w.grownBy w' (some g)
theorem Psr.unset {w W:World} {g:Nat} {ts:List Tk.Tok} {k o:Nat} (h:Psr w g ts k o) {r:Nat} (hr:g<r) (hW:∀b,b<w.heap.size→b≠r→W.heap[b]?=w.heap[b]?):Psr W g ts k o :=
 h.keep fun b hb=>hW b (by have:=h.lt;omega) (by omega)
theorem zej {w w1 W:World} {g r:Nat} (h:w.grownBy w1 (some g)) (hr:w.heap.size≤r) (hs:w1.heap.size≤W.heap.size) (ho:W.os=w1.os) (ht:W.tape=w1.tape) (hu:W.output=w1.output) (hW:∀b,b<w1.heap.size→b≠r→W.heap[b]?=w1.heap[b]?):w.grownBy W (some g) :=
 ⟨ho.trans h.os,ht.trans h.tape,hu.trans h.output,Nat.le_trans h.size hs,fun i hi hne=>(hW i (by have:=h.size;omega) (by omega)).trans (h.block i hi hne)⟩
theorem zcK (w:World) (r:Nat) (u0 u1 u2 u3:Value) (o o':Obj) (b:Nat) (hb:b≠r) (hlt:b<w.heap.size):(((set4 w r u0 u1 u2 u3).alloc o).alloc o').heap[b]?=w.heap[b]?:=by
 rw[Below.heap_alloc _ o' b (by have:=zaj w r u0 u1 u2 u3;simp;omega),zaO w r u0 u1 u2 u3 o b hb hlt]
theorem ziN (w:World) (r:Nat) (u0 u1 u2 u3:Value) (ob:Obj) (l:List Value) (t:TypeId) (o:Nat) (f:EF) (h:l[o]?=some (.int .i64 f.op)∧l[o+1]?=some (.int .i64 f.num)∧l[o+2]?=some (.string ⟨f.name.toArray⟩)∧l[o+3]?=some (.slice f.A f.n f.c)) :
  EFat (((set4 w r u0 u1 u2 u3).alloc ob).alloc (.cells l.toArray t)) (w.heap.size+1) o f:=by
 have hs:=zaj w r u0 u1 u2 u3;have hs2:((set4 w r u0 u1 u2 u3).alloc ob).heap.size=w.heap.size+1:=by simp[hs]
 have e:∀o',(((set4 w r u0 u1 u2 u3).alloc ob).alloc (.cells l.toArray t)).cell? ⟨w.heap.size+1,o',none⟩=l[o']?:=by
  intro o';rw[←hs2,World.cell?_alloc_mark];simp
 exact⟨(e _).trans h.1,(e _).trans h.2.1,(e _).trans h.2.2.1,(e _).trans h.2.2.2⟩
theorem blk4 {w:World} {b:Nat} {c0 c1 c2 c3:Value} {t:TypeId} (h:w.heap[b]?=some (.cells #[c0,c1,c2,c3] t (0,0))) :
  w.cell? ⟨b,0,none⟩=some c0∧w.cell? ⟨b,1,none⟩=some c1∧w.cell? ⟨b,2,none⟩=some c2∧w.cell? ⟨b,3,none⟩=some c3 ∧
  w.frozen? ⟨b,0,none⟩=false∧w.frozen? ⟨b,1,none⟩=false∧w.frozen? ⟨b,2,none⟩=false∧w.frozen? ⟨b,3,none⟩=false∧b<w.heap.size:=by
 refine⟨?_,?_,?_,?_,?_,?_,?_,?_,lt_of_block h⟩
 ·
  rw[cell_of_row w b 0 _ _ _ h];rfl
 ·
  rw[cell_of_row w b 1 _ _ _ h];rfl
 ·
  rw[cell_of_row w b 2 _ _ _ h];rfl
 ·
  rw[cell_of_row w b 3 _ _ _ h];rfl
 ·
  simp[World.frozen?,h]
 ·
  simp[World.frozen?,h]
 ·
  simp[World.frozen?,h]
 ·
  simp[World.frozen?,h]
theorem zgj {w:World} {b:Nat} {c0 c1 c2 c3:Value} {t:TypeId} (h:w.heap[b]?=some (.cells #[c0,c1,c2,c3] t (0,0))) (u0 u1 u2 u3:Value) :
  (set4 w b u0 u1 u2 u3).heap[b]?=some (.cells #[u0,u1,u2,u3] t (0,0)):=by
 unfold set4;simp[World.setCell,Array.getElem?_modify,h]
theorem zdo {w w1 W:World} {g r:Nat} {ts:List Tk.Tok} {o:Nat} {R:Ps.R} {f:EF} (hgr:g<r) (hwr:w.heap.size≤r) (hP:Psr w1 g ts R.at_ o) (hG:w.grownBy w1 (some g)) (hs:w1.heap.size≤W.heap.size) (ho:W.os=w1.os) (ht:W.tape=w1.tape) (hu:W.output=w1.output)
  (hW:∀b,b<w1.heap.size→b≠r→W.heap[b]?=w1.heap[b]?) (hE:ExM W (w.heap.size≤·) R.ex f):zbt w g ts o R (.returned (.tuple #[f.val,.int .i64 (R.err:Int)])) W :=
 ⟨f,rfl,hE,hP.unset hgr hW,zej hG hwr hs ho ht hu hW⟩
theorem ps_bad {w w1:World} {g:Nat} {ts:List Tk.Tok} {o:Nat} {m e0:Nat} (hgw:g<w.heap.size) (hP:Psr w1 g ts m o) (hG:w.grownBy w1 (some g)) (u0 u1 u2 u3:Value) (ob:Obj) :
  zbt w g ts o (.bad m e0) (.returned (.tuple #[.agg #[.int .i64 0,.int .i64 0,.string ⟨#[]⟩,.slice none 0 0],.int .i64 (e0:Int)])) ((set4 w1 w.heap.size u0 u1 u2 u3).alloc ob):=by
 have hW:=fun b (hb:b<w1.heap.size) (hne:b≠w.heap.size)=>zaO w1 w.heap.size u0 u1 u2 u3 ob b hne hb;exact⟨⟨0,0,[],none,0,0⟩,rfl,ExM.leaf _ _ _ _ _ _ _,hP.unset hgw hW,zej hG (lR _) (by have:=zaj w1 w.heap.size u0 u1 u2 u3;simp;omega) rfl rfl rfl hW⟩
set_option maxRecDepth 100000 in
set_option maxHeartbeats 4000000 in
theorem zfo (w:World) (g:Nat) (ts:List Tk.Tok) (k o:Nat) (op:Nat) (hP:Psr w g ts k o) (hO:∀w',Psr w' g ts k o→Calls Tryz.prog 112 #[.pointer (some ⟨g,0,none⟩)] w' (zbt w' g ts o (Ps.PO ts o k))) :
  Calls Tryz.prog 118 #[.pointer (some ⟨g,0,none⟩),.int .i64 (op:Int)] w (zbt w g ts o ((Ps.PO ts o k).bind fun x k'=>.ok (.mk op 0 [] [x]) k')):=by
 have HP:=zH (hP.alloc (.cells #[.int .i64 0,.int .i64 0,.string ⟨#[]⟩,.slice none 0 0] 68));have hgw:=hP.lt;have HO:=zH hO;clear hP hO;go_enter Tryz.func118,Tryz.ntmps118;go_wp2_with fail;refine(HO.out _ HP.out).mono ?_;rintro e w1 ⟨f,rfl,hE,hP1,hG⟩;unfold EF.val;obtain⟨q0,q1,q2,q3,f0,f1,f2,f3,hz⟩:=zaF hgw hG;have HG:=zH (za6 hG);have HE:=zH hE;have HP1:=zH hP1;clear hG hE hP1;cases hR:Ps.PO ts o k with
 | bad m e0 =>
  have he:=Ps.PO_err hR;have t0:=nT (show ((e0:Nat):Int)≠0 by omega);rw[hR] at HE HP1;have HR:=zH hR;clear hR;dsimp only[Ps.R.err];go_wp2_with fail;refine bodyPost_ret (v:=.tuple #[.agg #[.int .i64 0,.int .i64 0,.string ⟨#[]⟩,.slice none 0 0],.int .i64 (e0:Int)]) (by simp[results,Tryz.results118,go_sem,q0,q1,q2,q3,hz]) rfl ?_;rw[HR.out];exact ps_bad hgw HP1.out HG.out _ _ _ _ _
 | ok x m =>
  rw[hR] at HE HP1;have HR:=zH hR;clear hR;dsimp only[Ps.R.err];go_wp2_with fail;refine bodyPost_ret (v:=.tuple #[.agg #[.int .i64 (op:Int),.int .i64 0,.string ⟨#[]⟩,.slice (some ⟨w1.heap.size+1,0,none⟩) 1 1],.int .i64 0]) (by simp[results,Tryz.results118,go_sem,q0,q1,q2,q3,hz]) rfl ?_;rw[HR.out];have hE:ExM w1 (w.heap.size < ·) x f:=HE.out.more fun b hb=>by simp at hb;omega
  refine zdo (R:=.ok (.mk op 0 [] [x]) m) (f:=⟨(op:Int),0,[],some ⟨w1.heap.size+1,0,none⟩,1,1⟩) hgw (lR _) HP1.out HG.out (by have:=zaj w1 w.heap.size;simp[World.setCell];omega) rfl rfl rfl (fun b hb hne=>zcK w1 w.heap.size _ _ _ _ _ _ b hne hb) ?_;exact ExM.one _ _ _ (w1.heap.size+1) 0 1 (by omega) (ziN w1 w.heap.size _ _ _ _ _ [.int .i64 f.op,.int .i64 f.num,.string ⟨f.name.toArray⟩,.slice f.A f.n f.c] 68 0 f ⟨rfl,rfl,rfl,rfl⟩) ((hE.keep fun b hb hlt=>zcK w1 w.heap.size _ _ _ _ _ _ b (by omega) hlt).more fun b hb=>by omega)
set_option maxRecDepth 100000 in
set_option maxHeartbeats 4000000 in
theorem zde (w:World) (g:Nat) (ts:List Tk.Tok) (k o:Nat) (hlast:Ps.kindAt ts (ts.length-1)=5) (hP:Psr w g ts k o) (hO:∀w',Psr w' g ts k o→Calls Tryz.prog 111 #[.pointer (some ⟨g,0,none⟩),.int .i64 1] w' (zbt w' g ts o (Ps.PE ts 1 o k))) :
  Calls Tryz.prog 117 #[.pointer (some ⟨g,0,none⟩)] w (zbt w g ts o ((Ps.PE ts 1 o k).bind fun x k'=>if Ps.sgn ts k'=[41] then .ok x (k'+1) else .bad k' 4)):=by
 have HP:=zH (hP.alloc (.cells #[.int .i64 0,.int .i64 0,.string ⟨#[]⟩,.slice none 0 0] 68));have hgw:=hP.lt;have HO:=zH hO;have HL:=zH hlast;clear hP hO hlast;go_enter Tryz.func117,Tryz.ntmps117;go_wp2_with fail;refine(HO.out _ HP.out).mono ?_;rintro e w1 ⟨f,rfl,hE,hP1,hG⟩;unfold EF.val;obtain⟨q0,q1,q2,q3,f0,f1,f2,f3,hz⟩:=zaF hgw hG;have HG:=zH (za6 hG);have HE:=zH hE;have HP1:=zH hP1;clear hG hE hP1;cases hR:Ps.PE ts 1 o k with
 | bad m e0 =>
  have he:=Ps.PE_err (lR 1) hR;have t0:=nT (show ((e0:Nat):Int)≠0 by omega);rw[hR] at HE HP1;have HR:=zH hR;clear hR;dsimp only[Ps.R.err];go_wp2_with fail;refine bodyPost_ret (v:=.tuple #[.agg #[.int .i64 0,.int .i64 0,.string ⟨#[]⟩,.slice none 0 0],.int .i64 (e0:Int)]) (by simp[results,Tryz.results117,go_sem,q0,q1,q2,q3,hz]) rfl ?_;rw[HR.out];exact ps_bad hgw HP1.out HG.out _ _ _ _ _
 | ok x m =>
  rw[hR] at HE HP1;have HR:=zH hR;have hmT:m<ts.length:=HP1.out.inT;clear hR;dsimp only[Ps.R.err];go_wp2_with fail;refine(zdn _ g ts m o (HP1.out.alloc _)).mono ?_;rintro e w2 ⟨rfl,hb2⟩;have hS0:(w1.alloc (.cells #[.int .i64 f.op,.int .i64 f.num,.string ⟨f.name.toArray⟩,.slice f.A f.n f.c] 68)).heap.size=w1.heap.size+1:=by simp
  have hP2:Psr w2 g ts m o:=(HP1.out.alloc _).later hb2;have hG2:w.grownBy w2 (some g):=za0 HG.out ⟨hb2.os,hb2.tape,hb2.output,by have:=hb2.size;omega,fun b hb _=>(hb2.block b (by omega)).trans (Below.heap_alloc w1 _ b hb)⟩;have hE2:ExM w2 (w.heap.size < ·) x f:=(HE.out.keep fun b hb hlt=>(hb2.block b (by omega)).trans (Below.heap_alloc w1 _ b hlt)).more fun b hb=>by simp at hb;omega
  have hL2:w2.heap[w1.heap.size]?=some (.cells #[.int .i64 f.op,.int .i64 f.num,.string ⟨f.name.toArray⟩,.slice f.A f.n f.c] 68 (0,0)):=(hb2.block _ (by omega)).trans (heap_alloc_new w1 _);have hR2:w2.heap[w.heap.size]?=w1.heap[w.heap.size]?:=(hb2.block _ (by omega)).trans (Below.heap_alloc w1 _ _ hz);have r0:w2.cell? ⟨w.heap.size,0,none⟩=some (.int .i64 0):=(World.cell?_of_block hR2).trans q0;have r1:w2.cell? ⟨w.heap.size,1,none⟩=some (.int .i64 0):=(World.cell?_of_block hR2).trans q1;have r2:w2.cell? ⟨w.heap.size,2,none⟩=some (.string ⟨#[]⟩):=(World.cell?_of_block hR2).trans q2;have r3:w2.cell? ⟨w.heap.size,3,none⟩=some (.slice none 0 0):=(World.cell?_of_block hR2).trans q3;have z0:w2.frozen? ⟨w.heap.size,0,none⟩=false:=(World.frozen?_of_block hR2).trans f0;have z1:w2.frozen? ⟨w.heap.size,1,none⟩=false:=(World.frozen?_of_block hR2).trans f1;have z2:w2.frozen? ⟨w.heap.size,2,none⟩=false:=(World.frozen?_of_block hR2).trans f2;have z3:w2.frozen? ⟨w.heap.size,3,none⟩=false:=(World.frozen?_of_block hR2).trans f3;obtain⟨l0,l1,l2,l3,-,-,-,-,hl2⟩:=blk4 hL2;obtain⟨tb,tc,hne,hbl,p0,p1,p2,g1,g2,-,-,-,-⟩:=hP2.cells;have hzz:w.heap.size<w2.heap.size:=by omega
  have hn1:w1.heap.size≠w.heap.size:=by omega
  have hn2:g≠w.heap.size:=by omega
  have hn3:g≠w1.heap.size:=by omega
  have HP2:=zH hP2;have HG2:=zH hG2;have HE2:=zH hE2;clear hb2 hS0 hP2 hG2 hE2 hL2 hR2 q0 q1 q2 q3 f0 f1 f2 f3 p0 p2 g2 hbl HO;by_cases h41:Ps.sgn ts m=[41]
  ·
   have t1:=zcA h41;have hm1:m+1<ts.length:=Ps.next_in HL.out hmT (by rw[Ps.sgn_kind (by rw[h41];decide)];decide);have hmx:m+1≤1000000:=by obtain⟨A,c,hb,hl,ho,hn,_⟩:=HP2.out;omega
   have H41:=zH h41;clear h41;go_wp2_with fail;refine bodyPost_ret (v:=.tuple #[.agg #[.int .i64 f.op,.int .i64 f.num,.string ⟨f.name.toArray⟩,.slice f.A f.n f.c],.int .i64 0]) (by simp[results,Tryz.results117,go_sem,r0,r1,r2,r3]) rfl ?_;rw[HR.out];show zbt w g ts o (if Ps.sgn ts m=[41] then Ps.R.ok x (m+1) else Ps.R.bad m 4) _ _;rw[if_pos H41.out];have hP3:=HP2.out.at (m+1) hm1;rw[show (((m+1:Nat):Nat):Int)=(m:Int)+1 by omega] at hP3;have hs1:(w2.setCell ⟨g,1,none⟩ (.int .i64 ((m:Int)+1))).heap.size=w2.heap.size:=by simp[World.setCell]
   have hk1:∀b,b≠g→(w2.setCell ⟨g,1,none⟩ (.int .i64 ((m:Int)+1))).heap[b]?=w2.heap[b]?:=fun b hb=>Below.heap_setCell w2 _ _ b (by simpa using hb);refine zdo (R:=.ok x (m+1)) (f:=f) hgw (lR _) hP3 (za0 HG2.out ⟨rfl,rfl,rfl,Nat.le_of_eq hs1.symm,fun b _ hne=>hk1 b (fun e=>hne (by rw[e]))⟩) (Nat.le_of_eq (zaj _ w.heap.size _ _ _ _).symm) rfl rfl rfl (fun b _ hne=>zai _ w.heap.size _ _ _ _ b hne) ?_;exact(HE2.out.keep fun b hb hlt=>(zai _ w.heap.size _ _ _ _ b (by omega)).trans (hk1 b (by omega))).more fun b hb=>by omega
  ·
   have t1:=zcB h41;have H41:=zH h41;clear h41;go_wp2_with fail;refine bodyPost_ret (v:=.tuple #[.agg #[.int .i64 0,.int .i64 0,.string ⟨#[]⟩,.slice none 0 0],.int .i64 4]) (by simp[results,Tryz.results117,go_sem,r0,r1,r2,r3]) rfl ?_;rw[HR.out];show zbt w g ts o (if Ps.sgn ts m=[41] then Ps.R.ok x (m+1) else Ps.R.bad m 4) _ _;rw[if_neg H41.out];exact zdo (R:=.bad m 4) (f:=⟨0,0,[],none,0,0⟩) hgw (lR _) HP2.out HG2.out (Nat.le_of_eq (zaj w2 w.heap.size _ _ _ _).symm) rfl rfl rfl (fun b _ hne=>zai w2 w.heap.size _ _ _ _ b hne) (ExM.leaf _ _ _ _ _ _ _)
theorem Pps.drw {w:World} {g:Nat} {ts:List Tk.Tok} {σ:Pa.Sg} {o:Nat} (h:Pps w g ts σ o):Pps w.drew g ts σ o:=h.later (Below.refl _ _).drew
def tkT (ts:List Tk.Tok) (σ:Pa.Sg) (K:Nat):List UInt8:=if Pa.kdS ts σ K=true then Ps.textAt ts σ.k else []
def tkN (ts:List Tk.Tok) (σ:Pa.Sg) (K:Nat):Nat:=if Pa.kdS ts σ K=true then Ps.numAt ts σ.k else 0
def TakeP (ts:List Tk.Tok) (σ:Pa.Sg) (K:Nat) (x:Ending):Prop:=∃kn ps:Int,x=.returned (.agg #[.int .i64 kn,.string ⟨(tkT ts σ K).toArray⟩,.int .i64 (tkN ts σ K:Int),.int .i64 ps])
theorem zag {w w':World} {r:Option Nat} (h:w.grownBy w' r) (ob:Obj):w.grownBy (w'.alloc ob) r :=
 ⟨h.os,h.tape,h.output,Nat.le_trans h.size (by simp),fun i hi hr=>(Below.heap_alloc w' ob i (Nat.lt_of_lt_of_le hi h.size)).trans (h.block i hi hr)⟩
theorem zcf {w w':World} {r:Option Nat} (h:w.grownBy w' r):w.grownBy w'.drew r:=⟨h.os,h.tape,h.output,h.size,h.block⟩
theorem zaH {w w':World} {g n:Nat} {u:Value} (h:w.grownBy w' (some g)):w.grownBy (w'.setCell ⟨g,n,none⟩ u) (some g):=za0 h (zaE w' g n u)
set_option maxRecDepth 100000 in
set_option maxHeartbeats 4000000 in
theorem zfO (w:World) (g:Nat) (ts:List Tk.Tok) (σ:Pa.Sg) (o K:Nat) (v:Int) (hv:v=(K:Int)) (hK5:K≠5) (hP:Pps w g ts σ o) :
  Calls Tryz.prog 97 #[.pointer (some ⟨g,0,none⟩),.int .i64 v] w fun x w'=>TakeP ts σ K x∧Pps w' g ts (Pa.tk ts σ K) o∧w.grownBy w' (some g):=by
 have HP:=zH hP;have hgw:=hP.lt;have HV:=zH hv;clear hP hv;go_enter Tryz.func97,Tryz.ntmps97;go_wp2_with fail;refine(zbY _ g ts σ o K v HV.out (HP.out.alloc _)).mono ?_;rintro x w1 ⟨rfl,hb⟩;have hP1:=(HP.out.alloc _).later hb;have hR:=(hb.block w.heap.size (by simp)).trans (heap_alloc_new w _);obtain⟨r0,r1,r2,r3,g0,g1,g2,g3,hrl⟩:=blk4 hR;have HB:Hid (w.grownBy w1 (some g)):=za6 (za2 hb);have HRB:=zH hR;clear hb hR;cases hI:Pa.kdS ts σ K with
 | true =>
  obtain⟨k,rfl,hk1⟩:=kdS_at hI;have hkl:k<ts.length:=hP1.inT;have hk2:k+1<ts.length:=Ps.next_in hP1.last hkl (by rw[hk1];exact hK5);obtain⟨b,c,hne,hbl,q0,q1,q2,q3,fr,hkm,ho,a0,a1,a2,⟨v3,a3⟩,hn⟩:=hP1.cells;have f1:=fr 1;have e1:(Pa.Sg.at_ k).k=k:=rfl;rw[e1] at q1 hkm a0 a1 a2 a3;have HP1:=zH hP1;have HR:Hid (Pa.tk ts (.at_ k) K=.at_ (k+1)):=by show _=_;unfold Pa.tk;rw[if_pos hI];rfl
  have i0:(0:Int)≤(k:Int):=by omega
  have i1:(k:Int)<(ts.length:Int):=by omega
  have HI:=zH hI;clear hP1 hI hk1 q2 q3 fr e1;have al:∀ob off,(w1.alloc ob).cell? ⟨g,off,none⟩=w1.cell? ⟨g,off,none⟩:=fun ob off=>World.cell?_of_block (Below.heap_alloc w1 ob g HP1.out.lt);have bl:∀ob off,(w1.alloc ob).cell? ⟨b,off,none⟩=w1.cell? ⟨b,off,none⟩:=fun ob off=>World.cell?_of_block (Below.heap_alloc w1 ob b hbl);have rl:∀ob off,(w1.alloc ob).cell? ⟨w.heap.size,off,none⟩=w1.cell? ⟨w.heap.size,off,none⟩:=fun ob off=>World.cell?_of_block (Below.heap_alloc w1 ob _ hrl);have hgR:g≠w.heap.size:=by omega
  have hgR':w.heap.size≠g:=by omega
  have fl:∀ob off,(w1.alloc ob).frozen? ⟨g,off,none⟩=w1.frozen? ⟨g,off,none⟩:=fun ob off=>World.frozen?_of_block (Below.heap_alloc w1 ob g HP1.out.lt);go_wp2;go_region
  all_goals
   go_wp2;refine bodyPost_ret (v:=.agg #[.int .i64 (Ps.kindAt ts k:Int),.string ⟨(Ps.textAt ts k).toArray⟩,.int .i64 (Ps.numAt ts k:Int),.int .i64 v3]) (by simp[results,Tryz.results97,go_sem,r0,r1,r2,r3,rl]) rfl ⟨⟨_,_,by unfold tkT tkN;rw[if_pos HI.out,if_pos HI.out];rfl⟩,?_,?_⟩
   ·
    rw[HR.out]
    repeat (first|(with_reducible refine Pps.set ?_ hgw _)|(with_reducible refine Pps.alloc ?_ _)|(with_reducible refine Pps.drw ?_))
    first|exact HP1.out.next hk2|exact(HP1.out.alloc _).next hk2|exact(HP1.out.alloc _).drw.next hk2
   ·
    repeat (first|(with_reducible refine zaD ?_ (lR _) _)|(with_reducible refine zag ?_ _)|(with_reducible refine zcf ?_)|(with_reducible refine zaH ?_))
    exact HB.out
 | false =>
  have HP1:=zH hP1;have HR:Hid (Pa.tk ts σ K=Pa.fl σ 4):=if_neg (by rw[hI];decide);clear hP1;have HI:=zH hI;clear hI;go_wp2_with fail;refine(zcs w1 g ts σ o 4 4 rfl (by omega) HP1.out).mono ?_;rintro x w2 ⟨rfl,hP2,hG2⟩;have HP2:=zH hP2;have HG2:=zH (za0 HB.out hG2);obtain⟨s0,s1,s2,s3,h0,h1,h2,h3,-⟩:=blk4 ((hG2.block w.heap.size hrl (fun e=>by injection e with e;omega)).trans HRB.out);clear hP2 hG2 r0 r1 r2 r3 g0 g1 g2 g3;go_wp2;refine bodyPost_ret (v:=.agg #[.int .i64 0,.string ⟨#[]⟩,.int .i64 0,.int .i64 0]) (by simp[results,Tryz.results97,go_sem,s0,s1,s2,s3]) rfl ⟨⟨0,0,by unfold tkT tkN;rw[if_neg (by rw[HI.out];decide),if_neg (by rw[HI.out];decide)];rfl⟩,?_,?_⟩
  ·
   rw[HR.out]
   repeat (with_reducible refine Pps.set ?_ hgw _)
   exact HP2.out
  ·
   repeat (with_reducible refine zaD ?_ (lR _) _)
   exact HG2.out
set_option maxRecDepth 100000 in
set_option maxHeartbeats 4000000 in
theorem zbd (w:World) (g:Nat) (ts:List Tk.Tok) (σ:Pa.Sg) (o:Nat) (hP:Pps w g ts σ o) :
  Calls Tryz.prog 68 #[.pointer (some ⟨g,0,none⟩)] w fun x w'=>x=.returned (.string ⟨(Pa.nmV ts σ).toArray⟩)∧Pps w' g ts (Pa.tk ts σ 1) o∧w.grownBy w' (some g):=by
 have HP:=zH hP;clear hP;go_enter Tryz.func68,Tryz.ntmps68;go_wp2_with fail;refine(zfO w g ts σ o 1 1 rfl (by omega) HP.out).mono ?_;rintro x w1 ⟨⟨kn,ps,rfl⟩,hP1,hG1⟩;have HP1:=zH hP1;have HG1:=zH hG1;clear hP1 hG1;have HT:Hid (Pa.nmV ts σ=tkT ts σ 1):=rfl;have hfd:∀W:World,(Instr.field 55 (.agg #[.int .i64 kn,.string ⟨(tkT ts σ 1).toArray⟩,.int .i64 (tkN ts σ 1:Int),.int .i64 ps]) 1).run Tryz.prog W=.ok (.string ⟨(tkT ts σ 1).toArray⟩) W:=fun _=>by kernel_rfl
 go_wp2;go_ret;rw[HT.out];exact⟨rfl,HP1.out,HG1.out⟩
set_option maxRecDepth 100000 in
set_option maxHeartbeats 4000000 in
theorem zce (w:World) (g:Nat) (ts:List Tk.Tok) (σ:Pa.Sg) (o:Nat) (hP:Pps w g ts σ o) :
  Calls Tryz.prog 92 #[.pointer (some ⟨g,0,none⟩)] w fun x w'=>x=.returned (.int .i64 (Pa.nuV ts σ:Int))∧Pps w' g ts (Pa.tk ts σ 2) o∧w.grownBy w' (some g):=by
 have HP:=zH hP;clear hP;go_enter Tryz.func92,Tryz.ntmps92;go_wp2_with fail;refine(zfO w g ts σ o 2 2 rfl (by omega) HP.out).mono ?_;rintro x w1 ⟨⟨kn,ps,rfl⟩,hP1,hG1⟩;have HP1:=zH hP1;have HG1:=zH hG1;clear hP1 hG1;have HT:Hid (Pa.nuV ts σ=tkN ts σ 2):=rfl;have hfd:∀W:World,(Instr.field 55 (.agg #[.int .i64 kn,.string ⟨(tkT ts σ 2).toArray⟩,.int .i64 (tkN ts σ 2:Int),.int .i64 ps]) 2).run Tryz.prog W=.ok (.int .i64 (tkN ts σ 2:Int)) W:=fun _=>by kernel_rfl
 go_wp2;go_ret;rw[HT.out];exact⟨rfl,HP1.out,HG1.out⟩
theorem zcO (W:World) (p:Addr) (u:Value):(W.setCell p u).heap.size=W.heap.size:=by simp[World.setCell]
theorem Psr.drew {w:World} {g:Nat} {ts:List Tk.Tok} {k o:Nat} (h:Psr w g ts k o):Psr w.drew g ts k o:=h.keep fun _ _=>rfl
def zbz (w3:World) (g k o:Nat):World:=((w3.setCell ⟨g,2,none⟩ (.int .i64 ((o:Int)+1))).setCell ⟨g,1,none⟩ (.int .i64 ((k:Int)+1))).alloc (.cells #[.int .i64 0,.int .i64 0,.string ⟨#[]⟩,.slice none 0 0] 68)
theorem zdJ (w3:World) (g k o b:Nat) (hb:b<w3.heap.size) (hne:b≠g):(zbz w3 g k o).heap[b]?=w3.heap[b]?:=by
 unfold zbz;rw[Below.heap_alloc _ _ b (by simp[World.setCell];omega),Below.heap_setCell _ _ _ b (by simpa using hne),Below.heap_setCell _ _ _ b (by simpa using hne)]
theorem zhx (w3:World) (g k o:Nat):(zbz w3 g k o).os=w3.os∧(zbz w3 g k o).tape=w3.tape∧(zbz w3 g k o).output=w3.output:=⟨rfl,rfl,rfl⟩
theorem zhk (W:World) (p:Addr) (u:Value):(W.setCell p u).os=W.os∧(W.setCell p u).tape=W.tape∧(W.setCell p u).output=W.output:=⟨rfl,rfl,rfl⟩
theorem zdw (W:World) (r:Nat) (u0 u1 u2 u3:Value):(set4 W r u0 u1 u2 u3).os=W.os∧(set4 W r u0 u1 u2 u3).tape=W.tape∧(set4 W r u0 u1 u2 u3).output=W.output:=⟨rfl,rfl,rfl⟩
theorem zdI (w3:World) (g k o:Nat):(zbz w3 g k o).heap.size=w3.heap.size+1:=by
 unfold zbz;simp[World.setCell]
theorem zef {w3:World} {g:Nat} {ts:List Tk.Tok} {k o:Nat} (h:Psr w3 g ts k o) (hk:k+1<ts.length) (ho:o<24):Psr (zbz w3 g k o) g ts (k+1) (o+1):=by
 have h1:=(h.op (o+1) (by omega)).at (k+1) hk;exact h1.alloc _
theorem zgw (w3:World) (g k o:Nat):(zbz w3 g k o).heap[w3.heap.size]?=some (.cells #[.int .i64 0,.int .i64 0,.string ⟨#[]⟩,.slice none 0 0] 68 (0,0)):=by
 have hs:((w3.setCell ⟨g,2,none⟩ (.int .i64 ((o:Int)+1))).setCell ⟨g,1,none⟩ (.int .i64 ((k:Int)+1))).heap.size=w3.heap.size:=by simp[World.setCell]
 have:=heap_alloc_new ((w3.setCell ⟨g,2,none⟩ (.int .i64 ((o:Int)+1))).setCell ⟨g,1,none⟩ (.int .i64 ((k:Int)+1))) (.cells #[.int .i64 0,.int .i64 0,.string ⟨#[]⟩,.slice none 0 0] 68);rw[hs] at this;exact this
theorem zim {w w3 w4:World} {g k o:Nat} {ts:List Tk.Tok} {R:Ps.R} {f:EF} (hgr:g<w.heap.size) (hre:w.heap.size<w3.heap.size) (h3:w.grownBy w3 (some g)) (hG:(zbz w3 g k o).grownBy w4 (some g))
  (hE:ExM w4 ((zbz w3 g k o).heap.size≤·) R.ex f) (hP:Psr w4 g ts R.at_ (o+1)) (ho:o≤24) (u0 u1 u2 u3 v0 v1 v2 v3:Value) :
  zbt w g ts o R (.returned (.tuple #[f.val,.int .i64 (R.err:Int)])) (set4 ((set4 w4 w3.heap.size u0 u1 u2 u3).setCell ⟨g,2,none⟩ (.int .i64 (o:Int))) w.heap.size v0 v1 v2 v3):=by
 have hs3:=zdI w3 g k o;have hs4:=hG.size;have hk1:∀b,b≠w3.heap.size→(set4 w4 w3.heap.size u0 u1 u2 u3).heap[b]?=w4.heap[b]?:=fun b hb=>zai w4 w3.heap.size u0 u1 u2 u3 b hb;have hP1:Psr (set4 w4 w3.heap.size u0 u1 u2 u3) g ts R.at_ (o+1):=hP.keep fun b hb=>hk1 b (by omega);have hP2:=hP1.op o ho;have hk2:∀b,b≠g→((set4 w4 w3.heap.size u0 u1 u2 u3).setCell ⟨g,2,none⟩ (.int .i64 (o:Int))).heap[b]?=(set4 w4 w3.heap.size u0 u1 u2 u3).heap[b]?:=fun b hb=>Below.heap_setCell _ _ _ b (by simpa using hb);have hsz:((set4 w4 w3.heap.size u0 u1 u2 u3).setCell ⟨g,2,none⟩ (.int .i64 (o:Int))).heap.size=w4.heap.size:=(zcO _ _ _).trans (zaj w4 w3.heap.size u0 u1 u2 u3);have hG2:w.grownBy ((set4 w4 w3.heap.size u0 u1 u2 u3).setCell ⟨g,2,none⟩ (.int .i64 (o:Int))) (some g):=by
  obtain⟨o1,o2,o3⟩:=zhx w3 g k o;obtain⟨s1,s2,s3⟩:=zdw w4 w3.heap.size u0 u1 u2 u3;obtain⟨c1,c2,c3⟩:=zhk (set4 w4 w3.heap.size u0 u1 u2 u3) ⟨g,2,none⟩ (.int .i64 (o:Int));refine⟨(((c1.trans s1).trans hG.os).trans o1).trans h3.os,(((c2.trans s2).trans hG.tape).trans o2).trans h3.tape,(((c3.trans s3).trans hG.output).trans o3).trans h3.output,by rw[hsz];have:=h3.size;omega,fun b hb hne=>?_⟩;have hbg:b≠g:=fun e=>hne (by rw[e]);exact(hk2 b hbg).trans ((hk1 b (by omega)).trans ((hG.block b (by omega) hne).trans ((zdJ w3 g k o b (by omega) hbg).trans (h3.block b hb hne))))
 obtain⟨d1,d2,d3⟩:=zdw ((set4 w4 w3.heap.size u0 u1 u2 u3).setCell ⟨g,2,none⟩ (.int .i64 (o:Int))) w.heap.size v0 v1 v2 v3;refine zdo hgr (lR _) hP2 hG2 (Nat.le_of_eq (zaj _ w.heap.size _ _ _ _).symm) d1 d2 d3 (fun b _ hne=>zai _ w.heap.size _ _ _ _ b hne) ?_;exact(hE.keep fun b hb hlt=>(zai _ w.heap.size _ _ _ _ b (by omega)).trans ((hk2 b (by omega)).trans (hk1 b (by omega)))).more fun b hb=>by omega
theorem op_facts {w w2:World} {g:Nat} {ts:List Tk.Tok} {k o:Nat} {cs:Array Value} {t:TypeId} (hP:Psr w g ts k o)
  (hb:Below ((w.alloc (.cells #[.int .i64 0,.int .i64 0,.string ⟨#[]⟩,.slice none 0 0] 68)).alloc (.cells cs t)).drew.heap.size ((w.alloc (.cells #[.int .i64 0,.int .i64 0,.string ⟨#[]⟩,.slice none 0 0] 68)).alloc (.cells cs t)).drew w2) :
  Psr w2 g ts k o∧w2.heap[w.heap.size]?=some (.cells #[.int .i64 0,.int .i64 0,.string ⟨#[]⟩,.slice none 0 0] 68 (0,0))∧w.grownBy w2 (some g)∧w.heap.size+2≤w2.heap.size:=by
 have hs:((w.alloc (.cells #[.int .i64 0,.int .i64 0,.string ⟨#[]⟩,.slice none 0 0] 68)).alloc (.cells cs t)).drew.heap.size=w.heap.size+2:=by simp
 have hsz:=hb.size;refine⟨(((hP.alloc _).alloc _).drew).later hb,?_,⟨hb.os,hb.tape,hb.output,by omega,fun b hbb _=>?_⟩,by omega⟩
 ·
  refine(hb.block _ (by omega)).trans ?_;refine(Below.heap_alloc _ _ _ (by simp)).trans ?_;exact heap_alloc_new w _
 ·
  exact(hb.block b (by omega)).trans ((Below.heap_alloc _ _ b (by simp;omega)).trans (Below.heap_alloc w _ b hbb))
theorem ziw {w w3 w4:World} {g k o:Nat} {Z:Obj} (hZ:w3.heap[w.heap.size]?=some Z) (hr:w.heap.size<w3.heap.size) (hg:g<w.heap.size) (hG:(zbz w3 g k o).grownBy w4 (some g)) :
  w4.heap[w.heap.size]?=some Z∧w4.heap[w3.heap.size]?=some (.cells #[.int .i64 0,.int .i64 0,.string ⟨#[]⟩,.slice none 0 0] 68 (0,0)):=by
 have hs:=zdI w3 g k o;exact⟨(hG.block _ (by omega) (fun e=>by injection e with e;omega)).trans ((zdJ w3 g k o _ hr (by omega)).trans hZ),(hG.block _ (by omega) (fun e=>by injection e with e;omega)).trans (zgw w3 g k o)⟩
theorem ziv {w:World} {g:Nat} {ts:List Tk.Tok} {k o:Nat} (hP:Psr w g ts k o) (hk:k+1<ts.length) (op num:Int) (name:List UInt8) (cs:Array Value) (t t':TypeId) :
  zbt w g ts o (.ok (.mk op num name []) (k+1)) (.returned (.tuple #[.agg #[.int .i64 op,.int .i64 num,.string ⟨name.toArray⟩,.slice none 0 0],.int .i64 0]))
   (((w.setCell ⟨g,1,none⟩ (.int .i64 ((k:Int)+1))).alloc (.cells #[.int .i64 op,.int .i64 num,.string ⟨name.toArray⟩,.slice none 0 0] t)).alloc (.cells cs t')).drew:=by
 have hs:(w.setCell ⟨g,1,none⟩ (.int .i64 ((k:Int)+1))).heap.size=w.heap.size:=by simp[World.setCell]
 have hP1:Psr (w.setCell ⟨g,1,none⟩ (.int .i64 ((k:Int)+1))) g ts (k+1) o:=hP.at (k+1) hk;refine⟨⟨op,num,name,none,0,0⟩,rfl,ExM.leaf _ _ _ _ _ _ _,((hP1.alloc _).alloc _).drew,⟨rfl,rfl,rfl,?_,fun b hb hne=>?_⟩⟩
 ·
  show w.heap.size≤((((w.setCell ⟨g,1,none⟩ (.int .i64 ((k:Int)+1))).alloc _).alloc _)).heap.size;simp[hs];omega
 ·
  show ((((w.setCell ⟨g,1,none⟩ (.int .i64 ((k:Int)+1))).alloc _).alloc _)).heap[b]?=_;rw[Below.heap_alloc _ _ b (by simp;omega),Below.heap_alloc _ _ b (by omega),Below.heap_setCell _ _ _ b (by simp;exact fun e=>hne (by rw[e]))]
set_option maxRecDepth 100000 in
set_option maxHeartbeats 4000000 in
theorem zhw (w:World) (g:Nat) (ts:List Tk.Tok) (k o:Nat) (hlast:Ps.kindAt ts (ts.length-1)=5) (hP:Psr w g ts k o)
  (hE:k+1<ts.length→o<24→∀w',Psr w' g ts (k+1) (o+1)→Calls Tryz.prog 111 #[.pointer (some ⟨g,0,none⟩),.int .i64 1] w' (zbt w' g ts (o+1) (Ps.PE ts 1 (o+1) (k+1))))
  (hO:k+1<ts.length→o<24→∀w',Psr w' g ts (k+1) (o+1)→Calls Tryz.prog 112 #[.pointer (some ⟨g,0,none⟩)] w' (zbt w' g ts (o+1) (Ps.PO ts (o+1) (k+1)))) :
  Calls Tryz.prog 112 #[.pointer (some ⟨g,0,none⟩)] w (zbt w g ts o (Ps.PO ts o k)):=by
 have hk:=hP.inT;have hgl:=hP.lt;have HP0:=zH hP;have HPO:=zH (Ps.PO_eq ts o k);obtain⟨b,c,hne,hbl,q0,q1,q2,f1,f2,a0,a1,a2,v,a3⟩:=hP.cells;have hmx:k+1≤1000000∧o≤24:=by obtain⟨A,c,hb,hl,ho,hn,_⟩:=hP;omega
 have HE:=zH hE;have HO:=zH hO;have HL:=zH hlast;clear hP hE hO hlast;have i0:(0:Int)≤(k:Int):=by omega
 have i1:(k:Int)<(ts.length:Int):=by omega
 by_cases h2:Ps.kindAt ts k=2
 ·
  have t2:=bT (show ((Ps.kindAt ts k:Nat):Int)=2 by omega);have hnx:k+1<ts.length:=Ps.next_in HL.out hk (by rw[h2];decide);have H2:=zH h2;clear h2;generalize Ps.kindAt ts k=K at *;generalize Ps.textAt ts k=T at *;generalize Ps.numAt ts k=M at *;go_enter Tryz.func112,Tryz.ntmps112;go_wp2;go_region
  all_goals
   go_wp2;refine bodyPost_ret (v:=.tuple #[.agg #[.int .i64 1,.int .i64 (M:Int),.string ⟨#[]⟩,.slice none 0 0],.int .i64 0]) (by simp[results,Tryz.results112,go_sem]) rfl ?_;rw[HPO.out,if_pos H2.out];exact ziv HP0.out hnx 1 (M:Int) [] _ _ _
 ·
  have hn2:=bF (show ((Ps.kindAt ts k:Nat):Int)≠2 by omega);by_cases h1:Ps.kindAt ts k=1
  ·
   have t1:=bT (show ((Ps.kindAt ts k:Nat):Int)=1 by omega);have hnx:k+1<ts.length:=Ps.next_in HL.out hk (by rw[h1];decide);have H2:=zH h2;have H1:=zH h1;clear h2 h1;generalize Ps.kindAt ts k=K at *;generalize Ps.textAt ts k=T at *;generalize Ps.numAt ts k=M at *;go_enter Tryz.func112,Tryz.ntmps112;go_wp2;go_region
   all_goals
    go_wp2;refine bodyPost_ret (v:=.tuple #[.agg #[.int .i64 2,.int .i64 0,.string ⟨T.toArray⟩,.slice none 0 0],.int .i64 0]) (by simp[results,Tryz.results112,go_sem]) rfl ?_;rw[HPO.out,if_neg H2.out,if_pos H1.out];exact ziv HP0.out hnx 2 0 T _ _ _
  ·
   have hn1:=bF (show ((Ps.kindAt ts k:Nat):Int)≠1 by omega);have HPO2:=zH HPO.out;rw[if_neg h2,if_neg h1] at HPO2;clear h2 h1 HPO;generalize Ps.kindAt ts k=K at *;generalize Ps.textAt ts k=T at *;generalize Ps.numAt ts k=M at *;go_enter Tryz.func112,Tryz.ntmps112;go_wp2;go_region;go_wp2_with fail;refine(zdn _ g ts k o ((HP0.out.alloc _).alloc _).drew).mono ?_;rintro e w2 ⟨rfl,hb2⟩;obtain⟨hP2,hZ2,hG2,hs2⟩:=op_facts HP0.out hb2;clear hb2 hgl hbl q0 q1 q2 f1 f2 a0 a1 a2 a3 hne i0 i1 hn1 hn2;have HP2:=zH hP2;have HG2:=zH hG2;have hgl:=HP0.out.lt;obtain⟨r0,r1,r2,r3,z0,z1,z2,z3,-⟩:=blk4 hZ2;obtain⟨tb,tc,hne,hbl,p0,p1,p2,g1,g2,-,-,-,-⟩:=hP2.cells;have hn0:g≠w.heap.size:=by omega
   have HZ2:=zH hZ2;clear hP2 hG2 hZ2 p0;go_wp2_with fail;refine(zge (Ps.sgn ts k) w2 HP2.out.tab).mono ?_;rintro e w3 ⟨rfl,rfl⟩;by_cases hu:Ps.uop (Ps.sgn ts k)=0
   ·
    have tu:=bT (show ((Ps.uop (Ps.sgn ts k):Nat):Int)=0 by omega);have HU:=zH hu;clear hu;go_wp2_with fail;refine(zdn _ g ts k o HP2.out).mono ?_;rintro e w3 ⟨rfl,hb3⟩;have hP3:=HP2.out.later hb3;have hZ3:=(hb3.block _ (lt_of_block HZ2.out)).trans HZ2.out;have hG3:w.grownBy w3 (some g):=za0 HG2.out ⟨hb3.os,hb3.tape,hb3.output,hb3.size,fun b hb _=>hb3.block b hb⟩;have hs3:w.heap.size+2≤w3.heap.size:=by have:=hb3.size;omega
    have HP3:=zH hP3;have HG3:=zH hG3;have HZ3:=zH hZ3;clear p1 p2 g1 g2 r0 r1 r2 r3 z0 z1 z2 z3 hbl hne hs2 HP2 HG2 HZ2 hb3;obtain⟨r0,r1,r2,r3,z0,z1,z2,z3,-⟩:=blk4 hZ3;obtain⟨tb,tc,hne,hbl,p0,p1,p2,g1,g2,-,-,-,-⟩:=hP3.cells;clear hP3 hG3 hZ3 p0;by_cases h40:Ps.sgn ts k=[40]
    ·
     have t40:=zcA h40;have H40:=zH h40;have hnx:k+1<ts.length:=Ps.next_in HL.out hk (by rw[Ps.sgn_kind (by rw[h40];decide)];decide);clear h40;by_cases h24:o=24
     ·
      have t24:=bT (show ((o:Nat):Int)=24 by omega);have H24:=zH h24;clear h24;go_wp2_with fail;refine bodyPost_ret (v:=.tuple #[.agg #[.int .i64 0,.int .i64 0,.string ⟨#[]⟩,.slice none 0 0],.int .i64 3]) (by simp[results,Tryz.results112,go_sem,r0,r1,r2,r3]) rfl ?_;rw[HPO2.out,if_neg (fun h=>h.2 H40.out),if_pos H24.out];exact zdo (R:=.bad k 3) (f:=⟨0,0,[],none,0,0⟩) hgl (lR _) HP3.out HG3.out (Nat.le_of_eq (zaj w3 w.heap.size _ _ _ _).symm) rfl rfl rfl (fun b _ hne=>zai w3 w.heap.size _ _ _ _ b hne) (ExM.leaf _ _ _ _ _ _ _)
     ·
      have t24:=bF (show ((o:Nat):Int)≠24 by omega);have ho:o<24:=by omega
      have H24:=zH h24;clear h24;go_wp2_with fail;refine(zde (zbz w3 g k o) g ts (k+1) (o+1) HL.out (zef HP3.out hnx ho) (HE.out hnx ho)).mono ?_;rintro e w4 ⟨f,rfl,hE4,hP4,hG4⟩;unfold EF.val;obtain⟨hZ4,hB4⟩:=ziw HZ3.out (by omega) hgl hG4;obtain⟨r0',r1',r2',r3',z0',z1',z2',z3',hl1⟩:=blk4 hZ4;obtain⟨b0,b1,b2,b3,y0,y1,y2,y3,hl2⟩:=blk4 hB4;obtain⟨tb',tc',hne',hbl',p0',p1',p2',g1',g2',-,-,-,-⟩:=hP4.cells;rw[show (((o+1:Nat):Nat):Int)=(o:Int)+1 by omega] at p2';have HX:=zH (fun u0 u1 u2 u3 v0 v1 v2 v3=>zim (k:=k) hgl (by omega) HG3.out hG4 hE4 hP4 (by omega) u0 u1 u2 u3 v0 v1 v2 v3);have hnn:w3.heap.size≠w.heap.size:=by omega
      have hnm:g≠w3.heap.size:=by omega
      clear hZ4 hB4 hE4 hP4 hG4 p0' p1' g1' p1 p2 g1 g2 r0 r1 r2 r3 z0 z1 z2 z3 hbl hbl' hne hne';generalize ((Ps.PE ts 1 (o+1) (k+1)).bind fun x k'=>if Ps.sgn ts k'=[41] then Ps.R.ok x (k'+1) else Ps.R.bad k' 4)=R at *;go_wp2_with fail;refine bodyPost_ret (v:=.tuple #[.agg #[.int .i64 f.op,.int .i64 f.num,.string ⟨f.name.toArray⟩,.slice f.A f.n f.c],.int .i64 (R.err:Int)]) (by simp[results,Tryz.results112,go_sem,r0',r1',r2',r3']) rfl ?_;rw[HPO2.out,if_neg (fun h=>h.2 H40.out),if_neg H24.out,if_pos HU.out];exact HX.out _ _ _ _ _ _ _ _
    ·
     have t40:=zcB h40;have H40:=zH h40;clear h40;go_wp2_with fail;refine bodyPost_ret (v:=.tuple #[.agg #[.int .i64 0,.int .i64 0,.string ⟨#[]⟩,.slice none 0 0],.int .i64 4]) (by simp[results,Tryz.results112,go_sem,r0,r1,r2,r3]) rfl ?_;rw[HPO2.out,if_pos ⟨HU.out,H40.out⟩];exact zdo (R:=.bad k 4) (f:=⟨0,0,[],none,0,0⟩) hgl (lR _) HP3.out HG3.out (Nat.le_of_eq (zaj w3 w.heap.size _ _ _ _).symm) rfl rfl rfl (fun b _ hne=>zai w3 w.heap.size _ _ _ _ b hne) (ExM.leaf _ _ _ _ _ _ _)
   ·
    have tu:=bF (show ((Ps.uop (Ps.sgn ts k):Nat):Int)≠0 by omega);have HU:=zH hu;have hsg:Ps.sgn ts k≠[]:=fun e=>hu (by rw[e];exact Ps.uop_nil);have hnx:k+1<ts.length:=Ps.next_in HL.out hk (by rw[Ps.sgn_kind hsg];decide);clear hu hsg;by_cases h24:o=24
    ·
     have t24:=bT (show ((o:Nat):Int)=24 by omega);have H24:=zH h24;clear h24;go_wp2_with fail;refine bodyPost_ret (v:=.tuple #[.agg #[.int .i64 0,.int .i64 0,.string ⟨#[]⟩,.slice none 0 0],.int .i64 3]) (by simp[results,Tryz.results112,go_sem,r0,r1,r2,r3]) rfl ?_;rw[HPO2.out,if_neg (fun h=>HU.out h.1),if_pos H24.out];exact zdo (R:=.bad k 3) (f:=⟨0,0,[],none,0,0⟩) hgl (lR _) HP2.out HG2.out (Nat.le_of_eq (zaj w2 w.heap.size _ _ _ _).symm) rfl rfl rfl (fun b _ hne=>zai w2 w.heap.size _ _ _ _ b hne) (ExM.leaf _ _ _ _ _ _ _)
    ·
     have t24:=bF (show ((o:Nat):Int)≠24 by omega);have ho:o<24:=by omega
     have H24:=zH h24;clear h24;go_wp2_with fail;refine(zfo (zbz w2 g k o) g ts (k+1) (o+1) (Ps.uop (Ps.sgn ts k)) (zef HP2.out hnx ho) (HO.out hnx ho)).mono ?_;rintro e w4 ⟨f,rfl,hE4,hP4,hG4⟩;unfold EF.val;obtain⟨hZ4,hB4⟩:=ziw HZ2.out (by omega) hgl hG4;obtain⟨r0',r1',r2',r3',z0',z1',z2',z3',hl1⟩:=blk4 hZ4;obtain⟨b0,b1,b2,b3,y0,y1,y2,y3,hl2⟩:=blk4 hB4;obtain⟨tb',tc',hne',hbl',p0',p1',p2',g1',g2',-,-,-,-⟩:=hP4.cells;rw[show (((o+1:Nat):Nat):Int)=(o:Int)+1 by omega] at p2';have HX:=zH (fun u0 u1 u2 u3 v0 v1 v2 v3=>zim (k:=k) hgl (by omega) HG2.out hG4 hE4 hP4 (by omega) u0 u1 u2 u3 v0 v1 v2 v3);have hnn:w2.heap.size≠w.heap.size:=by omega
     have hnm:g≠w2.heap.size:=by omega
     clear hZ4 hB4 hE4 hP4 hG4 p0' p1' g1' p1 p2 g1 g2 r0 r1 r2 r3 z0 z1 z2 z3 hbl hbl' hne hne';generalize ((Ps.PO ts (o+1) (k+1)).bind fun x k'=>Ps.R.ok (Ex.mk (↑(Ps.uop (Ps.sgn ts k))) 0 [] [x]) k')=R at *;go_wp2_with fail;refine bodyPost_ret (v:=.tuple #[.agg #[.int .i64 f.op,.int .i64 f.num,.string ⟨f.name.toArray⟩,.slice f.A f.n f.c],.int .i64 (R.err:Int)]) (by simp[results,Tryz.results112,go_sem,r0',r1',r2',r3']) rfl ?_;rw[HPO2.out,if_neg (fun h=>HU.out h.1),if_neg H24.out,if_neg HU.out];exact HX.out _ _ _ _ _ _ _ _
def zbE (w2:World) (g m:Nat):World:=(w2.setCell ⟨g,1,none⟩ (.int .i64 ((m:Int)+1))).alloc (.cells #[.int .i64 0,.int .i64 0,.string ⟨#[]⟩,.slice none 0 0] 68)
theorem zdM (w2:World) (g m b:Nat) (hb:b<w2.heap.size) (hne:b≠g):(zbE w2 g m).heap[b]?=w2.heap[b]?:=by
 unfold zbE;rw[Below.heap_alloc _ _ b (by rw[zcO];exact hb),Below.heap_setCell _ _ _ b (by simpa using hne)]
theorem zcX (w2:World) (g m:Nat):(zbE w2 g m).heap.size=w2.heap.size+1:=by
 unfold zbE;simp[World.setCell]
theorem zhG (w2:World) (g m:Nat):(zbE w2 g m).os=w2.os∧(zbE w2 g m).tape=w2.tape∧(zbE w2 g m).output=w2.output:=⟨rfl,rfl,rfl⟩
theorem zgF {w2:World} {g:Nat} {ts:List Tk.Tok} {m o:Nat} (h:Psr w2 g ts m o) (hk:m+1<ts.length):Psr (zbE w2 g m) g ts (m+1) o:=(h.at (m+1) hk).alloc _
theorem zgG (w2:World) (g m:Nat):(zbE w2 g m).heap[w2.heap.size]?=some (.cells #[.int .i64 0,.int .i64 0,.string ⟨#[]⟩,.slice none 0 0] 68 (0,0)):=by
 have:=heap_alloc_new (w2.setCell ⟨g,1,none⟩ (.int .i64 ((m:Int)+1))) (.cells #[.int .i64 0,.int .i64 0,.string ⟨#[]⟩,.slice none 0 0] 68);rw[zcO] at this;exact this
def LS (w:World) (lb:Nat) (b:Nat):Prop:=w.heap.size<b∧b≠lb
def Blk (w:World) (b:Nat) (f:EF):Prop:=w.heap[b]?=some (.cells #[.int .i64 f.op,.int .i64 f.num,.string ⟨f.name.toArray⟩,.slice f.A f.n f.c] 68 (0,0))
def Blk0 (w:World) (b:Nat):Prop:=w.heap[b]?=some (.cells #[.int .i64 0,.int .i64 0,.string ⟨#[]⟩,.slice none 0 0] 68 (0,0))
set_option maxHeartbeats 2000000 in
theorem ex_round {w wr w2 w4:World} {g lb m o:Nat} {ts:List Tk.Tok} {at_:Nat} {x y:Ex} {f fr:EF} {op:Nat} (hgr:g<w.heap.size) (hlb:w.heap.size<lb) (hL:Blk wr lb f) (hZ:Blk0 wr w.heap.size) (hGw:w.grownBy wr (some g)) (hb2:Below wr.heap.size wr w2)
  (hG:(zbE w2 g m).grownBy w4 (some g)) (hP:Psr w4 g ts at_ o) (hx:ExM wr (LS w lb) x f) (hy:ExM w4 ((zbE w2 g m).heap.size≤·) y fr) (u0 u1 u2 u3:Value) (W:World) (hWd:W=(set4 (set4 w4 w2.heap.size u0 u1 u2 u3) lb (.int .i64 (op:Int)) (.int .i64 0) (.string ⟨#[]⟩) (.slice (some ⟨w4.heap.size,0,none⟩) 2 2)).alloc (.cells #[.int .i64 f.op,.int .i64 f.num,.string ⟨f.name.toArray⟩,.slice f.A f.n f.c,.int .i64 fr.op,.int .i64 fr.num,.string ⟨fr.name.toArray⟩,.slice fr.A fr.n fr.c] 68)) :
  Psr W g ts at_ o∧Blk W lb ⟨op,0,[],some ⟨w4.heap.size,0,none⟩,2,2⟩∧Blk0 W w.heap.size∧w.grownBy W (some g)∧ExM W (LS w lb) (.mk op 0 [] [x,y]) ⟨op,0,[],some ⟨w4.heap.size,0,none⟩,2,2⟩:=by
 have hlw:lb<wr.heap.size:=lt_of_block hL;have hs2:=hb2.size;have hsX:=zcX w2 g m;have hs4:=hG.size;generalize hA:set4 (set4 w4 w2.heap.size u0 u1 u2 u3) lb (.int .i64 (op:Int)) (.int .i64 0) (.string ⟨#[]⟩) (.slice (some ⟨w4.heap.size,0,none⟩) 2 2)=A at hWd;have hsz:A.heap.size=w4.heap.size:=by rw[←hA,zaj,zaj]
 have hAk:∀b,b≠w2.heap.size→b≠lb→A.heap[b]?=w4.heap[b]?:=by
  intro b h1 h2;rw[←hA,zai _ lb _ _ _ _ b h2,zai _ _ _ _ _ _ b h1]
 have h4r:∀b,b<wr.heap.size→b≠g→w4.heap[b]?=wr.heap[b]?:=fun b hb hne =>
  (hG.block b (by omega) (fun e=>hne (by injection e))).trans ((zdM w2 g m b (by omega) hne).trans (hb2.block b hb))
 have hAl:Blk A lb ⟨op,0,[],some ⟨w4.heap.size,0,none⟩,2,2⟩:=by
  have h4:(set4 w4 w2.heap.size u0 u1 u2 u3).heap[lb]?=some (.cells #[.int .i64 f.op,.int .i64 f.num,.string ⟨f.name.toArray⟩,.slice f.A f.n f.c] 68 (0,0)) :=
   (zai w4 w2.heap.size u0 u1 u2 u3 lb (by omega)).trans ((h4r lb hlw (by omega)).trans hL)
  rw[←hA];exact zgj h4 _ _ _ _
 have hAo:A.os=w4.os∧A.tape=w4.tape∧A.output=w4.output:=by
  obtain⟨a1,a2,a3⟩:=zdw w4 w2.heap.size u0 u1 u2 u3;obtain⟨b1,b2,b3⟩:=zdw (set4 w4 w2.heap.size u0 u1 u2 u3) lb (.int .i64 (op:Int)) (.int .i64 0) (.string ⟨#[]⟩) (.slice (some ⟨w4.heap.size,0,none⟩) 2 2);rw[←hA];exact⟨b1.trans a1,b2.trans a2,b3.trans a3⟩
 clear hA;have hW:∀b,b<w4.heap.size→b≠w2.heap.size→b≠lb→W.heap[b]?=w4.heap[b]?:=by
  intro b hb h1 h2;rw[hWd,Below.heap_alloc _ _ b (by rw[hsz];exact hb),hAk b h1 h2]
 have hWs:W.heap.size=w4.heap.size+1:=by rw[hWd];simp[hsz]
 have e:∀o',W.cell? ⟨w4.heap.size,o',none⟩=[Value.int .i64 f.op,.int .i64 f.num,.string ⟨f.name.toArray⟩,.slice f.A f.n f.c,.int .i64 fr.op,.int .i64 fr.num,.string ⟨fr.name.toArray⟩,.slice fr.A fr.n fr.c][o']?:=by
  intro o';rw[hWd,←hsz,World.cell?_alloc_mark];simp
 have hWl:W.heap[lb]?=A.heap[lb]?:=by rw[hWd,Below.heap_alloc _ _ lb (by rw[hsz];omega)]
 have hWo:W.os=w4.os∧W.tape=w4.tape∧W.output=w4.output:=by rw[hWd];exact hAo
 clear hWd;have hbw:=hGw.size;refine⟨hP.keep fun b hb=>hW b (by have:=hP.lt;omega) (by omega) (by omega),hWl.trans hAl,(hW _ (by omega) (by omega) (by omega)).trans ((h4r _ (by omega) (by omega)).trans hZ),?_,?_⟩
 ·
  obtain⟨o1,o2,o3⟩:=zhG w2 g m;refine⟨((hWo.1.trans hG.os).trans o1).trans (hb2.os.trans hGw.os),((hWo.2.1.trans hG.tape).trans o2).trans (hb2.tape.trans hGw.tape),((hWo.2.2.trans hG.output).trans o3).trans (hb2.output.trans hGw.output),by omega,fun b hb hne=>?_⟩;exact(hW b (by omega) (by omega) (by omega)).trans ((h4r b (by omega) (fun e=>hne (by rw[e]))).trans (hGw.block b hb hne))
 ·
  refine ExM.two _ _ _ w4.heap.size 0 2 ⟨by omega,by omega⟩ ⟨(e 0).trans rfl,(e 1).trans rfl,(e 2).trans rfl,(e 3).trans rfl⟩ ⟨(e 4).trans rfl,(e 5).trans rfl,(e 6).trans rfl,(e 7).trans rfl⟩ ?_ ?_
  ·
   exact hx.keep fun b hb hlt=>(hW b (by omega) (by omega) hb.2).trans (h4r b hlt (by have:=hb.1;omega))
  ·
   exact(hy.keep fun b hb hlt=>hW b hlt (by omega) (by omega)).more fun b hb=>⟨by omega,by omega⟩
theorem ExM.inside {w:World} {S:Nat→Prop} {E:Ex} {f:EF} (h:ExM w S E f):ExM w (fun b=>S b∧b<w.heap.size) E f:=by
 induction h with
 | mk op num name args A c F hc hs ih =>
  refine .mk op num name args A c F (fun i hi=>?_) ih;obtain⟨b,off,e,hb,hat⟩:=hc i hi;exact⟨b,off,e,⟨hb,hat.lt⟩,hat⟩
def atOf (w:World) (g:Nat):Nat:=match w.cell? ⟨g,1,none⟩ with
 | some (.int _ n)=>n.toNat
 | _=>0
theorem Psr.atOf {w:World} {g:Nat} {ts:List Tk.Tok} {k o:Nat} (h:Psr w g ts k o):atOf w g=k:=by
 obtain⟨b,c,-,-,-,q1,-⟩:=h.cells;unfold Go.Proofs.YtlnbmmgbfgmboaaGreatDoor.atOf;rw[q1];simp
def ExRel (w:World) (g lb:Nat) (ts:List Tk.Tok) (least o k:Nat) (er:Value) (wr:World):Prop :=
 ∃(R:Ps.R) (f:EF),er=.int .i64 (R.err:Int)∧R.bind (fun x m=>Ps.PC ts least o x m)=Ps.PE ts least o k∧(∀m e,R=.bad m e→e=3∨e=4)∧Psr wr g ts R.at_ o∧Blk wr lb f∧Blk0 wr w.heap.size∧w.grownBy wr (some g)∧(∀x m,R=.ok x m→ExM wr (LS w lb) x f∧k<m)
theorem err_bind (R:Ps.R) (h:Ex→Ex):(R.bind fun r k'=>.ok (h r) k').err=R.err∧(R.bind fun r k'=>.ok (h r) k').at_=R.at_:=by cases R<;>exact⟨rfl,rfl⟩
theorem ex_next {w wr w2 w4:World} {g lb m o least k:Nat} {ts:List Tk.Tok} {R4:Ps.R} {x:Ex} {f fr:EF} {op:Nat} (hgr:g<w.heap.size) (hlb:w.heap.size<lb) (hL:Blk wr lb f) (hZ:Blk0 wr w.heap.size) (hGw:w.grownBy wr (some g)) (hb2:Below wr.heap.size wr w2)
  (hG:(zbE w2 g m).grownBy w4 (some g)) (hP:Psr w4 g ts R4.at_ o) (hx:ExM wr (LS w lb) x f) (hy:ExM w4 ((zbE w2 g m).heap.size≤·) R4.ex fr)
  (hF:Ps.PC ts least o x m=R4.bind fun r k'=>Ps.PC ts least o (.mk op 0 [] [x,r]) k') (hB:Ps.PC ts least o x m=Ps.PE ts least o k) (herr:∀a e,R4=.bad a e→e=3∨e=4) (hmv:∀y a,R4=.ok y a→m+1<a) (hkm:k<m) (u0 u1 u2 u3:Value)
  (W:World) (hWd:W=(set4 (set4 w4 w2.heap.size u0 u1 u2 u3) lb (.int .i64 (op:Int)) (.int .i64 0) (.string ⟨#[]⟩) (.slice (some ⟨w4.heap.size,0,none⟩) 2 2)).alloc (.cells #[.int .i64 f.op,.int .i64 f.num,.string ⟨f.name.toArray⟩,.slice f.A f.n f.c,.int .i64 fr.op,.int .i64 fr.num,.string ⟨fr.name.toArray⟩,.slice fr.A fr.n fr.c] 68)) :
  ExRel w g lb ts least o k (.int .i64 (R4.err:Int)) W∧(if ((R4.err:Nat):Int)=0 then ts.length-atOf W g+1 else 0)<(if (0:Int)=0 then ts.length-m+1 else 0):=by
 obtain⟨h1,h2,h3,h4,h5⟩:=ex_round (op:=op) hgr hlb hL hZ hGw hb2 hG hP hx hy u0 u1 u2 u3 W hWd;obtain⟨e1,e2⟩:=err_bind R4 fun r=>.mk op 0 [] [x,r];refine⟨⟨R4.bind fun r k'=>.ok (.mk op 0 [] [x,r]) k',_,by rw[e1],?_,?_,by rw[e2];exact h1,h2,h3,h4,?_⟩,?_⟩
 ·
  rw[Ps.bind_assoc,←hB,hF];rfl
 ·
  intro a e he;cases R4 with
  | bad a' e'=>exact herr a e (by injection he with i1 i2;rw[i1,i2])
  | ok y a'=>cases he
 ·
  intro y a he;cases R4 with
  | bad a' e'=>cases he
  | ok z a' =>
   injection he with i1 i2;subst i1 i2;exact⟨h5,by have:=hmv z a' rfl;omega⟩
 ·
  have hat:=h1.atOf;have hin:=h1.inT;rw[hat];rw[if_pos (rfl:(0:Int)=0)];split
  ·
   rename_i h0;cases R4 with
   | bad a' e' =>
    have:=herr a' e' rfl;simp[Ps.R.err] at h0;omega
   | ok z a' =>
    have:=hmv z a' rfl;simp only[Ps.R.at_] at *;omega
  ·
   omega
set_option maxRecDepth 100000 in
set_option maxHeartbeats 4000000 in
theorem zfh (w:World) (g:Nat) (ts:List Tk.Tok) (least k o:Nat) (hlast:Ps.kindAt ts (ts.length-1)=5) (hl1:1≤least) (_hl6:least≤6) (hP:Psr w g ts k o)
  (hO:∀w',Psr w' g ts k o→Calls Tryz.prog 112 #[.pointer (some ⟨g,0,none⟩)] w' (zbt w' g ts o (Ps.PO ts o k)))
  (hE:∀l k':Nat,1≤l→l≤6→k<k'→k'<ts.length→∀w',Psr w' g ts k' o→Calls Tryz.prog 111 #[.pointer (some ⟨g,0,none⟩),.int .i64 (l:Int)] w' (zbt w' g ts o (Ps.PE ts l o k'))) :
  Calls Tryz.prog 111 #[.pointer (some ⟨g,0,none⟩),.int .i64 (least:Int)] w (zbt w g ts o (Ps.PE ts least o k)):=by
 have HP:=zH (hP.alloc (.cells #[.int .i64 0,.int .i64 0,.string ⟨#[]⟩,.slice none 0 0] 68));have hgw:=hP.lt;have hmx:ts.length≤1000000:=by obtain⟨A,c,hb,hl,ho,hn,_⟩:=hP;exact hn
 have HO:=zH hO;have HE:=zH hE;have HL:=zH hlast;clear hP hO hE hlast;go_enter Tryz.func111,Tryz.ntmps111;go_wp2_with fail;refine(HO.out _ HP.out).mono ?_;rintro e w1 ⟨f,rfl,hE1,hP1,hG1⟩;unfold EF.val;have hz1:w.heap.size<w1.heap.size:=by have:=hG1.size;simp at this;omega
 have HR0:Hid (ExRel w g w1.heap.size ts least o k (.int .i64 ((Ps.PO ts o k).err:Int)) (w1.alloc (.cells #[.int .i64 f.op,.int .i64 f.num,.string ⟨f.name.toArray⟩,.slice f.A f.n f.c] 68))):=by
  refine⟨Ps.PO ts o k,f,rfl,(Ps.PE_eq ts least o k hl1).symm,fun m e he=>Ps.PO_err he,hP1.alloc _,heap_alloc_new w1 _,?_,?_,fun x m hx=>⟨?_,Ps.PO_moves hx⟩⟩
  ·
   exact(Below.heap_alloc w1 _ _ hz1).trans ((hG1.block _ (by simp) (fun e=>by injection e with e;omega)).trans (heap_alloc_new w _))
  ·
   have h:=za6 hG1;exact⟨h.os,h.tape,h.output,by have:=h.size;simp;omega,fun b hb hne=>(Below.heap_alloc w1 _ b (by omega)).trans (h.block b hb hne)⟩
  ·
   rw[hx] at hE1;exact(hE1.inside.keep fun b hb hlt=>Below.heap_alloc w1 _ b hlt).more fun b hb=>⟨by have:=hb.1;simp at this;omega,by have:=hb.2;omega⟩
 clear hE1 hP1 hG1;generalize (Ps.PO ts o k).err=E0 at *;go_wp2_with fail;have hlbw:w.heap.size<w1.heap.size:=hz1;generalize hlbd:w1.heap.size=lb at *;clear hlbd
 go_loopw [7] (fun er wr=>Hid (ExRel w g lb ts least o k er wr)) (fun er wr=>if intOf er=0 then ts.length-atOf wr g+1 else 0)
 case atStart=>exact HR0
 case round =>
  obtain⟨R,f',rfl,hB,hbad,hPr,hLb,hZb,hGr,hok⟩:=hrel.out;clear hrel HR0 HO HP;have HB:=zH hB;have HPr:=zH hPr;have HLb:=zH hLb;have HZb:=zH hZb;have HGr:=zH hGr;cases R with
  | bad m e0 =>
   have he:=hbad m e0 rfl;obtain⟨r0,r1,r2,r3,z0,z1,z2,z3,-⟩:=blk4 hZb;have t0:=bF (show ((e0:Nat):Int)≠0 by omega);clear hB hbad hPr hLb hZb hGr hok;dsimp only[Ps.R.err];go_wp2_with fail;refine bodyPost_ret (v:=.tuple #[.agg #[.int .i64 0,.int .i64 0,.string ⟨#[]⟩,.slice none 0 0],.int .i64 (e0:Int)]) (by simp[results,Tryz.results111,go_sem,r0,r1,r2,r3]) rfl ?_;rw[←HB.out];exact zdo (R:=.bad m e0) (f:=⟨0,0,[],none,0,0⟩) hgw (lR _) HPr.out HGr.out (Nat.le_of_eq (zaj wr w.heap.size _ _ _ _).symm) rfl rfl rfl (fun b _ hne=>zai wr w.heap.size _ _ _ _ b hne) (ExM.leaf _ _ _ _ _ _ _)
  | ok x m =>
   have HPr:Hid (Psr wr g ts m o):=hPr;obtain⟨hx,hkm⟩:=hok x m rfl;have HX:=zH hx;have hmT:m<ts.length:=hPr.inT;clear hB hbad hPr hLb hZb hGr hok hx;dsimp only[Ps.R.err];go_wp2_with fail;refine(zdn wr g ts m o HPr.out).mono ?_;rintro e w2 ⟨rfl,hb2⟩;have hP2:=HPr.out.later hb2;have hL2:Blk w2 lb f':=(hb2.block _ (lt_of_block HLb.out)).trans HLb.out;have hZ2:Blk0 w2 w.heap.size:=(hb2.block _ (lt_of_block HZb.out)).trans HZb.out;have hG2:w.grownBy w2 (some g):=za0 HGr.out ⟨hb2.os,hb2.tape,hb2.output,hb2.size,fun b hb _=>hb2.block b hb⟩;have HP2:=zH hP2;have HL2:=zH hL2;have HZ2:=zH hZ2;have HG2:=zH hG2;have HB2:=zH hb2;obtain⟨r0,r1,r2,r3,z0,z1,z2,z3,hrl⟩:=blk4 hZ2;obtain⟨l0,l1,l2,l3,-,-,-,-,hll⟩:=blk4 hL2;obtain⟨tb,tc,hne,hbl,p0,p1,p2,g1,g2,-,-,-,-⟩:=hP2.cells;have hn0:g≠w.heap.size:=by omega
   have hn1:g≠lb:=by omega
   have hn2:lb≠w.heap.size:=by omega
   clear hP2 hL2 hZ2 hG2 hb2 p0 p2 g2 hbl hne;go_wp2_with fail;refine(zga (Ps.sgn ts m) w2 HP2.out.tab).mono ?_;rintro e w3 ⟨rfl,rfl⟩;go_wp2_with fail;refine(zdj _ w2).mono ?_;rintro e w3 ⟨rfl,rfl⟩;by_cases hs:Ps.strD (Ps.bop (Ps.sgn ts m))<least
   ·
    have d1:decide (Ps.strD (Ps.bop (Ps.sgn ts m))<least)=true:=by simp;omega
    have HF:=zH (Ps.PC_stop ts least o x m hs);clear hs;go_wp2_with fail;refine bodyPost_ret (v:=.tuple #[.agg #[.int .i64 f'.op,.int .i64 f'.num,.string ⟨f'.name.toArray⟩,.slice f'.A f'.n f'.c],.int .i64 0]) (by simp[results,Tryz.results111,go_sem,r0,r1,r2,r3]) rfl ?_;rw[←HB.out];show zbt w g ts o (Ps.PC ts least o x m) _ _;rw[HF.out];refine zdo (R:=.ok x m) (f:=f') hgw (lR _) HP2.out HG2.out (Nat.le_of_eq (zaj w2 w.heap.size _ _ _ _).symm) rfl rfl rfl (fun b _ hne=>zai w2 w.heap.size _ _ _ _ b hne) ?_;exact(HX.out.keep fun b hb hlt=>(zai w2 w.heap.size _ _ _ _ b (by have:=hb.1;omega)).trans (HB2.out.block b hlt)).more fun b hb=>by have:=hb.1;omega
   ·
    have d1:decide (Ps.strD (Ps.bop (Ps.sgn ts m))<least)=false:=decide_eq_false hs;have HF:=zH (Ps.PC_go ts least o x m hl1 hs);have hnx:m+1<ts.length:=Ps.next_in HL.out hmT (by rw[Ps.sgn_kind (Ps.bop_sgn hl1 hs)];decide);have hs5:=Ps.bop_str (Ps.sgn ts m);clear hs;generalize hSd:Ps.strD (Ps.bop (Ps.sgn ts m))=sd at *;have HSd:=zH hSd;clear hSd;go_wp2_with fail;refine(zdj _ _).mono ?_;rintro e w3 ⟨rfl,rfl⟩;rw[HSd.out];go_wp2_with fail;refine(HE.out (sd+1) (m+1) (by omega) (by omega) (by omega) hnx (zbE w2 g m) (zgF HP2.out hnx)).mono ?_;rintro e w4 ⟨fr,rfl,hE4,hP4,hG4⟩;unfold EF.val;have hR4:w4.heap[w2.heap.size]?=some (.cells #[.int .i64 0,.int .i64 0,.string ⟨#[]⟩,.slice none 0 0] 68 (0,0)):=(hG4.block _ (by rw[zcX];omega) (fun e=>by injection e with e;omega)).trans (zgG w2 g m);have hL4:Blk w4 lb f':=(hG4.block _ (by rw[zcX];omega) (fun e=>by injection e with e;omega)).trans ((zdM w2 g m lb hll (by omega)).trans HL2.out);obtain⟨c0,c1,c2,c3,y0,y1,y2,y3,hcl⟩:=blk4 hR4;obtain⟨k0,k1,k2,k3,x0,x1,x2,x3,hkl⟩:=blk4 hL4;have HE4:=zH hE4;have HP4:=zH hP4;have HG4:=zH hG4;have hn3:lb≠w2.heap.size:=by omega
    have hRerr:∀a e,Ps.PE ts (sd+1) o (m+1)=.bad a e→e=3∨e=4:=fun a e h=>Ps.PE_err (by omega) h;have HRerr:=zH hRerr;have HRmv:Hid (∀y a,Ps.PE ts (sd+1) o (m+1)=.ok y a→m+1<a):=fun y a h=>Ps.PE_moves h;clear hR4 hL4 hE4 hP4 hG4 hRerr p1 g1 r0 r1 r2 r3 z0 z1 z2 z3 l0 l1 l2 l3;generalize Ps.PE ts (sd+1) o (m+1)=R4 at *;have HW:=zH (fun u0 u1 u2 u3 W hW=>ex_next (least:=least) (k:=k) (x:=x) hgw hlbw HLb.out HZb.out HGr.out HB2.out HG4.out HP4.out HX.out HE4.out HF.out HB.out HRerr.out HRmv.out hkm u0 u1 u2 u3 W hW);obtain⟨E4,hE4e⟩:∃n,n=R4.err:=⟨_,rfl⟩;rw[←hE4e];have HE4e:=zH hE4e;clear hE4e;go_wp2_with fail;go_roundw
    case rel =>
     have h:=(HW.out (.int .i64 fr.op) (.int .i64 fr.num) (.string ⟨fr.name.toArray⟩) (.slice fr.A fr.n fr.c) _ rfl).1;rw[←HE4e.out] at h;exact h
    case measure =>
     have h:=(HW.out (.int .i64 fr.op) (.int .i64 fr.num) (.string ⟨fr.name.toArray⟩) (.slice fr.A fr.n fr.c) _ rfl).2;rw[←HE4e.out] at h;have h0:=HPr.out.atOf;simp only[intOf,h0];exact h
theorem zgt (g:Nat) (ts:List Tk.Tok) (hlast:Ps.kindAt ts (ts.length-1)=5) (N:Nat):∀(k o:Nat) (w:World),ts.length-k<N→Psr w g ts k o →
  (∀least:Nat,1≤least→least≤6→Calls Tryz.prog 111 #[.pointer (some ⟨g,0,none⟩),.int .i64 (least:Int)] w (zbt w g ts o (Ps.PE ts least o k))) ∧
  Calls Tryz.prog 112 #[.pointer (some ⟨g,0,none⟩)] w (zbt w g ts o (Ps.PO ts o k)):=by
 induction N with
 | zero=>intro k o w h;omega
 | succ N ih =>
  intro k o w hN hP;have hO:∀w',Psr w' g ts k o→Calls Tryz.prog 112 #[.pointer (some ⟨g,0,none⟩)] w' (zbt w' g ts o (Ps.PO ts o k)):=fun w' hP' =>
   zhw w' g ts k o hlast hP' (fun hk _ w'' hP''=>(ih (k+1) (o+1) w'' (by omega) hP'').1 1 (by omega) (by omega)) (fun hk _ w'' hP''=>(ih (k+1) (o+1) w'' (by omega) hP'').2)
  refine⟨fun least h1 h6=>?_,hO w hP⟩;exact zfh w g ts least k o hlast h1 h6 hP hO fun l k' hl1 hl6 hkk hkt w' hP'=>(ih k' o w' (by omega) hP').1 l hl1 hl6
end Go.Proofs.YtlnbmmgbfgmboaaGreatDoor
