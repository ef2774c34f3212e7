import Derived.Test.YtlnbmmgbfgmboaaGreatDoorQa
import Derived.Test.YtlnbmmgbfgmboaaGreatDoorQ3
import Derived.Test.YtlnbmmgbfgmboaaGreatDoorPp15G
import Derived.Test.YtlnbmmgbfgmboaaGreatDoorQ2
import Derived.Test.YtlnbmmgbfgmboaaGreatDoorQ4
namespace Go.Proofs.YtlnbmmgbfgmboaaGreatDoor
open Go.RowKit
structure LexOk (ts:List Tk.Tok):Prop where
 pos:0<ts.length
 last:Ps.kindAt ts (ts.length-1)=5
 num:∀k,Ps.numAt ts k≤9223372036854775807
def zin (ts:List Tk.Tok) (k:Nat):Nat:=match ts[k]? with|some t=>t.pos|none=>0
def noPg:Pg:=⟨[],[],[]⟩
def progT (ts:List Tk.Tok) (n:Nat):Pg × Nat × Nat :=
 if (Pa.sProg ts ts.length (.at_ 0) noPg).2.live=true then ((Pa.sProg ts ts.length (.at_ 0) noPg).1,n,0) else (noPg,zin ts (Pa.sProg ts ts.length (.at_ 0) noPg).2.k,(Pa.sProg ts ts.length (.at_ 0) noPg).2.e)
def zcT (l:List UInt8):Pg × Nat × Nat:=if (Tk.lex l).2.2=0 then progT (Tk.lex l).1 l.length else (noPg,(Tk.lex l).2.1,(Tk.lex l).2.2)
def zfp (w:World) (V:Pg × Nat × Nat) (e:Ending) (w':World):Prop :=
 ∃vG vM vF PG PM PF B,e=.returned (.tuple #[.agg #[vG,vM,vF],.int .i64 (V.2.1:Int),.int .i64 (V.2.2:Int)])∧w.heap.size≤B∧PgR w' B vG vM vF PG PM PF∧V.1=⟨PG,PM,PF.map (·.1)⟩∧Below w.heap.size w w'
theorem pps_new {w:World} {ts:List Tk.Tok} {A:Option Addr} {c:Nat} (hT:TokS w A ts) (hL:LexOk ts) (hn:ts.length≤1000000) :
  Pps (w.alloc (.cells #[.slice A ts.length c,.int .i64 0,.int .i64 0,.int .i64 0] 60)) w.heap.size ts (.at_ 0) 0:=by
 refine⟨A,c,heap_alloc_new w _,hL.pos,by omega,hn,(fun h=>by cases h),hL.last,fun i hi=>?_⟩;obtain⟨b,e,h0,h1,h2,h3⟩:=hT i hi;have hbl:b<w.heap.size:=World.block_lt_of_cell? _ _ h0;have e1:∀o',(w.alloc (.cells #[.slice A ts.length c,.int .i64 0,.int .i64 0,.int .i64 0] 60)).cell? ⟨b,o',none⟩=w.cell? ⟨b,o',none⟩:=fun o'=>World.cell?_of_block (Below.heap_alloc w _ b hbl);exact⟨b,e,hbl,(e1 _).trans h0,(e1 _).trans h1,(e1 _).trans h2,(e1 _).trans h3⟩
theorem zdD {w w' w'':World} {r:Nat} (h:Below w.heap.size w w') (hp:PutAt r w' w'') (hr:w.heap.size≤r):Below w.heap.size w w'' :=
 ⟨hp.1.trans h.os,hp.2.1.trans h.tape,hp.2.2.1.trans h.output,by have:=h.size;have:=hp.2.2.2.1;omega,fun b hb=>(hp.2.2.2.2 b (by omega)).trans (h.block b hb)⟩
set_option maxRecDepth 100000 in
set_option maxHeartbeats 4000000 in
theorem zdH (l:List UInt8) (ao:Option Addr) (cap:Nat) (w:World) (hB:Byt w ao l) (hl:l.length≤262144) (hcap:l.length≤cap) (hS:SgT w) (hL:(Tk.lex l).2.2=0→LexOk (Tk.lex l).1) :
  Calls Tryz.prog 15 #[.slice ao l.length cap] w (zfp w (zcT l)):=by
 have HLX:=zH (fun (o:Obj)=>lex_any l ao cap (w.alloc o) (hB.later ((Below.refl _ _).alloc (lR _) _)) hl hcap);have hlen:=ziE l;have HS:=zH hS;have HL:=zH hL;have HV:Hid (zcT l=if (Tk.lex l).2.2=0 then progT (Tk.lex l).1 l.length else (noPg,(Tk.lex l).2.1,(Tk.lex l).2.2)):=rfl;clear hB hcap hS hL;go_enter Tryz.func15,Tryz.ntmps15;go_wp2_with fail;refine(HLX.out _).mono ?_;intro e w1 hLP;obtain⟨A,c,rfl,hT,hb1⟩:=zdL hLP;have HT:=zH hT;have HR1:=zH ((hb1.block w.heap.size (by simp)).trans (heap_alloc_new w _));have HB1:Hid (Below w.heap.size w w1):=zan (w1:=w.alloc _) hb1 ((Below.refl _ _).alloc (lR _) _);have hl1:w.heap.size<w1.heap.size:=lt_of_block HR1.out;clear hLP hT hb1 HLX;generalize (Tk.lex l).1=ts at *;generalize (Tk.lex l).2.1=n0 at *;generalize (Tk.lex l).2.2=e0 at *;by_cases he:e0=0
 ·
  subst he;have hLO:=HL.out rfl;have HLO:=zH hLO;have HV2:Hid (zcT l=progT ts l.length):=HV.out.trans (if_pos rfl);have hP1:=pps_new (c:=c) HT.out hLO (by omega);have HSG:Hid (SgG (w1.alloc (.cells #[.slice A ts.length c,.int .i64 0,.int .i64 0,.int .i64 0] 60)) w1.heap.size):=⟨(HS.out.later HB1.out).later ((Below.refl _ _).alloc (lR _) _),(HS.out.later HB1.out).lt⟩;have HP1:=zH hP1;clear hLO hP1 HV HL;go_wp2_with fail;refine(zfP _ w1.heap.size ts HLO.out.num (.at_ 0) ts.length (by simp) HP1.out HSG.out).mono ?_;rintro x w2 ⟨vG,vM,vF,PG,PM,PF,rfl,hPg,hval,hP2,hG2⟩;have HPg:=zH hPg;have HP2:=zH hP2;have HR2:=zH (za1 hG2 ((Below.heap_alloc w1 _ w.heap.size hl1).trans HR1.out) (by omega));have hl2:w1.heap.size<w2.heap.size:=hP2.lt;have HG2:=zH hG2;have HV3:Hid (zcT l=if (Pa.sProg ts ts.length (.at_ 0) ⟨[],[],[]⟩).2.live=true then ((Pa.sProg ts ts.length (.at_ 0) ⟨[],[],[]⟩).1,l.length,0) else (noPg,zin ts (Pa.sProg ts ts.length (.at_ 0) ⟨[],[],[]⟩).2.k,(Pa.sProg ts ts.length (.at_ 0) ⟨[],[],[]⟩).2.e)):=HV2.out;have HVA:=zH hval;clear hPg hP2 hG2 hval HV2 HP1 HSG HR1;generalize Pa.sProg ts ts.length (.at_ 0) ⟨[],[],[]⟩=R at *;obtain⟨p,τ⟩:=R;obtain⟨AG,cG,rfl⟩:=zaS HPg.out.rG;obtain⟨AM,cM,rfl⟩:=zaS HPg.out.rM;obtain⟨AF,cF,rfl⟩:=zaS HPg.out.rF;have HRn:=zH ((Below.heap_alloc w2 (.cells #[.slice AG PG.length cG,.slice AM PM.length cM,.slice AF PF.length cF] 45) w.heap.size (by omega)).trans HR2.out);have HPn:Hid (Pps (w2.alloc (.cells #[.slice AG PG.length cG,.slice AM PM.length cM,.slice AF PF.length cF] 45)) w1.heap.size ts τ 0):=HP2.out.alloc _;have HBn:Hid (Below w.heap.size w (w2.alloc (.cells #[.slice AG PG.length cG,.slice AM PM.length cM,.slice AF PF.length cF] 45))) :=
   HB1.out.trans ⟨HG2.out.os,HG2.out.tape,HG2.out.output,by have:=HG2.out.size;simp at this ⊢;omega,fun b hb=>(Below.heap_alloc w2 _ b (by omega)).trans ((HG2.out.block b (by simp;omega) (fun e=>by injection e with e;omega)).trans (Below.heap_alloc w1 _ b (by omega)))⟩
  have HTn:Hid (TokS (w2.alloc (.cells #[.slice AG PG.length cG,.slice AM PM.length cM,.slice AF PF.length cF] 45)) A ts):=fun i hi=>by
   obtain⟨b,e,h0,h1,h2,h3⟩:=HT.out i hi;have hbl:b<w1.heap.size:=World.block_lt_of_cell? _ _ h0;have e1:∀o',(w2.alloc (.cells #[.slice AG PG.length cG,.slice AM PM.length cM,.slice AF PF.length cF] 45)).cell? ⟨b,o',none⟩=w1.cell? ⟨b,o',none⟩:=fun o'=>World.cell?_of_block ((Below.heap_alloc w2 _ b (by omega)).trans ((HG2.out.block b (by simp;omega) (fun e=>by injection e with e;omega)).trans (Below.heap_alloc w1 _ b (by omega))));exact⟨b,e,(e1 _).trans h0,(e1 _).trans h1,(e1 _).trans h2,(e1 _).trans h3⟩
  obtain⟨n0',n1',n2',-,-⟩:=blk3 (heap_alloc_new w2 (.cells #[.slice AG PG.length cG,.slice AM PM.length cM,.slice AF PF.length cF] 45));obtain⟨r0,r1,r2,rf,-⟩:=blk3 HRn.out;have f0:=rf 0;have f1:=rf 1;have f2:=rf 2;clear rf;obtain⟨br,cr,-,-,-,s1,-,s3,-⟩:=HPn.out.cells;cases τ with
  | at_ k0 =>
   have t0:(((Pa.Sg.at_ k0).e:Int) != 0)=false:=rfl;have HV4:Hid (zcT l=(p,l.length,0)):=HV3.out;have HV5:Hid (p=⟨PG,PM,PF.map (·.1)⟩):=HVA.out rfl;clear HV3 HVA s1 HTn;go_wp2_with fail;have hq:PutAt w.heap.size (w2.alloc (.cells #[.slice AG PG.length cG,.slice AM PM.length cM,.slice AF PF.length cF] 45)) _:=(((PutAt.refl w.heap.size _).set 0 (.slice AG PG.length cG)).set 1 (.slice AM PM.length cM)).set 2 (.slice AF PF.length cF);refine bodyPost_ret (v:=.tuple #[.agg #[.slice AG PG.length cG,.slice AM PM.length cM,.slice AF PF.length cF],.int .i64 (l.length:Int),.int .i64 0]) (by simp[results,Tryz.results15,go_sem,r0,r1,r2]) rfl ⟨_,_,_,PG,PM,PF,(w1.alloc (.cells #[.slice A ts.length c,.int .i64 0,.int .i64 0,.int .i64 0] 60)).heap.size+2,by rw[HV4.out];rfl,by simp;omega,(HPg.out.alloc _).putAt hq (by simp;omega),by rw[HV4.out,HV5.out],zdD HBn.out hq (lR _)⟩
  | bad m e =>
   have he:e≠0:=HP2.out.err rfl;have t0:(((Pa.Sg.bad m e).e:Int) != 0)=true:=nT (show ((e:Nat):Int)≠0 by omega);have HV4:Hid (zcT l=(noPg,zin ts m,e)):=HV3.out;have hm:m<ts.length:=by obtain⟨_,_,_,h,_⟩:=HP2.out;exact h
   have e1:(Pa.Sg.bad m e).k=m:=rfl;have e2:(Pa.Sg.bad m e).e=e:=rfl;rw[e1] at s1;rw[e2] at s3 t0;have hm4:ts.length≤4001:=hlen;have hwn:w.heap.size≠w1.heap.size:=by omega
   have hnw:w1.heap.size≠w.heap.size:=by omega
   obtain⟨b,hA,h0,-,-,h3⟩:=HTn.out m hm;have hbw:b≠w.heap.size:=by
    rintro rfl;have hx:=HRn.out;simp[World.cell?,hx] at h3
   have hwb:w.heap.size≠b:=hbw.symm;have HM:Hid (zin ts m=ts[m].pos):=by show _=_;unfold zin;rw[List.getElem?_eq_getElem hm]
   have i0:(0:Int)≤(m:Int):=by omega
   have i1:(m:Int)<(ts.length:Int):=by omega
   generalize ts[m].pos=q at *;generalize ts[m].kind=q' at *;subst hA;clear HV3 HVA e1 e2 he HTn HPn HP2 HG2 HT HPg HRn HR2 n0' n1' n2' h0;go_wp2_with fail;generalize w2.alloc (.cells #[.slice AG PG.length cG,.slice AM PM.length cM,.slice AF PF.length cF] 45)=W at *;go_region
   all_goals
    go_wp2;have hq:PutAt w.heap.size W _:=(((PutAt.refl w.heap.size W).set 0 (.slice none 0 0)).set 1 (.slice none 0 0)).set 2 (.slice none 0 0);refine bodyPost_ret (v:=.tuple #[.agg #[.slice none 0 0,.slice none 0 0,.slice none 0 0],.int .i64 (q:Int),.int .i64 (e:Int)]) (by simp[results,Tryz.results15,go_sem,r0,r1,r2]) rfl ⟨_,_,_,[],[],[],w.heap.size,by rw[HV4.out,HM.out],lR _,PgR.nil _ _,by rw[HV4.out];rfl,(zdD HBn.out hq (lR _)).drew⟩
 ·
  have HV2:Hid (zcT l=(noPg,n0,e0)):=HV.out.trans (if_neg he);have t0:(((e0:Nat):Int) != 0)=true:=nT (show ((e0:Nat):Int)≠0 by omega);obtain⟨r0,r1,r2,rf,-⟩:=blk3 HR1.out;have f0:=rf 0;have f1:=rf 1;have f2:=rf 2;clear rf he HV HL;go_wp2_with fail;have hq:PutAt w.heap.size w1 _:=(((PutAt.refl w.heap.size w1).set 0 (.slice none 0 0)).set 1 (.slice none 0 0)).set 2 (.slice none 0 0);refine bodyPost_ret (v:=.tuple #[.agg #[.slice none 0 0,.slice none 0 0,.slice none 0 0],.int .i64 (n0:Int),.int .i64 (e0:Int)]) (by simp[results,Tryz.results15,go_sem,r0,r1,r2]) rfl ⟨_,_,_,[],[],[],w1.heap.size,by rw[HV2.out],by omega,PgR.nil _ _,by rw[HV2.out];rfl,zdD HB1.out hq (lR _)⟩
def zet (ts:List Tk.Tok) (k bad e:Nat) (s:List UInt8):Nat:=if isB ts k e s=true then bad else if e=0 then k else bad
def zes (ts:List Tk.Tok) (k e:Nat) (s:List UInt8):Nat:=if isB ts k e s=true then e else if e=0 then 4 else e
set_option maxRecDepth 100000 in
set_option maxHeartbeats 4000000 in
theorem ze7 (w:World) (g:Nat) (ts:List Tk.Tok) (k bad e o d:Nat) (s:List UInt8) (hlast:Ps.kindAt ts (ts.length-1)=5) (hP:Rsr w g ts k bad e o d) :
  Calls Tryz.prog 50 #[.pointer (some ⟨g,0,none⟩),.string ⟨s.toArray⟩] w fun x w'=>x=.returned (.tuple #[]) ∧
   Rsr w' g ts (zda ts k e s) (zet ts k bad e s) (zes ts k e s) o d∧w.grownBy w' (some g):=by
 have HP:=zH hP;have HL:=zH hlast;clear hP hlast;go_enter Tryz.func50,Tryz.ntmps50;go_wp2_with fail;refine(zcS w g ts k bad e o d s HL.out HP.out).mono ?_;rintro x w1 ⟨rfl,hP1,hG1⟩;have HP1:=zH hP1;have HG1:=zH hG1;clear hP1 hG1;by_cases hI:isB ts k e s=true
 ·
  have HI:=zH hI;rw[hI];clear hI;go_wp2;refine bodyPost_end (results_none rfl _ _ _) rfl ⟨rfl,?_,HG1.out⟩;have e1:zet ts k bad e s=bad:=if_pos HI.out;have e2:zes ts k e s=e:=if_pos HI.out;rw[e1,e2];exact HP1.out
 ·
  replace hI:isB ts k e s=false:=by simpa using hI
  have HI:=zH hI;have HT:=zH (zdu hI);rw[hI];clear hI;go_wp2_with fail;refine(zcr w1 g ts (zda ts k e s) bad e o d 4 4 rfl HP1.out).mono ?_;rintro x w2 ⟨rfl,hP2,hG2⟩;have HP2:=zH hP2;have HG2:=zH hG2;clear hP2 hG2;go_wp2;refine bodyPost_end (results_none rfl _ _ _) rfl ⟨rfl,?_,za0 HG1.out HG2.out⟩;have e1:zet ts k bad e s=if e=0 then zda ts k e s else bad:=by rw[HT.out];exact if_neg (by rw[HI.out];decide)
  have e2:zes ts k e s=if e=0 then 4 else e:=if_neg (by rw[HI.out];decide);rw[e1,e2];exact HP2.out
set_option maxRecDepth 100000 in
set_option maxHeartbeats 4000000 in
theorem zib (w:World) (g:Nat) (ts:List Tk.Tok) (k bad e o d:Nat) (hlast:Ps.kindAt ts (ts.length-1)=5) (hP:Rsr w g ts k bad e o d) (hK:zb2 ts k e 1=true) :
  Calls Tryz.prog 42 #[.pointer (some ⟨g,0,none⟩)] w fun x w'=>x=.returned (.string ⟨(Ps.textAt ts k).toArray⟩) ∧
   Rsr w' g ts (k+1) bad e o d∧w.grownBy w' (some g):=by
 have hk1:k+1<ts.length:=Ps.next_in hlast hP.inT (by
  intro h5;unfold zb2 at hK;rw[h5] at hK;simp at hK)
 have HP:=zH hP;have HK:=zH hK;clear hP hlast hK;go_enter Tryz.func42,Tryz.ntmps42;go_wp2_with fail;refine(zfJ w g ts k bad e o d 1 HP.out).mono ?_;rw[HK.out];rintro x w1 ⟨rfl,hb⟩;have hP1:=HP.out.later hb;obtain⟨b,c,hne,hbl,q0,q1,q2,q3,q4,fr,hkm,ho,a0,a1,a2,v,a3⟩:=hP1.cells;have hgl:=hP1.lt;have f1:=fr 1;have HP1:=zH hP1;have HB:=zH hb;have i0:(0:Int)≤(k:Int):=by omega
 have i1:(k:Int)<(ts.length:Int):=by omega
 clear hP1 hb fr q2 q3 q4;have hT:∃T,T=Ps.textAt ts k:=⟨_,rfl⟩;obtain⟨T,hT⟩:=hT;rw[←hT] at a1;replace hT:=zH hT;go_wp2;go_region
 all_goals
  go_wp2;go_ret;rw[←hT.out]
  have:=HP1.out.at (k+1) hk1;rw[show (((k+1:Nat):Nat):Int)=(k:Int)+1 by omega] at this;refine⟨rfl,this.later (Below.refl _ _).drew,?_⟩;exact za0 (za0 (za2 HB.out) (zaE _ _ _ _)) (za2 (Below.refl _ _).drew)
def zfU (ts:List Tk.Tok) (at_:Int):Bool:=decide (0≤at_)&&(decide (at_<ts.length)&&decide (Ps.kindAt ts (ts.length-1)=5))
set_option maxRecDepth 100000 in
set_option maxHeartbeats 4000000 in
theorem zia (w:World) (ts:List Tk.Tok) (A:Option Addr) (c:Nat) (at_:Int) (hn:ts.length≤1000000)
  (hc:ts≠[]→∃b,A=some ⟨b,0,none⟩∧w.cell? ⟨b,(ts.length-1)*4,none⟩=some (.int .i64 (Ps.kindAt ts (ts.length-1):Int))) :
  Calls Tryz.prog 25 #[.slice A ts.length c,.int .i64 at_] w fun x w'=>x=.returned (.bool (zfU ts at_))∧Below w.heap.size w w':=by
 have HB:∃B,B=zfU ts at_:=⟨_,rfl⟩;obtain⟨B,hB⟩:=HB;have HS:=zH hB;unfold zfU at hB;by_cases h0:0≤at_
 ·
  by_cases h1:at_<(ts.length:Int)
  ·
   have hlen:0<ts.length:=by omega
   obtain⟨b,rfl,a0⟩:=hc (by intro h;rw[h] at hlen;simp at hlen);have hm:∃m,ts.length=m+1:=⟨ts.length-1,by omega⟩;obtain⟨m,hm⟩:=hm;rw[hm] at a0 h1 hB ⊢;simp only[Nat.add_sub_cancel] at a0 hB;have i2:(m:Int)<((m+1:Nat):Int):=by omega
   by_cases h5:Ps.kindAt ts m=5
   ·
    have t5:=bT (show ((Ps.kindAt ts m:Nat):Int)=5 by omega);have HV:B=true:=by rw[hB];simp[h0,h5];omega
    replace HV:=zH HV;clear hB h5 hc;generalize Ps.kindAt ts m=K at *;go_enter Tryz.func25,Tryz.ntmps25;go_wp2;go_ret;rw[←HS.out,HV.out];exact⟨rfl,by first|exact Below.refl _ _|exact(Below.refl _ _).drew⟩
   ·
    have t5:=bF (show ((Ps.kindAt ts m:Nat):Int)≠5 by omega);have HV:B=false:=by rw[hB];simp[h5]
    replace HV:=zH HV;clear hB h5 hc;generalize Ps.kindAt ts m=K at *;go_enter Tryz.func25,Tryz.ntmps25;go_wp2;go_ret;rw[←HS.out,HV.out];exact⟨rfl,by first|exact Below.refl _ _|exact(Below.refl _ _).drew⟩
  ·
   have HV:B=false:=by rw[hB];simp[h1]
   replace HV:=zH HV;clear hB hc;generalize ts.length=n at *;go_enter Tryz.func25,Tryz.ntmps25;go_wp2;go_ret;rw[←HS.out,HV.out];exact⟨rfl,by first|exact Below.refl _ _|exact(Below.refl _ _).drew⟩
 ·
  have HV:B=false:=by rw[hB];simp[h0]
  replace HV:=zH HV;clear hB hc;generalize ts.length=n at *;go_enter Tryz.func25,Tryz.ntmps25;go_wp2;go_ret;rw[←HS.out,HV.out];exact⟨rfl,by first|exact Below.refl _ _|exact(Below.refl _ _).drew⟩
def zaI (w:World) (g:Nat) (ts:List Tk.Tok) (bad o d:Nat) (R:Ps.R) (e:Ending) (w':World):Prop :=
 ∃f:EF,e=.returned f.val∧w.grownBy w' (some g)∧(∀x m,R=.ok x m→ExM w' (w.heap.size≤·) x f∧Rsr w' g ts m bad 0 o d)∧(∀a e0,R=.bad a e0→e0≠0∧∃m,Rsr w' g ts m a e0 o d)
def WOk (ts:List Tk.Tok):Prop:=∀k,Ps.kindAt ts k=3→Ps.textAt ts k∉[40]::[41]::Ps.sgTab
theorem zdz {ts:List Tk.Tok} {k:Nat} {s:List UInt8} (hk:k<ts.length) (hW:WOk ts) (hs:s∈[40]::[41]::Ps.sgTab) (h0:s≠[]):isB ts k 0 s=decide (Ps.sgn ts k=s):=by
 unfold isB;by_cases h4:Ps.kindAt ts k=4
 ·
  rw[sgn_is ts k hk h4];simp[h4]
 ·
  rw[zi0 ts k h4];by_cases h3:Ps.kindAt ts k=3
  ·
   have:Ps.textAt ts k≠s:=fun h=>hW k h3 (h▸hs);simp[this,h3];exact fun h=>h0 (by first|exact h|exact h.symm)
  ·
   simp[h3,h4];exact fun h=>h0 (by first|exact h|exact h.symm)
theorem zaG (w:World) (g:Nat) (ts:List Tk.Tok) (k bad e o d K:Nat) (v:Int) (hv:v=(K:Int)) (hP:Rsr w g ts k bad e o d) :
  Calls Tryz.prog 36 #[.pointer (some ⟨g,0,none⟩),.int .i64 v] w fun x w'=>x=.returned (.bool (zb2 ts k e K))∧Below w.heap.size w w':=by
 subst hv;exact zfJ w g ts k bad e o d K hP
theorem zbS {w w1:World} {o1 o2:Obj} (hb:Below ((w.alloc o1).alloc o2).heap.size ((w.alloc o1).alloc o2) w1) :
  w1.heap[w.heap.size]?=some o1∧w1.heap[w.heap.size+1]?=some o2∧(∀b,b<w.heap.size→w1.heap[b]?=w.heap[b]?)∧w.heap.size+1<w1.heap.size:=by
 have hs:((w.alloc o1).alloc o2).heap.size=w.heap.size+2:=by simp
 have hs1:(w.alloc o1).heap.size=w.heap.size+1:=by simp
 refine⟨?_,?_,?_,?_⟩
 ·
  rw[hb.block _ (by omega),Below.heap_alloc _ o2 _ (by omega)];exact heap_alloc_new w o1
 ·
  rw[hb.block _ (by omega),←hs1];exact heap_alloc_new (w.alloc o1) o2
 ·
  intro b hlt;rw[hb.block _ (by omega),Below.heap_alloc _ o2 _ (by omega),Below.heap_alloc _ o1 _ hlt]
 ·
  have:=hb.size;omega
theorem rf_end0 {w w1 A C:World} {g r:Nat} {ts:List Tk.Tok} {k bad o d:Nat} {x:Ex} {f:EF} (hr:w.heap.size=r) (hgr:g<r) (hos:w1.os=w.os) (htp:w1.tape=w.tape) (hou:w1.output=w.output)
  (hkeep:∀b,b<r→w1.heap[b]?=w.heap[b]?) (hsz:r+1<w1.heap.size) (hP:Rsr w1 g ts k bad 0 o d) (hk1:k+1<ts.length)
  (hA:∀b,b≠r+1→A.heap[b]?=w1.heap[b]?) (hAo:A.os=w1.os) (hAt:A.tape=w1.tape) (hAu:A.output=w1.output)
  (hC:∀b,b≠r→C.heap[b]?=(A.setCell ⟨g,1,none⟩ (.int .i64 ((k:Int)+1))).heap[b]?) (hCs:C.heap.size=w1.heap.size) (hCo:C.os=A.os) (hCt:C.tape=A.tape) (hCu:C.output=A.output)
  (hE:∀(W:World) (S:Nat→Prop),ExM W S x f):zaI w g ts bad o d (.ok x (k+1)) (.returned f.val) C:=by
 have h1:Rsr A g ts k bad 0 o d:=hP.keep fun b hle=>hA b (by clear hA hC hkeep hE;omega);have h2:=h1.at (k+1) hk1;rw[show (((k+1:Nat):Nat):Int)=(k:Int)+1 from rfl] at h2;have h3:Rsr C g ts (k+1) bad 0 o d:=h2.keep fun b hle=>hC b (by clear hA hC hkeep hE;omega);refine⟨f,rfl,⟨hCo.trans (hAo.trans hos),hCt.trans (hAt.trans htp),hCu.trans (hAu.trans hou),?_,?_⟩,?_,?_⟩
 ·
  rw[hCs,hr];clear hA hC hkeep hE;omega
 ·
  intro b hlt hne;rw[hr] at hlt;have hbg:b≠g:=fun h=>hne (by rw[h]);rw[hC b (Nat.ne_of_lt hlt),Below.heap_setCell _ _ _ b hbg,hA b (Nat.ne_of_lt (Nat.lt_succ_of_lt hlt))];exact hkeep b hlt
 ·
  intro y m h;injection h with e1 e2;subst e1;subst e2;exact⟨hE _ _,h3⟩
 ·
  intro a e0 h;cases h
theorem zdV (w:World) (a:Addr) (u:Value):(w.setCell a u).heap.size=w.heap.size:=by simp[World.setCell]
theorem ziP (w:World):w.drew.heap=w.heap:=rfl
theorem zbb (w:World) (r:Nat) (u0 u1 u2 u3:Value):(set4 w r u0 u1 u2 u3).os=w.os∧(set4 w r u0 u1 u2 u3).tape=w.tape∧(set4 w r u0 u1 u2 u3).output=w.output:=⟨rfl,rfl,rfl⟩
theorem zdW (w:World) (a:Addr) (u:Value):(w.setCell a u).os=w.os∧(w.setCell a u).tape=w.tape∧(w.setCell a u).output=w.output:=⟨rfl,rfl,rfl⟩
theorem ziO (w:World):w.drew.os=w.os∧w.drew.tape=w.tape∧w.drew.output=w.output:=⟨rfl,rfl,rfl⟩
theorem rf_end {w w1:World} {g:Nat} {ts:List Tk.Tok} {k bad o d:Nat} {o1 o2:Obj} {x:Ex} (hgw:g<w.heap.size) (hb:Below ((w.alloc o1).alloc o2).heap.size ((w.alloc o1).alloc o2) w1)
  (hkeep:∀b,b<w.heap.size→w1.heap[b]?=w.heap[b]?) (hsz:w.heap.size+1<w1.heap.size) (hP:Rsr w1 g ts k bad 0 o d) (hk1:k+1<ts.length) (u0 u1 u2 u3:Value) (f:EF)
  (hE:∀(W:World) (S:Nat→Prop),ExM W S x f) (A B D C:World) (hA:A=set4 w1 (w.heap.size+1) u0 u1 u2 u3) (hB:B=A.setCell ⟨g,1,none⟩ (.int .i64 ((k:Int)+1))) (hD:D=set4 B w.heap.size u0 u1 u2 u3) (hC:C=D.drew) :
  zaI w g ts bad o d (.ok x (k+1)) (.returned f.val) C:=by
 have sA:A.heap.size=w1.heap.size:=by rw[hA];exact zaj _ _ _ _ _ _
 have sB:B.heap.size=A.heap.size:=by rw[hB];exact zdV _ _ _
 have sD:D.heap.size=B.heap.size:=by rw[hD];exact zaj _ _ _ _ _ _
 have sC:C.heap=D.heap:=by rw[hC];exact ziP _
 have mA:A.os=w1.os∧A.tape=w1.tape∧A.output=w1.output:=by rw[hA];exact zbb _ _ _ _ _ _
 have mB:B.os=A.os∧B.tape=A.tape∧B.output=A.output:=by rw[hB];exact zdW _ _ _
 have mD:D.os=B.os∧D.tape=B.tape∧D.output=B.output:=by rw[hD];exact zbb _ _ _ _ _ _
 have mC:C.os=D.os∧C.tape=D.tape∧C.output=D.output:=by rw[hC];exact ziO _
 have kA:∀b,b≠w.heap.size+1→A.heap[b]?=w1.heap[b]?:=fun b hne=>by rw[hA];exact zai w1 _ _ _ _ _ b hne
 have kD:∀b,b≠w.heap.size→D.heap[b]?=B.heap[b]?:=fun b hne=>by rw[hD];exact zai B _ _ _ _ _ b hne
 have kC:∀b,b≠w.heap.size→C.heap[b]?=(A.setCell ⟨g,1,none⟩ (.int .i64 ((k:Int)+1))).heap[b]?:=fun b hne=>by rw[sC,kD b hne,hB]
 clear hA hB hD hC;exact rf_end0 (A:=A) (C:=C) rfl hgw hb.os hb.tape hb.output hkeep hsz hP hk1 kA mA.1 mA.2.1 mA.2.2 kC (by rw[sC,sD,sB,sA]) (mC.1.trans (mD.1.trans mB.1)) (mC.2.1.trans (mD.2.1.trans mB.2.1)) (mC.2.2.trans (mD.2.2.trans mB.2.2)) hE
set_option maxRecDepth 100000 in
set_option maxHeartbeats 4000000 in
theorem zfG (w:World) (g:Nat) (ts:List Tk.Tok) (k bad o d:Nat) (hlast:Ps.kindAt ts (ts.length-1)=5) (hP:Rsr w g ts k bad 0 o d) (hK:Ps.kindAt ts k=2) :
  Calls Tryz.prog 101 #[.pointer (some ⟨g,0,none⟩)] w (zaI w g ts bad o d (.ok (.mk 1 (Ps.numAt ts k) [] []) (k+1))):=by
 have hk1:k+1<ts.length:=Ps.next_in hlast hP.inT (by rw[hK];decide);have hKB:zb2 ts k 0 2=true:=by simp[zb2,hK]
 have HP:=zH hP;have HK:=zH hKB;have hgw:=hP.lt;clear hP hlast hKB hK;go_enter Tryz.func101,Tryz.ntmps101;go_wp2_with fail;refine(zaG _ g ts k bad 0 o d 2 2 rfl ((HP.out.alloc _).alloc _)).mono ?_;rw[HK.out];rintro x w1 ⟨rfl,hb⟩;have hP1:=((HP.out.alloc _).alloc _).later hb;obtain⟨hr0,hr1,hkeep,hsz⟩:=zbS hb;obtain⟨q0,q1,q2,q3,f0,f1,f2,f3,hz0⟩:=blk4 hr0;obtain⟨p0,p1,p2,p3,g0,g1,g2,g3,hz1⟩:=blk4 hr1;obtain⟨b,c,hne,hbl,c0,c1,-,-,-,fr,hkm,ho,a0,a1,a2,v,a3⟩:=hP1.cells;have i0:(0:Int)≤(k:Int):=by omega
 have i1:(k:Int)<(ts.length:Int):=by omega
 have fr1:=fr 1;have hn1:g≠w.heap.size:=by omega
 have hn2:g≠w.heap.size+1:=by omega
 have HP1:=zH hP1;have HB:=zH hb;have HR0:=zH hr0;have HR1:=zH hr1;have HKp:=zH hkeep;clear hP1 hb hr0 hr1 hkeep fr a0 a1 a3;have hM:∃M,M=Ps.numAt ts k:=⟨_,rfl⟩;obtain⟨M,hM⟩:=hM;rw[←hM] at a2;replace hM:=zH hM;go_wp2_with fail;go_region
 all_goals
  go_wp2_with fail;refine bodyPost_ret (v:=.agg #[.int .i64 1,.int .i64 (M:Int),.string ⟨#[]⟩,.slice none 0 0]) (by simp[results,Tryz.results101,go_sem,q0,q1,q2,q3]) rfl ?_;rw[←hM.out];exact rf_end hgw HB.out HKp.out hsz HP1.out hk1 (.int .i64 1) (.int .i64 (M:Int)) (.string ⟨#[]⟩) (.slice none 0 0) ⟨1,(M:Int),[],none,0,0⟩ (fun W S=>ExM.leaf _ _ _ _ _ _ _) _ _ _ _ rfl rfl rfl rfl
theorem rf_fin {w w3 C:World} {g r:Nat} {ts:List Tk.Tok} {m bad o d:Nat} {x:Ex} {f:EF} (hr:w.heap.size=r) (hgr:g<r) (hG:w.grownBy w3 (some g)) (hP:Rsr w3 g ts m bad 0 o d)
  (hC:∀b,b≠r→b≠r+1→C.heap[b]?=w3.heap[b]?) (hCs:w3.heap.size≤C.heap.size) (hCo:C.os=w3.os) (hCt:C.tape=w3.tape) (hCu:C.output=w3.output)
  (hE:ExM C (w.heap.size≤·) x f):zaI w g ts bad o d (.ok x m) (.returned f.val) C:=by
 have h3:Rsr C g ts m bad 0 o d:=hP.keep fun b hle=>hC b (by clear hC hE;omega) (by clear hC hE;omega);refine⟨f,rfl,⟨hCo.trans hG.os,hCt.trans hG.tape,hCu.trans hG.output,Nat.le_trans hG.size hCs,?_⟩,?_,?_⟩
 ·
  intro b hlt hne;rw[hC b (by rw[←hr];exact Nat.ne_of_lt hlt) (by rw[←hr];exact Nat.ne_of_lt (Nat.lt_succ_of_lt hlt))];exact hG.block b hlt hne
 ·
  intro y m' h;injection h with e1 e2;subst e1;subst e2;exact⟨hE,h3⟩
 ·
  intro a e0 h;cases h
theorem rf_two {w w3:World} {g:Nat} {ts:List Tk.Tok} {m bad o d:Nat} {x:Ex} (hgw:g<w.heap.size) (hG:w.grownBy w3 (some g)) (hP:Rsr w3 g ts m bad 0 o d) (u0 u1 u2 u3 v0 v1 v2 v3:Value) (f:EF) (A C:World)
  (hA:A=set4 w3 (w.heap.size+1) u0 u1 u2 u3) (hC:C=set4 A w.heap.size v0 v1 v2 v3) (hE:ExM C (w.heap.size≤·) x f):zaI w g ts bad o d (.ok x m) (.returned f.val) C:=by
 have sA:A.heap.size=w3.heap.size:=by rw[hA];exact zaj _ _ _ _ _ _
 have sC:C.heap.size=A.heap.size:=by rw[hC];exact zaj _ _ _ _ _ _
 have mA:A.os=w3.os∧A.tape=w3.tape∧A.output=w3.output:=by rw[hA];exact zbb _ _ _ _ _ _
 have mC:C.os=A.os∧C.tape=A.tape∧C.output=A.output:=by rw[hC];exact zbb _ _ _ _ _ _
 have kA:∀b,b≠w.heap.size+1→A.heap[b]?=w3.heap[b]?:=fun b hne=>by rw[hA];exact zai w3 _ _ _ _ _ b hne
 have kC:∀b,b≠w.heap.size→C.heap[b]?=A.heap[b]?:=fun b hne=>by rw[hC];exact zai A _ _ _ _ _ b hne
 clear hA hC;exact rf_fin rfl hgw hG hP (fun b h0 h1=>(kC b h0).trans (kA b h1)) (Nat.le_of_eq (sC.trans sA).symm) (mC.1.trans mA.1) (mC.2.1.trans mA.2.1) (mC.2.2.trans mA.2.2) hE
theorem zaa {w w1 w2:World} {g:Nat} {o1 o2:Obj} (hgw:g<w.heap.size) (h:w1.heap[w.heap.size]?=some o1∧w1.heap[w.heap.size+1]?=some o2∧w.heap.size+1<w1.heap.size) (hG:w1.grownBy w2 (some g)) :
  w2.heap[w.heap.size]?=some o1∧w2.heap[w.heap.size+1]?=some o2∧w.heap.size+1<w2.heap.size:=by
 obtain⟨h0,h1,h2⟩:=h;refine⟨(hG.block _ (Nat.lt_of_succ_lt h2) ?_).trans h0,(hG.block _ h2 ?_).trans h1,Nat.lt_of_lt_of_le h2 hG.size⟩
 ·
  intro h;injection h with h;exact absurd hgw (by rw[←h];exact Nat.lt_irrefl _)
 ·
  intro h;injection h with h;exact absurd hgw (by rw[←h];exact fun h'=>absurd h' (Nat.not_lt_of_le (Nat.le_succ _)))
theorem zbi {w w1:World} {g:Nat} {o1 o2:Obj} (hb:Below ((w.alloc o1).alloc o2).heap.size ((w.alloc o1).alloc o2) w1):w.grownBy w1 (some g):=by
 obtain⟨_,_,hk,hs⟩:=zbS hb;exact⟨hb.os,hb.tape,hb.output,Nat.le_of_lt (Nat.lt_of_succ_lt hs),fun b hlt _=>hk b hlt⟩
set_option maxRecDepth 100000 in
set_option maxHeartbeats 4000000 in
theorem zf7 (w:World) (g:Nat) (ts:List Tk.Tok) (k bad o d:Nat) (hlast:Ps.kindAt ts (ts.length-1)=5) (hP:Rsr w g ts k bad 0 o d) (hK:Ps.kindAt ts k=1) :
  Calls Tryz.prog 101 #[.pointer (some ⟨g,0,none⟩)] w (zaI w g ts bad o d (.ok (.mk 2 0 (Ps.textAt ts k) []) (k+1))):=by
 have hK2:zb2 ts k 0 2=false:=by simp[zb2,hK]
 have hK1:zb2 ts k 0 1=true:=by simp[zb2,hK]
 have HP:=zH hP;have HK2:=zH hK2;have HK1:=zH hK1;have HL:=zH hlast;have hgw:=hP.lt;clear hP hlast hK2 hK1 hK;go_enter Tryz.func101,Tryz.ntmps101;go_wp2_with fail;refine(zaG _ g ts k bad 0 o d 2 2 rfl ((HP.out.alloc _).alloc _)).mono ?_;rw[HK2.out];rintro x w1 ⟨rfl,hb⟩;have hP1:=zH (((HP.out.alloc _).alloc _).later hb);obtain⟨hr0,hr1,-,hsz⟩:=zbS hb;have hN1:=zH (And.intro hr0 (And.intro hr1 hsz));have hG1:=zH (zbi (g:=g) hb);clear hr0 hr1 hsz hb;go_wp2_with fail;refine(zaG _ g ts k bad 0 o d 1 1 rfl hP1.out).mono ?_;rw[HK1.out];rintro x w2 ⟨rfl,hb2⟩;have hP2:=zH (hP1.out.later hb2);have hN2:=zH (zaa hgw hN1.out (za2 (g:=g) hb2));have hG2:=zH (za0 hG1.out (za2 (g:=g) hb2));clear hb2 hP1 hN1 hG1;go_wp2_with fail;refine(zib _ g ts k bad 0 o d HL.out hP2.out HK1.out).mono ?_;rintro x w3 ⟨rfl,hP3,hG3⟩;obtain⟨hr0,hr1,hsz⟩:=zaa hgw hN2.out hG3;have HG:=zH (za0 hG2.out hG3);have HP3:=zH hP3;clear hP3 hG3 hG2 hP2 hN2;obtain⟨q0,q1,q2,q3,f0,f1,f2,f3,hz0⟩:=blk4 hr0;obtain⟨p0,p1,p2,p3,g0,g1,g2,g3,hz1⟩:=blk4 hr1;clear hr0 hr1;go_wp2_with fail;refine bodyPost_ret (v:=.agg #[.int .i64 2,.int .i64 0,.string ⟨(Ps.textAt ts k).toArray⟩,.slice none 0 0]) (by simp[results,Tryz.results101,go_sem,q0,q1,q2,q3]) rfl ?_;exact rf_two hgw HG.out HP3.out _ _ _ _ _ _ _ _ ⟨2,0,Ps.textAt ts k,none,0,0⟩ _ _ rfl rfl (ExM.leaf _ _ _ _ _ _ _)
theorem zeB {w w3:World} {g:Nat} {ts:List Tk.Tok} {m a e0 bad o d:Nat} (hgw:g<w.heap.size) (hG:w.grownBy w3 (some g)) (hP:Rsr w3 g ts m a e0 o d) (he:e0≠0) (v0 v1 v2 v3:Value) (f:EF) (C:World)
  (hC:C=set4 w3 w.heap.size v0 v1 v2 v3):zaI w g ts bad o d (.bad a e0) (.returned f.val) C:=by
 have sC:C.heap.size=w3.heap.size:=by rw[hC];exact zaj _ _ _ _ _ _
 have mC:C.os=w3.os∧C.tape=w3.tape∧C.output=w3.output:=by rw[hC];exact zbb _ _ _ _ _ _
 have kC:∀b,b≠w.heap.size→C.heap[b]?=w3.heap[b]?:=fun b hne=>by rw[hC];exact zai w3 _ _ _ _ _ b hne
 clear hC;have h3:Rsr C g ts m a e0 o d:=hP.keep fun b hle=>kC b (Nat.ne_of_lt (Nat.lt_of_le_of_lt hle hgw));refine⟨f,rfl,⟨mC.1.trans hG.os,mC.2.1.trans hG.tape,mC.2.2.trans hG.output,Nat.le_trans hG.size (Nat.le_of_eq sC.symm),fun b hlt hne=>(kC b (Nat.ne_of_lt hlt)).trans (hG.block b hlt hne)⟩,?_,?_⟩
 ·
  intro y m' h;cases h
 ·
  intro a' e' h;injection h with e1 e2;subst e1;subst e2;exact⟨he,m,h3⟩
set_option maxRecDepth 100000 in
set_option maxHeartbeats 4000000 in
theorem zf5 (w:World) (g:Nat) (ts:List Tk.Tok) (k bad o d:Nat) (hP:Rsr w g ts k bad 0 o d) (hK2:zb2 ts k 0 2=false) (hK1:zb2 ts k 0 1=false)
  (hm:isB ts k 0 [45]=false) (hn:isB ts k 0 [33]=false) (hp:isB ts k 0 [40]=false) :
  Calls Tryz.prog 101 #[.pointer (some ⟨g,0,none⟩)] w (zaI w g ts bad o d (.bad k 4)):=by
 have HP:=zH hP;have HK2:=zH hK2;have HK1:=zH hK1;have Hm:=zH hm;have Hn:=zH hn;have Hp:=zH hp;have hgw:=hP.lt;clear hP hK2 hK1 hm hn hp;go_enter Tryz.func101,Tryz.ntmps101;go_wp2_with fail;refine(zaG _ g ts k bad 0 o d 2 2 rfl ((HP.out.alloc _).alloc _)).mono ?_;rw[HK2.out];rintro x w1 ⟨rfl,hb⟩;have hP1:=zH (((HP.out.alloc _).alloc _).later hb);obtain⟨hr0,hr1,-,hsz⟩:=zbS hb;have hN1:=zH (And.intro hr0 (And.intro hr1 hsz));have hG1:=zH (zbi (g:=g) hb);clear hr0 hr1 hsz hb;go_wp2_with fail;refine(zaG _ g ts k bad 0 o d 1 1 rfl hP1.out).mono ?_;rw[HK1.out];rintro x w2 ⟨rfl,hb2⟩;have hP2:=zH (hP1.out.later hb2);have hN2:=zH (zaa hgw hN1.out (za2 (g:=g) hb2));have hG2:=zH (za0 hG1.out (za2 (g:=g) hb2));clear hb2 hP1 hN1 hG1;go_wp2_with fail;refine(zaK _ g ts k bad 0 o d [45] hP2.out).mono ?_;rw[Hm.out];rintro x w3 ⟨rfl,hb3⟩;have hP3:=zH (hP2.out.later hb3);have hN3:=zH (zaa hgw hN2.out (za2 (g:=g) hb3));have hG3:=zH (za0 hG2.out (za2 (g:=g) hb3));clear hb3 hP2 hN2 hG2;go_wp2_with fail;refine(zaK _ g ts k bad 0 o d [33] hP3.out).mono ?_;rw[Hn.out];rintro x w4 ⟨rfl,hb4⟩;have hP4:=zH (hP3.out.later hb4);have hN4:=zH (zaa hgw hN3.out (za2 (g:=g) hb4));have hG4:=zH (za0 hG3.out (za2 (g:=g) hb4));clear hb4 hP3 hN3 hG3;go_wp2_with fail;refine(zaK _ g ts k bad 0 o d [40] hP4.out).mono ?_;rw[Hp.out];rintro x w5 ⟨rfl,hb5⟩;have hP5:=zH (hP4.out.later hb5);have hN5:=zH (zaa hgw hN4.out (za2 (g:=g) hb5));have hG5:=zH (za0 hG4.out (za2 (g:=g) hb5));clear hb5 hP4 hN4 hG4;go_wp2_with fail;refine(zcr _ g ts k bad 0 o d 4 4 rfl hP5.out).mono ?_;rintro x w6 ⟨rfl,hP6,hG6⟩;obtain⟨hr0,hr1,hsz⟩:=zaa hgw hN5.out hG6;have HG:=zH (za0 hG5.out hG6);have HP6:=zH hP6;clear hP6 hG6 hG5 hP5 hN5;obtain⟨q0,q1,q2,q3,f0,f1,f2,f3,hz0⟩:=blk4 hr0;obtain⟨p0,p1,p2,p3,g0,g1,g2,g3,hz1⟩:=blk4 hr1;clear hr0 hr1;go_wp2_with fail;refine bodyPost_ret (v:=.agg #[.int .i64 0,.int .i64 0,.string ⟨#[]⟩,.slice none 0 0]) (by simp[results,Tryz.results101,go_sem,q0,q1,q2,q3]) rfl ?_;exact zeB hgw HG.out (m:=k) (a:=k) (e0:=4) (by simpa using HP6.out) (by decide) _ _ _ _ ⟨0,0,[],none,0,0⟩ _ rfl
set_option maxRecDepth 100000 in
set_option maxHeartbeats 4000000 in
theorem zf3 (w:World) (g:Nat) (ts:List Tk.Tok) (k bad o d:Nat) (hP:Rsr w g ts k bad 0 o d) (hK2:zb2 ts k 0 2=false) (hK1:zb2 ts k 0 1=false)
  (hm:isB ts k 0 [45]=false) (hn:isB ts k 0 [33]=false) (hp:isB ts k 0 [40]=true) (ho24:o=24) :
  Calls Tryz.prog 101 #[.pointer (some ⟨g,0,none⟩)] w (zaI w g ts bad o d (.bad k 3)):=by
 have HP:=zH hP;have HK2:=zH hK2;have HK1:=zH hK1;have Hm:=zH hm;have Hn:=zH hn;have Hp:=zH hp;have hgw:=hP.lt;have Ho:=zH ho24;clear hP hK2 hK1 hm hn hp ho24;go_enter Tryz.func101,Tryz.ntmps101;go_wp2_with fail;refine(zaG _ g ts k bad 0 o d 2 2 rfl ((HP.out.alloc _).alloc _)).mono ?_;rw[HK2.out];rintro x w1 ⟨rfl,hb⟩;have hP1:=zH (((HP.out.alloc _).alloc _).later hb);obtain⟨hr0,hr1,-,hsz⟩:=zbS hb;have hN1:=zH (And.intro hr0 (And.intro hr1 hsz));have hG1:=zH (zbi (g:=g) hb);clear hr0 hr1 hsz hb;go_wp2_with fail;refine(zaG _ g ts k bad 0 o d 1 1 rfl hP1.out).mono ?_;rw[HK1.out];rintro x w2 ⟨rfl,hb2⟩;have hP2:=zH (hP1.out.later hb2);have hN2:=zH (zaa hgw hN1.out (za2 (g:=g) hb2));have hG2:=zH (za0 hG1.out (za2 (g:=g) hb2));clear hb2 hP1 hN1 hG1;go_wp2_with fail;refine(zaK _ g ts k bad 0 o d [45] hP2.out).mono ?_;rw[Hm.out];rintro x w3 ⟨rfl,hb3⟩;have hP3:=zH (hP2.out.later hb3);have hN3:=zH (zaa hgw hN2.out (za2 (g:=g) hb3));have hG3:=zH (za0 hG2.out (za2 (g:=g) hb3));clear hb3 hP2 hN2 hG2;go_wp2_with fail;refine(zaK _ g ts k bad 0 o d [33] hP3.out).mono ?_;rw[Hn.out];rintro x w4 ⟨rfl,hb4⟩;have hP4:=zH (hP3.out.later hb4);have hN4:=zH (zaa hgw hN3.out (za2 (g:=g) hb4));have hG4:=zH (za0 hG3.out (za2 (g:=g) hb4));clear hb4 hP3 hN3 hG3;go_wp2_with fail;refine(zaK _ g ts k bad 0 o d [40] hP4.out).mono ?_;rw[Hp.out];rintro x w5 ⟨rfl,hb5⟩;have hP5:=zH (hP4.out.later hb5);have hN5:=zH (zaa hgw hN4.out (za2 (g:=g) hb5));have hG5:=zH (za0 hG4.out (za2 (g:=g) hb5));clear hb5 hP4 hN4 hG4;go_wp2_with fail;refine(zc7 _ g ts k bad 0 o d (by have:=Ho.out;omega) hP5.out).mono ?_;rintro x w6 ⟨rfl,hP6,hG6⟩;obtain⟨hr0,hr1,hsz⟩:=zaa hgw hN5.out hG6;have HG:=zH (za0 hG5.out hG6);have hP7:Rsr w6 g ts k k 3 25 d:=by
  have:=Ho.out;subst this;simpa using hP6
 clear hP6 hG6 hG5 hP5 hN5;obtain⟨b,c,hne,hbl,c0,c1,c2,c3,c4,fr,hkm,ho,a0,a1,a2,v,a3⟩:=hP7.cells;have fr4:=fr 4;have hn1:g≠w.heap.size:=by omega
 have hn2:g≠w.heap.size+1:=by omega
 have HP7:=zH hP7;clear hP7 fr a0 a1 a2 a3;obtain⟨q0,q1,q2,q3,f0,f1,f2,f3,hz0⟩:=blk4 hr0;obtain⟨p0,p1,p2,p3,g0,g1,g2,g3,hz1⟩:=blk4 hr1;clear hr0 hr1;go_wp2_with fail;refine bodyPost_ret (v:=.agg #[.int .i64 0,.int .i64 0,.string ⟨#[]⟩,.slice none 0 0]) (by simp[results,Tryz.results101,go_sem,q0,q1,q2,q3]) rfl ?_;rw[Ho.out];exact zeB hgw (za0 HG.out (zaE _ _ _ _)) (m:=k) (a:=k) (e0:=3) (HP7.out.nest 24 (by decide)) (by decide) _ _ _ _ ⟨0,0,[],none,0,0⟩ _ rfl
theorem zfa {W w8:World} {g:Nat} {ts:List Tk.Tok} {bad o d:Nat} {R:Ps.R} {f:EF} (hok:∀x m,R=.ok x m→ExM w8 (W.heap.size≤·) x f∧Rsr w8 g ts m bad 0 o d) (hbad:∀a e0,R=.bad a e0→e0≠0∧∃m,Rsr w8 g ts m a e0 o d) :
  ∃m a e,Rsr w8 g ts m a e o d∧((∃x,R=.ok x m∧a=bad∧e=0∧ExM w8 (W.heap.size≤·) x f)∨(R=.bad a e∧e≠0)):=by
 cases R with
 | ok x m =>
  obtain⟨h1,h2⟩:=hok x m rfl;exact⟨m,bad,0,h2,Or.inl ⟨x,rfl,rfl,rfl,h1⟩⟩
 | bad a e =>
  obtain⟨h1,m,h2⟩:=hbad a e rfl;exact⟨m,a,e,h2,Or.inr ⟨rfl,h1⟩⟩
theorem zc5 {ts:List Tk.Tok} {k e:Nat} {s:List UInt8} (h:e≠0):isB ts k e s=false:=by simp[isB,h]
theorem zie {w w8 W X w9:World} {g:Nat} {ts:List Tk.Tok} {bad o d m a e:Nat} {R:Ps.R} {f:EF} (hgw:g<w.heap.size) (_hL:Ps.kindAt ts (ts.length-1)=5) (hW:WOk ts) (hGa:w.grownBy w8 (some g)) (hS:w.heap.size+1<W.heap.size)
  (hC:(∃x,R=.ok x m∧a=bad∧e=0∧ExM w8 (W.heap.size≤·) x f)∨(R=.bad a e∧e≠0)) (kX:∀b,b≠w.heap.size+1→X.heap[b]?=w8.heap[b]?) (sX:X.heap.size=w8.heap.size)
  (mX:X.os=w8.os∧X.tape=w8.tape∧X.output=w8.output) (hG:X.grownBy w9 (some g)) (hP:Rsr w9 g ts (zda ts m e [41]) (zet ts m a e [41]) (zes ts m e [41]) (o+1) d) (ho:o≤1000) (v0 v1 v2 v3:Value) (D C:World)
  (hD:D=w9.setCell ⟨g,4,none⟩ (.int .i64 (o:Int))) (hCC:C=set4 D w.heap.size v0 v1 v2 v3):zaI w g ts bad o d (R.bind fun x k'=>if Ps.sgn ts k'=[41] then .ok x (k'+1) else .bad k' 4) (.returned f.val) C:=by
 have hwX:w.grownBy X (some g):=⟨mX.1.trans hGa.os,mX.2.1.trans hGa.tape,mX.2.2.trans hGa.output,by rw[sX];exact hGa.size,fun b hlt hne=>(kX b (Nat.ne_of_lt (Nat.lt_succ_of_lt hlt))).trans (hGa.block b hlt hne)⟩;have hw9:=za0 hwX hG;have hPD:Rsr D g ts (zda ts m e [41]) (zet ts m a e [41]) (zes ts m e [41]) o d:=by rw[hD];exact hP.nest o ho
 have hwD:w.grownBy D (some g):=by rw[hD];exact za0 hw9 (zaE _ _ _ _)
 have kD:∀b,b≠g→D.heap[b]?=w9.heap[b]?:=fun b hne=>by rw[hD];exact Below.heap_setCell w9 _ _ b hne
 have sC:C.heap.size=D.heap.size:=by rw[hCC];exact zaj _ _ _ _ _ _
 have mC:C.os=D.os∧C.tape=D.tape∧C.output=D.output:=by rw[hCC];exact zbb _ _ _ _ _ _
 have kC:∀b,b≠w.heap.size→C.heap[b]?=D.heap[b]?:=fun b hne=>by rw[hCC];exact zai D _ _ _ _ _ b hne
 have hk9:zda ts m e [41]<ts.length:=hP.inT;have hm:m<ts.length:=by
  refine Nat.lt_of_le_of_lt ?_ hk9;unfold zda;split
  ·
   exact Nat.le_succ _
  ·
   exact lR _
 rcases hC with⟨x,hR,ha,he,hE⟩|⟨hR,he⟩
 ·
  subst ha;subst he;rw[hR];show zaI w g ts a o d (if Ps.sgn ts m=[41] then .ok x (m+1) else .bad m 4) _ _;have hI:=zdz (s:=[41]) hm hW (by simp) (by simp);by_cases h41:Ps.sgn ts m=[41]
  ·
   rw[if_pos h41];have hT:isB ts m 0 [41]=true:=by rw[hI];simp[h41]
   rw[zgg hT,show zet ts m a 0 [41]=a from if_pos hT,show zes ts m 0 [41]=0 from if_pos hT] at hPD;refine rf_fin rfl hgw hwD hPD (fun b h0 _=>kC b h0) (Nat.le_of_eq sC.symm) mC.1 mC.2.1 mC.2.2 ?_;refine(hE.keep fun b hb hlt=>?_).more fun b hb=>Nat.le_trans (Nat.le_of_lt (Nat.lt_of_succ_lt hS)) hb;have hb1:w.heap.size+1<b:=Nat.lt_of_lt_of_le hS hb;have hb2:g<b:=Nat.lt_trans hgw (Nat.lt_of_succ_lt hb1);rw[kC b (Nat.ne_of_gt (Nat.lt_of_succ_lt hb1)),kD b (Nat.ne_of_gt hb2),hG.block b (by rw[sX];exact hlt) (by intro h;injection h with h;exact absurd hb2 (by rw[h];exact Nat.lt_irrefl _)),kX b (Nat.ne_of_gt hb1)]
  ·
   rw[if_neg h41];have hF:isB ts m 0 [41]=false:=by rw[hI];simp[h41]
   have hF':¬isB ts m 0 [41]=true:=by rw[hF];decide
   rw[zdu hF,show zet ts m a 0 [41]=m from (if_neg hF').trans (if_pos rfl),show zes ts m 0 [41]=4 from (if_neg hF').trans (if_pos rfl)] at hPD;exact zeB hgw hwD hPD (by decide) v0 v1 v2 v3 f C hCC
 ·
  rw[hR];show zaI w g ts bad o d (.bad a e) _ _;have hF:=zc5 (ts:=ts) (k:=m) (s:=[41]) he;have hF':¬isB ts m e [41]=true:=by rw[hF];decide
  rw[zdu hF,show zet ts m a e [41]=a from (if_neg hF').trans (if_neg he),show zes ts m e [41]=e from (if_neg hF').trans (if_neg he)] at hPD;exact zeB hgw hwD hPD he v0 v1 v2 v3 f C hCC
set_option maxRecDepth 100000 in
set_option maxHeartbeats 4000000 in
theorem zfF (w:World) (g:Nat) (ts:List Tk.Tok) (k bad o d:Nat) (hP:Rsr w g ts k bad 0 o d) (hK2:zb2 ts k 0 2=false) (hK1:zb2 ts k 0 1=false)
  (hm:isB ts k 0 [45]=false) (hn:isB ts k 0 [33]=false) (hp:isB ts k 0 [40]=true) (ho24:o<24) (hlast:Ps.kindAt ts (ts.length-1)=5) (hW:WOk ts)
  (hB:∀w',Rsr w' g ts (k+1) bad 0 (o+1) d→Calls Tryz.prog 73 #[.pointer (some ⟨g,0,none⟩),.int .i64 0] w' (zaI w' g ts bad (o+1) d (Ps.PE ts 1 (o+1) (k+1)))) :
  Calls Tryz.prog 101 #[.pointer (some ⟨g,0,none⟩)] w (zaI w g ts bad o d ((Ps.PE ts 1 (o+1) (k+1)).bind fun x k'=>if Ps.sgn ts k'=[41] then .ok x (k'+1) else .bad k' 4)):=by
 have HP:=zH hP;have HK2:=zH hK2;have HK1:=zH hK1;have Hm:=zH hm;have Hn:=zH hn;have Hp:=zH hp;have hgw:=hP.lt;have Ho:=zH ho24;have HL:=zH hlast;have HW:=zH hW;have HB:=zH hB;have hk1:k+1<ts.length:=Ps.next_in hlast hP.inT (zci hp);clear hP hK2 hK1 hm hn hp ho24 hlast hW hB;go_enter Tryz.func101,Tryz.ntmps101;go_wp2_with fail;refine(zaG _ g ts k bad 0 o d 2 2 rfl ((HP.out.alloc _).alloc _)).mono ?_;rw[HK2.out];rintro x w1 ⟨rfl,hb⟩;have hP1:=zH (((HP.out.alloc _).alloc _).later hb);obtain⟨hr0,hr1,-,hsz⟩:=zbS hb;have hN1:=zH (And.intro hr0 (And.intro hr1 hsz));have hG1:=zH (zbi (g:=g) hb);clear hr0 hr1 hsz hb;go_wp2_with fail;refine(zaG _ g ts k bad 0 o d 1 1 rfl hP1.out).mono ?_;rw[HK1.out];rintro x w2 ⟨rfl,hb2⟩;have hP2:=zH (hP1.out.later hb2);have hN2:=zH (zaa hgw hN1.out (za2 (g:=g) hb2));have hG2:=zH (za0 hG1.out (za2 (g:=g) hb2));clear hb2 hP1 hN1 hG1;go_wp2_with fail;refine(zaK _ g ts k bad 0 o d [45] hP2.out).mono ?_;rw[Hm.out];rintro x w3 ⟨rfl,hb3⟩;have hP3:=zH (hP2.out.later hb3);have hN3:=zH (zaa hgw hN2.out (za2 (g:=g) hb3));have hG3:=zH (za0 hG2.out (za2 (g:=g) hb3));clear hb3 hP2 hN2 hG2;go_wp2_with fail;refine(zaK _ g ts k bad 0 o d [33] hP3.out).mono ?_;rw[Hn.out];rintro x w4 ⟨rfl,hb4⟩;have hP4:=zH (hP3.out.later hb4);have hN4:=zH (zaa hgw hN3.out (za2 (g:=g) hb4));have hG4:=zH (za0 hG3.out (za2 (g:=g) hb4));clear hb4 hP3 hN3 hG3;go_wp2_with fail;refine(zaK _ g ts k bad 0 o d [40] hP4.out).mono ?_;rw[Hp.out];rintro x w5 ⟨rfl,hb5⟩;have hP5:=zH (hP4.out.later hb5);have hN5:=zH (zaa hgw hN4.out (za2 (g:=g) hb5));have hG5:=zH (za0 hG4.out (za2 (g:=g) hb5));clear hb5 hP4 hN4 hG4;go_wp2_with fail;refine(zc7 _ g ts k bad 0 o d (by have:=Ho.out;omega) hP5.out).mono ?_;rintro x w6 ⟨rfl,hP6,hG6⟩;have hN6:=zH (zaa hgw hN5.out hG6);have hG6':=zH (za0 hG5.out hG6);have hP7:Rsr w6 g ts k bad 0 (o+1) d:=by
  have h24:¬o=24:=by have:=Ho.out;omega
  simpa[h24] using hP6
 clear hP6 hG6 hG5 hP5 hN5;obtain⟨b,c,hne,hbl,c0,c1,c2,c3,c4,fr,hkm,ho,a0,a1,a2,v,a3⟩:=hP7.cells;have fr1:=fr 1;have hP8:=hP7.at (k+1) hk1;rw[show (((k+1:Nat):Nat):Int)=(k:Int)+1 from rfl] at hP8;have HP8:=zH hP8;have HG8:=zH (za0 hG6'.out (zaE w6 g 1 (.int .i64 ((k:Int)+1))));have HN8:=zH (zaa hgw hN6.out (zaE w6 g 1 (.int .i64 ((k:Int)+1))));clear hP7 hP8 fr a0 a1 a2 a3 hN6 hG6' hbl c0 c2 c4;go_wp2_with fail;refine(HB.out _ HP8.out).mono ?_;rintro x w8 ⟨f,rfl,hG,hok,hbad⟩;unfold EF.val;obtain⟨hr0,hr1,hsz⟩:=zaa hgw HN8.out hG;have hsz7:=HN8.out.2.2;have HGa:=zH (za0 HG8.out hG);have hst:=zfa hok hbad;obtain⟨m,a,e,hP9,hcase⟩:=hst;have HC:=zH hcase;have HS7:=zH hsz7;clear hG hok hbad hcase hsz7 HP8 HN8 HG8 HB c1 c3 fr1;obtain⟨p0,p1,p2,p3,g0,g1,g2,g3,hz1⟩:=blk4 hr1;have hx:(set4 w8 (w.heap.size+1) (.int .i64 f.op) (.int .i64 f.num) (.string ⟨f.name.toArray⟩) (.slice f.A f.n f.c)).heap[w.heap.size+1]?=_:=zgj hr1 _ _ _ _;have hx0:(set4 w8 (w.heap.size+1) (.int .i64 f.op) (.int .i64 f.num) (.string ⟨f.name.toArray⟩) (.slice f.A f.n f.c)).heap[w.heap.size]?=_:=(zai w8 _ _ _ _ _ w.heap.size (Nat.ne_of_lt (Nat.lt_succ_self _))).trans hr0;have hPx:Rsr (set4 w8 (w.heap.size+1) (.int .i64 f.op) (.int .i64 f.num) (.string ⟨f.name.toArray⟩) (.slice f.A f.n f.c)) g ts m a e (o+1) d:=hP9.keep fun b hle=>zai w8 _ _ _ _ _ b (Nat.ne_of_lt (Nat.lt_succ_of_lt (Nat.lt_of_le_of_lt hle hgw)));have hsx:w.heap.size+1<(set4 w8 (w.heap.size+1) (.int .i64 f.op) (.int .i64 f.num) (.string ⟨f.name.toArray⟩) (.slice f.A f.n f.c)).heap.size:=by rw[zaj];exact hsz
 have HNx:=zH (And.intro hx0 (And.intro hx hsx));have HPx:=zH hPx;clear hx hx0 hPx hsx hr0 hr1 hP9;go_wp2_with fail;refine(ze7 _ g ts m a e (o+1) d [41] HL.out HPx.out).mono ?_;rintro x w9 ⟨rfl,hP10,hG10⟩;obtain⟨hr0,hr1,hsz2⟩:=zaa hgw HNx.out hG10;obtain⟨b2,c2,hne2,-,-,-,-,-,d4,fr2,-,-,-,-,-,-⟩:=hP10.cells;have fr4:=fr2 4;have hn1:g≠w.heap.size:=Nat.ne_of_lt hgw;have hn2:g≠w.heap.size+1:=Nat.ne_of_lt (Nat.lt_succ_of_lt hgw);have HP10:=zH hP10;have HG10:=zH hG10;clear hP10 hG10 fr2 p0 p1 p2 p3 g0 g1 g2 g3 hz1;obtain⟨q0,q1,q2,q3,f0,f1,f2,f3,hz0⟩:=blk4 hr0;obtain⟨p0,p1,p2,p3,g0,g1,g2,g3,hz1⟩:=blk4 hr1;clear hr0 hr1;rw[show (((o+1:Nat):Nat):Int)=(o:Int)+1 from rfl] at d4;go_wp2_with fail;refine bodyPost_ret (v:=f.val) (by simp[EF.val,results,Tryz.results101,go_sem,q0,q1,q2,q3]) rfl ?_;exact zie hgw HL.out HW.out HGa.out HS7.out HC.out (fun b hne=>zai w8 _ _ _ _ _ b hne) (zaj w8 _ _ _ _ _) (zbb w8 _ _ _ _ _) HG10.out HP10.out (by have:=Ho.out;omega) _ _ _ _ _ _ rfl rfl
theorem zeH {w w3:World} {g:Nat} {ts:List Tk.Tok} {k bad e o d:Nat} {o1:Obj} {c0 c1 c2 c3:Value} {t:TypeId} (hgw:g<w.heap.size)
  (hN:w3.heap[w.heap.size]?=some o1∧w3.heap[w.heap.size+1]?=some (.cells #[c0,c1,c2,c3] t (0,0))∧w.heap.size+1<w3.heap.size) (hP:Rsr w3 g ts k bad e o d) (hG:w.grownBy w3 (some g)) (u:Value) :
  ((w3.setCell ⟨w.heap.size+1,0,none⟩ u).heap[w.heap.size]?=some o1∧(w3.setCell ⟨w.heap.size+1,0,none⟩ u).heap[w.heap.size+1]?=some (.cells #[u,c1,c2,c3] t (0,0))∧w.heap.size+1<(w3.setCell ⟨w.heap.size+1,0,none⟩ u).heap.size) ∧
   Rsr (w3.setCell ⟨w.heap.size+1,0,none⟩ u) g ts k bad e o d∧w.grownBy (w3.setCell ⟨w.heap.size+1,0,none⟩ u) (some g):=by
 obtain⟨h0,h1,h2⟩:=hN;have hk:∀b,b≠w.heap.size+1→(w3.setCell ⟨w.heap.size+1,0,none⟩ u).heap[b]?=w3.heap[b]?:=fun b hne=>Below.heap_setCell w3 _ _ b hne;have hs:=zdV w3 ⟨w.heap.size+1,0,none⟩ u;have hm:=zdW w3 ⟨w.heap.size+1,0,none⟩ u;refine⟨⟨(hk _ (Nat.ne_of_lt (Nat.lt_succ_self _))).trans h0,?_,by rw[hs];exact h2⟩,hP.keep fun b hle=>hk b (Nat.ne_of_lt (Nat.lt_succ_of_lt (Nat.lt_of_le_of_lt hle hgw))),⟨hm.1.trans hG.os,hm.2.1.trans hG.tape,hm.2.2.trans hG.output,by rw[hs];exact hG.size,fun b hlt hne=>(hk b (Nat.ne_of_lt (Nat.lt_succ_of_lt hlt))).trans (hG.block b hlt hne)⟩⟩;simp[World.setCell,Array.getElem?_modify,h1]
set_option maxRecDepth 100000 in
set_option maxHeartbeats 4000000 in
theorem zf6 (w:World) (g:Nat) (ts:List Tk.Tok) (k bad o d:Nat) (hP:Rsr w g ts k bad 0 o d) (hK2:zb2 ts k 0 2=false) (hK1:zb2 ts k 0 1=false)
  (hm:isB ts k 0 [45]=true) (ho24:o=24) :
  Calls Tryz.prog 101 #[.pointer (some ⟨g,0,none⟩)] w (zaI w g ts bad o d (.bad k 3)):=by
 have HP:=zH hP;have HK2:=zH hK2;have HK1:=zH hK1;have Hm:=zH hm;have hgw:=hP.lt;have Ho:=zH ho24;clear hP hK2 hK1 hm ho24;go_enter Tryz.func101,Tryz.ntmps101;go_wp2_with fail;refine(zaG _ g ts k bad 0 o d 2 2 rfl ((HP.out.alloc _).alloc _)).mono ?_;rw[HK2.out];rintro x w1 ⟨rfl,hb⟩;have hP1:=zH (((HP.out.alloc _).alloc _).later hb);obtain⟨hr0,hr1,-,hsz⟩:=zbS hb;have hN1:=zH (And.intro hr0 (And.intro hr1 hsz));have hG1:=zH (zbi (g:=g) hb);clear hr0 hr1 hsz hb;go_wp2_with fail;refine(zaG _ g ts k bad 0 o d 1 1 rfl hP1.out).mono ?_;rw[HK1.out];rintro x w2 ⟨rfl,hb2⟩;have hP2:=zH (hP1.out.later hb2);have hN2:=zH (zaa hgw hN1.out (za2 (g:=g) hb2));have hG2:=zH (za0 hG1.out (za2 (g:=g) hb2));clear hb2 hP1 hN1 hG1;go_wp2_with fail;refine(zaK _ g ts k bad 0 o d [45] hP2.out).mono ?_;rw[Hm.out];rintro x w3 ⟨rfl,hb3⟩;have hP3:=zH (hP2.out.later hb3);have hN3:=zH (zaa hgw hN2.out (za2 (g:=g) hb3));have hG3:=zH (za0 hG2.out (za2 (g:=g) hb3));clear hb3 hP2 hN2 hG2;obtain⟨hr0,hr1,hsz⟩:=hN3.out;obtain⟨p0,p1,p2,p3,g0,g1,g2,g3,hz1⟩:=blk4 hr1;have hn2:g≠w.heap.size+1:=Nat.ne_of_lt (Nat.lt_succ_of_lt hgw);have hX:=zeH hgw hN3.out hP3.out hG3.out (.int .i64 4);have hNX:=zH hX.1;have hPX:=zH hX.2.1;have hGX:=zH hX.2.2;clear hr0 hr1 hX hN3 hP3 hG3;go_wp2_with fail;refine(zaK _ g ts k bad 0 o d [45] hPX.out).mono ?_;rw[Hm.out];rintro x w4 ⟨rfl,hb4⟩;have hP4:=hPX.out.later hb4;have hN4:=zaa hgw hNX.out (za2 (g:=g) hb4);have hG4:=za0 hGX.out (za2 (g:=g) hb4);have hY:=zeH hgw hN4 hP4 hG4 (.int .i64 3);clear hb4 hNX hPX hGX p0 p1 p2 p3 g0 g1 g2 g3 hz1 hsz;obtain⟨p0,p1,p2,p3,g0,g1,g2,g3,hz1⟩:=blk4 hN4.2.1;have hNY:=zH hY.1;have hPY:=zH hY.2.1;have hGY:=zH hY.2.2;clear hY hN4 hP4 hG4;go_wp2_with fail;refine(zc7 _ g ts k bad 0 o d (by have:=Ho.out;omega) hPY.out).mono ?_;rintro x w6 ⟨rfl,hP6,hG6⟩;clear p0 p1 p2 p3 g0 g1 g2 g3 hz1;obtain⟨hr0,hr1,hsz⟩:=zaa hgw hNY.out hG6;have HG:=zH (za0 hGY.out hG6);have hP7:Rsr w6 g ts k k 3 25 d:=by
  have:=Ho.out;subst this;simpa using hP6
 clear hP6 hG6 hGY hPY hNY;obtain⟨b,c,hne,hbl,c0,c1,c2,c3,c4,fr,hkm,ho,a0,a1,a2,v,a3⟩:=hP7.cells;have fr4:=fr 4;have hn1:g≠w.heap.size:=Nat.ne_of_lt hgw;have HP7:=zH hP7;clear hP7 fr a0 a1 a2 a3;obtain⟨q0,q1,q2,q3,f0,f1,f2,f3,hz0⟩:=blk4 hr0;obtain⟨p0,p1,p2,p3,g0,g1,g2,g3,hz1⟩:=blk4 hr1;clear hr0 hr1;go_wp2_with fail;refine bodyPost_ret (v:=.agg #[.int .i64 3,.int .i64 0,.string ⟨#[]⟩,.slice none 0 0]) (by simp[results,Tryz.results101,go_sem,q0,q1,q2,q3]) rfl ?_;rw[Ho.out];exact zeB hgw (za0 HG.out (zaE _ _ _ _)) (m:=k) (a:=k) (e0:=3) (HP7.out.nest 24 (by decide)) (by decide) _ _ _ _ ⟨3,0,[],none,0,0⟩ _ rfl
set_option maxRecDepth 100000 in
set_option maxHeartbeats 4000000 in
theorem zf4 (w:World) (g:Nat) (ts:List Tk.Tok) (k bad o d:Nat) (hP:Rsr w g ts k bad 0 o d) (hK2:zb2 ts k 0 2=false) (hK1:zb2 ts k 0 1=false)
  (hm:isB ts k 0 [45]=false) (hn:isB ts k 0 [33]=true) (ho24:o=24) :
  Calls Tryz.prog 101 #[.pointer (some ⟨g,0,none⟩)] w (zaI w g ts bad o d (.bad k 3)):=by
 have HP:=zH hP;have HK2:=zH hK2;have HK1:=zH hK1;have Hm:=zH hm;have Hn:=zH hn;have hgw:=hP.lt;have Ho:=zH ho24;clear hP hK2 hK1 hm hn ho24;go_enter Tryz.func101,Tryz.ntmps101;go_wp2_with fail;refine(zaG _ g ts k bad 0 o d 2 2 rfl ((HP.out.alloc _).alloc _)).mono ?_;rw[HK2.out];rintro x w1 ⟨rfl,hb⟩;have hP1:=zH (((HP.out.alloc _).alloc _).later hb);obtain⟨hr0,hr1,-,hsz⟩:=zbS hb;have hN1:=zH (And.intro hr0 (And.intro hr1 hsz));have hG1:=zH (zbi (g:=g) hb);clear hr0 hr1 hsz hb;go_wp2_with fail;refine(zaG _ g ts k bad 0 o d 1 1 rfl hP1.out).mono ?_;rw[HK1.out];rintro x w2 ⟨rfl,hb2⟩;have hP2:=zH (hP1.out.later hb2);have hN2:=zH (zaa hgw hN1.out (za2 (g:=g) hb2));have hG2:=zH (za0 hG1.out (za2 (g:=g) hb2));clear hb2 hP1 hN1 hG1;go_wp2_with fail;refine(zaK _ g ts k bad 0 o d [45] hP2.out).mono ?_;rw[Hm.out];rintro x w3 ⟨rfl,hb3⟩;have hP3:=zH (hP2.out.later hb3);have hN3:=zH (zaa hgw hN2.out (za2 (g:=g) hb3));have hG3:=zH (za0 hG2.out (za2 (g:=g) hb3));clear hb3 hP2 hN2 hG2;go_wp2_with fail;refine(zaK _ g ts k bad 0 o d [33] hP3.out).mono ?_;rw[Hn.out];rintro x w4 ⟨rfl,hb4⟩;have hP4:=zH (hP3.out.later hb4);have hN4:=zH (zaa hgw hN3.out (za2 (g:=g) hb4));have hG4:=zH (za0 hG3.out (za2 (g:=g) hb4));clear hb4 hP3 hN3 hG3;obtain⟨hr0,hr1,hsz⟩:=hN4.out;obtain⟨p0,p1,p2,p3,g0,g1,g2,g3,hz1⟩:=blk4 hr1;have hn2:g≠w.heap.size+1:=Nat.ne_of_lt (Nat.lt_succ_of_lt hgw);have hX:=zeH hgw hN4.out hP4.out hG4.out (.int .i64 4);have hNX:=zH hX.1;have hPX:=zH hX.2.1;have hGX:=zH hX.2.2;clear hr0 hr1 hX hN4 hP4 hG4;go_wp2_with fail;refine(zaK _ g ts k bad 0 o d [45] hPX.out).mono ?_;rw[Hm.out];rintro x w5 ⟨rfl,hb5⟩;have hPY:=zH (hPX.out.later hb5);have hNY:=zH (zaa hgw hNX.out (za2 (g:=g) hb5));have hGY:=zH (za0 hGX.out (za2 (g:=g) hb5));clear hb5 hNX hPX hGX hsz;go_wp2_with fail;refine(zc7 _ g ts k bad 0 o d (by have:=Ho.out;omega) hPY.out).mono ?_;rintro x w6 ⟨rfl,hP6,hG6⟩;clear p0 p1 p2 p3 g0 g1 g2 g3 hz1;obtain⟨hr0,hr1,hsz⟩:=zaa hgw hNY.out hG6;have HG:=zH (za0 hGY.out hG6);have hP7:Rsr w6 g ts k k 3 25 d:=by
  have:=Ho.out;subst this;simpa using hP6
 clear hP6 hG6 hGY hPY hNY;obtain⟨b,c,hne,hbl,c0,c1,c2,c3,c4,fr,hkm,ho,a0,a1,a2,v,a3⟩:=hP7.cells;have fr4:=fr 4;have hn1:g≠w.heap.size:=Nat.ne_of_lt hgw;have HP7:=zH hP7;clear hP7 fr a0 a1 a2 a3;obtain⟨q0,q1,q2,q3,f0,f1,f2,f3,hz0⟩:=blk4 hr0;obtain⟨p0,p1,p2,p3,g0,g1,g2,g3,hz1⟩:=blk4 hr1;clear hr0 hr1;go_wp2_with fail;refine bodyPost_ret (v:=.agg #[.int .i64 4,.int .i64 0,.string ⟨#[]⟩,.slice none 0 0]) (by simp[results,Tryz.results101,go_sem,q0,q1,q2,q3]) rfl ?_;rw[Ho.out];exact zeB hgw (za0 HG.out (zaE _ _ _ _)) (m:=k) (a:=k) (e0:=3) (HP7.out.nest 24 (by decide)) (by decide) _ _ _ _ ⟨4,0,[],none,0,0⟩ _ rfl
end Go.Proofs.YtlnbmmgbfgmboaaGreatDoor
