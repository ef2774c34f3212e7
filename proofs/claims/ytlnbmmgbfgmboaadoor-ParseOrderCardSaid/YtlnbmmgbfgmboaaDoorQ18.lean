import Derived.Test.YtlnbmmgbfgmboaaDoorQ3
import Derived.Test.YtlnbmmgbfgmboaaDoorPp15G
import Derived.Test.YtlnbmmgbfgmboaaDoorQ2
import Derived.Test.YtlnbmmgbfgmboaaDoorQ8
import Derived.Lib.SlBytesConst
import Derived.Test.YtlnbmmgbfgmboaaDoorQ4
namespace Go.Proofs.YtlnbmmgbfgmboaaDoor
structure LexOk (ts:List Tk.Tok):Prop where
 pos:0<ts.length
 last:Ps.kindAt ts (ts.length-1)=5
 num:∀k,Ps.numAt ts k≤9223372036854775807
def ziD (ts:List Tk.Tok) (k:Nat):Nat:=match ts[k]? with|some t=>t.pos|none=>0
def noPg:Pg:=⟨[],[],[]⟩
def zhD (ts:List Tk.Tok) (n:Nat):Pg × Nat × Nat :=
 if (Pa.sProg ts ts.length (.at_ 0) noPg).2.live=true then ((Pa.sProg ts ts.length (.at_ 0) noPg).1,n,0) else (noPg,ziD ts (Pa.sProg ts ts.length (.at_ 0) noPg).2.k,(Pa.sProg ts ts.length (.at_ 0) noPg).2.e)
def zbH (l:List UInt8):Pg × Nat × Nat:=if (Tk.lex l).2.2=0 then zhD (Tk.lex l).1 l.length else (noPg,(Tk.lex l).2.1,(Tk.lex l).2.2)
end Go.Proofs.YtlnbmmgbfgmboaaDoor

namespace Go.Proofs.YtlnbmmgbfgmboaaDoor
open Go.RowKit
def zfj (w:World) (V:Pg × Nat × Nat) (e:Ending) (w':World):Prop :=
 ∃vG vM vF PG PM PF B,e=.returned (.tuple #[.agg #[vG,vM,vF],.int .i64 (V.2.1:Int),.int .i64 (V.2.2:Int)])∧w.heap.size≤B∧PgR w' B vG vM vF PG PM PF∧V.1=⟨PG,PM,PF.map (·.1)⟩∧Below w.heap.size w w'
theorem pps_new {w:World} {ts:List Tk.Tok} {A:Option Addr} {c:Nat} (hT:TokS w A ts) (hL:LexOk ts) (hn:ts.length≤1000000) :
  Pps (w.alloc (.cells #[.slice A ts.length c,.int .i64 0,.int .i64 0,.int .i64 0] 64)) w.heap.size ts (.at_ 0) 0:=by
 refine⟨A,c,heap_alloc_new w _,hL.pos,by omega,hn,(fun h=>by cases h),hL.last,fun i hi=>?_⟩
 obtain⟨b,e,h0,h1,h2,h3⟩:=hT i hi
 have hbl:b<w.heap.size:=World.block_lt_of_cell? _ _ h0
 have e1:∀o',(w.alloc (.cells #[.slice A ts.length c,.int .i64 0,.int .i64 0,.int .i64 0] 64)).cell? ⟨b,o',none⟩=w.cell? ⟨b,o',none⟩:=fun o'=>World.cell?_of_block (Below.heap_alloc w _ b hbl)
 exact⟨b,e,hbl,(e1 _).trans h0,(e1 _).trans h1,(e1 _).trans h2,(e1 _).trans h3⟩
theorem zdD {w w' w'':World} {r:Nat} (h:Below w.heap.size w w') (hp:PutAt r w' w'') (hr:w.heap.size≤r):Below w.heap.size w w'' :=
 ⟨hp.1.trans h.os,hp.2.1.trans h.tape,hp.2.2.1.trans h.output,by have:=h.size;have:=hp.2.2.2.1;omega,fun b hb=>(hp.2.2.2.2 b (by omega)).trans (h.block b hb)⟩
set_option maxRecDepth 100000 in
set_option maxHeartbeats 4000000 in
theorem zcF (l:List UInt8) (ao:Option Addr) (cap:Nat) (w:World) (hB:Byt w ao l) (hl:l.length≤262144) (hcap:l.length≤cap) (hS:SgT w) (hL:(Tk.lex l).2.2=0→LexOk (Tk.lex l).1) :
  Calls Tryd.prog 7 #[.slice ao l.length cap] w (zfj w (zbH l)):=by
 have HLX:=Lib.hid (fun (o:Obj)=>lex_any l ao cap (w.alloc o) (hB.later ((Below.refl _ _).alloc (Nat.le_refl _) _)) hl hcap)
 have hlen:=zgv l
 have HS:=Lib.hid hS
 have HL:=Lib.hid hL
 have HV:Hid (zbH l=if (Tk.lex l).2.2=0 then zhD (Tk.lex l).1 l.length else (noPg,(Tk.lex l).2.1,(Tk.lex l).2.2)):=rfl
 clear hB hcap hS hL
 go_enter Tryd.func7,Tryd.ntmps7
 go_wp2_with fail
 refine(HLX.out _).mono ?_
 intro e w1 hLP
 obtain⟨A,c,rfl,hT,hb1⟩:=zcH hLP
 have HT:=Lib.hid hT
 have HR1:=Lib.hid ((hb1.block w.heap.size (by simp)).trans (heap_alloc_new w _))
 have HB1:Hid (Below w.heap.size w w1):=zae (w1:=w.alloc _) hb1 ((Below.refl _ _).alloc (Nat.le_refl _) _)
 have hl1:w.heap.size<w1.heap.size:=lt_of_block HR1.out
 clear hLP hT hb1 HLX
 generalize (Tk.lex l).1=ts at *
 generalize (Tk.lex l).2.1=n0 at *
 generalize (Tk.lex l).2.2=e0 at *
 by_cases he:e0=0
 ·
  subst he
  have hLO:=HL.out rfl
  have HLO:=Lib.hid hLO
  have HV2:Hid (zbH l=zhD ts l.length):=HV.out.trans (if_pos rfl)
  have hP1:=pps_new (c:=c) HT.out hLO (by omega)
  have HSG:Hid (SgG (w1.alloc (.cells #[.slice A ts.length c,.int .i64 0,.int .i64 0,.int .i64 0] 64)) w1.heap.size):=⟨(HS.out.later HB1.out).later ((Below.refl _ _).alloc (Nat.le_refl _) _),(HS.out.later HB1.out).lt⟩
  have HP1:=Lib.hid hP1
  clear hLO hP1 HV HL
  go_wp2_with fail
  refine(zfF _ w1.heap.size ts HLO.out.num (.at_ 0) ts.length (by simp) HP1.out HSG.out).mono ?_
  rintro x w2 ⟨vG,vM,vF,PG,PM,PF,rfl,hPg,hval,hP2,hG2⟩
  have HPg:=Lib.hid hPg
  have HP2:=Lib.hid hP2
  have HR2:=Lib.hid (za2 hG2 ((Below.heap_alloc w1 _ w.heap.size hl1).trans HR1.out) (by omega))
  have hl2:w1.heap.size<w2.heap.size:=hP2.lt
  have HG2:=Lib.hid hG2
  have HV3:Hid (zbH l=if (Pa.sProg ts ts.length (.at_ 0) ⟨[],[],[]⟩).2.live=true then ((Pa.sProg ts ts.length (.at_ 0) ⟨[],[],[]⟩).1,l.length,0) else (noPg,ziD ts (Pa.sProg ts ts.length (.at_ 0) ⟨[],[],[]⟩).2.k,(Pa.sProg ts ts.length (.at_ 0) ⟨[],[],[]⟩).2.e)):=HV2.out
  have HVA:=Lib.hid hval
  clear hPg hP2 hG2 hval HV2 HP1 HSG HR1
  generalize Pa.sProg ts ts.length (.at_ 0) ⟨[],[],[]⟩=R at *
  obtain⟨p,τ⟩:=R
  obtain⟨AG,cG,rfl⟩:=zaJ HPg.out.rG
  obtain⟨AM,cM,rfl⟩:=zaJ HPg.out.rM
  obtain⟨AF,cF,rfl⟩:=zaJ HPg.out.rF
  have HRn:=Lib.hid ((Below.heap_alloc w2 (.cells #[.slice AG PG.length cG,.slice AM PM.length cM,.slice AF PF.length cF] 27) w.heap.size (by omega)).trans HR2.out)
  have HPn:Hid (Pps (w2.alloc (.cells #[.slice AG PG.length cG,.slice AM PM.length cM,.slice AF PF.length cF] 27)) w1.heap.size ts τ 0):=HP2.out.alloc _
  have HBn:Hid (Below w.heap.size w (w2.alloc (.cells #[.slice AG PG.length cG,.slice AM PM.length cM,.slice AF PF.length cF] 27))) :=
   HB1.out.trans ⟨HG2.out.os,HG2.out.tape,HG2.out.output,by have:=HG2.out.size;simp at this ⊢;omega,fun b hb=>(Below.heap_alloc w2 _ b (by omega)).trans ((HG2.out.block b (by simp;omega) (fun e=>by injection e with e;omega)).trans (Below.heap_alloc w1 _ b (by omega)))⟩
  have HTn:Hid (TokS (w2.alloc (.cells #[.slice AG PG.length cG,.slice AM PM.length cM,.slice AF PF.length cF] 27)) A ts):=fun i hi=>by
   obtain⟨b,e,h0,h1,h2,h3⟩:=HT.out i hi
   have hbl:b<w1.heap.size:=World.block_lt_of_cell? _ _ h0
   have e1:∀o',(w2.alloc (.cells #[.slice AG PG.length cG,.slice AM PM.length cM,.slice AF PF.length cF] 27)).cell? ⟨b,o',none⟩=w1.cell? ⟨b,o',none⟩:=fun o'=>World.cell?_of_block ((Below.heap_alloc w2 _ b (by omega)).trans ((HG2.out.block b (by simp;omega) (fun e=>by injection e with e;omega)).trans (Below.heap_alloc w1 _ b (by omega))))
   exact⟨b,e,(e1 _).trans h0,(e1 _).trans h1,(e1 _).trans h2,(e1 _).trans h3⟩
  obtain⟨n0',n1',n2',-,-⟩:=blk3 (heap_alloc_new w2 (.cells #[.slice AG PG.length cG,.slice AM PM.length cM,.slice AF PF.length cF] 27))
  obtain⟨r0,r1,r2,rf,-⟩:=blk3 HRn.out
  have f0:=rf 0
  have f1:=rf 1
  have f2:=rf 2
  clear rf
  obtain⟨br,cr,-,-,-,s1,-,s3,-⟩:=HPn.out.cells
  cases τ with
  | at_ k0 =>
   have t0:(((Pa.Sg.at_ k0).e:Int) != 0)=false:=rfl
   have HV4:Hid (zbH l=(p,l.length,0)):=HV3.out
   have HV5:Hid (p=⟨PG,PM,PF.map (·.1)⟩):=HVA.out rfl
   clear HV3 HVA s1 HTn
   go_wp2_with fail
   have hq:PutAt w.heap.size (w2.alloc (.cells #[.slice AG PG.length cG,.slice AM PM.length cM,.slice AF PF.length cF] 27)) _:=(((PutAt.refl w.heap.size _).set 0 (.slice AG PG.length cG)).set 1 (.slice AM PM.length cM)).set 2 (.slice AF PF.length cF)
   refine bodyPost_ret (v:=.tuple #[.agg #[.slice AG PG.length cG,.slice AM PM.length cM,.slice AF PF.length cF],.int .i64 (l.length:Int),.int .i64 0]) (by simp[results,Tryd.results7,go_sem,r0,r1,r2]) rfl ⟨_,_,_,PG,PM,PF,(w1.alloc (.cells #[.slice A ts.length c,.int .i64 0,.int .i64 0,.int .i64 0] 64)).heap.size+2,by rw[HV4.out];rfl,by simp;omega,(HPg.out.alloc _).putAt hq (by simp;omega),by rw[HV4.out,HV5.out],zdD HBn.out hq (Nat.le_refl _)⟩
  | bad m e =>
   have he:e≠0:=HP2.out.err rfl
   have t0:(((Pa.Sg.bad m e).e:Int) != 0)=true:=nT (show ((e:Nat):Int)≠0 by omega)
   have HV4:Hid (zbH l=(noPg,ziD ts m,e)):=HV3.out
   have hm:m<ts.length:=by obtain⟨_,_,_,h,_⟩:=HP2.out;exact h
   have e1:(Pa.Sg.bad m e).k=m:=rfl
   have e2:(Pa.Sg.bad m e).e=e:=rfl
   rw[e1] at s1
   rw[e2] at s3 t0
   have hm4:ts.length≤4001:=hlen
   have hwn:w.heap.size≠w1.heap.size:=by omega
   have hnw:w1.heap.size≠w.heap.size:=by omega
   obtain⟨b,hA,h0,-,-,h3⟩:=HTn.out m hm
   have hbw:b≠w.heap.size:=by
    rintro rfl
    have hx:=HRn.out
    simp[World.cell?,hx] at h3
   have hwb:w.heap.size≠b:=hbw.symm
   have HM:Hid (ziD ts m=ts[m].pos):=by show _=_;unfold ziD;rw[List.getElem?_eq_getElem hm]
   have i0:(0:Int)≤(m:Int):=by omega
   have i1:(m:Int)<(ts.length:Int):=by omega
   generalize ts[m].pos=q at *
   generalize ts[m].kind=q' at *
   subst hA
   clear HV3 HVA e1 e2 he HTn HPn HP2 HG2 HT HPg HRn HR2 n0' n1' n2' h0
   go_wp2_with fail
   generalize w2.alloc (.cells #[.slice AG PG.length cG,.slice AM PM.length cM,.slice AF PF.length cF] 27)=W at *
   go_region
   all_goals
    go_wp2
    have hq:PutAt w.heap.size W _:=(((PutAt.refl w.heap.size W).set 0 (.slice none 0 0)).set 1 (.slice none 0 0)).set 2 (.slice none 0 0)
    refine bodyPost_ret (v:=.tuple #[.agg #[.slice none 0 0,.slice none 0 0,.slice none 0 0],.int .i64 (q:Int),.int .i64 (e:Int)]) (by simp[results,Tryd.results7,go_sem,r0,r1,r2]) rfl ⟨_,_,_,[],[],[],w.heap.size,by rw[HV4.out,HM.out],Nat.le_refl _,PgR.nil _ _,by rw[HV4.out];rfl,(zdD HBn.out hq (Nat.le_refl _)).drew⟩
 ·
  have HV2:Hid (zbH l=(noPg,n0,e0)):=HV.out.trans (if_neg he)
  have t0:(((e0:Nat):Int) != 0)=true:=nT (show ((e0:Nat):Int)≠0 by omega)
  obtain⟨r0,r1,r2,rf,-⟩:=blk3 HR1.out
  have f0:=rf 0
  have f1:=rf 1
  have f2:=rf 2
  clear rf he HV HL
  go_wp2_with fail
  have hq:PutAt w.heap.size w1 _:=(((PutAt.refl w.heap.size w1).set 0 (.slice none 0 0)).set 1 (.slice none 0 0)).set 2 (.slice none 0 0)
  refine bodyPost_ret (v:=.tuple #[.agg #[.slice none 0 0,.slice none 0 0,.slice none 0 0],.int .i64 (n0:Int),.int .i64 (e0:Int)]) (by simp[results,Tryd.results7,go_sem,r0,r1,r2]) rfl ⟨_,_,_,[],[],[],w1.heap.size,by rw[HV2.out],by omega,PgR.nil _ _,by rw[HV2.out];rfl,zdD HB1.out hq (Nat.le_refl _)⟩
end Go.Proofs.YtlnbmmgbfgmboaaDoor

namespace Go.Proofs.YtlnbmmgbfgmboaaDoor
structure TokZ (t:Tk.Tok):Prop where
 num:t.num≤9223372036854775807
 name:t.kind=1→Tk.resv t.text=false
 word:t.kind=3→Tk.resv t.text=true
 sign:t.kind=4→Tk.isSg t.text=true
theorem ziV (s:List UInt8):∀n m,n≤9223372036854775807→Tk.numVal n s=some m→m≤9223372036854775807:=by
 induction s with
 | nil =>
  intro n m hn h
  injection h with h
  omega
 | cons c r ih =>
  intro n m hn h
  rw[Tk.numVal] at h
  split at h
  ·
   cases h
  ·
   have hc:c.toNat<256:=c.toBitVec.isLt
   exact ih _ m (by omega) h
theorem tokAt_z (b:List UInt8) (k:Nat) (t:Tk.Tok) (h:Tk.tokAt b k=.ok t):TokZ t:=by
 unfold Tk.tokAt at h
 split at h
 ·
  unfold Tk.nameAt at h
  dsimp only at h
  split at h
  ·
   cases h
  ·
   injection h with h
   subst h
   split
   ·
    rename_i hr
    exact⟨by simp,(fun e=>absurd (show (3:Nat)=1 from e) (by decide)),fun _=>hr,(fun e=>absurd (show (3:Nat)=4 from e) (by decide))⟩
   ·
    rename_i hr
    exact⟨by simp,fun _=>by simpa using hr,(fun e=>absurd (show (1:Nat)=3 from e) (by decide)),(fun e=>absurd (show (1:Nat)=4 from e) (by decide))⟩
 split at h
 ·
  unfold Tk.numAt at h
  dsimp only at h
  split at h
  ·
   cases h
  ·
   rename_i n hn
   injection h with h
   subst h
   exact⟨ziV _ 0 n (by omega) hn,(fun e=>absurd (show (2:Nat)=1 from e) (by decide)),(fun e=>absurd (show (2:Nat)=3 from e) (by decide)),(fun e=>absurd (show (2:Nat)=4 from e) (by decide))⟩
 ·
  unfold Tk.signAt at h
  split at h
  ·
   rename_i hs
   injection h with h
   subst h
   exact⟨by simp,(fun e=>absurd (show (4:Nat)=1 from e) (by decide)),(fun e=>absurd (show (4:Nat)=3 from e) (by decide)),fun _=>by show Tk.isSg _=true;unfold Tk.isSg;rw[hs.2];rfl⟩
  split at h
  ·
   rename_i hs
   injection h with h
   subst h
   exact⟨by simp,(fun e=>absurd (show (4:Nat)=1 from e) (by decide)),(fun e=>absurd (show (4:Nat)=3 from e) (by decide)),fun _=>by show Tk.isSg _=true;unfold Tk.isSg;rw[hs,Bool.or_true]⟩
  ·
   cases h
theorem tokZ_end (n:Nat):TokZ ⟨5,[],0,n⟩:=⟨by simp,(fun e=>absurd (show (5:Nat)=1 from e) (by decide)),(fun e=>absurd (show (5:Nat)=3 from e) (by decide)),(fun e=>absurd (show (5:Nat)=4 from e) (by decide))⟩
theorem lexGo_z (l:List UInt8) (f:Nat):∀(k:Nat) (acc:List Tk.Tok),k≤l.length→l.length-k<f→(∀t∈acc,TokZ t)→(Tk.lexGo f l k acc).2.2=0 →
  ∃ts,(Tk.lexGo f l k acc).1=ts++[⟨5,[],0,l.length⟩]∧∀t∈ts,TokZ t:=by
 induction f with
 | zero=>intro k acc _ h;omega
 | succ f ih =>
  intro k acc hk hf hg h0
  rw[Tk.lexGo] at h0 ⊢
  split at h0
  ·
   rename_i hc
   rw[if_pos hc]
   exact⟨acc,rfl,hg⟩
  ·
   rename_i hc
   rw[if_neg hc]
   cases ht:Tk.tokAt l k with
   | error e =>
    rw[ht] at h0
    have h1:=zg6 l k e ht
    have h2:e=0:=h0
    omega
   | ok t =>
    rw[ht] at h0
    dsimp only at h0 ⊢
    split at h0
    ·
     cases h0
    ·
     rename_i hn
     rw[if_neg hn]
     obtain⟨hp,hle,-⟩:=zfo l k t (by omega) ht
     have hs:k+t.text.length≤Tk.skipTo l (k+t.text.length):=by unfold Tk.skipTo;omega
     refine ih _ _ (Tk.skipTo_le l _ hle) (by omega) ?_ h0
     intro u hu
     rcases List.mem_append.1 hu with hu|hu
     ·
      exact hg u hu
     ·
      rw[List.mem_singleton.1 hu]
      exact tokAt_z l k t ht
theorem lex_z (l:List UInt8) (h0:(Tk.lex l).2.2=0):∃ts,(Tk.lex l).1=ts++[⟨5,[],0,l.length⟩]∧∀t∈(Tk.lex l).1,TokZ t:=by
 by_cases hl:l.length>262144
 ·
  unfold Tk.lex at h0
  rw[if_pos hl] at h0
  cases h0
 ·
  have e:Tk.lex l=Tk.lexGo (l.length+1) l (Tk.skipTo l 0) []:=by unfold Tk.lex;rw[if_neg hl]
  rw[e] at h0 ⊢
  obtain⟨ts,h1,h2⟩:=lexGo_z l (l.length+1) (Tk.skipTo l 0) [] (Tk.skipTo_le l 0 (by omega)) (by omega) (by simp) h0
  refine⟨ts,h1,fun t ht=>?_⟩
  rw[h1] at ht
  rcases List.mem_append.1 ht with h|h
  ·
   exact h2 t h
  ·
   rw[List.mem_singleton.1 h]
   exact tokZ_end _
theorem zj1 (l:List UInt8) (h0:(Tk.lex l).2.2=0):LexOk (Tk.lex l).1:=by
 obtain⟨ts,h1,h2⟩:=lex_z l h0
 refine⟨by rw[h1];simp,by rw[h1];unfold Ps.kindAt;simp,fun k=>?_⟩
 unfold Ps.numAt
 cases hk:(Tk.lex l).1[k]? with
 | none=>simp
 | some t=>exact(h2 t (List.mem_of_getElem? hk)).num
def WdOk (ts:List Tk.Tok):Prop:=∀k,(Ps.kindAt ts k=3→Tk.resv (Ps.textAt ts k)=true)∧(Ps.kindAt ts k=4→Tk.resv (Ps.textAt ts k)=false)
end Go.Proofs.YtlnbmmgbfgmboaaDoor

namespace Go.Proofs.YtlnbmmgbfgmboaaDoor
open Go.RowKit
def PgV (w:World) (P:Pg) (n:Nat) (e:Ending) (w':World):Prop :=
 ∃AG AM AF cG cM cF H,e=.returned (.tuple #[.agg #[.slice AG P.gs.length cG,.slice AM P.ms.length cM,.slice AF P.fs.length cF],.int .i64 (n:Int),.int .i64 0])∧PgM w' P AG AM AF H∧Below w.heap.size w w'
theorem zdv (P:Pg) (l:List UInt8) (ao:Option Addr) (cap:Nat) (w:World) (hV:zbH l=(P,l.length,0)) (hB:Byt w ao l) (hl:l.length≤262144) (hcap:l.length≤cap) (hS:SgT w) :
  Calls Tryd.prog 7 #[.slice ao l.length cap] w (PgV w P l.length):=by
 refine(zcF l ao cap w hB hl hcap hS (fun h=>zj1 l h)).mono ?_
 rintro e w1 ⟨vG,vM,vF,PG,PM,PF,B,rfl,-,hPg,hV1,hb1⟩
 rw[hV] at hV1 ⊢
 dsimp only at hV1 ⊢
 subst hV1
 obtain⟨AG,cG,rfl⟩:=zaJ hPg.rG
 obtain⟨AM,cM,rfl⟩:=zaJ hPg.rM
 obtain⟨AF,cF,rfl⟩:=zaJ hPg.rF
 obtain⟨H,hM⟩:=hPg.read
 exact⟨AG,AM,AF,cG,cM,cF,H,by simp,hM,hb1⟩
end Go.Proofs.YtlnbmmgbfgmboaaDoor

namespace Go.Proofs.YtlnbmmgbfgmboaaDoor
open Go.RowKit
theorem zjd (l:List UInt8) (C:Array Value) (t:TypeId) (fr:Nat × Nat) (w:World) (hC:C=(l.map fun c=>Value.int .u8 (c.toNat:Int)).toArray):Byt (w.alloc (.cells C t fr)) (some ⟨w.heap.size,0,none⟩) l:=by
 intro i hi
 refine⟨w.heap.size,0,rfl,?_⟩
 rw[Nat.zero_add,World.cell?_alloc_mark,hC]
 simp[List.getElem?_eq_getElem hi]
def aw3A:List UInt8:=[109,117,116,101,120,32,97,59,32,102,117,110,99,32,109,97,105,110,40,41,32,123,32,108,111,99,107,32,97,59,32,117,110,108,111,99,107,32,97,59,32,125]
def aw3B:List UInt8:=[109,117,116,101,120,32,97,59,32,97]
theorem aw3A_n:(zbH aw3A).2.1=42:=by kernel_rfl
theorem aw3A_e:(zbH aw3A).2.2=0:=by kernel_rfl
theorem aw3A_m:(zbH aw3A).1.ms.length=1:=by kernel_rfl
theorem aw3A_f:(zbH aw3A).1.fs.map (fun f=>f.body.length)=[2]:=by kernel_rfl
theorem aw3B_n:(zbH aw3B).2.1=9:=by kernel_rfl
theorem aw3B_e:(zbH aw3B).2.2=4:=by kernel_rfl
theorem prgA (w:World) (hS:SgT w):Calls Tryd.prog 7 #[.slice (some ⟨w.heap.size,0,none⟩) 42 42] (w.alloc (.cells #[.int .u8 109,.int .u8 117,.int .u8 116,.int .u8 101,.int .u8 120,.int .u8 32,.int .u8 97,.int .u8 59,.int .u8 32,.int .u8 102,.int .u8 117,.int .u8 110,.int .u8 99,.int .u8 32,.int .u8 109,.int .u8 97,.int .u8 105,.int .u8 110,.int .u8 40,.int .u8 41,.int .u8 32,.int .u8 123,.int .u8 32,.int .u8 108,.int .u8 111,.int .u8 99,.int .u8 107,.int .u8 32,.int .u8 97,.int .u8 59,.int .u8 32,.int .u8 117,.int .u8 110,.int .u8 108,.int .u8 111,.int .u8 99,.int .u8 107,.int .u8 32,.int .u8 97,.int .u8 59,.int .u8 32,.int .u8 125] 5 (42,43))) (zfj (w.alloc (.cells #[.int .u8 109,.int .u8 117,.int .u8 116,.int .u8 101,.int .u8 120,.int .u8 32,.int .u8 97,.int .u8 59,.int .u8 32,.int .u8 102,.int .u8 117,.int .u8 110,.int .u8 99,.int .u8 32,.int .u8 109,.int .u8 97,.int .u8 105,.int .u8 110,.int .u8 40,.int .u8 41,.int .u8 32,.int .u8 123,.int .u8 32,.int .u8 108,.int .u8 111,.int .u8 99,.int .u8 107,.int .u8 32,.int .u8 97,.int .u8 59,.int .u8 32,.int .u8 117,.int .u8 110,.int .u8 108,.int .u8 111,.int .u8 99,.int .u8 107,.int .u8 32,.int .u8 97,.int .u8 59,.int .u8 32,.int .u8 125] 5 (42,43))) (zbH aw3A)) :=
 zcF aw3A (some ⟨w.heap.size,0,none⟩) 42 _ (zjd aw3A _ _ _ w rfl) (by decide) (by decide) (hS.later ((Below.refl _ _).alloc (Nat.le_refl _) _)) (fun h=>zj1 aw3A h)
theorem prgB (w:World) (hS:SgT w):Calls Tryd.prog 7 #[.slice (some ⟨w.heap.size,0,none⟩) 10 10] (w.alloc (.cells #[.int .u8 109,.int .u8 117,.int .u8 116,.int .u8 101,.int .u8 120,.int .u8 32,.int .u8 97,.int .u8 59,.int .u8 32,.int .u8 97] 5 (10,11))) (zfj (w.alloc (.cells #[.int .u8 109,.int .u8 117,.int .u8 116,.int .u8 101,.int .u8 120,.int .u8 32,.int .u8 97,.int .u8 59,.int .u8 32,.int .u8 97] 5 (10,11))) (zbH aw3B)) :=
 zcF aw3B (some ⟨w.heap.size,0,none⟩) 10 _ (zjd aw3B _ _ _ w rfl) (by decide) (by decide) (hS.later ((Below.refl _ _).alloc (Nat.le_refl _) _)) (fun h=>zj1 aw3B h)
theorem prgB2 (w:World) (o:Obj) (hS:SgT (w.alloc o)):Calls Tryd.prog 7 #[.slice (some ⟨w.heap.size+1,0,none⟩) 10 10] ((w.alloc o).alloc (.cells #[.int .u8 109,.int .u8 117,.int .u8 116,.int .u8 101,.int .u8 120,.int .u8 32,.int .u8 97,.int .u8 59,.int .u8 32,.int .u8 97] 5 (10,11))) (zfj ((w.alloc o).alloc (.cells #[.int .u8 109,.int .u8 117,.int .u8 116,.int .u8 101,.int .u8 120,.int .u8 32,.int .u8 97,.int .u8 59,.int .u8 32,.int .u8 97] 5 (10,11))) (zbH aw3B)):=by
 have:=prgB (w.alloc o) hS
 rwa [show (w.alloc o).heap.size=w.heap.size+1 by simp] at this
set_option maxRecDepth 100000 in
set_option maxHeartbeats 4000000 in
theorem zeR (w:World) (hS:SgT w):Calls Tryd.prog 9 #[] w fun e w'=>e=.returned (.bool true)∧Below w.heap.size w w':=by
 have kc:=fun (w:World) (C:Array Value) (n c:Nat)=>Lib.run_convert_bytes_const (P:=Tryd.prog) w 33 5 C n c Tryd.underlying33 Tryd.underlying5
 have HS:=Lib.hid hS
 have HA:=Lib.hid (prgA w hS)
 have HN:=Lib.hid aw3A_n
 have HE:=Lib.hid aw3A_e
 have HMs:=Lib.hid aw3A_m
 have HFs:=Lib.hid aw3A_f
 have HBn:=Lib.hid aw3B_n
 have HBe:=Lib.hid aw3B_e
 generalize zbH aw3A=VA at *
 clear hS
 go_enter Tryd.func9,Tryd.ntmps9
 go_wp2_with fail
 refine HA.out.mono ?_
 rintro e w1 ⟨vG,vM,vF,PG,PM,PF,B,rfl,hB,hPg,hV,hb1⟩
 rw[HN.out,HE.out]
 have HB1:=Lib.hid (zae hb1 ((Below.refl _ _).alloc (Nat.le_refl _) _))
 have hm1:PM.length=1:=by have:=HMs.out;rw[hV] at this;exact this
 have hf:=HFs.out
 rw[hV] at hf
 obtain⟨fe,rfl⟩:∃fe,PF=[fe]:=by
  cases PF with
  | nil=>cases hf
  | cons x r =>
   cases r with
   | nil=>exact⟨x,rfl⟩
   | cons y r=>simp at hf
 have hbody:fe.1.body.length=2:=by simpa using hf
 obtain⟨AG,cG,rfl⟩:=zaJ hPg.rG
 obtain⟨AM,cM,rfl⟩:=zaJ hPg.rM
 obtain⟨AF,cF,rfl⟩:=zaJ hPg.rF
 obtain⟨bf,rfl⟩:∃g,AF=some ⟨g,0,none⟩:=by
  rcases hPg.rF.2 with⟨_,h0⟩|⟨g,cap',cur,e,hg,_⟩
  ·
   simp at h0
  ·
   simp only[Value.slice.injEq] at e
   exact⟨g,e.1⟩
 have hc2:w1.cell? ⟨bf,2,none⟩=some (.slice fe.2.B 2 fe.2.d):=by
  have:=World.ownsRow.cellAt hPg.rF 2 (by simp)
  have h2:(fnK.cs [fe])[2]?=some (.slice fe.2.B fe.1.body.length fe.2.d):=rfl
  rw[this,h2,hbody]
 have HC2:=Lib.hid hc2
 have hbl:bf<w1.heap.size:=World.block_lt_of_cell? _ _ hc2
 rw[hm1]
 have kd:∀(o:Obj) (C:Array Value) (n c:Nat),(convert 33 33 (.slice (some ⟨w1.heap.size+1,0,none⟩) n c)).run Tryd.prog ((w1.alloc o).alloc (.cells C 5))=.ok (.slice (some ⟨w1.heap.size+1,0,none⟩) n c) ((w1.alloc o).alloc (.cells C 5 (C.size,C.size+1))):=fun o C n c=>by
  have:=kc (w1.alloc o) C n c
  rwa [show (w1.alloc o).heap.size=w1.heap.size+1 by simp] at this
 clear hPg hV hb1 hB hf HA HN HE HMs HFs hc2 kc
 go_wp2_with fail
 refine(prgB2 w1 _ (HS.out.later (HB1.out.alloc HB1.out.size _))).mono ?_
 rintro e w2 ⟨vG2,vM2,vF2,PG2,PM2,PF2,B2,rfl,hB2,hPg2,hV2,hb2⟩
 rw[HBn.out,HBe.out]
 obtain⟨AG2,cG2,rfl⟩:=zaJ hPg2.rG
 obtain⟨AM2,cM2,rfl⟩:=zaJ hPg2.rM
 obtain⟨AF2,cF2,rfl⟩:=zaJ hPg2.rF
 have hx1:w2.heap[w1.heap.size]?=some (.cells #[.slice AG PG.length cG,.slice AM 1 cM,.slice (some ⟨bf,0,none⟩) 1 cF] 27 (0,0)):=(hb2.block _ (by simp;omega)).trans ((Below.heap_alloc _ _ _ (by simp)).trans (heap_alloc_new w1 _))
 obtain⟨x0,x1,x2,-,hxl⟩:=blk3 hx1
 have hk2:w2.cell? ⟨bf,2,none⟩=some (.slice fe.2.B 2 fe.2.d):=(World.cell?_of_block (a:=⟨bf,2,none⟩) ((hb2.block bf (by simp;omega)).trans ((Below.heap_alloc _ _ _ (by simp;omega)).trans (Below.heap_alloc _ _ _ hbl)))).trans HC2.out
 have hbl2:bf<w2.heap.size:=World.block_lt_of_cell? _ _ hk2
 have HB2:=Lib.hid (zae hb2 ((HB1.out.alloc HB1.out.size _).alloc (by have:=HB1.out.size;simp;omega) _))
 clear hPg2 hV2 hb2 hB2 hx1
 go_wp2_with fail
 go_ret
 exact⟨rfl,HB2.out.alloc HB2.out.size _⟩
end Go.Proofs.YtlnbmmgbfgmboaaDoor

namespace Go.Proofs.YtlnbmmgbfgmboaaDoor
open Go.RowKit
end Go.Proofs.YtlnbmmgbfgmboaaDoor

namespace Go.Proofs.YtlnbmmgbfgmboaaDoor
open Go.RowKit
def WOk (ts:List Tk.Tok):Prop:=∀k,Ps.kindAt ts k=3→Ps.textAt ts k∉[40]::[41]::Ps.sgTab
theorem two_new {w w1:World} {o1 o2:Obj} (hb:Below ((w.alloc o1).alloc o2).heap.size ((w.alloc o1).alloc o2) w1) :
  w1.heap[w.heap.size]?=some o1∧w1.heap[w.heap.size+1]?=some o2∧(∀b,b<w.heap.size→w1.heap[b]?=w.heap[b]?)∧w.heap.size+1<w1.heap.size:=by
 have hs:((w.alloc o1).alloc o2).heap.size=w.heap.size+2:=by simp
 have hs1:(w.alloc o1).heap.size=w.heap.size+1:=by simp
 refine⟨?_,?_,?_,?_⟩
 ·
  rw[hb.block _ (by omega),Below.heap_alloc _ o2 _ (by omega)]
  exact heap_alloc_new w o1
 ·
  rw[hb.block _ (by omega),←hs1]
  exact heap_alloc_new (w.alloc o1) o2
 ·
  intro b hlt
  rw[hb.block _ (by omega),Below.heap_alloc _ o2 _ (by omega),Below.heap_alloc _ o1 _ hlt]
 ·
  have:=hb.size
  omega
end Go.Proofs.YtlnbmmgbfgmboaaDoor

namespace Go.Proofs.YtlnbmmgbfgmboaaDoor
open Go.RowKit
end Go.Proofs.YtlnbmmgbfgmboaaDoor

namespace Go.Proofs.YtlnbmmgbfgmboaaDoor
open Go.RowKit
end Go.Proofs.YtlnbmmgbfgmboaaDoor

namespace Go.Proofs.YtlnbmmgbfgmboaaDoor
open Go.RowKit
end Go.Proofs.YtlnbmmgbfgmboaaDoor
