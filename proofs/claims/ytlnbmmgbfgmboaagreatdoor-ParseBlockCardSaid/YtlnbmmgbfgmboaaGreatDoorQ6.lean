import Derived.Test.YtlnbmmgbfgmboaaGreatDoorQa
import Derived.Test.YtlnbmmgbfgmboaaGreatDoorQ5
namespace Go.Proofs.YtlnbmmgbfgmboaaGreatDoor
open Go.RowKit
def PmP (w:World) (g:Nat) (ts:List Tk.Tok) (i:Nat) (σ:Pa.Sg) (o:Nat) (e:Ending) (w':World):Prop :=
 e=.returned (.agg #[.string ⟨(Pa.sParam ts i σ).1.name.toArray⟩,.bool (Pa.sParam ts i σ).1.m])∧Pps w' g ts (Pa.sParam ts i σ).2 o∧w.grownBy w' (some g)
def pmS (ts:List Tk.Tok) (i:Nat) (σ:Pa.Sg):Pa.Sg:=if Pa.isS ts σ [109,117,116,101,120]=true∨Pa.kdS ts σ 1=true then Pa.lm σ i 6 else σ
theorem zcq (ts:List Tk.Tok) (i:Nat) (σ:Pa.Sg):Pa.sParam ts i σ=(⟨Pa.nmV ts (Pa.ac ts (pmS ts i σ) [109,117,116,101,120]),Pa.isS ts (pmS ts i σ) [109,117,116,101,120]⟩,Pa.tk ts (Pa.ac ts (pmS ts i σ) [109,117,116,101,120]) 1):=rfl
set_option maxRecDepth 100000 in
set_option maxHeartbeats 4000000 in
theorem zeD (w:World) (g:Nat) (ts:List Tk.Tok) (i:Nat) (vi:Int) (hv:vi=(i:Int)) (σ:Pa.Sg) (o:Nat) (hP:Pps w g ts σ o) :
  Calls Tryz.prog 95 #[.pointer (some ⟨g,0,none⟩),.int .i64 vi] w (PmP w g ts i σ o):=by
 subst hv;have HP:=zH hP;have hgw:=hP.lt;have hgR':w.heap.size≠g:=by omega
 clear hP;go_enter Tryz.func95,Tryz.ntmps95;go_wp2_with fail;refine(zbP _ g ts σ o [109,117,116,101,120] (HP.out.alloc _)).mono ?_;rintro x w1 ⟨rfl,hb1⟩;have HP1:=zH ((HP.out.alloc _).later hb1);have HR1:=zH ((hb1.block w.heap.size (by simp)).trans (heap_alloc_new w _));have HG1:Hid (w.grownBy w1 (some g)):=za6 (za2 hb1);clear hb1;cases hI:Pa.isS ts σ [109,117,116,101,120] with
 | true =>
  have HQ:Hid (pmS ts i σ=Pa.lm σ i 6):=if_pos (.inl hI);clear hI;go_wp2_with fail;refine(zbF w1 g ts σ o i 6 _ 6 rfl rfl HP1.out).mono ?_;rintro x w4 ⟨rfl,hP4,hG4⟩;rw[←HQ.out] at hP4;have HP4:=zH hP4;have HR4:=zH (za1 hG4 HR1.out hgR');have HG4:=zH (za0 HG1.out hG4);clear hP4 hG4;go_wp2_with fail;refine(zam w4 g ts _ o [109,117,116,101,120] HP4.out).mono ?_;rintro x w5 ⟨rfl,hP5,hG5⟩;have HP5:=zH hP5;have HR5:=zH (za1 hG5 HR4.out hgR');have HG5:=zH (za0 HG4.out hG5);clear hP5 hG5;generalize hmb:Pa.isS ts (pmS ts i σ) [109,117,116,101,120]=mb at *;have HMB:=zH hmb;clear hmb;go_wp2_with fail;refine(zbd w5 g ts _ o HP5.out).mono ?_;rintro x w6 ⟨rfl,hP6,hG6⟩;obtain⟨r0,r1,f0,f1,-⟩:=blk2 (za1 hG6 HR5.out hgR');have HP6:=zH hP6;have HG6:=zH (za0 HG5.out hG6);clear hP6 hG6;generalize hnn:Pa.nmV ts (Pa.ac ts (pmS ts i σ) [109,117,116,101,120])=nn at *;have HNN:=zH hnn;clear hnn;go_wp2_with fail;refine bodyPost_ret (v:=.agg #[.string ⟨nn.toArray⟩,.bool mb]) (by simp[results,Tryz.results95,go_sem,r0,r1]) rfl ⟨by rw[zcq,HNN.out,HMB.out],?_,?_⟩
  ·
   rw[zcq]
   repeat (with_reducible refine Pps.set ?_ hgw _)
   exact HP6.out
  ·
   repeat (with_reducible refine zaD ?_ (lR _) _)
   exact HG6.out
 | false =>
  go_wp2_with fail;refine(zbY w1 g ts σ o 1 1 rfl HP1.out).mono ?_;rintro x w2 ⟨rfl,hb2⟩;have HP2:=zH (HP1.out.later hb2);have HR2:=zH ((hb2.block _ (lt_of_block HR1.out)).trans HR1.out);have HG2:=zH (za0 HG1.out (za2 (g:=g) hb2));clear hb2;cases hK:Pa.kdS ts σ 1 with
  | true =>
   have HQ:Hid (pmS ts i σ=Pa.lm σ i 6):=if_pos (.inr hK);clear hK hI;go_wp2_with fail;refine(zbF w2 g ts σ o i 6 _ 6 rfl rfl HP2.out).mono ?_;rintro x w4 ⟨rfl,hP4,hG4⟩;rw[←HQ.out] at hP4;have HP4:=zH hP4;have HR4:=zH (za1 hG4 HR2.out hgR');have HG4:=zH (za0 HG2.out hG4);clear hP4 hG4;go_wp2_with fail;refine(zam w4 g ts _ o [109,117,116,101,120] HP4.out).mono ?_;rintro x w5 ⟨rfl,hP5,hG5⟩;have HP5:=zH hP5;have HR5:=zH (za1 hG5 HR4.out hgR');have HG5:=zH (za0 HG4.out hG5);clear hP5 hG5;generalize hmb:Pa.isS ts (pmS ts i σ) [109,117,116,101,120]=mb at *;have HMB:=zH hmb;clear hmb;go_wp2_with fail;refine(zbd w5 g ts _ o HP5.out).mono ?_;rintro x w6 ⟨rfl,hP6,hG6⟩;obtain⟨r0,r1,f0,f1,-⟩:=blk2 (za1 hG6 HR5.out hgR');have HP6:=zH hP6;have HG6:=zH (za0 HG5.out hG6);clear hP6 hG6;generalize hnn:Pa.nmV ts (Pa.ac ts (pmS ts i σ) [109,117,116,101,120])=nn at *;have HNN:=zH hnn;clear hnn;go_wp2_with fail;refine bodyPost_ret (v:=.agg #[.string ⟨nn.toArray⟩,.bool mb]) (by simp[results,Tryz.results95,go_sem,r0,r1]) rfl ⟨by rw[zcq,HNN.out,HMB.out],?_,?_⟩
   ·
    rw[zcq]
    repeat (with_reducible refine Pps.set ?_ hgw _)
    exact HP6.out
   ·
    repeat (with_reducible refine zaD ?_ (lR _) _)
    exact HG6.out
  | false =>
   have HQ:Hid (pmS ts i σ=σ):=if_neg (by rw[hI,hK];decide);rw[←HQ.out] at HP2;clear hK hI;go_wp2_with fail;refine(zam w2 g ts _ o [109,117,116,101,120] HP2.out).mono ?_;rintro x w5 ⟨rfl,hP5,hG5⟩;have HP5:=zH hP5;have HR5:=zH (za1 hG5 HR2.out hgR');have HG5:=zH (za0 HG2.out hG5);clear hP5 hG5;generalize hmb:Pa.isS ts (pmS ts i σ) [109,117,116,101,120]=mb at *;have HMB:=zH hmb;clear hmb;go_wp2_with fail;refine(zbd w5 g ts _ o HP5.out).mono ?_;rintro x w6 ⟨rfl,hP6,hG6⟩;obtain⟨r0,r1,f0,f1,-⟩:=blk2 (za1 hG6 HR5.out hgR');have HP6:=zH hP6;have HG6:=zH (za0 HG5.out hG6);clear hP6 hG6;generalize hnn:Pa.nmV ts (Pa.ac ts (pmS ts i σ) [109,117,116,101,120])=nn at *;have HNN:=zH hnn;clear hnn;go_wp2_with fail;refine bodyPost_ret (v:=.agg #[.string ⟨nn.toArray⟩,.bool mb]) (by simp[results,Tryz.results95,go_sem,r0,r1]) rfl ⟨by rw[zcq,HNN.out,HMB.out],?_,?_⟩
   ·
    rw[zcq]
    repeat (with_reducible refine Pps.set ?_ hgw _)
    exact HP6.out
   ·
    repeat (with_reducible refine zaD ?_ (lR _) _)
    exact HG6.out
def pmK:RowK Pm where
 cl:=fun p=>[.string ⟨p.name.toArray⟩,.bool p.m]
 sz:=2
 hsz:=fun _=>rfl
 one:=fun p u hu=>by
  simp at hu;rcases hu with rfl|rfl<;>rfl
 In:=fun _ _ _=>True
 keep:=fun _ _=>trivial
 more:=fun _ _=>trivial
def PmsM (w:World) (S:Nat→Prop) (l:List Pm) (A:Option Addr):Prop :=
 ∀i (h:i<l.length),∃b off,A=some ⟨b,off,none⟩∧S b∧w.cell? ⟨b,off+i*2,none⟩=some (.string ⟨l[i].name.toArray⟩)∧w.cell? ⟨b,off+i*2+1,none⟩=some (.bool l[i].m)
theorem zea {t:TypeId} {w:World} {B n c:Nat} {A:Option Addr} {P:List Pm} (h:OwnR pmK t w B (.slice A n c) P):PmsM w (B≤·) P A:=by
 intro i hi;obtain⟨A',c',e⟩:=h.form;simp only[Value.slice.injEq] at e;obtain⟨-,rfl,rfl⟩:=e;obtain⟨g,hA,hg⟩:∃g,A=some ⟨g,0,none⟩∧B≤g:=by
  rcases h.1.2 with⟨_,h0⟩|⟨g,cap',cur,e,hg,_⟩
  ·
   omega
  ·
   simp only[Value.slice.injEq] at e;exact⟨g,e.1,hg⟩
 subst hA;have q:∀j,j<2→w.cell? ⟨g,i*2+j,none⟩=(pmK.cl P[i])[j]?:=fun j hj=>(World.ownsRow.cellAt h.1 _ (by show i*2+j<P.length*2;omega)).trans (pmK.cs_at P i j hi hj);refine⟨g,0,rfl,hg,?_,?_⟩
 ·
  rw[Nat.zero_add];exact q 0 (by omega)
 ·
  rw[Nat.zero_add];exact q 1 (by omega)
theorem Tryz.infoPar:(Tryz.prog.info? 92).map (fun i=>(i.zero,i.size,i.bytes))=some (some (.agg #[.string ⟨#[]⟩,.bool false]),2,24):=by kernel_rfl
def PmsP (w:World) (g:Nat) (ts:List Tk.Tok) (σ:Pa.Sg) (o:Nat) (e:Ending) (w':World):Prop :=
 ∃A c,e=.returned (.slice A (Pa.sParams ts σ).1.length c)∧PmsM w' (w.heap.size≤·) (Pa.sParams ts σ).1 A∧Pps w' g ts (Pa.sParams ts σ).2 o∧w.grownBy w' (some g)
def PmsL (w:World) (g:Nat) (ts:List Tk.Tok) (R:List Pm × Pa.Sg) (o f:Nat) (v:Value) (wr:World):Prop :=
 ∃(P:List Pm) (τ:Pa.Sg),OwnR pmK 92 wr w.heap.size v P∧Pps wr g ts τ o∧w.grownBy wr (some g)∧P.length≤1000000∧(τ.live=true→P.length≤τ.k∧ts.length≤f+τ.k) ∧
  (if Pa.isS ts τ [44]=true then Pa.sParamL ts f (Pa.nx τ) P else (P,Pa.xp ts τ [41]))=R
set_option maxRecDepth 100000 in
set_option maxHeartbeats 4000000 in
theorem zgp (w:World) (g:Nat) (ts:List Tk.Tok) (σ:Pa.Sg) (o:Nat) (hP:Pps w g ts σ o) :
  Calls Tryz.prog 94 #[.pointer (some ⟨g,0,none⟩),.func (.func 95) #[.pointer (some ⟨g,0,none⟩)] #[]] w (PmsP w g ts σ o):=by
 obtain⟨i0,hi,hz0,hz1,hz2⟩:=info_parts Tryz.infoPar;have HP:=zH hP;have hgw:=hP.lt;clear hP;go_enter Tryz.func94,Tryz.ntmps94;go_wp2_with fail;refine(zap w g ts σ o [40] HP.out).mono ?_;rintro x w1 ⟨rfl,hP1,hG1⟩;have HP1:=zH hP1;have HG1:=zH hG1;clear hP1 hG1;generalize hσ1:Pa.xp ts σ [40]=σ1 at *;have HS1:=zH hσ1;clear hσ1;go_wp2_with fail;refine(zam w1 g ts σ1 o [41] HP1.out).mono ?_;rintro x w2 ⟨rfl,hP2,hG2⟩;have HP2:=zH hP2;have HG2:=zH (za0 HG1.out hG2);clear hP2 hG2;cases hI:Pa.isS ts σ1 [41] with
 | true =>
  have HV:Hid (Pa.sParams ts σ=([],Pa.nx σ1)):=by show _=_;unfold Pa.sParams;rw[HS1.out,if_pos hI]
  have hac:Pa.ac ts σ1 [41]=Pa.nx σ1:=if_pos hI;rw[hac] at HP2;clear hac hI;go_wp2_with fail;go_ret;refine⟨none,0,by rw[HV.out];rfl,?_,by rw[HV.out];exact HP2.out,HG2.out⟩;rw[HV.out];exact fun i hi=>absurd hi (by simp)
 | false =>
  have HV:Hid (Pa.sParams ts σ=Pa.sParamL ts (ts.length+1) σ1 []):=by show _=_;unfold Pa.sParams;rw[HS1.out,if_neg (by rw[hI];decide)]
  have hac:Pa.ac ts σ1 [41]=σ1:=if_neg (by rw[hI];decide);rw[hac] at HP2;clear hac hI;go_wp2_with fail;refine(zeD w2 g ts 0 0 rfl σ1 o HP2.out).mono ?_;rintro x w3 ⟨rfl,hP3,hG3⟩;have HP3:=zH hP3;have HG3:=zH (za0 HG2.out hG3);have hl2:w.heap.size≤w2.heap.size:=HG2.out.size;have hl3:w.heap.size≤w3.heap.size:=HG3.out.size;have HFW:=zH (Pa.sParam_fws ts 0 σ1);clear hP3 hG3;have HV2:Hid (Pa.sParams ts σ=if Pa.isS ts (Pa.sParam ts 0 σ1).2 [44]=true then Pa.sParamL ts ts.length (Pa.nx (Pa.sParam ts 0 σ1).2) [(Pa.sParam ts 0 σ1).1] else ([(Pa.sParam ts 0 σ1).1],Pa.xp ts (Pa.sParam ts 0 σ1).2 [41])):=by
   show _=_;rw[HV.out,Pa.sParamL];rfl
  generalize (Pa.sParam ts 0 σ1).2=τ1 at *;generalize (Pa.sParam ts 0 σ1).1=a1 at *;have hO3:OwnR pmK 92 w3 w.heap.size (.slice none 0 0) []:=OwnR.nil _ _ _ _;have HO3:=zH hO3;clear hO3;go_wp2_with (first|(at_builtin;refine wpList_append_lies _ rfl (.tmp 10) (.tmp 13) 50 rfl w.heap.size 92 i0 _ 2 24 Tryz.underlying50 hi hz0 hz1 hz2 rfl (by decide) _ 0 [] rfl (World.ownsRow_nil _ _ _ _) ⟨w3.heap.size,0,none⟩ 1 1 [.string ⟨a1.name.toArray⟩,.bool a1.m] rfl rfl (zak w3 _ rfl _ _) (pmK.one a1) (by omega) (by unfold maxLen;omega) (by omega) (by simp;omega) _ rfl ?_));intro gb cap w4 hown hgrow hlies hgl;have hO4:OwnR pmK 92 w4 w.heap.size (.slice (some ⟨gb,0,none⟩) 1 cap) [a1]:=(HO3.out.alloc _).snoc trivial hown hgrow (zah hlies (by simp));have HO4:=zH hO4;have HP4:Hid (Pps w4 g ts τ1 o):=(HP3.out.alloc _).keep fun b hb=>hgrow.block b (by have:=HP3.out.lt;simp;omega) (by simp[Value.ownBlock]);have HG4:Hid (w.grownBy w4 (some g)):=za0 (zag HG3.out _) ⟨hgrow.os,hgrow.tape,hgrow.output,hgrow.size,fun k hk _=>hgrow.block k hk (by simp[Value.ownBlock])⟩;have HL0:Hid (PmsL w g ts (Pa.sParams ts σ) o ts.length (.slice (some ⟨gb,0,none⟩) 1 cap) w4):=⟨[a1],τ1,HO4.out,HP4.out,HG4.out,by simp,fun hl=>⟨by have:=(HFW.out hl).2;simp;omega,by omega⟩,HV2.out.symm⟩;clear hO4 hown hgrow hlies hgl HO3 HP3 HG3 HV2 HFW HO4 HP4 HG4 HV HP2 HP1;go_wp2_with fail
  go_loopg [5] ts.length (fun k v wr=>Hid (PmsL w g ts (Pa.sParams ts σ) o k v wr))
  case atStart=>exact HL0.out
  case round =>
   clear HL0;obtain⟨P,τ,hO,hP,hG,hPl,hlv,hR⟩:=hrel.out;clear hrel;obtain⟨sa,sc,rfl⟩:=hO.form;have HO:=zH hO;have HPr:=zH hP;have HGr:=zH hG;have HLV:=zH hlv;have HR:=zH hR;have hnT:=hP.inT;have hnn:ts.length≤1000000:=by obtain⟨_,_,_,_,_,h,_⟩:=hP;exact h
   have hwl:w.heap.size≤wr.heap.size:=hG.size;clear hO hP hG hlv hR;go_wp2_with fail;refine(zam wr g ts τ o [44] HPr.out).mono ?_;rintro x w5 ⟨rfl,hP5,hG5⟩;have HP5:=zH hP5;have HG5:=zH (za0 HGr.out hG5);have HO5:=zH (HO.out.grown hG5 hgw);have hl5:wr.heap.size≤w5.heap.size:=hG5.size;clear hP5 hG5;cases hI:Pa.isS ts τ [44] with
   | true =>
    obtain⟨k0,rfl,-,-⟩:=zei hI;obtain⟨hk1,hk2⟩:=HLV.out rfl;have hk3:(Pa.Sg.at_ k0).k=k0:=rfl;rw[hk3] at hk1 hk2 hnT;have hac:Pa.ac ts (.at_ k0) [44]=.at_ (k0+1):=if_pos hI;rw[hac] at HP5;obtain⟨f1,rfl⟩:∃f1,gk=f1+1:=⟨gk-1,by omega⟩;have HR2:Hid (Pa.sParams ts σ=if Pa.isS ts (Pa.sParam ts P.length (.at_ (k0+1))).2 [44]=true then Pa.sParamL ts f1 (Pa.nx (Pa.sParam ts P.length (.at_ (k0+1))).2) (P++[(Pa.sParam ts P.length (.at_ (k0+1))).1]) else (P++[(Pa.sParam ts P.length (.at_ (k0+1))).1],Pa.xp ts (Pa.sParam ts P.length (.at_ (k0+1))).2 [41])):=by
     have:=HR.out;rw[if_pos hI] at this;show _=_;rw[←this,show Pa.nx (.at_ k0)=.at_ (k0+1) from rfl,Pa.sParamL]
    have HFW:=zH (Pa.sParam_fws ts P.length (.at_ (k0+1)));clear hac hI hk3 HR HLV;go_wp2_with fail;refine(zeD w5 g ts P.length _ rfl (.at_ (k0+1)) o HP5.out).mono ?_;rintro x w6 ⟨rfl,hP6,hG6⟩;have HP6:=zH hP6;have HG6:=zH (za0 HG5.out hG6);have HO6:=zH (HO5.out.grown hG6 hgw);have hl6:w.heap.size≤w6.heap.size:=HG6.out.size;clear hP6 hG6;generalize (Pa.sParam ts P.length (.at_ (k0+1))).2=τ2 at *;generalize (Pa.sParam ts P.length (.at_ (k0+1))).1=a2 at *;go_wp2_with (first|(at_builtin;refine wpList_append_lies _ rfl (.tmp 17) (.tmp 22) 50 rfl w.heap.size 92 i0 _ 2 24 Tryz.underlying50 hi hz0 hz1 hz2 rfl (by decide) _ P.length (pmK.cs P) rfl (HO6.out.alloc _).1 ⟨w6.heap.size,0,none⟩ 1 1 [.string ⟨a2.name.toArray⟩,.bool a2.m] rfl rfl (zak w6 _ rfl _ _) (pmK.one a2) (by omega) (by unfold maxLen;omega) (by omega) (by simp;omega) _ rfl ?_));intro gb2 cap2 w7 hown hgrow hlies hgl;have hO7:OwnR pmK 92 w7 w.heap.size (.slice (some ⟨gb2,0,none⟩) (P.length+1) cap2) (P++[a2]):=(HO6.out.alloc _).snoc trivial hown hgrow (zah hlies (by simp));have HO7:=zH hO7;have hgo:∀b,b≤g→some b≠(Value.slice sa P.length sc).ownBlock:=fun b hb e=>by have:=(HO6.out.1.lt b e.symm).1;omega
    have HP7:Hid (Pps w7 g ts τ2 o):=(HP6.out.alloc _).keep fun b hb=>hgrow.block b (by have:=HP6.out.lt;simp;omega) (hgo b hb);have HG7:Hid (w.grownBy w7 (some g)):=⟨hgrow.os.trans HG6.out.os,hgrow.tape.trans HG6.out.tape,hgrow.output.trans HG6.out.output,Nat.le_trans hl6 (Nat.le_trans (by simp) hgrow.size),fun b hb hne=>(hgrow.block b (by simp;omega) (fun e=>by have:=(HO6.out.1.lt b e.symm).1;omega)).trans ((Below.heap_alloc w6 _ b (by omega)).trans (HG6.out.block b hb hne))⟩;clear hO7 hown hgrow hlies hgl hgo HO6 HP6 HO5 HP5;go_wp2_with fail;go_roundg f1
    case rel =>
     refine⟨P++[a2],τ2,HO7.out,HP7.out,HG7.out,by simp;omega,fun hl=>?_,?_⟩
     ·
      have h1:=(HFW.out hl).2;have h2:(Pa.Sg.at_ (k0+1)).k=k0+1:=rfl;refine⟨by simp;omega,by omega⟩
     ·
      rw[HR2.out]
    case measure=>omega
   | false =>
    have hac:Pa.ac ts τ [44]=τ:=if_neg (by rw[hI];decide);rw[hac] at HP5;have HR2:Hid (Pa.sParams ts σ=(P,Pa.xp ts τ [41])):=by
     have:=HR.out;rw[if_neg (by rw[hI];decide)] at this;exact this.symm
    clear hac hI HR HLV;go_wp2_with fail;refine(zap w5 g ts τ o [41] HP5.out).mono ?_;rintro x w6 ⟨rfl,hP6,hG6⟩;have HP6:=zH hP6;have HG6:=zH (za0 HG5.out hG6);have HO6:=zH (HO5.out.grown hG6 hgw);clear hP6 hG6;go_wp2_with fail;go_ret;refine⟨sa,sc,by rw[HR2.out];rfl,?_,by rw[HR2.out];exact HP6.out,HG6.out⟩;rw[HR2.out];exact zea HO6.out
theorem new2 (w:World) (o1 o2:Obj):((w.alloc o1).alloc o2).heap[w.heap.size]?=some o1∧((w.alloc o1).alloc o2).heap[w.heap.size+1]?=some o2:=by
 refine⟨(Below.heap_alloc _ _ _ (by simp)).trans (heap_alloc_new w o1),?_⟩
 have:=heap_alloc_new (w.alloc o1) o2;rw[show (w.alloc o1).heap.size=w.heap.size+1 by simp] at this;exact this
theorem za4 {w:World} {X:Nat} {cs:Array Value} {t:TypeId} (j:Nat) (u:Value) (h:w.heap[X]?=some (.cells cs t (0,0))):(w.setCell ⟨X,j,none⟩ u).heap[X]?=some (.cells (cs.setIfInBounds j u) t (0,0)):=by
 simp[World.setCell,Array.getElem?_modify];exact⟨_,h,rfl⟩
theorem ArsM.more {w:World} {S S':Nat→Prop} {l:List Ar} {A:Option Addr} (h:ArsM w S l A) (hs:∀b,S b→b<w.heap.size→S' b):ArsM w S' l A:=by
 intro i hi;obtain⟨b,off,e,hb,A',n,c,f,h0,h1,h2,hI,hat,hE⟩:=h i hi;refine⟨b,off,e,hs b hb hat.lt,A',n,c,f,h0,h1,h2,?_,hat,hE.low'.more fun b hb=>hs b hb.1 hb.2⟩;cases hx:l[i].r.idx with
 | none=>rw[hx] at hI;exact hI
 | some E =>
  rw[hx] at hI;obtain⟨hn,b,off,f,e,hb,hat,hM⟩:=hI;exact⟨hn,b,off,f,e,hs b hb hat.lt,hat,hM.low'.more fun b hb=>hs b hb.1 hb.2⟩
theorem IdxM.more' {w:World} {S S':Nat→Prop} {E:Option Ex} {A:Option Addr} {n:Nat} (h:IdxM w S E A n) (hs:∀b,S b→b<w.heap.size→S' b):IdxM w S' E A n:=by
 cases E with
 | none=>exact h
 | some E =>
  obtain⟨hn,b,off,f,e,hb,hat,hM⟩:=h;exact⟨hn,b,off,f,e,hs b hb hat.lt,hat,hM.low'.more fun b hb=>hs b hb.1 hb.2⟩
theorem StM.more {w:World} {S S':Nat→Prop} {s:St} {G:SG} (h:StM w S s G) (hs:∀b,S b→b<w.heap.size→S' b):StM w S' s G:=by
 induction h with
 | mk kind name e r args thn els g T E he hr ha htc hts hec hes iht ihe =>
  refine .mk kind name e r args thn els g T E (he.low'.more fun b hb=>hs b hb.1 hb.2) (hr.more' hs) (ha.more hs) (fun i hi=>?_) iht (fun i hi=>?_) ihe
  ·
   obtain⟨b,off,e,hb,hc⟩:=htc i hi;exact⟨b,off,e,hs b hb hc.lt,hc⟩
  ·
   obtain⟨b,off,e,hb,hc⟩:=hec i hi;exact⟨b,off,e,hs b hb hc.lt,hc⟩
theorem StsM.nil (w:World) (S:Nat→Prop) (A:Option Addr):StsM w S [] A:=⟨fun _=>⟨⟨0,0,[],none,0,0⟩,none,0,0,none,0,none,0,none,0⟩,fun i hi=>absurd hi (by simp),fun i hi=>absurd hi (by simp)⟩
theorem zaL {w:World} {S:Nat→Prop} (kind:Int) (name:List UInt8) (e:Ex) (r:Rf) (args:List Ar) (thn els:List St) (G:SG) (he:ExM w S e G.f) (hr:IdxM w S r.idx G.rA G.rn) (ha:ArsM w S args G.aA) (ht:StsM w S thn G.tA) (hl:StsM w S els G.eA):StM w S (.mk kind name e r args thn els) G:=by
 obtain⟨T,h1,h2⟩:=ht;obtain⟨E,h3,h4⟩:=hl;exact .mk kind name e r args thn els G T E he hr ha h1 h2 h3 h4
theorem ArsM.nil (w:World) (S:Nat→Prop) (A:Option Addr):ArsM w S [] A:=fun i hi=>absurd hi (by simp)
def ze1 (s:St) (G:SG):Value:=.agg #[.int .i64 s.kind,.string ⟨s.name.toArray⟩,.int .i64 G.f.op,.int .i64 G.f.num,.string ⟨G.f.name.toArray⟩,.slice G.f.A G.f.n G.f.c,.string ⟨s.rf.name.toArray⟩,.slice G.rA G.rn G.rc,.slice G.aA s.ars.length G.ac,.slice G.tA s.thn.length G.tc,.slice G.eA s.els.length G.ec]
def StP (w:World) (g:Nat) (ts:List Tk.Tok) (R:St × Pa.Sg) (o:Nat) (e:Ending) (w':World):Prop :=
 ∃G:SG,e=.returned (ze1 R.1 G)∧StM w' (w.heap.size≤·) R.1 G∧Pps w' g ts R.2 o∧w.grownBy w' (some g)
theorem ArsM.putAt {w w':World} {r N:Nat} {l:List Ar} {A:Option Addr} (h:ArsM w (N≤·) l A) (hp:PutAt r w w') (hr:r<N):ArsM w' (N≤·) l A:=h.keep fun b hb _=>hp.2.2.2.2 b (by omega)
theorem StsM.putAt {w w':World} {r N:Nat} {l:List St} {A:Option Addr} (h:StsM w (N≤·) l A) (hp:PutAt r w w') (hr:r<N):StsM w' (N≤·) l A:=h.keep fun b hb _=>hp.2.2.2.2 b (by omega)
theorem StM.putAt {w w':World} {r N:Nat} {s:St} {G:SG} (h:StM w (N≤·) s G) (hp:PutAt r w w') (hr:r<N):StM w' (N≤·) s G:=h.keep fun b hb _=>hp.2.2.2.2 b (by omega)
theorem ExM.gr {w w':World} {g N:Nat} {E:Ex} {f:EF} (h:ExM w (N≤·) E f) (hG:w.grownBy w' (some g)) (hg:g<N):ExM w' (N≤·) E f:=h.keep fun b hb hl=>hG.block b hl (fun e=>by injection e with e;omega)
theorem IdxM.gr {w w':World} {g N:Nat} {E:Option Ex} {A:Option Addr} {n:Nat} (h:IdxM w (N≤·) E A n) (hG:w.grownBy w' (some g)) (hg:g<N):IdxM w' (N≤·) E A n:=h.keep fun b hb hl=>hG.block b hl (fun e=>by injection e with e;omega)
theorem ArsM.gr {w w':World} {g N:Nat} {l:List Ar} {A:Option Addr} (h:ArsM w (N≤·) l A) (hG:w.grownBy w' (some g)) (hg:g<N):ArsM w' (N≤·) l A:=h.keep fun b hb hl=>hG.block b hl (fun e=>by injection e with e;omega)
theorem StsM.gr {w w':World} {g N:Nat} {l:List St} {A:Option Addr} (h:StsM w (N≤·) l A) (hG:w.grownBy w' (some g)) (hg:g<N):StsM w' (N≤·) l A:=h.keep fun b hb hl=>hG.block b hl (fun e=>by injection e with e;omega)
set_option maxRecDepth 100000 in
set_option maxHeartbeats 4000000 in
theorem zeb (w:World) (g:Nat) (ts:List Tk.Tok) (kind:Int) (name:List UInt8) (σ:Pa.Sg) (o:Nat) (hP:Pps w g ts σ o) (hS:SgG w g) :
  Calls Tryz.prog 67 #[.pointer (some ⟨g,0,none⟩),.int .i64 kind,.string ⟨name.toArray⟩] w (StP w g ts (Pa.sSet ts kind name σ) o):=by
 have HP:=zH hP;have HS:=zH hS;have hgw:=hP.lt;have hgR':w.heap.size≠g:=by omega
 have hgT':w.heap.size+1≠g:=by omega
 have hTR:w.heap.size+1≠w.heap.size:=by omega
 clear hP hS;go_enter Tryz.func67,Tryz.ntmps67;go_wp2_with fail;refine(zap _ g ts σ o [61] ((HP.out.alloc _).alloc _)).mono ?_;rintro x w1 ⟨rfl,hP1,hG1⟩;obtain⟨hn1,hn2⟩:=new2 w (.cells #[.int .i64 0,.string ⟨#[]⟩,.int .i64 0,.int .i64 0,.string ⟨#[]⟩,.slice none 0 0,.string ⟨#[]⟩,.slice none 0 0,.slice none 0 0,.slice none 0 0,.slice none 0 0] 73) (.cells #[.int .i64 kind,.string ⟨name.toArray⟩,.int .i64 0,.int .i64 0,.string ⟨#[]⟩,.slice none 0 0,.string ⟨#[]⟩,.slice none 0 0,.slice none 0 0,.slice none 0 0,.slice none 0 0] 73);have HR1:=zH (za1 hG1 hn1 hgR');have HT1:=zH (za1 hG1 hn2 hgT');have HP1:=zH hP1;have HG1:=zH (za6 (za6 hG1));have hl1:w.heap.size+1<w1.heap.size:=lt_of_block HT1.out;clear hP1 hG1 hn1 hn2;generalize hτ:Pa.xp ts σ [61]=τ at *;have HV:Hid (Pa.sSet ts kind name σ=(.mk kind name (Pa.exX ts τ) noRf [] [] [],Pa.xp ts (Pa.exS ts τ) [59])):=by show _=_;unfold Pa.sSet;rw[hτ]
 clear hτ;go_wp2_with fail;refine(zcU w1 g ts τ o HP1.out (HS.out.grown HG1.out)).mono ?_;rintro x w2 ⟨f,rfl,hX2,hP2,hG2⟩;unfold EF.val;have HR2:=zH (za1 hG2 HR1.out hgR');have HT2:=zH (za1 hG2 HT1.out hgT');have HX2:=zH hX2;have HP2:=zH hP2;have HG2:=zH (za0 HG1.out hG2);clear hX2 hP2 hG2;obtain⟨t0,t1,t2,t3,t4,t5,t6,t7,t8,t9,t10,tf,htl⟩:=zac HT2.out;have u2:=tf 2;have u3:=tf 3;have u4:=tf 4;have u5:=tf 5;clear tf;go_wp2_with fail;obtain⟨W3,hW3⟩:∃W,W=(((w2.setCell ⟨w.heap.size+1,2,none⟩ (.int .i64 f.op)).setCell ⟨w.heap.size+1,3,none⟩ (.int .i64 f.num)).setCell ⟨w.heap.size+1,4,none⟩ (.string ⟨f.name.toArray⟩)).setCell ⟨w.heap.size+1,5,none⟩ (.slice f.A f.n f.c):=⟨_,rfl⟩;have hq3:PutAt (w.heap.size+1) w2 W3:=by
  rw[hW3];exact((((PutAt.refl (w.heap.size+1) w2).set 2 _).set 3 _).set 4 _).set 5 _
 have HT3:Hid (W3.heap[w.heap.size+1]?=some (.cells #[.int .i64 kind,.string ⟨name.toArray⟩,.int .i64 f.op,.int .i64 f.num,.string ⟨f.name.toArray⟩,.slice f.A f.n f.c,.string ⟨#[]⟩,.slice none 0 0,.slice none 0 0,.slice none 0 0,.slice none 0 0] 73 (0,0))):=by
  rw[hW3];exact za4 5 _ (za4 4 _ (za4 3 _ (za4 2 _ HT2.out)))
 have HR3:=zH ((hq3.2.2.2.2 _ (by omega)).trans HR2.out);have HX3:=zH (HX2.out.putAt hq3 hl1);have HP3:=zH (HP2.out.putAt hq3 (by omega));have HG3:=zH (za5 HG2.out hq3 (by omega));rw[←hW3];clear hW3 hq3 t0 t1 t2 t3 t4 t5 t6 t7 t8 t9 t10 u2 u3 u4 u5 htl;refine(zap W3 g ts _ o [59] HP3.out).mono ?_;rintro x w4 ⟨rfl,hP4,hG4⟩;obtain⟨r0,r1,r2,r3,r4,r5,r6,r7,r8,r9,r10,rf,-⟩:=zac (za1 hG4 HR3.out hgR');obtain⟨t0,t1,t2,t3,t4,t5,t6,t7,t8,t9,t10,-,-⟩:=zac (za1 hG4 HT3.out hgT');have f0:=rf 0;have f1:=rf 1;have f2:=rf 2;have f3:=rf 3;have f4:=rf 4;have f5:=rf 5;have f6:=rf 6;have f7:=rf 7;have f8:=rf 8;have f9:=rf 9;have f10:=rf 10;have HX4:=zH (HX3.out.gr hG4 (by omega));have HP4:=zH hP4;have HG4:=zH (za0 HG3.out hG4);clear hP4 hG4 rf;go_wp2_with fail;have hq:PutAt w.heap.size w4 _:=(((((((((((PutAt.refl w.heap.size w4).set 0 (.int .i64 kind)).set 1 (.string ⟨name.toArray⟩)).set 2 (.int .i64 f.op)).set 3 (.int .i64 f.num)).set 4 (.string ⟨f.name.toArray⟩)).set 5 (.slice f.A f.n f.c)).set 6 (.string ⟨#[]⟩)).set 7 (.slice none 0 0)).set 8 (.slice none 0 0)).set 9 (.slice none 0 0)).set 10 (.slice none 0 0);refine bodyPost_ret (v:=.agg #[.int .i64 kind,.string ⟨name.toArray⟩,.int .i64 f.op,.int .i64 f.num,.string ⟨f.name.toArray⟩,.slice f.A f.n f.c,.string ⟨#[]⟩,.slice none 0 0,.slice none 0 0,.slice none 0 0,.slice none 0 0]) (by simp[results,Tryz.results67,go_sem,r0,r1,r2,r3,r4,r5,r6,r7,r8,r9,r10]) rfl ⟨⟨f,none,0,0,none,0,none,0,none,0⟩,by rw[HV.out];rfl,?_,?_,?_⟩
 ·
  rw[HV.out];exact zaL _ _ _ _ _ _ _ _ ((HX4.out.putAt hq (by omega)).more fun b hb=>by omega) rfl (ArsM.nil _ _ _) (StsM.nil _ _ _) (StsM.nil _ _ _)
 ·
  rw[HV.out];exact HP4.out.putAt hq hgw
 ·
  exact za5 HG4.out hq (lR _)
set_option maxRecDepth 100000 in
set_option maxHeartbeats 4000000 in
theorem zfS (w:World) (g:Nat) (ts:List Tk.Tok) (kind:Int) (name:List UInt8) (σ:Pa.Sg) (o:Nat) (hP:Pps w g ts σ o) (hS:SgG w g) :
  Calls Tryz.prog 69 #[.pointer (some ⟨g,0,none⟩),.int .i64 kind,.string ⟨name.toArray⟩] w (StP w g ts (Pa.sCall ts kind name σ) o):=by
 have HP:=zH hP;have HS:=zH hS;have hgw:=hP.lt;have hgR':w.heap.size≠g:=by omega
 have hgT':w.heap.size+1≠g:=by omega
 have hTR:w.heap.size+1≠w.heap.size:=by omega
 clear hP hS;go_enter Tryz.func69,Tryz.ntmps69;go_wp2_with fail;refine(zis _ g ts σ o ((HP.out.alloc _).alloc _) (HS.out.later (((Below.refl _ _).alloc (lR _) _).alloc (by simp) _))).mono ?_;rintro x w1 ⟨A,c,rfl,hX1,hP1,hG1⟩;obtain⟨hn1,hn2⟩:=new2 w (.cells #[.int .i64 0,.string ⟨#[]⟩,.int .i64 0,.int .i64 0,.string ⟨#[]⟩,.slice none 0 0,.string ⟨#[]⟩,.slice none 0 0,.slice none 0 0,.slice none 0 0,.slice none 0 0] 73) (.cells #[.int .i64 kind,.string ⟨name.toArray⟩,.int .i64 0,.int .i64 0,.string ⟨#[]⟩,.slice none 0 0,.string ⟨#[]⟩,.slice none 0 0,.slice none 0 0,.slice none 0 0,.slice none 0 0] 73);have HR1:=zH (za1 hG1 hn1 hgR');have HT1:=zH (za1 hG1 hn2 hgT');have HP1:=zH hP1;have HX1:Hid (ArsM w1 (w.heap.size+2≤·) (Pa.sArgs ts σ).1 A):=hX1.more fun b hb _=>by simp at hb;omega
 have HG1:=zH (za6 (za6 hG1));have hl1:w.heap.size+1<w1.heap.size:=lt_of_block HT1.out;clear hP1 hG1 hn1 hn2 hX1;have HV:Hid (Pa.sCall ts kind name σ=(.mk kind name noEx noRf (Pa.sArgs ts σ).1 [] [],Pa.xp ts (Pa.sArgs ts σ).2 [59])):=rfl;generalize (Pa.sArgs ts σ).1=l at *;generalize (Pa.sArgs ts σ).2=τ at *;obtain⟨t0,t1,t2,t3,t4,t5,t6,t7,t8,t9,t10,tf,htl⟩:=zac HT1.out;have u8:=tf 8;clear tf;go_wp2_with fail;obtain⟨W3,hW3⟩:∃W,W=w1.setCell ⟨w.heap.size+1,8,none⟩ (.slice A l.length c):=⟨_,rfl⟩;have hq3:PutAt (w.heap.size+1) w1 W3:=by
  rw[hW3];exact(PutAt.refl (w.heap.size+1) w1).set 8 _
 have HT3:Hid (W3.heap[w.heap.size+1]?=some (.cells #[.int .i64 kind,.string ⟨name.toArray⟩,.int .i64 0,.int .i64 0,.string ⟨#[]⟩,.slice none 0 0,.string ⟨#[]⟩,.slice none 0 0,.slice A l.length c,.slice none 0 0,.slice none 0 0] 73 (0,0))):=by
  rw[hW3];exact za4 8 _ HT1.out
 have HR3:=zH ((hq3.2.2.2.2 _ (by omega)).trans HR1.out);have HX3:=zH (HX1.out.putAt hq3 (by omega));have HP3:=zH (HP1.out.putAt hq3 (by omega));have HG3:=zH (za5 HG1.out hq3 (by omega));rw[←hW3];clear hW3 hq3 t0 t1 t2 t3 t4 t5 t6 t7 t8 t9 t10 u8 htl;refine(zap W3 g ts _ o [59] HP3.out).mono ?_;rintro x w4 ⟨rfl,hP4,hG4⟩;obtain⟨r0,r1,r2,r3,r4,r5,r6,r7,r8,r9,r10,rf,-⟩:=zac (za1 hG4 HR3.out hgR');obtain⟨t0,t1,t2,t3,t4,t5,t6,t7,t8,t9,t10,-,-⟩:=zac (za1 hG4 HT3.out hgT');have f0:=rf 0;have f1:=rf 1;have f2:=rf 2;have f3:=rf 3;have f4:=rf 4;have f5:=rf 5;have f6:=rf 6;have f7:=rf 7;have f8:=rf 8;have f9:=rf 9;have f10:=rf 10;have HX4:=zH (HX3.out.gr hG4 (by omega));have HP4:=zH hP4;have HG4:=zH (za0 HG3.out hG4);clear hP4 hG4 rf;go_wp2_with fail;have hq:PutAt w.heap.size w4 _:=(((((((((((PutAt.refl w.heap.size w4).set 0 (.int .i64 kind)).set 1 (.string ⟨name.toArray⟩)).set 2 (.int .i64 0)).set 3 (.int .i64 0)).set 4 (.string ⟨#[]⟩)).set 5 (.slice none 0 0)).set 6 (.string ⟨#[]⟩)).set 7 (.slice none 0 0)).set 8 (.slice A l.length c)).set 9 (.slice none 0 0)).set 10 (.slice none 0 0);refine bodyPost_ret (v:=.agg #[.int .i64 kind,.string ⟨name.toArray⟩,.int .i64 0,.int .i64 0,.string ⟨#[]⟩,.slice none 0 0,.string ⟨#[]⟩,.slice none 0 0,.slice A l.length c,.slice none 0 0,.slice none 0 0]) (by simp[results,Tryz.results69,go_sem,r0,r1,r2,r3,r4,r5,r6,r7,r8,r9,r10]) rfl ⟨⟨⟨0,0,[],none,0,0⟩,none,0,0,A,c,none,0,none,0⟩,by rw[HV.out];rfl,?_,?_,?_⟩
 ·
  rw[HV.out];exact zaL _ _ _ _ _ _ _ _ (ExM.leaf _ _ _ _ _ _ _) rfl ((HX4.out.putAt hq (by omega)).more fun b hb _=>by omega) (StsM.nil _ _ _) (StsM.nil _ _ _)
 ·
  rw[HV.out];exact HP4.out.putAt hq hgw
 ·
  exact za5 HG4.out hq (lR _)
set_option maxRecDepth 100000 in
set_option maxHeartbeats 4000000 in
theorem zfR (w:World) (g:Nat) (ts:List Tk.Tok) (kind:Int) (σ:Pa.Sg) (o:Nat) (hP:Pps w g ts σ o) (hS:SgG w g) :
  Calls Tryz.prog 70 #[.pointer (some ⟨g,0,none⟩),.int .i64 kind] w (StP w g ts (Pa.sLock ts kind σ) o):=by
 have HP:=zH hP;have HS:=zH hS;have hgw:=hP.lt;have hgR':w.heap.size≠g:=by omega
 clear hP hS;go_enter Tryz.func70,Tryz.ntmps70;go_wp2_with fail;refine(zgY _ g ts σ o (HP.out.alloc _) (HS.out.later ((Below.refl _ _).alloc (lR _) _))).mono ?_;rintro x w1 ⟨A,n,c,rfl,hX1,hP1,hG1⟩;have HR1:=zH (za1 hG1 (heap_alloc_new w _) hgR');have HP1:=zH hP1;have HX1:Hid (IdxM w1 (w.heap.size+1≤·) (Pa.sRef ts σ).1.idx A n):=hX1.more' fun b hb _=>by simp at hb;omega
 have HG1:=zH (za6 hG1);have hl1:w.heap.size<w1.heap.size:=lt_of_block HR1.out;have hTg:w1.heap.size≠g:=by omega
 have hTR:w1.heap.size≠w.heap.size:=by omega
 clear hP1 hG1 hX1;have HV:Hid (Pa.sLock ts kind σ=(.mk kind [] noEx (Pa.sRef ts σ).1 [] [] [],Pa.xp ts (Pa.sRef ts σ).2 [59])):=rfl;generalize (Pa.sRef ts σ).1=r at *;generalize (Pa.sRef ts σ).2=τ at *;go_wp2_with fail;refine(zap _ g ts _ o [59] (HP1.out.alloc _)).mono ?_;rintro x w4 ⟨rfl,hP4,hG4⟩;obtain⟨r0,r1,r2,r3,r4,r5,r6,r7,r8,r9,r10,rf,-⟩:=zac (za1 hG4 ((Below.heap_alloc w1 _ _ hl1).trans HR1.out) hgR');obtain⟨t0,t1,t2,t3,t4,t5,t6,t7,t8,t9,t10,-,-⟩:=zac (za1 hG4 (heap_alloc_new w1 _) hTg);have f0:=rf 0;have f1:=rf 1;have f2:=rf 2;have f3:=rf 3;have f4:=rf 4;have f5:=rf 5;have f6:=rf 6;have f7:=rf 7;have f8:=rf 8;have f9:=rf 9;have f10:=rf 10;have HX4:=zH ((HX1.out.keep (w':=w1.alloc _) fun b _ hl=>Below.heap_alloc w1 _ b hl).gr hG4 (by omega));have HP4:=zH hP4;have HG4:=zH (za0 (zag HG1.out _) hG4);clear hP4 hG4 rf;go_wp2_with fail;have hq:PutAt w.heap.size w4 _:=(((((((((((PutAt.refl w.heap.size w4).set 0 (.int .i64 kind)).set 1 (.string ⟨#[]⟩)).set 2 (.int .i64 0)).set 3 (.int .i64 0)).set 4 (.string ⟨#[]⟩)).set 5 (.slice none 0 0)).set 6 (.string ⟨r.name.toArray⟩)).set 7 (.slice A n c)).set 8 (.slice none 0 0)).set 9 (.slice none 0 0)).set 10 (.slice none 0 0);refine bodyPost_ret (v:=.agg #[.int .i64 kind,.string ⟨#[]⟩,.int .i64 0,.int .i64 0,.string ⟨#[]⟩,.slice none 0 0,.string ⟨r.name.toArray⟩,.slice A n c,.slice none 0 0,.slice none 0 0,.slice none 0 0]) (by simp[results,Tryz.results70,go_sem,r0,r1,r2,r3,r4,r5,r6,r7,r8,r9,r10]) rfl ⟨⟨⟨0,0,[],none,0,0⟩,A,n,c,none,0,none,0,none,0⟩,by rw[HV.out];rfl,?_,?_,?_⟩
 ·
  rw[HV.out];exact zaL _ _ _ _ _ _ _ _ (ExM.leaf _ _ _ _ _ _ _) ((HX4.out.putAt hq (by omega)).more' fun b hb _=>by omega) (ArsM.nil _ _ _) (StsM.nil _ _ _) (StsM.nil _ _ _)
 ·
  rw[HV.out];exact HP4.out.putAt hq hgw
 ·
  exact za5 HG4.out hq (lR _)
def BlkP (w:World) (g:Nat) (ts:List Tk.Tok) (R:List St × Pa.Sg) (o:Nat) (e:Ending) (w':World):Prop :=
 ∃A c,e=.returned (.slice A R.1.length c)∧StsM w' (w.heap.size≤·) R.1 A∧Pps w' g ts R.2 o∧w.grownBy w' (some g)
def BlkC (g:Nat) (ts:List Tk.Tok) (b:Pa.Sg→List St × Pa.Sg) (o:Nat):Prop :=
 ∀w σ,Pps w g ts σ o→SgG w g→Calls Tryz.prog 24 #[.pointer (some ⟨g,0,none⟩)] w (BlkP w g ts (b σ) o)
theorem StsM.more {w:World} {S S':Nat→Prop} {l:List St} {A:Option Addr} (h:StsM w S l A) (hs:∀b,S b→b<w.heap.size→S' b):StsM w S' l A:=by
 obtain⟨F,h1,h2⟩:=h;refine⟨F,fun i hi=>?_,fun i hi=>(h2 i hi).more hs⟩;obtain⟨b,off,e,hb,hc⟩:=h1 i hi;exact⟨b,off,e,hs b hb hc.lt,hc⟩
theorem ExM.mid {w w':World} {M N:Nat} {E:Ex} {f:EF} (h:ExM w (fun b=>M≤b∧b<N) E f) (hk:∀b,M≤b→b<N→b<w.heap.size→w'.heap[b]?=w.heap[b]?):ExM w' (fun b=>M≤b∧b<N) E f:=h.keep fun b hb hl=>hk b hb.1 hb.2 hl
set_option maxRecDepth 100000 in
set_option maxHeartbeats 4000000 in
theorem zio (w:World) (g:Nat) (ts:List Tk.Tok) (b:Pa.Sg→List St × Pa.Sg) (σ:Pa.Sg) (o:Nat) (hB:BlkC g ts b o) (hP:Pps w g ts σ o) (hS:SgG w g) :
  Calls Tryz.prog 72 #[.pointer (some ⟨g,0,none⟩)] w (StP w g ts (Pa.sWhile ts b σ) o):=by
 have HB:=zH hB;have HP:=zH hP;have HS:=zH hS;have hgw:=hP.lt;have hgR':w.heap.size≠g:=by omega
 clear hP hS hB;go_enter Tryz.func72,Tryz.ntmps72;go_wp2_with fail;refine(zcU _ g ts σ o (HP.out.alloc _) (HS.out.later ((Below.refl _ _).alloc (lR _) _))).mono ?_;rintro x w1 ⟨f,rfl,hX1,hP1,hG1⟩;unfold EF.val;have HR1:=zH (za1 hG1 (heap_alloc_new w _) hgR');have HP1:=zH hP1;have HX1:Hid (ExM w1 (fun b=>w.heap.size+1≤b∧b<w1.heap.size) (Pa.exX ts σ) f):=hX1.low'.more fun b hb=>⟨by have:=hb.1;simp at this;omega,hb.2⟩;have HG1:=zH (za6 hG1);have hl1:w.heap.size<w1.heap.size:=lt_of_block HR1.out;have hTg:w1.heap.size≠g:=by omega
 have hTR:w1.heap.size≠w.heap.size:=by omega
 clear hP1 hG1 hX1;have HV:Hid (Pa.sWhile ts b σ=(.mk 8 [] (Pa.exX ts σ) noRf [] (b (Pa.exS ts σ)).1 [],(b (Pa.exS ts σ)).2)):=rfl;generalize Pa.exX ts σ=ex at *;generalize Pa.exS ts σ=τ at *;go_wp2_with fail;refine(HB.out _ τ (HP1.out.alloc _) ((HS.out.grown HG1.out).later ((Below.refl _ _).alloc (lR _) _))).mono ?_;rintro x w2 ⟨A,c,rfl,hY2,hP2,hG2⟩;have HR2:=zH (za1 hG2 ((Below.heap_alloc w1 _ _ hl1).trans HR1.out) hgR');have HT2:=zH (za1 hG2 (heap_alloc_new w1 _) hTg);have HX2:=zH (HX1.out.mid (w':=w2) fun b h1 h2 hl=>(hG2.block b (by simp;omega) (fun e=>by injection e with e;omega)).trans (Below.heap_alloc w1 _ b hl));have HY2:Hid (StsM w2 (w1.heap.size+1≤·) (b τ).1 A):=hY2.more fun b hb _=>by simp at hb;omega
 have HP2:=zH hP2;have HG2:=zH (za0 (zag HG1.out _) hG2);clear hP2 hG2 hY2;generalize (b τ).1=l at *;generalize (b τ).2=τ2 at *;obtain⟨t0,t1,t2,t3,t4,t5,t6,t7,t8,t9,t10,tf,htl⟩:=zac HT2.out;have u9:=tf 9;obtain⟨r0,r1,r2,r3,r4,r5,r6,r7,r8,r9,r10,rf,-⟩:=zac HR2.out;have f0:=rf 0;have f1:=rf 1;have f2:=rf 2;have f3:=rf 3;have f4:=rf 4;have f5:=rf 5;have f6:=rf 6;have f7:=rf 7;have f8:=rf 8;have f9:=rf 9;have f10:=rf 10;clear tf rf;have hq3:PutAt w1.heap.size w2 (w2.setCell ⟨w1.heap.size,9,none⟩ (.slice A l.length c)):=(PutAt.refl w1.heap.size w2).set 9 _;have HQ3:=zH hq3;clear hq3;go_wp2_with fail;have hq:PutAt w.heap.size (w2.setCell ⟨w1.heap.size,9,none⟩ (.slice A l.length c)) _:=(((((((((((PutAt.refl w.heap.size (w2.setCell ⟨w1.heap.size,9,none⟩ (.slice A l.length c))).set 0 (.int .i64 8)).set 1 (.string ⟨#[]⟩)).set 2 (.int .i64 f.op)).set 3 (.int .i64 f.num)).set 4 (.string ⟨f.name.toArray⟩)).set 5 (.slice f.A f.n f.c)).set 6 (.string ⟨#[]⟩)).set 7 (.slice none 0 0)).set 8 (.slice none 0 0)).set 9 (.slice A l.length c)).set 10 (.slice none 0 0);refine bodyPost_ret (v:=.agg #[.int .i64 8,.string ⟨#[]⟩,.int .i64 f.op,.int .i64 f.num,.string ⟨f.name.toArray⟩,.slice f.A f.n f.c,.string ⟨#[]⟩,.slice none 0 0,.slice none 0 0,.slice A l.length c,.slice none 0 0]) (by simp[results,Tryz.results72,go_sem,r0,r1,r2,r3,r4,r5,r6,r7,r8,r9,r10]) rfl ⟨⟨f,none,0,0,none,0,A,c,none,0⟩,by rw[HV.out];rfl,?_,?_,?_⟩
 ·
  rw[HV.out];exact zaL _ _ _ _ _ _ _ _ (((HX2.out.mid fun b h1 h2 hl=>HQ3.out.2.2.2.2 b (by omega)).mid fun b h1 h2 hl=>hq.2.2.2.2 b (by omega)).more fun b hb=>by omega) rfl (ArsM.nil _ _ _) (((HY2.out.putAt HQ3.out (by omega)).putAt hq (by omega)).more fun b hb _=>by omega) (StsM.nil _ _ _)
 ·
  rw[HV.out];exact(HP2.out.putAt HQ3.out (by omega)).putAt hq hgw
 ·
  exact za5 (za5 HG2.out HQ3.out (by omega)) hq (lR _)
set_option maxRecDepth 100000 in
set_option maxHeartbeats 4000000 in
theorem zgs (w:World) (g:Nat) (ts:List Tk.Tok) (b:Pa.Sg→List St × Pa.Sg) (σ:Pa.Sg) (o:Nat) (hB:BlkC g ts b o) (hP:Pps w g ts σ o) (hS:SgG w g) :
  Calls Tryz.prog 71 #[.pointer (some ⟨g,0,none⟩)] w (StP w g ts (Pa.sIf ts b σ) o):=by
 have HB:=zH hB;have HP:=zH hP;have HS:=zH hS;have hgw:=hP.lt;have hgR':w.heap.size≠g:=by omega
 clear hP hS hB;go_enter Tryz.func71,Tryz.ntmps71;go_wp2_with fail;refine(zcU _ g ts σ o (HP.out.alloc _) (HS.out.later ((Below.refl _ _).alloc (lR _) _))).mono ?_;rintro x w1 ⟨f,rfl,hX1,hP1,hG1⟩;unfold EF.val;have HR1:=zH (za1 hG1 (heap_alloc_new w _) hgR');have HP1:=zH hP1;have HX1:Hid (ExM w1 (fun b=>w.heap.size+1≤b∧b<w1.heap.size) (Pa.exX ts σ) f):=hX1.low'.more fun b hb=>⟨by have:=hb.1;simp at this;omega,hb.2⟩;have HG1:=zH (za6 hG1);have hl1:w.heap.size<w1.heap.size:=lt_of_block HR1.out;have hTg:w1.heap.size≠g:=by omega
 have hTR:w1.heap.size≠w.heap.size:=by omega
 clear hP1 hG1 hX1;have HV:Hid (Pa.sIf ts b σ=if Pa.isS ts (b (Pa.exS ts σ)).2 [101,108,115,101]=true then (.mk 7 [] (Pa.exX ts σ) noRf [] (b (Pa.exS ts σ)).1 (b (Pa.nx (b (Pa.exS ts σ)).2)).1,(b (Pa.nx (b (Pa.exS ts σ)).2)).2) else (.mk 7 [] (Pa.exX ts σ) noRf [] (b (Pa.exS ts σ)).1 [],(b (Pa.exS ts σ)).2)):=rfl;generalize Pa.exX ts σ=ex at *;generalize Pa.exS ts σ=τ at *;go_wp2_with fail;refine(HB.out _ τ (HP1.out.alloc _) ((HS.out.grown HG1.out).later ((Below.refl _ _).alloc (lR _) _))).mono ?_;rintro x w2 ⟨A,c,rfl,hY2,hP2,hG2⟩;have HR2:=zH (za1 hG2 ((Below.heap_alloc w1 _ _ hl1).trans HR1.out) hgR');have HT2:=zH (za1 hG2 (heap_alloc_new w1 _) hTg);have HX2:=zH (HX1.out.mid (w':=w2) fun b h1 h2 hl=>(hG2.block b (by simp;omega) (fun e=>by injection e with e;omega)).trans (Below.heap_alloc w1 _ b hl));have HY2:Hid (StsM w2 (w1.heap.size+1≤·) (b τ).1 A):=hY2.more fun b hb _=>by simp at hb;omega
 have HP2:=zH hP2;have HG2:=zH (za0 (zag HG1.out _) hG2);clear hP2 hG2 hY2;generalize (b τ).1=l at *;generalize (b τ).2=τ2 at *;obtain⟨t0,t1,t2,t3,t4,t5,t6,t7,t8,t9,t10,tf,htl⟩:=zac HT2.out;have u9:=tf 9;clear tf;go_wp2_with fail;obtain⟨W3,hW3⟩:∃W,W=w2.setCell ⟨w1.heap.size,9,none⟩ (.slice A l.length c):=⟨_,rfl⟩;have hq3:PutAt w1.heap.size w2 W3:=by
  rw[hW3];exact(PutAt.refl w1.heap.size w2).set 9 _
 have HT3:Hid (W3.heap[w1.heap.size]?=some (.cells #[.int .i64 7,.string ⟨#[]⟩,.int .i64 f.op,.int .i64 f.num,.string ⟨f.name.toArray⟩,.slice f.A f.n f.c,.string ⟨#[]⟩,.slice none 0 0,.slice none 0 0,.slice A l.length c,.slice none 0 0] 73 (0,0))):=by
  rw[hW3];exact za4 9 _ HT2.out
 have HR3:=zH ((hq3.2.2.2.2 _ (by omega)).trans HR2.out);have HX3:=zH (HX2.out.mid (w':=W3) fun b h1 h2 hl=>hq3.2.2.2.2 b (by omega));have HY3:=zH (HY2.out.putAt hq3 (by omega));have HP3:=zH (HP2.out.putAt hq3 (by omega));have HG3:=zH (za5 HG2.out hq3 (by omega));rw[←hW3];clear hW3 hq3 t0 t1 t2 t3 t4 t5 t6 t7 t8 t9 t10 u9 htl HX1 HX2 HY2 HP1 HP2 HR1 HR2 HT2 HG1 HG2;refine(zam W3 g ts τ2 o [101,108,115,101] HP3.out).mono ?_;rintro x w4 ⟨rfl,hP4,hG4⟩;have HR4:=zH (za1 hG4 HR3.out hgR');have HT4:=zH (za1 hG4 HT3.out hTg);have HX4:=zH (HX3.out.mid (w':=w4) fun b h1 h2 hl=>hG4.block b hl (fun e=>by injection e with e;omega));have HY4:=zH (HY3.out.gr hG4 (by omega));have HP4:=zH hP4;have HG4:=zH (za0 HG3.out hG4);have hl4:w1.heap.size<w4.heap.size:=lt_of_block HT4.out;clear hP4 hG4;cases hI:Pa.isS ts τ2 [101,108,115,101] with
 | true =>
  have hac:Pa.ac ts τ2 [101,108,115,101]=Pa.nx τ2:=if_pos hI;rw[hac] at HP4;have HV2:=zH (HV.out.trans (if_pos hI));clear hac hI HV;go_wp2_with fail;refine(HB.out w4 (Pa.nx τ2) HP4.out (HS.out.grown HG4.out)).mono ?_;rintro x w5 ⟨A2,c2,rfl,hY5,hP5,hG5⟩;have HR5:=zH (za1 hG5 HR4.out hgR');have HT5:=zH (za1 hG5 HT4.out hTg);have HX5:=zH (HX4.out.mid (w':=w5) fun b h1 h2 hl=>hG5.block b hl (fun e=>by injection e with e;omega));have HY5:=zH (HY4.out.gr hG5 (by omega));have HE5:Hid (StsM w5 (w1.heap.size+1≤·) (b (Pa.nx τ2)).1 A2):=hY5.more fun b hb _=>by omega
  have HP5:=zH hP5;have HG5:=zH (za0 HG4.out hG5);clear hP5 hG5 hY5;generalize (b (Pa.nx τ2)).1=l2 at *;generalize (b (Pa.nx τ2)).2=τ3 at *;obtain⟨t0,t1,t2,t3,t4,t5,t6,t7,t8,t9,t10,tf,htl⟩:=zac HT5.out;have u10:=tf 10;obtain⟨r0,r1,r2,r3,r4,r5,r6,r7,r8,r9,r10,rf,-⟩:=zac HR5.out;have f0:=rf 0;have f1:=rf 1;have f2:=rf 2;have f3:=rf 3;have f4:=rf 4;have f5:=rf 5;have f6:=rf 6;have f7:=rf 7;have f8:=rf 8;have f9:=rf 9;have f10:=rf 10;clear tf rf;have hq3:PutAt w1.heap.size w5 (w5.setCell ⟨w1.heap.size,10,none⟩ (.slice A2 l2.length c2)):=(PutAt.refl w1.heap.size w5).set 10 _;have HQ3:=zH hq3;clear hq3;go_wp2_with fail;have hq:PutAt w.heap.size (w5.setCell ⟨w1.heap.size,10,none⟩ (.slice A2 l2.length c2)) _:=(((((((((((PutAt.refl w.heap.size (w5.setCell ⟨w1.heap.size,10,none⟩ (.slice A2 l2.length c2))).set 0 (.int .i64 7)).set 1 (.string ⟨#[]⟩)).set 2 (.int .i64 f.op)).set 3 (.int .i64 f.num)).set 4 (.string ⟨f.name.toArray⟩)).set 5 (.slice f.A f.n f.c)).set 6 (.string ⟨#[]⟩)).set 7 (.slice none 0 0)).set 8 (.slice none 0 0)).set 9 (.slice A l.length c)).set 10 (.slice A2 l2.length c2);refine bodyPost_ret (v:=.agg #[.int .i64 7,.string ⟨#[]⟩,.int .i64 f.op,.int .i64 f.num,.string ⟨f.name.toArray⟩,.slice f.A f.n f.c,.string ⟨#[]⟩,.slice none 0 0,.slice none 0 0,.slice A l.length c,.slice A2 l2.length c2]) (by simp[results,Tryz.results71,go_sem,r0,r1,r2,r3,r4,r5,r6,r7,r8,r9,r10]) rfl ⟨⟨f,none,0,0,none,0,A,c,A2,c2⟩,by rw[HV2.out];rfl,?_,?_,?_⟩
  ·
   rw[HV2.out];exact zaL _ _ _ _ _ _ _ _ (((HX5.out.mid fun b h1 h2 hl=>HQ3.out.2.2.2.2 b (by omega)).mid fun b h1 h2 hl=>hq.2.2.2.2 b (by omega)).more fun b hb=>by omega) rfl (ArsM.nil _ _ _) (((HY5.out.putAt HQ3.out (by omega)).putAt hq (by omega)).more fun b hb _=>by omega) (((HE5.out.putAt HQ3.out (by omega)).putAt hq (by omega)).more fun b hb _=>by omega)
  ·
   rw[HV2.out];exact(HP5.out.putAt HQ3.out (by omega)).putAt hq hgw
  ·
   exact za5 (za5 HG5.out HQ3.out (by omega)) hq (lR _)
 | false =>
  have hac:Pa.ac ts τ2 [101,108,115,101]=τ2:=if_neg (by rw[hI];decide);rw[hac] at HP4;have HV2:=zH (HV.out.trans (if_neg (by rw[hI];decide)));clear hac hI HV;obtain⟨t0,t1,t2,t3,t4,t5,t6,t7,t8,t9,t10,-,htl⟩:=zac HT4.out;obtain⟨r0,r1,r2,r3,r4,r5,r6,r7,r8,r9,r10,rf,-⟩:=zac HR4.out;have f0:=rf 0;have f1:=rf 1;have f2:=rf 2;have f3:=rf 3;have f4:=rf 4;have f5:=rf 5;have f6:=rf 6;have f7:=rf 7;have f8:=rf 8;have f9:=rf 9;have f10:=rf 10;clear rf;go_wp2_with fail;have hq:PutAt w.heap.size w4 _:=(((((((((((PutAt.refl w.heap.size w4).set 0 (.int .i64 7)).set 1 (.string ⟨#[]⟩)).set 2 (.int .i64 f.op)).set 3 (.int .i64 f.num)).set 4 (.string ⟨f.name.toArray⟩)).set 5 (.slice f.A f.n f.c)).set 6 (.string ⟨#[]⟩)).set 7 (.slice none 0 0)).set 8 (.slice none 0 0)).set 9 (.slice A l.length c)).set 10 (.slice none 0 0);refine bodyPost_ret (v:=.agg #[.int .i64 7,.string ⟨#[]⟩,.int .i64 f.op,.int .i64 f.num,.string ⟨f.name.toArray⟩,.slice f.A f.n f.c,.string ⟨#[]⟩,.slice none 0 0,.slice none 0 0,.slice A l.length c,.slice none 0 0]) (by simp[results,Tryz.results71,go_sem,r0,r1,r2,r3,r4,r5,r6,r7,r8,r9,r10]) rfl ⟨⟨f,none,0,0,none,0,A,c,none,0⟩,by rw[HV2.out];rfl,?_,?_,?_⟩
  ·
   rw[HV2.out];exact zaL _ _ _ _ _ _ _ _ ((HX4.out.mid fun b h1 h2 hl=>hq.2.2.2.2 b (by omega)).more fun b hb=>by omega) rfl (ArsM.nil _ _ _) ((HY4.out.putAt hq (by omega)).more fun b hb _=>by omega) (StsM.nil _ _ _)
  ·
   rw[HV2.out];exact HP4.out.putAt hq hgw
  ·
   exact za5 HG4.out hq (lR _)
set_option maxRecDepth 100000 in
set_option maxHeartbeats 8000000 in
theorem zik (w:World) (g:Nat) (ts:List Tk.Tok) (b:Pa.Sg→List St × Pa.Sg) (σ:Pa.Sg) (o:Nat) (hB:BlkC g ts b o) (hP:Pps w g ts σ o) (hS:SgG w g) :
  Calls Tryz.prog 49 #[.pointer (some ⟨g,0,none⟩)] w (StP w g ts (Pa.sStmt ts b σ) o):=by
 have HB:=zH hB;have HP:=zH hP;have HS:=zH hS;have hgw:=hP.lt;have hgR':w.heap.size≠g:=by omega
 clear hP hS hB;go_enter Tryz.func49,Tryz.ntmps49;go_wp2_with fail;refine(zam _ g ts σ o [118,97,114] (HP.out.alloc _)).mono ?_;rintro x w1 ⟨rfl,hP1,hG1⟩;have HRK1:=zH (za1 hG1 (heap_alloc_new w _) hgR');have HGK1:=zH (za6 hG1);have HPK1:=zH hP1;have hl1:w.heap.size<w1.heap.size:=lt_of_block HRK1.out;clear hP1 hG1;cases hI:Pa.isS ts σ [118,97,114] with
 | true =>
  have hac:Pa.ac ts σ [118,97,114]=Pa.nx σ:=if_pos hI;rw[hac] at HPK1;have HV:Hid (Pa.sStmt ts b σ=Pa.sSet ts 1 (Pa.nmV ts (Pa.nx σ)) (Pa.tk ts (Pa.nx σ) 1)):=by show _=_;unfold Pa.sStmt;rw[if_pos hI]
  clear hac hI;go_wp2_with fail;refine(zbd w1 g ts _ o HPK1.out).mono ?_;rintro x wa ⟨rfl,hP2,hG2⟩;have HRA:=zH (za1 hG2 HRK1.out hgR');have HPA:=zH hP2;have HGA:=zH (za0 HGK1.out hG2);have hla:w.heap.size<wa.heap.size:=lt_of_block HRA.out;clear hP2 hG2;go_wp2_with fail;refine(zeb wa g ts 1 _ _ o HPA.out (HS.out.grown HGA.out)).mono ?_;rintro x wz ⟨G,rfl,hM,hP3,hG3⟩;have HRZ:=zH (za1 hG3 HRA.out hgR');have HM:=zH hM;have HPZ:=zH hP3;have HGZ:=zH (za0 HGA.out hG3);clear hM hP3 hG3;unfold ze1;generalize hR:Pa.sSet ts 1 (Pa.nmV ts (Pa.nx σ)) (Pa.tk ts (Pa.nx σ) 1)=R at *;obtain⟨s,ρ⟩:=R;clear hR;dsimp only at HM HPZ ⊢;obtain⟨r0,r1,r2,r3,r4,r5,r6,r7,r8,r9,r10,rf,-⟩:=zac HRZ.out;have f0:=rf 0;have f1:=rf 1;have f2:=rf 2;have f3:=rf 3;have f4:=rf 4;have f5:=rf 5;have f6:=rf 6;have f7:=rf 7;have f8:=rf 8;have f9:=rf 9;have f10:=rf 10;clear rf;go_wp2_with fail;have hq:PutAt w.heap.size wz _:=(((((((((((PutAt.refl w.heap.size wz).set 0 (.int .i64 s.kind)).set 1 (.string ⟨s.name.toArray⟩)).set 2 (.int .i64 G.f.op)).set 3 (.int .i64 G.f.num)).set 4 (.string ⟨G.f.name.toArray⟩)).set 5 (.slice G.f.A G.f.n G.f.c)).set 6 (.string ⟨s.rf.name.toArray⟩)).set 7 (.slice G.rA G.rn G.rc)).set 8 (.slice G.aA s.ars.length G.ac)).set 9 (.slice G.tA s.thn.length G.tc)).set 10 (.slice G.eA s.els.length G.ec);refine bodyPost_ret (v:=.agg #[.int .i64 s.kind,.string ⟨s.name.toArray⟩,.int .i64 G.f.op,.int .i64 G.f.num,.string ⟨G.f.name.toArray⟩,.slice G.f.A G.f.n G.f.c,.string ⟨s.rf.name.toArray⟩,.slice G.rA G.rn G.rc,.slice G.aA s.ars.length G.ac,.slice G.tA s.thn.length G.tc,.slice G.eA s.els.length G.ec]) (by simp[results,Tryz.results49,go_sem,r0,r1,r2,r3,r4,r5,r6,r7,r8,r9,r10]) rfl ⟨G,by rw[HV.out];rfl,?_,?_,?_⟩
  ·
   rw[HV.out];exact(HM.out.putAt hq (by omega)).more fun b hb _=>by omega
  ·
   rw[HV.out];exact HPZ.out.putAt hq hgw
  ·
   exact za5 HGZ.out hq (lR _)
 | false =>
  have hac:Pa.ac ts σ [118,97,114]=σ:=if_neg (by rw[hI];decide);rw[hac] at HPK1;have HN0:=zH hI;clear hac hI;obtain⟨wk,hwk⟩:∃W,W=w1:=⟨_,rfl⟩;subst hwk;have HPK:=HPK1;have HRK:=HRK1;have HGK:=HGK1;have hlk:=hl1;clear HPK1 HRK1 HGK1 hl1;go_wp2_with fail;refine(zam wk g ts σ o [103,111] HPK.out).mono ?_;rintro x w2 ⟨rfl,hP1,hG1⟩;have HRK1:=zH (za1 hG1 HRK.out hgR');have HGK1:=zH (za0 HGK.out hG1);have HPK1:=zH hP1;have hl1:w.heap.size<w2.heap.size:=lt_of_block HRK1.out;clear hP1 hG1 HRK HGK HPK hlk;cases hI:Pa.isS ts σ [103,111] with
  | true =>
   have hac:Pa.ac ts σ [103,111]=Pa.nx σ:=if_pos hI;rw[hac] at HPK1;have HV:Hid (Pa.sStmt ts b σ=Pa.sCall ts 4 (Pa.nmV ts (Pa.nx σ)) (Pa.tk ts (Pa.nx σ) 1)):=by show _=_;unfold Pa.sStmt;rw[if_neg (by rw[HN0.out];decide),if_pos hI]
   clear hac hI;go_wp2_with fail;refine(zbd w2 g ts _ o HPK1.out).mono ?_;rintro x wa ⟨rfl,hP2,hG2⟩;have HRA:=zH (za1 hG2 HRK1.out hgR');have HPA:=zH hP2;have HGA:=zH (za0 HGK1.out hG2);have hla:w.heap.size<wa.heap.size:=lt_of_block HRA.out;clear hP2 hG2;go_wp2_with fail;refine(zfS wa g ts 4 _ _ o HPA.out (HS.out.grown HGA.out)).mono ?_;rintro x wz ⟨G,rfl,hM,hP3,hG3⟩;have HRZ:=zH (za1 hG3 HRA.out hgR');have HM:=zH hM;have HPZ:=zH hP3;have HGZ:=zH (za0 HGA.out hG3);clear hM hP3 hG3;unfold ze1;generalize hR:Pa.sCall ts 4 (Pa.nmV ts (Pa.nx σ)) (Pa.tk ts (Pa.nx σ) 1)=R at *;obtain⟨s,ρ⟩:=R;clear hR;dsimp only at HM HPZ ⊢;obtain⟨r0,r1,r2,r3,r4,r5,r6,r7,r8,r9,r10,rf,-⟩:=zac HRZ.out;have f0:=rf 0;have f1:=rf 1;have f2:=rf 2;have f3:=rf 3;have f4:=rf 4;have f5:=rf 5;have f6:=rf 6;have f7:=rf 7;have f8:=rf 8;have f9:=rf 9;have f10:=rf 10;clear rf;go_wp2_with fail;have hq:PutAt w.heap.size wz _:=(((((((((((PutAt.refl w.heap.size wz).set 0 (.int .i64 s.kind)).set 1 (.string ⟨s.name.toArray⟩)).set 2 (.int .i64 G.f.op)).set 3 (.int .i64 G.f.num)).set 4 (.string ⟨G.f.name.toArray⟩)).set 5 (.slice G.f.A G.f.n G.f.c)).set 6 (.string ⟨s.rf.name.toArray⟩)).set 7 (.slice G.rA G.rn G.rc)).set 8 (.slice G.aA s.ars.length G.ac)).set 9 (.slice G.tA s.thn.length G.tc)).set 10 (.slice G.eA s.els.length G.ec);refine bodyPost_ret (v:=.agg #[.int .i64 s.kind,.string ⟨s.name.toArray⟩,.int .i64 G.f.op,.int .i64 G.f.num,.string ⟨G.f.name.toArray⟩,.slice G.f.A G.f.n G.f.c,.string ⟨s.rf.name.toArray⟩,.slice G.rA G.rn G.rc,.slice G.aA s.ars.length G.ac,.slice G.tA s.thn.length G.tc,.slice G.eA s.els.length G.ec]) (by simp[results,Tryz.results49,go_sem,r0,r1,r2,r3,r4,r5,r6,r7,r8,r9,r10]) rfl ⟨G,by rw[HV.out];rfl,?_,?_,?_⟩
   ·
    rw[HV.out];exact(HM.out.putAt hq (by omega)).more fun b hb _=>by omega
   ·
    rw[HV.out];exact HPZ.out.putAt hq hgw
   ·
    exact za5 HGZ.out hq (lR _)
  | false =>
   have hac:Pa.ac ts σ [103,111]=σ:=if_neg (by rw[hI];decide);rw[hac] at HPK1;have HN1:=zH hI;clear hac hI;obtain⟨wk,hwk⟩:∃W,W=w2:=⟨_,rfl⟩;subst hwk;have HPK:=HPK1;have HRK:=HRK1;have HGK:=HGK1;have hlk:=hl1;clear HPK1 HRK1 HGK1 hl1;go_wp2_with fail;refine(zam wk g ts σ o [108,111,99,107] HPK.out).mono ?_;rintro x w3 ⟨rfl,hP1,hG1⟩;have HRK1:=zH (za1 hG1 HRK.out hgR');have HGK1:=zH (za0 HGK.out hG1);have HPK1:=zH hP1;have hl1:w.heap.size<w3.heap.size:=lt_of_block HRK1.out;clear hP1 hG1 HRK HGK HPK hlk;cases hI:Pa.isS ts σ [108,111,99,107] with
   | true =>
    have hac:Pa.ac ts σ [108,111,99,107]=Pa.nx σ:=if_pos hI;rw[hac] at HPK1;have HV:Hid (Pa.sStmt ts b σ=Pa.sLock ts 5 (Pa.nx σ)):=by show _=_;unfold Pa.sStmt;rw[if_neg (by rw[HN0.out];decide),if_neg (by rw[HN1.out];decide),if_pos hI]
    clear hac hI;go_wp2_with fail;refine(zfR w3 g ts 5 _ o HPK1.out (HS.out.grown HGK1.out)).mono ?_;rintro x wz ⟨G,rfl,hM,hP3,hG3⟩;have HRZ:=zH (za1 hG3 HRK1.out hgR');have HM:=zH hM;have HPZ:=zH hP3;have HGZ:=zH (za0 HGK1.out hG3);clear hM hP3 hG3;unfold ze1;generalize hR:Pa.sLock ts 5 (Pa.nx σ)=R at *;obtain⟨s,ρ⟩:=R;clear hR;dsimp only at HM HPZ ⊢;obtain⟨r0,r1,r2,r3,r4,r5,r6,r7,r8,r9,r10,rf,-⟩:=zac HRZ.out;have f0:=rf 0;have f1:=rf 1;have f2:=rf 2;have f3:=rf 3;have f4:=rf 4;have f5:=rf 5;have f6:=rf 6;have f7:=rf 7;have f8:=rf 8;have f9:=rf 9;have f10:=rf 10;clear rf;go_wp2_with fail;have hq:PutAt w.heap.size wz _:=(((((((((((PutAt.refl w.heap.size wz).set 0 (.int .i64 s.kind)).set 1 (.string ⟨s.name.toArray⟩)).set 2 (.int .i64 G.f.op)).set 3 (.int .i64 G.f.num)).set 4 (.string ⟨G.f.name.toArray⟩)).set 5 (.slice G.f.A G.f.n G.f.c)).set 6 (.string ⟨s.rf.name.toArray⟩)).set 7 (.slice G.rA G.rn G.rc)).set 8 (.slice G.aA s.ars.length G.ac)).set 9 (.slice G.tA s.thn.length G.tc)).set 10 (.slice G.eA s.els.length G.ec);refine bodyPost_ret (v:=.agg #[.int .i64 s.kind,.string ⟨s.name.toArray⟩,.int .i64 G.f.op,.int .i64 G.f.num,.string ⟨G.f.name.toArray⟩,.slice G.f.A G.f.n G.f.c,.string ⟨s.rf.name.toArray⟩,.slice G.rA G.rn G.rc,.slice G.aA s.ars.length G.ac,.slice G.tA s.thn.length G.tc,.slice G.eA s.els.length G.ec]) (by simp[results,Tryz.results49,go_sem,r0,r1,r2,r3,r4,r5,r6,r7,r8,r9,r10]) rfl ⟨G,by rw[HV.out];rfl,?_,?_,?_⟩
    ·
     rw[HV.out];exact(HM.out.putAt hq (by omega)).more fun b hb _=>by omega
    ·
     rw[HV.out];exact HPZ.out.putAt hq hgw
    ·
     exact za5 HGZ.out hq (lR _)
   | false =>
    have hac:Pa.ac ts σ [108,111,99,107]=σ:=if_neg (by rw[hI];decide);rw[hac] at HPK1;have HN2:=zH hI;clear hac hI;obtain⟨wk,hwk⟩:∃W,W=w3:=⟨_,rfl⟩;subst hwk;have HPK:=HPK1;have HRK:=HRK1;have HGK:=HGK1;have hlk:=hl1;clear HPK1 HRK1 HGK1 hl1;go_wp2_with fail;refine(zam wk g ts σ o [117,110,108,111,99,107] HPK.out).mono ?_;rintro x w4 ⟨rfl,hP1,hG1⟩;have HRK1:=zH (za1 hG1 HRK.out hgR');have HGK1:=zH (za0 HGK.out hG1);have HPK1:=zH hP1;have hl1:w.heap.size<w4.heap.size:=lt_of_block HRK1.out;clear hP1 hG1 HRK HGK HPK hlk;cases hI:Pa.isS ts σ [117,110,108,111,99,107] with
    | true =>
     have hac:Pa.ac ts σ [117,110,108,111,99,107]=Pa.nx σ:=if_pos hI;rw[hac] at HPK1;have HV:Hid (Pa.sStmt ts b σ=Pa.sLock ts 6 (Pa.nx σ)):=by show _=_;unfold Pa.sStmt;rw[if_neg (by rw[HN0.out];decide),if_neg (by rw[HN1.out];decide),if_neg (by rw[HN2.out];decide),if_pos hI]
     clear hac hI;go_wp2_with fail;refine(zfR w4 g ts 6 _ o HPK1.out (HS.out.grown HGK1.out)).mono ?_;rintro x wz ⟨G,rfl,hM,hP3,hG3⟩;have HRZ:=zH (za1 hG3 HRK1.out hgR');have HM:=zH hM;have HPZ:=zH hP3;have HGZ:=zH (za0 HGK1.out hG3);clear hM hP3 hG3;unfold ze1;generalize hR:Pa.sLock ts 6 (Pa.nx σ)=R at *;obtain⟨s,ρ⟩:=R;clear hR;dsimp only at HM HPZ ⊢;obtain⟨r0,r1,r2,r3,r4,r5,r6,r7,r8,r9,r10,rf,-⟩:=zac HRZ.out;have f0:=rf 0;have f1:=rf 1;have f2:=rf 2;have f3:=rf 3;have f4:=rf 4;have f5:=rf 5;have f6:=rf 6;have f7:=rf 7;have f8:=rf 8;have f9:=rf 9;have f10:=rf 10;clear rf;go_wp2_with fail;have hq:PutAt w.heap.size wz _:=(((((((((((PutAt.refl w.heap.size wz).set 0 (.int .i64 s.kind)).set 1 (.string ⟨s.name.toArray⟩)).set 2 (.int .i64 G.f.op)).set 3 (.int .i64 G.f.num)).set 4 (.string ⟨G.f.name.toArray⟩)).set 5 (.slice G.f.A G.f.n G.f.c)).set 6 (.string ⟨s.rf.name.toArray⟩)).set 7 (.slice G.rA G.rn G.rc)).set 8 (.slice G.aA s.ars.length G.ac)).set 9 (.slice G.tA s.thn.length G.tc)).set 10 (.slice G.eA s.els.length G.ec);refine bodyPost_ret (v:=.agg #[.int .i64 s.kind,.string ⟨s.name.toArray⟩,.int .i64 G.f.op,.int .i64 G.f.num,.string ⟨G.f.name.toArray⟩,.slice G.f.A G.f.n G.f.c,.string ⟨s.rf.name.toArray⟩,.slice G.rA G.rn G.rc,.slice G.aA s.ars.length G.ac,.slice G.tA s.thn.length G.tc,.slice G.eA s.els.length G.ec]) (by simp[results,Tryz.results49,go_sem,r0,r1,r2,r3,r4,r5,r6,r7,r8,r9,r10]) rfl ⟨G,by rw[HV.out];rfl,?_,?_,?_⟩
     ·
      rw[HV.out];exact(HM.out.putAt hq (by omega)).more fun b hb _=>by omega
     ·
      rw[HV.out];exact HPZ.out.putAt hq hgw
     ·
      exact za5 HGZ.out hq (lR _)
    | false =>
     have hac:Pa.ac ts σ [117,110,108,111,99,107]=σ:=if_neg (by rw[hI];decide);rw[hac] at HPK1;have HN3:=zH hI;clear hac hI;obtain⟨wk,hwk⟩:∃W,W=w4:=⟨_,rfl⟩;subst hwk;have HPK:=HPK1;have HRK:=HRK1;have HGK:=HGK1;have hlk:=hl1;clear HPK1 HRK1 HGK1 hl1;go_wp2_with fail;refine(zam wk g ts σ o [105,102] HPK.out).mono ?_;rintro x w5 ⟨rfl,hP1,hG1⟩;have HRK1:=zH (za1 hG1 HRK.out hgR');have HGK1:=zH (za0 HGK.out hG1);have HPK1:=zH hP1;have hl1:w.heap.size<w5.heap.size:=lt_of_block HRK1.out;clear hP1 hG1 HRK HGK HPK hlk;cases hI:Pa.isS ts σ [105,102] with
     | true =>
      have hac:Pa.ac ts σ [105,102]=Pa.nx σ:=if_pos hI;rw[hac] at HPK1;have HV:Hid (Pa.sStmt ts b σ=Pa.sIf ts b (Pa.nx σ)):=by show _=_;unfold Pa.sStmt;rw[if_neg (by rw[HN0.out];decide),if_neg (by rw[HN1.out];decide),if_neg (by rw[HN2.out];decide),if_neg (by rw[HN3.out];decide),if_pos hI]
      clear hac hI;go_wp2_with fail;refine(zgs w5 g ts b _ o HB.out HPK1.out (HS.out.grown HGK1.out)).mono ?_;rintro x wz ⟨G,rfl,hM,hP3,hG3⟩;have HRZ:=zH (za1 hG3 HRK1.out hgR');have HM:=zH hM;have HPZ:=zH hP3;have HGZ:=zH (za0 HGK1.out hG3);clear hM hP3 hG3;unfold ze1;generalize hR:Pa.sIf ts b (Pa.nx σ)=R at *;obtain⟨s,ρ⟩:=R;clear hR;dsimp only at HM HPZ ⊢;obtain⟨r0,r1,r2,r3,r4,r5,r6,r7,r8,r9,r10,rf,-⟩:=zac HRZ.out;have f0:=rf 0;have f1:=rf 1;have f2:=rf 2;have f3:=rf 3;have f4:=rf 4;have f5:=rf 5;have f6:=rf 6;have f7:=rf 7;have f8:=rf 8;have f9:=rf 9;have f10:=rf 10;clear rf;go_wp2_with fail;have hq:PutAt w.heap.size wz _:=(((((((((((PutAt.refl w.heap.size wz).set 0 (.int .i64 s.kind)).set 1 (.string ⟨s.name.toArray⟩)).set 2 (.int .i64 G.f.op)).set 3 (.int .i64 G.f.num)).set 4 (.string ⟨G.f.name.toArray⟩)).set 5 (.slice G.f.A G.f.n G.f.c)).set 6 (.string ⟨s.rf.name.toArray⟩)).set 7 (.slice G.rA G.rn G.rc)).set 8 (.slice G.aA s.ars.length G.ac)).set 9 (.slice G.tA s.thn.length G.tc)).set 10 (.slice G.eA s.els.length G.ec);refine bodyPost_ret (v:=.agg #[.int .i64 s.kind,.string ⟨s.name.toArray⟩,.int .i64 G.f.op,.int .i64 G.f.num,.string ⟨G.f.name.toArray⟩,.slice G.f.A G.f.n G.f.c,.string ⟨s.rf.name.toArray⟩,.slice G.rA G.rn G.rc,.slice G.aA s.ars.length G.ac,.slice G.tA s.thn.length G.tc,.slice G.eA s.els.length G.ec]) (by simp[results,Tryz.results49,go_sem,r0,r1,r2,r3,r4,r5,r6,r7,r8,r9,r10]) rfl ⟨G,by rw[HV.out];rfl,?_,?_,?_⟩
      ·
       rw[HV.out];exact(HM.out.putAt hq (by omega)).more fun b hb _=>by omega
      ·
       rw[HV.out];exact HPZ.out.putAt hq hgw
      ·
       exact za5 HGZ.out hq (lR _)
     | false =>
      have hac:Pa.ac ts σ [105,102]=σ:=if_neg (by rw[hI];decide);rw[hac] at HPK1;have HN4:=zH hI;clear hac hI;obtain⟨wk,hwk⟩:∃W,W=w5:=⟨_,rfl⟩;subst hwk;have HPK:=HPK1;have HRK:=HRK1;have HGK:=HGK1;have hlk:=hl1;clear HPK1 HRK1 HGK1 hl1;go_wp2_with fail;refine(zam wk g ts σ o [119,104,105,108,101] HPK.out).mono ?_;rintro x w6 ⟨rfl,hP1,hG1⟩;have HRK1:=zH (za1 hG1 HRK.out hgR');have HGK1:=zH (za0 HGK.out hG1);have HPK1:=zH hP1;have hl1:w.heap.size<w6.heap.size:=lt_of_block HRK1.out;clear hP1 hG1 HRK HGK HPK hlk;cases hI:Pa.isS ts σ [119,104,105,108,101] with
      | true =>
       have hac:Pa.ac ts σ [119,104,105,108,101]=Pa.nx σ:=if_pos hI;rw[hac] at HPK1;have HV:Hid (Pa.sStmt ts b σ=Pa.sWhile ts b (Pa.nx σ)):=by show _=_;unfold Pa.sStmt;rw[if_neg (by rw[HN0.out];decide),if_neg (by rw[HN1.out];decide),if_neg (by rw[HN2.out];decide),if_neg (by rw[HN3.out];decide),if_neg (by rw[HN4.out];decide),if_pos hI]
       clear hac hI;go_wp2_with fail;refine(zio w6 g ts b _ o HB.out HPK1.out (HS.out.grown HGK1.out)).mono ?_;rintro x wz ⟨G,rfl,hM,hP3,hG3⟩;have HRZ:=zH (za1 hG3 HRK1.out hgR');have HM:=zH hM;have HPZ:=zH hP3;have HGZ:=zH (za0 HGK1.out hG3);clear hM hP3 hG3;unfold ze1;generalize hR:Pa.sWhile ts b (Pa.nx σ)=R at *;obtain⟨s,ρ⟩:=R;clear hR;dsimp only at HM HPZ ⊢;obtain⟨r0,r1,r2,r3,r4,r5,r6,r7,r8,r9,r10,rf,-⟩:=zac HRZ.out;have f0:=rf 0;have f1:=rf 1;have f2:=rf 2;have f3:=rf 3;have f4:=rf 4;have f5:=rf 5;have f6:=rf 6;have f7:=rf 7;have f8:=rf 8;have f9:=rf 9;have f10:=rf 10;clear rf;go_wp2_with fail;have hq:PutAt w.heap.size wz _:=(((((((((((PutAt.refl w.heap.size wz).set 0 (.int .i64 s.kind)).set 1 (.string ⟨s.name.toArray⟩)).set 2 (.int .i64 G.f.op)).set 3 (.int .i64 G.f.num)).set 4 (.string ⟨G.f.name.toArray⟩)).set 5 (.slice G.f.A G.f.n G.f.c)).set 6 (.string ⟨s.rf.name.toArray⟩)).set 7 (.slice G.rA G.rn G.rc)).set 8 (.slice G.aA s.ars.length G.ac)).set 9 (.slice G.tA s.thn.length G.tc)).set 10 (.slice G.eA s.els.length G.ec);refine bodyPost_ret (v:=.agg #[.int .i64 s.kind,.string ⟨s.name.toArray⟩,.int .i64 G.f.op,.int .i64 G.f.num,.string ⟨G.f.name.toArray⟩,.slice G.f.A G.f.n G.f.c,.string ⟨s.rf.name.toArray⟩,.slice G.rA G.rn G.rc,.slice G.aA s.ars.length G.ac,.slice G.tA s.thn.length G.tc,.slice G.eA s.els.length G.ec]) (by simp[results,Tryz.results49,go_sem,r0,r1,r2,r3,r4,r5,r6,r7,r8,r9,r10]) rfl ⟨G,by rw[HV.out];rfl,?_,?_,?_⟩
       ·
        rw[HV.out];exact(HM.out.putAt hq (by omega)).more fun b hb _=>by omega
       ·
        rw[HV.out];exact HPZ.out.putAt hq hgw
       ·
        exact za5 HGZ.out hq (lR _)
      | false =>
       have hac:Pa.ac ts σ [119,104,105,108,101]=σ:=if_neg (by rw[hI];decide);rw[hac] at HPK1;have HN5:=zH hI;clear hac hI;obtain⟨wk,hwk⟩:∃W,W=w6:=⟨_,rfl⟩;subst hwk;have HPK:=HPK1;have HRK:=HRK1;have HGK:=HGK1;have hlk:=hl1;clear HPK1 HRK1 HGK1 hl1;go_wp2_with fail;refine(zam wk g ts σ o [114,101,116,117,114,110] HPK.out).mono ?_;rintro x w7 ⟨rfl,hP1,hG1⟩;have HRK1:=zH (za1 hG1 HRK.out hgR');have HGK1:=zH (za0 HGK.out hG1);have HPK1:=zH hP1;have hl1:w.heap.size<w7.heap.size:=lt_of_block HRK1.out;clear hP1 hG1 HRK HGK HPK hlk;cases hI:Pa.isS ts σ [114,101,116,117,114,110] with
       | true =>
        have hac:Pa.ac ts σ [114,101,116,117,114,110]=Pa.nx σ:=if_pos hI;rw[hac] at HPK1;have HV:Hid (Pa.sStmt ts b σ=(.mk 9 [] noEx noRf [] [] [],Pa.xp ts (Pa.nx σ) [59])):=by show _=_;unfold Pa.sStmt;rw[if_neg (by rw[HN0.out];decide),if_neg (by rw[HN1.out];decide),if_neg (by rw[HN2.out];decide),if_neg (by rw[HN3.out];decide),if_neg (by rw[HN4.out];decide),if_neg (by rw[HN5.out];decide),if_pos hI]
        clear hac hI;go_wp2_with fail;refine(zap w7 g ts _ o [59] HPK1.out).mono ?_;rintro x wz ⟨rfl,hP3,hG3⟩;have HRZ:=zH (za1 hG3 HRK1.out hgR');have HPZ:=zH hP3;have HGZ:=zH (za0 HGK1.out hG3);clear hP3 hG3;obtain⟨r0,r1,r2,r3,r4,r5,r6,r7,r8,r9,r10,rf,-⟩:=zac HRZ.out;have f0:=rf 0;have f1:=rf 1;have f2:=rf 2;have f3:=rf 3;have f4:=rf 4;have f5:=rf 5;have f6:=rf 6;have f7:=rf 7;have f8:=rf 8;have f9:=rf 9;have f10:=rf 10;clear rf;go_wp2_with fail;have hq:PutAt w.heap.size wz _:=(((((((((((PutAt.refl w.heap.size wz).set 0 (.int .i64 9)).set 1 (.string ⟨#[]⟩)).set 2 (.int .i64 0)).set 3 (.int .i64 0)).set 4 (.string ⟨#[]⟩)).set 5 (.slice none 0 0)).set 6 (.string ⟨#[]⟩)).set 7 (.slice none 0 0)).set 8 (.slice none 0 0)).set 9 (.slice none 0 0)).set 10 (.slice none 0 0);refine bodyPost_ret (v:=.agg #[.int .i64 9,.string ⟨#[]⟩,.int .i64 0,.int .i64 0,.string ⟨#[]⟩,.slice none 0 0,.string ⟨#[]⟩,.slice none 0 0,.slice none 0 0,.slice none 0 0,.slice none 0 0]) (by simp[results,Tryz.results49,go_sem,r0,r1,r2,r3,r4,r5,r6,r7,r8,r9,r10]) rfl ⟨⟨⟨0,0,[],none,0,0⟩,none,0,0,none,0,none,0,none,0⟩,by rw[HV.out];rfl,?_,?_,?_⟩
        ·
         rw[HV.out];exact zaL _ _ _ _ _ _ _ _ (ExM.leaf _ _ _ _ _ _ _) rfl (ArsM.nil _ _ _) (StsM.nil _ _ _) (StsM.nil _ _ _)
        ·
         rw[HV.out];exact HPZ.out.putAt hq hgw
        ·
         exact za5 HGZ.out hq (lR _)
       | false =>
        have hac:Pa.ac ts σ [114,101,116,117,114,110]=σ:=if_neg (by rw[hI];decide);rw[hac] at HPK1;have HN6:=zH hI;clear hac hI;obtain⟨wk,hwk⟩:∃W,W=w7:=⟨_,rfl⟩;subst hwk;have HPK:=HPK1;have HRK:=HRK1;have HGK:=HGK1;have hlk:=hl1;clear HPK1 HRK1 HGK1 hl1;go_wp2_with fail;refine(zbd wk g ts σ o HPK.out).mono ?_;rintro x wa ⟨rfl,hP2,hG2⟩;have HRA:=zH (za1 hG2 HRK.out hgR');have HPA:=zH hP2;have HGA:=zH (za0 HGK.out hG2);have hla:w.heap.size<wa.heap.size:=lt_of_block HRA.out;clear hP2 hG2 HPK HRK HGK hlk;go_wp2_with fail;refine(zbP wa g ts _ o [40] HPA.out).mono ?_;rintro x wb ⟨rfl,hb2⟩;have HRB:=zH ((hb2.block _ hla).trans HRA.out);have HPB:=zH (HPA.out.later hb2);have HGB:=zH (za0 HGA.out (za2 (g:=g) hb2));have hlb:w.heap.size<wb.heap.size:=lt_of_block HRB.out;clear hb2 HRA HPA HGA hla;cases hI:Pa.isS ts (Pa.tk ts σ 1) [40] with
        | true =>
         have HV:Hid (Pa.sStmt ts b σ=Pa.sCall ts 3 (Pa.nmV ts σ) (Pa.tk ts σ 1)):=by show _=_;unfold Pa.sStmt;rw[if_neg (by rw[HN0.out];decide),if_neg (by rw[HN1.out];decide),if_neg (by rw[HN2.out];decide),if_neg (by rw[HN3.out];decide),if_neg (by rw[HN4.out];decide),if_neg (by rw[HN5.out];decide),if_neg (by rw[HN6.out];decide),if_pos hI]
         clear hI;go_wp2_with fail;refine(zfS wb g ts 3 _ _ o HPB.out (HS.out.grown HGB.out)).mono ?_;rintro x wz ⟨G,rfl,hM,hP3,hG3⟩;have HRZ:=zH (za1 hG3 HRB.out hgR');have HM:=zH hM;have HPZ:=zH hP3;have HGZ:=zH (za0 HGB.out hG3);clear hM hP3 hG3;unfold ze1;generalize hR:Pa.sCall ts 3 (Pa.nmV ts σ) (Pa.tk ts σ 1)=R at *;obtain⟨s,ρ⟩:=R;clear hR;dsimp only at HM HPZ ⊢;obtain⟨r0,r1,r2,r3,r4,r5,r6,r7,r8,r9,r10,rf,-⟩:=zac HRZ.out;have f0:=rf 0;have f1:=rf 1;have f2:=rf 2;have f3:=rf 3;have f4:=rf 4;have f5:=rf 5;have f6:=rf 6;have f7:=rf 7;have f8:=rf 8;have f9:=rf 9;have f10:=rf 10;clear rf;go_wp2_with fail;have hq:PutAt w.heap.size wz _:=(((((((((((PutAt.refl w.heap.size wz).set 0 (.int .i64 s.kind)).set 1 (.string ⟨s.name.toArray⟩)).set 2 (.int .i64 G.f.op)).set 3 (.int .i64 G.f.num)).set 4 (.string ⟨G.f.name.toArray⟩)).set 5 (.slice G.f.A G.f.n G.f.c)).set 6 (.string ⟨s.rf.name.toArray⟩)).set 7 (.slice G.rA G.rn G.rc)).set 8 (.slice G.aA s.ars.length G.ac)).set 9 (.slice G.tA s.thn.length G.tc)).set 10 (.slice G.eA s.els.length G.ec);refine bodyPost_ret (v:=.agg #[.int .i64 s.kind,.string ⟨s.name.toArray⟩,.int .i64 G.f.op,.int .i64 G.f.num,.string ⟨G.f.name.toArray⟩,.slice G.f.A G.f.n G.f.c,.string ⟨s.rf.name.toArray⟩,.slice G.rA G.rn G.rc,.slice G.aA s.ars.length G.ac,.slice G.tA s.thn.length G.tc,.slice G.eA s.els.length G.ec]) (by simp[results,Tryz.results49,go_sem,r0,r1,r2,r3,r4,r5,r6,r7,r8,r9,r10]) rfl ⟨G,by rw[HV.out];rfl,?_,?_,?_⟩
         ·
          rw[HV.out];exact(HM.out.putAt hq (by omega)).more fun b hb _=>by omega
         ·
          rw[HV.out];exact HPZ.out.putAt hq hgw
         ·
          exact za5 HGZ.out hq (lR _)
        | false =>
         have HV:Hid (Pa.sStmt ts b σ=Pa.sSet ts 2 (Pa.nmV ts σ) (Pa.tk ts σ 1)):=by show _=_;unfold Pa.sStmt;rw[if_neg (by rw[HN0.out];decide),if_neg (by rw[HN1.out];decide),if_neg (by rw[HN2.out];decide),if_neg (by rw[HN3.out];decide),if_neg (by rw[HN4.out];decide),if_neg (by rw[HN5.out];decide),if_neg (by rw[HN6.out];decide),if_neg (by rw[hI];decide)]
         clear hI;go_wp2_with fail;refine(zeb wb g ts 2 _ _ o HPB.out (HS.out.grown HGB.out)).mono ?_;rintro x wz ⟨G,rfl,hM,hP3,hG3⟩;have HRZ:=zH (za1 hG3 HRB.out hgR');have HM:=zH hM;have HPZ:=zH hP3;have HGZ:=zH (za0 HGB.out hG3);clear hM hP3 hG3;unfold ze1;generalize hR:Pa.sSet ts 2 (Pa.nmV ts σ) (Pa.tk ts σ 1)=R at *;obtain⟨s,ρ⟩:=R;clear hR;dsimp only at HM HPZ ⊢;obtain⟨r0,r1,r2,r3,r4,r5,r6,r7,r8,r9,r10,rf,-⟩:=zac HRZ.out;have f0:=rf 0;have f1:=rf 1;have f2:=rf 2;have f3:=rf 3;have f4:=rf 4;have f5:=rf 5;have f6:=rf 6;have f7:=rf 7;have f8:=rf 8;have f9:=rf 9;have f10:=rf 10;clear rf;go_wp2_with fail;have hq:PutAt w.heap.size wz _:=(((((((((((PutAt.refl w.heap.size wz).set 0 (.int .i64 s.kind)).set 1 (.string ⟨s.name.toArray⟩)).set 2 (.int .i64 G.f.op)).set 3 (.int .i64 G.f.num)).set 4 (.string ⟨G.f.name.toArray⟩)).set 5 (.slice G.f.A G.f.n G.f.c)).set 6 (.string ⟨s.rf.name.toArray⟩)).set 7 (.slice G.rA G.rn G.rc)).set 8 (.slice G.aA s.ars.length G.ac)).set 9 (.slice G.tA s.thn.length G.tc)).set 10 (.slice G.eA s.els.length G.ec);refine bodyPost_ret (v:=.agg #[.int .i64 s.kind,.string ⟨s.name.toArray⟩,.int .i64 G.f.op,.int .i64 G.f.num,.string ⟨G.f.name.toArray⟩,.slice G.f.A G.f.n G.f.c,.string ⟨s.rf.name.toArray⟩,.slice G.rA G.rn G.rc,.slice G.aA s.ars.length G.ac,.slice G.tA s.thn.length G.tc,.slice G.eA s.els.length G.ec]) (by simp[results,Tryz.results49,go_sem,r0,r1,r2,r3,r4,r5,r6,r7,r8,r9,r10]) rfl ⟨G,by rw[HV.out];rfl,?_,?_,?_⟩
         ·
          rw[HV.out];exact(HM.out.putAt hq (by omega)).more fun b hb _=>by omega
         ·
          rw[HV.out];exact HPZ.out.putAt hq hgw
         ·
          exact za5 HGZ.out hq (lR _)
def stK:RowK (St × SG) where
 cl:=fun p=>[.int .i64 p.1.kind,.string ⟨p.1.name.toArray⟩,.int .i64 p.2.f.op,.int .i64 p.2.f.num,.string ⟨p.2.f.name.toArray⟩,.slice p.2.f.A p.2.f.n p.2.f.c,.string ⟨p.1.rf.name.toArray⟩,.slice p.2.rA p.2.rn p.2.rc,.slice p.2.aA p.1.ars.length p.2.ac,.slice p.2.tA p.1.thn.length p.2.tc,.slice p.2.eA p.1.els.length p.2.ec]
 sz:=11
 hsz:=fun _=>rfl
 one:=fun p u hu=>by
  simp at hu;rcases hu with rfl|rfl|rfl|rfl|rfl|rfl|rfl|rfl|rfl|rfl|rfl<;>rfl
 In:=fun w S p=>StM w S p.1 p.2
 keep:=fun h hk=>h.keep hk
 more:=fun h hs=>h.more hs
theorem zba {t:TypeId} {w:World} {B n c:Nat} {A:Option Addr} {P:List (St × SG)} (h:OwnR stK t w B (.slice A n c) P):StsM w (B≤·) (P.map (·.1)) A:=by
 obtain⟨A',c',e⟩:=h.form;simp only[Value.slice.injEq] at e;obtain⟨-,rfl,rfl⟩:=e;refine⟨fun i=>if hi:i<P.length then P[i].2 else ⟨⟨0,0,[],none,0,0⟩,none,0,0,none,0,none,0,none,0⟩,fun i hi=>?_,fun i hi=>?_⟩
 ·
  have hi':i<P.length:=by simpa using hi
  obtain⟨g,hA,hg⟩:∃g,A=some ⟨g,0,none⟩∧B≤g:=by
   rcases h.1.2 with⟨_,h0⟩|⟨g,cap',cur,e,hg,_⟩
   ·
    omega
   ·
    simp only[Value.slice.injEq] at e;exact⟨g,e.1,hg⟩
  subst hA;have q:∀j,j<11→w.cell? ⟨g,0+i*11+j,none⟩=(stK.cl P[i])[j]?:=fun j hj=>by
   rw[Nat.zero_add];exact(World.ownsRow.cellAt h.1 _ (by show i*11+j<P.length*11;omega)).trans (stK.cs_at P i j hi' hj)
  simp only[List.getElem_map,dif_pos hi'];exact⟨g,0,rfl,hg,q 0 (by omega),q 1 (by omega),q 2 (by omega),q 3 (by omega),q 4 (by omega),q 5 (by omega),q 6 (by omega),q 7 (by omega),q 8 (by omega),q 9 (by omega),q 10 (by omega)⟩
 ·
  have hi':i<P.length:=by simpa using hi
  simp only[List.getElem_map,dif_pos hi'];exact(h.2 P[i] (List.getElem_mem hi')).more fun b hb _=>hb.1
theorem Tryz.infoSt:(Tryz.prog.info? 73).map (fun i=>(i.zero,i.size,i.bytes))=some (some (.agg #[.int .i64 0,.string ⟨#[]⟩,.int .i64 0,.int .i64 0,.string ⟨#[]⟩,.slice none 0 0,.string ⟨#[]⟩,.slice none 0 0,.slice none 0 0,.slice none 0 0,.slice none 0 0]),11,192):=by kernel_rfl
def BlkL (w:World) (g:Nat) (ts:List Tk.Tok) (st:Pa.Sg→St × Pa.Sg) (R:List St × Pa.Sg) (o f:Nat) (v:Value) (wr:World):Prop :=
 ∃(P:List (St × SG)) (τ:Pa.Sg),OwnR stK 73 wr w.heap.size v P∧Pps wr g ts τ o∧w.grownBy wr (some g)∧P.length≤1000000∧(τ.live=true→P.length≤τ.k∧ts.length≤f+τ.k)∧Pa.sStmts ts st f τ (P.map (·.1))=R
theorem zb5 (ts:List Tk.Tok) (st:Pa.Sg→St × Pa.Sg) (f m e:Nat) (l:List St):Pa.sStmts ts st f (.bad m e) l=(l,.bad m e):=by
 cases f with
 | zero=>rfl
 | succ f=>rw[Pa.sStmts,if_pos (show (Pa.Sg.bad m e).live=false from rfl)]
theorem zcp (ts:List Tk.Tok) (st:Pa.Sg→St × Pa.Sg) (f k:Nat) (l:List St) (h:Pa.isS ts (.at_ k) [125]=true):Pa.sStmts ts st (f+1) (.at_ k) l=(l,.at_ (k+1)):=by
 rw[Pa.sStmts,if_neg (show ¬(Pa.Sg.at_ k).live=false from fun e=>by cases e),if_pos h];rfl
theorem zcR (ts:List Tk.Tok) (st:Pa.Sg→St × Pa.Sg) (f k:Nat) (l:List St) (h:Pa.isS ts (.at_ k) [125]=false):Pa.sStmts ts st (f+1) (.at_ k) l=Pa.sStmts ts st f (st (.at_ k)).2 (l++[(st (.at_ k)).1]):=by
 rw[Pa.sStmts,if_neg (show ¬(Pa.Sg.at_ k).live=false from fun e=>by cases e),if_neg (by rw[h];decide)]
theorem Pps.opn' {w:World} {g:Nat} {ts:List Tk.Tok} {σ:Pa.Sg} {o:Nat} (h:Pps w g ts σ o) (j:Nat) (v:Int) (hv:v=(j:Int)) (hj:j≤1000):Pps (w.setCell ⟨g,2,none⟩ (.int .i64 v)) g ts σ j:=by
 subst hv;exact h.opn j hj
def opS (ts:List Tk.Tok) (σ:Pa.Sg) (o:Nat):Pa.Sg:=if Pa.isS ts σ [123]=true then Pa.lm σ o 24 else σ
theorem zfe {ts:List Tk.Tok} {σ:Pa.Sg} {o:Nat} (h:(Pa.xp ts (opS ts σ o) [123]).live=true):o<24:=by
 rcases Nat.lt_or_ge o 24 with h1|h1
 ·
  exact h1
 ·
  exfalso;cases hI:Pa.isS ts σ [123] with
  | true =>
   have e:opS ts σ o=Pa.fl σ 3:=by unfold opS;rw[if_pos hI];exact if_pos h1
   rw[e] at h
   have:=(Pa.xp_fws ts (Pa.fl σ 3) [123] h).1;rw[Pa.fl_dead] at this;cases this
  | false =>
   have e:opS ts σ o=σ:=by unfold opS;rw[if_neg (by rw[hI];decide)]
   rw[e] at h;unfold Pa.xp at h;rw[if_neg (by rw[hI];decide),Pa.fl_dead] at h;cases h
set_option maxRecDepth 100000 in
set_option maxHeartbeats 4000000 in
theorem ziq (w:World) (g:Nat) (ts:List Tk.Tok) (st:Pa.Sg→St × Pa.Sg) (σ:Pa.Sg) (o:Nat) (ho:o≤24) (hst:∀τ,Pa.Fws τ (st τ).2)
  (hC:o<24→∀w τ,Pps w g ts τ (o+1)→SgG w g→Calls Tryz.prog 49 #[.pointer (some ⟨g,0,none⟩)] w (StP w g ts (st τ) (o+1))) (hP:Pps w g ts σ o) (hS:SgG w g) :
  Calls Tryz.prog 24 #[.pointer (some ⟨g,0,none⟩)] w (BlkP w g ts (Pa.sStmts ts st (ts.length+1) (Pa.xp ts (opS ts σ o) [123]) []) o):=by
 obtain⟨i0,hi,hz0,hz1,hz2⟩:=info_parts Tryz.infoSt;have HP:=zH hP;have HS:=zH hS;have HC:=zH hC;have HST:=zH hst;have hgw:=hP.lt;clear hP hS hC hst;go_enter Tryz.func24,Tryz.ntmps24;go_wp2_with fail;refine(zbP w g ts σ o [123] HP.out).mono ?_;rintro x w1 ⟨rfl,hb1⟩;have HP1:=zH (HP.out.later hb1);have HG1:=zH (za2 (g:=g) hb1);clear hb1;cases hI:Pa.isS ts σ [123] with
 | true =>
  have HQ:Hid (Pa.lm σ o 24=opS ts σ o):=by show _=_;unfold opS;rw[if_pos hI]
  obtain⟨b',c',-,-,-,-,p2,-⟩:=HP1.out.cells;clear hI;go_wp2_with fail;refine(zbF w1 g ts σ o o 24 _ 24 rfl rfl HP1.out).mono ?_;rintro x w2 ⟨rfl,hP2,hG2⟩;rw[HQ.out] at hP2;have HP2:=zH hP2;have HG2:=zH (za0 HG1.out hG2);clear hP2 hG2 HP1 HG1 HQ p2;go_wp2_with fail;refine(zap w2 g ts _ o [123] HP2.out).mono ?_;rintro x w3 ⟨rfl,hP3,hG3⟩;obtain⟨b3,c3,-,-,-,-,q2,-,fr,-⟩:=hP3.cells;have f2:=fr 2;have HP3:=zH hP3;have HG3:=zH (za0 HG2.out hG3);have HOL:=zH (zfe (ts:=ts) (σ:=σ) (o:=o));clear hP3 hG3 fr HP2 HG2;generalize Pa.xp ts (opS ts σ o) [123]=σ3 at *;generalize hR:Pa.sStmts ts st (ts.length+1) σ3 []=R at *;have HL0:Hid (BlkL w g ts st R (o+1) (ts.length+1) (.slice none 0 0) (w3.setCell ⟨g,2,none⟩ (.int .i64 ((o:Int)+1)))):=⟨[],σ3,OwnR.nil _ _ _ _,HP3.out.opn' (o+1) _ (by omega) (by omega),zaH HG3.out,by simp,fun _=>⟨by simp,by omega⟩,hR⟩;have HO24:Hid (σ3.live=true→o<24):=HOL.out;have HD3:Hid (∀m e,σ3=.bad m e→R=([],.bad m e)):=fun m e h=>by rw[←hR,h];exact zb5 _ _ _ _ _ _
  clear hR HOL;go_wp2_with fail
  go_loopg [3] (ts.length+1) (fun k v wr=>Hid (BlkL w g ts st R (o+1) k v wr∧(o<24∨∃P m e,Pps wr g ts (.bad m e) (o+1)∧OwnR stK 73 wr w.heap.size v P)))
  case atStart =>
   refine⟨HL0.out,?_⟩;cases σ3 with
   | at_ k=>exact .inl (HO24.out rfl)
   | bad m e=>exact .inr ⟨[],m,e,HP3.out.opn' (o+1) _ (by omega) (by omega),OwnR.nil _ _ _ _⟩
  case round =>
   clear HL0 HD3 HO24 HP3 HG3;obtain⟨⟨P,τ,hO,hP,hG,hPl,hlv,hRR⟩,h24⟩:=hrel.out;clear hrel;obtain⟨sa,sc,rfl⟩:=hO.form;have HO:=zH hO;have HPr:=zH hP;have HGr:=zH hG;have HLV:=zH hlv;have HR:=zH hRR;have hnn:ts.length≤1000000:=by obtain⟨_,_,_,_,_,h,_⟩:=hP;exact h
   have hwl:w.heap.size≤wr.heap.size:=hG.size;obtain⟨br,cr,-,-,-,-,s2,s3,frr,-⟩:=hP.cells;have g2:=frr 2;clear hO hP hG hlv hRR frr;cases τ with
   | bad m e =>
    have he:e≠0:=HPr.out.err rfl;have t0:(((Pa.Sg.bad m e).e:Int)==0)=false:=bF (show ((e:Nat):Int)≠0 by omega);have HRR:Hid (R=(P.map (·.1),.bad m e)):=by show _=_;rw[←HR.out];exact zb5 _ _ _ _ _ _
    clear he HR HLV h24;go_wp2_with fail;go_ret;refine⟨sa,sc,by rw[HRR.out,List.length_map];rfl,?_,?_,zaH HGr.out⟩
    ·
     rw[HRR.out];exact zba (HO.out.keep (by simp[World.setCell]) fun b hb _=>Below.heap_setCell _ _ _ b (by show b≠g;omega))
    ·
     rw[HRR.out];exact HPr.out.opn' o _ (by omega) (by omega)
   | at_ k0 =>
    have t0:(((Pa.Sg.at_ k0).e:Int)==0)=true:=rfl;obtain⟨hk1,hk2⟩:=HLV.out rfl;have hk3:(Pa.Sg.at_ k0).k=k0:=rfl;have hkT:k0<ts.length:=HPr.out.inT;rw[hk3] at hk1 hk2;obtain⟨f1,rfl⟩:∃f1,gk=f1+1:=⟨gk-1,by omega⟩;have ho24:o<24:=by
     rcases h24 with h|⟨P',m,e,hPb,_⟩
     ·
      exact h
     ·
      exfalso;have he:=hPb.err rfl;obtain⟨_,_,_,_,_,_,_,a3,_⟩:=hPb.cells;rw[a3] at s3;have h0:(e:Int)=0:=by
       simp only[Option.some.injEq,Value.int.injEq] at s3;exact s3.2
      have:e=0:=by omega
      exact he this
    clear h24 HLV hk3;go_wp2_with fail;refine(zam wr g ts (.at_ k0) (o+1) [125] HPr.out).mono ?_;rintro x w5 ⟨rfl,hP5,hG5⟩;have HP5:=zH hP5;have HG5:=zH (za0 HGr.out hG5);have HO5:=zH (HO.out.grown hG5 hgw);have hl5:wr.heap.size≤w5.heap.size:=hG5.size;clear hP5 hG5 s2 s3 g2;cases hI:Pa.isS ts (.at_ k0) [125] with
    | true =>
     have hac:Pa.ac ts (.at_ k0) [125]=.at_ (k0+1):=if_pos hI;rw[hac] at HP5;have HRR:Hid (R=(P.map (·.1),.at_ (k0+1))):=by show _=_;rw[←HR.out];exact zcp ts st f1 k0 _ hI
     obtain⟨b5,c5,-,-,-,-,s2,-,frr,-⟩:=HP5.out.cells;have g2:=frr 2;clear hac hI HR frr;go_wp2_with fail;go_ret;refine⟨sa,sc,by rw[HRR.out,List.length_map];rfl,?_,?_,zaH HG5.out⟩
     ·
      rw[HRR.out];exact zba (HO5.out.keep (by simp[World.setCell]) fun b hb _=>Below.heap_setCell _ _ _ b (by show b≠g;omega))
     ·
      rw[HRR.out];exact HP5.out.opn' o _ (by omega) (by omega)
    | false =>
     have hac:Pa.ac ts (.at_ k0) [125]=.at_ k0:=if_neg (by rw[hI];decide);rw[hac] at HP5;have HR2:Hid (Pa.sStmts ts st f1 (st (.at_ k0)).2 (P.map (·.1)++[(st (.at_ k0)).1])=R):=by show _=_;rw[←HR.out];exact(zcR ts st f1 k0 _ hI).symm
     have HFW:=zH (HST.out (.at_ k0));clear hac hI HR;go_wp2_with fail;refine(HC.out ho24 w5 (.at_ k0) HP5.out (HS.out.grown HG5.out)).mono ?_;rintro x w6 ⟨G,rfl,hM6,hP6,hG6⟩;unfold ze1;have HP6:=zH hP6;have HG6:=zH (za0 HG5.out hG6);have HI6:Hid (stK.In w6 (w5.heap.size≤·) ((st (.at_ k0)).1,G)):=hM6;have HO6:=zH (HO5.out.grown hG6 hgw);have hl6:w.heap.size≤w6.heap.size:=HG6.out.size;clear hM6 hP6 hG6;generalize (st (.at_ k0)).2=τ2 at *;generalize (st (.at_ k0)).1=s at *;go_wp2_with (first|(at_builtin;refine wpList_append_lies _ rfl (.tmp 31) (.tmp 34) 35 rfl w.heap.size 73 i0 _ 11 192 Tryz.underlying35 hi hz0 hz1 hz2 rfl (by decide) _ P.length (stK.cs P) rfl (HO6.out.alloc _).1 ⟨w6.heap.size,0,none⟩ 1 1 (stK.cl (s,G)) rfl rfl (zak w6 _ rfl _ _) (stK.one (s,G)) (by omega) (by unfold maxLen;omega) (by omega) (by simp;omega) _ rfl ?_));intro gb2 cap2 w7 hown hgrow hlies hgl;have hO7:OwnR stK 73 w7 w.heap.size (.slice (some ⟨gb2,0,none⟩) (P.length+1) cap2) (P++[(s,G)]):=(HO6.out.alloc _).snoc (stK.fresh (stK.keep HI6.out fun b _ hl=>Below.heap_alloc w6 _ b hl) HO5.out (lR _) (by omega)) hown hgrow (zah hlies (by simp));have HO7:=zH hO7;have hgo:∀b,b≤g→some b≠(Value.slice sa P.length sc).ownBlock:=fun b hb e=>by have:=(HO6.out.1.lt b e.symm).1;omega
     have HP7:Hid (Pps w7 g ts τ2 (o+1)):=(HP6.out.alloc _).keep fun b hb=>hgrow.block b (by have:=HP6.out.lt;simp;omega) (hgo b hb);have HG7:Hid (w.grownBy w7 (some g)):=⟨hgrow.os.trans HG6.out.os,hgrow.tape.trans HG6.out.tape,hgrow.output.trans HG6.out.output,Nat.le_trans hl6 (Nat.le_trans (by simp) hgrow.size),fun b hb hne=>(hgrow.block b (by simp;omega) (fun e=>by have:=(HO6.out.1.lt b e.symm).1;omega)).trans ((Below.heap_alloc w6 _ b (by omega)).trans (HG6.out.block b hb hne))⟩;clear hO7 hown hgrow hlies hgl hgo HO6 HI6 HP6 HO5 HP5;go_wp2_with fail;go_roundg f1
     case rel =>
      refine⟨⟨P++[(s,G)],τ2,HO7.out,HP7.out,HG7.out,by simp;omega,fun hl=>?_,?_⟩,.inl ho24⟩
      ·
       have h1:=(HFW.out hl).2;have h2:(Pa.Sg.at_ k0).k=k0:=rfl;refine⟨by simp;omega,by omega⟩
      ·
       rw[List.map_append];exact HR2.out
     case measure=>omega
 | false =>
  have HQ:Hid (σ=opS ts σ o):=by show _=_;unfold opS;rw[if_neg (by rw[hI];decide)]
  have hP2:Pps w1 g ts (opS ts σ o) o:=by rw[←HQ.out];exact HP1.out
  have HP2:=zH hP2;have HG2:=HG1;obtain⟨w2,hw2⟩:∃W,W=w1:=⟨_,rfl⟩;subst hw2;clear hI hP2 HP1 HG1 HQ;go_wp2_with fail;refine(zap w2 g ts _ o [123] HP2.out).mono ?_;rintro x w3 ⟨rfl,hP3,hG3⟩;obtain⟨b3,c3,-,-,-,-,q2,-,fr,-⟩:=hP3.cells;have f2:=fr 2;have HP3:=zH hP3;have HG3:=zH (za0 HG2.out hG3);have HOL:=zH (zfe (ts:=ts) (σ:=σ) (o:=o));clear hP3 hG3 fr HP2 HG2;generalize Pa.xp ts (opS ts σ o) [123]=σ3 at *;generalize hR:Pa.sStmts ts st (ts.length+1) σ3 []=R at *;have HL0:Hid (BlkL w g ts st R (o+1) (ts.length+1) (.slice none 0 0) (w3.setCell ⟨g,2,none⟩ (.int .i64 ((o:Int)+1)))):=⟨[],σ3,OwnR.nil _ _ _ _,HP3.out.opn' (o+1) _ (by omega) (by omega),zaH HG3.out,by simp,fun _=>⟨by simp,by omega⟩,hR⟩;have HO24:Hid (σ3.live=true→o<24):=HOL.out;have HD3:Hid (∀m e,σ3=.bad m e→R=([],.bad m e)):=fun m e h=>by rw[←hR,h];exact zb5 _ _ _ _ _ _
  clear hR HOL;go_wp2_with fail
  go_loopg [3] (ts.length+1) (fun k v wr=>Hid (BlkL w g ts st R (o+1) k v wr∧(o<24∨∃P m e,Pps wr g ts (.bad m e) (o+1)∧OwnR stK 73 wr w.heap.size v P)))
  case atStart =>
   refine⟨HL0.out,?_⟩;cases σ3 with
   | at_ k=>exact .inl (HO24.out rfl)
   | bad m e=>exact .inr ⟨[],m,e,HP3.out.opn' (o+1) _ (by omega) (by omega),OwnR.nil _ _ _ _⟩
  case round =>
   clear HL0 HD3 HO24 HP3 HG3;obtain⟨⟨P,τ,hO,hP,hG,hPl,hlv,hRR⟩,h24⟩:=hrel.out;clear hrel;obtain⟨sa,sc,rfl⟩:=hO.form;have HO:=zH hO;have HPr:=zH hP;have HGr:=zH hG;have HLV:=zH hlv;have HR:=zH hRR;have hnn:ts.length≤1000000:=by obtain⟨_,_,_,_,_,h,_⟩:=hP;exact h
   have hwl:w.heap.size≤wr.heap.size:=hG.size;obtain⟨br,cr,-,-,-,-,s2,s3,frr,-⟩:=hP.cells;have g2:=frr 2;clear hO hP hG hlv hRR frr;cases τ with
   | bad m e =>
    have he:e≠0:=HPr.out.err rfl;have t0:(((Pa.Sg.bad m e).e:Int)==0)=false:=bF (show ((e:Nat):Int)≠0 by omega);have HRR:Hid (R=(P.map (·.1),.bad m e)):=by show _=_;rw[←HR.out];exact zb5 _ _ _ _ _ _
    clear he HR HLV h24;go_wp2_with fail;go_ret;refine⟨sa,sc,by rw[HRR.out,List.length_map];rfl,?_,?_,zaH HGr.out⟩
    ·
     rw[HRR.out];exact zba (HO.out.keep (by simp[World.setCell]) fun b hb _=>Below.heap_setCell _ _ _ b (by show b≠g;omega))
    ·
     rw[HRR.out];exact HPr.out.opn' o _ (by omega) (by omega)
   | at_ k0 =>
    have t0:(((Pa.Sg.at_ k0).e:Int)==0)=true:=rfl;obtain⟨hk1,hk2⟩:=HLV.out rfl;have hk3:(Pa.Sg.at_ k0).k=k0:=rfl;have hkT:k0<ts.length:=HPr.out.inT;rw[hk3] at hk1 hk2;obtain⟨f1,rfl⟩:∃f1,gk=f1+1:=⟨gk-1,by omega⟩;have ho24:o<24:=by
     rcases h24 with h|⟨P',m,e,hPb,_⟩
     ·
      exact h
     ·
      exfalso;have he:=hPb.err rfl;obtain⟨_,_,_,_,_,_,_,a3,_⟩:=hPb.cells;rw[a3] at s3;have h0:(e:Int)=0:=by
       simp only[Option.some.injEq,Value.int.injEq] at s3;exact s3.2
      have:e=0:=by omega
      exact he this
    clear h24 HLV hk3;go_wp2_with fail;refine(zam wr g ts (.at_ k0) (o+1) [125] HPr.out).mono ?_;rintro x w5 ⟨rfl,hP5,hG5⟩;have HP5:=zH hP5;have HG5:=zH (za0 HGr.out hG5);have HO5:=zH (HO.out.grown hG5 hgw);have hl5:wr.heap.size≤w5.heap.size:=hG5.size;clear hP5 hG5 s2 s3 g2;cases hI:Pa.isS ts (.at_ k0) [125] with
    | true =>
     have hac:Pa.ac ts (.at_ k0) [125]=.at_ (k0+1):=if_pos hI;rw[hac] at HP5;have HRR:Hid (R=(P.map (·.1),.at_ (k0+1))):=by show _=_;rw[←HR.out];exact zcp ts st f1 k0 _ hI
     obtain⟨b5,c5,-,-,-,-,s2,-,frr,-⟩:=HP5.out.cells;have g2:=frr 2;clear hac hI HR frr;go_wp2_with fail;go_ret;refine⟨sa,sc,by rw[HRR.out,List.length_map];rfl,?_,?_,zaH HG5.out⟩
     ·
      rw[HRR.out];exact zba (HO5.out.keep (by simp[World.setCell]) fun b hb _=>Below.heap_setCell _ _ _ b (by show b≠g;omega))
     ·
      rw[HRR.out];exact HP5.out.opn' o _ (by omega) (by omega)
    | false =>
     have hac:Pa.ac ts (.at_ k0) [125]=.at_ k0:=if_neg (by rw[hI];decide);rw[hac] at HP5;have HR2:Hid (Pa.sStmts ts st f1 (st (.at_ k0)).2 (P.map (·.1)++[(st (.at_ k0)).1])=R):=by show _=_;rw[←HR.out];exact(zcR ts st f1 k0 _ hI).symm
     have HFW:=zH (HST.out (.at_ k0));clear hac hI HR;go_wp2_with fail;refine(HC.out ho24 w5 (.at_ k0) HP5.out (HS.out.grown HG5.out)).mono ?_;rintro x w6 ⟨G,rfl,hM6,hP6,hG6⟩;unfold ze1;have HP6:=zH hP6;have HG6:=zH (za0 HG5.out hG6);have HI6:Hid (stK.In w6 (w5.heap.size≤·) ((st (.at_ k0)).1,G)):=hM6;have HO6:=zH (HO5.out.grown hG6 hgw);have hl6:w.heap.size≤w6.heap.size:=HG6.out.size;clear hM6 hP6 hG6;generalize (st (.at_ k0)).2=τ2 at *;generalize (st (.at_ k0)).1=s at *;go_wp2_with (first|(at_builtin;refine wpList_append_lies _ rfl (.tmp 31) (.tmp 34) 35 rfl w.heap.size 73 i0 _ 11 192 Tryz.underlying35 hi hz0 hz1 hz2 rfl (by decide) _ P.length (stK.cs P) rfl (HO6.out.alloc _).1 ⟨w6.heap.size,0,none⟩ 1 1 (stK.cl (s,G)) rfl rfl (zak w6 _ rfl _ _) (stK.one (s,G)) (by omega) (by unfold maxLen;omega) (by omega) (by simp;omega) _ rfl ?_));intro gb2 cap2 w7 hown hgrow hlies hgl;have hO7:OwnR stK 73 w7 w.heap.size (.slice (some ⟨gb2,0,none⟩) (P.length+1) cap2) (P++[(s,G)]):=(HO6.out.alloc _).snoc (stK.fresh (stK.keep HI6.out fun b _ hl=>Below.heap_alloc w6 _ b hl) HO5.out (lR _) (by omega)) hown hgrow (zah hlies (by simp));have HO7:=zH hO7;have hgo:∀b,b≤g→some b≠(Value.slice sa P.length sc).ownBlock:=fun b hb e=>by have:=(HO6.out.1.lt b e.symm).1;omega
     have HP7:Hid (Pps w7 g ts τ2 (o+1)):=(HP6.out.alloc _).keep fun b hb=>hgrow.block b (by have:=HP6.out.lt;simp;omega) (hgo b hb);have HG7:Hid (w.grownBy w7 (some g)):=⟨hgrow.os.trans HG6.out.os,hgrow.tape.trans HG6.out.tape,hgrow.output.trans HG6.out.output,Nat.le_trans hl6 (Nat.le_trans (by simp) hgrow.size),fun b hb hne=>(hgrow.block b (by simp;omega) (fun e=>by have:=(HO6.out.1.lt b e.symm).1;omega)).trans ((Below.heap_alloc w6 _ b (by omega)).trans (HG6.out.block b hb hne))⟩;clear hO7 hown hgrow hlies hgl hgo HO6 HI6 HP6 HO5 HP5;go_wp2_with fail;go_roundg f1
     case rel =>
      refine⟨⟨P++[(s,G)],τ2,HO7.out,HP7.out,HG7.out,by simp;omega,fun hl=>?_,?_⟩,.inl ho24⟩
      ·
       have h1:=(HFW.out hl).2;have h2:(Pa.Sg.at_ k0).k=k0:=rfl;refine⟨by simp;omega,by omega⟩
      ·
       rw[List.map_append];exact HR2.out
     case measure=>omega
theorem zeG (g:Nat) (ts:List Tk.Tok) (f:Nat):∀o,f+o=25→o≤24→BlkC g ts (fun σ=>Pa.sBlock ts f o σ) o:=by
 induction f with
 | zero=>intro o h1 h2;omega
 | succ f ih =>
  intro o h1 h2 w σ hP hS
  have:=ziq w g ts (fun τ=>Pa.sStmt ts (fun υ=>Pa.sBlock ts f (o+1) υ) τ) σ o h2 (fun τ=>Pa.sStmt_fws ts _ (fun υ=>Pa.sBlock_fwd ts f (o+1) υ) τ)
   (fun ho w τ hP hS=>zik w g ts _ τ (o+1) (ih (o+1) (by omega) (by omega)) hP hS) hP hS
  exact this
end Go.Proofs.YtlnbmmgbfgmboaaGreatDoor
