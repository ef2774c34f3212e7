import Derived.Test.YtlnbmmgbfgmboaaGreatDoorQa
import Derived.Test.YtlnbmmgbfgmboaaGreatDoorQ6
namespace Go.Proofs.YtlnbmmgbfgmboaaGreatDoor
open Go.RowKit
theorem blk3 {w:World} {b:Nat} {c0 c1 c2:Value} {t:TypeId} (h:w.heap[b]?=some (.cells #[c0,c1,c2] t (0,0))) :
  w.cell? ⟨b,0,none⟩=some c0∧w.cell? ⟨b,1,none⟩=some c1∧w.cell? ⟨b,2,none⟩=some c2∧(∀j,w.frozen? ⟨b,j,none⟩=false)∧b<w.heap.size:=by
 refine⟨?_,?_,?_,fun j=>by simp[World.frozen?,h],lt_of_block h⟩
 ·
  rw[cell_of_row w b 0 _ _ _ h];rfl
 ·
  rw[cell_of_row w b 1 _ _ _ h];rfl
 ·
  rw[cell_of_row w b 2 _ _ _ h];rfl
def szP (ts:List Tk.Tok) (σ:Pa.Sg):Pa.Sg:=if Pa.kdS ts σ 2=true∧(Ps.numAt ts σ.k<1∨64<Ps.numAt ts σ.k) then Pa.fl σ 3 else σ
theorem szS_eq (ts:List Tk.Tok) (σ:Pa.Sg):Pa.szS ts σ=Pa.tk ts (szP ts σ) 2:=rfl
set_option maxRecDepth 100000 in
set_option maxHeartbeats 4000000 in
theorem zil (w:World) (g:Nat) (ts:List Tk.Tok) (σ:Pa.Sg) (o:Nat) (hP:Pps w g ts σ o) :
  Calls Tryz.prog 93 #[.pointer (some ⟨g,0,none⟩)] w fun x w'=>x=.returned (.int .i64 (Pa.nuV ts (szP ts σ):Int))∧Pps w' g ts (Pa.szS ts σ) o∧w.grownBy w' (some g):=by
 have hk:=hP.inT;obtain⟨b,c,hne,hbl,q0,q1,q2,q3,fr,hkm,ho,a0,a1,a2,⟨v3,a3⟩,hn⟩:=hP.cells;have HP:=zH hP;have i0:(0:Int)≤(σ.k:Int):=by omega
 have i1:(σ.k:Int)<(ts.length:Int):=by omega
 clear hP fr;rw[szS_eq];have HQ:Hid (szP ts σ=if Pa.kdS ts σ 2=true∧(Ps.numAt ts σ.k<1∨64<Ps.numAt ts σ.k) then Pa.fl σ 3 else σ):=rfl;generalize Ps.numAt ts σ.k=M at *;generalize szP ts σ=ρ at *;go_enter Tryz.func93,Tryz.ntmps93;go_wp2
 go_quiet (fail)
 have HP0:=zH (HP.out.later (zat (Below.refl _ _) nq));have HG0:Hid (w.grownBy (w.drewN nq) (some g)):=za2 (zat (Below.refl _ _) nq);clear q0 q1 q2 q3 a0 a1 a2 a3 i0 i1;generalize w.drewN nq=w0 at *;go_wp2_with fail;refine(zbY w0 g ts σ o 2 2 rfl HP0.out).mono ?_;rintro x w1 ⟨rfl,hb1⟩;have HP1:=zH (HP0.out.later hb1);have HG1:=zH (za0 HG0.out (za2 (g:=g) hb1));clear hb1 HP0 HG0;by_cases hbad:Pa.kdS ts σ 2=true∧(M<1∨64<M)
 ·
  have HE:Hid (Pa.fl σ 3=ρ):=by show _=_;rw[HQ.out,if_pos hbad]
  obtain⟨hK,hM⟩:=hbad;rw[hK];clear hK HQ;rcases hM with hM|hM
  ·
   have d1:decide ((M:Int)<1)=true:=decide_eq_true (by omega);go_wp2_with fail;refine(zcs w1 g ts σ o 3 3 rfl (by omega) HP1.out).mono ?_;rintro x w2 ⟨rfl,hP2,hG2⟩;rw[HE.out] at hP2;have HP2:=zH hP2;have HG2:=zH (za0 HG1.out hG2);clear hP2 hG2;go_wp2_with fail;refine(zce w2 g ts ρ o HP2.out).mono ?_;rintro x w3 ⟨rfl,hP3,hG3⟩;have HP3:=zH hP3;have HG3:=zH (za0 HG2.out hG3);clear hP3 hG3;go_wp2_with fail;go_ret;exact⟨rfl,HP3.out,HG3.out⟩
  ·
   have d1:decide ((M:Int)<1)=false:=decide_eq_false (by omega);have d2:decide ((M:Int)>64)=true:=decide_eq_true (by omega);go_wp2_with fail;refine(zcs w1 g ts σ o 3 3 rfl (by omega) HP1.out).mono ?_;rintro x w2 ⟨rfl,hP2,hG2⟩;rw[HE.out] at hP2;have HP2:=zH hP2;have HG2:=zH (za0 HG1.out hG2);clear hP2 hG2;go_wp2_with fail;refine(zce w2 g ts ρ o HP2.out).mono ?_;rintro x w3 ⟨rfl,hP3,hG3⟩;have HP3:=zH hP3;have HG3:=zH (za0 HG2.out hG3);clear hP3 hG3;go_wp2_with fail;go_ret;exact⟨rfl,HP3.out,HG3.out⟩
 ·
  have HE:Hid (σ=ρ):=by show _=_;rw[HQ.out,if_neg hbad]
  have hP1:Pps w1 g ts ρ o:=by rw[←HE.out];exact HP1.out
  have HPR:=zH hP1;clear hP1 HQ;cases hK:Pa.kdS ts σ 2 with
  | true =>
   have hM:¬(M<1∨64<M):=fun h=>hbad ⟨hK,h⟩;have d1:decide ((M:Int)<1)=false:=decide_eq_false (by omega);have d2:decide ((M:Int)>64)=false:=decide_eq_false (by omega);clear hbad hM hK;go_wp2_with fail;refine(zce w1 g ts ρ o HPR.out).mono ?_;rintro x w3 ⟨rfl,hP3,hG3⟩;have HP3:=zH hP3;have HG3:=zH (za0 HG1.out hG3);clear hP3 hG3;go_wp2_with fail;go_ret;exact⟨rfl,HP3.out,HG3.out⟩
  | false =>
   clear hbad hK;go_wp2_with fail;refine(zce w1 g ts ρ o HPR.out).mono ?_;rintro x w3 ⟨rfl,hP3,hG3⟩;have HP3:=zH hP3;have HG3:=zH (za0 HG1.out hG3);clear hP3 hG3;go_wp2_with fail;go_ret;exact⟨rfl,HP3.out,HG3.out⟩
def GlP (w:World) (g:Nat) (ts:List Tk.Tok) (R:Gl × Pa.Sg) (o:Nat) (e:Ending) (w':World):Prop :=
 e=.returned (.agg #[.string ⟨R.1.name.toArray⟩,.int .i64 R.1.init])∧Pps w' g ts R.2 o∧w.grownBy w' (some g)
theorem nuV_le {ts:List Tk.Tok} (hN:∀k,Ps.numAt ts k≤9223372036854775807) (σ:Pa.Sg):Pa.nuV ts σ≤9223372036854775807:=by
 unfold Pa.nuV;split
 ·
  exact hN _
 ·
  omega
set_option maxRecDepth 100000 in
set_option maxHeartbeats 4000000 in
theorem zgr (w:World) (g:Nat) (ts:List Tk.Tok) (hN:∀k,Ps.numAt ts k≤9223372036854775807) (σ:Pa.Sg) (o:Nat) (hP:Pps w g ts σ o) :
  Calls Tryz.prog 62 #[.pointer (some ⟨g,0,none⟩)] w (GlP w g ts (Pa.sGlobal ts (Pa.xp ts σ [118,97,114])) o):=by
 have HP:=zH hP;have HNU:=zH (fun σ=>nuV_le hN σ);have hgw:=hP.lt;have hgR':w.heap.size≠g:=by omega
 clear hP hN;go_enter Tryz.func62,Tryz.ntmps62;go_wp2_with fail;refine(zap _ g ts σ o [118,97,114] (HP.out.alloc _)).mono ?_;rintro x w1 ⟨rfl,hP1,hG1⟩;have HR1:=zH (za1 hG1 (heap_alloc_new w _) hgR');have HP1:=zH hP1;have HG1:=zH (za6 hG1);clear hP1 hG1;generalize Pa.xp ts σ [118,97,114]=σ1 at *;go_wp2_with fail;refine(zbd w1 g ts σ1 o HP1.out).mono ?_;rintro x w2 ⟨rfl,hP2,hG2⟩;have HR2:=zH (za1 hG2 HR1.out hgR');have HP2:=zH hP2;have HG2:=zH (za0 HG1.out hG2);have hl2:w.heap.size<w2.heap.size:=lt_of_block HR2.out;have hTg:w2.heap.size≠g:=by omega
 have hTR:w2.heap.size≠w.heap.size:=by omega
 clear hP2 hG2;generalize hnm:Pa.nmV ts σ1=nm at *;have HNM:=zH hnm;clear hnm;go_wp2_with fail;refine(zam _ g ts _ o [61] (HP2.out.alloc _)).mono ?_;rintro x w3 ⟨rfl,hP3,hG3⟩;have HR3:=zH (za1 hG3 ((Below.heap_alloc w2 _ _ hl2).trans HR2.out) hgR');have HT3:=zH (za1 hG3 (heap_alloc_new w2 _) hTg);have HP3:=zH hP3;have HG3:=zH (za0 (zag HG2.out _) hG3);clear hP3 hG3;cases hI:Pa.isS ts (Pa.tk ts σ1 1) [61] with
 | true =>
  have hac:Pa.ac ts (Pa.tk ts σ1 1) [61]=Pa.nx (Pa.tk ts σ1 1):=if_pos hI;rw[hac] at HP3;have HV:Hid (Pa.sGlobal ts σ1=(⟨nm,if Pa.isS ts (Pa.nx (Pa.tk ts σ1 1)) [45]=true then -((Pa.nuV ts (Pa.nx (Pa.nx (Pa.tk ts σ1 1))):Nat):Int) else (Pa.nuV ts (Pa.nx (Pa.tk ts σ1 1)):Nat)⟩,Pa.xp ts (Pa.tk ts (Pa.ac ts (Pa.nx (Pa.tk ts σ1 1)) [45]) 2) [59])):=by show _=_;unfold Pa.sGlobal;rw[if_pos hI,HNM.out]
  clear hac hI;generalize Pa.nx (Pa.tk ts σ1 1)=τ at *;go_wp2_with fail;refine(zam w3 g ts τ o [45] HP3.out).mono ?_;rintro x w4 ⟨rfl,hP4,hG4⟩;have HR4:=zH (za1 hG4 HR3.out hgR');have HT4:=zH (za1 hG4 HT3.out hTg);have HP4:=zH hP4;have HG4:=zH (za0 HG3.out hG4);clear hP4 hG4;go_wp2_with fail;refine(zce w4 g ts _ o HP4.out).mono ?_;rintro x w5 ⟨rfl,hP5,hG5⟩;have HR5:=zH (za1 hG5 HR4.out hgR');have HT5:=zH (za1 hG5 HT4.out hTg);have HP5:=zH hP5;have HG5:=zH (za0 HG4.out hG5);clear hP5 hG5;obtain⟨t0,t1,tf0,tf1,htl⟩:=blk2 HT5.out;cases hM:Pa.isS ts τ [45] with
  | true =>
   have hac:Pa.ac ts τ [45]=Pa.nx τ:=if_pos hM;rw[hac] at HP5 HV ⊢;have hnu:=HNU.out (Pa.nx τ);have HV2:=HV.out;rw[if_pos hM] at HV2;replace HV2:=zH HV2;generalize Pa.nuV ts (Pa.nx τ)=N at *;clear hac hM HV;go_wp2_with fail;obtain⟨W6,hW6⟩:∃W,W=(w5.setCell ⟨w2.heap.size,1,none⟩ (.int .i64 (N:Int))).setCell ⟨w2.heap.size,1,none⟩ (.int .i64 (-(N:Int))):=⟨_,rfl⟩;have hq6:PutAt w2.heap.size w5 W6:=by
    rw[hW6];exact((PutAt.refl w2.heap.size w5).set 1 _).set 1 _
   have HT6:Hid (W6.heap[w2.heap.size]?=some (.cells #[.string ⟨nm.toArray⟩,.int .i64 (-(N:Int))] 90 (0,0))):=by
    rw[hW6];exact zdt _ (zdt _ HT5.out)
   have HR6:=zH ((hq6.2.2.2.2 _ (by omega)).trans HR5.out);have HP6:=zH (HP5.out.putAt hq6 (by omega));have HG6:=zH (za5 HG5.out hq6 (by omega));rw[←hW6];clear hW6 hq6 t0 t1 tf0 tf1;refine(zap W6 g ts _ o [59] HP6.out).mono ?_;rintro x w7 ⟨rfl,hP7,hG7⟩;obtain⟨t0,t1,-,-,-⟩:=blk2 (za1 hG7 HT6.out hTg);obtain⟨r0,r1,rf0,rf1,-⟩:=blk2 (za1 hG7 HR6.out hgR');have HP7:=zH hP7;have HG7:=zH (za0 HG6.out hG7);clear hP7 hG7;go_wp2_with fail;have hq:PutAt w.heap.size w7 _:=((PutAt.refl w.heap.size w7).set 0 (.string ⟨nm.toArray⟩)).set 1 (.int .i64 (-(N:Int)));refine bodyPost_ret (v:=.agg #[.string ⟨nm.toArray⟩,.int .i64 (-(N:Int))]) (by simp[results,Tryz.results62,go_sem,r0,r1]) rfl ⟨by rw[HV2.out],?_,za5 HG7.out hq (lR _)⟩;rw[HV2.out];exact HP7.out.putAt hq hgw
  | false =>
   have hac:Pa.ac ts τ [45]=τ:=if_neg (by rw[hM];decide);rw[hac] at HP5 HV ⊢;have HV2:=HV.out;rw[if_neg (by rw[hM];decide)] at HV2;replace HV2:=zH HV2;generalize Pa.nuV ts τ=N at *;clear hac hM HV;go_wp2_with fail;obtain⟨W6,hW6⟩:∃W,W=w5.setCell ⟨w2.heap.size,1,none⟩ (.int .i64 (N:Int)):=⟨_,rfl⟩;have hq6:PutAt w2.heap.size w5 W6:=by
    rw[hW6];exact(PutAt.refl w2.heap.size w5).set 1 _
   have HT6:Hid (W6.heap[w2.heap.size]?=some (.cells #[.string ⟨nm.toArray⟩,.int .i64 (N:Int)] 90 (0,0))):=by
    rw[hW6];exact zdt _ HT5.out
   have HR6:=zH ((hq6.2.2.2.2 _ (by omega)).trans HR5.out);have HP6:=zH (HP5.out.putAt hq6 (by omega));have HG6:=zH (za5 HG5.out hq6 (by omega));rw[←hW6];clear hW6 hq6 t0 t1 tf0 tf1;refine(zap W6 g ts _ o [59] HP6.out).mono ?_;rintro x w7 ⟨rfl,hP7,hG7⟩;obtain⟨t0,t1,-,-,-⟩:=blk2 (za1 hG7 HT6.out hTg);obtain⟨r0,r1,rf0,rf1,-⟩:=blk2 (za1 hG7 HR6.out hgR');have HP7:=zH hP7;have HG7:=zH (za0 HG6.out hG7);clear hP7 hG7;go_wp2_with fail;have hq:PutAt w.heap.size w7 _:=((PutAt.refl w.heap.size w7).set 0 (.string ⟨nm.toArray⟩)).set 1 (.int .i64 (N:Int));refine bodyPost_ret (v:=.agg #[.string ⟨nm.toArray⟩,.int .i64 (N:Int)]) (by simp[results,Tryz.results62,go_sem,r0,r1]) rfl ⟨by rw[HV2.out],?_,za5 HG7.out hq (lR _)⟩;rw[HV2.out];exact HP7.out.putAt hq hgw
 | false =>
  have hac:Pa.ac ts (Pa.tk ts σ1 1) [61]=Pa.tk ts σ1 1:=if_neg (by rw[hI];decide);rw[hac] at HP3;have HV:Hid (Pa.sGlobal ts σ1=(⟨nm,0⟩,Pa.xp ts (Pa.tk ts σ1 1) [59])):=by show _=_;unfold Pa.sGlobal;rw[if_neg (by rw[hI];decide),HNM.out]
  clear hac hI;go_wp2_with fail;refine(zap w3 g ts _ o [59] HP3.out).mono ?_;rintro x w4 ⟨rfl,hP4,hG4⟩;obtain⟨t0,t1,-,-,-⟩:=blk2 (za1 hG4 HT3.out hTg);obtain⟨r0,r1,rf0,rf1,-⟩:=blk2 (za1 hG4 HR3.out hgR');have HP4:=zH hP4;have HG4:=zH (za0 HG3.out hG4);clear hP4 hG4;go_wp2_with fail;have hq:PutAt w.heap.size w4 _:=((PutAt.refl w.heap.size w4).set 0 (.string ⟨nm.toArray⟩)).set 1 (.int .i64 0);refine bodyPost_ret (v:=.agg #[.string ⟨nm.toArray⟩,.int .i64 0]) (by simp[results,Tryz.results62,go_sem,r0,r1]) rfl ⟨by rw[HV.out],?_,za5 HG4.out hq (lR _)⟩;rw[HV.out];exact HP4.out.putAt hq hgw
theorem zfm {w:World} {X:Nat} {c0 c1 c2:Value} {t:TypeId} (u:Value) (h:w.heap[X]?=some (.cells #[c0,c1,c2] t (0,0))):(w.setCell ⟨X,0,none⟩ u).heap[X]?=some (.cells #[u,c1,c2] t (0,0)):=za4 0 u h
theorem zhd {w:World} {X:Nat} {c0 c1 c2:Value} {t:TypeId} (u:Value) (h:w.heap[X]?=some (.cells #[c0,c1,c2] t (0,0))):(w.setCell ⟨X,2,none⟩ u).heap[X]?=some (.cells #[c0,c1,u] t (0,0)):=za4 2 u h
theorem zfl {w:World} {X:Nat} {c0 c1 c2:Value} {t:TypeId} (u:Value) (h:w.heap[X]?=some (.cells #[c0,c1,c2] t (0,0))):(w.setCell ⟨X,1,none⟩ u).heap[X]?=some (.cells #[c0,u,c2] t (0,0)):=za4 1 u h
def MxP (w:World) (g:Nat) (ts:List Tk.Tok) (R:Mx × Pa.Sg) (o:Nat) (e:Ending) (w':World):Prop :=
 ∃(nm:List UInt8) (re:Bool) (sz:Nat),e=.returned (.agg #[.string ⟨nm.toArray⟩,.bool re,.int .i64 (sz:Int)])∧(R.2.live=true→R.1=⟨nm,re,sz⟩)∧Pps w' g ts R.2 o∧w.grownBy w' (some g)
def mxS (ts:List Tk.Tok) (σ:Pa.Sg):Pa.Sg:=if Pa.isS ts σ [114,109,117,116,101,120]=true then Pa.nx σ else Pa.xp ts σ [109,117,116,101,120]
set_option maxRecDepth 100000 in
set_option maxHeartbeats 4000000 in
theorem zeE (w:World) (g:Nat) (ts:List Tk.Tok) (σ:Pa.Sg) (o:Nat) (hP:Pps w g ts σ o) :
  Calls Tryz.prog 63 #[.pointer (some ⟨g,0,none⟩)] w (MxP w g ts (Pa.sMutex ts (Pa.isS ts σ [114,109,117,116,101,120]) (mxS ts σ)) o):=by
 have HP:=zH hP;have hgw:=hP.lt;have hgR':w.heap.size≠g:=by omega
 clear hP;go_enter Tryz.func63,Tryz.ntmps63;go_wp2_with fail;refine(zam _ g ts σ o [114,109,117,116,101,120] (HP.out.alloc _)).mono ?_;rintro x w1 ⟨rfl,hP1,hG1⟩;have HR1:=zH (za1 hG1 (heap_alloc_new w _) hgR');have HP1:=zH hP1;have HG1:=zH (za6 hG1);have hl1:w.heap.size<w1.heap.size:=lt_of_block HR1.out;have hTg:w1.heap.size≠g:=by omega
 have hTR:w1.heap.size≠w.heap.size:=by omega
 clear hP1 hG1;cases hI:Pa.isS ts σ [114,109,117,116,101,120] with
 | true =>
  have hac:Pa.ac ts σ [114,109,117,116,101,120]=Pa.nx σ:=if_pos hI;have HM:Hid (mxS ts σ=Pa.nx σ):=if_pos hI;rw[hac] at HP1;have HI:=zH hI;clear hac hI;go_wp2_with fail;refine(zbd _ g ts _ o (HP1.out.alloc _)).mono ?_;rintro x w2 ⟨rfl,hP2,hG2⟩;have HR2:=zH (za1 hG2 ((Below.heap_alloc w1 _ _ hl1).trans HR1.out) hgR');have HT2:=zH (za1 hG2 (heap_alloc_new w1 _) hTg);have HP2:=zH hP2;have HG2:=zH (za0 (zag HG1.out _) hG2);clear hP2 hG2;have HV:Hid (Pa.sMutex ts (Pa.isS ts σ [114,109,117,116,101,120]) (mxS ts σ)=(⟨Pa.nmV ts (Pa.nx σ),true,0⟩,Pa.xp ts (Pa.tk ts (Pa.nx σ) 1) [59])):=by show _=_;rw[HI.out,HM.out];unfold Pa.sMutex;rw[if_neg (fun h=>by cases h.1)]
  generalize Pa.nmV ts (Pa.nx σ)=nm at *;generalize Pa.tk ts (Pa.nx σ) 1=τ at *;obtain⟨t0,t1,t2,tf,htl⟩:=blk3 HT2.out;have u0:=tf 0;clear tf;go_wp2_with fail;obtain⟨W3,hW3⟩:∃W,W=w2.setCell ⟨w1.heap.size,0,none⟩ (.string ⟨nm.toArray⟩):=⟨_,rfl⟩;have hq3:PutAt w1.heap.size w2 W3:=by
   rw[hW3];exact(PutAt.refl w1.heap.size w2).set 0 _
  have HT7:Hid (W3.heap[w1.heap.size]?=some (.cells #[.string ⟨nm.toArray⟩,.bool true,.int .i64 0] 88 (0,0))):=by
   rw[hW3];exact zfm _ HT2.out
  have HR7:=zH ((hq3.2.2.2.2 _ (by omega)).trans HR2.out);have HP3:=zH (HP2.out.putAt hq3 (by omega));have HG7:=zH (za5 HG2.out hq3 (by omega));rw[←hW3];clear hW3 hq3 t0 t1 t2 u0;refine(zap W3 g ts _ o [59] HP3.out).mono ?_;rintro x w8 ⟨rfl,hP8,hG8⟩;obtain⟨t0,t1,t2,-,-⟩:=blk3 (za1 hG8 HT7.out hTg);obtain⟨r0,r1,r2,rf,-⟩:=blk3 (za1 hG8 HR7.out hgR');have f0:=rf 0;have f1:=rf 1;have f2:=rf 2;have HP8:=zH hP8;have HG8:=zH (za0 HG7.out hG8);clear hP8 hG8 rf;go_wp2_with fail;have hq:PutAt w.heap.size w8 _:=(((PutAt.refl w.heap.size w8).set 0 (.string ⟨nm.toArray⟩)).set 1 (.bool true)).set 2 (.int .i64 0);refine bodyPost_ret (v:=.agg #[.string ⟨nm.toArray⟩,.bool true,.int .i64 0]) (by simp[results,Tryz.results63,go_sem,r0,r1,r2]) rfl ⟨nm,true,0,rfl,fun _=>by rw[HV.out],?_,za5 HG8.out hq (lR _)⟩;rw[HV.out];exact HP8.out.putAt hq hgw
 | false =>
  have hac:Pa.ac ts σ [114,109,117,116,101,120]=σ:=if_neg (by rw[hI];decide);have HM:Hid (mxS ts σ=Pa.xp ts σ [109,117,116,101,120]):=if_neg (by rw[hI];decide);rw[hac] at HP1;have HI:=zH hI;clear hac hI;go_wp2_with fail;refine(zap _ g ts σ o [109,117,116,101,120] (HP1.out.alloc _)).mono ?_;rintro x wa ⟨rfl,hPa,hGa⟩;have HRa:=zH (za1 hGa ((Below.heap_alloc w1 _ _ hl1).trans HR1.out) hgR');have HTa:=zH (za1 hGa (heap_alloc_new w1 _) hTg);have HPa:=zH hPa;have HGa:=zH (za0 (zag HG1.out _) hGa);clear hPa hGa;rw[←HM.out] at HPa;generalize mxS ts σ=σ1 at *;clear HM;go_wp2_with fail;refine(zbd wa g ts _ o HPa.out).mono ?_;rintro x w2 ⟨rfl,hP2,hG2⟩;have HR2:=zH (za1 hG2 HRa.out hgR');have HT2:=zH (za1 hG2 HTa.out hTg);have HP2:=zH hP2;have HG2:=zH (za0 HGa.out hG2);clear hP2 hG2;generalize hnm:Pa.nmV ts σ1=nm at *;have HNM:=zH hnm;clear hnm;obtain⟨t0,t1,t2,tf,htl⟩:=blk3 HT2.out;have u0:=tf 0;clear tf;go_wp2_with fail;obtain⟨W3,hW3⟩:∃W,W=w2.setCell ⟨w1.heap.size,0,none⟩ (.string ⟨nm.toArray⟩):=⟨_,rfl⟩;have hq3:PutAt w1.heap.size w2 W3:=by
   rw[hW3];exact(PutAt.refl w1.heap.size w2).set 0 _
  have HT3:Hid (W3.heap[w1.heap.size]?=some (.cells #[.string ⟨nm.toArray⟩,.bool false,.int .i64 0] 88 (0,0))):=by
   rw[hW3];exact zfm _ HT2.out
  have HR3:=zH ((hq3.2.2.2.2 _ (by omega)).trans HR2.out);have HP3:=zH (HP2.out.putAt hq3 (by omega));have HG3:=zH (za5 HG2.out hq3 (by omega));rw[←hW3];clear hW3 hq3 t0 t1 t2 u0;refine(zam W3 g ts _ o [91] HP3.out).mono ?_;rintro x w4 ⟨rfl,hP4,hG4⟩;have HR4:=zH (za1 hG4 HR3.out hgR');have HT4:=zH (za1 hG4 HT3.out hTg);have HP4:=zH hP4;have HG4:=zH (za0 HG3.out hG4);clear hP4 hG4;cases hB:Pa.isS ts (Pa.tk ts σ1 1) [91] with
  | true =>
   have hac:Pa.ac ts (Pa.tk ts σ1 1) [91]=Pa.nx (Pa.tk ts σ1 1):=if_pos hB;rw[hac] at HP4;have HV:Hid (Pa.sMutex ts (Pa.isS ts σ [114,109,117,116,101,120]) σ1=(⟨nm,false,Pa.nuV ts (Pa.nx (Pa.tk ts σ1 1))⟩,Pa.xp ts (Pa.xp ts (Pa.szS ts (Pa.nx (Pa.tk ts σ1 1))) [93]) [59])):=by show _=_;rw[HI.out];unfold Pa.sMutex;rw[if_pos ⟨rfl,hB⟩,HNM.out]
   clear hac hB;generalize Pa.nx (Pa.tk ts σ1 1)=τ at *;go_wp2_with fail;refine(zil w4 g ts τ o HP4.out).mono ?_;rintro x w5 ⟨rfl,hP5,hG5⟩;have HR5:=zH (za1 hG5 HR4.out hgR');have HT5:=zH (za1 hG5 HT4.out hTg);have HP5:=zH hP5;have HG5:=zH (za0 HG4.out hG5);clear hP5 hG5;have HSZ:Hid ((Pa.szS ts τ).live=true→Pa.nuV ts (szP ts τ)=Pa.nuV ts τ):=fun h=>by
    rw[szS_eq] at h;have h1:=(Pa.tk_fws ts (szP ts τ) 2 h).1;unfold szP at h1 ⊢;split
    ·
     rename_i hb;rw[if_pos hb,Pa.fl_dead] at h1;cases h1
    ·
     rfl
   generalize hN:Pa.nuV ts (szP ts τ)=N at *;clear hN;obtain⟨t0,t1,t2,tf,htl⟩:=blk3 HT5.out;have u2:=tf 2;clear tf;go_wp2_with fail;obtain⟨W6,hW6⟩:∃W,W=w5.setCell ⟨w1.heap.size,2,none⟩ (.int .i64 (N:Int)):=⟨_,rfl⟩;have hq6:PutAt w1.heap.size w5 W6:=by
    rw[hW6];exact(PutAt.refl w1.heap.size w5).set 2 _
   have HT6:Hid (W6.heap[w1.heap.size]?=some (.cells #[.string ⟨nm.toArray⟩,.bool false,.int .i64 (N:Int)] 88 (0,0))):=by
    rw[hW6];exact zhd _ HT5.out
   have HR6:=zH ((hq6.2.2.2.2 _ (by omega)).trans HR5.out);have HP6:=zH (HP5.out.putAt hq6 (by omega));have HG6:=zH (za5 HG5.out hq6 (by omega));rw[←hW6];clear hW6 hq6 t0 t1 t2 u2;refine(zap W6 g ts _ o [93] HP6.out).mono ?_;rintro x w7 ⟨rfl,hP7,hG7⟩;have HR7:=zH (za1 hG7 HR6.out hgR');have HT7:=zH (za1 hG7 HT6.out hTg);have HP7:=zH hP7;have HG7:=zH (za0 HG6.out hG7);clear hP7 hG7;go_wp2_with fail;refine(zap w7 g ts _ o [59] HP7.out).mono ?_;rintro x w8 ⟨rfl,hP8,hG8⟩;obtain⟨t0,t1,t2,-,-⟩:=blk3 (za1 hG8 HT7.out hTg);obtain⟨r0,r1,r2,rf,-⟩:=blk3 (za1 hG8 HR7.out hgR');have f0:=rf 0;have f1:=rf 1;have f2:=rf 2;have HP8:=zH hP8;have HG8:=zH (za0 HG7.out hG8);clear hP8 hG8 rf;go_wp2_with fail;have hq:PutAt w.heap.size w8 _:=(((PutAt.refl w.heap.size w8).set 0 (.string ⟨nm.toArray⟩)).set 1 (.bool false)).set 2 (.int .i64 (N:Int));refine bodyPost_ret (v:=.agg #[.string ⟨nm.toArray⟩,.bool false,.int .i64 (N:Int)]) (by simp[results,Tryz.results63,go_sem,r0,r1,r2]) rfl ⟨nm,false,N,rfl,fun h=>by rw[HV.out] at h ⊢;have h1:=(Pa.xp_fws ts _ _ h).1;have h2:=(Pa.xp_fws ts _ _ h1).1;rw[HSZ.out h2],?_,za5 HG8.out hq (lR _)⟩;rw[HV.out];exact HP8.out.putAt hq hgw
  | false =>
   have hac:Pa.ac ts (Pa.tk ts σ1 1) [91]=Pa.tk ts σ1 1:=if_neg (by rw[hB];decide);rw[hac] at HP4;have HV:Hid (Pa.sMutex ts (Pa.isS ts σ [114,109,117,116,101,120]) σ1=(⟨nm,false,0⟩,Pa.xp ts (Pa.tk ts σ1 1) [59])):=by show _=_;rw[HI.out];unfold Pa.sMutex;rw[if_neg (fun h=>by rw[h.2] at hB;cases hB),HNM.out]
   clear hac hB;have HR7:=HR4;have HT7:=HT4;have HG7:=HG4;go_wp2_with fail;refine(zap w4 g ts _ o [59] HP4.out).mono ?_;rintro x w8 ⟨rfl,hP8,hG8⟩;obtain⟨t0,t1,t2,-,-⟩:=blk3 (za1 hG8 HT7.out hTg);obtain⟨r0,r1,r2,rf,-⟩:=blk3 (za1 hG8 HR7.out hgR');have f0:=rf 0;have f1:=rf 1;have f2:=rf 2;have HP8:=zH hP8;have HG8:=zH (za0 HG7.out hG8);clear hP8 hG8 rf;go_wp2_with fail;have hq:PutAt w.heap.size w8 _:=(((PutAt.refl w.heap.size w8).set 0 (.string ⟨nm.toArray⟩)).set 1 (.bool false)).set 2 (.int .i64 0);refine bodyPost_ret (v:=.agg #[.string ⟨nm.toArray⟩,.bool false,.int .i64 0]) (by simp[results,Tryz.results63,go_sem,r0,r1,r2]) rfl ⟨nm,false,0,rfl,fun _=>by rw[HV.out],?_,za5 HG8.out hq (lR _)⟩;rw[HV.out];exact HP8.out.putAt hq hgw
def FnP (w:World) (g:Nat) (ts:List Tk.Tok) (R:Fn × Pa.Sg) (o:Nat) (e:Ending) (w':World):Prop :=
 ∃A c B d,e=.returned (.agg #[.string ⟨R.1.name.toArray⟩,.slice A R.1.ps.length c,.slice B R.1.body.length d])∧PmsM w' (w.heap.size≤·) R.1.ps A∧StsM w' (w.heap.size≤·) R.1.body B∧Pps w' g ts R.2 o∧w.grownBy w' (some g)
theorem PmsM.keep {w w':World} {S:Nat→Prop} {l:List Pm} {A:Option Addr} (h:PmsM w S l A) (hk:∀b,S b→b<w.heap.size→w'.heap[b]?=w.heap[b]?):PmsM w' S l A:=by
 intro i hi;obtain⟨b,off,e,hb,h0,h1⟩:=h i hi;have e1:∀o',w'.cell? ⟨b,o',none⟩=w.cell? ⟨b,o',none⟩:=fun o'=>World.cell?_of_block (hk b hb (World.block_lt_of_cell? _ _ h0));exact⟨b,off,e,hb,(e1 _).trans h0,(e1 _).trans h1⟩
theorem PmsM.more {w:World} {S S':Nat→Prop} {l:List Pm} {A:Option Addr} (h:PmsM w S l A) (hs:∀b,S b→b<w.heap.size→S' b):PmsM w S' l A:=by
 intro i hi;obtain⟨b,off,e,hb,h0,h1⟩:=h i hi;exact⟨b,off,e,hs b hb (World.block_lt_of_cell? _ _ h0),h0,h1⟩
theorem PmsM.putAt {w w':World} {r N:Nat} {l:List Pm} {A:Option Addr} (h:PmsM w (N≤·) l A) (hp:PutAt r w w') (hr:r<N):PmsM w' (N≤·) l A:=h.keep fun b hb _=>hp.2.2.2.2 b (by omega)
theorem PmsM.gr {w w':World} {g N:Nat} {l:List Pm} {A:Option Addr} (h:PmsM w (N≤·) l A) (hG:w.grownBy w' (some g)) (hg:g<N):PmsM w' (N≤·) l A:=h.keep fun b hb hl=>hG.block b hl (fun e=>by injection e with e;omega)
set_option maxRecDepth 100000 in
set_option maxHeartbeats 4000000 in
theorem zip (w:World) (g:Nat) (ts:List Tk.Tok) (σ:Pa.Sg) (hP:Pps w g ts σ 0) (hS:SgG w g) :
  Calls Tryz.prog 64 #[.pointer (some ⟨g,0,none⟩)] w (FnP w g ts (Pa.sFunc ts (Pa.xp ts σ [102,117,110,99])) 0):=by
 have HP:=zH hP;have HS:=zH hS;have hgw:=hP.lt;have hgR':w.heap.size≠g:=by omega
 clear hP hS;go_enter Tryz.func64,Tryz.ntmps64;go_wp2_with fail;refine(zap _ g ts σ 0 [102,117,110,99] (HP.out.alloc _)).mono ?_;rintro x w1 ⟨rfl,hP1,hG1⟩;have HR1:=zH (za1 hG1 (heap_alloc_new w _) hgR');have HP1:=zH hP1;have HG1:=zH (za6 hG1);clear hP1 hG1;generalize Pa.xp ts σ [102,117,110,99]=σ1 at *;go_wp2_with fail;refine(zbd w1 g ts σ1 0 HP1.out).mono ?_;rintro x w2 ⟨rfl,hP2,hG2⟩;have HR2:=zH (za1 hG2 HR1.out hgR');have HP2:=zH hP2;have HG2:=zH (za0 HG1.out hG2);have hl2:w.heap.size<w2.heap.size:=lt_of_block HR2.out;have hTg:w2.heap.size≠g:=by omega
 have hTR:w2.heap.size≠w.heap.size:=by omega
 clear hP2 hG2;have HV:Hid (Pa.sFunc ts σ1=(⟨Pa.nmV ts σ1,(Pa.sParams ts (Pa.tk ts σ1 1)).1,(Pa.sBlock ts 25 0 (Pa.sParams ts (Pa.tk ts σ1 1)).2).1⟩,(Pa.sBlock ts 25 0 (Pa.sParams ts (Pa.tk ts σ1 1)).2).2)):=rfl;generalize Pa.nmV ts σ1=nm at *;generalize Pa.tk ts σ1 1=τ at *;go_wp2_with fail;refine(zgp _ g ts τ 0 (HP2.out.alloc _)).mono ?_;rintro x w3 ⟨A,c,rfl,hX3,hP3,hG3⟩;have HR3:=zH (za1 hG3 ((Below.heap_alloc w2 _ _ hl2).trans HR2.out) hgR');have HT3:=zH (za1 hG3 (heap_alloc_new w2 _) hTg);have HX3:Hid (PmsM w3 (w2.heap.size+1≤·) (Pa.sParams ts τ).1 A):=hX3.more fun b hb _=>by simp at hb;omega
 have HP3:=zH hP3;have HG3:=zH (za0 (zag HG2.out _) hG3);clear hP3 hG3 hX3;generalize (Pa.sParams ts τ).1=ps at *;generalize (Pa.sParams ts τ).2=τ2 at *;obtain⟨t0,t1,t2,tf,htl⟩:=blk3 HT3.out;have u1:=tf 1;clear tf;go_wp2_with fail;obtain⟨W4,hW4⟩:∃W,W=w3.setCell ⟨w2.heap.size,1,none⟩ (.slice A ps.length c):=⟨_,rfl⟩;have hq4:PutAt w2.heap.size w3 W4:=by
  rw[hW4];exact(PutAt.refl w2.heap.size w3).set 1 _
 have HT4:Hid (W4.heap[w2.heap.size]?=some (.cells #[.string ⟨nm.toArray⟩,.slice A ps.length c,.slice none 0 0] 52 (0,0))):=by
  rw[hW4];exact zfl _ HT3.out
 have HR4:=zH ((hq4.2.2.2.2 _ (by omega)).trans HR3.out);have HX4:=zH (HX3.out.putAt hq4 (by omega));have HP4:=zH (HP3.out.putAt hq4 (by omega));have HG4:=zH (za5 HG3.out hq4 (by omega));have hl4:w2.heap.size<W4.heap.size:=lt_of_block HT4.out;rw[←hW4];clear hW4 hq4 t0 t1 t2 u1;refine(zeG g ts 25 0 rfl (by omega) W4 τ2 HP4.out (HS.out.grown HG4.out)).mono ?_;rintro x w5 ⟨B,d,rfl,hY5,hP5,hG5⟩;have HR5:=zH (za1 hG5 HR4.out hgR');have HT5:=zH (za1 hG5 HT4.out hTg);have HX5:=zH (HX4.out.gr hG5 (by omega));have HY5:Hid (StsM w5 (w2.heap.size+1≤·) (Pa.sBlock ts 25 0 τ2).1 B):=hY5.more fun b hb _=>by omega
 have HP5:=zH hP5;have HG5:=zH (za0 HG4.out hG5);clear hP5 hG5 hY5;generalize (Pa.sBlock ts 25 0 τ2).1=l at *;generalize (Pa.sBlock ts 25 0 τ2).2=τ3 at *;obtain⟨t0,t1,t2,tf,htl⟩:=blk3 HT5.out;have u2:=tf 2;obtain⟨r0,r1,r2,rf,-⟩:=blk3 HR5.out;have f0:=rf 0;have f1:=rf 1;have f2:=rf 2;clear tf rf;have HQ3:=zH (show PutAt w2.heap.size w5 (w5.setCell ⟨w2.heap.size,2,none⟩ (.slice B l.length d)) from (PutAt.refl w2.heap.size w5).set 2 _);go_wp2_with fail;have hq:PutAt w.heap.size (w5.setCell ⟨w2.heap.size,2,none⟩ (.slice B l.length d)) _:=(((PutAt.refl w.heap.size (w5.setCell ⟨w2.heap.size,2,none⟩ (.slice B l.length d))).set 0 (.string ⟨nm.toArray⟩)).set 1 (.slice A ps.length c)).set 2 (.slice B l.length d);refine bodyPost_ret (v:=.agg #[.string ⟨nm.toArray⟩,.slice A ps.length c,.slice B l.length d]) (by simp[results,Tryz.results64,go_sem,r0,r1,r2]) rfl ⟨A,c,B,d,by rw[HV.out],?_,?_,?_,za5 (za5 HG5.out HQ3.out (by omega)) hq (lR _)⟩
 ·
  rw[HV.out];exact((HX5.out.putAt HQ3.out (by omega)).putAt hq (by omega)).more fun b hb _=>by omega
 ·
  rw[HV.out];exact((HY5.out.putAt HQ3.out (by omega)).putAt hq (by omega)).more fun b hb _=>by omega
 ·
  rw[HV.out];exact(HP5.out.putAt HQ3.out (by omega)).putAt hq hgw
def glK:RowK Gl where
 cl:=fun p=>[.string ⟨p.name.toArray⟩,.int .i64 p.init]
 sz:=2
 hsz:=fun _=>rfl
 one:=fun p u hu=>by
  simp at hu;rcases hu with rfl|rfl<;>rfl
 In:=fun _ _ _=>True
 keep:=fun _ _=>trivial
 more:=fun _ _=>trivial
def mxK:RowK Mx where
 cl:=fun p=>[.string ⟨p.name.toArray⟩,.bool p.re,.int .i64 (p.size:Int)]
 sz:=3
 hsz:=fun _=>rfl
 one:=fun p u hu=>by
  simp at hu;rcases hu with rfl|rfl|rfl<;>rfl
 In:=fun _ _ _=>True
 keep:=fun _ _=>trivial
 more:=fun _ _=>trivial
structure FnG where
 A:Option Addr
 c:Nat
 B:Option Addr
 d:Nat
def fnK:RowK (Fn × FnG) where
 cl:=fun p=>[.string ⟨p.1.name.toArray⟩,.slice p.2.A p.1.ps.length p.2.c,.slice p.2.B p.1.body.length p.2.d]
 sz:=3
 hsz:=fun _=>rfl
 one:=fun p u hu=>by
  simp at hu;rcases hu with rfl|rfl|rfl<;>rfl
 In:=fun w S p=>PmsM w S p.1.ps p.2.A∧StsM w S p.1.body p.2.B
 keep:=fun h hk=>⟨h.1.keep hk,h.2.keep hk⟩
 more:=fun h hs=>⟨h.1.more hs,h.2.more hs⟩
def Dj (a b:Value):Prop:=a.ownBlock=none∨a.ownBlock≠b.ownBlock
theorem Dj.symm {a b:Value} (h:Dj a b):Dj b a:=by
 rcases h with h|h
 ·
  cases hb:b.ownBlock with
  | none=>exact .inl hb
  | some k=>exact .inr (by rw[h,hb];intro e;cases e)
 ·
  exact .inr h.symm
def S3 (B:Nat) (a b c:Value) (n:Nat):Prop:=B≤n∧some n≠a.ownBlock∧some n≠b.ownBlock∧some n≠c.ownBlock
structure PgR (w:World) (B:Nat) (vG vM vF:Value) (PG:List Gl) (PM:List Mx) (PF:List (Fn × FnG)):Prop where
 rG:w.ownsRow B 90 2 vG PG.length (glK.cs PG)
 rM:w.ownsRow B 88 3 vM PM.length (mxK.cs PM)
 rF:w.ownsRow B 52 3 vF PF.length (fnK.cs PF)
 inF:∀p∈PF,fnK.In w (S3 B vG vM vF) p
 gm:Dj vG vM
 gf:Dj vG vF
 mf:Dj vM vF
theorem zee {w w':World} {B n size:Nat} {t:TypeId} {v:Value} {xs:List Value} (h:w.ownsRow B t size v n xs) (hk:∀b,B≤b→b<w.heap.size→w'.heap[b]?=w.heap[b]?):w'.ownsRow B t size v n xs:=by
 refine⟨h.1,?_⟩;rcases h.2 with h0|⟨g,cap,cur,e,hg,hb,r⟩
 ·
  exact .inl h0
 ·
  exact .inr ⟨g,cap,cur,e,hg,(hk g hg (lt_of_block hb)).trans hb,r⟩
theorem PgR.nil (w:World) (B:Nat):PgR w B (.slice none 0 0) (.slice none 0 0) (.slice none 0 0) [] [] [] :=
 ⟨World.ownsRow_nil _ _ _ _,World.ownsRow_nil _ _ _ _,World.ownsRow_nil _ _ _ _,fun p h=>absurd h (by simp),.inl rfl,.inl rfl,.inl rfl⟩
theorem PgR.keep {w w':World} {B:Nat} {vG vM vF:Value} {PG:List Gl} {PM:List Mx} {PF:List (Fn × FnG)} (h:PgR w B vG vM vF PG PM PF) (hk:∀b,B≤b→b<w.heap.size→w'.heap[b]?=w.heap[b]?):PgR w' B vG vM vF PG PM PF :=
 ⟨zee h.rG hk,zee h.rM hk,zee h.rF hk,fun p hp=>fnK.keep (h.inF p hp) fun b hb hl=>hk b hb.1 hl,h.gm,h.gf,h.mf⟩
theorem PgR.grown {w w':World} {B g:Nat} {vG vM vF:Value} {PG:List Gl} {PM:List Mx} {PF:List (Fn × FnG)} (h:PgR w B vG vM vF PG PM PF) (hG:w.grownBy w' (some g)) (hg:g<B):PgR w' B vG vM vF PG PM PF :=
 h.keep fun b hb hl=>hG.block b hl (fun e=>by injection e with e;omega)
theorem PgR.alloc {w:World} {B:Nat} {vG vM vF:Value} {PG:List Gl} {PM:List Mx} {PF:List (Fn × FnG)} (h:PgR w B vG vM vF PG PM PF) (o:Obj):PgR (w.alloc o) B vG vM vF PG PM PF:=h.keep fun b _ hl=>Below.heap_alloc w o b hl
theorem PgR.putAt {w w':World} {B r:Nat} {vG vM vF:Value} {PG:List Gl} {PM:List Mx} {PF:List (Fn × FnG)} (h:PgR w B vG vM vF PG PM PF) (hp:PutAt r w w') (hr:r<B):PgR w' B vG vM vF PG PM PF:=h.keep fun b hb _=>hp.2.2.2.2 b (by omega)
def Grw (w:World) (v v':Value):Prop:=v'.ownBlock=v.ownBlock∨∃k,v'.ownBlock=some k∧w.heap.size≤k
theorem Dj.grw {w:World} {B n size:Nat} {t:TypeId} {a a' b:Value} {xs:List Value} (h:Dj a b) (hg:Grw w a a') (hb:w.ownsRow B t size b n xs):Dj a' b:=by
 rcases hg with e|⟨k,e,hk⟩
 ·
  unfold Dj;rw[e];exact h
 ·
  refine .inr ?_;rw[e];intro e2
  have:=(hb.lt k e2.symm).2;omega
theorem ziC {w:World} {a a':Value} {n:Nat} (hg:Grw w a a') (h:some n≠a.ownBlock) (hl:n<w.heap.size):some n≠a'.ownBlock:=by
 rcases hg with e|⟨k,e,hk⟩
 ·
  rw[e];exact h
 ·
  rw[e];intro e2;injection e2 with e2;omega
theorem PgR.snocG {w w':World} {B:Nat} {vG vM vF v':Value} {PG:List Gl} {PM:List Mx} {PF:List (Fn × FnG)} (h:PgR w B vG vM vF PG PM PF) (a:Gl) (ho:w'.ownsRow B 90 2 v' (PG.length+1) (glK.cs PG++glK.cl a)) (hg:w.grownBy w' vG.ownBlock) (hv:Grw w vG v'):PgR w' B v' vM vF (PG++[a]) PM PF:=by
 refine⟨?_,h.rM.kept hg h.gm.symm,h.rF.kept hg h.gf.symm,fun p hp=>?_,h.gm.grw hv h.rM,h.gf.grw hv h.rF,h.mf⟩
 ·
  rw[glK.cs_snoc,List.length_append];exact ho
 ·
  have h1:fnK.In w' (fun b=>S3 B vG vM vF b∧b<w.heap.size) p:=fnK.keep (fnK.more (h.inF p hp) (fun b hb hl=>⟨hb,hl⟩)) fun b hb hl=>hg.block b hl hb.1.2.1;exact fnK.more h1 fun b hb _=>⟨hb.1.1,ziC hv hb.1.2.1 hb.2,hb.1.2.2.1,hb.1.2.2.2⟩
theorem PgR.snocM {w w':World} {B:Nat} {vG vM vF v':Value} {PG:List Gl} {PM:List Mx} {PF:List (Fn × FnG)} (h:PgR w B vG vM vF PG PM PF) (a:Mx) (ho:w'.ownsRow B 88 3 v' (PM.length+1) (mxK.cs PM++mxK.cl a)) (hg:w.grownBy w' vM.ownBlock) (hv:Grw w vM v'):PgR w' B vG v' vF PG (PM++[a]) PF:=by
 refine⟨h.rG.kept hg h.gm,?_,h.rF.kept hg h.mf.symm,fun p hp=>?_,(h.gm.symm.grw hv h.rG).symm,h.gf,h.mf.grw hv h.rF⟩
 ·
  rw[mxK.cs_snoc,List.length_append];exact ho
 ·
  have h1:fnK.In w' (fun b=>S3 B vG vM vF b∧b<w.heap.size) p:=fnK.keep (fnK.more (h.inF p hp) (fun b hb hl=>⟨hb,hl⟩)) fun b hb hl=>hg.block b hl hb.1.2.2.1;exact fnK.more h1 fun b hb _=>⟨hb.1.1,hb.1.2.1,ziC hv hb.1.2.2.1 hb.2,hb.1.2.2.2⟩
theorem PgR.snocF {w w':World} {B:Nat} {vG vM vF v':Value} {PG:List Gl} {PM:List Mx} {PF:List (Fn × FnG)} (h:PgR w B vG vM vF PG PM PF) (a:Fn × FnG) (ha:fnK.In w (S3 B vG vM vF) a) (ho:w'.ownsRow B 52 3 v' (PF.length+1) (fnK.cs PF++fnK.cl a)) (hg:w.grownBy w' vF.ownBlock) (hv:Grw w vF v'):PgR w' B vG vM v' PG PM (PF++[a]):=by
 have hin:∀p,fnK.In w (S3 B vG vM vF) p→fnK.In w' (S3 B vG vM v') p:=fun p hp=>by
  have h1:fnK.In w' (fun b=>S3 B vG vM vF b∧b<w.heap.size) p:=fnK.keep (fnK.more hp (fun b hb hl=>⟨hb,hl⟩)) fun b hb hl=>hg.block b hl hb.1.2.2.2;exact fnK.more h1 fun b hb _=>⟨hb.1.1,hb.1.2.1,hb.1.2.2.1,ziC hv hb.1.2.2.2 hb.2⟩
 refine⟨h.rG.kept hg h.gf,h.rM.kept hg h.mf,?_,fun p hp=>?_,h.gm,(h.gf.symm.grw hv h.rG).symm,(h.mf.symm.grw hv h.rM).symm⟩
 ·
  rw[fnK.cs_snoc,List.length_append];exact ho
 ·
  rcases List.mem_append.1 hp with h1|h1
  ·
   exact hin p (h.inF p h1)
  ·
   rw[List.mem_singleton.1 h1];exact hin a ha
theorem PgR.fresh {w0 w:World} {B N:Nat} {vG vM vF:Value} {PG:List Gl} {PM:List Mx} {PF:List (Fn × FnG)} {a:Fn × FnG} (h:PgR w0 B vG vM vF PG PM PF) (hi:fnK.In w (N≤·) a) (hN:w0.heap.size≤N) (hB:B≤N):fnK.In w (S3 B vG vM vF) a :=
 fnK.more hi fun b hb _=>⟨by omega,fun e=>by have:=(h.rG.lt b e.symm).2;omega,fun e=>by have:=(h.rM.lt b e.symm).2;omega,fun e=>by have:=(h.rF.lt b e.symm).2;omega⟩
theorem Tryz.infoGl:(Tryz.prog.info? 90).map (fun i=>(i.zero,i.size,i.bytes))=some (some (.agg #[.string ⟨#[]⟩,.int .i64 0]),2,24):=by kernel_rfl
theorem Tryz.infoMx:(Tryz.prog.info? 88).map (fun i=>(i.zero,i.size,i.bytes))=some (some (.agg #[.string ⟨#[]⟩,.bool false,.int .i64 0]),3,32):=by kernel_rfl
theorem Tryz.infoFn:(Tryz.prog.info? 52).map (fun i=>(i.zero,i.size,i.bytes))=some (some (.agg #[.string ⟨#[]⟩,.slice none 0 0,.slice none 0 0]),3,64):=by kernel_rfl
namespace Pa
theorem sProg_dead (ts:List Tk.Tok) (f:Nat) (σ:Sg) (p:Pg) (h:σ.live=false):sProg ts f σ p=(p,σ):=by
 cases f with
 | zero=>rfl
 | succ f=>rw[sProg,if_pos (.inl h)]
theorem xp_ac (ts:List Tk.Tok) (σ:Sg) (c m:Nat) (s:List UInt8) (h:isS ts σ s=true):xp ts (lm σ c m) s=ac ts (lm σ c m) s:=by
 unfold lm;split
 ·
  have hd:=fl_dead σ 3;generalize fl σ 3=ρ at *;cases ρ with
  | bad a e=>rfl
  | at_ k=>cases hd
 ·
  unfold xp ac;rw[if_pos h,if_pos h]
end Pa
end Go.Proofs.YtlnbmmgbfgmboaaGreatDoor
