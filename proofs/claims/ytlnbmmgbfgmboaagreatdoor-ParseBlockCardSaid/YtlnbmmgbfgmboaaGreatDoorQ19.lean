import Derived.Test.YtlnbmmgbfgmboaaGreatDoorQa
import Derived.Test.YtlnbmmgbfgmboaaGreatDoorQ18
import Derived.Test.YtlnbmmgbfgmboaaGreatDoorQ4
import Derived.Deep.RegionLaw
import Derived.Deep.DeepCutAuto
import Derived.IntWalk
import Derived.Test.YtlnbmmgbfgmboaaGreatDoorQ5
namespace Go.Proofs.YtlnbmmgbfgmboaaGreatDoor
open Go.RowKit
theorem zgX {w w8 W:World} {g:Nat} {ts:List Tk.Tok} {bad o d m a e:Nat} {R:Ps.R} {f:EF} (op:Nat) (hgw:g<w.heap.size) (hGa:w.grownBy w8 (some g)) (hS:w.heap.size+1<W.heap.size) (hsz:w.heap.size+1<w8.heap.size)
  (hC:(∃x,R=.ok x m∧a=bad∧e=0∧ExM w8 (W.heap.size≤·) x f)∨(R=.bad a e∧e≠0)) (hP:Rsr w8 g ts m a e (o+1) d) (ho:o≤1000) (s v0 v1 v2:Value) (A B D C:World) (t:TypeId)
  (hA:A=w8.setCell ⟨w.heap.size+1,3,none⟩ s) (hB:B=A.setCell ⟨g,4,none⟩ (.int .i64 (o:Int))) (hD:D=set4 B w.heap.size v0 v1 v2 s)
  (hCC:C=D.alloc (.cells #[.int .i64 f.op,.int .i64 f.num,.string ⟨f.name.toArray⟩,.slice f.A f.n f.c] t)) :
  zaI w g ts bad o d (R.bind fun x k'=>.ok (.mk op 0 [] [x]) k') (.returned (.agg #[.int .i64 (op:Int),.int .i64 0,.string ⟨#[]⟩,.slice (some ⟨w8.heap.size,0,none⟩) 1 1])) C:=by
 have sA:A.heap.size=w8.heap.size:=by rw[hA];exact zdV _ _ _
 have sB:B.heap.size=A.heap.size:=by rw[hB];exact zdV _ _ _
 have sD:D.heap.size=w8.heap.size:=by rw[hD,zaj,sB,sA]
 have mA:A.os=w8.os∧A.tape=w8.tape∧A.output=w8.output:=by rw[hA];exact zdW _ _ _
 have mB:B.os=A.os∧B.tape=A.tape∧B.output=A.output:=by rw[hB];exact zdW _ _ _
 have mD:D.os=B.os∧D.tape=B.tape∧D.output=B.output:=by rw[hD];exact zbb _ _ _ _ _ _
 have mC:C.os=D.os∧C.tape=D.tape∧C.output=D.output:=by rw[hCC];exact⟨rfl,rfl,rfl⟩
 have kA:∀b,b≠w.heap.size+1→A.heap[b]?=w8.heap[b]?:=fun b hne=>by rw[hA];exact Below.heap_setCell w8 _ _ b hne
 have kB:∀b,b≠g→B.heap[b]?=A.heap[b]?:=fun b hne=>by rw[hB];exact Below.heap_setCell A _ _ b hne
 have kD:∀b,b≠w.heap.size→D.heap[b]?=B.heap[b]?:=fun b hne=>by rw[hD];exact zai B _ _ _ _ _ b hne
 have kC:∀b,b<w8.heap.size→C.heap[b]?=D.heap[b]?:=fun b hlt=>by rw[hCC];exact Below.heap_alloc D _ b (by rw[sD];exact hlt)
 have hsC:w8.heap.size≤C.heap.size:=by rw[hCC,←sD];simp
 have hcell:∀o',C.cell? ⟨w8.heap.size,o',none⟩=[Value.int .i64 f.op,.int .i64 f.num,.string ⟨f.name.toArray⟩,.slice f.A f.n f.c][o']?:=by
  intro o';rw[hCC,←sD,World.cell?_alloc_mark];simp
 have hgr:∀b,b≤g→b<w.heap.size:=fun b hle=>Nat.lt_of_le_of_lt hle hgw;have h8:w.heap.size<w8.heap.size:=Nat.lt_of_succ_lt hsz;have hPA:Rsr A g ts m a e (o+1) d:=hP.keep fun b hle=>kA b (Nat.ne_of_lt (Nat.lt_succ_of_lt (hgr b hle)));have hPB:Rsr B g ts m a e o d:=by rw[hB];exact hPA.nest o ho
 have hPC:Rsr C g ts m a e o d:=hPB.keep fun b hle=>(kC b (Nat.lt_trans (hgr b hle) h8)).trans (kD b (Nat.ne_of_lt (hgr b hle)));clear hA hB hD hCC;refine⟨⟨(op:Int),0,[],some ⟨w8.heap.size,0,none⟩,1,1⟩,rfl,⟨mC.1.trans (mD.1.trans (mB.1.trans (mA.1.trans hGa.os))),mC.2.1.trans (mD.2.1.trans (mB.2.1.trans (mA.2.1.trans hGa.tape))),mC.2.2.trans (mD.2.2.trans (mB.2.2.trans (mA.2.2.trans hGa.output))),Nat.le_trans hGa.size hsC,?_⟩,?_,?_⟩
 ·
  intro b hlt hne;rw[kC b (Nat.lt_trans hlt h8),kD b (Nat.ne_of_lt hlt),kB b (fun h=>hne (by rw[h])),kA b (Nat.ne_of_lt (Nat.lt_succ_of_lt hlt))];exact hGa.block b hlt hne
 ·
  intro y m' h;rcases hC with⟨x,hR,ha,he,hE⟩|⟨hR,he⟩
  ·
   rw[hR] at h;injection h with e1 e2;subst e1;subst e2;subst ha;subst he;refine⟨ExM.one _ _ _ w8.heap.size 0 1 (Nat.le_of_lt h8) ⟨hcell 0,hcell 1,hcell 2,hcell 3⟩ ((hE.keep fun b hb hlt=>?_).more fun b hb=>Nat.le_trans (Nat.le_of_lt (Nat.lt_of_succ_lt hS)) hb),hPC⟩;have hb1:w.heap.size+1<b:=Nat.lt_of_lt_of_le hS hb;have hb2:g<b:=Nat.lt_trans hgw (Nat.lt_of_succ_lt hb1);rw[kC b hlt,kD b (Nat.ne_of_gt (Nat.lt_of_succ_lt hb1)),kB b (Nat.ne_of_gt hb2),kA b (Nat.ne_of_gt hb1)]
  ·
   rw[hR] at h;cases h
 ·
  intro a' e' h;rcases hC with⟨x,hR,ha,he,hE⟩|⟨hR,he⟩
  ·
   rw[hR] at h;cases h
  ·
   rw[hR] at h;injection h with e1 e2;subst e1;subst e2;exact⟨he,m,hPC⟩
set_option maxRecDepth 100000 in
set_option maxHeartbeats 4000000 in
theorem zfI (w:World) (g:Nat) (ts:List Tk.Tok) (k bad o d:Nat) (hP:Rsr w g ts k bad 0 o d) (hK2:zb2 ts k 0 2=false) (hK1:zb2 ts k 0 1=false)
  (hm:isB ts k 0 [45]=true) (ho24:o<24) (hlast:Ps.kindAt ts (ts.length-1)=5)
  (hB:∀w',Rsr w' g ts (k+1) bad 0 (o+1) d→Calls Tryz.prog 101 #[.pointer (some ⟨g,0,none⟩)] w' (zaI w' g ts bad (o+1) d (Ps.PO ts (o+1) (k+1)))) :
  Calls Tryz.prog 101 #[.pointer (some ⟨g,0,none⟩)] w (zaI w g ts bad o d ((Ps.PO ts (o+1) (k+1)).bind fun x k'=>.ok (.mk 3 0 [] [x]) k')):=by
 have HP:=zH hP;have HK2:=zH hK2;have HK1:=zH hK1;have Hm:=zH hm;have hgw:=hP.lt;have Ho:=zH ho24;have HB:=zH hB;have hk1:k+1<ts.length:=Ps.next_in hlast hP.inT (zci hm);clear hP hK2 hK1 hm ho24 hlast hB;go_enter Tryz.func101,Tryz.ntmps101;go_wp2_with fail;refine(zaG _ g ts k bad 0 o d 2 2 rfl ((HP.out.alloc _).alloc _)).mono ?_;rw[HK2.out];rintro x w1 ⟨rfl,hb⟩;have hP1:=zH (((HP.out.alloc _).alloc _).later hb);obtain⟨hr0,hr1,-,hsz⟩:=zbS hb;have hN1:=zH (And.intro hr0 (And.intro hr1 hsz));have hG1:=zH (zbi (g:=g) hb);clear hr0 hr1 hsz hb;go_wp2_with fail;refine(zaG _ g ts k bad 0 o d 1 1 rfl hP1.out).mono ?_;rw[HK1.out];rintro x w2 ⟨rfl,hb2⟩;have hP2:=zH (hP1.out.later hb2);have hN2:=zH (zaa hgw hN1.out (za2 (g:=g) hb2));have hG2:=zH (za0 hG1.out (za2 (g:=g) hb2));clear hb2 hP1 hN1 hG1;go_wp2_with fail;refine(zaK _ g ts k bad 0 o d [45] hP2.out).mono ?_;rw[Hm.out];rintro x w3 ⟨rfl,hb3⟩;have hP3:=zH (hP2.out.later hb3);have hN3:=zH (zaa hgw hN2.out (za2 (g:=g) hb3));have hG3:=zH (za0 hG2.out (za2 (g:=g) hb3));clear hb3 hP2 hN2 hG2;obtain⟨hr0,hr1,hsz⟩:=hN3.out;obtain⟨p0,p1,p2,p3,g0,g1,g2,g3,hz1⟩:=blk4 hr1;have hn2:g≠w.heap.size+1:=Nat.ne_of_lt (Nat.lt_succ_of_lt hgw);have hX:=zeH hgw hN3.out hP3.out hG3.out (.int .i64 4);have hNX:=zH hX.1;have hPX:=zH hX.2.1;have hGX:=zH hX.2.2;clear hr0 hr1 hX hN3 hP3 hG3;go_wp2_with fail;refine(zaK _ g ts k bad 0 o d [45] hPX.out).mono ?_;rw[Hm.out];rintro x w4 ⟨rfl,hb4⟩;have hP4:=hPX.out.later hb4;have hN4:=zaa hgw hNX.out (za2 (g:=g) hb4);have hG4:=za0 hGX.out (za2 (g:=g) hb4);have hY:=zeH hgw hN4 hP4 hG4 (.int .i64 3);clear hb4 hNX hPX hGX p0 p1 p2 p3 g0 g1 g2 g3 hz1 hsz;obtain⟨p0,p1,p2,p3,g0,g1,g2,g3,hz1⟩:=blk4 hN4.2.1;have hNY:=zH hY.1;have hPY:=zH hY.2.1;have hGY:=zH hY.2.2;clear hY hN4 hP4 hG4;go_wp2_with fail;refine(zc7 _ g ts k bad 0 o d (by have:=Ho.out;omega) hPY.out).mono ?_;rintro x w6 ⟨rfl,hP6,hG6⟩;clear p0 p1 p2 p3 g0 g1 g2 g3 hz1;have hN6:=zH (zaa hgw hNY.out hG6);have hG6':=zH (za0 hGY.out hG6);have hP7:Rsr w6 g ts k bad 0 (o+1) d:=by
  have h24:¬o=24:=by have:=Ho.out;omega
  simpa[h24] using hP6
 clear hP6 hG6 hGY hPY hNY;obtain⟨b,c,hne,hbl,c0,c1,c2,c3,c4,fr,hkm,ho,a0,a1,a2,v,a3⟩:=hP7.cells;have fr1:=fr 1;have hP8:=hP7.at (k+1) hk1;rw[show (((k+1:Nat):Nat):Int)=(k:Int)+1 from rfl] at hP8;have HP8:=zH hP8;have HG8:=zH (za0 hG6'.out (zaE w6 g 1 (.int .i64 ((k:Int)+1))));have HN8:=zH (zaa hgw hN6.out (zaE w6 g 1 (.int .i64 ((k:Int)+1))));clear hP7 hP8 fr a0 a1 a2 a3 hN6 hG6' hbl c0 c2 c4;go_wp2_with fail;refine(HB.out _ HP8.out).mono ?_;rintro x w8 ⟨f,rfl,hG,hok,hbad⟩;unfold EF.val;obtain⟨hr0,hr1,hsz⟩:=zaa hgw HN8.out hG;have hst:=zfa hok hbad;obtain⟨m,a,e,hP9,hcase⟩:=hst;have HC:=zH hcase;have HS7:=zH HN8.out.2.2;have HGa:=zH (za0 HG8.out hG);obtain⟨b2,c2,hne2,-,-,-,-,-,d4,fr2,-,-,-,-,-,-⟩:=hP9.cells;have fr4:=fr2 4;have hn1:g≠w.heap.size:=Nat.ne_of_lt hgw;have hgl8:=hP9.lt;have hn3:g≠w.heap.size+1:=Nat.ne_of_lt (Nat.lt_succ_of_lt hgw);have HP9:=zH hP9;clear hG hok hbad hcase HP8 HN8 HG8 HB c1 c3 fr1 hP9 fr2;obtain⟨q0,q1,q2,q3,f0,f1,f2,f3,hz0⟩:=blk4 hr0;obtain⟨p0,p1,p2,p3,g0,g1,g2,g3,hz1⟩:=blk4 hr1;clear hr0 hr1;rw[show (((o+1:Nat):Nat):Int)=(o:Int)+1 from rfl] at d4;go_wp2_with fail;refine bodyPost_ret (v:=.agg #[.int .i64 3,.int .i64 0,.string ⟨#[]⟩,.slice (some ⟨w8.heap.size,0,none⟩) 1 1]) (by simp[results,Tryz.results101,go_sem,q0,q1,q2,q3,hz0]) rfl ?_;exact zgX 3 hgw HGa.out HS7.out hsz HC.out HP9.out (by have:=Ho.out;omega) _ _ _ _ _ _ _ _ 68 rfl rfl rfl rfl
set_option maxRecDepth 100000 in
set_option maxHeartbeats 4000000 in
theorem zfH (w:World) (g:Nat) (ts:List Tk.Tok) (k bad o d:Nat) (hP:Rsr w g ts k bad 0 o d) (hK2:zb2 ts k 0 2=false) (hK1:zb2 ts k 0 1=false)
  (hm:isB ts k 0 [45]=false) (hn:isB ts k 0 [33]=true) (ho24:o<24) (hlast:Ps.kindAt ts (ts.length-1)=5)
  (hB:∀w',Rsr w' g ts (k+1) bad 0 (o+1) d→Calls Tryz.prog 101 #[.pointer (some ⟨g,0,none⟩)] w' (zaI w' g ts bad (o+1) d (Ps.PO ts (o+1) (k+1)))) :
  Calls Tryz.prog 101 #[.pointer (some ⟨g,0,none⟩)] w (zaI w g ts bad o d ((Ps.PO ts (o+1) (k+1)).bind fun x k'=>.ok (.mk 4 0 [] [x]) k')):=by
 have HP:=zH hP;have HK2:=zH hK2;have HK1:=zH hK1;have Hm:=zH hm;have Hn:=zH hn;have hgw:=hP.lt;have Ho:=zH ho24;have HB:=zH hB;have hk1:k+1<ts.length:=Ps.next_in hlast hP.inT (zci hn);clear hP hK2 hK1 hm hn ho24 hlast hB;go_enter Tryz.func101,Tryz.ntmps101;go_wp2_with fail;refine(zaG _ g ts k bad 0 o d 2 2 rfl ((HP.out.alloc _).alloc _)).mono ?_;rw[HK2.out];rintro x w1 ⟨rfl,hb⟩;have hP1:=zH (((HP.out.alloc _).alloc _).later hb);obtain⟨hr0,hr1,-,hsz⟩:=zbS hb;have hN1:=zH (And.intro hr0 (And.intro hr1 hsz));have hG1:=zH (zbi (g:=g) hb);clear hr0 hr1 hsz hb;go_wp2_with fail;refine(zaG _ g ts k bad 0 o d 1 1 rfl hP1.out).mono ?_;rw[HK1.out];rintro x w2 ⟨rfl,hb2⟩;have hP2:=zH (hP1.out.later hb2);have hN2:=zH (zaa hgw hN1.out (za2 (g:=g) hb2));have hG2:=zH (za0 hG1.out (za2 (g:=g) hb2));clear hb2 hP1 hN1 hG1;go_wp2_with fail;refine(zaK _ g ts k bad 0 o d [45] hP2.out).mono ?_;rw[Hm.out];rintro x w3 ⟨rfl,hb3⟩;have hP3:=zH (hP2.out.later hb3);have hN3:=zH (zaa hgw hN2.out (za2 (g:=g) hb3));have hG3:=zH (za0 hG2.out (za2 (g:=g) hb3));clear hb3 hP2 hN2 hG2;go_wp2_with fail;refine(zaK _ g ts k bad 0 o d [33] hP3.out).mono ?_;rw[Hn.out];rintro x w4 ⟨rfl,hb4⟩;have hP4:=zH (hP3.out.later hb4);have hN4:=zH (zaa hgw hN3.out (za2 (g:=g) hb4));have hG4:=zH (za0 hG3.out (za2 (g:=g) hb4));clear hb4 hP3 hN3 hG3;obtain⟨hr0,hr1,hsz⟩:=hN4.out;obtain⟨p0,p1,p2,p3,g0,g1,g2,g3,hz1⟩:=blk4 hr1;have hn2:g≠w.heap.size+1:=Nat.ne_of_lt (Nat.lt_succ_of_lt hgw);have hX:=zeH hgw hN4.out hP4.out hG4.out (.int .i64 4);have hNX:=zH hX.1;have hPX:=zH hX.2.1;have hGX:=zH hX.2.2;clear hr0 hr1 hX hN4 hP4 hG4;go_wp2_with fail;refine(zaK _ g ts k bad 0 o d [45] hPX.out).mono ?_;rw[Hm.out];rintro x w5 ⟨rfl,hb5⟩;have hPY:=zH (hPX.out.later hb5);have hNY:=zH (zaa hgw hNX.out (za2 (g:=g) hb5));have hGY:=zH (za0 hGX.out (za2 (g:=g) hb5));clear hb5 hNX hPX hGX hsz;go_wp2_with fail;refine(zc7 _ g ts k bad 0 o d (by have:=Ho.out;omega) hPY.out).mono ?_;rintro x w6 ⟨rfl,hP6,hG6⟩;clear p0 p1 p2 p3 g0 g1 g2 g3 hz1;have hN6:=zH (zaa hgw hNY.out hG6);have hG6':=zH (za0 hGY.out hG6);have hP7:Rsr w6 g ts k bad 0 (o+1) d:=by
  have h24:¬o=24:=by have:=Ho.out;omega
  simpa[h24] using hP6
 clear hP6 hG6 hGY hPY hNY;obtain⟨b,c,hne,hbl,c0,c1,c2,c3,c4,fr,hkm,ho,a0,a1,a2,v,a3⟩:=hP7.cells;have fr1:=fr 1;have hP8:=hP7.at (k+1) hk1;rw[show (((k+1:Nat):Nat):Int)=(k:Int)+1 from rfl] at hP8;have HP8:=zH hP8;have HG8:=zH (za0 hG6'.out (zaE w6 g 1 (.int .i64 ((k:Int)+1))));have HN8:=zH (zaa hgw hN6.out (zaE w6 g 1 (.int .i64 ((k:Int)+1))));clear hP7 hP8 fr a0 a1 a2 a3 hN6 hG6' hbl c0 c2 c4;go_wp2_with fail;refine(HB.out _ HP8.out).mono ?_;rintro x w8 ⟨f,rfl,hG,hok,hbad⟩;unfold EF.val;obtain⟨hr0,hr1,hsz⟩:=zaa hgw HN8.out hG;have hst:=zfa hok hbad;obtain⟨m,a,e,hP9,hcase⟩:=hst;have HC:=zH hcase;have HS7:=zH HN8.out.2.2;have HGa:=zH (za0 HG8.out hG);obtain⟨b2,c2,hne2,-,-,-,-,-,d4,fr2,-,-,-,-,-,-⟩:=hP9.cells;have fr4:=fr2 4;have hn1:g≠w.heap.size:=Nat.ne_of_lt hgw;have hgl8:=hP9.lt;have hn3:g≠w.heap.size+1:=Nat.ne_of_lt (Nat.lt_succ_of_lt hgw);have HP9:=zH hP9;clear hG hok hbad hcase HP8 HN8 HG8 HB c1 c3 fr1 hP9 fr2;obtain⟨q0,q1,q2,q3,f0,f1,f2,f3,hz0⟩:=blk4 hr0;obtain⟨p0,p1,p2,p3,g0,g1,g2,g3,hz1⟩:=blk4 hr1;clear hr0 hr1;rw[show (((o+1:Nat):Nat):Int)=(o:Int)+1 from rfl] at d4;go_wp2_with fail;refine bodyPost_ret (v:=.agg #[.int .i64 4,.int .i64 0,.string ⟨#[]⟩,.slice (some ⟨w8.heap.size,0,none⟩) 1 1]) (by simp[results,Tryz.results101,go_sem,q0,q1,q2,q3,hz0]) rfl ?_;exact zgX 4 hgw HGa.out HS7.out hsz HC.out HP9.out (by have:=Ho.out;omega) _ _ _ _ _ _ _ _ 68 rfl rfl rfl rfl
theorem uop_eq (s:List UInt8):Ps.uop s=if s=[45] then 3 else if s=[33] then 4 else 0:=by
 have h:Ps.uop s=if [45]=s then 3 else if [33]=s then 4 else 0:=rfl;rw[h];by_cases h1:s=[45]
 ·
  rw[if_pos h1.symm,if_pos h1]
 ·
  rw[if_neg (fun h=>h1 h.symm),if_neg h1];by_cases h2:s=[33]
  ·
   rw[if_pos h2.symm,if_pos h2]
  ·
   rw[if_neg (fun h=>h2 h.symm),if_neg h2]
theorem zgn (w:World) (g:Nat) (ts:List Tk.Tok) (k bad o d:Nat) (hlast:Ps.kindAt ts (ts.length-1)=5) (hW:WOk ts) (ho:o≤24) (hP:Rsr w g ts k bad 0 o d)
  (hB:k+1<ts.length→o<24→∀w',Rsr w' g ts (k+1) bad 0 (o+1) d→Calls Tryz.prog 73 #[.pointer (some ⟨g,0,none⟩),.int .i64 0] w' (zaI w' g ts bad (o+1) d (Ps.PE ts 1 (o+1) (k+1))))
  (hO:k+1<ts.length→o<24→∀w',Rsr w' g ts (k+1) bad 0 (o+1) d→Calls Tryz.prog 101 #[.pointer (some ⟨g,0,none⟩)] w' (zaI w' g ts bad (o+1) d (Ps.PO ts (o+1) (k+1)))) :
  Calls Tryz.prog 101 #[.pointer (some ⟨g,0,none⟩)] w (zaI w g ts bad o d (Ps.PO ts o k)):=by
 have hk:=hP.inT;rw[Ps.PO_eq];by_cases h2:Ps.kindAt ts k=2
 ·
  rw[if_pos h2];exact zfG w g ts k bad o d hlast hP h2
 rw[if_neg h2];by_cases h1:Ps.kindAt ts k=1
 ·
  rw[if_pos h1];exact zf7 w g ts k bad o d hlast hP h1
 rw[if_neg h1];have hK2:zb2 ts k 0 2=false:=by simp[zb2,h2]
 have hK1:zb2 ts k 0 1=false:=by simp[zb2,h1]
 have i45:=zdz (s:=[45]) hk hW (by simp[Ps.sgTab]) (by simp);have i33:=zdz (s:=[33]) hk hW (by simp[Ps.sgTab]) (by simp);have i40:=zdz (s:=[40]) hk hW (by simp) (by simp);have hu:=uop_eq (Ps.sgn ts k);by_cases s45:Ps.sgn ts k=[45]
 ·
  rw[if_pos s45] at hu;have hm:isB ts k 0 [45]=true:=by rw[i45];exact decide_eq_true s45
  rw[if_neg (by rw[hu];intro h;exact absurd h.1 (by decide))];by_cases h24:o=24
  ·
   rw[if_pos h24];exact zf6 w g ts k bad o d hP hK2 hK1 hm h24
  ·
   rw[if_neg h24,if_neg (by rw[hu];decide),hu];exact zfI w g ts k bad o d hP hK2 hK1 hm (by omega) hlast (hO (Ps.next_in hlast hk (zci hm)) (by omega))
 rw[if_neg s45] at hu;have hm:isB ts k 0 [45]=false:=by rw[i45];exact decide_eq_false s45
 by_cases s33:Ps.sgn ts k=[33]
 ·
  rw[if_pos s33] at hu;have hn:isB ts k 0 [33]=true:=by rw[i33];exact decide_eq_true s33
  rw[if_neg (by rw[hu];intro h;exact absurd h.1 (by decide))];by_cases h24:o=24
  ·
   rw[if_pos h24];exact zf4 w g ts k bad o d hP hK2 hK1 hm hn h24
  ·
   rw[if_neg h24,if_neg (by rw[hu];decide),hu];exact zfH w g ts k bad o d hP hK2 hK1 hm hn (by omega) hlast (hO (Ps.next_in hlast hk (zci hn)) (by omega))
 rw[if_neg s33] at hu;have hn:isB ts k 0 [33]=false:=by rw[i33];exact decide_eq_false s33
 by_cases s40:Ps.sgn ts k=[40]
 ·
  have hp:isB ts k 0 [40]=true:=by rw[i40];exact decide_eq_true s40
  rw[if_neg (by intro h;exact absurd s40 h.2)];by_cases h24:o=24
  ·
   rw[if_pos h24];exact zf3 w g ts k bad o d hP hK2 hK1 hm hn hp h24
  ·
   rw[if_neg h24,if_pos hu];exact zfF w g ts k bad o d hP hK2 hK1 hm hn hp (by omega) hlast hW (hB (Ps.next_in hlast hk (zci hp)) (by omega))
 ·
  have hp:isB ts k 0 [40]=false:=by rw[i40];exact decide_eq_false s40
  rw[if_pos ⟨hu,s40⟩];exact zf5 w g ts k bad o d hP hK2 hK1 hm hn hp
theorem zix (s:List UInt8) (n op:Nat):Ps.opFind s n op=0∨Ps.sgTab.getD (Ps.opFind s n op) []=s:=by
 induction n generalizing op with
 | zero=>left;rfl
 | succ n ih =>
  unfold Ps.opFind;split
  ·
   right;assumption
  ·
   exact ih (op+1)
theorem lev_all:((List.range 18).all fun r=>(List.range 5).all fun L=>!(decide (5≤r)&&decide (Ps.strD ((r:Nat):Int)=L+1))||(sgS ((L:Nat):Int)).contains (Ps.sgTab.getD r []))=true:=by kernel_rfl
theorem lev_tab (r:Nat) (h:r<18) (h5:5≤r) (L:Nat) (hL:L<5) (hs:Ps.strD ((r:Nat):Int)=L+1):Ps.sgTab.getD r []∈sgS ((L:Nat):Int):=by
 have h1:=List.all_eq_true.1 (List.all_eq_true.1 lev_all r (List.mem_range.2 h)) L (List.mem_range.2 hL);rw[decide_eq_true h5,decide_eq_true hs] at h1;simpa using h1
theorem lev_sg (L i:Nat) (hL:L<5) (hi:i<(sgS (L:Int)).length):∃op:Nat,(sgO (L:Int))[i]?=some (op:Int)∧Ps.bop (sgS (L:Int))[i]=op∧Ps.strD (op:Int)=L+1∧(sgS (L:Int))[i]∈[40]::[41]::Ps.sgTab∧(sgS (L:Int))[i]≠[]:=by
 have hc:L=0∨L=1∨L=2∨L=3∨L=4:=by omega
 rcases hc with rfl|rfl|rfl|rfl|rfl
 ·
  have hi':i<1:=hi
  have:i=0:=by omega
  subst this;exact⟨17,rfl,rfl,by decide,(show ([124,124]:List UInt8)∈[40]::[41]::Ps.sgTab by decide),(show ([124,124]:List UInt8)≠[] by decide)⟩
 ·
  have hi':i<1:=hi
  have:i=0:=by omega
  subst this;exact⟨16,rfl,rfl,by decide,(show ([38,38]:List UInt8)∈[40]::[41]::Ps.sgTab by decide),(show ([38,38]:List UInt8)≠[] by decide)⟩
 ·
  have hi':i<6:=hi
  have:i=0∨i=1∨i=2∨i=3∨i=4∨i=5:=by omega
  rcases this with rfl|rfl|rfl|rfl|rfl|rfl
  ·
   exact⟨14,rfl,rfl,by decide,(show ([61,61]:List UInt8)∈[40]::[41]::Ps.sgTab by decide),(show ([61,61]:List UInt8)≠[] by decide)⟩
  ·
   exact⟨15,rfl,rfl,by decide,(show ([33,61]:List UInt8)∈[40]::[41]::Ps.sgTab by decide),(show ([33,61]:List UInt8)≠[] by decide)⟩
  ·
   exact⟨10,rfl,rfl,by decide,(show ([60]:List UInt8)∈[40]::[41]::Ps.sgTab by decide),(show ([60]:List UInt8)≠[] by decide)⟩
  ·
   exact⟨11,rfl,rfl,by decide,(show ([60,61]:List UInt8)∈[40]::[41]::Ps.sgTab by decide),(show ([60,61]:List UInt8)≠[] by decide)⟩
  ·
   exact⟨12,rfl,rfl,by decide,(show ([62]:List UInt8)∈[40]::[41]::Ps.sgTab by decide),(show ([62]:List UInt8)≠[] by decide)⟩
  ·
   exact⟨13,rfl,rfl,by decide,(show ([62,61]:List UInt8)∈[40]::[41]::Ps.sgTab by decide),(show ([62,61]:List UInt8)≠[] by decide)⟩
 ·
  have hi':i<2:=hi
  have:i=0∨i=1:=by omega
  rcases this with rfl|rfl
  ·
   exact⟨8,rfl,rfl,by decide,(show ([43]:List UInt8)∈[40]::[41]::Ps.sgTab by decide),(show ([43]:List UInt8)≠[] by decide)⟩
  ·
   exact⟨9,rfl,rfl,by decide,(show ([45]:List UInt8)∈[40]::[41]::Ps.sgTab by decide),(show ([45]:List UInt8)≠[] by decide)⟩
 ·
  have hi':i<3:=hi
  have:i=0∨i=1∨i=2:=by omega
  rcases this with rfl|rfl|rfl
  ·
   exact⟨5,rfl,rfl,by decide,(show ([42]:List UInt8)∈[40]::[41]::Ps.sgTab by decide),(show ([42]:List UInt8)≠[] by decide)⟩
  ·
   exact⟨6,rfl,rfl,by decide,(show ([47]:List UInt8)∈[40]::[41]::Ps.sgTab by decide),(show ([47]:List UInt8)≠[] by decide)⟩
  ·
   exact⟨7,rfl,rfl,by decide,(show ([37]:List UInt8)∈[40]::[41]::Ps.sgTab by decide),(show ([37]:List UInt8)≠[] by decide)⟩
theorem ziI (L:Int):(sgS L).length≤6∧(sgO L).length=(sgS L).length:=by
 unfold sgS sgO;split<;>simp
theorem lev_none (s:List UInt8) (L:Nat) (hL:L<5) (h:∀i (hi:i<(sgS (L:Int)).length),s≠(sgS (L:Int))[i]) (hlt:Ps.strD (Ps.bop s:Int)<L+2):Ps.strD (Ps.bop s:Int)<L+1:=by
 rcases Ps.opFind_le s 13 5 with h0|h0
 ·
  have:Ps.bop s=0:=h0;rw[this,show ((0:Nat):Int)=0 from rfl,Ps.strD_zero];omega
 ·
  rcases zix s 13 5 with h1|h1
  ·
   omega
  ·
   have hb:Ps.bop s=Ps.opFind s 13 5:=rfl;rw[←hb] at h0 h1;rcases Nat.lt_or_ge (Ps.strD (Ps.bop s:Int)) (L+1) with h2|h2
   ·
    exact h2
   ·
    have h3:=lev_tab (Ps.bop s) (by omega) (by omega) L hL (by omega);rw[h1] at h3;obtain⟨i,hi,e⟩:=List.mem_iff_getElem.1 h3;exact absurd e.symm (h i hi)
def zeW (w:World) (level:Int) (e:Ending) (w':World):Prop :=
 ∃b b',e=.returned (.tuple #[.slice (some ⟨b,0,none⟩) (sgS level).length (sgS level).length,.slice (some ⟨b',0,none⟩) (sgO level).length (sgO level).length])∧w.heap.size≤b∧w.heap.size≤b' ∧
  StrS w' (some ⟨b,0,none⟩) (sgS level)∧IntS w' (some ⟨b',0,none⟩) (sgO level)∧Below w.heap.size w w'
theorem zco (w:World) (level:Int) (s1 s2:List (List UInt8)) (o1 o2:List Int) (vs vo:Array Value) (t t':TypeId) (e1:sgS level=s1) (e2:sgO level=o1) (h1:vs=(s1.map fun s=>Value.string ⟨s.toArray⟩).toArray) (h2:vo=(o1.map fun s=>Value.int .i64 s).toArray) (hs:s2=s1) (ho:o2=o1) :
  zeW w level (.returned (.tuple #[.slice (some ⟨w.heap.size,0,none⟩) s2.length s2.length,.slice (some ⟨w.heap.size+1,0,none⟩) o2.length o2.length])) ((w.alloc (.cells vs t)).alloc (.cells vo t')):=by
 subst hs ho;refine⟨_,_,by rw[e1,e2],lR _,Nat.le_succ _,?_,?_,((Below.refl _ _).alloc (lR _) _).alloc (by simp) _⟩
 ·
  rw[e1];exact zcY _ _ _ h1 _ _
 ·
  rw[e2];exact zd4 _ _ _ h2 _ (by simp) _
set_option maxHeartbeats 1000000 in
theorem zfx (L:Nat) (hL:L<5) (w:World):Calls Tryz.prog 102 #[.int .i64 (L:Int)] w (zeW w (L:Int)):=by
 have hc:L=0∨L=1∨L=2∨L=3∨L=4:=by omega
 clear hL;rcases hc with rfl|rfl|rfl|rfl|rfl
 ·
  go_enter Tryz.func102,Tryz.ntmps102;go_wp2
  go_ret2
  exact zco w 0 [[124,124]] _ [17] _ _ _ _ _ rfl rfl rfl rfl rfl rfl
 ·
  go_enter Tryz.func102,Tryz.ntmps102;go_wp2
  go_ret2
  exact zco w 1 [[38,38]] _ [16] _ _ _ _ _ rfl rfl rfl rfl rfl rfl
 ·
  go_enter Tryz.func102,Tryz.ntmps102;go_wp2
  go_ret2
  exact zco w 2 [[61,61],[33,61],[60],[60,61],[62],[62,61]] _ [14,15,10,11,12,13] _ _ _ _ _ rfl rfl rfl rfl rfl rfl
 ·
  go_enter Tryz.func102,Tryz.ntmps102;go_wp2
  go_ret2
  exact zco w 3 [[43],[45]] _ [8,9] _ _ _ _ _ rfl rfl rfl rfl rfl rfl
 ·
  go_enter Tryz.func102,Tryz.ntmps102;go_wp2
  go_ret2
  exact zco w 4 [[42],[47],[37]] _ [5,6,7] _ _ _ _ _ rfl rfl rfl rfl rfl rfl
structure SgM (w wr:World) (g lb b b' L:Nat):Prop where
 hb:w.heap.size<b
 hb':w.heap.size<b'
 nb:b≠lb
 nb':b'≠lb
 str:StrS wr (some ⟨b,0,none⟩) (sgS (L:Int))
 int:IntS wr (some ⟨b',0,none⟩) (sgO (L:Int))
theorem SgM.keep {w wr W:World} {g lb b b' L:Nat} (h:SgM w wr g lb b b' L) (hg:g<w.heap.size) (hk:∀c,c<wr.heap.size→c≠g→c≠lb→W.heap[c]?=wr.heap[c]?):SgM w W g lb b b' L:=by
 have h1:=h.hb;have h2:=h.hb';refine⟨h.hb,h.hb',h.nb,h.nb',?_,?_⟩
 ·
  intro i hi;obtain⟨c,off,e,hc⟩:=h.str i hi;injection e with e;injection e with e1 e2;subst e1 e2;exact⟨b,0,rfl,(World.cell?_of_block (hk b (World.block_lt_of_cell? _ _ hc) (by omega) h.nb)).trans hc⟩
 ·
  intro i hi;obtain⟨c,off,e,hc⟩:=h.int i hi;injection e with e;injection e with e1 e2;subst e1 e2;exact⟨b',0,rfl,(World.cell?_of_block (hk b' (World.block_lt_of_cell? _ _ hc) (by omega) h.nb')).trans hc⟩
structure BnS (w:World) (g lb b b':Nat) (ts:List Tk.Tok) (L bad o d k:Nat) (R:Ps.R) (f:EF) (wr:World):Prop where
 sum:R.bind (fun x m=>Ps.PC ts (L+1) o x m)=Ps.PE ts (L+1) o k
 blk:Blk wr lb f
 blk0:Blk0 wr w.heap.size
 grown:w.grownBy wr (some g)
 sg:SgM w wr g lb b b' L
 ok:∀x m,R=.ok x m→ExM wr (LS w lb) x f∧Rsr wr g ts m bad 0 o d∧Ps.strD (Ps.bop (Ps.sgn ts m):Int)<L+2∧k<m
 no:∀a e0,R=.bad a e0→e0≠0∧∃m,Rsr wr g ts m a e0 o d
theorem BnS.later {w wr W:World} {g lb b b':Nat} {ts:List Tk.Tok} {L bad o d k:Nat} {R:Ps.R} {f:EF} (h:BnS w g lb b b' ts L bad o d k R f wr) (hg:g<w.heap.size) (hlb:w.heap.size<lb) (hG:wr.grownBy W (some g))
  (hok:∀x m,R=.ok x m→Rsr W g ts m bad 0 o d) (hno:∀a e0 m,R=.bad a e0→Rsr wr g ts m a e0 o d→Rsr W g ts m a e0 o d):BnS w g lb b b' ts L bad o d k R f W:=by
 have hk:∀c,c<wr.heap.size→c≠g→W.heap[c]?=wr.heap[c]?:=fun c hc hne=>hG.block c hc (fun e=>hne (by injection e));have hl:=lt_of_block h.blk;have hz:=lt_of_block h.blk0;refine⟨h.sum,(hk lb hl (by omega)).trans h.blk,(hk _ hz (by omega)).trans h.blk0,za0 h.grown hG,h.sg.keep hg (fun c hc hne _=>hk c hc hne),?_,?_⟩
 ·
  intro x m hR;obtain⟨h1,h2,h3⟩:=h.ok x m hR;exact⟨h1.keep fun c hc hlt=>hk c hlt (by have:=hc.1;omega),hok x m hR,h3⟩
 ·
  intro a e0 hR;obtain⟨h1,m,h2⟩:=h.no a e0 hR;exact⟨h1,m,hno a e0 m hR h2⟩
set_option maxHeartbeats 2000000 in
theorem bn_round {w wr w2 w4:World} {g lb b b' m k:Nat} {ts:List Tk.Tok} {L bad o d:Nat} {x:Ex} {f fr:EF} {R4:Ps.R} {op:Nat} (hg:g<w.heap.size) (hlb:w.heap.size<lb)
  (h:BnS w g lb b b' ts L bad o d k (.ok x m) f wr) (h2:wr.grownBy w2 (some g)) (hG:w2.grownBy w4 (some g))
  (hok:∀y a,R4=.ok y a→ExM w4 (w2.heap.size≤·) y fr∧Rsr w4 g ts a bad 0 o d) (hno:∀a e0,R4=.bad a e0→e0≠0∧∃m,Rsr w4 g ts m a e0 o d)
  (hF:Ps.PC ts (L+1) o x m=R4.bind fun r k'=>Ps.PC ts (L+1) o (.mk op 0 [] [x,r]) k') (hend:∀y a,R4=.ok y a→Ps.strD (Ps.bop (Ps.sgn ts a):Int)<L+2∧k<a)
  (W:World) (hWd:W=(set4 w4 lb (.int .i64 (op:Int)) (.int .i64 0) (.string ⟨#[]⟩) (.slice (some ⟨w4.heap.size,0,none⟩) 2 2)).alloc (.cells #[.int .i64 f.op,.int .i64 f.num,.string ⟨f.name.toArray⟩,.slice f.A f.n f.c,.int .i64 fr.op,.int .i64 fr.num,.string ⟨fr.name.toArray⟩,.slice fr.A fr.n fr.c] 68)) :
  BnS w g lb b b' ts L bad o d k (R4.bind fun r k'=>.ok (.mk op 0 [] [x,r]) k') ⟨op,0,[],some ⟨w4.heap.size,0,none⟩,2,2⟩ W:=by
 obtain⟨hx,hP,_⟩:=h.ok x m rfl;have hlw:lb<wr.heap.size:=lt_of_block h.blk;have hzw:w.heap.size<wr.heap.size:=lt_of_block h.blk0;have hs2:=h2.size;have hs4:=hG.size;generalize hA:set4 w4 lb (.int .i64 (op:Int)) (.int .i64 0) (.string ⟨#[]⟩) (.slice (some ⟨w4.heap.size,0,none⟩) 2 2)=A at hWd;have hsz:A.heap.size=w4.heap.size:=by rw[←hA,zaj]
 have hAk:∀c,c≠lb→A.heap[c]?=w4.heap[c]?:=by
  intro c hc;rw[←hA,zai _ lb _ _ _ _ c hc]
 have h4r:∀c,c<wr.heap.size→c≠g→w4.heap[c]?=wr.heap[c]?:=fun c hc hne =>
  (hG.block c (by omega) (fun e=>hne (by injection e))).trans (h2.block c hc (fun e=>hne (by injection e)))
 have hAl:Blk A lb ⟨op,0,[],some ⟨w4.heap.size,0,none⟩,2,2⟩:=by
  have h4:w4.heap[lb]?=some (.cells #[.int .i64 f.op,.int .i64 f.num,.string ⟨f.name.toArray⟩,.slice f.A f.n f.c] 68 (0,0)):=(h4r lb hlw (by omega)).trans h.blk;rw[←hA];exact zgj h4 _ _ _ _
 have hAo:A.os=w4.os∧A.tape=w4.tape∧A.output=w4.output:=by rw[←hA];exact zdw w4 lb _ _ _ _
 clear hA;have hW:∀c,c<w4.heap.size→c≠lb→W.heap[c]?=w4.heap[c]?:=by
  intro c hc h1;rw[hWd,Below.heap_alloc _ _ c (by rw[hsz];exact hc),hAk c h1]
 have hWs:W.heap.size=w4.heap.size+1:=by rw[hWd];simp[hsz]
 have e:∀o',W.cell? ⟨w4.heap.size,o',none⟩=[Value.int .i64 f.op,.int .i64 f.num,.string ⟨f.name.toArray⟩,.slice f.A f.n f.c,.int .i64 fr.op,.int .i64 fr.num,.string ⟨fr.name.toArray⟩,.slice fr.A fr.n fr.c][o']?:=by
  intro o';rw[hWd,←hsz,World.cell?_alloc_mark];simp
 have hWl:W.heap[lb]?=A.heap[lb]?:=by rw[hWd,Below.heap_alloc _ _ lb (by rw[hsz];omega)]
 have hWo:W.os=w4.os∧W.tape=w4.tape∧W.output=w4.output:=by rw[hWd];exact hAo
 clear hWd;have hR:∀ {a q e0:Nat},Rsr w4 g ts a q e0 o d→Rsr W g ts a q e0 o d:=fun hP=>hP.keep fun c hc=>hW c (by have:=hP.lt;omega) (by omega);refine⟨?_,hWl.trans hAl,(hW _ (by omega) (by omega)).trans ((h4r _ hzw (by omega)).trans h.blk0),?_,?_,?_,?_⟩
 ·
  rw[Ps.bind_assoc,←h.sum];exact hF.symm
 ·
  refine⟨(hWo.1.trans hG.os).trans (h2.os.trans h.grown.os),(hWo.2.1.trans hG.tape).trans (h2.tape.trans h.grown.tape),(hWo.2.2.trans hG.output).trans (h2.output.trans h.grown.output),by omega,fun c hc hne=>?_⟩;exact(hW c (by omega) (by omega)).trans ((h4r c (by omega) (fun e=>hne (by rw[e]))).trans (h.grown.block c hc hne))
 ·
  exact h.sg.keep hg fun c hc hne hnl=>(hW c (by omega) hnl).trans (h4r c hc hne)
 ·
  intro y a hR4;cases R4 with
  | bad a' e'=>cases hR4
  | ok z a' =>
   injection hR4 with i1 i2;subst i1 i2;obtain⟨hy,hP4⟩:=hok z a' rfl;refine⟨?_,hR hP4,hend z a' rfl⟩;refine ExM.two _ _ _ w4.heap.size 0 2 ⟨by omega,by omega⟩ ⟨(e 0).trans rfl,(e 1).trans rfl,(e 2).trans rfl,(e 3).trans rfl⟩ ⟨(e 4).trans rfl,(e 5).trans rfl,(e 6).trans rfl,(e 7).trans rfl⟩ ?_ ?_
   ·
    exact hx.keep fun c hc hlt=>(hW c (by omega) hc.2).trans (h4r c hlt (by have:=hc.1;omega))
   ·
    exact(hy.keep fun c hc hlt=>hW c hlt (by omega)).more fun c hc=>⟨by omega,by omega⟩
 ·
  intro a e0 hR4;cases R4 with
  | bad a' e' =>
   injection hR4 with i1 i2;subst i1 i2;obtain⟨h1,m',hP4⟩:=hno a' e' rfl;exact⟨h1,m',hR hP4⟩
  | ok z a'=>cases hR4
theorem bn_start {w w1 w2:World} {g b b' k:Nat} {ts:List Tk.Tok} {L bad o d:Nat} {f:EF} {Z:Array Value} (hg:g<w.heap.size) (hZ:Z=#[.int .i64 0,.int .i64 0,.string ⟨#[]⟩,.slice none 0 0])
  (hG:(w.alloc (.cells Z 68)).grownBy w1 (some g)) (hok:∀x m,Ps.PE ts (L+2) o k=.ok x m→ExM w1 ((w.alloc (.cells Z 68)).heap.size≤·) x f∧Rsr w1 g ts m bad 0 o d) (hno:∀a e0,Ps.PE ts (L+2) o k=.bad a e0→e0≠0∧∃m,Rsr w1 g ts m a e0 o d)
  (W1:World) (hW1:W1=w1.alloc (.cells #[.int .i64 f.op,.int .i64 f.num,.string ⟨f.name.toArray⟩,.slice f.A f.n f.c] 68)) (hb:W1.heap.size≤b) (hb':W1.heap.size≤b') (hS:StrS w2 (some ⟨b,0,none⟩) (sgS (L:Int))) (hI:IntS w2 (some ⟨b',0,none⟩) (sgO (L:Int))) (hB:Below W1.heap.size W1 w2) :
  BnS w g w1.heap.size b b' ts L bad o d k (Ps.PE ts (L+2) o k) f w2:=by
 subst hZ;have hs1:W1.heap.size=w1.heap.size+1:=by rw[hW1];simp
 have hs0:w.heap.size<w1.heap.size:=by have:=hG.size;simp at this;omega
 have hk:∀c,c<w1.heap.size→w2.heap[c]?=w1.heap[c]?:=fun c hc=>(hB.block c (by omega)).trans (by rw[hW1];exact Below.heap_alloc w1 _ c hc);have hR:∀ {a q e0:Nat},Rsr w1 g ts a q e0 o d→Rsr w2 g ts a q e0 o d:=fun hP=>hP.keep fun c hc=>hk c (by omega);have hGw:=za6 hG;have hBo:w2.os=w1.os∧w2.tape=w1.tape∧w2.output=w1.output:=by
  have h1:W1.os=w1.os∧W1.tape=w1.tape∧W1.output=w1.output:=by rw[hW1];exact⟨rfl,rfl,rfl⟩
  exact⟨hB.os.trans h1.1,hB.tape.trans h1.2.1,hB.output.trans h1.2.2⟩
 have hs2:=hB.size;refine⟨(Ps.PE_split ts (L+1) o k (by omega)).symm,?_,?_,?_,⟨by omega,by omega,by omega,by omega,hS,hI⟩,?_,?_⟩
 ·
  exact(hB.block _ (by omega)).trans (by rw[hW1];exact heap_alloc_new w1 _)
 ·
  exact(hk _ hs0).trans ((hG.block _ (by simp) (fun e=>by injection e with e;omega)).trans (heap_alloc_new w _))
 ·
  exact⟨hBo.1.trans hGw.os,hBo.2.1.trans hGw.tape,hBo.2.2.trans hGw.output,by omega,fun c hc hne=>(hk c (by omega)).trans (hGw.block c hc hne)⟩
 ·
  intro x m hx;obtain⟨hE,hP⟩:=hok x m hx;exact⟨(hE.inside.keep fun c hc hlt=>hk c hlt).more fun c hc=>⟨by have:=hc.1;simp at this;omega,by have:=hc.2;omega⟩,hR hP,Ps.PE_ends (by omega) hx,Ps.PE_moves hx⟩
 ·
  intro a e0 hx;obtain⟨h1,m,hP⟩:=hno a e0 hx;exact⟨h1,m,hR hP⟩
theorem bn_end {w wr:World} {g lb b b' k:Nat} {ts:List Tk.Tok} {L bad o d:Nat} {f:EF} {R:Ps.R} (hg:g<w.heap.size) (h:BnS w g lb b b' ts L bad o d k R f wr) (hdone:∀x m,R=.ok x m→Ps.PC ts (L+1) o x m=.ok x m)
  (u0 u1 u2 u3:Value) (C:World) (hC:C=set4 wr w.heap.size u0 u1 u2 u3):zaI w g ts bad o d (Ps.PE ts (L+1) o k) (.returned f.val) C:=by
 have hsum:=h.sum;have sC:C.heap.size=wr.heap.size:=by rw[hC];exact zaj _ _ _ _ _ _
 have mC:C.os=wr.os∧C.tape=wr.tape∧C.output=wr.output:=by rw[hC];exact zbb _ _ _ _ _ _
 have kC:∀c,c≠w.heap.size→C.heap[c]?=wr.heap[c]?:=fun c hne=>by rw[hC];exact zai wr _ _ _ _ _ c hne
 have hG:=h.grown;have hR:∀ {a q e0:Nat},Rsr wr g ts a q e0 o d→Rsr C g ts a q e0 o d:=fun hP=>hP.keep fun c hc=>kC c (by omega);refine⟨f,rfl,⟨mC.1.trans hG.os,mC.2.1.trans hG.tape,mC.2.2.trans hG.output,by rw[sC];exact hG.size,fun c hlt hne=>(kC c (Nat.ne_of_lt hlt)).trans (hG.block c hlt hne)⟩,?_,?_⟩
 ·
  intro y a hy;rw[←hsum] at hy;cases R with
  | bad a' e'=>cases hy
  | ok x m =>
   obtain⟨hx,hP,_⟩:=h.ok x m rfl;have h1:Ps.PC ts (L+1) o x m=.ok y a:=hy;rw[hdone x m rfl] at h1;injection h1 with i1 i2;subst i1 i2;exact⟨(hx.keep fun c hc hlt=>kC c (by have:=hc.1;omega)).more fun c hc=>by have:=hc.1;omega,hR hP⟩
 ·
  intro a e0 hy;rw[←hsum] at hy;cases R with
  | bad a' e' =>
   injection hy with i1 i2;subst i1 i2;obtain⟨h1,m,hP⟩:=h.no a' e' rfl;exact⟨h1,m,hR hP⟩
  | ok x m =>
   have h1:Ps.PC ts (L+1) o x m=.bad a e0:=hy;rw[hdone x m rfl] at h1;cases h1
def agOf (v:Value):Bool:=match v with
 | .bool b=>b
 | _=>false
def zig (w:World) (g:Nat):Nat:=match w.cell? ⟨g,3,none⟩ with
 | some (.int _ n)=>n.toNat
 | _=>0
theorem Rsr.atOf {w:World} {g:Nat} {ts:List Tk.Tok} {k bad e o d:Nat} (h:Rsr w g ts k bad e o d):atOf w g=k:=by
 obtain⟨b,c,-,-,-,q1,-⟩:=h.cells;unfold Go.Proofs.YtlnbmmgbfgmboaaGreatDoor.atOf;rw[q1];simp
theorem Rsr.errOf {w:World} {g:Nat} {ts:List Tk.Tok} {k bad e o d:Nat} (h:Rsr w g ts k bad e o d):zig w g=e:=by
 obtain⟨b,c,-,-,-,-,-,q3,-⟩:=h.cells;unfold zig;rw[q3];simp
def zf9 (ts:List Tk.Tok) (g:Nat) (w:World):Nat:=if zig w g=0 then ts.length-atOf w g+2 else 1
theorem zgW {ts:List Tk.Tok} {g:Nat} {w:World} {k bad o d:Nat} (h:Rsr w g ts k bad 0 o d):zf9 ts g w=ts.length-k+2:=by
 unfold zf9;rw[h.errOf,h.atOf,if_pos rfl]
theorem zid {ts:List Tk.Tok} {g:Nat} {w:World} {k bad e o d:Nat} (h:Rsr w g ts k bad e o d) (he:e≠0):zf9 ts g w=1:=by
 unfold zf9;rw[h.errOf,if_neg he]
theorem zic (ts:List Tk.Tok) (g:Nat) (w:World):1≤zf9 ts g w:=by
 unfold zf9;split<;>omega
def BnOut (w:World) (g lb b b':Nat) (ts:List Tk.Tok) (L bad o d k:Nat) (ag:Value) (wr:World):Prop :=
 ∃(A:Bool) (R:Ps.R) (f:EF),ag=.bool A∧BnS w g lb b b' ts L bad o d k R f wr∧(A=false→∀x m,R=.ok x m→Ps.PC ts (L+1) o x m=.ok x m)
def BnIn (w:World) (g lb b b':Nat) (ts:List Tk.Tok) (L bad o d k:Nat) (R:Ps.R) (M0:Nat) (ag i:Value) (wr:World):Prop :=
 ∃(A:Bool) (j:Nat) (R':Ps.R) (f:EF),ag=.bool A∧i=.int .i64 (j:Int)∧j≤(sgS (L:Int)).length∧BnS w g lb b b' ts L bad o d k R' f wr ∧
  (A=false→R'=R∧∀x m,R=.ok x m→∀q (hq:q<(sgS (L:Int)).length),q<j→Ps.sgn ts m≠(sgS (L:Int))[q])∧(A=true→zf9 ts g wr<M0)
theorem BnS.here {w wr:World} {g lb b b':Nat} {ts:List Tk.Tok} {L bad o d k:Nat} {R:Ps.R} {f:EF} (h:BnS w g lb b b' ts L bad o d k R f wr) :
  ∃m a e,Rsr wr g ts m a e o d∧((∃x,R=.ok x m∧a=bad∧e=0)∨(R=.bad a e∧e≠0)):=by
 cases R with
 | ok x m=>exact⟨m,bad,0,(h.ok x m rfl).2.1,.inl ⟨x,rfl,rfl,rfl⟩⟩
 | bad a e =>
  obtain⟨h1,m,h2⟩:=h.no a e rfl;exact⟨m,a,e,h2,.inr ⟨rfl,h1⟩⟩
theorem isB_e {ts:List Tk.Tok} {k e:Nat} {s:List UInt8} (h:isB ts k e s=true):e=0:=by
 unfold isB at h;simp at h;exact h.1
theorem bn_skip {w wr w2:World} {g lb b b' m a e:Nat} {ts:List Tk.Tok} {L bad o d k:Nat} {R:Ps.R} {f:EF} {s:List UInt8} (hg:g<w.heap.size) (hlb:w.heap.size<lb) (h:BnS w g lb b b' ts L bad o d k R f wr) (hP:Rsr wr g ts m a e o d)
  (hc:(∃x,R=.ok x m∧a=bad∧e=0)∨(R=.bad a e∧e≠0)) (hF:isB ts m e s=false) (hP2:Rsr w2 g ts (zda ts m e s) a e o d) (hG:wr.grownBy w2 (some g)):BnS w g lb b b' ts L bad o d k R f w2:=by
 rw[zdu hF] at hP2;refine h.later hg hlb hG ?_ ?_
 ·
  intro x m' hR;rcases hc with⟨x',h1,rfl,rfl⟩|⟨h1,_⟩
  ·
   rw[hR] at h1;injection h1 with _ h1;subst h1;exact hP2
  ·
   rw[hR] at h1;cases h1
 ·
  intro a' e0 m' hR hP';rcases hc with⟨x',h1,rfl,rfl⟩|⟨h1,_⟩
  ·
   rw[hR] at h1;cases h1
  ·
   rw[hR] at h1;injection h1 with h1 h2;subst h1 h2;have e1:=hP'.atOf;have e2:=hP.atOf
   have:m'=m:=by omega
   subst this;exact hP2
theorem bn_done {ts:List Tk.Tok} {L o m:Nat} {x:Ex} (hL:L<5) (hn:∀q (hq:q<(sgS (L:Int)).length),Ps.sgn ts m≠(sgS (L:Int))[q]) (hs:Ps.strD (Ps.bop (Ps.sgn ts m):Int)<L+2):Ps.PC ts (L+1) o x m=.ok x m :=
 Ps.PC_stop ts (L+1) o x m (lev_none _ L hL hn hs)
theorem bn_next {w wr w3 w4:World} {g lb b b' m k j:Nat} {ts:List Tk.Tok} {L bad o d M0 op:Nat} {x:Ex} {f fr:EF} (hg:g<w.heap.size) (hlb:w.heap.size<lb) (hj:j<(sgS (L:Int)).length) (hm:m<ts.length) (hkm:k<m+1)
  (h:BnS w g lb b b' ts L bad o d k (.ok x m) f wr) (h2:wr.grownBy w3 (some g)) (hG:w3.drew.grownBy w4 (some g))
  (hok:∀y a,Ps.PE ts (L+2) o (m+1)=.ok y a→ExM w4 (w3.drew.heap.size≤·) y fr∧Rsr w4 g ts a bad 0 o d) (hno:∀a e0,Ps.PE ts (L+2) o (m+1)=.bad a e0→e0≠0∧∃m,Rsr w4 g ts m a e0 o d)
  (hF:Ps.PC ts (L+1) o x m=(Ps.PE ts (L+2) o (m+1)).bind fun r k'=>Ps.PC ts (L+1) o (.mk op 0 [] [x,r]) k') (hM:∀x' m',Ps.R.ok x m=.ok x' m'→M0=ts.length-m'+2)
  (W:World) (hWd:W=(set4 w4 lb (.int .i64 (op:Int)) (.int .i64 0) (.string ⟨#[]⟩) (.slice (some ⟨w4.heap.size,0,none⟩) 2 2)).alloc (.cells #[.int .i64 f.op,.int .i64 f.num,.string ⟨f.name.toArray⟩,.slice f.A f.n f.c,.int .i64 fr.op,.int .i64 fr.num,.string ⟨fr.name.toArray⟩,.slice fr.A fr.n fr.c] 68)) :
  BnIn w g lb b b' ts L bad o d k (.ok x m) M0 (.bool true) (.int .i64 ((j:Int)+1)) W:=by
 have hS:=bn_round (op:=op) hg hlb h (za0 h2 (za2 (Below.refl _ _).drew)) hG hok hno hF (fun y a hy=>⟨Ps.PE_ends (by omega) hy,by have:=Ps.PE_moves hy;omega⟩) W hWd;clear hWd;refine⟨true,j+1,_,_,rfl,rfl,hj,hS,fun h=>(by cases h),fun _=>?_⟩;rw[hM x m rfl];cases hR:Ps.PE ts (L+2) o (m+1) with
 | ok y a =>
  have hP:=(hS.ok (.mk op 0 [] [x,y]) a (by rw[hR];rfl)).2.1;have h1:=Ps.PE_moves hR;have h3:=hP.inT;rw[zgW hP];omega
 | bad a e0 =>
  obtain⟨h1,m',hP⟩:=hS.no a e0 (by rw[hR];rfl);rw[zid hP h1];omega
set_option maxRecDepth 100000 in
set_option maxHeartbeats 8000000 in
theorem zht (w:World) (g:Nat) (ts:List Tk.Tok) (L k bad o d:Nat) (hlast:Ps.kindAt ts (ts.length-1)=5) (hW:WOk ts) (hL:L<5) (hP:Rsr w g ts k bad 0 o d)
  (hB:∀w',Rsr w' g ts k bad 0 o d→Calls Tryz.prog 73 #[.pointer (some ⟨g,0,none⟩),.int .i64 ((L:Int)+1)] w' (zaI w' g ts bad o d (Ps.PE ts (L+2) o k)))
  (hN:∀k',k<k'→k'<ts.length→∀w',Rsr w' g ts k' bad 0 o d→Calls Tryz.prog 73 #[.pointer (some ⟨g,0,none⟩),.int .i64 ((L:Int)+1)] w' (zaI w' g ts bad o d (Ps.PE ts (L+2) o k'))) :
  Calls Tryz.prog 73 #[.pointer (some ⟨g,0,none⟩),.int .i64 (L:Int)] w (zaI w g ts bad o d (Ps.PE ts (L+1) o k)):=by
 have HP:=zH (hP.alloc (.cells #[.int .i64 0,.int .i64 0,.string ⟨#[]⟩,.slice none 0 0] 68));have hgw:=hP.lt;have hmx:ts.length≤1000000:=by obtain⟨A,c,hb,hl,ho,hn,_⟩:=hP;exact hn
 have HB:=zH hB;have HN:=zH hN;have HL:=zH hlast;have HW:=zH hW;have d4:decide ((L:Int)>4)=false:=decide_eq_false (by omega);clear hP hB hN hlast hW;go_enter Tryz.func73,Tryz.ntmps73;go_wp2_with fail;refine(HB.out _ HP.out).mono ?_;rintro e w1 ⟨f,rfl,hG1,hok1,hno1⟩;unfold EF.val;have hlbw:w.heap.size<w1.heap.size:=by have:=hG1.size;simp at this;omega
 have HG1:=zH hG1;have HOK1:=zH hok1;have HNO1:=zH hno1;clear hG1 hok1 hno1;go_wp2_with fail;refine(zfx L hL _).mono ?_;rintro e w2 ⟨b,b',rfl,hbb,hbb',hS,hI,hb2⟩;have HR0:Hid (BnS w g w1.heap.size b b' ts L bad o d k (Ps.PE ts (L+2) o k) f w2):=bn_start hgw rfl HG1.out HOK1.out HNO1.out _ rfl hbb hbb' hS hI hb2;have hlen:=ziI (L:Int);clear HG1 HOK1 HNO1 hS hI hb2 hbb hbb' HP HB d4;generalize hlbd:w1.heap.size=lb at *;clear hlbd;rw[hlen.2];have HLN:Hid ((sgO (L:Int)).length=(sgS (L:Int)).length):=hlen.2;have hl6:=hlen.1;clear hlen;obtain⟨n,hn⟩:∃n,n=(sgS (L:Int)).length:=⟨_,rfl⟩;rw[←hn] at hl6 ⊢;have HNN:=zH hn;clear hn;go_wp2_with fail
 go_loopw [8,9] (fun ag _ wr=>Hid (BnOut w g lb b b' ts L bad o d k ag wr)) (fun ag _ wr=>if agOf ag then zf9 ts g wr else 0)
 case atStart=>exact⟨true,_,_,rfl,HR0.out,fun h=>by cases h⟩
 case round =>
  obtain⟨A,R,f',rfl,hSt,hdone⟩:=hrel.out;clear hrel HR0;cases A with
  | false =>
   have hbk:=hSt.blk;obtain⟨l0,l1,l2,l3,-,-,-,-,hll⟩:=blk4 hbk;obtain⟨r0,r1,r2,r3,z0,z1,z2,z3,hrl⟩:=blk4 hSt.blk0;have HSt:=zH hSt;have HD:=zH (hdone rfl);have hn2:lb≠w.heap.size:=by omega
   clear hSt hdone hbk;go_wp2_with fail;refine bodyPost_ret (v:=f'.val) (by simp[EF.val,results,Tryz.results73,go_sem,r0,r1,r2,r3]) rfl ?_;exact bn_end hgw HSt.out HD.out _ _ _ _ _ rfl
  | true =>
   clear hdone;have HSt:=zH hSt;obtain⟨M0,hM0⟩:∃M0,M0=zf9 ts g wr:=⟨_,rfl⟩;have HM1:Hid (1≤M0):=by rw[hM0];exact zic ts g wr
   have HMK:Hid (∀x m,R=.ok x m→M0=ts.length-m+2):=fun x m h=>by rw[hM0];exact zgW (hSt.ok x m h).2.1
   have HMM:=zH hM0;clear hSt hM0;have hwr0:w.heap.size<wr.heap.size:=lt_of_block HSt.out.blk0;go_wp2_with fail
   go_loopw [8,9] (fun ag i wr=>Hid (BnIn w g lb b b' ts L bad o d k R M0 ag i wr)) (fun ag i _=>if agOf ag then 0 else n+1-(intOf i).toNat)
   case atStart=>exact⟨false,0,R,f',rfl,rfl,Nat.zero_le _,HSt.out,fun _=>⟨rfl,fun _ _ _ q _ h=>absurd h (by omega)⟩,fun h=>by cases h⟩
   case round =>
    obtain⟨A,j,R',f2,rfl,rfl,hj,hSi,hFa,hTr⟩:=hrel.out;clear hrel;rw[←HNN.out] at hj;cases A with
    | true =>
     have HSi:=zH hSi;have HTr:=zH (hTr rfl);clear hSi hTr hFa;by_cases hlt:j<n
     ·
      have dj:decide ((j:Int)<(n:Int))=true:=decide_eq_true (by omega);go_wp2_with fail;go_roundw
      case rel=>exact⟨true,R',f2,rfl,HSi.out,fun h=>by cases h⟩
      case measure =>
       have h1:=HTr.out;have h2:=HMM.out;simp only[agOf,if_true];omega
     ·
      have dj:decide ((j:Int)<(n:Int))=false:=decide_eq_false (by omega);go_wp2_with fail;go_roundw
      case rel=>exact⟨true,R',f2,rfl,HSi.out,fun h=>by cases h⟩
      case measure =>
       have h1:=HTr.out;have h2:=HMM.out;simp only[agOf,if_true];omega
    | false =>
     obtain⟨hRR,hno⟩:=hFa rfl;subst hRR;clear hTr hFa;have HNO:=zH hno;clear hno;by_cases hlt:j<n
     ·
      have dj:decide ((j:Int)<(n:Int))=true:=decide_eq_true (by omega);obtain⟨m,a,e,hPm,hcase⟩:=hSi.here;have hjs:j<(sgS (L:Int)).length:=by rw[←HNN.out];exact hlt
      obtain⟨bs,off,hA,hcell⟩:=hSi.sg.str j hjs;injection hA with hA;injection hA with e1 e2;subst e1 e2;rw[Nat.zero_add] at hcell;obtain⟨op,hop,hbop,hstr,hmem,hne⟩:=lev_sg L j hL hjs;obtain⟨sj,hsj⟩:∃sj,sj=(sgS (L:Int))[j]:=⟨_,rfl⟩;rw[←hsj] at hcell hbop hmem hne;have HSJ:=zH hsj;have HPm:=zH hPm;have HCA:=zH hcase;have HSi:=zH hSi;have HOP:=zH hop;have HBO:=zH hbop;have HST:=zH hstr;have HME:=zH hmem;have HNE:=zH hne;have i0:(0:Int)≤(j:Int):=by omega
      have i1:(j:Int)<(n:Int):=by omega
      clear hPm hcase hSi hop hbop hstr hmem hne hsj;go_wp2_with fail;refine(zcS wr g ts m a e o d sj HL.out HPm.out).mono ?_;rintro x w3 ⟨rfl,hP3,hG3⟩;have HP3:=zH hP3;have HG3:=zH hG3;clear hP3 hG3 hcell;by_cases hI:isB ts m e sj=true
      ·
       have he0:=isB_e hI;subst he0;have hk1:m+1<ts.length:=Ps.next_in HL.out HPm.out.inT (zci hI);have hP4:=HP3.out;rw[zgg hI] at hP4;have hsg:Ps.sgn ts m=sj:=by
        have h2:=hI;rw[zdz HPm.out.inT HW.out HME.out HNE.out] at h2;simpa using h2
       obtain⟨x,hRx,hax⟩:∃x,R'=.ok x m∧a=bad:=by
        rcases HCA.out with⟨x,h1,h2,_⟩|⟨_,h1⟩
        ·
         exact⟨x,h1,h2⟩
        ·
         exact absurd rfl h1
       subst hRx hax;have hmk:k<m+1:=by have:=(HSi.out.ok x m rfl).2.2.2;omega
       have hblk:Blk w3 lb f2:=(HG3.out.block lb (lt_of_block HSi.out.blk) (fun h=>by injection h with h;omega)).trans HSi.out.blk;obtain⟨l0,l1,l2,l3,y0,y1,y2,y3,hll⟩:=blk4 hblk;have hjo:j<(sgO (L:Int)).length:=by rw[HLN.out];rw[←HNN.out];exact hlt
       obtain⟨bo,offo,hA,hcello⟩:=HSi.out.sg.int j hjo;injection hA with hA;injection hA with e1 e2;subst e1 e2;have hopj:(sgO (L:Int))[j]=(op:Int):=by
        have:=HOP.out;rw[List.getElem?_eq_getElem hjo] at this;injection this
       rw[Nat.zero_add,hopj] at hcello;have hb'g:b'≠g:=by have:=HSi.out.sg.hb';omega
       have hb'l:b'≠lb:=HSi.out.sg.nb';have hb'w:b'<wr.heap.size:=World.block_lt_of_cell? _ _ hcello;have co:w3.cell? ⟨b',j,none⟩=some (.int .i64 (op:Int)):=(World.cell?_of_block (HG3.out.block b' hb'w (fun h=>by injection h with h;omega))).trans hcello;have HP4:=zH hP4;have HSG:=zH hsg;have HF:Hid (Ps.PC ts (L+1) o x m=(Ps.PE ts (L+2) o (m+1)).bind fun r k'=>Ps.PC ts (L+1) o (.mk op 0 [] [x,r]) k'):=by
        have hb:=HBO.out;have h1:=Ps.PC_go ts (L+1) o x m (by omega) (by rw[hsg,hb,HST.out];omega);rw[hsg,hb,HST.out] at h1;exact h1
       have hwL:IntKind.i64.wrap ((L:Int)+1)=(L:Int)+1:=IntWalk.i64_in _ (by omega);have hlg:lb≠g:=by omega
       have HI:=zH hI;have HBK:=zH hblk;rw[hI];clear hI hP4 hsg hblk hopj hcello hjo;go_wp2_with fail;go_region_law (first|(go_simp;go_at_call 73;refine(HN.out (m+1) hmk hk1 w3.drew (HP4.out.keep fun _ _=>rfl)).mono ?_;rintro e w4 ⟨fr,rfl,hG4,hok4,hno4⟩;unfold EF.val;have r0:=(World.cell?_of_block (a:=⟨b',j,none⟩) (hG4.block b' (World.block_lt_of_cell? _ _ co) (fun h=>hb'g (by injection h)))).trans co;obtain⟨r1,r2,r3,r4,s0,s1,s2,s3,hl4⟩:=blk4 ((hG4.block lb hll (fun h=>hlg (by injection h))).trans HBK.out);have hl4n:lb≠w4.heap.size:=(by omega);have r5:∀o:Obj,(w4.alloc o).cell? ⟨b',j,none⟩=some (.int .i64 (op:Int)):=(fun o=>(World.cell?_of_block (a:=⟨b',j,none⟩) (Below.heap_alloc w4 o b' (World.block_lt_of_cell? _ _ r0))).trans r0);have HG4:=zH hG4;have HOK4:=zH hok4;have HNO4:=zH hno4;clear hG4 hok4 hno4))
       all_goals
        clear r0 r1 r2 r3 r4 r5 s0 s1 s2 s3 co l0 l1 l2 l3 y0 y1 y2 y3 hwL;go_wp2_with fail;go_roundw
        case rel=>exact bn_next hgw hlbw hjs HPm.out.inT hmk HSi.out HG3.out HG4.out HOK4.out HNO4.out HF.out HMK.out _ rfl
        case measure =>
         simp[agOf,intOf];omega
      ·
       have hI':isB ts m e sj=false:=by simpa using hI
       have HI:=zH hI';clear hI;rw[hI'];clear hI';go_wp2_with fail;go_roundw
       case rel =>
        refine⟨false,j+1,R',f2,rfl,by go_num,by rw[←HNN.out];omega,bn_skip hgw hlbw HSi.out HPm.out HCA.out HI.out HP3.out HG3.out,fun _=>⟨rfl,?_⟩,fun h=>by cases h⟩;intro x m' hR q hq hqj;rcases Nat.lt_or_ge q j with h1|h1
        ·
         exact HNO.out x m' hR q hq h1
        ·
         have hqe:q=j:=by omega
         subst hqe;rcases HCA.out with⟨x',h1,rfl,rfl⟩|⟨h1,_⟩
         ·
          rw[hR] at h1;injection h1 with _ h1;subst h1;have h2:=HI.out;rw[zdz HPm.out.inT HW.out HME.out HNE.out] at h2;rw[←HSJ.out];simpa using h2
         ·
          rw[hR] at h1;cases h1
       case measure =>
        simp[agOf,intOf];omega
     ·
      have dj:decide ((j:Int)<(n:Int))=false:=decide_eq_false (by omega);have HSi:=zH hSi;clear hSi;go_wp2_with fail;go_roundw
      case rel =>
       refine⟨false,R',f2,rfl,HSi.out,fun _ x m hR=>?_⟩;exact bn_done hL (fun q hq=>HNO.out x m hR q hq (by rw[←HNN.out] at hq;omega)) (HSi.out.ok x m hR).2.2.1
      case measure =>
       have h1:=HM1.out;have h2:=HMM.out;simp only[agOf,if_true];simp;omega
set_option maxRecDepth 100000 in
set_option maxHeartbeats 2000000 in
theorem zgo (w:World) (g:Nat) (ts:List Tk.Tok) (k bad o d:Nat) (hP:Rsr w g ts k bad 0 o d)
  (hO:∀w',Rsr w' g ts k bad 0 o d→Calls Tryz.prog 101 #[.pointer (some ⟨g,0,none⟩)] w' (zaI w' g ts bad o d (Ps.PO ts o k))) :
  Calls Tryz.prog 73 #[.pointer (some ⟨g,0,none⟩),.int .i64 5] w (zaI w g ts bad o d (Ps.PE ts 6 o k)):=by
 have HP:=zH (hP.alloc (.cells #[.int .i64 0,.int .i64 0,.string ⟨#[]⟩,.slice none 0 0] 68));have hgw:=hP.lt;have HO:=zH hO;rw[Ps.PE_six];clear hP hO;go_enter Tryz.func73,Tryz.ntmps73;go_wp2_with fail;refine(HO.out _ HP.out).mono ?_;rintro e w1 ⟨f,rfl,hG1,hok1,hno1⟩;unfold EF.val;have hz:w1.heap[w.heap.size]?=some (.cells #[.int .i64 0,.int .i64 0,.string ⟨#[]⟩,.slice none 0 0] 68 (0,0)):=(hG1.block _ (by simp) (fun e=>by injection e with e;omega)).trans (heap_alloc_new w _);obtain⟨q0,q1,q2,q3,f0,f1,f2,f3,hz0⟩:=blk4 hz;have HG1:=zH (za6 hG1);have HOK:=zH hok1;have HNO:=zH hno1;clear hz hG1 hok1 hno1;go_wp2_with fail;refine bodyPost_ret (v:=f.val) (by simp[EF.val,results,Tryz.results73,go_sem,q0,q1,q2,q3]) rfl ?_;obtain⟨C,hC⟩:∃C,C=set4 w1 w.heap.size (.int .i64 f.op) (.int .i64 f.num) (.string ⟨f.name.toArray⟩) (.slice f.A f.n f.c):=⟨_,rfl⟩;have sC:C.heap.size=w1.heap.size:=by rw[hC];exact zaj _ _ _ _ _ _
 have mC:C.os=w1.os∧C.tape=w1.tape∧C.output=w1.output:=by rw[hC];exact zbb _ _ _ _ _ _
 have kC:∀c,c≠w.heap.size→C.heap[c]?=w1.heap[c]?:=fun c hne=>by rw[hC];exact zai w1 _ _ _ _ _ c hne
 show zaI w g ts bad o d (Ps.PO ts o k) (.returned f.val) (set4 w1 w.heap.size (.int .i64 f.op) (.int .i64 f.num) (.string ⟨f.name.toArray⟩) (.slice f.A f.n f.c));rw[←hC];clear hC;have hG:=HG1.out;have hR:∀ {a q e0:Nat},Rsr w1 g ts a q e0 o d→Rsr C g ts a q e0 o d:=fun hP=>hP.keep fun c hc=>kC c (by omega);refine⟨f,rfl,⟨mC.1.trans hG.os,mC.2.1.trans hG.tape,mC.2.2.trans hG.output,by rw[sC];exact hG.size,fun c hlt hne=>(kC c (Nat.ne_of_lt hlt)).trans (hG.block c hlt hne)⟩,?_,?_⟩
 ·
  intro x m hx;obtain⟨hE,hP⟩:=HOK.out x m hx;exact⟨(hE.keep fun c hc _=>kC c (by simp at hc;omega)).more fun c hc=>by simp at hc;omega,hR hP⟩
 ·
  intro a e0 hx;obtain⟨h1,m,hP⟩:=HNO.out a e0 hx;exact⟨h1,m,hR hP⟩
theorem zfE (g:Nat) (ts:List Tk.Tok) (hlast:Ps.kindAt ts (ts.length-1)=5) (hW:WOk ts) (bad d:Nat) (N:Nat):∀(k o:Nat),ts.length-k<N→o≤24 →
  (∀L:Nat,L≤5→∀w,Rsr w g ts k bad 0 o d→Calls Tryz.prog 73 #[.pointer (some ⟨g,0,none⟩),.int .i64 (L:Int)] w (zaI w g ts bad o d (Ps.PE ts (L+1) o k))) ∧
  (∀w,Rsr w g ts k bad 0 o d→Calls Tryz.prog 101 #[.pointer (some ⟨g,0,none⟩)] w (zaI w g ts bad o d (Ps.PO ts o k))):=by
 induction N with
 | zero=>intro k o h;omega
 | succ N ih =>
  intro k o hN ho;have hO:∀w,Rsr w g ts k bad 0 o d→Calls Tryz.prog 101 #[.pointer (some ⟨g,0,none⟩)] w (zaI w g ts bad o d (Ps.PO ts o k)):=fun w hP =>
   zgn w g ts k bad o d hlast hW ho hP (fun hk ho' w' hP'=>(ih (k+1) (o+1) (by omega) (by omega)).1 0 (by omega) w' hP') (fun hk ho' w' hP'=>(ih (k+1) (o+1) (by omega) (by omega)).2 w' hP')
  refine⟨?_,hO⟩;have hB:∀J L:Nat,L+J=5→∀w,Rsr w g ts k bad 0 o d→Calls Tryz.prog 73 #[.pointer (some ⟨g,0,none⟩),.int .i64 (L:Int)] w (zaI w g ts bad o d (Ps.PE ts (L+1) o k)):=by
   intro J
   induction J with
   | zero =>
    intro L hL w hP
    have:L=5:=by omega
    subst this;exact zgo w g ts k bad o d hP hO
   | succ J ihJ =>
    intro L hL w hP;refine zht w g ts L k bad o d hlast hW (by omega) hP ?_ ?_
    ·
     intro w' hP';exact ihJ (L+1) (by omega) w' hP'
    ·
     intro k' hk hk' w' hP';exact(ih k' o (by omega) ho).1 (L+1) (by omega) w' hP'
  intro L hL w hP;exact hB (5-L) L (by omega) w hP
theorem rsr_new (w:World) (ts:List Tk.Tok) (k:Nat) (A:Option Addr) (c:Nat) (hT:TokS w A ts) (hk:k<ts.length) (hn:ts.length≤1000000) :
  Rsr (w.alloc (.cells #[.slice A ts.length c,.int .i64 (k:Int),.int .i64 0,.int .i64 0,.int .i64 0,.int .i64 0] 65)) w.heap.size ts k 0 0 0 0:=by
 refine⟨A,c,heap_alloc_new w _,hk,by omega,hn,fun i hi=>?_⟩;obtain⟨b,e,h0,h1,h2,h3⟩:=hT i hi;have hbl:b<w.heap.size:=World.block_lt_of_cell? _ _ h0;have e1:∀o',(w.alloc (.cells #[.slice A ts.length c,.int .i64 (k:Int),.int .i64 0,.int .i64 0,.int .i64 0,.int .i64 0] 65)).cell? ⟨b,o',none⟩=w.cell? ⟨b,o',none⟩:=fun o'=>World.cell?_of_block (Below.heap_alloc w _ b hbl);exact⟨b,e,hbl,(e1 _).trans h0,(e1 _).trans h1,(e1 _).trans h2,(e1 _).trans h3⟩
theorem TokS.lastK {w:World} {A:Option Addr} {ts:List Tk.Tok} (hT:TokS w A ts):ts≠[]→∃b,A=some ⟨b,0,none⟩∧w.cell? ⟨b,(ts.length-1)*4,none⟩=some (.int .i64 (Ps.kindAt ts (ts.length-1):Int)):=by
 intro h;have hl:ts.length-1<ts.length:=by
  have:ts.length≠0:=fun h'=>h (List.length_eq_zero_iff.1 h');omega
 obtain⟨b,e,h0,_⟩:=hT (ts.length-1) hl;refine⟨b,e,?_⟩;rw[h0];unfold Ps.kindAt;rw[List.getElem?_eq_getElem hl]
theorem zeS {w W w1:World} {P:Obj} (hb:Below w.heap.size w W) (hG:(W.alloc P).grownBy w1 (some W.heap.size)):Below w.heap.size w w1:=by
 have hs:=hb.size;refine⟨hG.os.trans hb.os,hG.tape.trans hb.tape,hG.output.trans hb.output,by have:=hG.size;simp at this;omega,fun c hc=>?_⟩;exact(hG.block c (by simp;omega) (fun e=>by injection e with e;omega)).trans ((Below.heap_alloc W P c (by omega)).trans (hb.block c hc))
def zcj (ts:List Tk.Tok) (at_:Int):List St × Int × Nat :=
 if zfU ts at_=true then
  if (Pa.sBlock ts 25 0 (.at_ at_.toNat)).2.live=true then ((Pa.sBlock ts 25 0 (.at_ at_.toNat)).1,((Pa.sBlock ts 25 0 (.at_ at_.toNat)).2.k:Int),0)
  else ([],((Pa.sBlock ts 25 0 (.at_ at_.toNat)).2.k:Int),(Pa.sBlock ts 25 0 (.at_ at_.toNat)).2.e)
 else ([],at_,4)
def ziX (w:World) (V:List St × Int × Nat) (e:Ending) (w':World):Prop :=
 ∃A c,e=.returned (.tuple #[.slice A V.1.length c,.int .i64 V.2.1,.int .i64 (V.2.2:Int)])∧StsM w' (w.heap.size≤·) V.1 A∧Below w.heap.size w w'
theorem zdY {w:World} {at_:Int} {W:World} (hW:Below w.heap.size w W):ziX w ([],at_,4) (.returned (.tuple #[.slice none 0 0,.int .i64 at_,.int .i64 4])) W :=
 ⟨none,0,rfl,StsM.nil _ _ _,hW⟩
theorem zem {ts:List Tk.Tok} {at_:Int} (h:¬(0≤at_∧at_<ts.length∧Ps.kindAt ts (ts.length-1)=5)):zcj ts at_=([],at_,4):=by
 unfold zcj;rw[if_neg];unfold zfU;simpa using h
theorem zg9 {ts:List Tk.Tok} {k:Nat} (hk:k<ts.length) (h5:Ps.kindAt ts (ts.length-1)=5):zcj ts (k:Int)=if (Pa.sBlock ts 25 0 (.at_ k)).2.live=true then ((Pa.sBlock ts 25 0 (.at_ k)).1,((Pa.sBlock ts 25 0 (.at_ k)).2.k:Int),0) else ([],((Pa.sBlock ts 25 0 (.at_ k)).2.k:Int),(Pa.sBlock ts 25 0 (.at_ k)).2.e):=by
 unfold zcj;rw[if_pos,Int.toNat_natCast];unfold zfU;simp[h5,hk]
theorem pps_newK {w:World} {ts:List Tk.Tok} {A:Option Addr} {c k:Nat} (hT:TokS w A ts) (h5:Ps.kindAt ts (ts.length-1)=5) (hk:k<ts.length) (hn:ts.length≤1000000) :
  Pps (w.alloc (.cells #[.slice A ts.length c,.int .i64 (k:Int),.int .i64 0,.int .i64 0] 60)) w.heap.size ts (.at_ k) 0:=by
 refine⟨A,c,heap_alloc_new w _,hk,by omega,hn,(fun h=>by cases h),h5,fun i hi=>?_⟩;obtain⟨b,e,h0,h1,h2,h3⟩:=hT i hi;have hbl:b<w.heap.size:=World.block_lt_of_cell? _ _ h0;have e1:∀o',(w.alloc (.cells #[.slice A ts.length c,.int .i64 (k:Int),.int .i64 0,.int .i64 0] 60)).cell? ⟨b,o',none⟩=w.cell? ⟨b,o',none⟩:=fun o'=>World.cell?_of_block (Below.heap_alloc w _ b hbl);exact⟨b,e,hbl,(e1 _).trans h0,(e1 _).trans h1,(e1 _).trans h2,(e1 _).trans h3⟩
set_option maxRecDepth 100000 in
set_option maxHeartbeats 4000000 in
theorem zhv (ts:List Tk.Tok) (A:Option Addr) (c:Nat) (at_:Int) (w:World) (hT:TokS w A ts) (hS:SgT w) (hn:ts.length≤1000000) :
  Calls Tryz.prog 10 #[.slice A ts.length c,.int .i64 at_] w (ziX w (zcj ts at_)):=by
 have hR:Below w.heap.size w w:=Below.refl _ _;have HR:=zH hR;clear hR;by_cases h0:0≤at_
 ·
  by_cases h1:at_<ts.length
  ·
   obtain⟨k,rfl⟩:=Int.eq_ofNat_of_zero_le h0;have hk:k<ts.length:=by omega
   have hl:ts.length-1<ts.length:=by omega
   obtain⟨b,rfl,q0,-,-,-⟩:=hT (ts.length-1) hl;have hkd:Ps.kindAt ts (ts.length-1)=ts[ts.length-1].kind:=by unfold Ps.kindAt;rw[List.getElem?_eq_getElem hl]
   rw[←hkd] at q0;have hbl:b<w.heap.size:=World.block_lt_of_cell? _ _ q0;have i0:(0:Int)≤(ts.length:Int)-1:=by omega
   have i1:(ts.length:Int)-1<(ts.length:Int):=by omega
   have i2:((ts.length:Int)-1).toNat=ts.length-1:=by omega
   have d0:decide ((k:Int)<0)=false:=decide_eq_false (by omega);have d1:decide ((ts.length:Int)-1<(k:Int))=false:=decide_eq_false (by omega);by_cases h5:Ps.kindAt ts (ts.length-1)=5
   ·
    have t5:=nF (show ((Ps.kindAt ts (ts.length-1):Nat):Int)=5 by omega);have HV:=zH (zg9 hk h5);have HPs:=zH (pps_newK (c:=c) hT h5 hk hn);have HSG:Hid (SgG (w.alloc (.cells #[.slice (some ⟨b,0,none⟩) ts.length c,.int .i64 (k:Int),.int .i64 0,.int .i64 0] 60)) w.heap.size):=⟨hS.later ((Below.refl _ _).alloc (lR _) _),hS.lt⟩;have HPF:=zH (fun W (hW:Pps W w.heap.size ts (.at_ k) 0) (hG:SgG W w.heap.size)=>zeG w.heap.size ts 25 0 rfl (by decide) W (.at_ k) hW hG);clear hT hS h0 h1 h5 hkd;generalize Ps.kindAt ts (ts.length-1)=K at *;go_enter Tryz.func10,Tryz.ntmps10;go_wp2_with fail;refine(HPF.out _ HPs.out HSG.out).mono ?_;rintro e w1 ⟨A1,c1,rfl,hM,hP,hG⟩;have HB:=zH (zeS HR.out hG);have HM:Hid (StsM w1 (w.heap.size≤·) (Pa.sBlock ts 25 0 (.at_ k)).1 A1):=hM.more fun b hb _=>by simp at hb;omega
    obtain⟨tb,tc,-,-,-,p1,-,p3,-⟩:=hP.cells;have HP:=zH hP;clear hM hP hG HPF HPs HSG HR;generalize Pa.sBlock ts 25 0 (.at_ k)=R at *;obtain⟨l,τ⟩:=R;cases τ with
    | at_ m =>
     have HV2:Hid (zcj ts (k:Int)=(l,(m:Int),0)):=HV.out;replace p1:w1.cell? ⟨w.heap.size,1,none⟩=some (.int .i64 (m:Int)):=p1;replace p3:w1.cell? ⟨w.heap.size,3,none⟩=some (.int .i64 0):=p3;clear HV HP;go_wp2_with fail;go_region
     all_goals
      go_wp2_with fail;refine bodyPost_ret (v:=.tuple #[.slice A1 l.length c1,.int .i64 (m:Int),.int .i64 0]) (by simp[results,Tryz.results10,go_sem]) rfl ?_;rw[HV2.out];exact⟨A1,c1,rfl,HM.out.keep fun b _ _=>rfl,HB.out.drew⟩
    | bad m e =>
     have he:e≠0:=HP.out.err rfl;have t0:(((Pa.Sg.bad m e).e:Int) != 0)=true:=nT (show ((e:Nat):Int)≠0 by omega);have HV2:Hid (zcj ts (k:Int)=([],(m:Int),e)):=HV.out;replace p1:w1.cell? ⟨w.heap.size,1,none⟩=some (.int .i64 (m:Int)):=p1;replace p3:w1.cell? ⟨w.heap.size,3,none⟩=some (.int .i64 (e:Int)):=p3;change ((e:Int) != 0)=true at t0;clear HV HP he;go_wp2_with fail;go_region
     all_goals
      go_wp2_with fail;refine bodyPost_ret (v:=.tuple #[.slice none 0 0,.int .i64 (m:Int),.int .i64 (e:Int)]) (by simp[results,Tryz.results10,go_sem]) rfl ?_;rw[HV2.out];exact⟨none,0,rfl,StsM.nil _ _ _,HB.out.drew⟩
   ·
    have t5:=nT (show ((Ps.kindAt ts (ts.length-1):Nat):Int)≠5 by omega);have HV:=zH (zem (ts:=ts) (at_:=(k:Int)) fun h=>h5 h.2.2);clear hT hS h0 h1 h5 hkd;generalize Ps.kindAt ts (ts.length-1)=K at *;go_enter Tryz.func10,Tryz.ntmps10;go_wp2_with fail;refine bodyPost_ret (v:=.tuple #[.slice none 0 0,.int .i64 (k:Int),.int .i64 4]) (by simp[results,Tryz.results10,go_sem]) rfl ?_;rw[HV.out];exact zdY HR.out
  ·
   have HV:=zH (zem (ts:=ts) (at_:=at_) fun h=>h1 h.2.1);have d0:decide (at_<0)=false:=decide_eq_false (by omega);have d1:decide ((ts.length:Int)-1<at_)=true:=decide_eq_true (by omega);clear hT hS h0 h1;go_enter Tryz.func10,Tryz.ntmps10;go_wp2_with fail;refine bodyPost_ret (v:=.tuple #[.slice none 0 0,.int .i64 at_,.int .i64 4]) (by simp[results,Tryz.results10,go_sem]) rfl ?_;rw[HV.out];exact zdY HR.out
 ·
  have HV:=zH (zem (ts:=ts) (at_:=at_) fun h=>h0 h.1);have d0:decide (at_<0)=true:=decide_eq_true (by omega);clear hT hS h0;go_enter Tryz.func10,Tryz.ntmps10;go_wp2_with fail;refine bodyPost_ret (v:=.tuple #[.slice none 0 0,.int .i64 at_,.int .i64 4]) (by simp[results,Tryz.results10,go_sem]) rfl ?_;rw[HV.out];exact zdY HR.out
structure TokZ (t:Tk.Tok):Prop where
 num:t.num≤9223372036854775807
 name:t.kind=1→Tk.resv t.text=false
 word:t.kind=3→Tk.resv t.text=true
 sign:t.kind=4→Tk.isSg t.text=true
theorem ziB (s:List UInt8):∀n m,n≤9223372036854775807→Tk.numVal n s=some m→m≤9223372036854775807:=by
 induction s with
 | nil =>
  intro n m hn h;injection h with h;omega
 | cons c r ih =>
  intro n m hn h;rw[Tk.numVal] at h;split at h
  ·
   cases h
  ·
   have hc:c.toNat<256:=c.toBitVec.isLt;exact ih _ m (by omega) h
theorem tokAt_z (b:List UInt8) (k:Nat) (t:Tk.Tok) (h:Tk.tokAt b k=.ok t):TokZ t:=by
 unfold Tk.tokAt at h;split at h
 ·
  unfold Tk.nameAt at h;dsimp only at h;split at h
  ·
   cases h
  ·
   injection h with h;subst h;split
   ·
    rename_i hr;exact⟨by simp,(fun e=>absurd (show (3:Nat)=1 from e) (by decide)),fun _=>hr,(fun e=>absurd (show (3:Nat)=4 from e) (by decide))⟩
   ·
    rename_i hr;exact⟨by simp,fun _=>by simpa using hr,(fun e=>absurd (show (1:Nat)=3 from e) (by decide)),(fun e=>absurd (show (1:Nat)=4 from e) (by decide))⟩
 split at h
 ·
  unfold Tk.numAt at h;dsimp only at h;split at h
  ·
   cases h
  ·
   rename_i n hn;injection h with h;subst h;exact⟨ziB _ 0 n (by omega) hn,(fun e=>absurd (show (2:Nat)=1 from e) (by decide)),(fun e=>absurd (show (2:Nat)=3 from e) (by decide)),(fun e=>absurd (show (2:Nat)=4 from e) (by decide))⟩
 ·
  unfold Tk.signAt at h;split at h
  ·
   rename_i hs;injection h with h;subst h;exact⟨by simp,(fun e=>absurd (show (4:Nat)=1 from e) (by decide)),(fun e=>absurd (show (4:Nat)=3 from e) (by decide)),fun _=>by show Tk.isSg _=true;unfold Tk.isSg;rw[hs.2];rfl⟩
  split at h
  ·
   rename_i hs;injection h with h;subst h;exact⟨by simp,(fun e=>absurd (show (4:Nat)=1 from e) (by decide)),(fun e=>absurd (show (4:Nat)=3 from e) (by decide)),fun _=>by show Tk.isSg _=true;unfold Tk.isSg;rw[hs,Bool.or_true]⟩
  ·
   cases h
theorem tokZ_end (n:Nat):TokZ ⟨5,[],0,n⟩:=⟨by simp,(fun e=>absurd (show (5:Nat)=1 from e) (by decide)),(fun e=>absurd (show (5:Nat)=3 from e) (by decide)),(fun e=>absurd (show (5:Nat)=4 from e) (by decide))⟩
theorem lexGo_z (l:List UInt8) (f:Nat):∀(k:Nat) (acc:List Tk.Tok),k≤l.length→l.length-k<f→(∀t∈acc,TokZ t)→(Tk.lexGo f l k acc).2.2=0 →
  ∃ts,(Tk.lexGo f l k acc).1=ts++[⟨5,[],0,l.length⟩]∧∀t∈ts,TokZ t:=by
 induction f with
 | zero=>intro k acc _ h;omega
 | succ f ih =>
  intro k acc hk hf hg h0;rw[Tk.lexGo] at h0 ⊢;split at h0
  ·
   rename_i hc;rw[if_pos hc];exact⟨acc,rfl,hg⟩
  ·
   rename_i hc;rw[if_neg hc];cases ht:Tk.tokAt l k with
   | error e =>
    rw[ht] at h0;have h1:=zhR l k e ht;have h2:e=0:=h0;omega
   | ok t =>
    rw[ht] at h0;dsimp only at h0 ⊢;split at h0
    ·
     cases h0
    ·
     rename_i hn;rw[if_neg hn];obtain⟨hp,hle,-⟩:=tok_ok l k t (by omega) ht;have hs:k+t.text.length≤Tk.skipTo l (k+t.text.length):=by unfold Tk.skipTo;omega
     refine ih _ _ (Tk.skipTo_le l _ hle) (by omega) ?_ h0;intro u hu;rcases List.mem_append.1 hu with hu|hu
     ·
      exact hg u hu
     ·
      rw[List.mem_singleton.1 hu];exact tokAt_z l k t ht
theorem lex_z (l:List UInt8) (h0:(Tk.lex l).2.2=0):∃ts,(Tk.lex l).1=ts++[⟨5,[],0,l.length⟩]∧∀t∈(Tk.lex l).1,TokZ t:=by
 by_cases hl:l.length>262144
 ·
  unfold Tk.lex at h0;rw[if_pos hl] at h0;cases h0
 ·
  have e:Tk.lex l=Tk.lexGo (l.length+1) l (Tk.skipTo l 0) []:=by unfold Tk.lex;rw[if_neg hl]
  rw[e] at h0 ⊢;obtain⟨ts,h1,h2⟩:=lexGo_z l (l.length+1) (Tk.skipTo l 0) [] (Tk.skipTo_le l 0 (by omega)) (by omega) (by simp) h0;refine⟨ts,h1,fun t ht=>?_⟩;rw[h1] at ht;rcases List.mem_append.1 ht with h|h
  ·
   exact h2 t h
  ·
   rw[List.mem_singleton.1 h];exact tokZ_end _
theorem lex_ok (l:List UInt8) (h0:(Tk.lex l).2.2=0):LexOk (Tk.lex l).1:=by
 obtain⟨ts,h1,h2⟩:=lex_z l h0;refine⟨by rw[h1];simp,by rw[h1];unfold Ps.kindAt;simp,fun k=>?_⟩;unfold Ps.numAt;cases hk:(Tk.lex l).1[k]? with
 | none=>simp
 | some t=>exact(h2 t (List.mem_of_getElem? hk)).num
def WdOk (ts:List Tk.Tok):Prop:=∀k,(Ps.kindAt ts k=3→Tk.resv (Ps.textAt ts k)=true)∧(Ps.kindAt ts k=4→Tk.resv (Ps.textAt ts k)=false)
theorem sg_resv (s:List UInt8) (h:Tk.isSg s=true):Tk.resv s=false:=by
 have h1:∀x∈Tk.signs2++Tk.signs1,Tk.resv x=false:=by decide
 refine h1 s ?_;unfold Tk.isSg at h;simp only[Bool.or_eq_true,List.contains_iff_mem] at h;exact List.mem_append.2 h
theorem lex_wd (l:List UInt8) (h0:(Tk.lex l).2.2=0):WdOk (Tk.lex l).1:=by
 obtain⟨ts,h1,h2⟩:=lex_z l h0;intro k;unfold Ps.kindAt Ps.textAt;cases hk:(Tk.lex l).1[k]? with
 | none=>exact⟨(fun e=>absurd e (by decide)),(fun e=>absurd e (by decide))⟩
 | some t =>
  have hz:=h2 t (List.mem_of_getElem? hk);exact⟨hz.word,fun e=>sg_resv _ (hz.sign e)⟩
def zeX (w:World) (g:Nat) (ts:List Tk.Tok) (k bad e o d:Nat) (en:Ending) (w':World):Prop :=
 ∃f:EF,en=.returned f.val∧w.grownBy w' (some g)∧Rsr w' g ts k bad e o d
theorem zeK {ts:List Tk.Tok} {k e K:Nat} (h:e≠0):zb2 ts k e K=false:=by simp[zb2,h]
theorem zih {w w3:World} {g:Nat} {ts:List Tk.Tok} {k bad e o d:Nat} (hgw:g<w.heap.size) (hG:w.grownBy w3 (some g)) (hP:Rsr w3 g ts k bad e o d) (v0 v1 v2 v3:Value) (f:EF) (C:World)
  (hC:C=set4 w3 w.heap.size v0 v1 v2 v3):zeX w g ts k bad e o d (.returned f.val) C:=by
 have sC:C.heap.size=w3.heap.size:=by rw[hC];exact zaj _ _ _ _ _ _
 have mC:C.os=w3.os∧C.tape=w3.tape∧C.output=w3.output:=by rw[hC];exact zbb _ _ _ _ _ _
 have kC:∀b,b≠w.heap.size→C.heap[b]?=w3.heap[b]?:=fun b hne=>by rw[hC];exact zai w3 _ _ _ _ _ b hne
 clear hC;have h3:Rsr C g ts k bad e o d:=hP.keep fun b hle=>kC b (Nat.ne_of_lt (Nat.lt_of_le_of_lt hle hgw));exact⟨f,rfl,⟨mC.1.trans hG.os,mC.2.1.trans hG.tape,mC.2.2.trans hG.output,Nat.le_trans hG.size (Nat.le_of_eq sC.symm),fun b hlt hne=>(kC b (Nat.ne_of_lt hlt)).trans (hG.block b hlt hne)⟩,h3⟩
set_option maxRecDepth 100000 in
set_option maxHeartbeats 4000000 in
theorem zf8 (w:World) (g:Nat) (ts:List Tk.Tok) (k bad e o d:Nat) (he:e≠0) (hP:Rsr w g ts k bad e o d) :
  Calls Tryz.prog 101 #[.pointer (some ⟨g,0,none⟩)] w (zeX w g ts k bad e o d):=by
 have HP:=zH hP;have HK2:=zH (zeK (ts:=ts) (k:=k) (K:=2) he);have HK1:=zH (zeK (ts:=ts) (k:=k) (K:=1) he);have Hm:=zH (zc5 (ts:=ts) (k:=k) (s:=[45]) he);have Hn:=zH (zc5 (ts:=ts) (k:=k) (s:=[33]) he);have Hp:=zH (zc5 (ts:=ts) (k:=k) (s:=[40]) he);have HE:=zH he;have hgw:=hP.lt;clear hP he;go_enter Tryz.func101,Tryz.ntmps101;go_wp2_with fail;refine(zaG _ g ts k bad e o d 2 2 rfl ((HP.out.alloc _).alloc _)).mono ?_;rw[HK2.out];rintro x w1 ⟨rfl,hb⟩;have hP1:=zH (((HP.out.alloc _).alloc _).later hb);obtain⟨hr0,hr1,-,hsz⟩:=zbS hb;have hN1:=zH (And.intro hr0 (And.intro hr1 hsz));have hG1:=zH (zbi (g:=g) hb);clear hr0 hr1 hsz hb;go_wp2_with fail;refine(zaG _ g ts k bad e o d 1 1 rfl hP1.out).mono ?_;rw[HK1.out];rintro x w2 ⟨rfl,hb2⟩;have hP2:=zH (hP1.out.later hb2);have hN2:=zH (zaa hgw hN1.out (za2 (g:=g) hb2));have hG2:=zH (za0 hG1.out (za2 (g:=g) hb2));clear hb2 hP1 hN1 hG1;go_wp2_with fail;refine(zaK _ g ts k bad e o d [45] hP2.out).mono ?_;rw[Hm.out];rintro x w3 ⟨rfl,hb3⟩;have hP3:=zH (hP2.out.later hb3);have hN3:=zH (zaa hgw hN2.out (za2 (g:=g) hb3));have hG3:=zH (za0 hG2.out (za2 (g:=g) hb3));clear hb3 hP2 hN2 hG2;go_wp2_with fail;refine(zaK _ g ts k bad e o d [33] hP3.out).mono ?_;rw[Hn.out];rintro x w4 ⟨rfl,hb4⟩;have hP4:=zH (hP3.out.later hb4);have hN4:=zH (zaa hgw hN3.out (za2 (g:=g) hb4));have hG4:=zH (za0 hG3.out (za2 (g:=g) hb4));clear hb4 hP3 hN3 hG3;go_wp2_with fail;refine(zaK _ g ts k bad e o d [40] hP4.out).mono ?_;rw[Hp.out];rintro x w5 ⟨rfl,hb5⟩;have hP5:=zH (hP4.out.later hb5);have hN5:=zH (zaa hgw hN4.out (za2 (g:=g) hb5));have hG5:=zH (za0 hG4.out (za2 (g:=g) hb5));clear hb5 hP4 hN4 hG4;go_wp2_with fail;refine(zcr _ g ts k bad e o d 4 4 rfl hP5.out).mono ?_;rintro x w6 ⟨rfl,hP6,hG6⟩;rw[if_neg HE.out,if_neg HE.out] at hP6;obtain⟨hr0,hr1,hsz⟩:=zaa hgw hN5.out hG6;have HG:=zH (za0 hG5.out hG6);have HP6:=zH hP6;clear hP6 hG6 hG5 hP5 hN5;obtain⟨q0,q1,q2,q3,f0,f1,f2,f3,hz0⟩:=blk4 hr0;obtain⟨p0,p1,p2,p3,g0,g1,g2,g3,hz1⟩:=blk4 hr1;clear hr0 hr1;go_wp2_with fail;refine bodyPost_ret (v:=.agg #[.int .i64 0,.int .i64 0,.string ⟨#[]⟩,.slice none 0 0]) (by simp[results,Tryz.results101,go_sem,q0,q1,q2,q3]) rfl ?_;exact zih hgw HG.out HP6.out _ _ _ _ ⟨0,0,[],none,0,0⟩ _ rfl
structure BdS (w:World) (g lb b b':Nat) (ts:List Tk.Tok) (L k bad e o d:Nat) (f:EF) (wr:World):Prop where
 blk:Blk wr lb f
 blk0:Blk0 wr w.heap.size
 grown:w.grownBy wr (some g)
 sg:SgM w wr g lb b b' L
 psr:Rsr wr g ts k bad e o d
theorem BdS.later {w wr W:World} {g lb b b':Nat} {ts:List Tk.Tok} {L k bad e o d:Nat} {f:EF} (h:BdS w g lb b b' ts L k bad e o d f wr) (hg:g<w.heap.size) (hlb:w.heap.size<lb) (hG:wr.grownBy W (some g)) (hP:Rsr W g ts k bad e o d):BdS w g lb b b' ts L k bad e o d f W:=by
 have hk:∀c,c<wr.heap.size→c≠g→W.heap[c]?=wr.heap[c]?:=fun c hc hne=>hG.block c hc (fun e=>hne (by injection e));have hl:=lt_of_block h.blk;have hz:=lt_of_block h.blk0;exact⟨(hk lb hl (by omega)).trans h.blk,(hk _ hz (by omega)).trans h.blk0,za0 h.grown hG,h.sg.keep hg (fun c hc hne _=>hk c hc hne),hP⟩
theorem bd_start {w w1 w2:World} {g b b':Nat} {ts:List Tk.Tok} {L k bad e o d:Nat} {f:EF} {Z:Array Value} (hg:g<w.heap.size) (hZ:Z=#[.int .i64 0,.int .i64 0,.string ⟨#[]⟩,.slice none 0 0])
  (hG:(w.alloc (.cells Z 68)).grownBy w1 (some g)) (hP:Rsr w1 g ts k bad e o d)
  (W1:World) (hW1:W1=w1.alloc (.cells #[.int .i64 f.op,.int .i64 f.num,.string ⟨f.name.toArray⟩,.slice f.A f.n f.c] 68)) (hb:W1.heap.size≤b) (hb':W1.heap.size≤b') (hS:StrS w2 (some ⟨b,0,none⟩) (sgS (L:Int))) (hI:IntS w2 (some ⟨b',0,none⟩) (sgO (L:Int))) (hB:Below W1.heap.size W1 w2) :
  BdS w g w1.heap.size b b' ts L k bad e o d f w2:=by
 subst hZ;have hs1:W1.heap.size=w1.heap.size+1:=by rw[hW1];simp
 have hs0:w.heap.size<w1.heap.size:=by have:=hG.size;simp at this;omega
 have hk:∀c,c<w1.heap.size→w2.heap[c]?=w1.heap[c]?:=fun c hc=>(hB.block c (by omega)).trans (by rw[hW1];exact Below.heap_alloc w1 _ c hc);have hGw:=za6 hG;have hBo:w2.os=w1.os∧w2.tape=w1.tape∧w2.output=w1.output:=by
  have h1:W1.os=w1.os∧W1.tape=w1.tape∧W1.output=w1.output:=by rw[hW1];exact⟨rfl,rfl,rfl⟩
  exact⟨hB.os.trans h1.1,hB.tape.trans h1.2.1,hB.output.trans h1.2.2⟩
 have hs2:=hB.size;refine⟨?_,?_,?_,⟨by omega,by omega,by omega,by omega,hS,hI⟩,hP.keep fun c hc=>hk c (by omega)⟩
 ·
  exact(hB.block _ (by omega)).trans (by rw[hW1];exact heap_alloc_new w1 _)
 ·
  exact(hk _ hs0).trans ((hG.block _ (by simp) (fun e=>by injection e with e;omega)).trans (heap_alloc_new w _))
 ·
  exact⟨hBo.1.trans hGw.os,hBo.2.1.trans hGw.tape,hBo.2.2.trans hGw.output,by omega,fun c hc hne=>(hk c (by omega)).trans (hGw.block c hc hne)⟩
set_option maxRecDepth 100000 in
set_option maxHeartbeats 4000000 in
theorem zfL (w:World) (g:Nat) (ts:List Tk.Tok) (k bad e o d:Nat) (he:e≠0) (hP:Rsr w g ts k bad e o d) :
  Calls Tryz.prog 73 #[.pointer (some ⟨g,0,none⟩),.int .i64 5] w (zeX w g ts k bad e o d):=by
 have HO:=zH (zf8 (w.alloc (.cells #[.int .i64 0,.int .i64 0,.string ⟨#[]⟩,.slice none 0 0] 68)) g ts k bad e o d he (hP.alloc _));have hgw:=hP.lt;clear hP he;go_enter Tryz.func73,Tryz.ntmps73;go_wp2_with fail;refine HO.out.mono ?_;rintro en w1 ⟨f,rfl,hG1,hP1⟩;unfold EF.val;have hz:w1.heap[w.heap.size]?=some (.cells #[.int .i64 0,.int .i64 0,.string ⟨#[]⟩,.slice none 0 0] 68 (0,0)):=(hG1.block _ (by simp) (fun e=>by injection e with e;omega)).trans (heap_alloc_new w _);obtain⟨q0,q1,q2,q3,f0,f1,f2,f3,hz0⟩:=blk4 hz;have HG1:=zH (za6 hG1);have HP1:=zH hP1;clear hz hG1 hP1 HO;go_wp2_with fail;refine bodyPost_ret (v:=f.val) (by simp[EF.val,results,Tryz.results73,go_sem,q0,q1,q2,q3]) rfl ?_;exact zih hgw HG1.out HP1.out _ _ _ _ f _ rfl
set_option maxRecDepth 100000 in
set_option maxHeartbeats 8000000 in
theorem zfM (w:World) (g:Nat) (ts:List Tk.Tok) (L k bad e o d:Nat) (hlast:Ps.kindAt ts (ts.length-1)=5) (he:e≠0) (hL:L<5) (hP:Rsr w g ts k bad e o d)
  (hB:∀w',Rsr w' g ts k bad e o d→Calls Tryz.prog 73 #[.pointer (some ⟨g,0,none⟩),.int .i64 ((L:Int)+1)] w' (zeX w' g ts k bad e o d)) :
  Calls Tryz.prog 73 #[.pointer (some ⟨g,0,none⟩),.int .i64 (L:Int)] w (zeX w g ts k bad e o d):=by
 have HP:=zH (hP.alloc (.cells #[.int .i64 0,.int .i64 0,.string ⟨#[]⟩,.slice none 0 0] 68));have hgw:=hP.lt;have HB:=zH hB;have HL:=zH hlast;have HE:=zH he;have d4:decide ((L:Int)>4)=false:=decide_eq_false (by omega);clear hP hB hlast he;go_enter Tryz.func73,Tryz.ntmps73;go_wp2_with fail;refine(HB.out _ HP.out).mono ?_;rintro en w1 ⟨f,rfl,hG1,hP1⟩;unfold EF.val;have hlbw:w.heap.size<w1.heap.size:=by have:=hG1.size;simp at this;omega
 have HG1:=zH hG1;have HP1:=zH hP1;clear hG1 hP1;go_wp2_with fail;refine(zfx L hL _).mono ?_;rintro en w2 ⟨b,b',rfl,hbb,hbb',hS,hI,hb2⟩;have HR0:Hid (BdS w g w1.heap.size b b' ts L k bad e o d f w2):=bd_start hgw rfl HG1.out HP1.out _ rfl hbb hbb' hS hI hb2;have hlen:=ziI (L:Int);clear HG1 HP1 hS hI hb2 hbb hbb' HP HB d4;generalize hlbd:w1.heap.size=lb at *;clear hlbd;rw[hlen.2];have hl6:=hlen.1;clear hlen;obtain⟨n,hn⟩:∃n,n=(sgS (L:Int)).length:=⟨_,rfl⟩;rw[←hn] at hl6 ⊢;have HNN:=zH hn;clear hn;go_wp2_with fail
 go_loopw [8,9] (fun ag _ wr=>Hid (∃A:Bool,ag=.bool A∧BdS w g lb b b' ts L k bad e o d f wr)) (fun ag _ wr=>if agOf ag then 1 else 0)
 case atStart=>exact⟨true,rfl,HR0.out⟩
 case round =>
  obtain⟨A,rfl,hSt⟩:=hrel.out;clear hrel HR0;cases A with
  | false =>
   obtain⟨l0,l1,l2,l3,-,-,-,-,hll⟩:=blk4 hSt.blk;obtain⟨r0,r1,r2,r3,z0,z1,z2,z3,hrl⟩:=blk4 hSt.blk0;have HSt:=zH hSt;have hn2:lb≠w.heap.size:=by omega
   clear hSt;go_wp2_with fail;refine bodyPost_ret (v:=f.val) (by simp[EF.val,results,Tryz.results73,go_sem,r0,r1,r2,r3]) rfl ?_;exact zih hgw HSt.out.grown HSt.out.psr _ _ _ _ f _ rfl
  | true =>
   have HSt:=zH hSt;clear hSt;go_wp2_with fail
   go_loopw [8,9] (fun ag i wr=>Hid (∃j:Nat,ag=.bool false∧i=.int .i64 (j:Int)∧j≤n∧BdS w g lb b b' ts L k bad e o d f wr)) (fun _ i _=>n-(intOf i).toNat)
   case atStart=>exact⟨0,rfl,rfl,Nat.zero_le _,HSt.out⟩
   case round =>
    obtain⟨j,rfl,rfl,hj,hSi⟩:=hrel.out;clear hrel;by_cases hlt:j<n
    ·
     have dj:decide ((j:Int)<(n:Int))=true:=decide_eq_true (by omega);have hjs:j<(sgS (L:Int)).length:=by rw[←HNN.out];exact hlt
     obtain⟨bs,off,hA,hcell⟩:=hSi.sg.str j hjs;injection hA with hA;injection hA with e1 e2;subst e1 e2;rw[Nat.zero_add] at hcell;generalize (sgS (L:Int))[j]=sj at *;have HSi:=zH hSi;have HI:=zH (zc5 (ts:=ts) (k:=k) (s:=sj) HE.out);have i0:(0:Int)≤(j:Int):=by omega
     have i1:(j:Int)<(n:Int):=by omega
     clear hSi;go_wp2_with fail;refine(zcS wr g ts k bad e o d sj HL.out HSi.out.psr).mono ?_;rw[HI.out];rintro x w3 ⟨rfl,hP3,hG3⟩;rw[zdu HI.out] at hP3;have HSN:=zH (HSi.out.later hgw hlbw hG3 hP3);clear hP3 hG3 hcell;go_wp2_with fail;go_roundw
     case rel=>exact⟨j+1,rfl,by go_num,by omega,HSN.out⟩
     case measure=>simp[intOf];omega
    ·
     have dj:decide ((j:Int)<(n:Int))=false:=decide_eq_false (by omega);have HSi:=zH hSi;clear hSi;go_wp2_with fail;go_roundw
     case rel=>exact⟨false,rfl,HSi.out⟩
     case measure=>simp[agOf]
theorem zfN (g:Nat) (ts:List Tk.Tok) (k bad e o d:Nat) (hlast:Ps.kindAt ts (ts.length-1)=5) (he:e≠0) (J:Nat):∀L:Nat,L+J=5→∀w,Rsr w g ts k bad e o d →
  Calls Tryz.prog 73 #[.pointer (some ⟨g,0,none⟩),.int .i64 (L:Int)] w (zeX w g ts k bad e o d):=by
 induction J with
 | zero =>
  intro L hL w hP
  have:L=5:=by omega
  subst this;exact zfL w g ts k bad e o d he hP
 | succ J ih =>
  intro L hL w hP;exact zfM w g ts L k bad e o d hlast he (by omega) hP fun w' hP'=>ih (L+1) (by omega) w' hP'
end Go.Proofs.YtlnbmmgbfgmboaaGreatDoor
