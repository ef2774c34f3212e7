import Derived.Test.YtlnbmmgbfgmboaaDoorQ6
namespace Go.Proofs.YtlnbmmgbfgmboaaDoor
open Go.RowKit
def stK:RowK (St × SG) where
 cl:=fun p=>[.int .i64 p.1.kind,.string ⟨p.1.name.toArray⟩,.int .i64 p.2.f.op,.int .i64 p.2.f.num,.string ⟨p.2.f.name.toArray⟩,.slice p.2.f.A p.2.f.n p.2.f.c,.string ⟨p.1.rf.name.toArray⟩,.slice p.2.rA p.2.rn p.2.rc,.slice p.2.aA p.1.ars.length p.2.ac,.slice p.2.tA p.1.thn.length p.2.tc,.slice p.2.eA p.1.els.length p.2.ec]
 sz:=11
 hsz:=fun _=>rfl
 one:=fun p u hu=>by
  simp at hu
  rcases hu with rfl|rfl|rfl|rfl|rfl|rfl|rfl|rfl|rfl|rfl|rfl<;>rfl
 In:=fun w S p=>StM w S p.1 p.2
 keep:=fun h hk=>h.keep hk
 more:=fun h hs=>h.more hs
theorem zca {t:TypeId} {w:World} {B n c:Nat} {A:Option Addr} {P:List (St × SG)} (h:OwnR stK t w B (.slice A n c) P):StsM w (B≤·) (P.map (·.1)) A:=by
 obtain⟨A',c',e⟩:=h.form
 simp only[Value.slice.injEq] at e
 obtain⟨-,rfl,rfl⟩:=e
 refine⟨fun i=>if hi:i<P.length then P[i].2 else ⟨⟨0,0,[],none,0,0⟩,none,0,0,none,0,none,0,none,0⟩,fun i hi=>?_,fun i hi=>?_⟩
 ·
  have hi':i<P.length:=by simpa using hi
  obtain⟨g,hA,hg⟩:∃g,A=some ⟨g,0,none⟩∧B≤g:=by
   rcases h.1.2 with⟨_,h0⟩|⟨g,cap',cur,e,hg,_⟩
   ·
    omega
   ·
    simp only[Value.slice.injEq] at e
    exact⟨g,e.1,hg⟩
  subst hA
  have q:∀j,j<11→w.cell? ⟨g,0+i*11+j,none⟩=(stK.cl P[i])[j]?:=fun j hj=>by
   rw[Nat.zero_add]
   exact(World.ownsRow.cellAt h.1 _ (by show i*11+j<P.length*11;omega)).trans (stK.cs_at P i j hi' hj)
  simp only[List.getElem_map,dif_pos hi']
  exact⟨g,0,rfl,hg,q 0 (by omega),q 1 (by omega),q 2 (by omega),q 3 (by omega),q 4 (by omega),q 5 (by omega),q 6 (by omega),q 7 (by omega),q 8 (by omega),q 9 (by omega),q 10 (by omega)⟩
 ·
  have hi':i<P.length:=by simpa using hi
  simp only[List.getElem_map,dif_pos hi']
  exact(h.2 P[i] (List.getElem_mem hi')).more fun b hb _=>hb.1
theorem Tryd.infoSt:(Tryd.prog.info? 81).map (fun i=>(i.zero,i.size,i.bytes))=some (some (.agg #[.int .i64 0,.string ⟨#[]⟩,.int .i64 0,.int .i64 0,.string ⟨#[]⟩,.slice none 0 0,.string ⟨#[]⟩,.slice none 0 0,.slice none 0 0,.slice none 0 0,.slice none 0 0]),11,192):=by kernel_rfl
def BlkL (w:World) (g:Nat) (ts:List Tk.Tok) (st:Pa.Sg→St × Pa.Sg) (R:List St × Pa.Sg) (o f:Nat) (v:Value) (wr:World):Prop :=
 ∃(P:List (St × SG)) (τ:Pa.Sg),OwnR stK 81 wr w.heap.size v P∧Pps wr g ts τ o∧w.grownBy wr (some g)∧P.length≤1000000∧(τ.live=true→P.length≤τ.k∧ts.length≤f+τ.k)∧Pa.sStmts ts st f τ (P.map (·.1))=R
theorem zcL (ts:List Tk.Tok) (st:Pa.Sg→St × Pa.Sg) (f m e:Nat) (l:List St):Pa.sStmts ts st f (.bad m e) l=(l,.bad m e):=by
 cases f with
 | zero=>rfl
 | succ f=>rw[Pa.sStmts,if_pos (show (Pa.Sg.bad m e).live=false from rfl)]
theorem zeF (ts:List Tk.Tok) (st:Pa.Sg→St × Pa.Sg) (f k:Nat) (l:List St) (h:Pa.isS ts (.at_ k) [125]=true):Pa.sStmts ts st (f+1) (.at_ k) l=(l,.at_ (k+1)):=by
 rw[Pa.sStmts,if_neg (show ¬(Pa.Sg.at_ k).live=false from fun e=>by cases e),if_pos h]
 rfl
theorem zfz (ts:List Tk.Tok) (st:Pa.Sg→St × Pa.Sg) (f k:Nat) (l:List St) (h:Pa.isS ts (.at_ k) [125]=false):Pa.sStmts ts st (f+1) (.at_ k) l=Pa.sStmts ts st f (st (.at_ k)).2 (l++[(st (.at_ k)).1]):=by
 rw[Pa.sStmts,if_neg (show ¬(Pa.Sg.at_ k).live=false from fun e=>by cases e),if_neg (by rw[h];decide)]
theorem Pps.opn' {w:World} {g:Nat} {ts:List Tk.Tok} {σ:Pa.Sg} {o:Nat} (h:Pps w g ts σ o) (j:Nat) (v:Int) (hv:v=(j:Int)) (hj:j≤1000):Pps (w.setCell ⟨g,2,none⟩ (.int .i64 v)) g ts σ j:=by
 subst hv
 exact h.opn j hj
def opS (ts:List Tk.Tok) (σ:Pa.Sg) (o:Nat):Pa.Sg:=if Pa.isS ts σ [123]=true then Pa.lm σ o 24 else σ
theorem zh1 {ts:List Tk.Tok} {σ:Pa.Sg} {o:Nat} (h:(Pa.xp ts (opS ts σ o) [123]).live=true):o<24:=by
 rcases Nat.lt_or_ge o 24 with h1|h1
 ·
  exact h1
 ·
  exfalso
  cases hI:Pa.isS ts σ [123] with
  | true =>
   have e:opS ts σ o=Pa.fl σ 3:=by unfold opS;rw[if_pos hI];exact if_pos h1
   rw[e] at h
   have:=(Pa.xp_fws ts (Pa.fl σ 3) [123] h).1
   rw[Pa.fl_dead] at this
   cases this
  | false =>
   have e:opS ts σ o=σ:=by unfold opS;rw[if_neg (by rw[hI];decide)]
   rw[e] at h
   unfold Pa.xp at h
   rw[if_neg (by rw[hI];decide),Pa.fl_dead] at h
   cases h
set_option maxRecDepth 100000 in
set_option maxHeartbeats 4000000 in
theorem ziI (w:World) (g:Nat) (ts:List Tk.Tok) (st:Pa.Sg→St × Pa.Sg) (σ:Pa.Sg) (o:Nat) (ho:o≤24) (hst:∀τ,Pa.Fws τ (st τ).2)
  (hC:o<24→∀w τ,Pps w g ts τ (o+1)→SgG w g→Calls Tryd.prog 80 #[.pointer (some ⟨g,0,none⟩)] w (StP w g ts (st τ) (o+1))) (hP:Pps w g ts σ o) (hS:SgG w g) :
  Calls Tryd.prog 71 #[.pointer (some ⟨g,0,none⟩)] w (BlkP w g ts (Pa.sStmts ts st (ts.length+1) (Pa.xp ts (opS ts σ o) [123]) []) o):=by
 obtain⟨i0,hi,hz0,hz1,hz2⟩:=info_parts Tryd.infoSt
 have HP:=Lib.hid hP
 have HS:=Lib.hid hS
 have HC:=Lib.hid hC
 have HST:=Lib.hid hst
 have hgw:=hP.lt
 clear hP hS hC hst
 go_enter Tryd.func71,Tryd.ntmps71
 go_wp2_with fail
 refine(zbS w g ts σ o [123] HP.out).mono ?_
 rintro x w1 ⟨rfl,hb1⟩
 have HP1:=Lib.hid (HP.out.later hb1)
 have HG1:=Lib.hid (zaf (g:=g) hb1)
 clear hb1
 cases hI:Pa.isS ts σ [123] with
 | true =>
  have HQ:Hid (Pa.lm σ o 24=opS ts σ o):=by show _=_;unfold opS;rw[if_pos hI]
  obtain⟨b',c',-,-,-,-,p2,-⟩:=HP1.out.cells
  clear hI
  go_wp2_with fail
  refine(zbI w1 g ts σ o o 24 _ 24 rfl rfl HP1.out).mono ?_
  rintro x w2 ⟨rfl,hP2,hG2⟩
  rw[HQ.out] at hP2
  have HP2:=Lib.hid hP2
  have HG2:=Lib.hid (za0 HG1.out hG2)
  clear hP2 hG2 HP1 HG1 HQ p2
  go_wp2_with fail
  refine(zan w2 g ts _ o [123] HP2.out).mono ?_
  rintro x w3 ⟨rfl,hP3,hG3⟩
  obtain⟨b3,c3,-,-,-,-,q2,-,fr,-⟩:=hP3.cells
  have f2:=fr 2
  have HP3:=Lib.hid hP3
  have HG3:=Lib.hid (za0 HG2.out hG3)
  have HOL:=Lib.hid (zh1 (ts:=ts) (σ:=σ) (o:=o))
  clear hP3 hG3 fr HP2 HG2
  generalize Pa.xp ts (opS ts σ o) [123]=σ3 at *
  generalize hR:Pa.sStmts ts st (ts.length+1) σ3 []=R at *
  have HL0:Hid (BlkL w g ts st R (o+1) (ts.length+1) (.slice none 0 0) (w3.setCell ⟨g,2,none⟩ (.int .i64 ((o:Int)+1)))):=⟨[],σ3,OwnR.nil _ _ _ _,HP3.out.opn' (o+1) _ (by omega) (by omega),zbV HG3.out,by simp,fun _=>⟨by simp,by omega⟩,hR⟩
  have HO24:Hid (σ3.live=true→o<24):=HOL.out
  have HD3:Hid (∀m e,σ3=.bad m e→R=([],.bad m e)):=fun m e h=>by rw[←hR,h];exact zcL _ _ _ _ _ _
  clear hR HOL
  go_wp2_with fail
  go_loopg [3] (ts.length+1) (fun k v wr=>Hid (BlkL w g ts st R (o+1) k v wr∧(o<24∨∃P m e,Pps wr g ts (.bad m e) (o+1)∧OwnR stK 81 wr w.heap.size v P)))
  case atStart =>
   refine⟨HL0.out,?_⟩
   cases σ3 with
   | at_ k=>exact .inl (HO24.out rfl)
   | bad m e=>exact .inr ⟨[],m,e,HP3.out.opn' (o+1) _ (by omega) (by omega),OwnR.nil _ _ _ _⟩
  case round =>
   clear HL0 HD3 HO24 HP3 HG3
   obtain⟨⟨P,τ,hO,hP,hG,hPl,hlv,hRR⟩,h24⟩:=hrel.out
   clear hrel
   obtain⟨sa,sc,rfl⟩:=hO.form
   have HO:=Lib.hid hO
   have HPr:=Lib.hid hP
   have HGr:=Lib.hid hG
   have HLV:=Lib.hid hlv
   have HR:=Lib.hid hRR
   have hnn:ts.length≤1000000:=by obtain⟨_,_,_,_,_,h,_⟩:=hP;exact h
   have hwl:w.heap.size≤wr.heap.size:=hG.size
   obtain⟨br,cr,-,-,-,-,s2,s3,frr,-⟩:=hP.cells
   have g2:=frr 2
   clear hO hP hG hlv hRR frr
   cases τ with
   | bad m e =>
    have he:e≠0:=HPr.out.err rfl
    have t0:(((Pa.Sg.bad m e).e:Int)==0)=false:=bF (show ((e:Nat):Int)≠0 by omega)
    have HRR:Hid (R=(P.map (·.1),.bad m e)):=by show _=_;rw[←HR.out];exact zcL _ _ _ _ _ _
    clear he HR HLV h24
    go_wp2_with fail
    go_ret
    refine⟨sa,sc,by rw[HRR.out,List.length_map];rfl,?_,?_,zbV HGr.out⟩
    ·
     rw[HRR.out]
     exact zca (HO.out.keep (by simp[World.setCell]) fun b hb _=>Below.heap_setCell _ _ _ b (by show b≠g;omega))
    ·
     rw[HRR.out]
     exact HPr.out.opn' o _ (by omega) (by omega)
   | at_ k0 =>
    have t0:(((Pa.Sg.at_ k0).e:Int)==0)=true:=rfl
    obtain⟨hk1,hk2⟩:=HLV.out rfl
    have hk3:(Pa.Sg.at_ k0).k=k0:=rfl
    have hkT:k0<ts.length:=HPr.out.inT
    rw[hk3] at hk1 hk2
    obtain⟨f1,rfl⟩:∃f1,gk=f1+1:=⟨gk-1,by omega⟩
    have ho24:o<24:=by
     rcases h24 with h|⟨P',m,e,hPb,_⟩
     ·
      exact h
     ·
      exfalso
      have he:=hPb.err rfl
      obtain⟨_,_,_,_,_,_,_,a3,_⟩:=hPb.cells
      rw[a3] at s3
      have h0:(e:Int)=0:=by
       simp only[Option.some.injEq,Value.int.injEq] at s3
       exact s3.2
      have:e=0:=by omega
      exact he this
    clear h24 HLV hk3
    go_wp2_with fail
    refine(zaj wr g ts (.at_ k0) (o+1) [125] HPr.out).mono ?_
    rintro x w5 ⟨rfl,hP5,hG5⟩
    have HP5:=Lib.hid hP5
    have HG5:=Lib.hid (za0 HGr.out hG5)
    have HO5:=Lib.hid (HO.out.grown hG5 hgw)
    have hl5:wr.heap.size≤w5.heap.size:=hG5.size
    clear hP5 hG5 s2 s3 g2
    cases hI:Pa.isS ts (.at_ k0) [125] with
    | true =>
     have hac:Pa.ac ts (.at_ k0) [125]=.at_ (k0+1):=if_pos hI
     rw[hac] at HP5
     have HRR:Hid (R=(P.map (·.1),.at_ (k0+1))):=by show _=_;rw[←HR.out];exact zeF ts st f1 k0 _ hI
     obtain⟨b5,c5,-,-,-,-,s2,-,frr,-⟩:=HP5.out.cells
     have g2:=frr 2
     clear hac hI HR frr
     go_wp2_with fail
     go_ret
     refine⟨sa,sc,by rw[HRR.out,List.length_map];rfl,?_,?_,zbV HG5.out⟩
     ·
      rw[HRR.out]
      exact zca (HO5.out.keep (by simp[World.setCell]) fun b hb _=>Below.heap_setCell _ _ _ b (by show b≠g;omega))
     ·
      rw[HRR.out]
      exact HP5.out.opn' o _ (by omega) (by omega)
    | false =>
     have hac:Pa.ac ts (.at_ k0) [125]=.at_ k0:=if_neg (by rw[hI];decide)
     rw[hac] at HP5
     have HR2:Hid (Pa.sStmts ts st f1 (st (.at_ k0)).2 (P.map (·.1)++[(st (.at_ k0)).1])=R):=by show _=_;rw[←HR.out];exact(zfz ts st f1 k0 _ hI).symm
     have HFW:=Lib.hid (HST.out (.at_ k0))
     clear hac hI HR
     go_wp2_with fail
     refine(HC.out ho24 w5 (.at_ k0) HP5.out (HS.out.grown HG5.out)).mono ?_
     rintro x w6 ⟨G,rfl,hM6,hP6,hG6⟩
     unfold ze0
     have HP6:=Lib.hid hP6
     have HG6:=Lib.hid (za0 HG5.out hG6)
     have HI6:Hid (stK.In w6 (w5.heap.size≤·) ((st (.at_ k0)).1,G)):=hM6
     have HO6:=Lib.hid (HO5.out.grown hG6 hgw)
     have hl6:w.heap.size≤w6.heap.size:=HG6.out.size
     clear hM6 hP6 hG6
     generalize (st (.at_ k0)).2=τ2 at *
     generalize (st (.at_ k0)).1=s at *
     go_wp2_with (first|(at_builtin;refine wpList_append_lies _ rfl (.tmp 31) (.tmp 34) 56 rfl w.heap.size 81 i0 _ 11 192 Tryd.underlying56 hi hz0 hz1 hz2 rfl (by decide) _ P.length (stK.cs P) rfl (HO6.out.alloc _).1 ⟨w6.heap.size,0,none⟩ 1 1 (stK.cl (s,G)) rfl rfl (zam w6 _ rfl _ _) (stK.one (s,G)) (by omega) (by unfold maxLen;omega) (by omega) (by simp;omega) _ rfl ?_))
     intro gb2 cap2 w7 hown hgrow hlies hgl
     have hO7:OwnR stK 81 w7 w.heap.size (.slice (some ⟨gb2,0,none⟩) (P.length+1) cap2) (P++[(s,G)]):=(HO6.out.alloc _).snoc (stK.fresh (stK.keep HI6.out fun b _ hl=>Below.heap_alloc w6 _ b hl) HO5.out (Nat.le_refl _) (by omega)) hown hgrow (zai hlies (by simp))
     have HO7:=Lib.hid hO7
     have hgo:∀b,b≤g→some b≠(Value.slice sa P.length sc).ownBlock:=fun b hb e=>by have:=(HO6.out.1.lt b e.symm).1;omega
     have HP7:Hid (Pps w7 g ts τ2 (o+1)):=(HP6.out.alloc _).keep fun b hb=>hgrow.block b (by have:=HP6.out.lt;simp;omega) (hgo b hb)
     have HG7:Hid (w.grownBy w7 (some g)):=⟨hgrow.os.trans HG6.out.os,hgrow.tape.trans HG6.out.tape,hgrow.output.trans HG6.out.output,Nat.le_trans hl6 (Nat.le_trans (by simp) hgrow.size),fun b hb hne=>(hgrow.block b (by simp;omega) (fun e=>by have:=(HO6.out.1.lt b e.symm).1;omega)).trans ((Below.heap_alloc w6 _ b (by omega)).trans (HG6.out.block b hb hne))⟩
     clear hO7 hown hgrow hlies hgl hgo HO6 HI6 HP6 HO5 HP5
     go_wp2_with fail
     go_roundg f1
     case rel =>
      refine⟨⟨P++[(s,G)],τ2,HO7.out,HP7.out,HG7.out,by simp;omega,fun hl=>?_,?_⟩,.inl ho24⟩
      ·
       have h1:=(HFW.out hl).2
       have h2:(Pa.Sg.at_ k0).k=k0:=rfl
       refine⟨by simp;omega,by omega⟩
      ·
       rw[List.map_append]
       exact HR2.out
     case measure=>omega
 | false =>
  have HQ:Hid (σ=opS ts σ o):=by show _=_;unfold opS;rw[if_neg (by rw[hI];decide)]
  have hP2:Pps w1 g ts (opS ts σ o) o:=by rw[←HQ.out];exact HP1.out
  have HP2:=Lib.hid hP2
  have HG2:=HG1
  obtain⟨w2,hw2⟩:∃W,W=w1:=⟨_,rfl⟩
  subst hw2
  clear hI hP2 HP1 HG1 HQ
  go_wp2_with fail
  refine(zan w2 g ts _ o [123] HP2.out).mono ?_
  rintro x w3 ⟨rfl,hP3,hG3⟩
  obtain⟨b3,c3,-,-,-,-,q2,-,fr,-⟩:=hP3.cells
  have f2:=fr 2
  have HP3:=Lib.hid hP3
  have HG3:=Lib.hid (za0 HG2.out hG3)
  have HOL:=Lib.hid (zh1 (ts:=ts) (σ:=σ) (o:=o))
  clear hP3 hG3 fr HP2 HG2
  generalize Pa.xp ts (opS ts σ o) [123]=σ3 at *
  generalize hR:Pa.sStmts ts st (ts.length+1) σ3 []=R at *
  have HL0:Hid (BlkL w g ts st R (o+1) (ts.length+1) (.slice none 0 0) (w3.setCell ⟨g,2,none⟩ (.int .i64 ((o:Int)+1)))):=⟨[],σ3,OwnR.nil _ _ _ _,HP3.out.opn' (o+1) _ (by omega) (by omega),zbV HG3.out,by simp,fun _=>⟨by simp,by omega⟩,hR⟩
  have HO24:Hid (σ3.live=true→o<24):=HOL.out
  have HD3:Hid (∀m e,σ3=.bad m e→R=([],.bad m e)):=fun m e h=>by rw[←hR,h];exact zcL _ _ _ _ _ _
  clear hR HOL
  go_wp2_with fail
  go_loopg [3] (ts.length+1) (fun k v wr=>Hid (BlkL w g ts st R (o+1) k v wr∧(o<24∨∃P m e,Pps wr g ts (.bad m e) (o+1)∧OwnR stK 81 wr w.heap.size v P)))
  case atStart =>
   refine⟨HL0.out,?_⟩
   cases σ3 with
   | at_ k=>exact .inl (HO24.out rfl)
   | bad m e=>exact .inr ⟨[],m,e,HP3.out.opn' (o+1) _ (by omega) (by omega),OwnR.nil _ _ _ _⟩
  case round =>
   clear HL0 HD3 HO24 HP3 HG3
   obtain⟨⟨P,τ,hO,hP,hG,hPl,hlv,hRR⟩,h24⟩:=hrel.out
   clear hrel
   obtain⟨sa,sc,rfl⟩:=hO.form
   have HO:=Lib.hid hO
   have HPr:=Lib.hid hP
   have HGr:=Lib.hid hG
   have HLV:=Lib.hid hlv
   have HR:=Lib.hid hRR
   have hnn:ts.length≤1000000:=by obtain⟨_,_,_,_,_,h,_⟩:=hP;exact h
   have hwl:w.heap.size≤wr.heap.size:=hG.size
   obtain⟨br,cr,-,-,-,-,s2,s3,frr,-⟩:=hP.cells
   have g2:=frr 2
   clear hO hP hG hlv hRR frr
   cases τ with
   | bad m e =>
    have he:e≠0:=HPr.out.err rfl
    have t0:(((Pa.Sg.bad m e).e:Int)==0)=false:=bF (show ((e:Nat):Int)≠0 by omega)
    have HRR:Hid (R=(P.map (·.1),.bad m e)):=by show _=_;rw[←HR.out];exact zcL _ _ _ _ _ _
    clear he HR HLV h24
    go_wp2_with fail
    go_ret
    refine⟨sa,sc,by rw[HRR.out,List.length_map];rfl,?_,?_,zbV HGr.out⟩
    ·
     rw[HRR.out]
     exact zca (HO.out.keep (by simp[World.setCell]) fun b hb _=>Below.heap_setCell _ _ _ b (by show b≠g;omega))
    ·
     rw[HRR.out]
     exact HPr.out.opn' o _ (by omega) (by omega)
   | at_ k0 =>
    have t0:(((Pa.Sg.at_ k0).e:Int)==0)=true:=rfl
    obtain⟨hk1,hk2⟩:=HLV.out rfl
    have hk3:(Pa.Sg.at_ k0).k=k0:=rfl
    have hkT:k0<ts.length:=HPr.out.inT
    rw[hk3] at hk1 hk2
    obtain⟨f1,rfl⟩:∃f1,gk=f1+1:=⟨gk-1,by omega⟩
    have ho24:o<24:=by
     rcases h24 with h|⟨P',m,e,hPb,_⟩
     ·
      exact h
     ·
      exfalso
      have he:=hPb.err rfl
      obtain⟨_,_,_,_,_,_,_,a3,_⟩:=hPb.cells
      rw[a3] at s3
      have h0:(e:Int)=0:=by
       simp only[Option.some.injEq,Value.int.injEq] at s3
       exact s3.2
      have:e=0:=by omega
      exact he this
    clear h24 HLV hk3
    go_wp2_with fail
    refine(zaj wr g ts (.at_ k0) (o+1) [125] HPr.out).mono ?_
    rintro x w5 ⟨rfl,hP5,hG5⟩
    have HP5:=Lib.hid hP5
    have HG5:=Lib.hid (za0 HGr.out hG5)
    have HO5:=Lib.hid (HO.out.grown hG5 hgw)
    have hl5:wr.heap.size≤w5.heap.size:=hG5.size
    clear hP5 hG5 s2 s3 g2
    cases hI:Pa.isS ts (.at_ k0) [125] with
    | true =>
     have hac:Pa.ac ts (.at_ k0) [125]=.at_ (k0+1):=if_pos hI
     rw[hac] at HP5
     have HRR:Hid (R=(P.map (·.1),.at_ (k0+1))):=by show _=_;rw[←HR.out];exact zeF ts st f1 k0 _ hI
     obtain⟨b5,c5,-,-,-,-,s2,-,frr,-⟩:=HP5.out.cells
     have g2:=frr 2
     clear hac hI HR frr
     go_wp2_with fail
     go_ret
     refine⟨sa,sc,by rw[HRR.out,List.length_map];rfl,?_,?_,zbV HG5.out⟩
     ·
      rw[HRR.out]
      exact zca (HO5.out.keep (by simp[World.setCell]) fun b hb _=>Below.heap_setCell _ _ _ b (by show b≠g;omega))
     ·
      rw[HRR.out]
      exact HP5.out.opn' o _ (by omega) (by omega)
    | false =>
     have hac:Pa.ac ts (.at_ k0) [125]=.at_ k0:=if_neg (by rw[hI];decide)
     rw[hac] at HP5
     have HR2:Hid (Pa.sStmts ts st f1 (st (.at_ k0)).2 (P.map (·.1)++[(st (.at_ k0)).1])=R):=by show _=_;rw[←HR.out];exact(zfz ts st f1 k0 _ hI).symm
     have HFW:=Lib.hid (HST.out (.at_ k0))
     clear hac hI HR
     go_wp2_with fail
     refine(HC.out ho24 w5 (.at_ k0) HP5.out (HS.out.grown HG5.out)).mono ?_
     rintro x w6 ⟨G,rfl,hM6,hP6,hG6⟩
     unfold ze0
     have HP6:=Lib.hid hP6
     have HG6:=Lib.hid (za0 HG5.out hG6)
     have HI6:Hid (stK.In w6 (w5.heap.size≤·) ((st (.at_ k0)).1,G)):=hM6
     have HO6:=Lib.hid (HO5.out.grown hG6 hgw)
     have hl6:w.heap.size≤w6.heap.size:=HG6.out.size
     clear hM6 hP6 hG6
     generalize (st (.at_ k0)).2=τ2 at *
     generalize (st (.at_ k0)).1=s at *
     go_wp2_with (first|(at_builtin;refine wpList_append_lies _ rfl (.tmp 31) (.tmp 34) 56 rfl w.heap.size 81 i0 _ 11 192 Tryd.underlying56 hi hz0 hz1 hz2 rfl (by decide) _ P.length (stK.cs P) rfl (HO6.out.alloc _).1 ⟨w6.heap.size,0,none⟩ 1 1 (stK.cl (s,G)) rfl rfl (zam w6 _ rfl _ _) (stK.one (s,G)) (by omega) (by unfold maxLen;omega) (by omega) (by simp;omega) _ rfl ?_))
     intro gb2 cap2 w7 hown hgrow hlies hgl
     have hO7:OwnR stK 81 w7 w.heap.size (.slice (some ⟨gb2,0,none⟩) (P.length+1) cap2) (P++[(s,G)]):=(HO6.out.alloc _).snoc (stK.fresh (stK.keep HI6.out fun b _ hl=>Below.heap_alloc w6 _ b hl) HO5.out (Nat.le_refl _) (by omega)) hown hgrow (zai hlies (by simp))
     have HO7:=Lib.hid hO7
     have hgo:∀b,b≤g→some b≠(Value.slice sa P.length sc).ownBlock:=fun b hb e=>by have:=(HO6.out.1.lt b e.symm).1;omega
     have HP7:Hid (Pps w7 g ts τ2 (o+1)):=(HP6.out.alloc _).keep fun b hb=>hgrow.block b (by have:=HP6.out.lt;simp;omega) (hgo b hb)
     have HG7:Hid (w.grownBy w7 (some g)):=⟨hgrow.os.trans HG6.out.os,hgrow.tape.trans HG6.out.tape,hgrow.output.trans HG6.out.output,Nat.le_trans hl6 (Nat.le_trans (by simp) hgrow.size),fun b hb hne=>(hgrow.block b (by simp;omega) (fun e=>by have:=(HO6.out.1.lt b e.symm).1;omega)).trans ((Below.heap_alloc w6 _ b (by omega)).trans (HG6.out.block b hb hne))⟩
     clear hO7 hown hgrow hlies hgl hgo HO6 HI6 HP6 HO5 HP5
     go_wp2_with fail
     go_roundg f1
     case rel =>
      refine⟨⟨P++[(s,G)],τ2,HO7.out,HP7.out,HG7.out,by simp;omega,fun hl=>?_,?_⟩,.inl ho24⟩
      ·
       have h1:=(HFW.out hl).2
       have h2:(Pa.Sg.at_ k0).k=k0:=rfl
       refine⟨by simp;omega,by omega⟩
      ·
       rw[List.map_append]
       exact HR2.out
     case measure=>omega
theorem zhE (g:Nat) (ts:List Tk.Tok) (f:Nat):∀o,f+o=25→o≤24→BlkC g ts (fun σ=>Pa.sBlock ts f o σ) o:=by
 induction f with
 | zero=>intro o h1 h2;omega
 | succ f ih =>
  intro o h1 h2 w σ hP hS
  have:=ziI w g ts (fun τ=>Pa.sStmt ts (fun υ=>Pa.sBlock ts f (o+1) υ) τ) σ o h2 (fun τ=>Pa.sStmt_fws ts _ (fun υ=>Pa.sBlock_fwd ts f (o+1) υ) τ)
   (fun ho w τ hP hS=>ziy w g ts _ τ (o+1) (ih (o+1) (by omega) (by omega)) hP hS) hP hS
  exact this
end Go.Proofs.YtlnbmmgbfgmboaaDoor

namespace Go.Proofs.YtlnbmmgbfgmboaaDoor
open Go.RowKit
theorem blk3 {w:World} {b:Nat} {c0 c1 c2:Value} {t:TypeId} (h:w.heap[b]?=some (.cells #[c0,c1,c2] t (0,0))) :
  w.cell? ⟨b,0,none⟩=some c0∧w.cell? ⟨b,1,none⟩=some c1∧w.cell? ⟨b,2,none⟩=some c2∧(∀j,w.frozen? ⟨b,j,none⟩=false)∧b<w.heap.size:=by
 refine⟨?_,?_,?_,fun j=>by simp[World.frozen?,h],lt_of_block h⟩
 ·
  rw[cell_of_row w b 0 _ _ _ h];rfl
 ·
  rw[cell_of_row w b 1 _ _ _ h];rfl
 ·
  rw[cell_of_row w b 2 _ _ _ h];rfl
def szP (ts:List Tk.Tok) (σ:Pa.Sg):Pa.Sg:=if Pa.kdS ts σ 2=true∧(Ps.numAt ts σ.k<1∨64<Ps.numAt ts σ.k) then Pa.fl σ 3 else σ
theorem szS_eq (ts:List Tk.Tok) (σ:Pa.Sg):Pa.szS ts σ=Pa.tk ts (szP ts σ) 2:=rfl
set_option maxRecDepth 100000 in
set_option maxHeartbeats 4000000 in
theorem ziA (w:World) (g:Nat) (ts:List Tk.Tok) (σ:Pa.Sg) (o:Nat) (hP:Pps w g ts σ o) :
  Calls Tryd.prog 68 #[.pointer (some ⟨g,0,none⟩)] w fun x w'=>x=.returned (.int .i64 (Pa.nuV ts (szP ts σ):Int))∧Pps w' g ts (Pa.szS ts σ) o∧w.grownBy w' (some g):=by
 have hk:=hP.inT
 obtain⟨b,c,hne,hbl,q0,q1,q2,q3,fr,hkm,ho,a0,a1,a2,⟨v3,a3⟩,hn⟩:=hP.cells
 have HP:=Lib.hid hP
 have i0:(0:Int)≤(σ.k:Int):=by omega
 have i1:(σ.k:Int)<(ts.length:Int):=by omega
 clear hP fr
 rw[szS_eq]
 have HQ:Hid (szP ts σ=if Pa.kdS ts σ 2=true∧(Ps.numAt ts σ.k<1∨64<Ps.numAt ts σ.k) then Pa.fl σ 3 else σ):=rfl
 generalize Ps.numAt ts σ.k=M at *
 generalize szP ts σ=ρ at *
 go_enter Tryd.func68,Tryd.ntmps68
 go_wp2
 go_quiet (fail)
 have HP0:=Lib.hid (HP.out.later (zat (Below.refl _ _) nq))
 have HG0:Hid (w.grownBy (w.drewN nq) (some g)):=zaf (zat (Below.refl _ _) nq)
 clear q0 q1 q2 q3 a0 a1 a2 a3 i0 i1
 generalize w.drewN nq=w0 at *
 go_wp2_with fail
 refine(zbZ w0 g ts σ o 2 2 rfl HP0.out).mono ?_
 rintro x w1 ⟨rfl,hb1⟩
 have HP1:=Lib.hid (HP0.out.later hb1)
 have HG1:=Lib.hid (za0 HG0.out (zaf (g:=g) hb1))
 clear hb1 HP0 HG0
 by_cases hbad:Pa.kdS ts σ 2=true∧(M<1∨64<M)
 ·
  have HE:Hid (Pa.fl σ 3=ρ):=by show _=_;rw[HQ.out,if_pos hbad]
  obtain⟨hK,hM⟩:=hbad
  rw[hK]
  clear hK HQ
  rcases hM with hM|hM
  ·
   have d1:decide ((M:Int)<1)=true:=decide_eq_true (by omega)
   go_wp2_with fail
   refine(zcn w1 g ts σ o 3 3 rfl (by omega) HP1.out).mono ?_
   rintro x w2 ⟨rfl,hP2,hG2⟩
   rw[HE.out] at hP2
   have HP2:=Lib.hid hP2
   have HG2:=Lib.hid (za0 HG1.out hG2)
   clear hP2 hG2
   go_wp2_with fail
   refine(zcd w2 g ts ρ o HP2.out).mono ?_
   rintro x w3 ⟨rfl,hP3,hG3⟩
   have HP3:=Lib.hid hP3
   have HG3:=Lib.hid (za0 HG2.out hG3)
   clear hP3 hG3
   go_wp2_with fail
   go_ret
   exact⟨rfl,HP3.out,HG3.out⟩
  ·
   have d1:decide ((M:Int)<1)=false:=decide_eq_false (by omega)
   have d2:decide ((M:Int)>64)=true:=decide_eq_true (by omega)
   go_wp2_with fail
   refine(zcn w1 g ts σ o 3 3 rfl (by omega) HP1.out).mono ?_
   rintro x w2 ⟨rfl,hP2,hG2⟩
   rw[HE.out] at hP2
   have HP2:=Lib.hid hP2
   have HG2:=Lib.hid (za0 HG1.out hG2)
   clear hP2 hG2
   go_wp2_with fail
   refine(zcd w2 g ts ρ o HP2.out).mono ?_
   rintro x w3 ⟨rfl,hP3,hG3⟩
   have HP3:=Lib.hid hP3
   have HG3:=Lib.hid (za0 HG2.out hG3)
   clear hP3 hG3
   go_wp2_with fail
   go_ret
   exact⟨rfl,HP3.out,HG3.out⟩
 ·
  have HE:Hid (σ=ρ):=by show _=_;rw[HQ.out,if_neg hbad]
  have hP1:Pps w1 g ts ρ o:=by rw[←HE.out];exact HP1.out
  have HPR:=Lib.hid hP1
  clear hP1 HQ
  cases hK:Pa.kdS ts σ 2 with
  | true =>
   have hM:¬(M<1∨64<M):=fun h=>hbad ⟨hK,h⟩
   have d1:decide ((M:Int)<1)=false:=decide_eq_false (by omega)
   have d2:decide ((M:Int)>64)=false:=decide_eq_false (by omega)
   clear hbad hM hK
   go_wp2_with fail
   refine(zcd w1 g ts ρ o HPR.out).mono ?_
   rintro x w3 ⟨rfl,hP3,hG3⟩
   have HP3:=Lib.hid hP3
   have HG3:=Lib.hid (za0 HG1.out hG3)
   clear hP3 hG3
   go_wp2_with fail
   go_ret
   exact⟨rfl,HP3.out,HG3.out⟩
  | false =>
   clear hbad hK
   go_wp2_with fail
   refine(zcd w1 g ts ρ o HPR.out).mono ?_
   rintro x w3 ⟨rfl,hP3,hG3⟩
   have HP3:=Lib.hid hP3
   have HG3:=Lib.hid (za0 HG1.out hG3)
   clear hP3 hG3
   go_wp2_with fail
   go_ret
   exact⟨rfl,HP3.out,HG3.out⟩
def GlP (w:World) (g:Nat) (ts:List Tk.Tok) (R:Gl × Pa.Sg) (o:Nat) (e:Ending) (w':World):Prop :=
 e=.returned (.agg #[.string ⟨R.1.name.toArray⟩,.int .i64 R.1.init])∧Pps w' g ts R.2 o∧w.grownBy w' (some g)
theorem nuV_le {ts:List Tk.Tok} (hN:∀k,Ps.numAt ts k≤9223372036854775807) (σ:Pa.Sg):Pa.nuV ts σ≤9223372036854775807:=by
 unfold Pa.nuV
 split
 ·
  exact hN _
 ·
  omega
set_option maxRecDepth 100000 in
set_option maxHeartbeats 4000000 in
theorem zgi (w:World) (g:Nat) (ts:List Tk.Tok) (hN:∀k,Ps.numAt ts k≤9223372036854775807) (σ:Pa.Sg) (o:Nat) (hP:Pps w g ts σ o) :
  Calls Tryd.prog 40 #[.pointer (some ⟨g,0,none⟩)] w (GlP w g ts (Pa.sGlobal ts (Pa.xp ts σ [118,97,114])) o):=by
 have HP:=Lib.hid hP
 have HNU:=Lib.hid (fun σ=>nuV_le hN σ)
 have hgw:=hP.lt
 have hgR':w.heap.size≠g:=by omega
 clear hP hN
 go_enter Tryd.func40,Tryd.ntmps40
 go_wp2_with fail
 refine(zan _ g ts σ o [118,97,114] (HP.out.alloc _)).mono ?_
 rintro x w1 ⟨rfl,hP1,hG1⟩
 have HR1:=Lib.hid (za2 hG1 (heap_alloc_new w _) hgR')
 have HP1:=Lib.hid hP1
 have HG1:=Lib.hid (za4 hG1)
 clear hP1 hG1
 generalize Pa.xp ts σ [118,97,114]=σ1 at *
 go_wp2_with fail
 refine(zbh w1 g ts σ1 o HP1.out).mono ?_
 rintro x w2 ⟨rfl,hP2,hG2⟩
 have HR2:=Lib.hid (za2 hG2 HR1.out hgR')
 have HP2:=Lib.hid hP2
 have HG2:=Lib.hid (za0 HG1.out hG2)
 have hl2:w.heap.size<w2.heap.size:=lt_of_block HR2.out
 have hTg:w2.heap.size≠g:=by omega
 have hTR:w2.heap.size≠w.heap.size:=by omega
 clear hP2 hG2
 generalize hnm:Pa.nmV ts σ1=nm at *
 have HNM:=Lib.hid hnm
 clear hnm
 go_wp2_with fail
 refine(zaj _ g ts _ o [61] (HP2.out.alloc _)).mono ?_
 rintro x w3 ⟨rfl,hP3,hG3⟩
 have HR3:=Lib.hid (za2 hG3 ((Below.heap_alloc w2 _ _ hl2).trans HR2.out) hgR')
 have HT3:=Lib.hid (za2 hG3 (heap_alloc_new w2 _) hTg)
 have HP3:=Lib.hid hP3
 have HG3:=Lib.hid (za0 (zap HG2.out _) hG3)
 clear hP3 hG3
 cases hI:Pa.isS ts (Pa.tk ts σ1 1) [61] with
 | true =>
  have hac:Pa.ac ts (Pa.tk ts σ1 1) [61]=Pa.nx (Pa.tk ts σ1 1):=if_pos hI
  rw[hac] at HP3
  have HV:Hid (Pa.sGlobal ts σ1=(⟨nm,if Pa.isS ts (Pa.nx (Pa.tk ts σ1 1)) [45]=true then -((Pa.nuV ts (Pa.nx (Pa.nx (Pa.tk ts σ1 1))):Nat):Int) else (Pa.nuV ts (Pa.nx (Pa.tk ts σ1 1)):Nat)⟩,Pa.xp ts (Pa.tk ts (Pa.ac ts (Pa.nx (Pa.tk ts σ1 1)) [45]) 2) [59])):=by show _=_;unfold Pa.sGlobal;rw[if_pos hI,HNM.out]
  clear hac hI
  generalize Pa.nx (Pa.tk ts σ1 1)=τ at *
  go_wp2_with fail
  refine(zaj w3 g ts τ o [45] HP3.out).mono ?_
  rintro x w4 ⟨rfl,hP4,hG4⟩
  have HR4:=Lib.hid (za2 hG4 HR3.out hgR')
  have HT4:=Lib.hid (za2 hG4 HT3.out hTg)
  have HP4:=Lib.hid hP4
  have HG4:=Lib.hid (za0 HG3.out hG4)
  clear hP4 hG4
  go_wp2_with fail
  refine(zcd w4 g ts _ o HP4.out).mono ?_
  rintro x w5 ⟨rfl,hP5,hG5⟩
  have HR5:=Lib.hid (za2 hG5 HR4.out hgR')
  have HT5:=Lib.hid (za2 hG5 HT4.out hTg)
  have HP5:=Lib.hid hP5
  have HG5:=Lib.hid (za0 HG4.out hG5)
  clear hP5 hG5
  obtain⟨t0,t1,tf0,tf1,htl⟩:=blk2 HT5.out
  cases hM:Pa.isS ts τ [45] with
  | true =>
   have hac:Pa.ac ts τ [45]=Pa.nx τ:=if_pos hM
   rw[hac] at HP5 HV ⊢
   have hnu:=HNU.out (Pa.nx τ)
   have HV2:=HV.out
   rw[if_pos hM] at HV2
   replace HV2:=Lib.hid HV2
   generalize Pa.nuV ts (Pa.nx τ)=N at *
   clear hac hM HV
   go_wp2_with fail
   obtain⟨W6,hW6⟩:∃W,W=(w5.setCell ⟨w2.heap.size,1,none⟩ (.int .i64 (N:Int))).setCell ⟨w2.heap.size,1,none⟩ (.int .i64 (-(N:Int))):=⟨_,rfl⟩
   have hq6:PutAt w2.heap.size w5 W6:=by
    rw[hW6]
    exact((PutAt.refl w2.heap.size w5).set 1 _).set 1 _
   have HT6:Hid (W6.heap[w2.heap.size]?=some (.cells #[.string ⟨nm.toArray⟩,.int .i64 (-(N:Int))] 54 (0,0))):=by
    rw[hW6]
    exact zdX _ (zdX _ HT5.out)
   have HR6:=Lib.hid ((hq6.2.2.2.2 _ (by omega)).trans HR5.out)
   have HP6:=Lib.hid (HP5.out.putAt hq6 (by omega))
   have HG6:=Lib.hid (za9 HG5.out hq6 (by omega))
   rw[←hW6]
   clear hW6 hq6 t0 t1 tf0 tf1
   refine(zan W6 g ts _ o [59] HP6.out).mono ?_
   rintro x w7 ⟨rfl,hP7,hG7⟩
   obtain⟨t0,t1,-,-,-⟩:=blk2 (za2 hG7 HT6.out hTg)
   obtain⟨r0,r1,rf0,rf1,-⟩:=blk2 (za2 hG7 HR6.out hgR')
   have HP7:=Lib.hid hP7
   have HG7:=Lib.hid (za0 HG6.out hG7)
   clear hP7 hG7
   go_wp2_with fail
   have hq:PutAt w.heap.size w7 _:=((PutAt.refl w.heap.size w7).set 0 (.string ⟨nm.toArray⟩)).set 1 (.int .i64 (-(N:Int)))
   refine bodyPost_ret (v:=.agg #[.string ⟨nm.toArray⟩,.int .i64 (-(N:Int))]) (by simp[results,Tryd.results40,go_sem,r0,r1]) rfl ⟨by rw[HV2.out],?_,za9 HG7.out hq (Nat.le_refl _)⟩
   rw[HV2.out]
   exact HP7.out.putAt hq hgw
  | false =>
   have hac:Pa.ac ts τ [45]=τ:=if_neg (by rw[hM];decide)
   rw[hac] at HP5 HV ⊢
   have HV2:=HV.out
   rw[if_neg (by rw[hM];decide)] at HV2
   replace HV2:=Lib.hid HV2
   generalize Pa.nuV ts τ=N at *
   clear hac hM HV
   go_wp2_with fail
   obtain⟨W6,hW6⟩:∃W,W=w5.setCell ⟨w2.heap.size,1,none⟩ (.int .i64 (N:Int)):=⟨_,rfl⟩
   have hq6:PutAt w2.heap.size w5 W6:=by
    rw[hW6]
    exact(PutAt.refl w2.heap.size w5).set 1 _
   have HT6:Hid (W6.heap[w2.heap.size]?=some (.cells #[.string ⟨nm.toArray⟩,.int .i64 (N:Int)] 54 (0,0))):=by
    rw[hW6]
    exact zdX _ HT5.out
   have HR6:=Lib.hid ((hq6.2.2.2.2 _ (by omega)).trans HR5.out)
   have HP6:=Lib.hid (HP5.out.putAt hq6 (by omega))
   have HG6:=Lib.hid (za9 HG5.out hq6 (by omega))
   rw[←hW6]
   clear hW6 hq6 t0 t1 tf0 tf1
   refine(zan W6 g ts _ o [59] HP6.out).mono ?_
   rintro x w7 ⟨rfl,hP7,hG7⟩
   obtain⟨t0,t1,-,-,-⟩:=blk2 (za2 hG7 HT6.out hTg)
   obtain⟨r0,r1,rf0,rf1,-⟩:=blk2 (za2 hG7 HR6.out hgR')
   have HP7:=Lib.hid hP7
   have HG7:=Lib.hid (za0 HG6.out hG7)
   clear hP7 hG7
   go_wp2_with fail
   have hq:PutAt w.heap.size w7 _:=((PutAt.refl w.heap.size w7).set 0 (.string ⟨nm.toArray⟩)).set 1 (.int .i64 (N:Int))
   refine bodyPost_ret (v:=.agg #[.string ⟨nm.toArray⟩,.int .i64 (N:Int)]) (by simp[results,Tryd.results40,go_sem,r0,r1]) rfl ⟨by rw[HV2.out],?_,za9 HG7.out hq (Nat.le_refl _)⟩
   rw[HV2.out]
   exact HP7.out.putAt hq hgw
 | false =>
  have hac:Pa.ac ts (Pa.tk ts σ1 1) [61]=Pa.tk ts σ1 1:=if_neg (by rw[hI];decide)
  rw[hac] at HP3
  have HV:Hid (Pa.sGlobal ts σ1=(⟨nm,0⟩,Pa.xp ts (Pa.tk ts σ1 1) [59])):=by show _=_;unfold Pa.sGlobal;rw[if_neg (by rw[hI];decide),HNM.out]
  clear hac hI
  go_wp2_with fail
  refine(zan w3 g ts _ o [59] HP3.out).mono ?_
  rintro x w4 ⟨rfl,hP4,hG4⟩
  obtain⟨t0,t1,-,-,-⟩:=blk2 (za2 hG4 HT3.out hTg)
  obtain⟨r0,r1,rf0,rf1,-⟩:=blk2 (za2 hG4 HR3.out hgR')
  have HP4:=Lib.hid hP4
  have HG4:=Lib.hid (za0 HG3.out hG4)
  clear hP4 hG4
  go_wp2_with fail
  have hq:PutAt w.heap.size w4 _:=((PutAt.refl w.heap.size w4).set 0 (.string ⟨nm.toArray⟩)).set 1 (.int .i64 0)
  refine bodyPost_ret (v:=.agg #[.string ⟨nm.toArray⟩,.int .i64 0]) (by simp[results,Tryd.results40,go_sem,r0,r1]) rfl ⟨by rw[HV.out],?_,za9 HG4.out hq (Nat.le_refl _)⟩
  rw[HV.out]
  exact HP4.out.putAt hq hgw
theorem zfg {w:World} {X:Nat} {c0 c1 c2:Value} {t:TypeId} (u:Value) (h:w.heap[X]?=some (.cells #[c0,c1,c2] t (0,0))):(w.setCell ⟨X,0,none⟩ u).heap[X]?=some (.cells #[u,c1,c2] t (0,0)):=za8 0 u h
theorem zhf {w:World} {X:Nat} {c0 c1 c2:Value} {t:TypeId} (u:Value) (h:w.heap[X]?=some (.cells #[c0,c1,c2] t (0,0))):(w.setCell ⟨X,2,none⟩ u).heap[X]?=some (.cells #[c0,c1,u] t (0,0)):=za8 2 u h
theorem zff {w:World} {X:Nat} {c0 c1 c2:Value} {t:TypeId} (u:Value) (h:w.heap[X]?=some (.cells #[c0,c1,c2] t (0,0))):(w.setCell ⟨X,1,none⟩ u).heap[X]?=some (.cells #[c0,u,c2] t (0,0)):=za8 1 u h
def MxP (w:World) (g:Nat) (ts:List Tk.Tok) (R:Mx × Pa.Sg) (o:Nat) (e:Ending) (w':World):Prop :=
 ∃(nm:List UInt8) (re:Bool) (sz:Nat),e=.returned (.agg #[.string ⟨nm.toArray⟩,.bool re,.int .i64 (sz:Int)])∧(R.2.live=true→R.1=⟨nm,re,sz⟩)∧Pps w' g ts R.2 o∧w.grownBy w' (some g)
def mxS (ts:List Tk.Tok) (σ:Pa.Sg):Pa.Sg:=if Pa.isS ts σ [114,109,117,116,101,120]=true then Pa.nx σ else Pa.xp ts σ [109,117,116,101,120]
set_option maxRecDepth 100000 in
set_option maxHeartbeats 4000000 in
theorem zeI (w:World) (g:Nat) (ts:List Tk.Tok) (σ:Pa.Sg) (o:Nat) (hP:Pps w g ts σ o) :
  Calls Tryd.prog 41 #[.pointer (some ⟨g,0,none⟩)] w (MxP w g ts (Pa.sMutex ts (Pa.isS ts σ [114,109,117,116,101,120]) (mxS ts σ)) o):=by
 have HP:=Lib.hid hP
 have hgw:=hP.lt
 have hgR':w.heap.size≠g:=by omega
 clear hP
 go_enter Tryd.func41,Tryd.ntmps41
 go_wp2_with fail
 refine(zaj _ g ts σ o [114,109,117,116,101,120] (HP.out.alloc _)).mono ?_
 rintro x w1 ⟨rfl,hP1,hG1⟩
 have HR1:=Lib.hid (za2 hG1 (heap_alloc_new w _) hgR')
 have HP1:=Lib.hid hP1
 have HG1:=Lib.hid (za4 hG1)
 have hl1:w.heap.size<w1.heap.size:=lt_of_block HR1.out
 have hTg:w1.heap.size≠g:=by omega
 have hTR:w1.heap.size≠w.heap.size:=by omega
 clear hP1 hG1
 cases hI:Pa.isS ts σ [114,109,117,116,101,120] with
 | true =>
  have hac:Pa.ac ts σ [114,109,117,116,101,120]=Pa.nx σ:=if_pos hI
  have HM:Hid (mxS ts σ=Pa.nx σ):=if_pos hI
  rw[hac] at HP1
  have HI:=Lib.hid hI
  clear hac hI
  go_wp2_with fail
  refine(zbh _ g ts _ o (HP1.out.alloc _)).mono ?_
  rintro x w2 ⟨rfl,hP2,hG2⟩
  have HR2:=Lib.hid (za2 hG2 ((Below.heap_alloc w1 _ _ hl1).trans HR1.out) hgR')
  have HT2:=Lib.hid (za2 hG2 (heap_alloc_new w1 _) hTg)
  have HP2:=Lib.hid hP2
  have HG2:=Lib.hid (za0 (zap HG1.out _) hG2)
  clear hP2 hG2
  have HV:Hid (Pa.sMutex ts (Pa.isS ts σ [114,109,117,116,101,120]) (mxS ts σ)=(⟨Pa.nmV ts (Pa.nx σ),true,0⟩,Pa.xp ts (Pa.tk ts (Pa.nx σ) 1) [59])):=by show _=_;rw[HI.out,HM.out];unfold Pa.sMutex;rw[if_neg (fun h=>by cases h.1)]
  generalize Pa.nmV ts (Pa.nx σ)=nm at *
  generalize Pa.tk ts (Pa.nx σ) 1=τ at *
  obtain⟨t0,t1,t2,tf,htl⟩:=blk3 HT2.out
  have u0:=tf 0
  clear tf
  go_wp2_with fail
  obtain⟨W3,hW3⟩:∃W,W=w2.setCell ⟨w1.heap.size,0,none⟩ (.string ⟨nm.toArray⟩):=⟨_,rfl⟩
  have hq3:PutAt w1.heap.size w2 W3:=by
   rw[hW3]
   exact(PutAt.refl w1.heap.size w2).set 0 _
  have HT7:Hid (W3.heap[w1.heap.size]?=some (.cells #[.string ⟨nm.toArray⟩,.bool true,.int .i64 0] 51 (0,0))):=by
   rw[hW3]
   exact zfg _ HT2.out
  have HR7:=Lib.hid ((hq3.2.2.2.2 _ (by omega)).trans HR2.out)
  have HP3:=Lib.hid (HP2.out.putAt hq3 (by omega))
  have HG7:=Lib.hid (za9 HG2.out hq3 (by omega))
  rw[←hW3]
  clear hW3 hq3 t0 t1 t2 u0
  refine(zan W3 g ts _ o [59] HP3.out).mono ?_
  rintro x w8 ⟨rfl,hP8,hG8⟩
  obtain⟨t0,t1,t2,-,-⟩:=blk3 (za2 hG8 HT7.out hTg)
  obtain⟨r0,r1,r2,rf,-⟩:=blk3 (za2 hG8 HR7.out hgR')
  have f0:=rf 0
  have f1:=rf 1
  have f2:=rf 2
  have HP8:=Lib.hid hP8
  have HG8:=Lib.hid (za0 HG7.out hG8)
  clear hP8 hG8 rf
  go_wp2_with fail
  have hq:PutAt w.heap.size w8 _:=(((PutAt.refl w.heap.size w8).set 0 (.string ⟨nm.toArray⟩)).set 1 (.bool true)).set 2 (.int .i64 0)
  refine bodyPost_ret (v:=.agg #[.string ⟨nm.toArray⟩,.bool true,.int .i64 0]) (by simp[results,Tryd.results41,go_sem,r0,r1,r2]) rfl ⟨nm,true,0,rfl,fun _=>by rw[HV.out],?_,za9 HG8.out hq (Nat.le_refl _)⟩
  rw[HV.out]
  exact HP8.out.putAt hq hgw
 | false =>
  have hac:Pa.ac ts σ [114,109,117,116,101,120]=σ:=if_neg (by rw[hI];decide)
  have HM:Hid (mxS ts σ=Pa.xp ts σ [109,117,116,101,120]):=if_neg (by rw[hI];decide)
  rw[hac] at HP1
  have HI:=Lib.hid hI
  clear hac hI
  go_wp2_with fail
  refine(zan _ g ts σ o [109,117,116,101,120] (HP1.out.alloc _)).mono ?_
  rintro x wa ⟨rfl,hPa,hGa⟩
  have HRa:=Lib.hid (za2 hGa ((Below.heap_alloc w1 _ _ hl1).trans HR1.out) hgR')
  have HTa:=Lib.hid (za2 hGa (heap_alloc_new w1 _) hTg)
  have HPa:=Lib.hid hPa
  have HGa:=Lib.hid (za0 (zap HG1.out _) hGa)
  clear hPa hGa
  rw[←HM.out] at HPa
  generalize mxS ts σ=σ1 at *
  clear HM
  go_wp2_with fail
  refine(zbh wa g ts _ o HPa.out).mono ?_
  rintro x w2 ⟨rfl,hP2,hG2⟩
  have HR2:=Lib.hid (za2 hG2 HRa.out hgR')
  have HT2:=Lib.hid (za2 hG2 HTa.out hTg)
  have HP2:=Lib.hid hP2
  have HG2:=Lib.hid (za0 HGa.out hG2)
  clear hP2 hG2
  generalize hnm:Pa.nmV ts σ1=nm at *
  have HNM:=Lib.hid hnm
  clear hnm
  obtain⟨t0,t1,t2,tf,htl⟩:=blk3 HT2.out
  have u0:=tf 0
  clear tf
  go_wp2_with fail
  obtain⟨W3,hW3⟩:∃W,W=w2.setCell ⟨w1.heap.size,0,none⟩ (.string ⟨nm.toArray⟩):=⟨_,rfl⟩
  have hq3:PutAt w1.heap.size w2 W3:=by
   rw[hW3]
   exact(PutAt.refl w1.heap.size w2).set 0 _
  have HT3:Hid (W3.heap[w1.heap.size]?=some (.cells #[.string ⟨nm.toArray⟩,.bool false,.int .i64 0] 51 (0,0))):=by
   rw[hW3]
   exact zfg _ HT2.out
  have HR3:=Lib.hid ((hq3.2.2.2.2 _ (by omega)).trans HR2.out)
  have HP3:=Lib.hid (HP2.out.putAt hq3 (by omega))
  have HG3:=Lib.hid (za9 HG2.out hq3 (by omega))
  rw[←hW3]
  clear hW3 hq3 t0 t1 t2 u0
  refine(zaj W3 g ts _ o [91] HP3.out).mono ?_
  rintro x w4 ⟨rfl,hP4,hG4⟩
  have HR4:=Lib.hid (za2 hG4 HR3.out hgR')
  have HT4:=Lib.hid (za2 hG4 HT3.out hTg)
  have HP4:=Lib.hid hP4
  have HG4:=Lib.hid (za0 HG3.out hG4)
  clear hP4 hG4
  cases hB:Pa.isS ts (Pa.tk ts σ1 1) [91] with
  | true =>
   have hac:Pa.ac ts (Pa.tk ts σ1 1) [91]=Pa.nx (Pa.tk ts σ1 1):=if_pos hB
   rw[hac] at HP4
   have HV:Hid (Pa.sMutex ts (Pa.isS ts σ [114,109,117,116,101,120]) σ1=(⟨nm,false,Pa.nuV ts (Pa.nx (Pa.tk ts σ1 1))⟩,Pa.xp ts (Pa.xp ts (Pa.szS ts (Pa.nx (Pa.tk ts σ1 1))) [93]) [59])):=by show _=_;rw[HI.out];unfold Pa.sMutex;rw[if_pos ⟨rfl,hB⟩,HNM.out]
   clear hac hB
   generalize Pa.nx (Pa.tk ts σ1 1)=τ at *
   go_wp2_with fail
   refine(ziA w4 g ts τ o HP4.out).mono ?_
   rintro x w5 ⟨rfl,hP5,hG5⟩
   have HR5:=Lib.hid (za2 hG5 HR4.out hgR')
   have HT5:=Lib.hid (za2 hG5 HT4.out hTg)
   have HP5:=Lib.hid hP5
   have HG5:=Lib.hid (za0 HG4.out hG5)
   clear hP5 hG5
   have HSZ:Hid ((Pa.szS ts τ).live=true→Pa.nuV ts (szP ts τ)=Pa.nuV ts τ):=fun h=>by
    rw[szS_eq] at h
    have h1:=(Pa.tk_fws ts (szP ts τ) 2 h).1
    unfold szP at h1 ⊢
    split
    ·
     rename_i hb
     rw[if_pos hb,Pa.fl_dead] at h1
     cases h1
    ·
     rfl
   generalize hN:Pa.nuV ts (szP ts τ)=N at *
   clear hN
   obtain⟨t0,t1,t2,tf,htl⟩:=blk3 HT5.out
   have u2:=tf 2
   clear tf
   go_wp2_with fail
   obtain⟨W6,hW6⟩:∃W,W=w5.setCell ⟨w1.heap.size,2,none⟩ (.int .i64 (N:Int)):=⟨_,rfl⟩
   have hq6:PutAt w1.heap.size w5 W6:=by
    rw[hW6]
    exact(PutAt.refl w1.heap.size w5).set 2 _
   have HT6:Hid (W6.heap[w1.heap.size]?=some (.cells #[.string ⟨nm.toArray⟩,.bool false,.int .i64 (N:Int)] 51 (0,0))):=by
    rw[hW6]
    exact zhf _ HT5.out
   have HR6:=Lib.hid ((hq6.2.2.2.2 _ (by omega)).trans HR5.out)
   have HP6:=Lib.hid (HP5.out.putAt hq6 (by omega))
   have HG6:=Lib.hid (za9 HG5.out hq6 (by omega))
   rw[←hW6]
   clear hW6 hq6 t0 t1 t2 u2
   refine(zan W6 g ts _ o [93] HP6.out).mono ?_
   rintro x w7 ⟨rfl,hP7,hG7⟩
   have HR7:=Lib.hid (za2 hG7 HR6.out hgR')
   have HT7:=Lib.hid (za2 hG7 HT6.out hTg)
   have HP7:=Lib.hid hP7
   have HG7:=Lib.hid (za0 HG6.out hG7)
   clear hP7 hG7
   go_wp2_with fail
   refine(zan w7 g ts _ o [59] HP7.out).mono ?_
   rintro x w8 ⟨rfl,hP8,hG8⟩
   obtain⟨t0,t1,t2,-,-⟩:=blk3 (za2 hG8 HT7.out hTg)
   obtain⟨r0,r1,r2,rf,-⟩:=blk3 (za2 hG8 HR7.out hgR')
   have f0:=rf 0
   have f1:=rf 1
   have f2:=rf 2
   have HP8:=Lib.hid hP8
   have HG8:=Lib.hid (za0 HG7.out hG8)
   clear hP8 hG8 rf
   go_wp2_with fail
   have hq:PutAt w.heap.size w8 _:=(((PutAt.refl w.heap.size w8).set 0 (.string ⟨nm.toArray⟩)).set 1 (.bool false)).set 2 (.int .i64 (N:Int))
   refine bodyPost_ret (v:=.agg #[.string ⟨nm.toArray⟩,.bool false,.int .i64 (N:Int)]) (by simp[results,Tryd.results41,go_sem,r0,r1,r2]) rfl ⟨nm,false,N,rfl,fun h=>by rw[HV.out] at h ⊢;have h1:=(Pa.xp_fws ts _ _ h).1;have h2:=(Pa.xp_fws ts _ _ h1).1;rw[HSZ.out h2],?_,za9 HG8.out hq (Nat.le_refl _)⟩
   rw[HV.out]
   exact HP8.out.putAt hq hgw
  | false =>
   have hac:Pa.ac ts (Pa.tk ts σ1 1) [91]=Pa.tk ts σ1 1:=if_neg (by rw[hB];decide)
   rw[hac] at HP4
   have HV:Hid (Pa.sMutex ts (Pa.isS ts σ [114,109,117,116,101,120]) σ1=(⟨nm,false,0⟩,Pa.xp ts (Pa.tk ts σ1 1) [59])):=by show _=_;rw[HI.out];unfold Pa.sMutex;rw[if_neg (fun h=>by rw[h.2] at hB;cases hB),HNM.out]
   clear hac hB
   have HR7:=HR4
   have HT7:=HT4
   have HG7:=HG4
   go_wp2_with fail
   refine(zan w4 g ts _ o [59] HP4.out).mono ?_
   rintro x w8 ⟨rfl,hP8,hG8⟩
   obtain⟨t0,t1,t2,-,-⟩:=blk3 (za2 hG8 HT7.out hTg)
   obtain⟨r0,r1,r2,rf,-⟩:=blk3 (za2 hG8 HR7.out hgR')
   have f0:=rf 0
   have f1:=rf 1
   have f2:=rf 2
   have HP8:=Lib.hid hP8
   have HG8:=Lib.hid (za0 HG7.out hG8)
   clear hP8 hG8 rf
   go_wp2_with fail
   have hq:PutAt w.heap.size w8 _:=(((PutAt.refl w.heap.size w8).set 0 (.string ⟨nm.toArray⟩)).set 1 (.bool false)).set 2 (.int .i64 0)
   refine bodyPost_ret (v:=.agg #[.string ⟨nm.toArray⟩,.bool false,.int .i64 0]) (by simp[results,Tryd.results41,go_sem,r0,r1,r2]) rfl ⟨nm,false,0,rfl,fun _=>by rw[HV.out],?_,za9 HG8.out hq (Nat.le_refl _)⟩
   rw[HV.out]
   exact HP8.out.putAt hq hgw
end Go.Proofs.YtlnbmmgbfgmboaaDoor

namespace Go.Proofs.YtlnbmmgbfgmboaaDoor
open Go.RowKit
def FnP (w:World) (g:Nat) (ts:List Tk.Tok) (R:Fn × Pa.Sg) (o:Nat) (e:Ending) (w':World):Prop :=
 ∃A c B d,e=.returned (.agg #[.string ⟨R.1.name.toArray⟩,.slice A R.1.ps.length c,.slice B R.1.body.length d])∧PmsM w' (w.heap.size≤·) R.1.ps A∧StsM w' (w.heap.size≤·) R.1.body B∧Pps w' g ts R.2 o∧w.grownBy w' (some g)
theorem PmsM.keep {w w':World} {S:Nat→Prop} {l:List Pm} {A:Option Addr} (h:PmsM w S l A) (hk:∀b,S b→b<w.heap.size→w'.heap[b]?=w.heap[b]?):PmsM w' S l A:=by
 intro i hi
 obtain⟨b,off,e,hb,h0,h1⟩:=h i hi
 have e1:∀o',w'.cell? ⟨b,o',none⟩=w.cell? ⟨b,o',none⟩:=fun o'=>World.cell?_of_block (hk b hb (World.block_lt_of_cell? _ _ h0))
 exact⟨b,off,e,hb,(e1 _).trans h0,(e1 _).trans h1⟩
theorem PmsM.more {w:World} {S S':Nat→Prop} {l:List Pm} {A:Option Addr} (h:PmsM w S l A) (hs:∀b,S b→b<w.heap.size→S' b):PmsM w S' l A:=by
 intro i hi
 obtain⟨b,off,e,hb,h0,h1⟩:=h i hi
 exact⟨b,off,e,hs b hb (World.block_lt_of_cell? _ _ h0),h0,h1⟩
theorem PmsM.putAt {w w':World} {r N:Nat} {l:List Pm} {A:Option Addr} (h:PmsM w (N≤·) l A) (hp:PutAt r w w') (hr:r<N):PmsM w' (N≤·) l A:=h.keep fun b hb _=>hp.2.2.2.2 b (by omega)
theorem PmsM.gr {w w':World} {g N:Nat} {l:List Pm} {A:Option Addr} (h:PmsM w (N≤·) l A) (hG:w.grownBy w' (some g)) (hg:g<N):PmsM w' (N≤·) l A:=h.keep fun b hb hl=>hG.block b hl (fun e=>by injection e with e;omega)
set_option maxRecDepth 100000 in
set_option maxHeartbeats 4000000 in
theorem ziH (w:World) (g:Nat) (ts:List Tk.Tok) (σ:Pa.Sg) (hP:Pps w g ts σ 0) (hS:SgG w g) :
  Calls Tryd.prog 42 #[.pointer (some ⟨g,0,none⟩)] w (FnP w g ts (Pa.sFunc ts (Pa.xp ts σ [102,117,110,99])) 0):=by
 have HP:=Lib.hid hP
 have HS:=Lib.hid hS
 have hgw:=hP.lt
 have hgR':w.heap.size≠g:=by omega
 clear hP hS
 go_enter Tryd.func42,Tryd.ntmps42
 go_wp2_with fail
 refine(zan _ g ts σ 0 [102,117,110,99] (HP.out.alloc _)).mono ?_
 rintro x w1 ⟨rfl,hP1,hG1⟩
 have HR1:=Lib.hid (za2 hG1 (heap_alloc_new w _) hgR')
 have HP1:=Lib.hid hP1
 have HG1:=Lib.hid (za4 hG1)
 clear hP1 hG1
 generalize Pa.xp ts σ [102,117,110,99]=σ1 at *
 go_wp2_with fail
 refine(zbh w1 g ts σ1 0 HP1.out).mono ?_
 rintro x w2 ⟨rfl,hP2,hG2⟩
 have HR2:=Lib.hid (za2 hG2 HR1.out hgR')
 have HP2:=Lib.hid hP2
 have HG2:=Lib.hid (za0 HG1.out hG2)
 have hl2:w.heap.size<w2.heap.size:=lt_of_block HR2.out
 have hTg:w2.heap.size≠g:=by omega
 have hTR:w2.heap.size≠w.heap.size:=by omega
 clear hP2 hG2
 have HV:Hid (Pa.sFunc ts σ1=(⟨Pa.nmV ts σ1,(Pa.sParams ts (Pa.tk ts σ1 1)).1,(Pa.sBlock ts 25 0 (Pa.sParams ts (Pa.tk ts σ1 1)).2).1⟩,(Pa.sBlock ts 25 0 (Pa.sParams ts (Pa.tk ts σ1 1)).2).2)):=rfl
 generalize Pa.nmV ts σ1=nm at *
 generalize Pa.tk ts σ1 1=τ at *
 go_wp2_with fail
 refine(zgg _ g ts τ 0 (HP2.out.alloc _)).mono ?_
 rintro x w3 ⟨A,c,rfl,hX3,hP3,hG3⟩
 have HR3:=Lib.hid (za2 hG3 ((Below.heap_alloc w2 _ _ hl2).trans HR2.out) hgR')
 have HT3:=Lib.hid (za2 hG3 (heap_alloc_new w2 _) hTg)
 have HX3:Hid (PmsM w3 (w2.heap.size+1≤·) (Pa.sParams ts τ).1 A):=hX3.more fun b hb _=>by simp at hb;omega
 have HP3:=Lib.hid hP3
 have HG3:=Lib.hid (za0 (zap HG2.out _) hG3)
 clear hP3 hG3 hX3
 generalize (Pa.sParams ts τ).1=ps at *
 generalize (Pa.sParams ts τ).2=τ2 at *
 obtain⟨t0,t1,t2,tf,htl⟩:=blk3 HT3.out
 have u1:=tf 1
 clear tf
 go_wp2_with fail
 obtain⟨W4,hW4⟩:∃W,W=w3.setCell ⟨w2.heap.size,1,none⟩ (.slice A ps.length c):=⟨_,rfl⟩
 have hq4:PutAt w2.heap.size w3 W4:=by
  rw[hW4]
  exact(PutAt.refl w2.heap.size w3).set 1 _
 have HT4:Hid (W4.heap[w2.heap.size]?=some (.cells #[.string ⟨nm.toArray⟩,.slice A ps.length c,.slice none 0 0] 58 (0,0))):=by
  rw[hW4]
  exact zff _ HT3.out
 have HR4:=Lib.hid ((hq4.2.2.2.2 _ (by omega)).trans HR3.out)
 have HX4:=Lib.hid (HX3.out.putAt hq4 (by omega))
 have HP4:=Lib.hid (HP3.out.putAt hq4 (by omega))
 have HG4:=Lib.hid (za9 HG3.out hq4 (by omega))
 have hl4:w2.heap.size<W4.heap.size:=lt_of_block HT4.out
 rw[←hW4]
 clear hW4 hq4 t0 t1 t2 u1
 refine(zhE g ts 25 0 rfl (by omega) W4 τ2 HP4.out (HS.out.grown HG4.out)).mono ?_
 rintro x w5 ⟨B,d,rfl,hY5,hP5,hG5⟩
 have HR5:=Lib.hid (za2 hG5 HR4.out hgR')
 have HT5:=Lib.hid (za2 hG5 HT4.out hTg)
 have HX5:=Lib.hid (HX4.out.gr hG5 (by omega))
 have HY5:Hid (StsM w5 (w2.heap.size+1≤·) (Pa.sBlock ts 25 0 τ2).1 B):=hY5.more fun b hb _=>by omega
 have HP5:=Lib.hid hP5
 have HG5:=Lib.hid (za0 HG4.out hG5)
 clear hP5 hG5 hY5
 generalize (Pa.sBlock ts 25 0 τ2).1=l at *
 generalize (Pa.sBlock ts 25 0 τ2).2=τ3 at *
 obtain⟨t0,t1,t2,tf,htl⟩:=blk3 HT5.out
 have u2:=tf 2
 obtain⟨r0,r1,r2,rf,-⟩:=blk3 HR5.out
 have f0:=rf 0
 have f1:=rf 1
 have f2:=rf 2
 clear tf rf
 have HQ3:=Lib.hid (show PutAt w2.heap.size w5 (w5.setCell ⟨w2.heap.size,2,none⟩ (.slice B l.length d)) from (PutAt.refl w2.heap.size w5).set 2 _)
 go_wp2_with fail
 have hq:PutAt w.heap.size (w5.setCell ⟨w2.heap.size,2,none⟩ (.slice B l.length d)) _:=(((PutAt.refl w.heap.size (w5.setCell ⟨w2.heap.size,2,none⟩ (.slice B l.length d))).set 0 (.string ⟨nm.toArray⟩)).set 1 (.slice A ps.length c)).set 2 (.slice B l.length d)
 refine bodyPost_ret (v:=.agg #[.string ⟨nm.toArray⟩,.slice A ps.length c,.slice B l.length d]) (by simp[results,Tryd.results42,go_sem,r0,r1,r2]) rfl ⟨A,c,B,d,by rw[HV.out],?_,?_,?_,za9 (za9 HG5.out HQ3.out (by omega)) hq (Nat.le_refl _)⟩
 ·
  rw[HV.out]
  exact((HX5.out.putAt HQ3.out (by omega)).putAt hq (by omega)).more fun b hb _=>by omega
 ·
  rw[HV.out]
  exact((HY5.out.putAt HQ3.out (by omega)).putAt hq (by omega)).more fun b hb _=>by omega
 ·
  rw[HV.out]
  exact(HP5.out.putAt HQ3.out (by omega)).putAt hq hgw
end Go.Proofs.YtlnbmmgbfgmboaaDoor

namespace Go.Proofs.YtlnbmmgbfgmboaaDoor
open Go.RowKit
def glK:RowK Gl where
 cl:=fun p=>[.string ⟨p.name.toArray⟩,.int .i64 p.init]
 sz:=2
 hsz:=fun _=>rfl
 one:=fun p u hu=>by
  simp at hu
  rcases hu with rfl|rfl<;>rfl
 In:=fun _ _ _=>True
 keep:=fun _ _=>trivial
 more:=fun _ _=>trivial
def mxK:RowK Mx where
 cl:=fun p=>[.string ⟨p.name.toArray⟩,.bool p.re,.int .i64 (p.size:Int)]
 sz:=3
 hsz:=fun _=>rfl
 one:=fun p u hu=>by
  simp at hu
  rcases hu with rfl|rfl|rfl<;>rfl
 In:=fun _ _ _=>True
 keep:=fun _ _=>trivial
 more:=fun _ _=>trivial
structure FnG where
 A:Option Addr
 c:Nat
 B:Option Addr
 d:Nat
def fnK:RowK (Fn × FnG) where
 cl:=fun p=>[.string ⟨p.1.name.toArray⟩,.slice p.2.A p.1.ps.length p.2.c,.slice p.2.B p.1.body.length p.2.d]
 sz:=3
 hsz:=fun _=>rfl
 one:=fun p u hu=>by
  simp at hu
  rcases hu with rfl|rfl|rfl<;>rfl
 In:=fun w S p=>PmsM w S p.1.ps p.2.A∧StsM w S p.1.body p.2.B
 keep:=fun h hk=>⟨h.1.keep hk,h.2.keep hk⟩
 more:=fun h hs=>⟨h.1.more hs,h.2.more hs⟩
def Dj (a b:Value):Prop:=a.ownBlock=none∨a.ownBlock≠b.ownBlock
theorem Dj.symm {a b:Value} (h:Dj a b):Dj b a:=by
 rcases h with h|h
 ·
  cases hb:b.ownBlock with
  | none=>exact .inl hb
  | some k=>exact .inr (by rw[h,hb];intro e;cases e)
 ·
  exact .inr h.symm
def S3 (B:Nat) (a b c:Value) (n:Nat):Prop:=B≤n∧some n≠a.ownBlock∧some n≠b.ownBlock∧some n≠c.ownBlock
structure PgR (w:World) (B:Nat) (vG vM vF:Value) (PG:List Gl) (PM:List Mx) (PF:List (Fn × FnG)):Prop where
 rG:w.ownsRow B 54 2 vG PG.length (glK.cs PG)
 rM:w.ownsRow B 51 3 vM PM.length (mxK.cs PM)
 rF:w.ownsRow B 58 3 vF PF.length (fnK.cs PF)
 inF:∀p∈PF,fnK.In w (S3 B vG vM vF) p
 gm:Dj vG vM
 gf:Dj vG vF
 mf:Dj vM vF
theorem zef {w w':World} {B n size:Nat} {t:TypeId} {v:Value} {xs:List Value} (h:w.ownsRow B t size v n xs) (hk:∀b,B≤b→b<w.heap.size→w'.heap[b]?=w.heap[b]?):w'.ownsRow B t size v n xs:=by
 refine⟨h.1,?_⟩
 rcases h.2 with h0|⟨g,cap,cur,e,hg,hb,r⟩
 ·
  exact .inl h0
 ·
  exact .inr ⟨g,cap,cur,e,hg,(hk g hg (lt_of_block hb)).trans hb,r⟩
theorem PgR.nil (w:World) (B:Nat):PgR w B (.slice none 0 0) (.slice none 0 0) (.slice none 0 0) [] [] [] :=
 ⟨World.ownsRow_nil _ _ _ _,World.ownsRow_nil _ _ _ _,World.ownsRow_nil _ _ _ _,fun p h=>absurd h (by simp),.inl rfl,.inl rfl,.inl rfl⟩
theorem PgR.keep {w w':World} {B:Nat} {vG vM vF:Value} {PG:List Gl} {PM:List Mx} {PF:List (Fn × FnG)} (h:PgR w B vG vM vF PG PM PF) (hk:∀b,B≤b→b<w.heap.size→w'.heap[b]?=w.heap[b]?):PgR w' B vG vM vF PG PM PF :=
 ⟨zef h.rG hk,zef h.rM hk,zef h.rF hk,fun p hp=>fnK.keep (h.inF p hp) fun b hb hl=>hk b hb.1 hl,h.gm,h.gf,h.mf⟩
theorem PgR.grown {w w':World} {B g:Nat} {vG vM vF:Value} {PG:List Gl} {PM:List Mx} {PF:List (Fn × FnG)} (h:PgR w B vG vM vF PG PM PF) (hG:w.grownBy w' (some g)) (hg:g<B):PgR w' B vG vM vF PG PM PF :=
 h.keep fun b hb hl=>hG.block b hl (fun e=>by injection e with e;omega)
theorem PgR.alloc {w:World} {B:Nat} {vG vM vF:Value} {PG:List Gl} {PM:List Mx} {PF:List (Fn × FnG)} (h:PgR w B vG vM vF PG PM PF) (o:Obj):PgR (w.alloc o) B vG vM vF PG PM PF:=h.keep fun b _ hl=>Below.heap_alloc w o b hl
theorem PgR.putAt {w w':World} {B r:Nat} {vG vM vF:Value} {PG:List Gl} {PM:List Mx} {PF:List (Fn × FnG)} (h:PgR w B vG vM vF PG PM PF) (hp:PutAt r w w') (hr:r<B):PgR w' B vG vM vF PG PM PF:=h.keep fun b hb _=>hp.2.2.2.2 b (by omega)
def Grw (w:World) (v v':Value):Prop:=v'.ownBlock=v.ownBlock∨∃k,v'.ownBlock=some k∧w.heap.size≤k
theorem Dj.grw {w:World} {B n size:Nat} {t:TypeId} {a a' b:Value} {xs:List Value} (h:Dj a b) (hg:Grw w a a') (hb:w.ownsRow B t size b n xs):Dj a' b:=by
 rcases hg with e|⟨k,e,hk⟩
 ·
  unfold Dj
  rw[e]
  exact h
 ·
  refine .inr ?_
  rw[e]
  intro e2
  have:=(hb.lt k e2.symm).2
  omega
theorem ziX {w:World} {a a':Value} {n:Nat} (hg:Grw w a a') (h:some n≠a.ownBlock) (hl:n<w.heap.size):some n≠a'.ownBlock:=by
 rcases hg with e|⟨k,e,hk⟩
 ·
  rw[e]
  exact h
 ·
  rw[e]
  intro e2
  injection e2 with e2
  omega
theorem PgR.snocG {w w':World} {B:Nat} {vG vM vF v':Value} {PG:List Gl} {PM:List Mx} {PF:List (Fn × FnG)} (h:PgR w B vG vM vF PG PM PF) (a:Gl) (ho:w'.ownsRow B 54 2 v' (PG.length+1) (glK.cs PG++glK.cl a)) (hg:w.grownBy w' vG.ownBlock) (hv:Grw w vG v'):PgR w' B v' vM vF (PG++[a]) PM PF:=by
 refine⟨?_,h.rM.kept hg h.gm.symm,h.rF.kept hg h.gf.symm,fun p hp=>?_,h.gm.grw hv h.rM,h.gf.grw hv h.rF,h.mf⟩
 ·
  rw[glK.cs_snoc,List.length_append]
  exact ho
 ·
  have h1:fnK.In w' (fun b=>S3 B vG vM vF b∧b<w.heap.size) p:=fnK.keep (fnK.more (h.inF p hp) (fun b hb hl=>⟨hb,hl⟩)) fun b hb hl=>hg.block b hl hb.1.2.1
  exact fnK.more h1 fun b hb _=>⟨hb.1.1,ziX hv hb.1.2.1 hb.2,hb.1.2.2.1,hb.1.2.2.2⟩
theorem PgR.snocM {w w':World} {B:Nat} {vG vM vF v':Value} {PG:List Gl} {PM:List Mx} {PF:List (Fn × FnG)} (h:PgR w B vG vM vF PG PM PF) (a:Mx) (ho:w'.ownsRow B 51 3 v' (PM.length+1) (mxK.cs PM++mxK.cl a)) (hg:w.grownBy w' vM.ownBlock) (hv:Grw w vM v'):PgR w' B vG v' vF PG (PM++[a]) PF:=by
 refine⟨h.rG.kept hg h.gm,?_,h.rF.kept hg h.mf.symm,fun p hp=>?_,(h.gm.symm.grw hv h.rG).symm,h.gf,h.mf.grw hv h.rF⟩
 ·
  rw[mxK.cs_snoc,List.length_append]
  exact ho
 ·
  have h1:fnK.In w' (fun b=>S3 B vG vM vF b∧b<w.heap.size) p:=fnK.keep (fnK.more (h.inF p hp) (fun b hb hl=>⟨hb,hl⟩)) fun b hb hl=>hg.block b hl hb.1.2.2.1
  exact fnK.more h1 fun b hb _=>⟨hb.1.1,hb.1.2.1,ziX hv hb.1.2.2.1 hb.2,hb.1.2.2.2⟩
theorem PgR.snocF {w w':World} {B:Nat} {vG vM vF v':Value} {PG:List Gl} {PM:List Mx} {PF:List (Fn × FnG)} (h:PgR w B vG vM vF PG PM PF) (a:Fn × FnG) (ha:fnK.In w (S3 B vG vM vF) a) (ho:w'.ownsRow B 58 3 v' (PF.length+1) (fnK.cs PF++fnK.cl a)) (hg:w.grownBy w' vF.ownBlock) (hv:Grw w vF v'):PgR w' B vG vM v' PG PM (PF++[a]):=by
 have hin:∀p,fnK.In w (S3 B vG vM vF) p→fnK.In w' (S3 B vG vM v') p:=fun p hp=>by
  have h1:fnK.In w' (fun b=>S3 B vG vM vF b∧b<w.heap.size) p:=fnK.keep (fnK.more hp (fun b hb hl=>⟨hb,hl⟩)) fun b hb hl=>hg.block b hl hb.1.2.2.2
  exact fnK.more h1 fun b hb _=>⟨hb.1.1,hb.1.2.1,hb.1.2.2.1,ziX hv hb.1.2.2.2 hb.2⟩
 refine⟨h.rG.kept hg h.gf,h.rM.kept hg h.mf,?_,fun p hp=>?_,h.gm,(h.gf.symm.grw hv h.rG).symm,(h.mf.symm.grw hv h.rM).symm⟩
 ·
  rw[fnK.cs_snoc,List.length_append]
  exact ho
 ·
  rcases List.mem_append.1 hp with h1|h1
  ·
   exact hin p (h.inF p h1)
  ·
   rw[List.mem_singleton.1 h1]
   exact hin a ha
theorem PgR.fresh {w0 w:World} {B N:Nat} {vG vM vF:Value} {PG:List Gl} {PM:List Mx} {PF:List (Fn × FnG)} {a:Fn × FnG} (h:PgR w0 B vG vM vF PG PM PF) (hi:fnK.In w (N≤·) a) (hN:w0.heap.size≤N) (hB:B≤N):fnK.In w (S3 B vG vM vF) a :=
 fnK.more hi fun b hb _=>⟨by omega,fun e=>by have:=(h.rG.lt b e.symm).2;omega,fun e=>by have:=(h.rM.lt b e.symm).2;omega,fun e=>by have:=(h.rF.lt b e.symm).2;omega⟩
theorem Tryd.infoGl:(Tryd.prog.info? 54).map (fun i=>(i.zero,i.size,i.bytes))=some (some (.agg #[.string ⟨#[]⟩,.int .i64 0]),2,24):=by kernel_rfl
theorem Tryd.infoMx:(Tryd.prog.info? 51).map (fun i=>(i.zero,i.size,i.bytes))=some (some (.agg #[.string ⟨#[]⟩,.bool false,.int .i64 0]),3,32):=by kernel_rfl
theorem Tryd.infoFn:(Tryd.prog.info? 58).map (fun i=>(i.zero,i.size,i.bytes))=some (some (.agg #[.string ⟨#[]⟩,.slice none 0 0,.slice none 0 0]),3,64):=by kernel_rfl
namespace Pa
theorem sProg_dead (ts:List Tk.Tok) (f:Nat) (σ:Sg) (p:Pg) (h:σ.live=false):sProg ts f σ p=(p,σ):=by
 cases f with
 | zero=>rfl
 | succ f=>rw[sProg,if_pos (.inl h)]
theorem xp_ac (ts:List Tk.Tok) (σ:Sg) (c m:Nat) (s:List UInt8) (h:isS ts σ s=true):xp ts (lm σ c m) s=ac ts (lm σ c m) s:=by
 unfold lm
 split
 ·
  have hd:=fl_dead σ 3
  generalize fl σ 3=ρ at *
  cases ρ with
  | bad a e=>rfl
  | at_ k=>cases hd
 ·
  unfold xp ac
  rw[if_pos h,if_pos h]
end Pa
end Go.Proofs.YtlnbmmgbfgmboaaDoor
