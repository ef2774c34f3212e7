import Derived.Test.YtlnbmmgbfgmboaaDoorQ7
import Derived.Deep.RegionLaw
namespace Go.Proofs.YtlnbmmgbfgmboaaDoor
open Go.RowKit
def PrgP (w:World) (g:Nat) (ts:List Tk.Tok) (R:Pg × Pa.Sg) (e:Ending) (w':World):Prop :=
 ∃vG vM vF PG PM PF,e=.returned (.agg #[vG,vM,vF])∧PgR w' (w.heap.size+2) vG vM vF PG PM PF∧(R.2.live=true→R.1=⟨PG,PM,PF.map (·.1)⟩)∧Pps w' g ts R.2 0∧w.grownBy w' (some g)
def PrgL (w:World) (g:Nat) (ts:List Tk.Tok) (R:Pg × Pa.Sg) (f:Nat) (wr:World):Prop :=
 ∃vG vM vF PG PM PF τ p,wr.heap[w.heap.size]?=some (.cells #[.slice none 0 0,.slice none 0 0,.slice none 0 0] 27 (0,0))∧wr.heap[w.heap.size+1]?=some (.cells #[vG,vM,vF] 27 (0,0))∧PgR wr (w.heap.size+2) vG vM vF PG PM PF∧Pps wr g ts τ 0∧w.grownBy wr (some g) ∧
  (τ.live=true→p=⟨PG,PM,PF.map (·.1)⟩∧PG.length≤τ.k∧PM.length≤τ.k∧PF.length≤τ.k∧ts.length≤f+τ.k)∧Pa.sProg ts f τ p=R
theorem ze6 (ts:List Tk.Tok) (re:Bool) (m e:Nat):(Pa.sMutex ts re (.bad m e)).2=.bad m e:=by
 unfold Pa.sMutex
 split<;>rfl
theorem zgt (ts:List Tk.Tok) (σ:Pa.Sg) (c m:Nat) (h:Pa.isS ts σ [109,117,116,101,120]=true):(Pa.sMutex ts (Pa.isS ts (Pa.lm σ c m) [114,109,117,116,101,120]) (mxS ts (Pa.lm σ c m))).2=(Pa.sMutex ts false (Pa.ac ts (Pa.lm σ c m) [109,117,116,101,120])).2 ∧
  ((Pa.sMutex ts false (Pa.ac ts (Pa.lm σ c m) [109,117,116,101,120])).2.live=true→(Pa.sMutex ts (Pa.isS ts (Pa.lm σ c m) [114,109,117,116,101,120]) (mxS ts (Pa.lm σ c m))).1=(Pa.sMutex ts false (Pa.ac ts (Pa.lm σ c m) [109,117,116,101,120])).1):=by
 have hx:=Pa.xp_ac ts σ c m _ h
 have hr:Pa.isS ts (Pa.lm σ c m) [114,109,117,116,101,120]=false:=by
  obtain⟨k,rfl,h1,h2⟩:=zfV h
  unfold Pa.lm
  split
  ·
   rfl
  ·
   simp[Pa.isS,h2]
 have hm:mxS ts (Pa.lm σ c m)=Pa.ac ts (Pa.lm σ c m) [109,117,116,101,120]:=by
  unfold mxS
  rw[if_neg (by rw[hr];decide),hx]
 rw[hr,hm]
 exact⟨rfl,fun _=>rfl⟩
theorem zfS (ts:List Tk.Tok) (σ:Pa.Sg) (c m:Nat) (h:Pa.isS ts σ [114,109,117,116,101,120]=true):(Pa.sMutex ts (Pa.isS ts (Pa.lm σ c m) [114,109,117,116,101,120]) (mxS ts (Pa.lm σ c m))).2=(Pa.sMutex ts true (Pa.ac ts (Pa.lm σ c m) [114,109,117,116,101,120])).2 ∧
  ((Pa.sMutex ts true (Pa.ac ts (Pa.lm σ c m) [114,109,117,116,101,120])).2.live=true→(Pa.sMutex ts (Pa.isS ts (Pa.lm σ c m) [114,109,117,116,101,120]) (mxS ts (Pa.lm σ c m))).1=(Pa.sMutex ts true (Pa.ac ts (Pa.lm σ c m) [114,109,117,116,101,120])).1):=by
 obtain⟨k,rfl,h1,h2⟩:=zfV h
 unfold Pa.lm
 split
 ·
  have e1:Pa.isS ts (Pa.fl (.at_ k) 3) [114,109,117,116,101,120]=false:=rfl
  have e2:mxS ts (Pa.fl (.at_ k) 3)=.bad k 3:=rfl
  have e3:Pa.ac ts (Pa.fl (.at_ k) 3) [114,109,117,116,101,120]=.bad k 3:=rfl
  rw[e1,e2,e3,ze6,ze6]
  exact⟨rfl,fun h=>by cases h⟩
 ·
  have e2:mxS ts (.at_ k)=Pa.ac ts (.at_ k) [114,109,117,116,101,120]:=by
   unfold mxS Pa.ac
   rw[if_pos h,if_pos h]
  rw[h,e2]
  exact⟨rfl,fun _=>rfl⟩
theorem zaJ {w:World} {B n size:Nat} {t:TypeId} {v:Value} {xs:List Value} (h:w.ownsRow B t size v n xs):∃A c,v=.slice A n c:=zbi h
set_option maxRecDepth 100000 in
set_option maxHeartbeats 8000000 in
theorem zfF (w:World) (g:Nat) (ts:List Tk.Tok) (hN:∀k,Ps.numAt ts k≤9223372036854775807) (σ:Pa.Sg) (f:Nat) (hf:ts.length≤f+σ.k) (hP:Pps w g ts σ 0) (hS:SgG w g) :
  Calls Tryd.prog 19 #[.pointer (some ⟨g,0,none⟩)] w (PrgP w g ts (Pa.sProg ts f σ ⟨[],[],[]⟩)):=by
 obtain⟨iG,hiG,hgG0,hgG1,hgG2⟩:=info_parts Tryd.infoGl
 obtain⟨iM,hiM,hgM0,hgM1,hgM2⟩:=info_parts Tryd.infoMx
 obtain⟨iF,hiF,hgF0,hgF1,hgF2⟩:=info_parts Tryd.infoFn
 have HS:=Lib.hid hS
 have HNU:=Lib.hid hN
 have hgw:=hP.lt
 have hgR':w.heap.size≠g:=by omega
 have hgT':w.heap.size+1≠g:=by omega
 have hTR:w.heap.size+1≠w.heap.size:=by omega
 obtain⟨hn1,hn2⟩:=new2 w (.cells #[.slice none 0 0,.slice none 0 0,.slice none 0 0] 27) (.cells #[.slice none 0 0,.slice none 0 0,.slice none 0 0] 27)
 have HL0:Hid (PrgL w g ts (Pa.sProg ts f σ ⟨[],[],[]⟩) f ((w.alloc (.cells #[.slice none 0 0,.slice none 0 0,.slice none 0 0] 27)).alloc (.cells #[.slice none 0 0,.slice none 0 0,.slice none 0 0] 27))) :=
  ⟨_,_,_,[],[],[],σ,⟨[],[],[]⟩,hn1,hn2,PgR.nil _ _,(hP.alloc _).alloc _,zap (zap (zaf (Below.refl _ _)) _) _,fun _=>⟨rfl,by simp,by simp,by simp,hf⟩,rfl⟩
 generalize Pa.sProg ts f σ ⟨[],[],[]⟩=R at *
 clear hP hS hN hf hn1 hn2
 go_enter Tryd.func19,Tryd.ntmps19
 go_wp2_with fail
 go_loopg [16] f (fun k v wr=>Hid (PrgL w g ts R k wr))
 case atStart=>exact HL0.out
 case round =>
  clear HL0
  obtain⟨vG,vM,vF,PG,PM,PF,τ,p,hRb,hTb,hPg,hP,hG,hlv,hR⟩:=hrel.out
  clear hrel
  have HRb:=Lib.hid hRb
  have HTb:=Lib.hid hTb
  have HPg:=Lib.hid hPg
  have HPr:=Lib.hid hP
  have HGr:=Lib.hid hG
  have HLV:=Lib.hid hlv
  have HR:=Lib.hid hR
  have hnn:ts.length≤1000000:=by obtain⟨_,_,_,_,_,h,_⟩:=hP;exact h
  have hwl:w.heap.size+1<wr.heap.size:=lt_of_block hTb
  obtain⟨br,cr,-,-,-,-,s2,s3,-⟩:=hP.cells
  clear hRb hTb hPg hP hG hlv hR s2
  obtain⟨AG,cG,rfl⟩:=zaJ HPg.out.rG
  obtain⟨AM,cM,rfl⟩:=zaJ HPg.out.rM
  obtain⟨AF,cF,rfl⟩:=zaJ HPg.out.rF
  cases τ with
  | bad m e =>
   have he:e≠0:=HPr.out.err rfl
   have t0:(((Pa.Sg.bad m e).e:Int)==0)=false:=bF (show ((e:Nat):Int)≠0 by omega)
   have HRR:Hid (R=(p,.bad m e)):=by show _=_;rw[←HR.out];exact Pa.sProg_dead ts _ _ p rfl
   clear he HR HLV
   obtain⟨t1,t2,t3,-,-⟩:=blk3 HTb.out
   obtain⟨r0,r1,r2,rf,-⟩:=blk3 HRb.out
   have f0:=rf 0
   have f1:=rf 1
   have f2:=rf 2
   clear rf
   go_wp2_with fail
   have hq:PutAt w.heap.size wr _:=(((PutAt.refl w.heap.size wr).set 0 (.slice AG PG.length cG)).set 1 (.slice AM PM.length cM)).set 2 (.slice AF PF.length cF)
   refine bodyPost_ret (v:=.agg #[.slice AG PG.length cG,.slice AM PM.length cM,.slice AF PF.length cF]) (by simp[results,Tryd.results19,go_sem,r0,r1,r2]) rfl ⟨_,_,_,PG,PM,PF,rfl,HPg.out.putAt hq (by omega),?_,?_,za9 HGr.out hq (Nat.le_refl _)⟩
   ·
    rw[HRR.out]
    intro h
    cases h
   ·
    rw[HRR.out]
    exact HPr.out.putAt hq hgw
  | at_ k0 =>
   have t0:(((Pa.Sg.at_ k0).e:Int)==0)=true:=rfl
   obtain⟨hp,hg1,hm1,hf1,hk2⟩:=HLV.out rfl
   have hk3:(Pa.Sg.at_ k0).k=k0:=rfl
   have hkT:k0<ts.length:=HPr.out.inT
   rw[hk3] at hg1 hm1 hf1 hk2
   subst hp
   obtain⟨f1,rfl⟩:∃f1,gk=f1+1:=⟨gk-1,by omega⟩
   have HP0:=HPr
   have HR0:=HRb
   have HT0:=HTb
   have HPg0:=HPg
   have HG0:=HGr
   clear hk3 HLV HPr HRb HTb HPg HGr
   go_wp2_with fail
   refine(zbZ wr g ts (.at_ k0) 0 5 5 rfl HP0.out).mono ?_
   rintro x w1 ⟨rfl,hb1⟩
   have HP1:=Lib.hid (HP0.out.later hb1)
   have HR1:=Lib.hid ((hb1.block _ (by have:=lt_of_block HR0.out;exact this)).trans HR0.out)
   have HT1:=Lib.hid ((hb1.block _ (by have:=lt_of_block HT0.out;exact this)).trans HT0.out)
   have HPg1:=Lib.hid (HPg0.out.keep fun b _ hl=>hb1.block b hl)
   have HG1:=Lib.hid (za0 HG0.out (zaf (g:=g) hb1))
   clear hb1 HP0 HR0 HT0 HPg0 HG0
   clear s3
   cases hE:Pa.kdS ts (.at_ k0) 5 with
   | true =>
    have HRR:Hid (R=(⟨PG,PM,PF.map (·.1)⟩,.at_ k0)):=by show _=_;rw[←HR.out,Pa.sProg,if_pos (.inr hE)]
    clear hE HR
    obtain⟨t1,t2,t3,-,-⟩:=blk3 HT1.out
    obtain⟨r0,r1,r2,rf,-⟩:=blk3 HR1.out
    have f0:=rf 0
    have f1:=rf 1
    have f2:=rf 2
    clear rf
    go_wp2_with fail
    have hq:PutAt w.heap.size w1 _:=(((PutAt.refl w.heap.size w1).set 0 (.slice AG PG.length cG)).set 1 (.slice AM PM.length cM)).set 2 (.slice AF PF.length cF)
    refine bodyPost_ret (v:=.agg #[.slice AG PG.length cG,.slice AM PM.length cM,.slice AF PF.length cF]) (by simp[results,Tryd.results19,go_sem,r0,r1,r2]) rfl ⟨_,_,_,PG,PM,PF,rfl,HPg1.out.putAt hq (by omega),?_,?_,za9 HG1.out hq (Nat.le_refl _)⟩
    ·
     rw[HRR.out]
     intro _
     rfl
    ·
     rw[HRR.out]
     exact HP1.out.putAt hq hgw
   | false =>
    have HE:=Lib.hid hE
    clear hE
    go_wp2_with fail
    refine(zbS w1 g ts (.at_ k0) 0 [118,97,114] HP1.out).mono ?_
    rintro x w2 ⟨rfl,hb2⟩
    have HP2:=Lib.hid (HP1.out.later hb2)
    have HR2:=Lib.hid ((hb2.block _ (by have:=lt_of_block HR1.out;exact this)).trans HR1.out)
    have HT2:=Lib.hid ((hb2.block _ (by have:=lt_of_block HT1.out;exact this)).trans HT1.out)
    have HPg2:=Lib.hid (HPg1.out.keep fun b _ hl=>hb2.block b hl)
    have HG2:=Lib.hid (za0 HG1.out (zaf (g:=g) hb2))
    clear hb2 HP1 HR1 HT1 HPg1 HG1
    cases hI:Pa.isS ts (.at_ k0) [118,97,114] with
    | true =>
     obtain⟨t1,t2,t3,-,-⟩:=blk3 HT2.out
     go_wp2_with fail
     refine(zbI w2 g ts (.at_ k0) 0 PG.length 16 _ 16 rfl rfl HP2.out).mono ?_
     rintro x wa ⟨rfl,hPa,hGa⟩
     have HPa:=Lib.hid hPa
     have HRa:=Lib.hid (za2 hGa HR2.out hgR')
     have HTa:=Lib.hid (za2 hGa HT2.out hgT')
     have HPga:=Lib.hid (HPg2.out.grown hGa (by omega))
     have HGa:=Lib.hid (za0 HG2.out hGa)
     have hla:w.heap.size+1<wa.heap.size:=lt_of_block HTa.out
     have HLM:=Lib.hid (Pa.lm_fwd (.at_ k0) PG.length 16)
     have HRR:Hid (Pa.sProg ts f1 (Pa.sGlobal ts (Pa.ac ts (Pa.lm (.at_ k0) PG.length 16) [118,97,114])).2 ⟨PG++[(Pa.sGlobal ts (Pa.ac ts (Pa.lm (.at_ k0) PG.length 16) [118,97,114])).1],PM,PF.map (·.1)⟩=R):=by
      show _=_
      rw[←HR.out]
      exact(by rw[Pa.sProg,if_neg (fun h=>by rcases h with h|h;cases h;rw[HE.out] at h;cases h),if_pos hI])
     have HXA:=Lib.hid (Pa.xp_ac ts (.at_ k0) PG.length 16 [118,97,114] hI)
     rw[←HXA.out] at HRR
     clear hPa hGa t1 t2 t3 HP2 HR2 HT2 HPg2 HG2 hI HR HXA
     generalize Pa.lm (.at_ k0) PG.length 16=ρ at *
     obtain⟨t1,t2,t3,-,-⟩:=blk3 HTa.out
     have HFW:=Lib.hid ((Pa.xp_fws ts ρ [118,97,114]).then (Pa.sGlobal_fws ts (Pa.xp ts ρ [118,97,114])).fwd)
     go_wp2_with fail
     go_region_law (first
      | (refine step_append_lies _ (by rfl) _ _ _ (by rfl) (w.heap.size+2) 54 iG _ 2 24 Tryd.underlying23 hiG hgG0 hgG1 hgG2 rfl (by omega) (.slice AG PG.length cG) PG.length (glK.cs PG) (by rfl) (HPgb.out.alloc _).rG ⟨wb.heap.size,0,none⟩ 1 1 (glK.cl a) (by rfl) (by rfl) (zam wb _ rfl _ _) (glK.one a) (by omega) (by unfold maxLen;omega) (by omega) (by simp;omega) (wb.heap.size+1) (by simp) ?_;intro gb cap wc hown hgrow hlies hgl;have HTc:=Lib.hid ((hgrow.block (w.heap.size+1) (by simp;omega) (fun e=>by have:=(HPgb.out.rG.lt _ e.symm).1;omega)).trans ((Below.heap_alloc wb _ _ hlb).trans HTb.out));obtain⟨c1,c2,c3,cf,ccl⟩:=blk3 HTc.out;have cf0:=cf 0;clear cf)
      | (go_simp;go_at_call 40;refine(zgi wa.drew g ts HNU.out ρ 0 HPa.out.drw).mono ?_;rintro x wb ⟨rfl,hPb,hGb⟩;have HPb:=Lib.hid hPb;have HRb:=Lib.hid (za2 hGb HRa.out hgR');have HTb:=Lib.hid (za2 hGb HTa.out hgT');have HPgb:=Lib.hid ((HPga.out.keep (w':=wa.drew) fun _ _ _=>rfl).grown hGb (by omega));have HGb:=Lib.hid (za0 HGa.out (za0 (zcg (zaf (Below.refl _ _))) hGb));have hlb:w.heap.size+1<wb.heap.size:=lt_of_block HTb.out;clear hPb hGb;obtain⟨b1,b2,b3,-,-⟩:=blk3 HTb.out;generalize (Pa.sGlobal ts (Pa.xp ts ρ [118,97,114])).1=a at *;generalize (Pa.sGlobal ts (Pa.xp ts ρ [118,97,114])).2=τ2 at *))
     all_goals
      have hgo:∀b,b<w.heap.size+2→b<wb.heap.size→wc.heap[b]?=wb.heap[b]?:=fun b hb hl=>(hgrow.block b (by simp;omega) (fun e=>by have:=(HPgb.out.rG.lt _ e.symm).1;omega)).trans (Below.heap_alloc wb _ b hl)
      have HPgc:=Lib.hid ((HPgb.out.alloc _).snocG a hown hgrow (zai hlies (by simp)))
      have HPc:=Lib.hid (HPb.out.keep fun b hb=>hgo b (by omega) (by have:=HPb.out.lt;omega))
      have HGc:Hid (w.grownBy wc (some g)):=⟨hgrow.os.trans HGb.out.os,hgrow.tape.trans HGb.out.tape,hgrow.output.trans HGb.out.output,Nat.le_trans HGb.out.size (Nat.le_trans (by simp) hgrow.size),fun b hb hne=>(hgo b (by omega) (by omega)).trans (HGb.out.block b hb hne)⟩
      have HRc:=Lib.hid ((hgo w.heap.size (by omega) (by omega)).trans HRb.out)
      have HQ:=Lib.hid (show PutAt (w.heap.size+1) wc (wc.setCell ⟨w.heap.size+1,0,none⟩ (.slice (some ⟨gb,0,none⟩) (PG.length+1) cap)) from (PutAt.refl _ wc).set 0 _)
      clear hown hgrow hlies hgl hgo HPgb HPb HRb HTb HGb c1 c2 c3 cf0
      go_wp2_with fail
      go_roundg f1
      case rel =>
       refine⟨_,.slice AM PM.length cM,.slice AF PF.length cF,PG++[a],PM,PF,τ2,_,(HQ.out.2.2.2.2 _ (by omega)).trans HRc.out,zfg _ HTc.out,HPgc.out.putAt HQ.out (by omega),HPc.out.putAt HQ.out (by omega),za9 HGc.out HQ.out (by omega),fun hl=>?_,HRR.out⟩
       have h1:=HFW.out hl
       have h2:=HLM.out h1.1
       have h3:(Pa.Sg.at_ k0).k=k0:=rfl
       rw[h3] at h2
       exact⟨rfl,by simp;omega,by omega,by omega,by omega⟩
      case measure=>omega
    | false =>
     have HN0:=Lib.hid hI
     clear hI
     go_wp2_with fail
     refine(zbS w2 g ts (.at_ k0) 0 [109,117,116,101,120] HP2.out).mono ?_
     rintro x w3 ⟨rfl,hb3⟩
     have HP3:=Lib.hid (HP2.out.later hb3)
     have HR3:=Lib.hid ((hb3.block _ (by have:=lt_of_block HR2.out;exact this)).trans HR2.out)
     have HT3:=Lib.hid ((hb3.block _ (by have:=lt_of_block HT2.out;exact this)).trans HT2.out)
     have HPg3:=Lib.hid (HPg2.out.keep fun b _ hl=>hb3.block b hl)
     have HG3:=Lib.hid (za0 HG2.out (zaf (g:=g) hb3))
     clear hb3 HP2 HR2 HT2 HPg2 HG2
     cases hI:Pa.isS ts (.at_ k0) [109,117,116,101,120] with
     | true =>
      obtain⟨t1,t2,t3,-,-⟩:=blk3 HT3.out
      go_wp2_with fail
      refine(zbI w3 g ts (.at_ k0) 0 PM.length 12 _ 12 rfl rfl HP3.out).mono ?_
      rintro x wa ⟨rfl,hPa,hGa⟩
      have HPa:=Lib.hid hPa
      have HRa:=Lib.hid (za2 hGa HR3.out hgR')
      have HTa:=Lib.hid (za2 hGa HT3.out hgT')
      have HPga:=Lib.hid (HPg3.out.grown hGa (by omega))
      have HGa:=Lib.hid (za0 HG3.out hGa)
      have hla:w.heap.size+1<wa.heap.size:=lt_of_block HTa.out
      have HLM:=Lib.hid (Pa.lm_fwd (.at_ k0) PM.length 12)
      have HRR:Hid (Pa.sProg ts f1 (Pa.sMutex ts false (Pa.ac ts (Pa.lm (.at_ k0) PM.length 12) [109,117,116,101,120])).2 ⟨PG,PM++[(Pa.sMutex ts false (Pa.ac ts (Pa.lm (.at_ k0) PM.length 12) [109,117,116,101,120])).1],PF.map (·.1)⟩=R):=by
       show _=_
       rw[←HR.out]
       exact(by rw[Pa.sProg,if_neg (fun h=>by rcases h with h|h;cases h;rw[HE.out] at h;cases h),if_neg (by rw[HN0.out];decide),if_pos hI])
      have HMX:=Lib.hid (zgt ts (.at_ k0) PM.length 12 hI)
      clear hPa hGa t1 t2 t3 HP3 HR3 HT3 HPg3 HG3 hI HR
      generalize Pa.lm (.at_ k0) PM.length 12=ρ at *
      obtain⟨t1,t2,t3,-,-⟩:=blk3 HTa.out
      have HFW:Hid (Pa.Fws ρ (Pa.sMutex ts false (Pa.ac ts ρ [109,117,116,101,120])).2):=(Pa.ac_fwd ts ρ [109,117,116,101,120]).then (Pa.sMutex_fws ts false _)
      go_wp2_with fail
      go_region_law (first
       | (refine step_append_lies _ (by rfl) _ _ _ (by rfl) (w.heap.size+2) 51 iM _ 3 32 Tryd.underlying24 hiM hgM0 hgM1 hgM2 rfl (by omega) (.slice AM PM.length cM) PM.length (mxK.cs PM) (by rfl) (HPgb.out.alloc _).rM ⟨wb.heap.size,0,none⟩ 1 1 (mxK.cl ⟨nm,re,sz⟩) (by rfl) (by rfl) (zam wb _ rfl _ _) (mxK.one ⟨nm,re,sz⟩) (by omega) (by unfold maxLen;omega) (by omega) (by simp;omega) (wb.heap.size+1) (by simp) ?_;intro gb cap wc hown hgrow hlies hgl;have HTc:=Lib.hid ((hgrow.block (w.heap.size+1) (by simp;omega) (fun e=>by have:=(HPgb.out.rM.lt _ e.symm).1;omega)).trans ((Below.heap_alloc wb _ _ hlb).trans HTb.out));obtain⟨c1,c2,c3,cf,ccl⟩:=blk3 HTc.out;have cf0:=cf 1;clear cf)
       | (go_simp;go_at_call 41;refine(zeI wa.drew g ts ρ 0 HPa.out.drw).mono ?_;rintro x wb ⟨nm,re,sz,rfl,hval,hPb,hGb⟩;have HVAL:=Lib.hid hval;clear hval;have HPb:=Lib.hid hPb;have HRb:=Lib.hid (za2 hGb HRa.out hgR');have HTb:=Lib.hid (za2 hGb HTa.out hgT');have HPgb:=Lib.hid ((HPga.out.keep (w':=wa.drew) fun _ _ _=>rfl).grown hGb (by omega));have HGb:=Lib.hid (za0 HGa.out (za0 (zcg (zaf (Below.refl _ _))) hGb));have hlb:w.heap.size+1<wb.heap.size:=lt_of_block HTb.out;clear hPb hGb;obtain⟨b1,b2,b3,-,-⟩:=blk3 HTb.out;skip))
      all_goals
       have hgo:∀b,b<w.heap.size+2→b<wb.heap.size→wc.heap[b]?=wb.heap[b]?:=fun b hb hl=>(hgrow.block b (by simp;omega) (fun e=>by have:=(HPgb.out.rM.lt _ e.symm).1;omega)).trans (Below.heap_alloc wb _ b hl)
       have HPgc:=Lib.hid ((HPgb.out.alloc _).snocM ⟨nm,re,sz⟩ hown hgrow (zai hlies (by simp)))
       have HPc:=Lib.hid (HPb.out.keep fun b hb=>hgo b (by omega) (by have:=HPb.out.lt;omega))
       have HGc:Hid (w.grownBy wc (some g)):=⟨hgrow.os.trans HGb.out.os,hgrow.tape.trans HGb.out.tape,hgrow.output.trans HGb.out.output,Nat.le_trans HGb.out.size (Nat.le_trans (by simp) hgrow.size),fun b hb hne=>(hgo b (by omega) (by omega)).trans (HGb.out.block b hb hne)⟩
       have HRc:=Lib.hid ((hgo w.heap.size (by omega) (by omega)).trans HRb.out)
       have HQ:=Lib.hid (show PutAt (w.heap.size+1) wc (wc.setCell ⟨w.heap.size+1,1,none⟩ (.slice (some ⟨gb,0,none⟩) (PM.length+1) cap)) from (PutAt.refl _ wc).set 1 _)
       clear hown hgrow hlies hgl hgo HPgb HPb HRb HTb HGb c1 c2 c3 cf0
       go_wp2_with fail
       go_roundg f1
       case rel =>
        have hst:=HMX.out.1
        have hPcc:=HPc.out
        rw[hst] at hPcc
        refine⟨.slice AG PG.length cG,_,.slice AF PF.length cF,PG,PM++[⟨nm,re,sz⟩],PF,(Pa.sMutex ts false (Pa.ac ts ρ [109,117,116,101,120])).2,_,(HQ.out.2.2.2.2 _ (by omega)).trans HRc.out,zff _ HTc.out,HPgc.out.putAt HQ.out (by omega),hPcc.putAt HQ.out (by omega),za9 HGc.out HQ.out (by omega),fun hl=>?_,HRR.out⟩
        have h1:=HFW.out hl
        have h2:=HLM.out h1.1
        have h3:(Pa.Sg.at_ k0).k=k0:=rfl
        rw[h3] at h2
        refine⟨?_,by omega,by simp;omega,by omega,by omega⟩
        have hl2:=hl
        rw[←hst] at hl2
        rw[←HMX.out.2 hl,HVAL.out hl2]
       case measure=>omega
     | false =>
      have HN1:=Lib.hid hI
      clear hI
      go_wp2_with fail
      refine(zbS w3 g ts (.at_ k0) 0 [114,109,117,116,101,120] HP3.out).mono ?_
      rintro x w4 ⟨rfl,hb4⟩
      have HP4:=Lib.hid (HP3.out.later hb4)
      have HR4:=Lib.hid ((hb4.block _ (by have:=lt_of_block HR3.out;exact this)).trans HR3.out)
      have HT4:=Lib.hid ((hb4.block _ (by have:=lt_of_block HT3.out;exact this)).trans HT3.out)
      have HPg4:=Lib.hid (HPg3.out.keep fun b _ hl=>hb4.block b hl)
      have HG4:=Lib.hid (za0 HG3.out (zaf (g:=g) hb4))
      clear hb4 HP3 HR3 HT3 HPg3 HG3
      cases hI:Pa.isS ts (.at_ k0) [114,109,117,116,101,120] with
      | true =>
       obtain⟨t1,t2,t3,-,-⟩:=blk3 HT4.out
       go_wp2_with fail
       refine(zbI w4 g ts (.at_ k0) 0 PM.length 12 _ 12 rfl rfl HP4.out).mono ?_
       rintro x wa ⟨rfl,hPa,hGa⟩
       have HPa:=Lib.hid hPa
       have HRa:=Lib.hid (za2 hGa HR4.out hgR')
       have HTa:=Lib.hid (za2 hGa HT4.out hgT')
       have HPga:=Lib.hid (HPg4.out.grown hGa (by omega))
       have HGa:=Lib.hid (za0 HG4.out hGa)
       have hla:w.heap.size+1<wa.heap.size:=lt_of_block HTa.out
       have HLM:=Lib.hid (Pa.lm_fwd (.at_ k0) PM.length 12)
       have HRR:Hid (Pa.sProg ts f1 (Pa.sMutex ts true (Pa.ac ts (Pa.lm (.at_ k0) PM.length 12) [114,109,117,116,101,120])).2 ⟨PG,PM++[(Pa.sMutex ts true (Pa.ac ts (Pa.lm (.at_ k0) PM.length 12) [114,109,117,116,101,120])).1],PF.map (·.1)⟩=R):=by
        show _=_
        rw[←HR.out]
        exact(by rw[Pa.sProg,if_neg (fun h=>by rcases h with h|h;cases h;rw[HE.out] at h;cases h),if_neg (by rw[HN0.out];decide),if_neg (by rw[HN1.out];decide),if_pos hI])
       have HMX:=Lib.hid (zfS ts (.at_ k0) PM.length 12 hI)
       clear hPa hGa t1 t2 t3 HP4 HR4 HT4 HPg4 HG4 hI HR
       generalize Pa.lm (.at_ k0) PM.length 12=ρ at *
       obtain⟨t1,t2,t3,-,-⟩:=blk3 HTa.out
       have HFW:Hid (Pa.Fws ρ (Pa.sMutex ts true (Pa.ac ts ρ [114,109,117,116,101,120])).2):=(Pa.ac_fwd ts ρ [114,109,117,116,101,120]).then (Pa.sMutex_fws ts true _)
       go_wp2_with fail
       go_region_law (first
        | (refine step_append_lies _ (by rfl) _ _ _ (by rfl) (w.heap.size+2) 51 iM _ 3 32 Tryd.underlying24 hiM hgM0 hgM1 hgM2 rfl (by omega) (.slice AM PM.length cM) PM.length (mxK.cs PM) (by rfl) (HPgb.out.alloc _).rM ⟨wb.heap.size,0,none⟩ 1 1 (mxK.cl ⟨nm,re,sz⟩) (by rfl) (by rfl) (zam wb _ rfl _ _) (mxK.one ⟨nm,re,sz⟩) (by omega) (by unfold maxLen;omega) (by omega) (by simp;omega) (wb.heap.size+1) (by simp) ?_;intro gb cap wc hown hgrow hlies hgl;have HTc:=Lib.hid ((hgrow.block (w.heap.size+1) (by simp;omega) (fun e=>by have:=(HPgb.out.rM.lt _ e.symm).1;omega)).trans ((Below.heap_alloc wb _ _ hlb).trans HTb.out));obtain⟨c1,c2,c3,cf,ccl⟩:=blk3 HTc.out;have cf0:=cf 1;clear cf)
        | (go_simp;go_at_call 41;refine(zeI wa.drew g ts ρ 0 HPa.out.drw).mono ?_;rintro x wb ⟨nm,re,sz,rfl,hval,hPb,hGb⟩;have HVAL:=Lib.hid hval;clear hval;have HPb:=Lib.hid hPb;have HRb:=Lib.hid (za2 hGb HRa.out hgR');have HTb:=Lib.hid (za2 hGb HTa.out hgT');have HPgb:=Lib.hid ((HPga.out.keep (w':=wa.drew) fun _ _ _=>rfl).grown hGb (by omega));have HGb:=Lib.hid (za0 HGa.out (za0 (zcg (zaf (Below.refl _ _))) hGb));have hlb:w.heap.size+1<wb.heap.size:=lt_of_block HTb.out;clear hPb hGb;obtain⟨b1,b2,b3,-,-⟩:=blk3 HTb.out;skip))
       all_goals
        have hgo:∀b,b<w.heap.size+2→b<wb.heap.size→wc.heap[b]?=wb.heap[b]?:=fun b hb hl=>(hgrow.block b (by simp;omega) (fun e=>by have:=(HPgb.out.rM.lt _ e.symm).1;omega)).trans (Below.heap_alloc wb _ b hl)
        have HPgc:=Lib.hid ((HPgb.out.alloc _).snocM ⟨nm,re,sz⟩ hown hgrow (zai hlies (by simp)))
        have HPc:=Lib.hid (HPb.out.keep fun b hb=>hgo b (by omega) (by have:=HPb.out.lt;omega))
        have HGc:Hid (w.grownBy wc (some g)):=⟨hgrow.os.trans HGb.out.os,hgrow.tape.trans HGb.out.tape,hgrow.output.trans HGb.out.output,Nat.le_trans HGb.out.size (Nat.le_trans (by simp) hgrow.size),fun b hb hne=>(hgo b (by omega) (by omega)).trans (HGb.out.block b hb hne)⟩
        have HRc:=Lib.hid ((hgo w.heap.size (by omega) (by omega)).trans HRb.out)
        have HQ:=Lib.hid (show PutAt (w.heap.size+1) wc (wc.setCell ⟨w.heap.size+1,1,none⟩ (.slice (some ⟨gb,0,none⟩) (PM.length+1) cap)) from (PutAt.refl _ wc).set 1 _)
        clear hown hgrow hlies hgl hgo HPgb HPb HRb HTb HGb c1 c2 c3 cf0
        go_wp2_with fail
        go_roundg f1
        case rel =>
         have hst:=HMX.out.1
         have hPcc:=HPc.out
         rw[hst] at hPcc
         refine⟨.slice AG PG.length cG,_,.slice AF PF.length cF,PG,PM++[⟨nm,re,sz⟩],PF,(Pa.sMutex ts true (Pa.ac ts ρ [114,109,117,116,101,120])).2,_,(HQ.out.2.2.2.2 _ (by omega)).trans HRc.out,zff _ HTc.out,HPgc.out.putAt HQ.out (by omega),hPcc.putAt HQ.out (by omega),za9 HGc.out HQ.out (by omega),fun hl=>?_,HRR.out⟩
         have h1:=HFW.out hl
         have h2:=HLM.out h1.1
         have h3:(Pa.Sg.at_ k0).k=k0:=rfl
         rw[h3] at h2
         refine⟨?_,by omega,by simp;omega,by omega,by omega⟩
         have hl2:=hl
         rw[←hst] at hl2
         rw[←HMX.out.2 hl,HVAL.out hl2]
        case measure=>omega
      | false =>
       have HN2:=Lib.hid hI
       clear hI
       go_wp2_with fail
       refine(zbS w4 g ts (.at_ k0) 0 [102,117,110,99] HP4.out).mono ?_
       rintro x w5 ⟨rfl,hb5⟩
       have HP5:=Lib.hid (HP4.out.later hb5)
       have HR5:=Lib.hid ((hb5.block _ (by have:=lt_of_block HR4.out;exact this)).trans HR4.out)
       have HT5:=Lib.hid ((hb5.block _ (by have:=lt_of_block HT4.out;exact this)).trans HT4.out)
       have HPg5:=Lib.hid (HPg4.out.keep fun b _ hl=>hb5.block b hl)
       have HG5:=Lib.hid (za0 HG4.out (zaf (g:=g) hb5))
       clear hb5 HP4 HR4 HT4 HPg4 HG4
       cases hI:Pa.isS ts (.at_ k0) [102,117,110,99] with
       | true =>
        obtain⟨t1,t2,t3,-,-⟩:=blk3 HT5.out
        go_wp2_with fail
        refine(zbI w5 g ts (.at_ k0) 0 PF.length 16 _ 16 rfl rfl HP5.out).mono ?_
        rintro x wa ⟨rfl,hPa,hGa⟩
        have HPa:=Lib.hid hPa
        have HRa:=Lib.hid (za2 hGa HR5.out hgR')
        have HTa:=Lib.hid (za2 hGa HT5.out hgT')
        have HPga:=Lib.hid (HPg5.out.grown hGa (by omega))
        have HGa:=Lib.hid (za0 HG5.out hGa)
        have hla:w.heap.size+1<wa.heap.size:=lt_of_block HTa.out
        have HLM:=Lib.hid (Pa.lm_fwd (.at_ k0) PF.length 16)
        have HRR:Hid (Pa.sProg ts f1 (Pa.sFunc ts (Pa.ac ts (Pa.lm (.at_ k0) PF.length 16) [102,117,110,99])).2 ⟨PG,PM,PF.map (·.1)++[(Pa.sFunc ts (Pa.ac ts (Pa.lm (.at_ k0) PF.length 16) [102,117,110,99])).1]⟩=R):=by
         show _=_
         rw[←HR.out]
         exact(by rw[Pa.sProg,if_neg (fun h=>by rcases h with h|h;cases h;rw[HE.out] at h;cases h),if_neg (by rw[HN0.out];decide),if_neg (by rw[HN1.out];decide),if_neg (by rw[HN2.out];decide),if_pos hI];simp only[List.length_map])
        have HXA:=Lib.hid (Pa.xp_ac ts (.at_ k0) PF.length 16 [102,117,110,99] hI)
        rw[←HXA.out] at HRR
        clear hPa hGa t1 t2 t3 HP5 HR5 HT5 HPg5 HG5 hI HR HXA
        generalize Pa.lm (.at_ k0) PF.length 16=ρ at *
        obtain⟨t1,t2,t3,-,-⟩:=blk3 HTa.out
        have HFW:=Lib.hid ((Pa.xp_fws ts ρ [102,117,110,99]).then (Pa.sFunc_fws ts (Pa.xp ts ρ [102,117,110,99])).fwd)
        go_wp2_with fail
        go_region_law (first
         | (refine step_append_lies _ (by rfl) _ _ _ (by rfl) (w.heap.size+2) 58 iF _ 3 64 Tryd.underlying25 hiF hgF0 hgF1 hgF2 rfl (by omega) (.slice AF PF.length cF) PF.length (fnK.cs PF) (by rfl) (HPgb.out.alloc _).rF ⟨wb.heap.size,0,none⟩ 1 1 (fnK.cl (a,⟨fA,fc,fB,fd⟩)) (by rfl) (by rfl) (zam wb _ rfl _ _) (fnK.one (a,⟨fA,fc,fB,fd⟩)) (by omega) (by unfold maxLen;omega) (by omega) (by simp;omega) (wb.heap.size+1) (by simp) ?_;intro gb cap wc hown hgrow hlies hgl;have HTc:=Lib.hid ((hgrow.block (w.heap.size+1) (by simp;omega) (fun e=>by have:=(HPgb.out.rF.lt _ e.symm).1;omega)).trans ((Below.heap_alloc wb _ _ hlb).trans HTb.out));obtain⟨c1,c2,c3,cf,ccl⟩:=blk3 HTc.out;have cf0:=cf 2;clear cf)
         | (go_simp;go_at_call 42;refine(ziH wa.drew g ts ρ HPa.out.drw (HS.out.grown (zcg HGa.out))).mono ?_;rintro x wb ⟨fA,fc,fB,fd,rfl,hX1,hX2,hPb,hGb⟩;have HPb:=Lib.hid hPb;have HRb:=Lib.hid (za2 hGb HRa.out hgR');have HTb:=Lib.hid (za2 hGb HTa.out hgT');have HPgb:=Lib.hid ((HPga.out.keep (w':=wa.drew) fun _ _ _=>rfl).grown hGb (by omega));have HGb:=Lib.hid (za0 HGa.out (za0 (zcg (zaf (Below.refl _ _))) hGb));have hlb:w.heap.size+1<wb.heap.size:=lt_of_block HTb.out;clear hPb hGb;obtain⟨b1,b2,b3,-,-⟩:=blk3 HTb.out;have HIN:Hid (fnK.In wb (wa.heap.size≤·) ((Pa.sFunc ts (Pa.xp ts ρ [102,117,110,99])).1,⟨fA,fc,fB,fd⟩)):=⟨hX1,hX2⟩;clear hX1 hX2;generalize (Pa.sFunc ts (Pa.xp ts ρ [102,117,110,99])).1=a at *;generalize (Pa.sFunc ts (Pa.xp ts ρ [102,117,110,99])).2=τ2 at *))
        all_goals
         have hgo:∀b,b<w.heap.size+2→b<wb.heap.size→wc.heap[b]?=wb.heap[b]?:=fun b hb hl=>(hgrow.block b (by simp;omega) (fun e=>by have:=(HPgb.out.rF.lt _ e.symm).1;omega)).trans (Below.heap_alloc wb _ b hl)
         have HPgc:=Lib.hid ((HPgb.out.alloc _).snocF (a,⟨fA,fc,fB,fd⟩) (fnK.keep (HPga.out.fresh HIN.out (Nat.le_refl _) (by omega)) fun b _ hl=>Below.heap_alloc wb _ b hl) hown hgrow (zai hlies (by simp)))
         have HPc:=Lib.hid (HPb.out.keep fun b hb=>hgo b (by omega) (by have:=HPb.out.lt;omega))
         have HGc:Hid (w.grownBy wc (some g)):=⟨hgrow.os.trans HGb.out.os,hgrow.tape.trans HGb.out.tape,hgrow.output.trans HGb.out.output,Nat.le_trans HGb.out.size (Nat.le_trans (by simp) hgrow.size),fun b hb hne=>(hgo b (by omega) (by omega)).trans (HGb.out.block b hb hne)⟩
         have HRc:=Lib.hid ((hgo w.heap.size (by omega) (by omega)).trans HRb.out)
         have HQ:=Lib.hid (show PutAt (w.heap.size+1) wc (wc.setCell ⟨w.heap.size+1,2,none⟩ (.slice (some ⟨gb,0,none⟩) (PF.length+1) cap)) from (PutAt.refl _ wc).set 2 _)
         clear hown hgrow hlies hgl hgo HPgb HPb HRb HTb HGb c1 c2 c3 cf0
         go_wp2_with fail
         go_roundg f1
         case rel =>
          refine⟨.slice AG PG.length cG,.slice AM PM.length cM,_,PG,PM,PF++[(a,⟨fA,fc,fB,fd⟩)],τ2,_,(HQ.out.2.2.2.2 _ (by omega)).trans HRc.out,zhf _ HTc.out,HPgc.out.putAt HQ.out (by omega),HPc.out.putAt HQ.out (by omega),za9 HGc.out HQ.out (by omega),fun hl=>?_,HRR.out⟩
          have h1:=HFW.out hl
          have h2:=HLM.out h1.1
          have h3:(Pa.Sg.at_ k0).k=k0:=rfl
          rw[h3] at h2
          exact⟨by simp,by omega,by omega,by simp;omega,by omega⟩
         case measure=>omega
       | false =>
        have HRR:Hid (R=(⟨PG,PM,PF.map (·.1)⟩,Pa.fl (.at_ k0) 4)):=by
         show _=_
         rw[←HR.out]
         exact(by rw[Pa.sProg,if_neg (fun h=>by rcases h with h|h;cases h;rw[HE.out] at h;cases h),if_neg (by rw[HN0.out];decide),if_neg (by rw[HN1.out];decide),if_neg (by rw[HN2.out];decide),if_neg (by rw[hI];decide)])
        clear hI HR
        go_wp2_with fail
        refine(zcn w5 g ts (.at_ k0) 0 4 4 rfl (by omega) HP5.out).mono ?_
        rintro x w6 ⟨rfl,hP6,hG6⟩
        have HP6:=Lib.hid hP6
        have HR6:=Lib.hid (za2 hG6 HR5.out hgR')
        have HT6:=Lib.hid (za2 hG6 HT5.out hgT')
        have HPg6:=Lib.hid (HPg5.out.grown hG6 (by omega))
        have HG6:=Lib.hid (za0 HG5.out hG6)
        clear hP6 hG6
        go_wp2_with fail
        go_roundg f1
        case rel =>
         refine⟨_,_,_,PG,PM,PF,Pa.fl (.at_ k0) 4,⟨PG,PM,PF.map (·.1)⟩,HR6.out,HT6.out,HPg6.out,HP6.out,HG6.out,(fun h=>by cases h),?_⟩
         rw[HRR.out]
         exact Pa.sProg_dead ts _ _ _ rfl
        case measure=>omega
end Go.Proofs.YtlnbmmgbfgmboaaDoor
