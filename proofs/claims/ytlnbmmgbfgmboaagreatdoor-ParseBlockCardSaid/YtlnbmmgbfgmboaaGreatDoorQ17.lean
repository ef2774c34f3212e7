import Derived.Test.YtlnbmmgbfgmboaaGreatDoorQa
import Derived.Test.YtlnbmmgbfgmboaaGreatDoorRefOkG
import Derived.Test.YtlnbmmgbfgmboaaGreatDoorQ16
import Derived.Test.YtlnbmmgbfgmboaaGreatDoorRefLexG
import Derived.Test.YtlnbmmgbfgmboaaGreatDoorQ2
import Derived.Test.YtlnbmmgbfgmboaaGreatDoorQ9
import Derived.Test.YtlnbmmgbfgmboaaGreatDoorMdPgAG
import Derived.Test.YtlnbmmgbfgmboaaGreatDoorMdPgBG
import Derived.Test.YtlnbmmgbfgmboaaGreatDoorMdPgCG
import Derived.Test.YtlnbmmgbfgmboaaGreatDoorQ15
namespace Go.Proofs.YtlnbmmgbfgmboaaGreatDoor
open Go.RowKit
theorem bd3 {w:World} {b:Nat} {c0 c1 c2:Value} {t:TypeId} (h:w.heap[b]?=some (.cells #[c0,c1,c2] t (0,0))) :
  w.cell? ⟨b,0,none⟩=some c0∧w.cell? ⟨b,1,none⟩=some c1∧w.cell? ⟨b,2,none⟩=some c2:=⟨(blk3 h).1,(blk3 h).2.1,(blk3 h).2.2.1⟩
set_option maxRecDepth 100000 in
set_option maxHeartbeats 8000000 in
theorem zfb (p:Pg) (hP:MdP p) (AG AM AF:Option Addr) (cG cM cF:Nat) (H:Nat→FnG) (w:World) (hM:PgM w p AG AM AF H) :
  Calls Tryz.prog 29 #[.agg #[.slice AG p.gs.length cG,.slice AM p.ms.length cM,.slice AF p.fs.length cF]] w fun e w'=>e=.returned (.bool (decide ((Tk.lex (zch p)).2.2=0)))∧Below w.heap.size w w':=by
 have HX:=zH (heap_alloc_new w (.cells #[.slice AG p.gs.length cG,.slice AM p.ms.length cM,.slice AF p.fs.length cF] 45));have HBW:Hid (Below w.heap.size w (w.alloc (.cells #[.slice AG p.gs.length cG,.slice AM p.ms.length cM,.slice AF p.fs.length cF] 45))):=(Below.refl _ _).alloc (lR _) _;have HM:=zH (hM.later HBW.out);have hg:=hP.gl;have hm:=hP.ml;have hf:=hP.fl;have HP:=zH hP;have g16:¬(16:Int)<(p.gs.length:Int):=by omega
 have m12:¬(12:Int)<(p.ms.length:Int):=by omega
 have f16:¬(16:Int)<(p.fs.length:Int):=by omega
 have g16':¬16<p.gs.length:=by omega
 have m12':¬12<p.ms.length:=by omega
 have f16':¬16<p.fs.length:=by omega
 clear hP hM;go_enter Tryz.func29,Tryz.ntmps29;go_wp2_with fail;clear g16 m12 f16 g16' m12' f16';generalize (w.alloc (.cells #[.slice AG p.gs.length cG,.slice AM p.ms.length cM,.slice AF p.fs.length cF] 45))=W at *
 go_loopw [3] (fun i wr=>∃k:Nat,k≤p.gs.length∧i=.int .i64 k∧Hid (Below W.heap.size W wr)) (fun i _=>p.gs.length-(intOf i).toNat)
 case atStart=>exact⟨0,Nat.zero_le _,rfl,Below.refl _ _⟩
 case round =>
  obtain⟨k,hk,rfl,HBk⟩:=hrel;have HX1:=zH ((HBk.out.block _ (lt_of_block HX.out)).trans HX.out);obtain⟨x0,-,-⟩:=bd3 HX1.out;by_cases hlt:k<p.gs.length
  ·
   obtain⟨b,hAG,a0,a1⟩:=(HM.out.later HBk.out).g k hlt;have HG:=zH (HP.out.g k hlt);generalize p.gs[k]=gl at *;subst hAG;have hnl:=(zaP HG.out.1).2;have HA1:=zH a1;have i0:(0:Int)≤(k:Int):=by omega
   have i1:(k:Int)<(p.gs.length:Int):=by omega
   clear a1;go_wp2_with fail;refine(zbM gl.name _ (by omega)).mono ?_;rintro e w1 ⟨rfl,hb1⟩;rw[HG.out.1];obtain⟨y0,-,-⟩:=bd3 ((hb1.block _ (lt_of_block HX1.out)).trans HX1.out);have a1:=zc6 hb1 HA1.out;have HB1:=zH (za3 HBk.out hb1);have hne:(gl.init==-9223372036854775808)=false:=bF (by have:=HG.out.2.1;omega);clear hb1 x0 a0;go_wp2_with fail;go_roundw
   case rel=>exact⟨k+1,by omega,by go_num,HB1⟩
   case measure=>simp[intOf];omega
  ·
   go_wp2_with fail;clear x0
   go_loopw [4,5] (fun i _ wr=>∃k:Nat,k≤p.ms.length∧i=.int .i64 k∧Hid (Below W.heap.size W wr)) (fun i _ _=>p.ms.length-(intOf i).toNat)
   case atStart=>exact⟨0,Nat.zero_le _,rfl,HBk⟩
   case round =>
    clear HBk HX1 hlt hk;obtain⟨k2,hk2,rfl,HBk⟩:=hrel;have HX1:=zH ((HBk.out.block _ (lt_of_block HX.out)).trans HX.out);obtain⟨-,x1,-⟩:=bd3 HX1.out;by_cases hlt:k2<p.ms.length
    ·
     obtain⟨b,hAM,a0,a1,a2⟩:=(HM.out.later HBk.out).m k2 hlt;have HG:=zH (HP.out.m k2 hlt);generalize p.ms[k2]=mx at *;subst hAM;have hnl:=(zaP HG.out.1).2;have i0:(0:Int)≤(k2:Int):=by omega
     have i1:(k2:Int)<(p.ms.length:Int):=by omega
     have HY:=zH (heap_alloc_new wr (.cells #[.string ⟨mx.name.toArray⟩,.bool mx.re,.int .i64 (mx.size:Int)] 88));have HC0:Hid (Below wr.heap.size wr (wr.alloc (.cells #[.string ⟨mx.name.toArray⟩,.bool mx.re,.int .i64 (mx.size:Int)] 88))):=(Below.refl _ _).alloc (lR _) _;go_wp2_with fail;generalize (wr.alloc (.cells #[.string ⟨mx.name.toArray⟩,.bool mx.re,.int .i64 (mx.size:Int)] 88))=z0 at *;refine(zbM mx.name _ (by omega)).mono ?_;rintro e w1 ⟨rfl,hb1⟩;rw[HG.out.1];obtain⟨y0,y1,y2⟩:=bd3 ((hb1.block _ (lt_of_block HY.out)).trans HY.out);have HB1:=zH (za3 HBk.out (za3 HC0.out hb1));have hs0:¬(mx.size:Int)<0:=by omega
     have hs3:=HG.out.2.1;have hs64:¬(64:Int)<(mx.size:Int):=by omega
     have hs64':¬64<mx.size:=by omega
     clear hb1 x1 a0 a1 a2;cases hre:mx.re with
     | true =>
      have hz:=HG.out.2.2 hre;rw[hre] at y1;rw[hz] at y2 hs0 hs64 hs64';go_wp2_with fail;go_roundw
      case rel=>exact⟨k2+1,by omega,by go_num,HB1⟩
      case measure=>simp[intOf];omega
     | false =>
      rw[hre] at y1;go_wp2_with fail;go_roundw
      case rel=>exact⟨k2+1,by omega,by go_num,HB1⟩
      case measure=>simp[intOf];omega
    ·
     go_wp2_with fail;clear x1
     go_loopw [6,7,8] (fun i _ _ wr=>∃k:Nat,k≤p.fs.length∧i=.int .i64 k∧Hid (Below W.heap.size W wr)) (fun i _ _ _=>p.fs.length-(intOf i).toNat)
     case atStart=>exact⟨0,Nat.zero_le _,rfl,HBk⟩
     case round =>
      clear HBk HX1 hlt hk2;obtain⟨k3,hk3,rfl,HBk⟩:=hrel;have HX1:=zH ((HBk.out.block _ (lt_of_block HX.out)).trans HX.out);by_cases hlt:k3<p.fs.length
      ·
       obtain⟨-,-,x2⟩:=bd3 HX1.out;obtain⟨b,hAF,a0,a1,a2⟩:=(HM.out.later HBk.out).f k3 hlt;have HG:=zH (HP.out.f k3 hlt);have HPs:=zH ((HM.out.later HBk.out).ps k3 hlt);have HBd:=zH ((HM.out.later HBk.out).bd k3 hlt);generalize p.fs[k3]=fn at *;generalize H k3=G at *;subst hAF;have hnl:=(zaP HG.out.1).2;have hpl:=HG.out.2.1;have i0:(0:Int)≤(k3:Int):=by omega
       have i1:(k3:Int)<(p.fs.length:Int):=by omega
       have HY:=zH (heap_alloc_new wr (.cells #[.string ⟨fn.name.toArray⟩,.slice G.A fn.ps.length G.c,.slice G.B fn.body.length G.d] 52));have HC0:Hid (Below wr.heap.size wr (wr.alloc (.cells #[.string ⟨fn.name.toArray⟩,.slice G.A fn.ps.length G.c,.slice G.B fn.body.length G.d] 52))):=(Below.refl _ _).alloc (lR _) _;go_wp2_with fail;generalize (wr.alloc (.cells #[.string ⟨fn.name.toArray⟩,.slice G.A fn.ps.length G.c,.slice G.B fn.body.length G.d] 52))=z0 at *;refine(zbM fn.name _ (by omega)).mono ?_;rintro e w1 ⟨rfl,hb1⟩;rw[HG.out.1];have HY1:=zH ((hb1.block _ (lt_of_block HY.out)).trans HY.out);have HC1:=zH (za3 HC0.out hb1);obtain⟨y0,y1,y2⟩:=bd3 HY1.out;have p6:¬(6:Int)<(fn.ps.length:Int):=by omega
       have p6':¬6<fn.ps.length:=by omega
       clear hb1 x2 a0 a1 a2;go_wp2_with fail;refine(zfV (SizeOf.sizeOf fn.body+1) fn.body G.B G.d 2 0 0 _ (Nat.lt_succ_self _) rfl (by decide) (HBd.out.keep fun b _ hl=>HC1.out.block b hl) HG.out.2.2.2.1 (by have:=HG.out.2.2.2.2;omega)).mono ?_;rintro e w2 ⟨rfl,hb2⟩;have HY2:=zH ((hb2.block _ (lt_of_block HY1.out)).trans HY1.out);have HC2:=zH (za3 HC1.out hb2);clear y0 y1 y2 hb2 p6 p6' HY1 HY;go_wp2_with fail
       go_loopw [8] (fun i wz=>∃q:Nat,q≤fn.ps.length∧i=.int .i64 q∧Hid (Below w2.heap.size w2 wz)) (fun i _=>fn.ps.length-(intOf i).toNat)
       case atStart=>exact⟨0,Nat.zero_le _,rfl,Below.refl _ _⟩
       case round =>
        obtain⟨q,hq,rfl,HBq⟩:=hrel;obtain⟨-,y1,-⟩:=bd3 ((HBq.out.block _ (lt_of_block HY2.out)).trans HY2.out);by_cases hql:q<fn.ps.length
        ·
         obtain⟨ba,oa,hA,-,m0,-⟩:=((HPs.out.later HC2.out).later HBq.out) q hql;rw[hA] at y1;have HNM:=zH (HG.out.2.2.1 q hql);generalize fn.ps[q]=pm at *;have hql2:=(zaP HNM.out).2;have i2:(0:Int)≤(q:Int):=by omega
         have i3:(q:Int)<(fn.ps.length:Int):=by omega
         clear hA;go_wp2_with fail;refine(zbM pm.name _ (by omega)).mono ?_;rintro e w3 ⟨rfl,hb3⟩;rw[HNM.out];have HB3:=zH (za3 HBq.out hb3);clear hb3 y1 m0;go_wp2_with fail;go_roundw
         case rel=>exact⟨q+1,by omega,by go_num,HB3⟩
         case measure=>simp[intOf];omega
        ·
         go_wp2_with fail;go_roundw
         case rel=>exact⟨k3+1,by omega,by go_num,za3 HBk.out (za3 HC2.out HBq.out)⟩
         case measure=>simp[intOf];omega
      ·
       obtain⟨x0,x1,x2⟩:=bd3 HX1.out;go_wp2_with fail;refine(zd7 p HP.out.t AG AM AF cG cM cF H _ (HM.out.later HBk.out)).mono ?_;rintro e w1 ⟨rfl,hb1⟩;have HTX:=zH HP.out.text;have HB1:=zH (za3 HBW.out (za3 HBk.out hb1));clear hb1 x0 x1 x2;generalize hTe:zch p=T at *;have HTE:=zH hTe;clear hTe;obtain⟨c1,W1,hcv1,hB1,hc1,hb2⟩:=zeR T w1;have HLX:=zH (zeC T (some ⟨w1.heap.size,0,none⟩) c1 W1 hB1 (by have:=HTX.out;omega) hc1);have HB2:=zH (za3 HB1.out hb2);clear hB1 hc1 hb2;go_wp2_with fail;refine HLX.out.mono ?_;intro e w2 hp;obtain⟨A,c,rfl,-,hb3⟩:=zdL hp;have HB3:=zH (za3 HB2.out hb3);clear hp hb3 hcv1;generalize hRe:Tk.lex T=R at *;have HRE:=zH hRe;clear hRe;by_cases h0:R.2.2=0
       ·
        have hz:(((R.2.2:Nat):Int)==0)=true:=bT (by omega);have HR:Hid (decide ((Tk.lex (zch p)).2.2=0)=true):=by show _=_;rw[HTE.out,HRE.out];exact decide_eq_true h0
        clear h0;go_wp2_with fail;go_ret;exact⟨zao HR.out.symm,HB3.out⟩
       ·
        have hz:(((R.2.2:Nat):Int)==0)=false:=bF (by omega);have HR:Hid (decide ((Tk.lex (zch p)).2.2=0)=false):=by show _=_;rw[HTE.out,HRE.out];exact decide_eq_false h0
        clear h0;go_wp2_with fail;go_ret;exact⟨zao HR.out.symm,HB3.out⟩
def fmtT (p:Pg):List UInt8:=if (Tk.lex (zch p)).2.2=0 then zch p else []
set_option maxRecDepth 100000 in
set_option maxHeartbeats 4000000 in
theorem zer (p:Pg) (hP:MdP p) (AG AM AF:Option Addr) (cG cM cF:Nat) (H:Nat→FnG) (w:World) (hM:PgM w p AG AM AF H) :
  Calls Tryz.prog 13 #[.agg #[.slice AG p.gs.length cG,.slice AM p.ms.length cM,.slice AF p.fs.length cF]] w fun e w'=>e=.returned (.string ⟨(fmtT p).toArray⟩)∧Below w.heap.size w w':=by
 have HX:=zH (heap_alloc_new w (.cells #[.slice AG p.gs.length cG,.slice AM p.ms.length cM,.slice AF p.fs.length cF] 45));have HBW:Hid (Below w.heap.size w (w.alloc (.cells #[.slice AG p.gs.length cG,.slice AM p.ms.length cM,.slice AF p.fs.length cF] 45))):=(Below.refl _ _).alloc (lR _) _;have HM:=zH (hM.later HBW.out);have HP:=zH hP;clear hP hM;go_enter Tryz.func13,Tryz.ntmps13;go_wp2_with fail;generalize (w.alloc (.cells #[.slice AG p.gs.length cG,.slice AM p.ms.length cM,.slice AF p.fs.length cF] 45))=W at *;refine(zfb p HP.out AG AM AF cG cM cF H W HM.out).mono ?_;rintro e w1 ⟨rfl,hb1⟩;obtain⟨x0,x1,x2⟩:=bd3 ((hb1.block _ (lt_of_block HX.out)).trans HX.out);have HM1:=zH (HM.out.later hb1);have HB1:=zH (za3 HBW.out hb1);clear hb1;by_cases h0:(Tk.lex (zch p)).2.2=0
 ·
  have HF:Hid (fmtT p=zch p):=if_pos h0;rw[decide_eq_true h0];clear h0;go_wp2_with fail;refine(zd7 p HP.out.t AG AM AF cG cM cF H _ HM1.out).mono ?_;rintro e w2 ⟨rfl,hb2⟩;have HB2:=zH (za3 HB1.out hb2);clear hb2 x0 x1 x2;go_wp2_with fail;go_ret;exact⟨by rw[HF.out];rfl,HB2.out⟩
 ·
  have HF:Hid (fmtT p=[]):=if_neg h0;rw[decide_eq_false h0];clear h0;go_wp2_with fail;go_ret;exact⟨by rw[HF.out];rfl,HB1.out⟩
def ProgC (xs:List Int):Prop:=∀(A:Option Addr) (cap:Nat) (w:World),IntR w A xs→xs.length≤cap→xs.length≤9223372036854775807→Calls Tryz.prog 14 #[.slice A xs.length cap] w (MpP w)
set_option maxRecDepth 100000 in
set_option maxHeartbeats 4000000 in
theorem mtext_of (xs:List Int) (hC:ProgC xs) (A:Option Addr) (cap:Nat) (w:World) (hR:IntR w A xs) (hc:xs.length≤cap) (hm:xs.length≤9223372036854775807) :
  Calls Tryz.prog 5 #[.slice A xs.length cap] w fun e w'=>∃P,PgW P∧e=.returned (.string ⟨(fmtT P).toArray⟩)∧Below w.heap.size w w':=by
 have HC:=zH (hC A cap w hR hc hm);clear hC hR hc hm;go_enter Tryz.func5,Tryz.ntmps5;go_wp2_with fail;refine HC.out.mono ?_;rintro e w1 ⟨P,AG,AM,AF,cG,cM,cF,H,rfl,hP,hM,hb⟩;have HP:=zH hP;have HB:=zH hb;have HF:=zH (zer P hP.md AG AM AF cG cM cF H w1 hM);clear hP hM hb;go_wp2_with fail;refine HF.out.mono ?_;rintro e w2 ⟨rfl,hb2⟩;have HB2:=zH (za3 HB.out hb2);clear hb2;go_wp2_with fail;go_ret;exact⟨P,HP.out,rfl,HB2.out⟩
theorem fmtT_len {P:Pg} (h:PgW P):(fmtT P).length≤101000:=by
 have:=h.md.text;unfold fmtT;split
 ·
  exact this
 ·
  simp
theorem pgW_of {w wr:World} {g:Nat} {ys:List Int} {ar:Bool} {vA:Option Addr} {AG AM:Option Addr} {cG cM:Nat} {PG:List Gl} {PM:List Mx} {bF cF:Nat} {PF:List (Fn × FnG)} (hG:GlOk PG) (hg2:PG.length≤2) (hM:MxOk PM) (hm:1≤PM.length∧PM.length≤4) (hF:FnOk PF) (hf:1≤PF.length∧PF.length≤4)
  (h5:ML5 w g ys ar vA (PG.map (·.name)) AG AM cG cM PG PM bF cF (zb7 PF) (zb7 PF).length wr):∃(FS:List (Fn × FnG)) (i left:Nat),FS.length=PF.length∧PgW ⟨PG,PM,FS.map (·.1)⟩∧PwF w g ys ar vA (PG.map (·.name)) AG AM cG cM PG PM bF cF FS i left wr:=by
 obtain⟨FS,i,left,L,hH,hP,hL0,-,-,hb⟩:=h5;have hlen:FS.length=PF.length:=by have:=congrArg List.length hH;simpa[zb7] using this
 have hhd:∀j (h:j<FS.length) (h':j<PF.length),FS[j].1.name=PF[j].1.name∧FS[j].1.ps=PF[j].1.ps:=fun j h h'=>by
  have h1:(zb7 FS)[j]'(by simpa[zb7] using h)=(zb7 PF)[j]'(by simpa[zb7] using h'):=by simp only[hH]
  simp only[zb7,List.getElem_map,Hd.mk.injEq] at h1;exact h1
 refine⟨FS,i,left,hlen,⟨hg2,hm,by simpa[hlen] using hf,hG,hM,fun j hj=>?_,⟨L,by omega,fun j hj=>?_⟩⟩,hP⟩
 ·
  have hj1:j<FS.length:=by simpa using hj
  have hj2:j<PF.length:=by omega
  obtain⟨e1,e2⟩:=hhd j hj1 hj2;obtain⟨f1,f2,f3,f4,-,-,-⟩:=hF j hj2;have hx:(List.map (·.1) FS)[j]'hj=FS[j].1:=List.getElem_map ..;obtain⟨⟨⟨fnm,fps,fbd⟩,fG⟩,hfj⟩:∃p,p=FS[j]:=⟨_,rfl⟩;rw[←hfj] at e1 e2 hx;dsimp only at e1 e2 hx ⊢;rw[hx];subst e1;subst e2;exact⟨f1,f2,f3,f4⟩
 ·
  have hj1:j<FS.length:=by simpa using hj
  obtain⟨us',hB⟩:=hb j hj1 (by simpa[zb7,hlen] using(show j<PF.length by omega));refine⟨us',?_⟩;have hh:(List.map (fun f:Fn=>(⟨f.name,f.ps⟩:Hd)) (List.map (·.1) FS))=zb7 FS:=by simp[zb7,List.map_map,Function.comp_def]
  simp only[List.getElem_map];rw[hh,hH];exact hB
set_option maxRecDepth 100000 in
set_option maxHeartbeats 8000000 in
theorem zfr (xs:List Int):ProgC xs:=by
 intro A cap w hR hc hm;have hb0:Below w.heap.size w (w.alloc (.cells #[.slice none 0 0,.slice none 0 0,.slice none 0 0] 45)):=(Below.refl _ _).alloc (lR _) _;have HCUT:=zH (cutN_any 400 (by omega) xs A cap _ (hR.later hb0) hc hm);have hx:(xs.take 400).length≤1000:=by simp;omega
 have HST:=zH (zii (cap:=cap) (hR.take 400) hx);clear hR hc hm hb0 hx;generalize xs.take 400=ys at *;go_enter Tryz.func14,Tryz.ntmps14;go_wp2_with fail;refine HCUT.out.mono ?_;rintro e w1 ⟨rfl,rfl⟩;obtain⟨g,hgE⟩:∃g,g=w.heap.size+1+1:=⟨_,rfl⟩;obtain⟨s0,-,-,-,-,sf,sl⟩:=HST.out.cells;go_wp2_with fail;clear s0 sf sl HCUT;rw[←hgE] at HST ⊢;have HGE:=zH hgE;clear hgE;generalize (((w.alloc (.cells #[.slice none 0 0,.slice none 0 0,.slice none 0 0] 45)).alloc (.cells #[.slice A ys.length cap,.int .i64 0] 83)).alloc (.cells #[.pointer (some ⟨w.heap.size+1,0,none⟩),.slice none 0 0,.slice none 0 0,.slice none 0 0,.int .i64 24,.bool false] 85))=W0 at *;refine(zaq _ (w.heap.size+1) ys 0 3 HST.out.s (by omega) (by omega)).mono ?_;rintro e w2 ⟨rfl,hS2,hG2⟩;have HS2:=zH (HST.out.next hS2 hG2);obtain⟨s0,-,-,-,s5,sf,sl⟩:=HS2.out.cells;clear hS2 hG2 HST;generalize zad ys 0 (Int.toNat 3)=v3 at *;have sf5:=sf 5;have HAR:=zH (HS2.out.arith ((v3:Int)==1));go_wp2_with fail;clear s0 s5 sf5 sf sl HS2;generalize (w2.setCell ⟨g,5,none⟩ (.bool ((v3:Int)==1)))=W3 at *;generalize ((v3:Int)==1)=ar at *;generalize zaf ys 0=i3 at *;refine(zaq _ (w.heap.size+1) ys i3 4 HAR.out.s (by omega) (by omega)).mono ?_;rintro e w4 ⟨rfl,hS4,hG4⟩;rw[show (4:Int).toNat=4 from rfl];have hn4:=zav ys i3 4 (by omega);have HL1:Hid (ML1 w g ys ar 0 w4):=⟨[],none,0,_,rfl,fun j h=>absurd h (by simp),HAR.out.next hS4 hG4⟩;clear hS4 hG4 HAR;generalize zad ys i3 4=n at *;go_wp2_with fail;refine Code.wp_mono (zbJ 0 Nrm.imp) (pgLoop1 HGE hn4 HL1 ?_);refine zH ?_;intro x4 x5 x6 x7 x8 x9 a0 a1 a2 a3 a4 a5 a6 a7 a8 a9 aa ab ac ad ae af ag ah ai aj ak al am an ao ap aq au av aw ax ay az aA aB aC aD aE aF aG aH aI aJ aK aL aM aN aO aP aQ aR aS aT aU aV aW aX aY aZ b0 b1 b2 b3 b4 b5 b6 b7 b8 b9 ba bb bc bd be bf bg bh bi bj bk bl bm bn bo bp bq br bs bt bu bv bw bx bz bA bB bC bD bE bG bH bI bJ bK bL bM bN bO bP bQ bR bS bT bU bV bW bX bY bZ c0 c1 c2 c3 c4 c5 c6 c7 c8 c9 ca cb cc cd ce cf cg ch ci cj ck cl cm cn co cp cq cr cs ct cu cv cw cx cy cz cA cB cC cD cE cH cI cJ cK cL cN cO cP cQ cR cS cT cU cV cW cX cY cZ d0 d1 d2 d3 d4 d5 d6 d7 d8 d9 da db dc dd de df dg dh di dj dk dl dm dn dp dq dr ds dt du dv dw dx dy dz dA dB dC dD dE dF dG dH dI dJ dK dL dM dN dO dP dQ dR dS dT dU dV dW dX dY dZ e0 e3 e4 e5 e6 e7 e8 e9 ea eb ec ed ee ef eg w5 hM1;dsimp only[Exit.then];obtain⟨PM,AM,cM,i5,hPk,hMx,hS5⟩:=hM1;have HS5:=zH hS5;have HMX:=zH hMx;have HPK:=zH hPk;obtain⟨s0,-⟩:=HS5.out.cells;clear HL1 hPk hMx hS5;go_wp2_with fail;refine(zaq _ (w.heap.size+1) ys i5 3 HS5.out.s (by omega) (by omega)).mono ?_;rintro e w6 ⟨rfl,hS6,hG6⟩
 (try dsimp only)
 rw[show (3:Int).toNat=3 from rfl];have hn3:=zav ys i5 3 (by omega);have HL2:Hid (ML2 w g ys ar PM (.slice AM PM.length cM) 0 (.slice none 0 0) w6):=⟨[],none,none,0,0,_,rfl,rfl,fun j h=>absurd h (by simp),HS5.out.next hS6 hG6⟩;clear hS6 hG6 s0 HS5;generalize zad ys i5 3=n3 at *;go_wp2_with fail;refine Code.wp_mono (zbJ 3 Nrm.imp) (pgLoop2 HGE hn3 HL2 ?_);refine zH ?_;intro x4 x5 x6 x8 x9 a0 a1 a2 a3 a4 a5 a6 a7 a8 a9 aa ab ac ad ae af ag ah ai aj ak al am an ao ap aq au av aw ax ay az aA aB aC aD aE aF aG aH aI aJ aK aL aM aN aO aP aQ aR aS aT aU aV aW aX aY aZ b0 b1 b2 b3 b4 b5 b6 b7 b8 b9 ba bb bc bd be bf bg bh bi bj bk bl bm bn bo bp bq br bs bt bu bv bw bx bz bA bB bC bD bE bG bH bI bJ bK bL bM bN bO bP bQ bR bS bT bU bV bW bX bY bZ c0 c1 c2 c3 c4 c5 c6 c7 c8 c9 ca cb cc cd ce cf cg ch ci cj ck cl cm cn co cp cq cr cs ct cu cv cw cx cy cz cA cB cC cD cE cH cI cJ cK cL cN cO cP cQ cR cS cT cU cV cW cX cY cZ d0 d1 d2 d3 d4 d5 d6 d7 d8 d9 da db dc dd de df dg dh di dj dk dl dm dn dp dq dr ds dt du dv dw dx dy dz dA dB dC dD dE dF dG dH dI dJ dK dL dM dN dO dP dQ dR dS dT dU dV dW dX dY dZ e0 e3 e4 e5 e6 e7 e8 e9 ea eb ec ed ee ef eg vv w7 hM2;dsimp only[Exit.then];obtain⟨PG,AG,vA,cG,vc,i7,hGk,rfl,hGo,hS7⟩:=hM2;have HS7:=zH hS7;have HGO:=zH hGo;have HGK:=zH hGk;obtain⟨s0,-⟩:=HS7.out.cells;clear HL2 hGk hGo hS7;go_wp2_with fail;refine(zaq _ (w.heap.size+1) ys i7 4 HS7.out.s (by omega) (by omega)).mono ?_;rintro e w8 ⟨rfl,hS8,hG8⟩
 (try dsimp only)
 rw[show (4:Int).toNat=4 from rfl];have hkm:=zav ys i7 4 (by omega);have HL3:Hid (ML3 w g ys ar (.slice vA PG.length vc) (PG.map (·.name)) (.slice AG PG.length cG) (.slice AM PM.length cM) PG PM 0 w8):=⟨[],none,0,_,rfl,fun j h=>absurd h (by simp),HS7.out.next hS8 hG8⟩;clear hS8 hG8 s0 HS7;generalize zad ys i7 4=km at *;go_wp2_with fail;refine Code.wp_mono (zbJ 5 Nrm.imp) (pgLoop3 HGE hkm HL3 ?_);refine zH ?_;intro a2 a3 a4 a5 bW bX bY bZ c0 c1 c2 c3 c4 c5 c6 c7 c8 c9 ca cb cc cd ce cf cg ch ci cj ck cl cm cn co cp cq cr cs ct cu cv cw cx cy cz cA cB cC cD cE cH cI cJ cK cL cN cO cP cQ cR cS cT cU cV w9 hM3;dsimp only[Exit.then];obtain⟨PF,AF,cF,i9,hFk,hFo,hS9⟩:=hM3;have hul:(PG.map (·.name)).length=PG.length:=List.length_map ..;have hS9':PwS w g ys ar (.slice vA (PG.map (·.name)).length vc) (PG.map (·.name)) (.slice AG PG.length cG) (.slice AM PM.length cM) (.slice AF PF.length cF) PG PM PF i9 w9:=by rw[hul];exact hS9
 rw[←hul];obtain⟨bF,rfl,hPF⟩:=zij hS9' (by omega);have HL5:Hid (ML5 w g ys ar vA (PG.map (·.name)) AG AM cG cM PG PM bF cF (zb7 PF) 0 w9):=⟨PF,i9,24,fun _=>24,rfl,hPF,rfl,rfl,lR _,fun j h hj=>absurd hj (by omega)⟩;have HFO:=zH hFo;have hpm:1≤PM.length∧PM.length≤4:=by have:=HPK.out;omega
 have hpf:1≤PF.length∧PF.length≤4:=by omega
 have hpg:PG.length≤2:=by have:=HGK.out;omega
 have hH0:(zb7 PF).length=PF.length:=by simp[zb7]
 have HMb:Hid (∀k (h:k<PM.length),PM[k].size≤3∧PM[k].name.length≤16):=fun k h=>⟨(HMX.out k h).2.1,by rw[(HMX.out k h).1];simp⟩;have HHb:Hid (∀k (h:k<(zb7 PF).length),(zb7 PF)[k].ps.length≤2∧(zb7 PF)[k].name.length≤16):=fun k h=>by
  have h':k<PF.length:=by omega
  have hF:=HFO.out k h';simp only[zb7,List.getElem_map];refine⟨hF.len,?_⟩;rw[hF.nm];split<;>simp
 have hus:(PG.map (·.name)).length≤900:=by omega
 clear hFk hFo hS9 hS9' hPF HL3;go_wp2_with fail;refine Code.wp_mono (zbJ 9 Nrm.imp) (pgLoop5 HGE (by omega) hpm HMb HHb hus HL5 ?_);refine zH ?_;intro a6 a7 a8 cW cX cY cZ d0 d1 d2 d3 d4 d5 d6 d7 d8 d9 da db dc dd de df dg dh di dj dk dl dm dn dp dq dr ds dt du dv dw dx dy dz dA dB dC dD dE dF dG dH dI dJ dK dL dM dN dO dP dQ dR dS dT dU dV dW dX dY dZ e0 e3 e4 e5 e6 e7 e8 e9 ea eb ec wz hM5;dsimp only[Exit.then];obtain⟨FS,iz,lz,hFS,hW,hPz⟩:=pgW_of HGO.out hpg HMX.out hpm HFO.out hpf hM5;have HW:=zH hW;have HPz:=zH hPz;have HFS:=zH hFS;obtain⟨g1,g2,g3,hgl⟩:=hPz.cells;obtain⟨r0,r1,r2,rf,rl⟩:=blk3 hPz.r;have rf0:=rf 0;have rf1:=rf 1;have rf2:=rf 2;clear hW hPz hFS rf HL5 hM5;go_wp2_with fail;have hq:=((((PutAt.refl w.heap.size wz).set 0 (.slice AG PG.length cG)).set 1 (.slice AM PM.length cM)).set 2 (.slice (some ⟨bF,0,none⟩) FS.length cF));obtain⟨⟨H,hPM⟩,hB⟩:=HPz.out.out hq;refine bodyPost_ret (v:=.agg #[.slice AG PG.length cG,.slice AM PM.length cM,.slice (some ⟨bF,0,none⟩) FS.length cF]) (by simp[results,Tryz.results14,go_sem,r0,r1,r2]) rfl ⟨⟨PG,PM,FS.map (·.1)⟩,AG,AM,some ⟨bF,0,none⟩,cG,cM,cF,H,by simp,HW.out,hPM,hB⟩
end Go.Proofs.YtlnbmmgbfgmboaaGreatDoor
