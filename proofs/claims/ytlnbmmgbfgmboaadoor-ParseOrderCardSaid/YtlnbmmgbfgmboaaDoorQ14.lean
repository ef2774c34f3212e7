import Derived.Test.YtlnbmmgbfgmboaaDoorQ9
import Derived.Deep.CutRange
import Derived.Test.YtlnbmmgbfgmboaaDoorQ12
import Derived.Test.YtlnbmmgbfgmboaaDoorMdSwVarG
import Derived.Test.YtlnbmmgbfgmboaaDoorQ13
import Derived.Test.YtlnbmmgbfgmboaaDoorMdSwCallG
import Derived.Test.YtlnbmmgbfgmboaaDoorMdSwGosG
import Derived.Test.YtlnbmmgbfgmboaaDoorMdSwCondG
namespace Go.Proofs.YtlnbmmgbfgmboaaDoor
open Go.RowKit
set_option maxRecDepth 100000 in
set_option maxHeartbeats 8000000 in
theorem sw_whl {W:WP} {fn:Nm} {ps:List Pm} {pA bA:Option Addr} {pc bn bc N left d most k:Nat} {w wr w3:World} {vs us:List Nm} {P:List (St × SG)} {oA vA:Option Addr} {oc vc i1 i2 lo m:Nat} {Q:Exit→Act→World→Prop} {K K1 K2:Act→World→Prop} {u5 u7 u8 u9 a0 a1 a2 a3 a4 a5 a6 a7 a8 a9 aa ab ac ad ae af ag ah ai aj ak al am an ao ap aq ar au av aw ax ay az aA aB aC aD aE aF aG aH aI aJ aK aL aM aN aO aP aQ aR aS aT aU aV aW aX aY aZ b0 b1 b2 b3 b4 b5 b6 b7 b8 b9 ba bb bd be bf bg bh bi bj bk bl bm bo bp bq br bs bt bu bv bw bx bz bB bC bD bE bF bG bH bI bJ bK bL bM bN bO bP bQ bR bS bT bU bV bW bX bY bZ c0 c1 c3 c4 c5 c6 c7 c8 c9 ca cb cc cd ce cf cg ch ci cj ck cl cm cn co cp cq cr ct cu cv cw cx cy cz cA cB cC cD cE cF cG cH cI cJ cK cL cM cN cO cP cQ cR cS cT cU cV cW cX cY cZ d0 d2 d3 d4 d5 d6 d7 d8 d9 da db dc dd de df dg dh di dj dk dl dm dn dp dq dr ds dt du dv dw dx dy dz dA dB dC dD dE dF dG dH dI dJ dK dL dM dN dO dP dQ dR dS dT dU dV dW:Value} (hC:RndC W fn ps pA bA pc bn bc N left d most k w wr w3 vs us P oA vA oc vc i1 i2 lo m)
  (hK:∀a w,(nav [true,true,true,false,true,false,false,true,false,false,true,true,false,true,false,true] (Tryd.f15.body.getD .skip)).wp Tryd.prog (Exit.inBlock 2 (Exit.then K1 (Exit.inBlock 1 (Exit.then K2 Q)))) a w→K a w)
  (hK1:∀a w,(nav [true,true,true,false,true,false,false,true,false,false,true,true,true] (Tryd.f15.body.getD .skip)).wp Tryd.prog (Exit.inBlock 1 (Exit.then K2 Q)) a w→K1 a w) (hK2:∀a w,(nav [true,true,true,false,true,false,false,true,true] (Tryd.f15.body.getD .skip)).wp Tryd.prog Q a w→K2 a w)
  (HQQ:Hid (∀(dX dY dZ e0 e1 e2 e3 e4 e5 e6 e7 e8 e9 ea eb ec ed ee ef eg eh ei ej ek el em en eo ep eq er es et eu ev ew ex ey ez eA eB eC eD eE eF eG eH eI eJ eK eL eM eN eO eP eQ eR eS eT eU eV eW eX eY eZ f3 f4 f5 f6 f7 f8 f9 fa fb fd fe ff fg fh fi fj fk fm fp fq fr fs ft fu fv fw fy fz fB fC fD fE fF fG fH fI fJ fK fL fM fN fO fP fQ fR fS fT fU fV fW fX fY fZ g0 g1 g2 g3 g4 g5 g6 g7 g8 g9 ga gc gd ge gf gg gh gi gj gk gl gm gn gp gq gr gs gt gu gv gw gx gy gz gA gB gC gD gE gF gG gH gI gJ gK gL gM gN gO gP gQ gR gS gT gU gV gW gX gY gZ h0 h1 h2 h3 h5 h6 h8 h9 ha hc he hf hg hh hj ho hp hq hr hs ht hu hv hw hx hy hz hA hB hD hE hG hH hJ hL hM hN hO hP hQ hS hT hU hV hW hX hY vv vo vn:Value) (w':World),BkL w W ps (.cells #[.string ⟨fn.toArray⟩,.slice pA ps.length pc,.slice bA bn bc] 58 (0,0)) d left most vs vv vo vn w'→(intOf vn).toNat<k→Q .normal {tmps:=#[.pointer (some ⟨W.g,0,none⟩),.agg #[.string ⟨fn.toArray⟩,.slice pA ps.length pc,.slice bA bn bc],vv,.int .i64 (d:Int),.int .i64 (most:Int),u5,.pointer (some ⟨w.heap.size,0,none⟩),u7,u8,u9,a0,vo,vn,dX,dY,dZ,e0,a3,a4,a5,a6,a7,a8,a9,aa,ab,ac,e1,e2,e3,e4,e5,e6,e7,e8,e9,ea,eb,ec,ed,ee,ef,eg,eh,ei,ej,ek,el,em,en,eo,ep,eq,er,es,et,eu,ev,ew,ex,ey,ez,eA,eB,eC,eD,eE,eF,eG,eH,eI,eJ,eK,eL,eM,eN,eO,eP,eQ,eR,eS,eT,eU,eV,eW,eX,eY,eZ,f3,f4,f5,f6,f7,f8,f9,fa,fb,fd,fe,ff,fg,fh,fi,fj,fk,fm,fp,fq,fr,fs,ft,fu,fv,fw,fy,fz,fB,fC,fD,fE,fF,fG,fH,fI,fJ,fK,fL,fM,fN,fO,fP,fQ,fR,fS,fT,fU,fV,fW,fX,fY,fZ,g0,g1,g2,g3,g4,g5,g6,g7,g8,g9,ga,gc,gd,ge,gf,gg,gh,gi,gj,gk,gl,gm,gn,gp,gq,gr,gs,gt,gu,gv,gw,gx,gy,gz,gA,gB,gC,gD,gE,gF,gG,gH,gI,gJ,gK,gL,gM,gN,gO,gP,gQ,gR,gS,gT,gU,gV,gW,gX,gY,gZ,h0,h1,h2,h3,h5,h6,h8,h9,ha,hc,he,hf,hg,hh,hj,ho,hp,hq,hr,hs,ht,hu,hv,hw,hx,hy,hz,hA,hB,hD,hE,hG,hH,hJ,hL,hM,hN,hO,hP,hQ,hS,hT,hU,hV,hW,hX,hY,dW],defers:=[]} w'))
  (e12:m=12∧0<d) :
  (nav [true,true,true,false,true,false,false,true,false,false,true,true,false,true,false,false] (Tryd.f15.body.getD .skip)).wp Tryd.prog (Exit.then K (Exit.inBlock 2 (Exit.then K1 (Exit.inBlock 1 (Exit.then K2 Q))))) {tmps:=#[.pointer (some ⟨W.g,0,none⟩),.agg #[.string ⟨fn.toArray⟩,.slice pA ps.length pc,.slice bA bn bc],.slice vA us.length vc,.int .i64 (d:Int),.int .i64 (most:Int),u5,.pointer (some ⟨w.heap.size,0,none⟩),u7,u8,u9,a0,.slice oA P.length oc,.int .i64 (k:Int),.pointer (some ⟨wr.heap.size,0,none⟩),.int .i64 (m:Int),a1,a2,a3,a4,a5,a6,a7,a8,a9,aa,ab,ac,ad,ae,af,ag,ah,ai,aj,ak,al,am,an,ao,ap,aq,ar,au,av,aw,ax,ay,az,aA,aB,aC,aD,aE,aF,aG,aH,aI,aJ,aK,aL,aM,aN,aO,aP,aQ,aR,aS,aT,aU,aV,aW,aX,aY,aZ,b0,b1,b2,b3,b4,b5,b6,b7,b8,b9,ba,bb,bd,be,bf,bg,bh,bi,bj,bk,bl,bm,bo,bp,bq,br,bs,bt,bu,bv,bw,bx,bz,bB,bC,bD,bE,bF,bG,bH,bI,bJ,bK,bL,bM,bN,bO,bP,bQ,bR,bS,bT,bU,bV,bW,bX,bY,bZ,c0,c1,c3,c4,c5,c6,c7,c8,c9,ca,cb,cc,cd,ce,cf,cg,ch,ci,cj,ck,cl,cm,cn,co,cp,cq,cr,ct,cu,cv,cw,cx,cy,cz,cA,cB,cC,cD,cE,cF,cG,cH,cI,cJ,cK,cL,cM,cN,cO,cP,cQ,cR,cS,cT,cU,cV,cW,cX,cY,cZ,d0,d2,d3,d4,d5,d6,d7,d8,d9,da,db,dc,dd,de,df,dg,dh,di,dj,dk,dl,dm,dn,dp,dq,dr,ds,dt,du,dv,dw,dx,dy,dz,dA,dB,dC,dD,dE,dF,dG,dH,dI,dJ,dK,dL,dM,dN,dO,dP,dQ,dR,dS,dT,dU,dV,dW],defers:=[]} w3:=by
 obtain⟨hps,hl,hd,hm,hn,hql,hgl,hll,hgl',hwr,hk,hk0,hun,hlo,hPl,hm14,HP,IH3,IH2,HBL,HS,HF3,HT3,HW3,HNq,HNg,HPm,f0,f1,f2⟩:=hC
 have hg0:=hgl
 have hq0:=hql
 obtain⟨i0,hi,hz0,hz1,hz2⟩:=info_parts Tryd.infoStr
 obtain⟨iS,hiS,hs0,hs1,hs2⟩:=info_parts Tryd.infoSt
 dsimp only[nav,Tryd.f15,Option.getD] at hK hK1 hK2 ⊢
 have h4:¬m<4:=by omega
 have t4:¬((m:Nat):Int)<4:=by omega
 have h7:¬m<7:=by omega
 have t7:¬((m:Nat):Int)<7:=by omega
 obtain⟨rfl,hdp⟩:=e12
 have hTq:wr.heap.size≠W.q:=by omega
 have hTg:wr.heap.size≠W.g:=by omega
 have hgT:W.g≠wr.heap.size:=by omega
 have hz3:=lt_of_block HT3.out
 have HW3d:Hid (WrM w3.drew W i2 lo):=HW3.out.keep fun _ _=>rfl
 have HNd:Hid (StrN w3.drew W.q vA us):=HNq.out
 have HT3d:Hid (w3.drew.heap[wr.heap.size]?=_):=HT3.out
 have HF3d:Hid (Fr W.g W.q wr w3.drew):=⟨HF3.out.os,HF3.out.tape,HF3.out.output,HF3.out.size,HF3.out.block⟩
 have hzd:w3.drew.heap.size=w3.heap.size:=rfl
 have HFC:Hid (∀w',Fr W.g W.q wr w'→w'.cell? ⟨w.heap.size,0,none⟩=some (.string ⟨fn.toArray⟩)∧w'.cell? ⟨w.heap.size,1,none⟩=some (.slice pA ps.length pc)∧w'.cell? ⟨w.heap.size,2,none⟩=some (.slice bA bn bc)):=fun w' hF=>zcu (HS.out.func hF)
 have hfT:w.heap.size≠wr.heap.size:=by have:=HS.out.sz;omega
 obtain⟨d1,hd1⟩:∃d',d=d'+1:=⟨d-1,by omega⟩
 have hdd:(d:Int)-1=(d1:Int):=by omega
 have hwd:IntKind.i64.wrap ((d:Int)-1)=(d1:Int):=(IntWalk.i64_in _ (by omega)).trans (by omega)
 have td:(0:Int)<(d:Int):=by omega
 have hwd1:IntKind.i64.wrap (d1:Int)=(d1:Int):=IntWalk.i64_in _ (by omega)
 have HD1:=Lib.hid hd1
 clear hd1
 clear t4 h4 hz0 hz1 hz2 hi f0 f1 f2
 obtain⟨f0,f1,f2⟩:=HFC.out w3.drew HF3d.out
 go_wp2_with fail
 go_region_held3 (fun w'=>w'.cell? ⟨w.heap.size,0,none⟩=some (.string ⟨fn.toArray⟩)∧w'.cell? ⟨w.heap.size,1,none⟩=some (.slice pA ps.length pc)∧w'.cell? ⟨w.heap.size,2,none⟩=some (.slice bA bn bc))
  (refine⟨?_,?_,?_⟩<;>repeat (first|with_reducible assumption|with_reducible refine za6 _ ?_|with_reducible refine za3 hfT ?_))
  (first
   | (go_simp;go_at_call 29;refine(zc8 _ W i2 lo us _ vc HW3d.out HNd.out (by omega)).mono ?_;rintro e w5 ⟨f,E,i5,rfl,hR,hI,hW5,hG5⟩;obtain⟨fo,fx,fname,fA,fl,fc⟩:=f;obtain⟨hF5,hT5,-,-,-,-,hz5⟩:=zez HF3d.out hG5 HT3d.out hTq;have HF5:=Lib.hid hF5;have HT5:=Lib.hid hT5;have HM5:=Lib.hid hI;have HW5:=Lib.hid hW5;have HR5:=Lib.hid hR;obtain⟨u0,u1,u2⟩:=HFC.out w5 hF5;have HN5:=Lib.hid (HS.out.names hF5);have HP5:=Lib.hid (HS.out.params hF5 HP.out);have hw3z:w3.heap.size≤w5.heap.size:=hz5;clear hR hI hW5 hG5 hF5 hT5;dsimp only[EF.val])
   | (go_simp;go_at_call 15;refine(IH3.out _ i5 lo us _ vc d1 _ (by omega) (by omega) (by first|exact hdd|exact hwd|exact hwd1|rfl) HW5.out HN5.out.1 HN5.out.2 (by omega) HP5.out).mono ?_;rintro e w4 ⟨l2,P2,A2,c2,i4,lo2,us2,-,rfl,hB2,hM2,-,hW4,hF45⟩;obtain⟨hF4,hT4,⟨s0,s1,s2,s3,s4,s5,s6,s7,s8,s9,s10⟩,sf,hTw4,hTw5,hz4⟩:=zjj HF5.out hF45 HT5.out hTg hTq;have HF4:=Lib.hid hF4;have HT4:=Lib.hid hT4;have HW4:=Lib.hid hW4;have HB2:=Lib.hid hB2;have HO2:=Lib.hid hM2;have HM4:=Lib.hid (HM5.out.keep fun b hb hl=>hF45.block b hl (by omega) (by omega));have hTw6:=Ne.symm hTw5;have hle2:=hB2.le;have hs45:=hF45.size;obtain⟨v0,v1,v2⟩:=HFC.out w4 hF4;clear hB2 hM2 hW4 hF45 hF4 hT4;dsimp only))
 have HQ:=Lib.hid (((((((PutAt.refl (wr.heap.size) w4).set 0 (.int .i64 8)).set 2 (.int .i64 fo)).set 3 (.int .i64 fx)).set 4 (.string ⟨fname.toArray⟩)).set 5 (.slice fA fl fc)).set 9 (.slice A2 l2.length c2))
 have HFk:=Lib.hid (HF4.out.putAt HQ.out (Nat.le_refl _))
 have HBk:=Lib.hid (HS.out.go HFk.out (HS.out.wmk HFk.out HW4.out HQ.out (Nat.le_refl _)))
 have HSM:Hid (StM ((((((w4.setCell ⟨wr.heap.size,0,none⟩ (.int .i64 8)).setCell ⟨wr.heap.size,2,none⟩ (.int .i64 fo)).setCell ⟨wr.heap.size,3,none⟩ (.int .i64 fx)).setCell ⟨wr.heap.size,4,none⟩ (.string ⟨fname.toArray⟩)).setCell ⟨wr.heap.size,5,none⟩ (.slice fA fl fc)).setCell ⟨wr.heap.size,9,none⟩ (.slice A2 l2.length c2)) (wr.heap.size≤·) (St.mk 8 [] E noRf [] (l2) []) (⟨⟨fo,fx,fname,fA,fl,fc⟩,none,0,0,none,0,A2,c2,none,0⟩:SG)):=zbn 8 [] E noRf [] (l2) [] _ ((HM4.out.keep fun b hb _=>HQ.out.2.2.2.2 b (by omega)).more fun b hb=>by omega) rfl (ArsM.nil _ _ _) (HO2.out.putAt' HQ.out (by omega) (by omega)) (StsM.nil _ _ _)
 have HBW:=Lib.hid (BlW.whl2 HD1.out E (l2) HBL.out HR5.out HB2.out)
 have HNB:=Lib.hid (HS.out.lt)
 go_wp2_with (first|(at_builtin;refine wpList_append_lies _ rfl (.tmp 244) (.tmp 246) 56 rfl (w.heap.size+1) 81 iS _ 11 192 Tryd.underlying56 hiS hs0 hs1 hs2 rfl (by decide) (.slice oA P.length oc) P.length (stK.cs P) rfl (HBk.out.o.alloc _) ⟨w4.heap.size,0,none⟩ 1 1 [.int .i64 8,.string ⟨#[]⟩,.int .i64 fo,.int .i64 fx,.string ⟨fname.toArray⟩,.slice fA fl fc,.string ⟨#[]⟩,.slice none 0 0,.slice none 0 0,.slice A2 l2.length c2,.slice none 0 0] rfl rfl (zam ((((((w4.setCell ⟨wr.heap.size,0,none⟩ (.int .i64 8)).setCell ⟨wr.heap.size,2,none⟩ (.int .i64 fo)).setCell ⟨wr.heap.size,3,none⟩ (.int .i64 fx)).setCell ⟨wr.heap.size,4,none⟩ (.string ⟨fname.toArray⟩)).setCell ⟨wr.heap.size,5,none⟩ (.slice fA fl fc)).setCell ⟨wr.heap.size,9,none⟩ (.slice A2 l2.length c2)) _ (by simp[World.setCell]) _ _) (stK.one ((St.mk 8 [] E noRf [] (l2) []),(⟨⟨fo,fx,fname,fA,fl,fc⟩,none,0,0,none,0,A2,c2,none,0⟩:SG))) (by omega) (by unfold maxLen;omega) (by omega) (by simp[World.setCell];omega) _ rfl ?_))
 intro gb cap7 w7 hown hgrow hlies hgl7
 have HB7:=Lib.hid (HBk.out.snoc (a:=((St.mk 8 [] E noRf [] (l2) []),(⟨⟨fo,fx,fname,fA,fl,fc⟩,none,0,0,none,0,A2,c2,none,0⟩:SG))) HSM.out HNB.out HS.out.sz hown hgrow (zai hlies (by simp)))
 clear hown hgrow hlies hgl7 HSM
 go_wp2_with fail
 apply HQQ.out
 ·
  exact⟨k-1,P++[((St.mk 8 [] E noRf [] (l2) []),(⟨⟨fo,fx,fname,fA,fl,fc⟩,none,0,0,none,0,A2,c2,none,0⟩:SG))],us,i4,lo2,by go_num,by omega,by omega,by omega,by rw[List.map_append];exact HBW.out,HB7.out⟩
 ·
  simp[intOf];omega
end Go.Proofs.YtlnbmmgbfgmboaaDoor

namespace Go.Proofs.YtlnbmmgbfgmboaaDoor
open Go.RowKit
set_option maxRecDepth 100000 in
set_option maxHeartbeats 8000000 in
theorem sw_da {W:WP} {fn:Nm} {ps:List Pm} {pA bA:Option Addr} {pc bn bc N left d most k:Nat} {w wr w3:World} {vs us:List Nm} {P:List (St × SG)} {oA vA:Option Addr} {oc vc i1 i2 lo m:Nat} {Q:Exit→Act→World→Prop} {K K1 K2:Act→World→Prop} {u5 u7 u8 u9 a0 a1 a2 a3 a4 a5 a6 a7 a8 a9 aa ab ac ad ae af ag ah ai aj ak al am an ao ap aq ar au av aw ax ay az aA aB aC aD aE aF aG aH aI aJ aK aL aM aN aO aP aQ aR aS aT aU aV aW aX aY aZ b0 b1 b2 b3 b4 b5 b6 b7 b8 b9 ba bb bd be bf bg bh bi bj bk bl bm bo bp bq br bs bt bu bv bw bx bz bB bC bD bE bF bG bH bI bJ bK bL bM bN bO bP bQ bR bS bT bU bV bW bX bY bZ c0 c1 c3 c4 c5 c6 c7 c8 c9 ca cb cc cd ce cf cg ch ci cj ck cl cm cn co cp cq cr ct cu cv cw cx cy cz cA cB cC cD cE cF cG cH cI cJ cK cL cM cN cO cP cQ cR cS cT cU cV cW cX cY cZ d0 d1 d2 d3 d4 d5 d6 d7 d8 d9 da db dc dd de df dg dh di dj dk dl dm dn dp dq dr ds dt du dv dw dx dy dz dA dB dC dD dE dF dG dH dI dJ dK dL dM dN dO dP dQ dR dS dT dU dV:Value} (hC:RndC W fn ps pA bA pc bn bc N left d most k w wr w3 vs us P oA vA oc vc i1 i2 lo m)
  (hK:∀a w,(nav [true,true,true,false,true,false,false,true,false,false,true,true,false,true,false,true] (Tryd.f15.body.getD .skip)).wp Tryd.prog (Exit.inBlock 2 (Exit.then K1 (Exit.inBlock 1 (Exit.then K2 Q)))) a w→K a w)
  (hK1:∀a w,(nav [true,true,true,false,true,false,false,true,false,false,true,true,true] (Tryd.f15.body.getD .skip)).wp Tryd.prog (Exit.inBlock 1 (Exit.then K2 Q)) a w→K1 a w) (hK2:∀a w,(nav [true,true,true,false,true,false,false,true,true] (Tryd.f15.body.getD .skip)).wp Tryd.prog Q a w→K2 a w)
  (HQQ:Hid (∀(dW dX dY dZ e1 e2 e3 e4 e5 e6 e7 e9 ea eb ec ed ee ef eg eh ei ej ek el em en eo ep eq er es et eu ev ew ex ey ez eA eB eC eD eE eF eG eH eI eJ eK eL eM eN eO eP eQ eR eS eT eU eV eW eX eY eZ f3 f4 f5 f6 f7 f8 f9 fa fb fc fd fe ff fg fh fi fj fk fl fm fo fp fq fr fs ft fu fv fw fx fy fz fA fB fC fD fE fF fG fH fI fJ fK fL fM fN fO fP fQ fR fS fT fU fV fW fX fY fZ g0 g1 g2 g4 g5 g6 g7 g8 ga gc gd ge gf gg gh gi gj gk gl gm gn gp gq gr gs gt gu gv gw gx gy gz gA gB gC gD gE gF gG gH gI gJ gK gL gM gN gO gP gQ gR gS gT gU gV gW gX gY gZ h0 h1 h2 h3 h5 h6 h8 h9 hc he hf hg hh hj ho hq hr hs ht hv hw hx hy hz hA hB hD hE hF hG hH hJ hL hM hN hO hP hQ hS hT hU hV hW hX hY vv vo vn:Value) (w':World),BkL w W ps (.cells #[.string ⟨fn.toArray⟩,.slice pA ps.length pc,.slice bA bn bc] 58 (0,0)) d left most vs vv vo vn w'→(intOf vn).toNat<k→Q .normal {tmps:=#[.pointer (some ⟨W.g,0,none⟩),.agg #[.string ⟨fn.toArray⟩,.slice pA ps.length pc,.slice bA bn bc],vv,.int .i64 (d:Int),.int .i64 (most:Int),u5,.pointer (some ⟨w.heap.size,0,none⟩),u7,u8,u9,a0,vo,vn,dW,dX,dY,dZ,a3,a4,a5,a6,a7,a8,a9,aa,ab,ac,e1,e2,e3,e4,e5,e6,e7,e9,ea,eb,ec,ed,ee,ef,eg,eh,ei,ej,ek,el,em,en,eo,ep,eq,er,es,et,eu,ev,ew,ex,ey,ez,eA,eB,eC,eD,eE,eF,eG,eH,eI,eJ,eK,eL,eM,eN,eO,eP,eQ,eR,eS,eT,eU,eV,eW,eX,eY,eZ,f3,f4,f5,f6,f7,f8,f9,fa,fb,fc,fd,fe,ff,fg,fh,fi,fj,fk,fl,fm,fo,fp,fq,fr,fs,ft,fu,fv,fw,fx,fy,fz,fA,fB,fC,fD,fE,fF,fG,fH,fI,fJ,fK,fL,fM,fN,fO,fP,fQ,fR,fS,fT,fU,fV,fW,fX,fY,fZ,g0,g1,g2,g4,g5,g6,g7,g8,ga,gc,gd,ge,gf,gg,gh,gi,gj,gk,gl,gm,gn,gp,gq,gr,gs,gt,gu,gv,gw,gx,gy,gz,gA,gB,gC,gD,gE,gF,gG,gH,gI,gJ,gK,gL,gM,gN,gO,gP,gQ,gR,gS,gT,gU,gV,gW,gX,gY,gZ,h0,h1,h2,h3,h5,h6,h8,h9,hc,he,hf,hg,hh,hj,ho,hq,hr,hs,ht,hv,hw,hx,hy,hz,hA,hB,hD,hE,hF,hG,hH,hJ,hL,hM,hN,hO,hP,hQ,hS,hT,hU,hV,hW,hX,hY,dV],defers:=[]} w'))
  (e8:m=8∧us.length=0∨m=11∧d=0∨m=12∧d=0) :
  (nav [true,true,true,false,true,false,false,true,false,false,true,true,false,true,false,false] (Tryd.f15.body.getD .skip)).wp Tryd.prog (Exit.then K (Exit.inBlock 2 (Exit.then K1 (Exit.inBlock 1 (Exit.then K2 Q))))) {tmps:=#[.pointer (some ⟨W.g,0,none⟩),.agg #[.string ⟨fn.toArray⟩,.slice pA ps.length pc,.slice bA bn bc],.slice vA us.length vc,.int .i64 (d:Int),.int .i64 (most:Int),u5,.pointer (some ⟨w.heap.size,0,none⟩),u7,u8,u9,a0,.slice oA P.length oc,.int .i64 (k:Int),.pointer (some ⟨wr.heap.size,0,none⟩),.int .i64 (m:Int),a1,a2,a3,a4,a5,a6,a7,a8,a9,aa,ab,ac,ad,ae,af,ag,ah,ai,aj,ak,al,am,an,ao,ap,aq,ar,au,av,aw,ax,ay,az,aA,aB,aC,aD,aE,aF,aG,aH,aI,aJ,aK,aL,aM,aN,aO,aP,aQ,aR,aS,aT,aU,aV,aW,aX,aY,aZ,b0,b1,b2,b3,b4,b5,b6,b7,b8,b9,ba,bb,bd,be,bf,bg,bh,bi,bj,bk,bl,bm,bo,bp,bq,br,bs,bt,bu,bv,bw,bx,bz,bB,bC,bD,bE,bF,bG,bH,bI,bJ,bK,bL,bM,bN,bO,bP,bQ,bR,bS,bT,bU,bV,bW,bX,bY,bZ,c0,c1,c3,c4,c5,c6,c7,c8,c9,ca,cb,cc,cd,ce,cf,cg,ch,ci,cj,ck,cl,cm,cn,co,cp,cq,cr,ct,cu,cv,cw,cx,cy,cz,cA,cB,cC,cD,cE,cF,cG,cH,cI,cJ,cK,cL,cM,cN,cO,cP,cQ,cR,cS,cT,cU,cV,cW,cX,cY,cZ,d0,d1,d2,d3,d4,d5,d6,d7,d8,d9,da,db,dc,dd,de,df,dg,dh,di,dj,dk,dl,dm,dn,dp,dq,dr,ds,dt,du,dv,dw,dx,dy,dz,dA,dB,dC,dD,dE,dF,dG,dH,dI,dJ,dK,dL,dM,dN,dO,dP,dQ,dR,dS,dT,dU,dV],defers:=[]} w3:=by
 obtain⟨hps,hl,hd,hm,hn,hql,hgl,hll,hgl',hwr,hk,hk0,hun,hlo,hPl,hm14,HP,IH3,IH2,HBL,HS,HF3,HT3,HW3,HNq,HNg,HPm,f0,f1,f2⟩:=hC
 have hg0:=hgl
 have hq0:=hql
 obtain⟨i0,hi,hz0,hz1,hz2⟩:=info_parts Tryd.infoStr
 obtain⟨iS,hiS,hs0,hs1,hs2⟩:=info_parts Tryd.infoSt
 dsimp only[nav,Tryd.f15,Option.getD] at hK hK1 hK2 ⊢
 have h4:¬m<4:=by omega
 have t4:¬((m:Nat):Int)<4:=by omega
 have h7:¬m<7:=by omega
 have t7:¬((m:Nat):Int)<7:=by omega
 have HE:Hid (m=8∧us.length=0∨m=11∧d=0∨m=12∧d=0):=e8
 clear e8
 rcases HE.out with⟨rfl,e0⟩|⟨rfl,e0⟩|⟨rfl,e0⟩
 all_goals
  first
   | (have tu:¬(0:Int)<(us.length:Int):=by omega)
   | (have td:¬(0:Int)<(d:Int):=by omega)
  clear e0 HE
  have hTq:wr.heap.size≠W.q:=by omega
  have hTg:wr.heap.size≠W.g:=by omega
  have hgT:W.g≠wr.heap.size:=by omega
  clear t4 t7 h4 h7 hm14
  go_wp2_with fail
  refine(zd6 w3 W i2 lo us vA vc fn ps pA bA pc bn bc HW3.out HNq.out (by omega) HPm.out hps).mono ?_
  rintro e w4 ⟨r,rA,rn,rc,i4,rfl,hR,hI,hW4,hG4⟩
  (try dsimp only)
  have HF4:=Lib.hid (HF3.out.trans (Fr.of_grown hG4))
  have HT4:=Lib.hid ((hG4.block _ (lt_of_block HT3.out) (fun e=>by injection e with e;omega)).trans HT3.out)
  have HW4:=Lib.hid hW4
  have HR4:=Lib.hid hR
  have HI4:=Lib.hid hI
  obtain⟨r0,r1,r2,r3,r4,r5,r6,r7,r8,r9,r10,rf,-⟩:=zah HT4.out
  have hz3:=lt_of_block HT3.out
  have hz4:=hG4.size
  have hzT:=lt_of_block HT4.out
  clear hR hI hW4 hG4
  have HQ:=Lib.hid (((PutAt.refl (wr.heap.size) w4).set 6 (.string ⟨r.name.toArray⟩)).set 7 (.slice rA rn rc))
  have HFk:=Lib.hid (HF4.out.putAt HQ.out (Nat.le_refl _))
  have HWk:=Lib.hid (HS.out.wmk HFk.out HW4.out HQ.out (Nat.le_refl _))
  have HTk:Hid (((w4.setCell ⟨wr.heap.size,6,none⟩ (.string ⟨r.name.toArray⟩)).setCell ⟨wr.heap.size,7,none⟩ (.slice rA rn rc)).heap[wr.heap.size]?=some (.cells #[.int .i64 5,.string ⟨#[]⟩,.int .i64 0,.int .i64 0,.string ⟨#[]⟩,.slice none 0 0,.string ⟨r.name.toArray⟩,.slice rA rn rc,.slice none 0 0,.slice none 0 0,.slice none 0 0] 81 (0,0))):=za8 7 _ (za8 6 _ HT4.out)
  have HIk:Hid (IdxM ((w4.setCell ⟨wr.heap.size,6,none⟩ (.string ⟨r.name.toArray⟩)).setCell ⟨wr.heap.size,7,none⟩ (.slice rA rn rc)) (fun b=>wr.heap.size+1≤b∧b<w4.heap.size) r.idx rA rn):=(HI4.out.more' (S':=fun b=>wr.heap.size+1≤b∧b<w4.heap.size) fun b hb hl=>⟨by omega,hl⟩).keep fun b hb _=>HQ.out.2.2.2.2 b (by omega)
  have HSZ:=Lib.hid (HS.out.z (·=wr.heap.size) (fun b e=>by omega))
  have hLTs:=Lib.hid HS.out.lt
  have hSz:=HS.out.sz
  go_upto_region 11 with fail
  have HTU:=Lib.hid (zac (.cells #[.int .i64 6,.string ⟨#[]⟩,.int .i64 0,.int .i64 0,.string ⟨#[]⟩,.slice none 0 0,.string ⟨r.name.toArray⟩,.slice rA rn rc,.slice none 0 0,.slice none 0 0,.slice none 0 0] 81) HTk.out)
  have hUU:=heap_alloc_new ((w4.setCell ⟨wr.heap.size,6,none⟩ (.string ⟨r.name.toArray⟩)).setCell ⟨wr.heap.size,7,none⟩ (.slice rA rn rc)) (.cells #[.int .i64 6,.string ⟨#[]⟩,.int .i64 0,.int .i64 0,.string ⟨#[]⟩,.slice none 0 0,.string ⟨r.name.toArray⟩,.slice rA rn rc,.slice none 0 0,.slice none 0 0,.slice none 0 0] 81)
  rw[show ((w4.setCell ⟨wr.heap.size,6,none⟩ (.string ⟨r.name.toArray⟩)).setCell ⟨wr.heap.size,7,none⟩ (.slice rA rn rc)).heap.size=w4.heap.size by simp[World.setCell]] at hUU
  have HUU:=Lib.hid hUU
  have HZU:=Lib.hid ((HSZ.out.go HFk.out HWk.out).go ((Fr.refl W.g W.q ((w4.setCell ⟨wr.heap.size,6,none⟩ (.string ⟨r.name.toArray⟩)).setCell ⟨wr.heap.size,7,none⟩ (.slice rA rn rc))).alloc (.cells #[.int .i64 6,.string ⟨#[]⟩,.int .i64 0,.int .i64 0,.string ⟨#[]⟩,.slice none 0 0,.string ⟨r.name.toArray⟩,.slice rA rn rc,.slice none 0 0,.slice none 0 0,.slice none 0 0] 81)) (HWk.out.alloc _))
  have HIU:Hid (IdxM (((w4.setCell ⟨wr.heap.size,6,none⟩ (.string ⟨r.name.toArray⟩)).setCell ⟨wr.heap.size,7,none⟩ (.slice rA rn rc)).alloc (.cells #[.int .i64 6,.string ⟨#[]⟩,.int .i64 0,.int .i64 0,.string ⟨#[]⟩,.slice none 0 0,.string ⟨r.name.toArray⟩,.slice rA rn rc,.slice none 0 0,.slice none 0 0,.slice none 0 0] 81)) (fun b=>wr.heap.size+1≤b∧b<w4.heap.size) r.idx rA rn):=HIk.out.keep fun b _ hl=>Below.heap_alloc _ _ b hl
  clear hUU HTk HIk HWk HFk HQ HI4 HW4 HF4 HT4 r0 r1 r2 r3 r4 r5 r6 r7 r8 r9 r10 rf HSZ
  generalize (((w4.setCell ⟨wr.heap.size,6,none⟩ (.string ⟨r.name.toArray⟩)).setCell ⟨wr.heap.size,7,none⟩ (.slice rA rn rc)).alloc (.cells #[.int .i64 6,.string ⟨#[]⟩,.int .i64 0,.int .i64 0,.string ⟨#[]⟩,.slice none 0 0,.string ⟨r.name.toArray⟩,.slice rA rn rc,.slice none 0 0,.slice none 0 0,.slice none 0 0] 81))=wU at *
  generalize hu0:w4.heap.size=u0 at *
  clear hu0
  obtain⟨y0,y1,y2,y3,y4,y5,y6,y7,y8,y9,y10,yf,ylt⟩:=zah HTU.out
  have hUl:=lt_of_block HUU.out
  have HSM:Hid (StM wU (wr.heap.size+1≤·) (St.mk 5 [] noEx r [] [] []) (⟨⟨0,0,[],none,0,0⟩,rA,rn,rc,none,0,none,0,none,0⟩:SG)):=zbn 5 [] noEx r [] [] [] _ (ExM.leaf _ _ _ _ _ _ _) (HIU.out.more fun b hb=>hb.1) (ArsM.nil _ _ _) (StsM.nil _ _ _) (StsM.nil _ _ _)
  go_wp2_with (first|(at_builtin;refine wpList_append_lies _ rfl (.tmp 59) (.tmp 61) 56 rfl (w.heap.size+1) 81 iS _ 11 192 Tryd.underlying56 hiS hs0 hs1 hs2 rfl (by decide) (.slice oA P.length oc) P.length (stK.cs P) rfl (HZU.out.o.alloc _) ⟨wU.heap.size,0,none⟩ 1 1 [.int .i64 5,.string ⟨#[]⟩,.int .i64 0,.int .i64 0,.string ⟨#[]⟩,.slice none 0 0,.string ⟨r.name.toArray⟩,.slice rA rn rc,.slice none 0 0,.slice none 0 0,.slice none 0 0] rfl rfl (zam wU _ rfl _ _) (stK.one ((St.mk 5 [] noEx r [] [] []),(⟨⟨0,0,[],none,0,0⟩,rA,rn,rc,none,0,none,0,none,0⟩:SG))) (by omega) (by unfold maxLen;omega) (by omega) (by simp;omega) _ rfl ?_))
  intro gb cap7 w7 hown hgrow hlies hgl7
  have hNe:∀b,wr.heap.size≤b→some b≠(Value.slice oA P.length oc).ownBlock:=fun b hb e=>by have:=hLTs.out _ (.inl e.symm);omega
  have hk7:∀b,wr.heap.size≤b→b<wU.heap.size→w7.heap[b]?=wU.heap[b]?:=fun b hb hl=>(hgrow.block b (by simp;omega) (hNe b hb)).trans (Below.heap_alloc wU _ b hl)
  have HZ7:=Lib.hid (HZU.out.snoc (a:=((St.mk 5 [] noEx r [] [] []),(⟨⟨0,0,[],none,0,0⟩,rA,rn,rc,none,0,none,0,none,0⟩:SG))) (N:=wr.heap.size+1) HSM.out (fun b hb=>Nat.lt_succ_of_lt (hLTs.out b hb)) (by omega) (fun b e=>by omega) hown hgrow (zai hlies (by simp)))
  have HT7:=Lib.hid ((hk7 _ (Nat.le_refl _) ylt).trans HTU.out)
  have HU7:=Lib.hid ((hk7 u0 (by omega) hUl).trans HUU.out)
  have hgb:gb<wr.heap.size∨u0<gb:=by
   rcases hlies with h|h
   ·
    exact .inl (hLTs.out _ (.inl h))
   ·
    exact .inr (by rw[h];first|omega|(simp;omega))
  have HI7:Hid (IdxM w7 (fun b=>wr.heap.size+1≤b∧b<u0) r.idx rA rn):=HIU.out.keep fun b hb hl=>hk7 b (by omega) hl
  have hT7:=lt_of_block HT7.out
  have hU7:=lt_of_block HU7.out
  obtain⟨f0,f1,f2⟩:=zcu HZ7.out.f
  have HN7:=Lib.hid (HZ7.out.s.names (Fr.refl W.g W.q w7))
  have HP7:=Lib.hid (HZ7.out.s.params (Fr.refl W.g W.q w7) HP.out)
  clear hown hgrow hlies hgl7 hk7 HTU HUU HIU HSM y0 y1 y2 y3 y4 y5 y6 y7 y8 y9 y10 yf HZU
  go_wp2_with fail
  refine(IH2.out w7 i4 lo us vA vc (by omega) HZ7.out.wm HN7.out.1 HN7.out.2 (by omega) HP7.out).mono ?_
  rintro e w8 ⟨l2,P2,A2,c2,i8,lo2,us2,hl2,rfl,hB2,hM2,hO2,hW8,hF8⟩
  (try dsimp only)
  rw[hl2,List.length_map]
  have HL2:=Lib.hid hl2
  have HB2:=Lib.hid hB2
  have hle2:=hB2.le
  have hln2:=hB2.len
  rw[hl2,List.length_map] at hln2
  rw[hl2,List.length_map] at hO2
  have HZ8:=Lib.hid (HZ7.out.go hF8 hW8)
  have HT8:=Lib.hid ((hF8.block _ hT7 hTg hTq).trans HT7.out)
  have HU8:=Lib.hid ((hF8.block _ hU7 (by omega) (by omega)).trans HU7.out)
  have HI8:Hid (IdxM w8 (fun b=>wr.heap.size+1≤b∧b<u0) r.idx rA rn):=HI7.out.keep fun b hb hl=>hF8.block b hl (by omega) (by omega)
  have HL8:Hid ((P++[((St.mk 5 [] noEx r [] [] []),(⟨⟨0,0,[],none,0,0⟩,rA,rn,rc,none,0,none,0,none,0⟩:SG))]).length=P.length+1):=by show _=_;simp
  have HO8:Hid (w8.ownsRow (w.heap.size+1) 81 11 (.slice (some ⟨gb,0,none⟩) (P.length+1) cap7) (P.length+1) (stK.cs (P++[((St.mk 5 [] noEx r [] [] []),(⟨⟨0,0,[],none,0,0⟩,rA,rn,rc,none,0,none,0,none,0⟩:SG))]))):=by
   have h:=HZ8.out.o
   rw[HL8.out] at h
   exact h
  have HA8:=Lib.hid (ziM hO2.1)
  have HC8:Hid (∀u∈stK.cs P2,u.oneCell'=true):=fun u hu=>by
   obtain⟨a,_,ha⟩:=List.mem_flatMap.1 hu
   exact stK.one a u ha
  have HS8:Hid (∀p∈P2,StM w8 (fun b=>w7.heap.size≤b) p.1 p.2):=fun p hp=>(hO2.2 p hp).more fun _ hb _=>hb.1
  have HLn:Hid ((stK.cs P2).length=P2.length*11):=stK.cs_len P2
  have hsz7:=HZ7.out.s.sz
  have HLt7:=Lib.hid HZ7.out.s.lt
  have hT8:=lt_of_block HT8.out
  have hU8:=lt_of_block HU8.out
  have hwz8:w.heap.size+1≤w8.heap.size:=Nat.le_trans hsz7 hF8.size
  clear hl2 hB2 hM2 hO2 hW8 hF8 HT7 HU7 HI7 HN7 HP7 f0 f1 f2 HZ7
  go_wp2_with (first|(at_builtin;refine zbd _ rfl (.tmp 63) (.tmp 67) 56 rfl (w.heap.size+1) 81 iS _ 11 192 Tryd.underlying56 hiS hs0 hs1 hs2 rfl (by decide) gb cap7 (P.length+1) (stK.cs (P++[((St.mk 5 [] noEx r [] [] []),(⟨⟨0,0,[],none,0,0⟩,rA,rn,rc,none,0,none,0,none,0⟩:SG))])) rfl HO8.out A2 P2.length c2 (stK.cs P2) rfl HLn.out HA8.out HC8.out (by unfold maxLen;omega) (by omega) hwz8 _ rfl ?_))
  intro g9 cap9 w9 hown hgrow hlies hgl9
  have hl9:gb=g9∨g9=w8.heap.size:=by simpa using hlies
  have hg9:g9<wr.heap.size∨u0<g9:=by
   rcases hl9 with h|h
   ·
    rw[←h];exact hgb
   ·
    exact .inr (by omega)
  have HZ9:=Lib.hid (HZ8.out.snocs (P2:=P2) (S0:=fun b=>w7.heap.size≤b) HS8.out (fun b hb=>⟨by omega,fun e=>by have:=HLt7.out _ (.inl e.symm);omega,fun e=>by have:=HLt7.out _ (.inr e.symm);omega,fun e=>by omega⟩) (by rw[HL8.out];exact hown) hgrow (zai (hl9.imp (fun h=>congrArg some h) (fun h=>h)) rfl))
  have HT9:=Lib.hid ((hgrow.block _ hT8 (fun e=>by injection e with e;omega)).trans HT8.out)
  have HU9:=Lib.hid ((hgrow.block _ hU8 (fun e=>by injection e with e;omega)).trans HU8.out)
  have HI9:Hid (IdxM w9 (fun b=>wr.heap.size+1≤b∧b<u0) r.idx rA rn):=HI8.out.keep fun b hb hl=>hgrow.block b hl (fun e=>by injection e with e;omega)
  have HL9:Hid (((P++[((St.mk 5 [] noEx r [] [] []),(⟨⟨0,0,[],none,0,0⟩,rA,rn,rc,none,0,none,0,none,0⟩:SG))])++P2).length=P.length+1+P2.length):=by show _=_;simp;omega
  clear hown hgrow hlies hgl9 HT8 HU8 HI8 HZ8 HS8 HA8 HC8 HO8 HLn HLt7
  obtain⟨y0,y1,y2,y3,y4,y5,y6,y7,y8,y9,y10,yf,ylt⟩:=zah HT9.out
  obtain⟨z0,z1,z2,z3,z4,z5,z6,z7,z8,z9,z10,zf,zlt⟩:=zah HU9.out
  go_upto_region 37 with fail
  have hA9:=all11 (v0:=.int .i64 6) (v1:=.string ⟨#[]⟩) (v2:=.int .i64 0) (v3:=.int .i64 0) (v4:=.string ⟨#[]⟩) (v5:=.slice none 0 0) (v6:=.string ⟨r.name.toArray⟩) (v7:=.slice rA rn rc) (v8:=.slice none 0 0) (v9:=.slice none 0 0) (v10:=.slice none 0 0) HT9.out
  have HQ9:=Lib.hid hA9.1
  have HTT:=Lib.hid hA9.2
  have HZT:=Lib.hid (HZ9.out.put HQ9.out rfl (by omega) (fun e=>by injection e with e;have e':wr.heap.size=g9:=e;omega) (fun e=>by have:=hLTs.out _ (.inr e.symm);omega))
  clear hA9
  have HIT:Hid (IdxM (((((((((((w9.setCell ⟨wr.heap.size,0,none⟩ (.int .i64 6)).setCell ⟨wr.heap.size,1,none⟩ (.string ⟨#[]⟩)).setCell ⟨wr.heap.size,2,none⟩ (.int .i64 0)).setCell ⟨wr.heap.size,3,none⟩ (.int .i64 0)).setCell ⟨wr.heap.size,4,none⟩ (.string ⟨#[]⟩)).setCell ⟨wr.heap.size,5,none⟩ (.slice none 0 0)).setCell ⟨wr.heap.size,6,none⟩ (.string ⟨r.name.toArray⟩)).setCell ⟨wr.heap.size,7,none⟩ (.slice rA rn rc)).setCell ⟨wr.heap.size,8,none⟩ (.slice none 0 0)).setCell ⟨wr.heap.size,9,none⟩ (.slice none 0 0)).setCell ⟨wr.heap.size,10,none⟩ (.slice none 0 0)) (fun b=>wr.heap.size+1≤b∧b<u0) r.idx rA rn):=HI9.out.keep fun b hb _=>HQ9.out.2.2.2.2 b (by omega)
  clear y0 y1 y2 y3 y4 y5 y6 y7 y8 y9 y10 yf z0 z1 z2 z3 z4 z5 z6 z7 z8 z9 z10 zf HQ9 HZ9 HT9 HU9 HI9 ylt zlt
  generalize (((((((((((w9.setCell ⟨wr.heap.size,0,none⟩ (.int .i64 6)).setCell ⟨wr.heap.size,1,none⟩ (.string ⟨#[]⟩)).setCell ⟨wr.heap.size,2,none⟩ (.int .i64 0)).setCell ⟨wr.heap.size,3,none⟩ (.int .i64 0)).setCell ⟨wr.heap.size,4,none⟩ (.string ⟨#[]⟩)).setCell ⟨wr.heap.size,5,none⟩ (.slice none 0 0)).setCell ⟨wr.heap.size,6,none⟩ (.string ⟨r.name.toArray⟩)).setCell ⟨wr.heap.size,7,none⟩ (.slice rA rn rc)).setCell ⟨wr.heap.size,8,none⟩ (.slice none 0 0)).setCell ⟨wr.heap.size,9,none⟩ (.slice none 0 0)).setCell ⟨wr.heap.size,10,none⟩ (.slice none 0 0))=wT at HZT HTT HIT ⊢
  obtain⟨y0,y1,y2,y3,y4,y5,y6,y7,y8,y9,y10,yf,ylt⟩:=zah HTT.out
  have HOT:Hid (wT.ownsRow (w.heap.size+1) 81 11 (.slice (some ⟨g9,0,none⟩) (P.length+1+P2.length) cap9) (P.length+1+P2.length) (stK.cs ((P++[((St.mk 5 [] noEx r [] [] []),(⟨⟨0,0,[],none,0,0⟩,rA,rn,rc,none,0,none,0,none,0⟩:SG))])++P2))):=by
   have h:=HZT.out.o
   rw[HL9.out] at h
   exact h
  have HSM:Hid (StM wT (fun b=>wr.heap.size+1≤b∧b<u0) (St.mk 6 [] noEx r [] [] []) (⟨⟨0,0,[],none,0,0⟩,rA,rn,rc,none,0,none,0,none,0⟩:SG)):=zbn 6 [] noEx r [] [] [] _ (ExM.leaf _ _ _ _ _ _ _) HIT.out (ArsM.nil _ _ _) (StsM.nil _ _ _) (StsM.nil _ _ _)
  have HBW:=Lib.hid (BlW.around r HBL.out HR4.out HB2.out)
  clear HTT HIT
  go_wp2_with (first|(at_builtin;refine wpList_append_lies _ rfl (.tmp 244) (.tmp 246) 56 rfl (w.heap.size+1) 81 iS _ 11 192 Tryd.underlying56 hiS hs0 hs1 hs2 rfl (by decide) (.slice (some ⟨g9,0,none⟩) (P.length+1+P2.length) cap9) (P.length+1+P2.length) (stK.cs ((P++[((St.mk 5 [] noEx r [] [] []),(⟨⟨0,0,[],none,0,0⟩,rA,rn,rc,none,0,none,0,none,0⟩:SG))])++P2)) rfl (HOT.out.alloc _) ⟨wT.heap.size,0,none⟩ 1 1 [.int .i64 6,.string ⟨#[]⟩,.int .i64 0,.int .i64 0,.string ⟨#[]⟩,.slice none 0 0,.string ⟨r.name.toArray⟩,.slice rA rn rc,.slice none 0 0,.slice none 0 0,.slice none 0 0] rfl rfl (zam wT _ rfl _ _) (stK.one ((St.mk 6 [] noEx r [] [] []),(⟨⟨0,0,[],none,0,0⟩,rA,rn,rc,none,0,none,0,none,0⟩:SG))) (by omega) (by unfold maxLen;omega) (by omega) (by simp;omega) _ rfl ?_))
  intro g3 cap3 w3' hown hgrow hlies hgl3
  have HB3:=Lib.hid (HZT.out.s.snocS (a:=((St.mk 6 [] noEx r [] [] []),(⟨⟨0,0,[],none,0,0⟩,rA,rn,rc,none,0,none,0,none,0⟩:SG))) (S0:=fun b=>wr.heap.size+1≤b∧b<u0) HSM.out (fun b hb=>⟨by omega,fun e=>by injection e with e;have e':b=g9:=e;omega,fun e=>by have:=hLTs.out _ (.inr e.symm);omega⟩) (by rw[HL9.out];first|exact hown|(rw[List.append_assoc,List.singleton_append];exact hown)) hgrow (zai hlies (by simp)))
  clear hown hgrow hlies hgl3 HSM HZT HOT
  go_wp2_with fail
  apply HQQ.out
  ·
   exact⟨k-1,((P++[((St.mk 5 [] noEx r [] [] []),(⟨⟨0,0,[],none,0,0⟩,rA,rn,rc,none,0,none,0,none,0⟩:SG))])++P2)++[((St.mk 6 [] noEx r [] [] []),(⟨⟨0,0,[],none,0,0⟩,rA,rn,rc,none,0,none,0,none,0⟩:SG))],us,i8,lo2,by go_num,by omega,by omega,by omega,by rw[List.map_append,List.map_append,List.map_append,←HL2.out];exact HBW.out,HB3.out⟩
  ·
   simp[intOf];omega
end Go.Proofs.YtlnbmmgbfgmboaaDoor

namespace Go.Proofs.YtlnbmmgbfgmboaaDoor
open Go.RowKit
set_option maxRecDepth 100000 in
set_option maxHeartbeats 8000000 in
theorem sw_ret {W:WP} {fn:Nm} {ps:List Pm} {pA bA:Option Addr} {pc bn bc N left d most k:Nat} {w wr w3:World} {vs us:List Nm} {P:List (St × SG)} {oA vA:Option Addr} {oc vc i1 i2 lo m:Nat} {Q:Exit→Act→World→Prop} {K K1 K2:Act→World→Prop} {u5 u7 u8 u9 a0 a1 a2 a3 a4 a5 a6 a7 a8 a9 aa ab ac ad ae af ag ah ai aj ak al am an ao ap aq ar au av aw ax ay az aA aB aC aD aE aF aG aH aI aJ aK aL aM aN aO aP aQ aR aS aT aU aV aW aX aY aZ b0 b1 b2 b3 b4 b5 b6 b7 b8 b9 ba bb bd be bf bg bh bi bj bk bl bm bo bp bq br bs bt bu bv bw bx bz bB bC bD bE bF bG bH bI bJ bK bL bM bN bO bP bQ bR bS bU bV bW bX bY bZ c0 c1 c2 c3 c4 c5 c6 c7 c8 c9 ca cb cc cd ce cf cg ch ci cj ck cl cm cn co cp cq cr ct cu cv cw cx cy cz cA cB cC cD cE cF cG cH cI cJ cK cL cM cN cO cP cQ cR cS cT cU cV cW cX cY cZ d0 d1 d2 d3 d4 d5 d6 d7 d8 d9 da db dc dd de df dg dh di dj dk dl dm dn dp dq dr ds dt du dv dw dx dy dz dA dB dC dD dE dF dG dH dI dJ dK dL dM dN dO dP dQ dR dS dT dU dV:Value} (hC:RndC W fn ps pA bA pc bn bc N left d most k w wr w3 vs us P oA vA oc vc i1 i2 lo m)
  (hK:∀a w,(nav [true,true,true,false,true,false,false,true,false,false,true,true,false,true,false,true] (Tryd.f15.body.getD .skip)).wp Tryd.prog (Exit.inBlock 2 (Exit.then K1 (Exit.inBlock 1 (Exit.then K2 Q)))) a w→K a w)
  (hK1:∀a w,(nav [true,true,true,false,true,false,false,true,false,false,true,true,true] (Tryd.f15.body.getD .skip)).wp Tryd.prog (Exit.inBlock 1 (Exit.then K2 Q)) a w→K1 a w) (hK2:∀a w,(nav [true,true,true,false,true,false,false,true,true] (Tryd.f15.body.getD .skip)).wp Tryd.prog Q a w→K2 a w)
  (HQQ:Hid (∀(dW dX dY dZ e0 e1 e2 e3 e4 e5 e6 e7 e9 ea eb ec ed ee ef eg eh ei ej ek el em en eo ep eq er es et eu ev ew ex ey ez eA eB eC eD eE eF eG eH eI eJ eK eL eM eN eO eP eQ eR eS eT eU eV eW eX eY eZ f3 f4 f5 f6 f7 f8 f9 fa fb fc fd fe ff fg fh fi fj fk fl fm fo fp fq fr fs ft fu fv fw fx fy fz fA fB fC fD fE fF fG fH fI fJ fK fL fM fN fO fP fQ fR fS fT fU fV fW fX fY fZ g0 g1 g2 g3 g4 g5 g6 g7 g8 g9 ga gc gd ge gf gg gh gi gj gk gl gm gn gp gq gr gs gt gu gv gw gx gy gz gA gB gC gD gE gF gG gH gI gJ gK gL gM gN gO gP gQ gR gS gT gU gV gW gX gY gZ h0 h2 h3 h5 h6 h8 h9 ha hb hc he hf hg hh hj ho hp hq hr hs ht hu hv hw hx hy hz hA hB hD hE hF hG hH hI hJ hL hM hN hO hP hQ vv vo vn:Value) (w':World),BkL w W ps (.cells #[.string ⟨fn.toArray⟩,.slice pA ps.length pc,.slice bA bn bc] 58 (0,0)) d left most vs vv vo vn w'→(intOf vn).toNat<k→Q .normal {tmps:=#[.pointer (some ⟨W.g,0,none⟩),.agg #[.string ⟨fn.toArray⟩,.slice pA ps.length pc,.slice bA bn bc],vv,.int .i64 (d:Int),.int .i64 (most:Int),u5,.pointer (some ⟨w.heap.size,0,none⟩),u7,u8,u9,a0,vo,vn,dW,dX,dY,dZ,a3,a4,a5,a6,a7,a8,a9,aa,ab,ac,e0,e1,e2,e3,e4,e5,e6,e7,e9,ea,eb,ec,ed,ee,ef,eg,eh,ei,ej,ek,el,em,en,eo,ep,eq,er,es,et,eu,ev,ew,ex,ey,ez,eA,eB,eC,eD,eE,eF,eG,eH,eI,eJ,eK,eL,eM,eN,eO,eP,eQ,eR,eS,eT,eU,eV,eW,eX,eY,eZ,f3,f4,f5,f6,f7,f8,f9,fa,fb,fc,fd,fe,ff,fg,fh,fi,fj,fk,fl,fm,fo,fp,fq,fr,fs,ft,fu,fv,fw,fx,fy,fz,fA,fB,fC,fD,fE,fF,fG,fH,fI,fJ,fK,fL,fM,fN,fO,fP,fQ,fR,fS,fT,fU,fV,fW,fX,fY,fZ,g0,g1,g2,g3,g4,g5,g6,g7,g8,g9,ga,gc,gd,ge,gf,gg,gh,gi,gj,gk,gl,gm,gn,gp,gq,gr,gs,gt,gu,gv,gw,gx,gy,gz,gA,gB,gC,gD,gE,gF,gG,gH,gI,gJ,gK,gL,gM,gN,gO,gP,gQ,gR,gS,gT,gU,gV,gW,gX,gY,gZ,h0,h2,h3,h5,h6,h8,h9,ha,hb,hc,he,hf,hg,hh,hj,ho,hp,hq,hr,hs,ht,hu,hv,hw,hx,hy,hz,hA,hB,hD,hE,hF,hG,hH,hI,hJ,hL,hM,hN,hO,hP,hQ,dV],defers:=[]} w'))
  (e8:m=13) (h1:zab W.xs i2 3=1) :
  (nav [true,true,true,false,true,false,false,true,false,false,true,true,false,true,false,false] (Tryd.f15.body.getD .skip)).wp Tryd.prog (Exit.then K (Exit.inBlock 2 (Exit.then K1 (Exit.inBlock 1 (Exit.then K2 Q))))) {tmps:=#[.pointer (some ⟨W.g,0,none⟩),.agg #[.string ⟨fn.toArray⟩,.slice pA ps.length pc,.slice bA bn bc],.slice vA us.length vc,.int .i64 (d:Int),.int .i64 (most:Int),u5,.pointer (some ⟨w.heap.size,0,none⟩),u7,u8,u9,a0,.slice oA P.length oc,.int .i64 (k:Int),.pointer (some ⟨wr.heap.size,0,none⟩),.int .i64 (m:Int),a1,a2,a3,a4,a5,a6,a7,a8,a9,aa,ab,ac,ad,ae,af,ag,ah,ai,aj,ak,al,am,an,ao,ap,aq,ar,au,av,aw,ax,ay,az,aA,aB,aC,aD,aE,aF,aG,aH,aI,aJ,aK,aL,aM,aN,aO,aP,aQ,aR,aS,aT,aU,aV,aW,aX,aY,aZ,b0,b1,b2,b3,b4,b5,b6,b7,b8,b9,ba,bb,bd,be,bf,bg,bh,bi,bj,bk,bl,bm,bo,bp,bq,br,bs,bt,bu,bv,bw,bx,bz,bB,bC,bD,bE,bF,bG,bH,bI,bJ,bK,bL,bM,bN,bO,bP,bQ,bR,bS,bU,bV,bW,bX,bY,bZ,c0,c1,c2,c3,c4,c5,c6,c7,c8,c9,ca,cb,cc,cd,ce,cf,cg,ch,ci,cj,ck,cl,cm,cn,co,cp,cq,cr,ct,cu,cv,cw,cx,cy,cz,cA,cB,cC,cD,cE,cF,cG,cH,cI,cJ,cK,cL,cM,cN,cO,cP,cQ,cR,cS,cT,cU,cV,cW,cX,cY,cZ,d0,d1,d2,d3,d4,d5,d6,d7,d8,d9,da,db,dc,dd,de,df,dg,dh,di,dj,dk,dl,dm,dn,dp,dq,dr,ds,dt,du,dv,dw,dx,dy,dz,dA,dB,dC,dD,dE,dF,dG,dH,dI,dJ,dK,dL,dM,dN,dO,dP,dQ,dR,dS,dT,dU,dV],defers:=[]} w3:=by
 obtain⟨hps,hl,hd,hm,hn,hql,hgl,hll,hgl',hwr,hk,hk0,hun,hlo,hPl,hm14,HP,IH3,IH2,HBL,HS,HF3,HT3,HW3,HNq,HNg,HPm,f0,f1,f2⟩:=hC
 have hg0:=hgl
 have hq0:=hql
 obtain⟨i0,hi,hz0,hz1,hz2⟩:=info_parts Tryd.infoStr
 obtain⟨iS,hiS,hs0,hs1,hs2⟩:=info_parts Tryd.infoSt
 dsimp only[nav,Tryd.f15,Option.getD] at hK hK1 hK2 ⊢
 have h4:¬m<4:=by omega
 have t4:¬((m:Nat):Int)<4:=by omega
 have h7:¬m<7:=by omega
 have t7:¬((m:Nat):Int)<7:=by omega
 subst e8
 have hTq:wr.heap.size≠W.q:=by omega
 have hTg:wr.heap.size≠W.g:=by omega
 have hgT:W.g≠wr.heap.size:=by omega
 clear t4 t7 h4 h7 hm14
 have q0:=HW3.out.cells.1
 clear f0 f1 f2
 go_wp2_with fail
 refine(zaq w3 W.q W.xs i2 3 HW3.out.src (by omega) (by omega)).mono ?_
 rintro e w5 ⟨rfl,hS5,hG5⟩
 (try dsimp only)
 rw[show (3:Int).toNat=3 from rfl]
 have HW5:=Lib.hid (HW3.out.next hS5 hG5)
 have HF5:=Lib.hid (HF3.out.trans (Fr.of_grown hG5))
 have HT5:=Lib.hid ((hG5.block _ (lt_of_block HT3.out) (fun e=>by injection e with e;omega)).trans HT3.out)
 have HN5:=Lib.hid (HS.out.names HF5.out).1
 have HP5:=Lib.hid (HS.out.params HF5.out HP.out)
 have hz35:=lt_of_block HT5.out
 obtain⟨f0,f1,f2⟩:=zcu (HS.out.func HF5.out)
 clear hS5 hG5 q0
 have t1:=bT (show ((zab W.xs i2 3:Nat):Int)=1 by omega)
 clear h1 f0 f1 f2
 obtain⟨s0,s1,s2,s3,s4,s5,s6,s7,s8,s9,s10,sf,-⟩:=zah HT5.out
 have HQ:=Lib.hid ((PutAt.refl (wr.heap.size) w5).set 0 (.int .i64 9))
 have HFk:=Lib.hid (HF5.out.putAt HQ.out (Nat.le_refl _))
 have HBk:=Lib.hid (HS.out.go HFk.out (HS.out.wmk HFk.out HW5.out HQ.out (Nat.le_refl _)))
 have HSM:Hid (StM (w5.setCell ⟨wr.heap.size,0,none⟩ (.int .i64 9)) (wr.heap.size≤·) (St.mk 9 [] noEx noRf [] [] []) (⟨⟨0,0,[],none,0,0⟩,none,0,0,none,0,none,0,none,0⟩:SG)):=zbn 9 [] noEx noRf [] [] [] _ (ExM.leaf _ _ _ _ _ _ _) rfl (ArsM.nil _ _ _) (StsM.nil _ _ _) (StsM.nil _ _ _)
 have HBW:=Lib.hid (BlW.ret HBL.out)
 have HNB:=Lib.hid (HS.out.lt)
 go_wp2_with (first|(at_builtin;refine wpList_append_lies _ rfl (.tmp 244) (.tmp 246) 56 rfl (w.heap.size+1) 81 iS _ 11 192 Tryd.underlying56 hiS hs0 hs1 hs2 rfl (by decide) (.slice oA P.length oc) P.length (stK.cs P) rfl (HBk.out.o.alloc _) ⟨w5.heap.size,0,none⟩ 1 1 [.int .i64 9,.string ⟨#[]⟩,.int .i64 0,.int .i64 0,.string ⟨#[]⟩,.slice none 0 0,.string ⟨#[]⟩,.slice none 0 0,.slice none 0 0,.slice none 0 0,.slice none 0 0] rfl rfl (zam (w5.setCell ⟨wr.heap.size,0,none⟩ (.int .i64 9)) _ (by simp[World.setCell]) _ _) (stK.one ((St.mk 9 [] noEx noRf [] [] []),(⟨⟨0,0,[],none,0,0⟩,none,0,0,none,0,none,0,none,0⟩:SG))) (by omega) (by unfold maxLen;omega) (by omega) (by simp[World.setCell];omega) _ rfl ?_))
 intro gb cap7 w7 hown hgrow hlies hgl7
 have HB7:=Lib.hid (HBk.out.snoc (a:=((St.mk 9 [] noEx noRf [] [] []),(⟨⟨0,0,[],none,0,0⟩,none,0,0,none,0,none,0,none,0⟩:SG))) HSM.out HNB.out HS.out.sz hown hgrow (zai hlies (by simp)))
 clear hown hgrow hlies hgl7 HSM
 go_wp2_with fail
 apply HQQ.out
 ·
  exact⟨k-1,P++[((St.mk 9 [] noEx noRf [] [] []),(⟨⟨0,0,[],none,0,0⟩,none,0,0,none,0,none,0,none,0⟩:SG))],us,(zaa W.xs i2),lo,by go_num,by omega,by omega,by omega,by rw[List.map_append];exact HBW.out,HB7.out⟩
 ·
  simp[intOf];omega
end Go.Proofs.YtlnbmmgbfgmboaaDoor

namespace Go.Proofs.YtlnbmmgbfgmboaaDoor
open Go.RowKit
set_option maxRecDepth 100000 in
set_option maxHeartbeats 8000000 in
theorem sw_dd {W:WP} {fn:Nm} {ps:List Pm} {pA bA:Option Addr} {pc bn bc N left d most k:Nat} {w wr w3:World} {vs us:List Nm} {P:List (St × SG)} {oA vA:Option Addr} {oc vc i1 i2 lo m:Nat} {Q:Exit→Act→World→Prop} {K K1 K2:Act→World→Prop} {u5 u7 u8 u9 a0 a1 a2 a3 a4 a5 a6 a7 a8 a9 aa ab ac ad ae af ag ah ai aj ak al am an ao ap aq ar au av aw ax ay az aA aB aC aD aE aF aG aH aI aJ aK aL aM aN aO aP aQ aR aS aT aU aV aW aX aY aZ b0 b1 b2 b3 b4 b5 b6 b7 b8 b9 ba bb bd be bf bg bh bi bj bk bl bm bo bp bq br bs bt bu bv bw bx bz bB bC bD bE bG bH bI bJ bK bL bM bN bO bP bQ bR bS bT bU bV bW bX bY bZ c0 c1 c3 c4 c5 c6 c7 c8 c9 ca cb cc cd ce cf cg ch ci cj ck cl cm cn co cp cq cr ct cu cv cw cx cy cz cA cB cC cD cE cF cG cH cI cJ cK cL cM cN cO cP cQ cR cS cT cU cV cW cX cY cZ d0 d1 d2 d3 d4 d5 d6 d7 d8 d9 da db dc dd de df dg dh di dj dk dl dm dn dp dq dr ds dt du dv dw dx dy dz dA dB dC dD dE dF dG dH dI dJ dK dL dM dN dO dP dQ dR dS dT dU dV dW:Value} (hC:RndC W fn ps pA bA pc bn bc N left d most k w wr w3 vs us P oA vA oc vc i1 i2 lo m)
  (hK:∀a w,(nav [true,true,true,false,true,false,false,true,false,false,true,true,false,true,false,true] (Tryd.f15.body.getD .skip)).wp Tryd.prog (Exit.inBlock 2 (Exit.then K1 (Exit.inBlock 1 (Exit.then K2 Q)))) a w→K a w)
  (hK1:∀a w,(nav [true,true,true,false,true,false,false,true,false,false,true,true,true] (Tryd.f15.body.getD .skip)).wp Tryd.prog (Exit.inBlock 1 (Exit.then K2 Q)) a w→K1 a w) (hK2:∀a w,(nav [true,true,true,false,true,false,false,true,true] (Tryd.f15.body.getD .skip)).wp Tryd.prog Q a w→K2 a w)
  (HQQ:Hid (∀(dX dY dZ e0 e1 e2 e3 e4 e5 e6 e7 e9 ea eb ec ed ee ef eg eh ei ej ek el em en eo ep eq er es et eu ev ew ex ey ez eA eB eC eD eE eF eG eH eI eJ eK eL eM eN eO eP eQ eR eS eT eU eV eW eX eY eZ f3 f4 f5 f6 f7 f8 f9 fa fb fc fd fe ff fg fh fi fj fk fl fm fo fp fq fr fs ft fu fv fw fx fy fz fA fB fC fD fE fF fG fH fI fJ fK fL fM fN fO fP fQ fR fS fT fU fV fW fX fY fZ g0 g1 g2 g4 g5 g6 g7 g8 ga gc gd ge gf gg gh gi gj gk gl gm gn gp gq gr gs gt gu gv gw gx gy gz gA gB gC gD gE gF gG gH gI gJ gK gL gM gN gO gP gQ gR gS gT gU gV gW gX gY gZ h0 h2 h3 h5 h6 h8 h9 hc he hf hg hh hj ho hq hr hs ht hv hw hx hy hz hA hB hD hE hF hG hH hJ hL hM hN hO hP hQ hS hT hU hV hW hX hY hZ vv vo vn:Value) (w':World),BkL w W ps (.cells #[.string ⟨fn.toArray⟩,.slice pA ps.length pc,.slice bA bn bc] 58 (0,0)) d left most vs vv vo vn w'→(intOf vn).toNat<k→Q .normal {tmps:=#[.pointer (some ⟨W.g,0,none⟩),.agg #[.string ⟨fn.toArray⟩,.slice pA ps.length pc,.slice bA bn bc],vv,.int .i64 (d:Int),.int .i64 (most:Int),u5,.pointer (some ⟨w.heap.size,0,none⟩),u7,u8,u9,a0,vo,vn,dX,dY,dZ,e0,a3,a4,a5,a6,a7,a8,a9,aa,ab,ac,e1,e2,e3,e4,e5,e6,e7,e9,ea,eb,ec,ed,ee,ef,eg,eh,ei,ej,ek,el,em,en,eo,ep,eq,er,es,et,eu,ev,ew,ex,ey,ez,eA,eB,eC,eD,eE,eF,eG,eH,eI,eJ,eK,eL,eM,eN,eO,eP,eQ,eR,eS,eT,eU,eV,eW,eX,eY,eZ,f3,f4,f5,f6,f7,f8,f9,fa,fb,fc,fd,fe,ff,fg,fh,fi,fj,fk,fl,fm,fo,fp,fq,fr,fs,ft,fu,fv,fw,fx,fy,fz,fA,fB,fC,fD,fE,fF,fG,fH,fI,fJ,fK,fL,fM,fN,fO,fP,fQ,fR,fS,fT,fU,fV,fW,fX,fY,fZ,g0,g1,g2,g4,g5,g6,g7,g8,ga,gc,gd,ge,gf,gg,gh,gi,gj,gk,gl,gm,gn,gp,gq,gr,gs,gt,gu,gv,gw,gx,gy,gz,gA,gB,gC,gD,gE,gF,gG,gH,gI,gJ,gK,gL,gM,gN,gO,gP,gQ,gR,gS,gT,gU,gV,gW,gX,gY,gZ,h0,h2,h3,h5,h6,h8,h9,hc,he,hf,hg,hh,hj,ho,hq,hr,hs,ht,hv,hw,hx,hy,hz,hA,hB,hD,hE,hF,hG,hH,hJ,hL,hM,hN,hO,hP,hQ,hS,hT,hU,hV,hW,hX,hY,hZ,dW],defers:=[]} w'))
  (e8:m=13) (h1:¬zab W.xs i2 3=1) :
  (nav [true,true,true,false,true,false,false,true,false,false,true,true,false,true,false,false] (Tryd.f15.body.getD .skip)).wp Tryd.prog (Exit.then K (Exit.inBlock 2 (Exit.then K1 (Exit.inBlock 1 (Exit.then K2 Q))))) {tmps:=#[.pointer (some ⟨W.g,0,none⟩),.agg #[.string ⟨fn.toArray⟩,.slice pA ps.length pc,.slice bA bn bc],.slice vA us.length vc,.int .i64 (d:Int),.int .i64 (most:Int),u5,.pointer (some ⟨w.heap.size,0,none⟩),u7,u8,u9,a0,.slice oA P.length oc,.int .i64 (k:Int),.pointer (some ⟨wr.heap.size,0,none⟩),.int .i64 (m:Int),a1,a2,a3,a4,a5,a6,a7,a8,a9,aa,ab,ac,ad,ae,af,ag,ah,ai,aj,ak,al,am,an,ao,ap,aq,ar,au,av,aw,ax,ay,az,aA,aB,aC,aD,aE,aF,aG,aH,aI,aJ,aK,aL,aM,aN,aO,aP,aQ,aR,aS,aT,aU,aV,aW,aX,aY,aZ,b0,b1,b2,b3,b4,b5,b6,b7,b8,b9,ba,bb,bd,be,bf,bg,bh,bi,bj,bk,bl,bm,bo,bp,bq,br,bs,bt,bu,bv,bw,bx,bz,bB,bC,bD,bE,bG,bH,bI,bJ,bK,bL,bM,bN,bO,bP,bQ,bR,bS,bT,bU,bV,bW,bX,bY,bZ,c0,c1,c3,c4,c5,c6,c7,c8,c9,ca,cb,cc,cd,ce,cf,cg,ch,ci,cj,ck,cl,cm,cn,co,cp,cq,cr,ct,cu,cv,cw,cx,cy,cz,cA,cB,cC,cD,cE,cF,cG,cH,cI,cJ,cK,cL,cM,cN,cO,cP,cQ,cR,cS,cT,cU,cV,cW,cX,cY,cZ,d0,d1,d2,d3,d4,d5,d6,d7,d8,d9,da,db,dc,dd,de,df,dg,dh,di,dj,dk,dl,dm,dn,dp,dq,dr,ds,dt,du,dv,dw,dx,dy,dz,dA,dB,dC,dD,dE,dF,dG,dH,dI,dJ,dK,dL,dM,dN,dO,dP,dQ,dR,dS,dT,dU,dV,dW],defers:=[]} w3:=by
 obtain⟨hps,hl,hd,hm,hn,hql,hgl,hll,hgl',hwr,hk,hk0,hun,hlo,hPl,hm14,HP,IH3,IH2,HBL,HS,HF3,HT3,HW3,HNq,HNg,HPm,f0,f1,f2⟩:=hC
 have hg0:=hgl
 have hq0:=hql
 obtain⟨i0,hi,hz0,hz1,hz2⟩:=info_parts Tryd.infoStr
 obtain⟨iS,hiS,hs0,hs1,hs2⟩:=info_parts Tryd.infoSt
 dsimp only[nav,Tryd.f15,Option.getD] at hK hK1 hK2 ⊢
 have h4:¬m<4:=by omega
 have t4:¬((m:Nat):Int)<4:=by omega
 have h7:¬m<7:=by omega
 have t7:¬((m:Nat):Int)<7:=by omega
 subst e8
 have hTq:wr.heap.size≠W.q:=by omega
 have hTg:wr.heap.size≠W.g:=by omega
 have hgT:W.g≠wr.heap.size:=by omega
 clear t4 t7 h4 h7 hm14
 have q0:=HW3.out.cells.1
 clear f0 f1 f2
 go_wp2_with fail
 refine(zaq w3 W.q W.xs i2 3 HW3.out.src (by omega) (by omega)).mono ?_
 rintro e w5 ⟨rfl,hS5,hG5⟩
 (try dsimp only)
 rw[show (3:Int).toNat=3 from rfl]
 have HW5:=Lib.hid (HW3.out.next hS5 hG5)
 have HF5:=Lib.hid (HF3.out.trans (Fr.of_grown hG5))
 have HT5:=Lib.hid ((hG5.block _ (lt_of_block HT3.out) (fun e=>by injection e with e;omega)).trans HT3.out)
 have HN5:=Lib.hid (HS.out.names HF5.out).1
 have HP5:=Lib.hid (HS.out.params HF5.out HP.out)
 have hz35:=lt_of_block HT5.out
 obtain⟨f0,f1,f2⟩:=zcu (HS.out.func HF5.out)
 clear hS5 hG5 q0
 have t1:=bF (show ((zab W.xs i2 3:Nat):Int)≠1 by omega)
 clear h1
 go_wp2_with fail
 refine(zd6 w5 W (zaa W.xs i2) lo us vA vc fn ps pA bA pc bn bc HW5.out HN5.out (by omega) HP5.out hps).mono ?_
 rintro e w4 ⟨r,rA,rn,rc,i4,rfl,hR,hI,hW4,hG4⟩
 (try dsimp only)
 have HF4:=Lib.hid (HF5.out.trans (Fr.of_grown hG4))
 have HT4:=Lib.hid ((hG4.block _ (lt_of_block HT5.out) (fun e=>by injection e with e;omega)).trans HT5.out)
 have HW4:=Lib.hid hW4
 have HR4:=Lib.hid hR
 have HI4:=Lib.hid hI
 obtain⟨r0,r1,r2,r3,r4,r5,r6,r7,r8,r9,r10,rf,-⟩:=zah HT4.out
 have hz3:=lt_of_block HT5.out
 have hz4:=hG4.size
 have hzT:=lt_of_block HT4.out
 clear hR hI hW4 hG4
 have HQ:=Lib.hid (((PutAt.refl (wr.heap.size) w4).set 6 (.string ⟨r.name.toArray⟩)).set 7 (.slice rA rn rc))
 have HFk:=Lib.hid (HF4.out.putAt HQ.out (Nat.le_refl _))
 have HWk:=Lib.hid (HS.out.wmk HFk.out HW4.out HQ.out (Nat.le_refl _))
 have HTk:Hid (((w4.setCell ⟨wr.heap.size,6,none⟩ (.string ⟨r.name.toArray⟩)).setCell ⟨wr.heap.size,7,none⟩ (.slice rA rn rc)).heap[wr.heap.size]?=some (.cells #[.int .i64 5,.string ⟨#[]⟩,.int .i64 0,.int .i64 0,.string ⟨#[]⟩,.slice none 0 0,.string ⟨r.name.toArray⟩,.slice rA rn rc,.slice none 0 0,.slice none 0 0,.slice none 0 0] 81 (0,0))):=za8 7 _ (za8 6 _ HT4.out)
 have HIk:Hid (IdxM ((w4.setCell ⟨wr.heap.size,6,none⟩ (.string ⟨r.name.toArray⟩)).setCell ⟨wr.heap.size,7,none⟩ (.slice rA rn rc)) (fun b=>wr.heap.size+1≤b∧b<w4.heap.size) r.idx rA rn):=(HI4.out.more' (S':=fun b=>wr.heap.size+1≤b∧b<w4.heap.size) fun b hb hl=>⟨by omega,hl⟩).keep fun b hb _=>HQ.out.2.2.2.2 b (by omega)
 have HSZ:=Lib.hid (HS.out.z (·=wr.heap.size) (fun b e=>by omega))
 have hLTs:=Lib.hid HS.out.lt
 have hSz:=HS.out.sz
 go_upto_region 11 with fail
 have HTU:=Lib.hid (zac (.cells #[.int .i64 6,.string ⟨#[]⟩,.int .i64 0,.int .i64 0,.string ⟨#[]⟩,.slice none 0 0,.string ⟨r.name.toArray⟩,.slice rA rn rc,.slice none 0 0,.slice none 0 0,.slice none 0 0] 81) HTk.out)
 have hUU:=heap_alloc_new ((w4.setCell ⟨wr.heap.size,6,none⟩ (.string ⟨r.name.toArray⟩)).setCell ⟨wr.heap.size,7,none⟩ (.slice rA rn rc)) (.cells #[.int .i64 6,.string ⟨#[]⟩,.int .i64 0,.int .i64 0,.string ⟨#[]⟩,.slice none 0 0,.string ⟨r.name.toArray⟩,.slice rA rn rc,.slice none 0 0,.slice none 0 0,.slice none 0 0] 81)
 rw[show ((w4.setCell ⟨wr.heap.size,6,none⟩ (.string ⟨r.name.toArray⟩)).setCell ⟨wr.heap.size,7,none⟩ (.slice rA rn rc)).heap.size=w4.heap.size by simp[World.setCell]] at hUU
 have HUU:=Lib.hid hUU
 have HZU:=Lib.hid ((HSZ.out.go HFk.out HWk.out).go ((Fr.refl W.g W.q ((w4.setCell ⟨wr.heap.size,6,none⟩ (.string ⟨r.name.toArray⟩)).setCell ⟨wr.heap.size,7,none⟩ (.slice rA rn rc))).alloc (.cells #[.int .i64 6,.string ⟨#[]⟩,.int .i64 0,.int .i64 0,.string ⟨#[]⟩,.slice none 0 0,.string ⟨r.name.toArray⟩,.slice rA rn rc,.slice none 0 0,.slice none 0 0,.slice none 0 0] 81)) (HWk.out.alloc _))
 have HIU:Hid (IdxM (((w4.setCell ⟨wr.heap.size,6,none⟩ (.string ⟨r.name.toArray⟩)).setCell ⟨wr.heap.size,7,none⟩ (.slice rA rn rc)).alloc (.cells #[.int .i64 6,.string ⟨#[]⟩,.int .i64 0,.int .i64 0,.string ⟨#[]⟩,.slice none 0 0,.string ⟨r.name.toArray⟩,.slice rA rn rc,.slice none 0 0,.slice none 0 0,.slice none 0 0] 81)) (fun b=>wr.heap.size+1≤b∧b<w4.heap.size) r.idx rA rn):=HIk.out.keep fun b _ hl=>Below.heap_alloc _ _ b hl
 clear hUU HTk HIk HWk HFk HQ HI4 HW4 HF4 HT4 r0 r1 r2 r3 r4 r5 r6 r7 r8 r9 r10 rf HSZ
 generalize (((w4.setCell ⟨wr.heap.size,6,none⟩ (.string ⟨r.name.toArray⟩)).setCell ⟨wr.heap.size,7,none⟩ (.slice rA rn rc)).alloc (.cells #[.int .i64 6,.string ⟨#[]⟩,.int .i64 0,.int .i64 0,.string ⟨#[]⟩,.slice none 0 0,.string ⟨r.name.toArray⟩,.slice rA rn rc,.slice none 0 0,.slice none 0 0,.slice none 0 0] 81))=wU at *
 generalize hu0:w4.heap.size=u0 at *
 clear hu0
 obtain⟨y0,y1,y2,y3,y4,y5,y6,y7,y8,y9,y10,yf,ylt⟩:=zah HTU.out
 have hUl:=lt_of_block HUU.out
 have HSM:Hid (StM wU (wr.heap.size+1≤·) (St.mk 5 [] noEx r [] [] []) (⟨⟨0,0,[],none,0,0⟩,rA,rn,rc,none,0,none,0,none,0⟩:SG)):=zbn 5 [] noEx r [] [] [] _ (ExM.leaf _ _ _ _ _ _ _) (HIU.out.more fun b hb=>hb.1) (ArsM.nil _ _ _) (StsM.nil _ _ _) (StsM.nil _ _ _)
 go_wp2_with (first|(at_builtin;refine wpList_append_lies _ rfl (.tmp 59) (.tmp 61) 56 rfl (w.heap.size+1) 81 iS _ 11 192 Tryd.underlying56 hiS hs0 hs1 hs2 rfl (by decide) (.slice oA P.length oc) P.length (stK.cs P) rfl (HZU.out.o.alloc _) ⟨wU.heap.size,0,none⟩ 1 1 [.int .i64 5,.string ⟨#[]⟩,.int .i64 0,.int .i64 0,.string ⟨#[]⟩,.slice none 0 0,.string ⟨r.name.toArray⟩,.slice rA rn rc,.slice none 0 0,.slice none 0 0,.slice none 0 0] rfl rfl (zam wU _ rfl _ _) (stK.one ((St.mk 5 [] noEx r [] [] []),(⟨⟨0,0,[],none,0,0⟩,rA,rn,rc,none,0,none,0,none,0⟩:SG))) (by omega) (by unfold maxLen;omega) (by omega) (by simp;omega) _ rfl ?_))
 intro gb cap7 w7 hown hgrow hlies hgl7
 have hNe:∀b,wr.heap.size≤b→some b≠(Value.slice oA P.length oc).ownBlock:=fun b hb e=>by have:=hLTs.out _ (.inl e.symm);omega
 have hk7:∀b,wr.heap.size≤b→b<wU.heap.size→w7.heap[b]?=wU.heap[b]?:=fun b hb hl=>(hgrow.block b (by simp;omega) (hNe b hb)).trans (Below.heap_alloc wU _ b hl)
 have HZ7:=Lib.hid (HZU.out.snoc (a:=((St.mk 5 [] noEx r [] [] []),(⟨⟨0,0,[],none,0,0⟩,rA,rn,rc,none,0,none,0,none,0⟩:SG))) (N:=wr.heap.size+1) HSM.out (fun b hb=>Nat.lt_succ_of_lt (hLTs.out b hb)) (by omega) (fun b e=>by omega) hown hgrow (zai hlies (by simp)))
 have HT7:=Lib.hid ((hk7 _ (Nat.le_refl _) ylt).trans HTU.out)
 have HU7:=Lib.hid ((hk7 u0 (by omega) hUl).trans HUU.out)
 have hgb:gb<wr.heap.size∨u0<gb:=by
  rcases hlies with h|h
  ·
   exact .inl (hLTs.out _ (.inl h))
  ·
   exact .inr (by rw[h];first|omega|(simp;omega))
 have HI7:Hid (IdxM w7 (fun b=>wr.heap.size+1≤b∧b<u0) r.idx rA rn):=HIU.out.keep fun b hb hl=>hk7 b (by omega) hl
 have hT7:=lt_of_block HT7.out
 have hU7:=lt_of_block HU7.out
 obtain⟨f0,f1,f2⟩:=zcu HZ7.out.f
 have HN7:=Lib.hid (HZ7.out.s.names (Fr.refl W.g W.q w7))
 have HP7:=Lib.hid (HZ7.out.s.params (Fr.refl W.g W.q w7) HP.out)
 clear hown hgrow hlies hgl7 hk7 HTU HUU HIU HSM y0 y1 y2 y3 y4 y5 y6 y7 y8 y9 y10 yf HZU
 go_wp2_with fail
 refine(IH2.out w7 i4 lo us vA vc (by omega) HZ7.out.wm HN7.out.1 HN7.out.2 (by omega) HP7.out).mono ?_
 rintro e w8 ⟨l2,P2,A2,c2,i8,lo2,us2,hl2,rfl,hB2,hM2,hO2,hW8,hF8⟩
 (try dsimp only)
 rw[hl2,List.length_map]
 have HL2:=Lib.hid hl2
 have HB2:=Lib.hid hB2
 have hle2:=hB2.le
 have hln2:=hB2.len
 rw[hl2,List.length_map] at hln2
 rw[hl2,List.length_map] at hO2
 have HZ8:=Lib.hid (HZ7.out.go hF8 hW8)
 have HT8:=Lib.hid ((hF8.block _ hT7 hTg hTq).trans HT7.out)
 have HU8:=Lib.hid ((hF8.block _ hU7 (by omega) (by omega)).trans HU7.out)
 have HI8:Hid (IdxM w8 (fun b=>wr.heap.size+1≤b∧b<u0) r.idx rA rn):=HI7.out.keep fun b hb hl=>hF8.block b hl (by omega) (by omega)
 have HL8:Hid ((P++[((St.mk 5 [] noEx r [] [] []),(⟨⟨0,0,[],none,0,0⟩,rA,rn,rc,none,0,none,0,none,0⟩:SG))]).length=P.length+1):=by show _=_;simp
 have HO8:Hid (w8.ownsRow (w.heap.size+1) 81 11 (.slice (some ⟨gb,0,none⟩) (P.length+1) cap7) (P.length+1) (stK.cs (P++[((St.mk 5 [] noEx r [] [] []),(⟨⟨0,0,[],none,0,0⟩,rA,rn,rc,none,0,none,0,none,0⟩:SG))]))):=by
  have h:=HZ8.out.o
  rw[HL8.out] at h
  exact h
 have HA8:=Lib.hid (ziM hO2.1)
 have HC8:Hid (∀u∈stK.cs P2,u.oneCell'=true):=fun u hu=>by
  obtain⟨a,_,ha⟩:=List.mem_flatMap.1 hu
  exact stK.one a u ha
 have HS8:Hid (∀p∈P2,StM w8 (fun b=>w7.heap.size≤b) p.1 p.2):=fun p hp=>(hO2.2 p hp).more fun _ hb _=>hb.1
 have HLn:Hid ((stK.cs P2).length=P2.length*11):=stK.cs_len P2
 have hsz7:=HZ7.out.s.sz
 have HLt7:=Lib.hid HZ7.out.s.lt
 have hT8:=lt_of_block HT8.out
 have hU8:=lt_of_block HU8.out
 have hwz8:w.heap.size+1≤w8.heap.size:=Nat.le_trans hsz7 hF8.size
 clear hl2 hB2 hM2 hO2 hW8 hF8 HT7 HU7 HI7 HN7 HP7 f0 f1 f2 HZ7
 go_wp2_with (first|(at_builtin;refine zbd _ rfl (.tmp 63) (.tmp 67) 56 rfl (w.heap.size+1) 81 iS _ 11 192 Tryd.underlying56 hiS hs0 hs1 hs2 rfl (by decide) gb cap7 (P.length+1) (stK.cs (P++[((St.mk 5 [] noEx r [] [] []),(⟨⟨0,0,[],none,0,0⟩,rA,rn,rc,none,0,none,0,none,0⟩:SG))])) rfl HO8.out A2 P2.length c2 (stK.cs P2) rfl HLn.out HA8.out HC8.out (by unfold maxLen;omega) (by omega) hwz8 _ rfl ?_))
 intro g9 cap9 w9 hown hgrow hlies hgl9
 have hl9:gb=g9∨g9=w8.heap.size:=by simpa using hlies
 have hg9:g9<wr.heap.size∨u0<g9:=by
  rcases hl9 with h|h
  ·
   rw[←h];exact hgb
  ·
   exact .inr (by omega)
 have HZ9:=Lib.hid (HZ8.out.snocs (P2:=P2) (S0:=fun b=>w7.heap.size≤b) HS8.out (fun b hb=>⟨by omega,fun e=>by have:=HLt7.out _ (.inl e.symm);omega,fun e=>by have:=HLt7.out _ (.inr e.symm);omega,fun e=>by omega⟩) (by rw[HL8.out];exact hown) hgrow (zai (hl9.imp (fun h=>congrArg some h) (fun h=>h)) rfl))
 have HT9:=Lib.hid ((hgrow.block _ hT8 (fun e=>by injection e with e;omega)).trans HT8.out)
 have HU9:=Lib.hid ((hgrow.block _ hU8 (fun e=>by injection e with e;omega)).trans HU8.out)
 have HI9:Hid (IdxM w9 (fun b=>wr.heap.size+1≤b∧b<u0) r.idx rA rn):=HI8.out.keep fun b hb hl=>hgrow.block b hl (fun e=>by injection e with e;omega)
 have HL9:Hid (((P++[((St.mk 5 [] noEx r [] [] []),(⟨⟨0,0,[],none,0,0⟩,rA,rn,rc,none,0,none,0,none,0⟩:SG))])++P2).length=P.length+1+P2.length):=by show _=_;simp;omega
 clear hown hgrow hlies hgl9 HT8 HU8 HI8 HZ8 HS8 HA8 HC8 HO8 HLn HLt7
 obtain⟨y0,y1,y2,y3,y4,y5,y6,y7,y8,y9,y10,yf,ylt⟩:=zah HT9.out
 obtain⟨z0,z1,z2,z3,z4,z5,z6,z7,z8,z9,z10,zf,zlt⟩:=zah HU9.out
 go_upto_region 37 with fail
 have hA9:=all11 (v0:=.int .i64 6) (v1:=.string ⟨#[]⟩) (v2:=.int .i64 0) (v3:=.int .i64 0) (v4:=.string ⟨#[]⟩) (v5:=.slice none 0 0) (v6:=.string ⟨r.name.toArray⟩) (v7:=.slice rA rn rc) (v8:=.slice none 0 0) (v9:=.slice none 0 0) (v10:=.slice none 0 0) HT9.out
 have HQ9:=Lib.hid hA9.1
 have HTT:=Lib.hid hA9.2
 have HZT:=Lib.hid (HZ9.out.put HQ9.out rfl (by omega) (fun e=>by injection e with e;have e':wr.heap.size=g9:=e;omega) (fun e=>by have:=hLTs.out _ (.inr e.symm);omega))
 clear hA9
 have HIT:Hid (IdxM (((((((((((w9.setCell ⟨wr.heap.size,0,none⟩ (.int .i64 6)).setCell ⟨wr.heap.size,1,none⟩ (.string ⟨#[]⟩)).setCell ⟨wr.heap.size,2,none⟩ (.int .i64 0)).setCell ⟨wr.heap.size,3,none⟩ (.int .i64 0)).setCell ⟨wr.heap.size,4,none⟩ (.string ⟨#[]⟩)).setCell ⟨wr.heap.size,5,none⟩ (.slice none 0 0)).setCell ⟨wr.heap.size,6,none⟩ (.string ⟨r.name.toArray⟩)).setCell ⟨wr.heap.size,7,none⟩ (.slice rA rn rc)).setCell ⟨wr.heap.size,8,none⟩ (.slice none 0 0)).setCell ⟨wr.heap.size,9,none⟩ (.slice none 0 0)).setCell ⟨wr.heap.size,10,none⟩ (.slice none 0 0)) (fun b=>wr.heap.size+1≤b∧b<u0) r.idx rA rn):=HI9.out.keep fun b hb _=>HQ9.out.2.2.2.2 b (by omega)
 clear y0 y1 y2 y3 y4 y5 y6 y7 y8 y9 y10 yf z0 z1 z2 z3 z4 z5 z6 z7 z8 z9 z10 zf HQ9 HZ9 HT9 HU9 HI9 ylt zlt
 generalize (((((((((((w9.setCell ⟨wr.heap.size,0,none⟩ (.int .i64 6)).setCell ⟨wr.heap.size,1,none⟩ (.string ⟨#[]⟩)).setCell ⟨wr.heap.size,2,none⟩ (.int .i64 0)).setCell ⟨wr.heap.size,3,none⟩ (.int .i64 0)).setCell ⟨wr.heap.size,4,none⟩ (.string ⟨#[]⟩)).setCell ⟨wr.heap.size,5,none⟩ (.slice none 0 0)).setCell ⟨wr.heap.size,6,none⟩ (.string ⟨r.name.toArray⟩)).setCell ⟨wr.heap.size,7,none⟩ (.slice rA rn rc)).setCell ⟨wr.heap.size,8,none⟩ (.slice none 0 0)).setCell ⟨wr.heap.size,9,none⟩ (.slice none 0 0)).setCell ⟨wr.heap.size,10,none⟩ (.slice none 0 0))=wT at HZT HTT HIT ⊢
 obtain⟨y0,y1,y2,y3,y4,y5,y6,y7,y8,y9,y10,yf,ylt⟩:=zah HTT.out
 have HOT:Hid (wT.ownsRow (w.heap.size+1) 81 11 (.slice (some ⟨g9,0,none⟩) (P.length+1+P2.length) cap9) (P.length+1+P2.length) (stK.cs ((P++[((St.mk 5 [] noEx r [] [] []),(⟨⟨0,0,[],none,0,0⟩,rA,rn,rc,none,0,none,0,none,0⟩:SG))])++P2))):=by
  have h:=HZT.out.o
  rw[HL9.out] at h
  exact h
 have HSM:Hid (StM wT (fun b=>wr.heap.size+1≤b∧b<u0) (St.mk 6 [] noEx r [] [] []) (⟨⟨0,0,[],none,0,0⟩,rA,rn,rc,none,0,none,0,none,0⟩:SG)):=zbn 6 [] noEx r [] [] [] _ (ExM.leaf _ _ _ _ _ _ _) HIT.out (ArsM.nil _ _ _) (StsM.nil _ _ _) (StsM.nil _ _ _)
 have HBW:=Lib.hid (BlW.around r HBL.out HR4.out HB2.out)
 clear HTT HIT
 go_wp2_with (first|(at_builtin;refine wpList_append_lies _ rfl (.tmp 244) (.tmp 246) 56 rfl (w.heap.size+1) 81 iS _ 11 192 Tryd.underlying56 hiS hs0 hs1 hs2 rfl (by decide) (.slice (some ⟨g9,0,none⟩) (P.length+1+P2.length) cap9) (P.length+1+P2.length) (stK.cs ((P++[((St.mk 5 [] noEx r [] [] []),(⟨⟨0,0,[],none,0,0⟩,rA,rn,rc,none,0,none,0,none,0⟩:SG))])++P2)) rfl (HOT.out.alloc _) ⟨wT.heap.size,0,none⟩ 1 1 [.int .i64 6,.string ⟨#[]⟩,.int .i64 0,.int .i64 0,.string ⟨#[]⟩,.slice none 0 0,.string ⟨r.name.toArray⟩,.slice rA rn rc,.slice none 0 0,.slice none 0 0,.slice none 0 0] rfl rfl (zam wT _ rfl _ _) (stK.one ((St.mk 6 [] noEx r [] [] []),(⟨⟨0,0,[],none,0,0⟩,rA,rn,rc,none,0,none,0,none,0⟩:SG))) (by omega) (by unfold maxLen;omega) (by omega) (by simp;omega) _ rfl ?_))
 intro g3 cap3 w3' hown hgrow hlies hgl3
 have HB3:=Lib.hid (HZT.out.s.snocS (a:=((St.mk 6 [] noEx r [] [] []),(⟨⟨0,0,[],none,0,0⟩,rA,rn,rc,none,0,none,0,none,0⟩:SG))) (S0:=fun b=>wr.heap.size+1≤b∧b<u0) HSM.out (fun b hb=>⟨by omega,fun e=>by injection e with e;have e':b=g9:=e;omega,fun e=>by have:=hLTs.out _ (.inr e.symm);omega⟩) (by rw[HL9.out];first|exact hown|(rw[List.append_assoc,List.singleton_append];exact hown)) hgrow (zai hlies (by simp)))
 clear hown hgrow hlies hgl3 HSM HZT HOT
 go_wp2_with fail
 apply HQQ.out
 ·
  exact⟨k-1,((P++[((St.mk 5 [] noEx r [] [] []),(⟨⟨0,0,[],none,0,0⟩,rA,rn,rc,none,0,none,0,none,0⟩:SG))])++P2)++[((St.mk 6 [] noEx r [] [] []),(⟨⟨0,0,[],none,0,0⟩,rA,rn,rc,none,0,none,0,none,0⟩:SG))],us,i8,lo2,by go_num,by omega,by omega,by omega,by rw[List.map_append,List.map_append,List.map_append,←HL2.out];exact HBW.out,HB3.out⟩
 ·
  simp[intOf];omega
end Go.Proofs.YtlnbmmgbfgmboaaDoor

namespace Go.Proofs.YtlnbmmgbfgmboaaDoor
open Go.RowKit
theorem sw_any {W:WP} {fn:Nm} {ps:List Pm} {pA bA:Option Addr} {pc bn bc N left d most k:Nat} {w wr w3:World} {vs us:List Nm} {P:List (St × SG)} {oA vA:Option Addr} {oc vc i1 i2 lo m:Nat} {Q:Exit→Act→World→Prop} {K K1 K2:Act→World→Prop} {u5 u7 u8 u9 a0 a1 a2 a3 a4 a5 a6 a7 a8 a9 aa ab ac ad ae af ag ah ai aj ak al am an ao ap aq ar au av aw ax ay az aA aB aC aD aE aF aG aH aI aJ aK aL aM aN aO aP aQ aR aS aT aU aV aW aX aY aZ b0 b1 b2 b3 b4 b5 b6 b7 b8 b9 ba bb bd be bf bg bh bi bj bk bl bm bo bp bq br bs bt bu bv bw bx bz bB bC bD bE bF bG bH bI bJ bK bL bM bN bO bP bQ bR bS bT bU bV bW bX bY bZ c0 c1 c2 c3 c4 c5 c6 c7 c8 c9 ca cb cc cd ce cf cg ch ci cj ck cl cm cn co cp cq cr cs ct cu cv cw cx cy cz cA cB cC cD cE cF cG cH cI cJ cK cL cM cN cO cP cQ cR cS cT cU cV cW cX cY cZ d0 d1 d2 d3 d4 d5 d6 d7 d8 d9 da db dc dd de df dg dh di dj dk dl dm dn dp dq dr ds dt du dv dw dx dy dz dA dB dC dD dE dF dG dH dI dJ dK dL dM dN dO dP dQ dR dS dT:Value} (hC:RndC W fn ps pA bA pc bn bc N left d most k w wr w3 vs us P oA vA oc vc i1 i2 lo m)
  (hK:∀a w,(nav [true,true,true,false,true,false,false,true,false,false,true,true,false,true,false,true] (Tryd.f15.body.getD .skip)).wp Tryd.prog (Exit.inBlock 2 (Exit.then K1 (Exit.inBlock 1 (Exit.then K2 Q)))) a w→K a w)
  (hK1:∀a w,(nav [true,true,true,false,true,false,false,true,false,false,true,true,true] (Tryd.f15.body.getD .skip)).wp Tryd.prog (Exit.inBlock 1 (Exit.then K2 Q)) a w→K1 a w) (hK2:∀a w,(nav [true,true,true,false,true,false,false,true,true] (Tryd.f15.body.getD .skip)).wp Tryd.prog Q a w→K2 a w)
  (HQQ:Hid (∀(dU dV dW dX dY dZ e0 e1 e2 e3 e4 e5 e6 ea eb ec ed ee ef eg eh ei ej ek el em en eo ep eq er es et eu ev ew ex ey ez eA eB eC eD eE eF eG eH eI eJ eK eL eM eN eO eP eQ eR eS eT eU eV eW eX eY eZ f0 f1 f2 f3 f4 f5 f6 f7 f8 f9 fa fb fc fd fe ff fg fh fi fj fk fl fm fo fp fq fr fs ft fu fv fw fx fy fz fA fB fC fD fE fF fG fH fI fJ fK fL fM fN fO fP fQ fR fS fT fU fV fW fX fY fZ g0 g1 g2 g3 g4 g5 g6 g7 g8 g9 ga gb gc gd ge gf gg gh gi gj gk gl gm gn go gp gq gr gs gt gu gv gw gx gy gz gA gB gC gD gE gF gG gH gI gJ gK gL gM gN gO gP gQ gR gS gT gU gV gW gX gY gZ h0 h2 h3 h5 h6 h8 h9 ha hb hc hd he hf hg hh hi hj hk hl hm hn ho hp hq hr hs ht hv hw hx hy hz hA hB hD hE hF vv vo vn:Value) (w':World),BkL w W ps (.cells #[.string ⟨fn.toArray⟩,.slice pA ps.length pc,.slice bA bn bc] 58 (0,0)) d left most vs vv vo vn w'→(intOf vn).toNat<k→Q .normal {tmps:=#[.pointer (some ⟨W.g,0,none⟩),.agg #[.string ⟨fn.toArray⟩,.slice pA ps.length pc,.slice bA bn bc],vv,.int .i64 (d:Int),.int .i64 (most:Int),u5,.pointer (some ⟨w.heap.size,0,none⟩),u7,u8,u9,a0,vo,vn,dU,dV,dW,dX,a3,a4,a5,a6,a7,a8,a9,aa,ab,ac,dY,dZ,e0,e1,e2,e3,e4,e5,e6,ea,eb,ec,ed,ee,ef,eg,eh,ei,ej,ek,el,em,en,eo,ep,eq,er,es,et,eu,ev,ew,ex,ey,ez,eA,eB,eC,eD,eE,eF,eG,eH,eI,eJ,eK,eL,eM,eN,eO,eP,eQ,eR,eS,eT,eU,eV,eW,eX,eY,eZ,f0,f1,f2,f3,f4,f5,f6,f7,f8,f9,fa,fb,fc,fd,fe,ff,fg,fh,fi,fj,fk,fl,fm,fo,fp,fq,fr,fs,ft,fu,fv,fw,fx,fy,fz,fA,fB,fC,fD,fE,fF,fG,fH,fI,fJ,fK,fL,fM,fN,fO,fP,fQ,fR,fS,fT,fU,fV,fW,fX,fY,fZ,g0,g1,g2,g3,g4,g5,g6,g7,g8,g9,ga,gb,gc,gd,ge,gf,gg,gh,gi,gj,gk,gl,gm,gn,go,gp,gq,gr,gs,gt,gu,gv,gw,gx,gy,gz,gA,gB,gC,gD,gE,gF,gG,gH,gI,gJ,gK,gL,gM,gN,gO,gP,gQ,gR,gS,gT,gU,gV,gW,gX,gY,gZ,h0,h2,h3,h5,h6,h8,h9,ha,hb,hc,hd,he,hf,hg,hh,hi,hj,hk,hl,hm,hn,ho,hp,hq,hr,hs,ht,hv,hw,hx,hy,hz,hA,hB,hD,hE,hF,dT],defers:=[]} w')) :
  (nav [true,true,true,false,true,false,false,true,false,false,true,true,false,true,false,false] (Tryd.f15.body.getD .skip)).wp Tryd.prog (Exit.then K (Exit.inBlock 2 (Exit.then K1 (Exit.inBlock 1 (Exit.then K2 Q))))) {tmps:=#[.pointer (some ⟨W.g,0,none⟩),.agg #[.string ⟨fn.toArray⟩,.slice pA ps.length pc,.slice bA bn bc],.slice vA us.length vc,.int .i64 (d:Int),.int .i64 (most:Int),u5,.pointer (some ⟨w.heap.size,0,none⟩),u7,u8,u9,a0,.slice oA P.length oc,.int .i64 (k:Int),.pointer (some ⟨wr.heap.size,0,none⟩),.int .i64 (m:Int),a1,a2,a3,a4,a5,a6,a7,a8,a9,aa,ab,ac,ad,ae,af,ag,ah,ai,aj,ak,al,am,an,ao,ap,aq,ar,au,av,aw,ax,ay,az,aA,aB,aC,aD,aE,aF,aG,aH,aI,aJ,aK,aL,aM,aN,aO,aP,aQ,aR,aS,aT,aU,aV,aW,aX,aY,aZ,b0,b1,b2,b3,b4,b5,b6,b7,b8,b9,ba,bb,bd,be,bf,bg,bh,bi,bj,bk,bl,bm,bo,bp,bq,br,bs,bt,bu,bv,bw,bx,bz,bB,bC,bD,bE,bF,bG,bH,bI,bJ,bK,bL,bM,bN,bO,bP,bQ,bR,bS,bT,bU,bV,bW,bX,bY,bZ,c0,c1,c2,c3,c4,c5,c6,c7,c8,c9,ca,cb,cc,cd,ce,cf,cg,ch,ci,cj,ck,cl,cm,cn,co,cp,cq,cr,cs,ct,cu,cv,cw,cx,cy,cz,cA,cB,cC,cD,cE,cF,cG,cH,cI,cJ,cK,cL,cM,cN,cO,cP,cQ,cR,cS,cT,cU,cV,cW,cX,cY,cZ,d0,d1,d2,d3,d4,d5,d6,d7,d8,d9,da,db,dc,dd,de,df,dg,dh,di,dj,dk,dl,dm,dn,dp,dq,dr,ds,dt,du,dv,dw,dx,dy,dz,dA,dB,dC,dD,dE,dF,dG,dH,dI,dJ,dK,dL,dM,dN,dO,dP,dQ,dR,dS,dT],defers:=[]} w3:=by
 have hm14:=hC.hm14
 by_cases h4:m<4
 ·
  exact sw_lock hC hK hK1 hK2 HQQ h4
 ·
  by_cases h7:m<7
  ·
   exact zia hC hK hK1 hK2 HQQ h4 h7
  ·
   by_cases e7:m=7
   ·
    exact sw_var hC hK hK1 hK2 HQQ e7
   ·
    by_cases e8:m=8
    ·
     by_cases hu:0<us.length
     ·
      exact sw_set hC hK hK1 hK2 HQQ ⟨e8,hu⟩
     ·
      exact sw_da hC hK hK1 hK2 HQQ (.inl ⟨e8,by omega⟩)
    ·
     by_cases e9:m=9
     ·
      exact sw_call hC hK hK1 hK2 HQQ e9
     ·
      by_cases e10:m=10
      ·
       exact sw_gos hC hK hK1 hK2 HQQ e10
      ·
       by_cases e11:m=11
       ·
        by_cases hd0:0<d
        ·
         exact sw_cond hC hK hK1 hK2 HQQ ⟨e11,hd0⟩
        ·
         exact sw_da hC hK hK1 hK2 HQQ (.inr (.inl ⟨e11,by omega⟩))
       ·
        by_cases e12:m=12
        ·
         by_cases hd0:0<d
         ·
          exact sw_whl hC hK hK1 hK2 HQQ ⟨e12,hd0⟩
         ·
          exact sw_da hC hK hK1 hK2 HQQ (.inr (.inr ⟨e12,by omega⟩))
        ·
         by_cases h1:zab W.xs i2 3=1
         ·
          exact sw_ret hC hK hK1 hK2 HQQ (by omega) h1
         ·
          exact sw_dd hC hK hK1 hK2 HQQ (by omega) h1
end Go.Proofs.YtlnbmmgbfgmboaaDoor

namespace Go.Proofs.YtlnbmmgbfgmboaaDoor
open Go.RowKit
set_option maxRecDepth 100000 in
set_option maxHeartbeats 40000000 in
theorem zg4 (W:WP) (fn:Nm) (ps:List Pm) (pA bA:Option Addr) (pc bn bc:Nat) (hps:ps.length≤2) (N:Nat):∀(w:World) (i left:Nat) (vs:List Nm) (A:Option Addr) (c d most:Nat),left<N→d≤1000→most≤1000 →
  WrM w W i left→StrN w W.q A vs→StrN w W.g A vs→vs.length+left≤1000→PmsM w (fun b=>b≠W.g∧b≠W.q) ps pA →
  Calls Tryd.prog 15 #[.pointer (some ⟨W.g,0,none⟩),.agg #[.string ⟨fn.toArray⟩,.slice pA ps.length pc,.slice bA bn bc],.slice A vs.length c,.int .i64 (d:Int),.int .i64 (most:Int)] w (WbP w W ps d left vs):=by
 induction N with
 | zero=>intro w i left vs A c d most h;omega
 | succ N ih =>
 intro w i left vs A c d most hl hd hm hW hV hV2 hn hP
 obtain⟨i0,hi,hz0,hz1,hz2⟩:=info_parts Tryd.infoStr
 obtain⟨iS,hiS,hs0,hs1,hs2⟩:=info_parts Tryd.infoSt
 have IH:=Lib.hid ih
 have HW:=Lib.hid hW
 have HP:=Lib.hid hP
 have hql:=hW.src.lt
 have hgl:=lt_of_block hW.blk
 have hll:=hW.ll
 obtain⟨hn1,hn2⟩:=new2 w (.cells #[.string ⟨fn.toArray⟩,.slice pA ps.length pc,.slice bA bn bc] 58) (.cells #[] 9)
 have HVA:Hid (0<vs.length→∃ad,A=some ad∧∀j u,(strK.cs vs)[j]?=some u→((w.alloc (.cells #[.string ⟨fn.toArray⟩,.slice pA ps.length pc,.slice bA bn bc] 58)).alloc (.cells #[] 9)).cell? (ad.add j)=some u) :=
  fun h=>zgN ((hV.alloc _).alloc _) h
 have HOE:Hid (((w.alloc (.cells #[.string ⟨fn.toArray⟩,.slice pA ps.length pc,.slice bA bn bc] 58)).alloc (.cells #[] 9)).ownsRow (w.heap.size+1) 9 1 (.slice (some ⟨w.heap.size+1,0,none⟩) 0 0) 0 []) :=
  have:=World.ownsRow_lit (base:=w.heap.size+1) (e:=9) (size:=1) (w.alloc (.cells #[.string ⟨fn.toArray⟩,.slice pA ps.length pc,.slice bA bn bc] 58)) #[] 0 (by simp) (by simp) (by simp)
  by
   show World.ownsRow _ _ _ _ _ _ _
   simpa using this
 have hsz:((w.alloc (.cells #[.string ⟨fn.toArray⟩,.slice pA ps.length pc,.slice bA bn bc] 58)).alloc (.cells #[] 9)).heap.size=w.heap.size+2:=by simp
 have HSL:Hid ((strK.cs vs).length=vs.length*1):=strK.cs_len vs
 have HS1:Hid (∀u∈strK.cs vs,u.oneCell'=true):=fun u hu=>by
  obtain⟨a,_,ha⟩:=List.mem_flatMap.1 hu
  exact strK.one a u ha
 have IH3:Hid (∀(w:World) (i left:Nat) (vs:List Nm) (A:Option Addr) (c d:Nat) (dd:Int),left<N→d≤1000→dd=(d:Int)→WrM w W i left→StrN w W.q A vs→StrN w W.g A vs→vs.length+left≤1000→PmsM w (fun b=>b≠W.g∧b≠W.q) ps pA →
  Calls Tryd.prog 15 #[.pointer (some ⟨W.g,0,none⟩),.agg #[.string ⟨fn.toArray⟩,.slice pA ps.length pc,.slice bA bn bc],.slice A vs.length c,.int .i64 dd,.int .i64 3] w (WbP w W ps d left vs)):=fun w i left vs A c d dd h1 h2 hdd h3 h4 h5 h6 h7=>by subst hdd;exact ih w i left vs A c d 3 h1 h2 (by decide) h3 h4 h5 h6 h7
 have IH2:Hid (∀(w:World) (i left:Nat) (vs:List Nm) (A:Option Addr) (c:Nat),left<N→WrM w W i left→StrN w W.q A vs→StrN w W.g A vs→vs.length+left≤1000→PmsM w (fun b=>b≠W.g∧b≠W.q) ps pA →
  Calls Tryd.prog 15 #[.pointer (some ⟨W.g,0,none⟩),.agg #[.string ⟨fn.toArray⟩,.slice pA ps.length pc,.slice bA bn bc],.slice A vs.length c,.int .i64 0,.int .i64 2] w (WbP w W ps 0 left vs)):=fun w i left vs A c h1 h3 h4 h5 h6 h7=>ih w i left vs A c 0 2 h1 (by decide) (by decide) h3 h4 h5 h6 h7
 clear ih hW hP hV hV2 hn2 IH
 go_enter Tryd.func15,Tryd.ntmps15
 go_wp2_with (first|(at_builtin;refine zbd _ rfl (.tmp 17) (.tmp 18) 52 rfl (w.heap.size+1) 9 i0 _ 1 16 Tryd.underlying52 hi hz0 hz1 hz2 rfl (by decide) (w.heap.size+1) 0 0 [] rfl HOE.out A vs.length c (strK.cs vs) rfl HSL.out HVA.out HS1.out (by unfold maxLen;omega) (by omega) (by rw[hsz];omega) _ rfl ?_))
 intro g cap w5 hown hgrow hlies hgl5
 have HB0:=Lib.hid (zjf HW.out hown (heap_alloc_new w _) hgrow)
 clear hown hgrow hlies hgl5 HOE HVA HSL HS1 hsz hn1
 obtain⟨p0,-⟩:=HB0.out.wm.cells
 go_wp2_with fail
 refine(zaq w5 W.q W.xs i ((most:Int)+1) HB0.out.wm.src (by omega) (by omega)).mono ?_
 rintro e w6 ⟨rfl,hS,hG⟩
 have HL0:Hid (BkL w W ps _ d left most vs (.slice (some ⟨g,0,none⟩) vs.length cap) (.slice none 0 0) (.int .i64 (zab W.xs i (((most:Int)+1).toNat):Int)) w6):=⟨zab W.xs i (((most:Int)+1).toNat),[],vs,zaa W.xs i,left,rfl,by have:=zau W.xs i (((most:Int)+1).toNat) (by omega);omega,hn,Nat.le_refl _,.nil _ _ _,HB0.out.go (Fr.of_grown hG) (HB0.out.wm.next hS hG)⟩
 clear hS hG HB0 p0
 generalize zab W.xs i (((most:Int)+1).toNat)=k0 at *
 go_wp2_with fail
 go_loopw [2,11,12] (fun vv v n wr=>Hid (BkL w W ps (.cells #[.string ⟨fn.toArray⟩,.slice pA ps.length pc,.slice bA bn bc] 58 (0,0)) d left most vs vv v n wr)) (fun _ _ n _=>(intOf n).toNat)
 case atStart=>exact HL0.out
 case round =>
  clear HL0
  obtain⟨k,P,us,i1,lo,rfl,hk,hun,hlo,hBl,hS⟩:=hrel.out
  have HS:=Lib.hid hS
  have HBL:=Lib.hid hBl
  have hO:OwnR strK 9 wr (w.heap.size+1) u2 us:=⟨hS.n,fun _ _=>trivial⟩
  obtain⟨vA,vc,rfl⟩:=hO.form
  obtain⟨oA,oc,rfl⟩:=zbi hS.o
  obtain⟨q0,q2,q3,q4,q5,q6,hgl'⟩:=hS.wm.cells
  have hPl:=hBl.len
  rw[List.length_map] at hPl
  clear hrel hS hBl hO
  by_cases hk0:0<k
  ·
   by_cases hl0:0<lo
   ·
    obtain⟨lo,rfl⟩:∃l,lo=l+1:=⟨lo-1,by omega⟩
    have HS0:=Lib.hid (HS.out.wm.less lo (lo:Int) (by omega) (by omega))
    go_wp2_with fail
    have HW2:=Lib.hid (HS0.out.alloc (.cells #[.int .i64 5,.string ⟨#[]⟩,.int .i64 0,.int .i64 0,.string ⟨#[]⟩,.slice none 0 0,.string ⟨#[]⟩,.slice none 0 0,.slice none 0 0,.slice none 0 0,.slice none 0 0] 81))
    have HF2:=Lib.hid (((Fr.refl W.g W.q wr).set (.inr (.inl rfl)) (.int .i64 (lo:Int)) (p:=⟨W.g,4,none⟩)).alloc (.cells #[.int .i64 5,.string ⟨#[]⟩,.int .i64 0,.int .i64 0,.string ⟨#[]⟩,.slice none 0 0,.string ⟨#[]⟩,.slice none 0 0,.slice none 0 0,.slice none 0 0,.slice none 0 0] 81))
    have hT2:=heap_alloc_new (wr.setCell ⟨W.g,4,none⟩ (.int .i64 (lo:Int))) (.cells #[.int .i64 5,.string ⟨#[]⟩,.int .i64 0,.int .i64 0,.string ⟨#[]⟩,.slice none 0 0,.string ⟨#[]⟩,.slice none 0 0,.slice none 0 0,.slice none 0 0,.slice none 0 0] 81)
    rw[show (wr.setCell ⟨W.g,4,none⟩ (.int .i64 (lo:Int))).heap.size=wr.heap.size by simp[World.setCell]] at hT2
    have HT2:=Lib.hid hT2
    clear hT2 HS0 q0 q2 q3 q4 q5 q6
    generalize ((wr.setCell ⟨W.g,4,none⟩ (.int .i64 (lo:Int))).alloc (.cells #[.int .i64 5,.string ⟨#[]⟩,.int .i64 0,.int .i64 0,.string ⟨#[]⟩,.slice none 0 0,.string ⟨#[]⟩,.slice none 0 0,.slice none 0 0,.slice none 0 0,.slice none 0 0] 81))=W2 at *
    refine(zaq W2 W.q W.xs i1 14 HW2.out.src (by omega) (by omega)).mono ?_
    rintro e w3 ⟨rfl,hS3,hG3⟩
    rw[show (14:Int).toNat=14 from rfl]
    have hm14:=zau W.xs i1 14 (by omega)
    have HW3:=Lib.hid (HW2.out.next hS3 hG3)
    have HF3:=Lib.hid (HF2.out.trans (Fr.of_grown hG3))
    have hg0:=HS.out.hg
    have hq0:=HS.out.hq
    have hwr:=HS.out.fr.size
    have HT3:=Lib.hid ((hG3.block _ (lt_of_block HT2.out) (fun e=>by injection e with e;omega)).trans HT2.out)
    clear hS3 hG3 HW2 HF2 HT2
    generalize zab W.xs i1 14=m at *
    generalize zaa W.xs i1=i2 at *
    have hNm:=HS.out.names HF3.out
    have HNq:=Lib.hid hNm.1
    have HNg:=Lib.hid hNm.2
    have HPm:=Lib.hid (HS.out.params HF3.out HP.out)
    obtain⟨f0,f1,f2⟩:=zcu (HS.out.func HF3.out)
    clear hNm
    have hk0c:=hk0
    have hgl2:=hgl
    have HRC:Hid (RndC W fn ps pA bA pc bn bc N left d most k w wr w3 vs us P oA vA oc vc i1 i2 lo m):=⟨hps,hl,hd,hm,hn,hql,hgl,hll,hgl',hwr,hk,hk0,hun,hlo,hPl,hm14,HP,IH3,IH2,HBL,HS,HF3,HT3,HW3,HNq,HNg,HPm,f0,f1,f2⟩
    clear HNq HNg HPm f0 f1 f2 HF3 HT3 HW3 HS HBL hg0 hq0
    go_upto_region 14 with fail
    refine sw_any HRC.out (by assumption) (by assumption) (by assumption) ?_
    refine Lib.hid ?_
    intro a0 a1 a2 a3 a4 a5 a6 a7 a8 a9 aa ab ac ae af ag ah ai aj ak al am an ao ap aq ar au av aw ax ay az aA aB aC aD aE aF aG aH aI aJ aK aL aM aN aO aP aQ aR aS aT aU aV aW aX aY aZ b0 b1 b2 b3 b4 b5 b6 b7 b8 b9 ba bb bd be bf bg bh bi bj bk bl bm bo bp bq br bs bt bu bv bw bx bz bB bC bD bE bF bG bH bI bJ bK bL bM bN bO bP bQ bR bS bT bU bV bW bX bY bZ c0 c1 c2 c3 c4 c5 c6 c7 c8 c9 ca cb cc cd ce cf cg ch ci cj ck cl cm cn co cp cq cr ct cu cv cw cx cy cz cA cB cC cD cE cF cG cH cI cJ cK cL cM cN cO cP cQ cR cS cT cU cV cW cX cY cZ d0 d1 d2 d3 d4 d5 d6 d7 d8 d9 da db dc de df dg dh di dj dk dl dm dn dp dq dr ds dt du dv dw dx dy dz dA dB dC dD dE dF dG dH dI dJ dK dL dM vv vo vn w9 hrel9 hlt9
    go_roundw
    case rel=>exact⟨vv,vo,vn,a0,a1,a2,a3,a4,a5,a6,a7,a8,a9,aa,ab,ac,ae,af,ag,ah,ai,aj,ak,al,am,an,ao,ap,aq,ar,au,av,aw,ax,ay,az,aA,aB,aC,aD,aE,aF,aG,aH,aI,aJ,aK,aL,aM,aN,aO,aP,aQ,aR,aS,aT,aU,aV,aW,aX,aY,aZ,b0,b1,b2,b3,b4,b5,b6,b7,b8,b9,ba,bb,bd,be,bf,bg,bh,bi,bj,bk,bl,bm,bo,bp,bq,br,bs,bt,bu,bv,bw,bx,bz,bB,bC,bD,bE,bF,bG,bH,bI,bJ,bK,bL,bM,bN,bO,bP,bQ,bR,bS,bT,bU,bV,bW,bX,bY,bZ,c0,c1,c2,c3,c4,c5,c6,c7,c8,c9,ca,cb,cc,cd,ce,cf,cg,ch,ci,cj,ck,cl,cm,cn,co,cp,cq,cr,ct,cu,cv,cw,cx,cy,cz,cA,cB,cC,cD,cE,cF,cG,cH,cI,cJ,cK,cL,cM,cN,cO,cP,cQ,cR,cS,cT,cU,cV,cW,cX,cY,cZ,d0,d1,d2,d3,d4,d5,d6,d7,d8,d9,da,db,dc,de,df,dg,dh,di,dj,dk,dl,dm,dn,dp,dq,dr,ds,dt,du,dv,dw,dx,dy,dz,dA,dB,dC,dD,dE,dF,dG,dH,dI,dJ,dK,dL,dM,hrel9,by simp⟩
    case measure=>simpa[intOf] using hlt9
   ·
    have hl1:lo=0:=by omega
    subst hl1
    go_wp2_with fail
    go_ret
    exact WbP.done HS.out HBL.out
  ·
   go_wp2_with fail
   go_ret
   exact WbP.done HS.out HBL.out
end Go.Proofs.YtlnbmmgbfgmboaaDoor
