import Derived.Test.YtlnbmmgbfgmboaaDoorQ9
import Derived.Deep.CutRange
namespace Go.Proofs.YtlnbmmgbfgmboaaDoor
open Go.RowKit
set_option maxRecDepth 100000 in
set_option maxHeartbeats 8000000 in
theorem sw_set {W:WP} {fn:Nm} {ps:List Pm} {pA bA:Option Addr} {pc bn bc N left d most k:Nat} {w wr w3:World} {vs us:List Nm} {P:List (St × SG)} {oA vA:Option Addr} {oc vc i1 i2 lo m:Nat} {Q:Exit→Act→World→Prop} {K K1 K2:Act→World→Prop} {u5 u7 u8 u9 a0 a1 a2 a3 a4 a5 a6 a7 a8 a9 aa ab ac ad ae af ag ah ai aj ak al am an ao ap aq ar au av aw ax ay az aA aB aC aD aE aF aG aH aI aJ aK aL aM aN aO aP aQ aR aS aT aU aV aW aX aY aZ b0 b1 b2 b3 b4 b5 b6 b7 b8 b9 ba bb bd be bf bg bh bi bj bk bl bm bo bp bq br bs bt bu bv bw bx bz bB bC bD bE bF bG bH bI bJ bK bL bM bN bO bP bQ bR bS bT bU bV bW bX bY bZ c0 c1 c2 c3 c4 c5 c6 c7 c8 c9 ca cb cc cd ce cf cg ch ci cj ck cl cm co cp cq cr ct cu cv cw cx cy cz cA cB cC cD cE cF cG cH cI cJ cK cL cM cN cO cP cQ cR cS cT cU cV cW cX cY cZ d0 d1 d2 d3 d4 d5 d6 d7 d8 d9 da db dc dd de df dg dh di dj dk dl dm dn dp dq dr ds dt du dv dw dx dy dz dA dB dC dD dE dF dG dH dI dJ dK dL dM dN dO dP dQ dR dS dT dU dV:Value} (hC:RndC W fn ps pA bA pc bn bc N left d most k w wr w3 vs us P oA vA oc vc i1 i2 lo m)
  (hK:∀a w,(nav [true,true,true,false,true,false,false,true,false,false,true,true,false,true,false,true] (Tryd.f15.body.getD .skip)).wp Tryd.prog (Exit.inBlock 2 (Exit.then K1 (Exit.inBlock 1 (Exit.then K2 Q)))) a w→K a w)
  (hK1:∀a w,(nav [true,true,true,false,true,false,false,true,false,false,true,true,true] (Tryd.f15.body.getD .skip)).wp Tryd.prog (Exit.inBlock 1 (Exit.then K2 Q)) a w→K1 a w) (hK2:∀a w,(nav [true,true,true,false,true,false,false,true,true] (Tryd.f15.body.getD .skip)).wp Tryd.prog Q a w→K2 a w)
  (HQQ:Hid (∀(dW dX dY dZ e0 e1 e2 e3 e4 e5 e6 e7 e9 ea eb ec ed ee ef eg eh ei ej ek el em en eo ep eq er es et eu ev ew ex ey ez eA eB eC eD eE eF eG eH eI eJ eK eL eM eN eO eP eQ eR eS eT eU eV eW eX eY eZ f3 f4 f5 f6 f7 f8 f9 fa fb fd fe ff fg fh fi fj fk fm fp fq fr fs ft fu fv fw fy fz fB fC fD fE fF fG fH fI fJ fK fL fM fN fO fP fQ fR fS fT fU fV fW fX fY fZ g0 g1 g2 g3 g4 g5 g6 g7 g8 g9 ga gc gd ge gf gg gh gi gj gk gl gm gn gp gq gr gs gt gu gv gw gx gy gz gA gB gC gD gE gF gG gH gI gJ gK gL gM gN gO gP gQ gR gS gT gU gV gW gX gY gZ h0 h1 h2 h3 h5 h6 h8 h9 ha hc he hf hg hh hj ho hp hq hr hs ht hu hv hw hx hy hz hA hB hD hE hG hH hJ hL hM hN hO hP hQ hS hT hU hV hW hX hY vv vo vn:Value) (w':World),BkL w W ps (.cells #[.string ⟨fn.toArray⟩,.slice pA ps.length pc,.slice bA bn bc] 58 (0,0)) d left most vs vv vo vn w'→(intOf vn).toNat<k→Q .normal {tmps:=#[.pointer (some ⟨W.g,0,none⟩),.agg #[.string ⟨fn.toArray⟩,.slice pA ps.length pc,.slice bA bn bc],vv,.int .i64 (d:Int),.int .i64 (most:Int),u5,.pointer (some ⟨w.heap.size,0,none⟩),u7,u8,u9,a0,vo,vn,dW,dX,dY,dZ,a3,a4,a5,a6,a7,a8,a9,aa,ab,ac,e0,e1,e2,e3,e4,e5,e6,e7,e9,ea,eb,ec,ed,ee,ef,eg,eh,ei,ej,ek,el,em,en,eo,ep,eq,er,es,et,eu,ev,ew,ex,ey,ez,eA,eB,eC,eD,eE,eF,eG,eH,eI,eJ,eK,eL,eM,eN,eO,eP,eQ,eR,eS,eT,eU,eV,eW,eX,eY,eZ,f3,f4,f5,f6,f7,f8,f9,fa,fb,fd,fe,ff,fg,fh,fi,fj,fk,fm,fp,fq,fr,fs,ft,fu,fv,fw,fy,fz,fB,fC,fD,fE,fF,fG,fH,fI,fJ,fK,fL,fM,fN,fO,fP,fQ,fR,fS,fT,fU,fV,fW,fX,fY,fZ,g0,g1,g2,g3,g4,g5,g6,g7,g8,g9,ga,gc,gd,ge,gf,gg,gh,gi,gj,gk,gl,gm,gn,gp,gq,gr,gs,gt,gu,gv,gw,gx,gy,gz,gA,gB,gC,gD,gE,gF,gG,gH,gI,gJ,gK,gL,gM,gN,gO,gP,gQ,gR,gS,gT,gU,gV,gW,gX,gY,gZ,h0,h1,h2,h3,h5,h6,h8,h9,ha,hc,he,hf,hg,hh,hj,ho,hp,hq,hr,hs,ht,hu,hv,hw,hx,hy,hz,hA,hB,hD,hE,hG,hH,hJ,hL,hM,hN,hO,hP,hQ,hS,hT,hU,hV,hW,hX,hY,dV],defers:=[]} w'))
  (e8:m=8∧0<us.length) :
  (nav [true,true,true,false,true,false,false,true,false,false,true,true,false,true,false,false] (Tryd.f15.body.getD .skip)).wp Tryd.prog (Exit.then K (Exit.inBlock 2 (Exit.then K1 (Exit.inBlock 1 (Exit.then K2 Q))))) {tmps:=#[.pointer (some ⟨W.g,0,none⟩),.agg #[.string ⟨fn.toArray⟩,.slice pA ps.length pc,.slice bA bn bc],.slice vA us.length vc,.int .i64 (d:Int),.int .i64 (most:Int),u5,.pointer (some ⟨w.heap.size,0,none⟩),u7,u8,u9,a0,.slice oA P.length oc,.int .i64 (k:Int),.pointer (some ⟨wr.heap.size,0,none⟩),.int .i64 (m:Int),a1,a2,a3,a4,a5,a6,a7,a8,a9,aa,ab,ac,ad,ae,af,ag,ah,ai,aj,ak,al,am,an,ao,ap,aq,ar,au,av,aw,ax,ay,az,aA,aB,aC,aD,aE,aF,aG,aH,aI,aJ,aK,aL,aM,aN,aO,aP,aQ,aR,aS,aT,aU,aV,aW,aX,aY,aZ,b0,b1,b2,b3,b4,b5,b6,b7,b8,b9,ba,bb,bd,be,bf,bg,bh,bi,bj,bk,bl,bm,bo,bp,bq,br,bs,bt,bu,bv,bw,bx,bz,bB,bC,bD,bE,bF,bG,bH,bI,bJ,bK,bL,bM,bN,bO,bP,bQ,bR,bS,bT,bU,bV,bW,bX,bY,bZ,c0,c1,c2,c3,c4,c5,c6,c7,c8,c9,ca,cb,cc,cd,ce,cf,cg,ch,ci,cj,ck,cl,cm,co,cp,cq,cr,ct,cu,cv,cw,cx,cy,cz,cA,cB,cC,cD,cE,cF,cG,cH,cI,cJ,cK,cL,cM,cN,cO,cP,cQ,cR,cS,cT,cU,cV,cW,cX,cY,cZ,d0,d1,d2,d3,d4,d5,d6,d7,d8,d9,da,db,dc,dd,de,df,dg,dh,di,dj,dk,dl,dm,dn,dp,dq,dr,ds,dt,du,dv,dw,dx,dy,dz,dA,dB,dC,dD,dE,dF,dG,dH,dI,dJ,dK,dL,dM,dN,dO,dP,dQ,dR,dS,dT,dU,dV],defers:=[]} w3:=by
 obtain⟨hps,hl,hd,hm,hn,hql,hgl,hll,hgl',hwr,hk,hk0,hun,hlo,hPl,hm14,HP,IH3,IH2,HBL,HS,HF3,HT3,HW3,HNq,HNg,HPm,f0,f1,f2⟩:=hC
 have hg0:=hgl
 have hq0:=hql
 obtain⟨i0,hi,hz0,hz1,hz2⟩:=info_parts Tryd.infoStr
 obtain⟨iS,hiS,hs0,hs1,hs2⟩:=info_parts Tryd.infoSt
 dsimp only[nav,Tryd.f15,Option.getD] at hK hK1 hK2 ⊢
 have h4:¬m<4:=by omega
 have t4:¬((m:Nat):Int)<4:=by omega
 have h7:¬m<7:=by omega
 have t7:¬((m:Nat):Int)<7:=by omega
 obtain⟨rfl,hup⟩:=e8
 have hTq:wr.heap.size≠W.q:=by omega
 have hTg:wr.heap.size≠W.g:=by omega
 have hgT:W.g≠wr.heap.size:=by omega
 have hz3:=lt_of_block HT3.out
 have HW3d:Hid (WrM w3.drew W i2 lo):=HW3.out.keep fun _ _=>rfl
 have HNd:Hid (StrN w3.drew W.q vA us):=HNq.out
 have HT3d:Hid (w3.drew.heap[wr.heap.size]?=_):=HT3.out
 have HF3d:Hid (Fr W.g W.q wr w3.drew):=⟨HF3.out.os,HF3.out.tape,HF3.out.output,HF3.out.size,HF3.out.block⟩
 have hzd:w3.drew.heap.size=w3.heap.size:=rfl
 have q0:=HW3d.out.cells.1
 have tu:(0:Int)<(us.length:Int):=by omega
 have hjl:=zau W.xs i2 us.length hup
 obtain⟨b,hvA,hbl,hbw,cn⟩:=zdZ (⟨HS.out.n,fun _ _=>trivial⟩:OwnR strK 9 wr (w.heap.size+1) (.slice vA us.length vc) us) (zab W.xs i2 us.length) hjl
 subst hvA
 have hbT:b≠wr.heap.size:=by omega
 have HCN:Hid (∀w',Fr W.g W.q wr w'→w'.cell? ⟨b,zab W.xs i2 us.length,none⟩=some (.string ⟨us[zab W.xs i2 us.length].toArray⟩)):=fun w' hF=>(World.cell?_of_block (a:=⟨b,zab W.xs i2 us.length,none⟩) (hF.block b hbw (by omega) (by omega))).trans cn
 have cn3:=HCN.out w3.drew HF3d.out
 have HMem:Hid (us[zab W.xs i2 us.length]∈us):=List.getElem_mem hjl
 have hj0:(0:Int)≤(zab W.xs i2 us.length:Int):=by omega
 have hj1:(zab W.xs i2 us.length:Int)<(us.length:Int):=by omega
 generalize hnj:us[zab W.xs i2 us.length]=nj at *
 have HNJ:=Lib.hid hnj
 clear hnj
 clear cn f0 f1 f2 t4 h4 hz0 hz1 hz2 hi
 go_wp2_with fail
 go_region_held3 (fun w'=>w'.cell? ⟨W.g,0,none⟩=some (.pointer (some ⟨W.q,0,none⟩))∧w'.cell? ⟨b,zab W.xs i2 us.length,none⟩=some (.string ⟨nj.toArray⟩))
  (refine⟨?_,?_⟩<;>repeat (first|with_reducible assumption|with_reducible refine za6 _ ?_|with_reducible refine za3 hgT ?_|with_reducible refine za3 hbT ?_))
  (first
   | (go_simp;go_at_call 14;refine(zaq _ W.q W.xs i2 (us.length:Int) HW3d.out.src (by omega) (by omega)).mono ?_;rintro e w5 ⟨rfl,hS5,hG5⟩;rw[Int.toNat_natCast];have HW5:=Lib.hid (HW3d.out.next hS5 hG5);have HN5:=Lib.hid (HNd.out.grown hG5);obtain⟨hF5,hT5,-⟩:=zez HF3d.out hG5 HT3d.out hTq;have HF5:=Lib.hid hF5;have HT5:=Lib.hid hT5;have u0:=HW5.out.cells.1;have u1:=HCN.out w5 hF5;clear hS5 hG5 hF5 hT5;dsimp only)
   | (go_simp;go_at_call 29;refine(zc8 _ W _ lo us _ vc HW5.out HN5.out (by omega)).mono ?_;rintro e w4 ⟨f,E,i4,rfl,hR,hI,hW4,hG4⟩;obtain⟨fo,fx,fname,fA,fl,fc⟩:=f;obtain⟨hF4,hT4,⟨s0,s1,s2,s3,s4,s5,s6,s7,s8,s9,s10⟩,sf,hTw4,hTw5,hz4⟩:=zez HF5.out hG4 HT5.out hTq;have HF4:=Lib.hid hF4;have HT4:=Lib.hid hT4;have hz5:=lt_of_block HT5.out;have HM4:=Lib.hid hI;have HW4:=Lib.hid hW4;have HR4:=Lib.hid hR;have v0:=hW4.cells.1;have v1:=HCN.out w4 hF4;clear hR hI hW4 hG4 hT4 hF4;dsimp only[EF.val]))
 have HQ:=Lib.hid (((((((PutAt.refl (wr.heap.size) w4).set 0 (.int .i64 2)).set 1 (.string ⟨nj.toArray⟩)).set 2 (.int .i64 fo)).set 3 (.int .i64 fx)).set 4 (.string ⟨fname.toArray⟩)).set 5 (.slice fA fl fc))
 have HFk:=Lib.hid (HF4.out.putAt HQ.out (Nat.le_refl _))
 have HBk:=Lib.hid (HS.out.go HFk.out (HS.out.wmk HFk.out HW4.out HQ.out (Nat.le_refl _)))
 have HSM:Hid (StM ((((((w4.setCell ⟨wr.heap.size,0,none⟩ (.int .i64 2)).setCell ⟨wr.heap.size,1,none⟩ (.string ⟨nj.toArray⟩)).setCell ⟨wr.heap.size,2,none⟩ (.int .i64 fo)).setCell ⟨wr.heap.size,3,none⟩ (.int .i64 fx)).setCell ⟨wr.heap.size,4,none⟩ (.string ⟨fname.toArray⟩)).setCell ⟨wr.heap.size,5,none⟩ (.slice fA fl fc)) (wr.heap.size≤·) (St.mk 2 nj E noRf [] [] []) (⟨⟨fo,fx,fname,fA,fl,fc⟩,none,0,0,none,0,none,0,none,0⟩:SG)):=zbn 2 nj E noRf [] [] [] _ ((HM4.out.keep fun b hb _=>HQ.out.2.2.2.2 b (by omega)).more fun b hb=>by omega) rfl (ArsM.nil _ _ _) (StsM.nil _ _ _) (StsM.nil _ _ _)
 have HBW:=Lib.hid (BlW.set nj E HBL.out HMem.out HR4.out)
 have HNB:=Lib.hid (HS.out.lt)
 go_wp2_with (first|(at_builtin;refine wpList_append_lies _ rfl (.tmp 244) (.tmp 246) 56 rfl (w.heap.size+1) 81 iS _ 11 192 Tryd.underlying56 hiS hs0 hs1 hs2 rfl (by decide) (.slice oA P.length oc) P.length (stK.cs P) rfl (HBk.out.o.alloc _) ⟨w4.heap.size,0,none⟩ 1 1 [.int .i64 2,.string ⟨nj.toArray⟩,.int .i64 fo,.int .i64 fx,.string ⟨fname.toArray⟩,.slice fA fl fc,.string ⟨#[]⟩,.slice none 0 0,.slice none 0 0,.slice none 0 0,.slice none 0 0] rfl rfl (zam ((((((w4.setCell ⟨wr.heap.size,0,none⟩ (.int .i64 2)).setCell ⟨wr.heap.size,1,none⟩ (.string ⟨nj.toArray⟩)).setCell ⟨wr.heap.size,2,none⟩ (.int .i64 fo)).setCell ⟨wr.heap.size,3,none⟩ (.int .i64 fx)).setCell ⟨wr.heap.size,4,none⟩ (.string ⟨fname.toArray⟩)).setCell ⟨wr.heap.size,5,none⟩ (.slice fA fl fc)) _ (by simp[World.setCell]) _ _) (stK.one ((St.mk 2 nj E noRf [] [] []),(⟨⟨fo,fx,fname,fA,fl,fc⟩,none,0,0,none,0,none,0,none,0⟩:SG))) (by omega) (by unfold maxLen;omega) (by omega) (by simp[World.setCell];omega) _ rfl ?_))
 intro gb cap7 w7 hown hgrow hlies hgl7
 have HB7:=Lib.hid (HBk.out.snoc (a:=((St.mk 2 nj E noRf [] [] []),(⟨⟨fo,fx,fname,fA,fl,fc⟩,none,0,0,none,0,none,0,none,0⟩:SG))) HSM.out HNB.out HS.out.sz hown hgrow (zai hlies (by simp)))
 clear hown hgrow hlies hgl7 HSM
 go_wp2_with fail
 apply HQQ.out
 ·
  exact⟨k-1,P++[((St.mk 2 nj E noRf [] [] []),(⟨⟨fo,fx,fname,fA,fl,fc⟩,none,0,0,none,0,none,0,none,0⟩:SG))],us,i4,lo,by go_num,by omega,by omega,by omega,by rw[List.map_append];exact HBW.out,HB7.out⟩
 ·
  simp[intOf];omega
end Go.Proofs.YtlnbmmgbfgmboaaDoor
