import Derived.Test.YtlnbmmgbfgmboaaDoorQ9
import Derived.Deep.CutRange
namespace Go.Proofs.YtlnbmmgbfgmboaaDoor
open Go.RowKit
set_option maxRecDepth 100000 in
set_option maxHeartbeats 8000000 in
theorem sw_cond {W:WP} {fn:Nm} {ps:List Pm} {pA bA:Option Addr} {pc bn bc N left d most k:Nat} {w wr w3:World} {vs us:List Nm} {P:List (St × SG)} {oA vA:Option Addr} {oc vc i1 i2 lo m:Nat} {Q:Exit→Act→World→Prop} {K K1 K2:Act→World→Prop} {u5 u7 u8 u9 a0 a1 a2 a3 a4 a5 a6 a7 a8 a9 aa ab ac ad ae af ag ah ai aj ak al am an ao ap aq ar au av aw ax ay az aA aB aC aD aE aF aG aH aI aJ aK aL aM aN aO aP aQ aR aS aT aU aV aW aX aY aZ b0 b1 b2 b3 b4 b5 b6 b7 b8 b9 ba bb bd be bf bg bh bi bj bk bl bm bo bp bq br bs bt bu bv bw bx bz bB bC bD bE bG bH bI bJ bK bL bM bN bO bP bQ bR bS bU bV bW bX bY bZ c0 c1 c4 c5 c6 c7 c8 c9 ca cb cc cd ce cf cg ch ci cj ck cl cm cn co cp cq cr ct cu cv cw cx cy cz cA cB cC cD cE cF cG cH cI cJ cK cL cM cN cO cP cQ cR cS cT cU cV cW cX cY cZ d0 d2 d3 d4 d5 d6 d7 d8 d9 da db dc dd de df dg dh di dj dk dl dm dn dp dq dr ds dt du dv dw dx dy dz dA dB dC dD dE dF dG dH dI dJ dK dL dM dN dO dP dQ dR dS dT dU dV dW dX dY dZ:Value} (hC:RndC W fn ps pA bA pc bn bc N left d most k w wr w3 vs us P oA vA oc vc i1 i2 lo m)
  (hK:∀a w,(nav [true,true,true,false,true,false,false,true,false,false,true,true,false,true,false,true] (Tryd.f15.body.getD .skip)).wp Tryd.prog (Exit.inBlock 2 (Exit.then K1 (Exit.inBlock 1 (Exit.then K2 Q)))) a w→K a w)
  (hK1:∀a w,(nav [true,true,true,false,true,false,false,true,false,false,true,true,true] (Tryd.f15.body.getD .skip)).wp Tryd.prog (Exit.inBlock 1 (Exit.then K2 Q)) a w→K1 a w) (hK2:∀a w,(nav [true,true,true,false,true,false,false,true,true] (Tryd.f15.body.getD .skip)).wp Tryd.prog Q a w→K2 a w)
  (HQQ:Hid (∀(e0 e1 e2 e3 e4 e5 e6 e7 e8 e9 ea eb ec ed ee ef eg eh ei ej ek el em en eo ep eq er es et eu ev ew ex ey ez eA eB eC eD eE eF eG eH eI eJ eK eL eM eN eO eP eQ eR eS eT eU eV eW eX eY eZ f3 f4 f5 f6 f7 f8 f9 fa fb fd fe ff fg fh fi fj fk fm fp fq fr fs ft fu fv fw fy fz fB fC fD fE fF fG fH fI fJ fK fL fM fN fO fP fQ fR fS fT fU fV fW fX fY fZ g0 g1 g2 g3 g4 g5 g6 g7 g8 g9 ga gc gd ge gf gg gh gi gj gk gl gm gn gp gq gs gt gu gv gw gx gy gz gA gB gC gD gE gF gG gH gI gJ gK gL gM gN gO gP gQ gR gS gT gU gV gW gX gY gZ h0 h2 h3 h5 h6 h8 h9 ha hc he hf hg hh hj ho hp hq hr hs ht hu hv hw hx hy hz hA hB hD hE hG hH hJ hL hM hN hO hP hQ hS hT hU hV hW hX hY hZ i3 i6 i7 i9 vv vo vn:Value) (w':World),BkL w W ps (.cells #[.string ⟨fn.toArray⟩,.slice pA ps.length pc,.slice bA bn bc] 58 (0,0)) d left most vs vv vo vn w'→(intOf vn).toNat<k→Q .normal {tmps:=#[.pointer (some ⟨W.g,0,none⟩),.agg #[.string ⟨fn.toArray⟩,.slice pA ps.length pc,.slice bA bn bc],vv,.int .i64 (d:Int),.int .i64 (most:Int),u5,.pointer (some ⟨w.heap.size,0,none⟩),u7,u8,u9,a0,vo,vn,e0,e1,e2,e3,a3,a4,a5,a6,a7,a8,a9,aa,ab,ac,e4,e5,e6,e7,e8,e9,ea,eb,ec,ed,ee,ef,eg,eh,ei,ej,ek,el,em,en,eo,ep,eq,er,es,et,eu,ev,ew,ex,ey,ez,eA,eB,eC,eD,eE,eF,eG,eH,eI,eJ,eK,eL,eM,eN,eO,eP,eQ,eR,eS,eT,eU,eV,eW,eX,eY,eZ,f3,f4,f5,f6,f7,f8,f9,fa,fb,fd,fe,ff,fg,fh,fi,fj,fk,fm,fp,fq,fr,fs,ft,fu,fv,fw,fy,fz,fB,fC,fD,fE,fF,fG,fH,fI,fJ,fK,fL,fM,fN,fO,fP,fQ,fR,fS,fT,fU,fV,fW,fX,fY,fZ,g0,g1,g2,g3,g4,g5,g6,g7,g8,g9,ga,gc,gd,ge,gf,gg,gh,gi,gj,gk,gl,gm,gn,gp,gq,gs,gt,gu,gv,gw,gx,gy,gz,gA,gB,gC,gD,gE,gF,gG,gH,gI,gJ,gK,gL,gM,gN,gO,gP,gQ,gR,gS,gT,gU,gV,gW,gX,gY,gZ,h0,h2,h3,h5,h6,h8,h9,ha,hc,he,hf,hg,hh,hj,ho,hp,hq,hr,hs,ht,hu,hv,hw,hx,hy,hz,hA,hB,hD,hE,hG,hH,hJ,hL,hM,hN,hO,hP,hQ,hS,hT,hU,hV,hW,hX,hY,hZ,i3,i6,i7,i9,dZ],defers:=[]} w'))
  (e11:m=11∧0<d) :
  (nav [true,true,true,false,true,false,false,true,false,false,true,true,false,true,false,false] (Tryd.f15.body.getD .skip)).wp Tryd.prog (Exit.then K (Exit.inBlock 2 (Exit.then K1 (Exit.inBlock 1 (Exit.then K2 Q))))) {tmps:=#[.pointer (some ⟨W.g,0,none⟩),.agg #[.string ⟨fn.toArray⟩,.slice pA ps.length pc,.slice bA bn bc],.slice vA us.length vc,.int .i64 (d:Int),.int .i64 (most:Int),u5,.pointer (some ⟨w.heap.size,0,none⟩),u7,u8,u9,a0,.slice oA P.length oc,.int .i64 (k:Int),.pointer (some ⟨wr.heap.size,0,none⟩),.int .i64 (m:Int),a1,a2,a3,a4,a5,a6,a7,a8,a9,aa,ab,ac,ad,ae,af,ag,ah,ai,aj,ak,al,am,an,ao,ap,aq,ar,au,av,aw,ax,ay,az,aA,aB,aC,aD,aE,aF,aG,aH,aI,aJ,aK,aL,aM,aN,aO,aP,aQ,aR,aS,aT,aU,aV,aW,aX,aY,aZ,b0,b1,b2,b3,b4,b5,b6,b7,b8,b9,ba,bb,bd,be,bf,bg,bh,bi,bj,bk,bl,bm,bo,bp,bq,br,bs,bt,bu,bv,bw,bx,bz,bB,bC,bD,bE,bG,bH,bI,bJ,bK,bL,bM,bN,bO,bP,bQ,bR,bS,bU,bV,bW,bX,bY,bZ,c0,c1,c4,c5,c6,c7,c8,c9,ca,cb,cc,cd,ce,cf,cg,ch,ci,cj,ck,cl,cm,cn,co,cp,cq,cr,ct,cu,cv,cw,cx,cy,cz,cA,cB,cC,cD,cE,cF,cG,cH,cI,cJ,cK,cL,cM,cN,cO,cP,cQ,cR,cS,cT,cU,cV,cW,cX,cY,cZ,d0,d2,d3,d4,d5,d6,d7,d8,d9,da,db,dc,dd,de,df,dg,dh,di,dj,dk,dl,dm,dn,dp,dq,dr,ds,dt,du,dv,dw,dx,dy,dz,dA,dB,dC,dD,dE,dF,dG,dH,dI,dJ,dK,dL,dM,dN,dO,dP,dQ,dR,dS,dT,dU,dV,dW,dX,dY,dZ],defers:=[]} w3:=by
 obtain⟨hps,hl,hd,hm,hn,hql,hgl,hll,hgl',hwr,hk,hk0,hun,hlo,hPl,hm14,HP,IH3,IH2,HBL,HS,HF3,HT3,HW3,HNq,HNg,HPm,f0,f1,f2⟩:=hC
 have hg0:=hgl
 have hq0:=hql
 obtain⟨i0,hi,hz0,hz1,hz2⟩:=info_parts Tryd.infoStr
 obtain⟨iS,hiS,hs0,hs1,hs2⟩:=info_parts Tryd.infoSt
 dsimp only[nav,Tryd.f15,Option.getD] at hK hK1 hK2 ⊢
 have h4:¬m<4:=by omega
 have t4:¬((m:Nat):Int)<4:=by omega
 have h7:¬m<7:=by omega
 have t7:¬((m:Nat):Int)<7:=by omega
 obtain⟨rfl,hdp⟩:=e11
 have hTq:wr.heap.size≠W.q:=by omega
 have hTg:wr.heap.size≠W.g:=by omega
 have hgT:W.g≠wr.heap.size:=by omega
 have hz3:=lt_of_block HT3.out
 have HW3d:Hid (WrM w3.drew W i2 lo):=HW3.out.keep fun _ _=>rfl
 have HNd:Hid (StrN w3.drew W.q vA us):=HNq.out
 have HT3d:Hid (w3.drew.heap[wr.heap.size]?=_):=HT3.out
 have HF3d:Hid (Fr W.g W.q wr w3.drew):=⟨HF3.out.os,HF3.out.tape,HF3.out.output,HF3.out.size,HF3.out.block⟩
 have hzd:w3.drew.heap.size=w3.heap.size:=rfl
 have HFC:Hid (∀w',Fr W.g W.q wr w'→w'.cell? ⟨w.heap.size,0,none⟩=some (.string ⟨fn.toArray⟩)∧w'.cell? ⟨w.heap.size,1,none⟩=some (.slice pA ps.length pc)∧w'.cell? ⟨w.heap.size,2,none⟩=some (.slice bA bn bc)):=fun w' hF=>zcu (HS.out.func hF)
 have hfT:w.heap.size≠wr.heap.size:=by have:=HS.out.sz;omega
 obtain⟨d1,hd1⟩:∃d',d=d'+1:=⟨d-1,by omega⟩
 have hdd:(d:Int)-1=(d1:Int):=by omega
 have hwd:IntKind.i64.wrap ((d:Int)-1)=(d1:Int):=(IntWalk.i64_in _ (by omega)).trans (by omega)
 have td:(0:Int)<(d:Int):=by omega
 have hwd1:IntKind.i64.wrap (d1:Int)=(d1:Int):=IntWalk.i64_in _ (by omega)
 have HD1:=Lib.hid hd1
 clear hd1
 clear t4 h4 hz0 hz1 hz2 hi f0 f1 f2
 obtain⟨f0,f1,f2⟩:=HFC.out w3.drew HF3d.out
 go_wp2_with fail
 go_region_held3 (fun w'=>w'.cell? ⟨w.heap.size,0,none⟩=some (.string ⟨fn.toArray⟩)∧w'.cell? ⟨w.heap.size,1,none⟩=some (.slice pA ps.length pc)∧w'.cell? ⟨w.heap.size,2,none⟩=some (.slice bA bn bc))
  (refine⟨?_,?_,?_⟩<;>repeat (first|with_reducible assumption|with_reducible refine za6 _ ?_|with_reducible refine za3 hfT ?_))
  (first
   | (go_simp;go_at_call 29;refine(zc8 _ W i2 lo us _ vc HW3d.out HNd.out (by omega)).mono ?_;rintro e w5 ⟨f,E,i5,rfl,hR,hI,hW5,hG5⟩;obtain⟨fo,fx,fname,fA,fl,fc⟩:=f;obtain⟨hF5,hT5,-,-,-,-,hz5⟩:=zez HF3d.out hG5 HT3d.out hTq;have HF5:=Lib.hid hF5;have HT5:=Lib.hid hT5;have HM5:=Lib.hid hI;have HW5:=Lib.hid hW5;have HR5:=Lib.hid hR;obtain⟨u0,u1,u2⟩:=HFC.out w5 hF5;have HN5:=Lib.hid (HS.out.names hF5);have HP5:=Lib.hid (HS.out.params hF5 HP.out);have hw3z:w3.heap.size≤w5.heap.size:=hz5;clear hR hI hW5 hG5 hF5 hT5;dsimp only[EF.val])
   | (go_simp;go_at_call 15;refine(IH3.out _ i5 lo us _ vc d1 _ (by omega) (by omega) (by first|exact hdd|exact hwd|exact hwd1|rfl) HW5.out HN5.out.1 HN5.out.2 (by omega) HP5.out).mono ?_;rintro e w4 ⟨l2,P2,A2,c2,i4,lo2,us2,-,rfl,hB2,hM2,-,hW4,hF45⟩;obtain⟨hF4,hT4,⟨s0,s1,s2,s3,s4,s5,s6,s7,s8,s9,s10⟩,sf,hTw4,hTw5,hz4⟩:=zjj HF5.out hF45 HT5.out hTg hTq;have HF4:=Lib.hid hF4;have HT4:=Lib.hid hT4;have HW4:=Lib.hid hW4;have HB2:=Lib.hid hB2;have HO2:=Lib.hid hM2;have HM4:=Lib.hid (HM5.out.keep fun b hb hl=>hF45.block b hl (by omega) (by omega));have hTw6:=Ne.symm hTw5;have hle2:=hB2.le;have hs45:=hF45.size;obtain⟨v0,v1,v2⟩:=HFC.out w4 hF4;clear hB2 hM2 hW4 hF45 hF4 hT4;dsimp only))
 have HQ:=Lib.hid (((((((PutAt.refl (wr.heap.size) w4).set 0 (.int .i64 7)).set 2 (.int .i64 fo)).set 3 (.int .i64 fx)).set 4 (.string ⟨fname.toArray⟩)).set 5 (.slice fA fl fc)).set 9 (.slice A2 l2.length c2))
 have HFk:=Lib.hid (HF4.out.putAt HQ.out (Nat.le_refl _))
 have HBk:=Lib.hid (HS.out.go HFk.out (HS.out.wmk HFk.out HW4.out HQ.out (Nat.le_refl _)))
 have HTk:Hid (((((((w4.setCell ⟨wr.heap.size,0,none⟩ (.int .i64 7)).setCell ⟨wr.heap.size,2,none⟩ (.int .i64 fo)).setCell ⟨wr.heap.size,3,none⟩ (.int .i64 fx)).setCell ⟨wr.heap.size,4,none⟩ (.string ⟨fname.toArray⟩)).setCell ⟨wr.heap.size,5,none⟩ (.slice fA fl fc)).setCell ⟨wr.heap.size,9,none⟩ (.slice A2 l2.length c2)).heap[wr.heap.size]?=some (.cells #[.int .i64 7,.string ⟨#[]⟩,.int .i64 fo,.int .i64 fx,.string ⟨fname.toArray⟩,.slice fA fl fc,.string ⟨#[]⟩,.slice none 0 0,.slice none 0 0,.slice A2 l2.length c2,.slice none 0 0] 81 (0,0))):=(za8 9 (.slice A2 l2.length c2) (za8 5 (.slice fA fl fc) (za8 4 (.string ⟨fname.toArray⟩) (za8 3 (.int .i64 fx) (za8 2 (.int .i64 fo) (za8 0 (.int .i64 7) HT4.out))))))
 have HMk:Hid (ExM ((((((w4.setCell ⟨wr.heap.size,0,none⟩ (.int .i64 7)).setCell ⟨wr.heap.size,2,none⟩ (.int .i64 fo)).setCell ⟨wr.heap.size,3,none⟩ (.int .i64 fx)).setCell ⟨wr.heap.size,4,none⟩ (.string ⟨fname.toArray⟩)).setCell ⟨wr.heap.size,5,none⟩ (.slice fA fl fc)).setCell ⟨wr.heap.size,9,none⟩ (.slice A2 l2.length c2)) (wr.heap.size+1≤·) E ⟨fo,fx,fname,fA,fl,fc⟩):=(HM4.out.keep fun b hb _=>HQ.out.2.2.2.2 b (by omega)).more fun b hb=>by omega
 have HSk:Hid (StsM ((((((w4.setCell ⟨wr.heap.size,0,none⟩ (.int .i64 7)).setCell ⟨wr.heap.size,2,none⟩ (.int .i64 fo)).setCell ⟨wr.heap.size,3,none⟩ (.int .i64 fx)).setCell ⟨wr.heap.size,4,none⟩ (.string ⟨fname.toArray⟩)).setCell ⟨wr.heap.size,5,none⟩ (.slice fA fl fc)).setCell ⟨wr.heap.size,9,none⟩ (.slice A2 l2.length c2)) (wr.heap.size+1≤·) l2 A2):=HO2.out.putAt' HQ.out (by omega) (by omega)
 have hsk:wr.heap.size+1≤((((((w4.setCell ⟨wr.heap.size,0,none⟩ (.int .i64 7)).setCell ⟨wr.heap.size,2,none⟩ (.int .i64 fo)).setCell ⟨wr.heap.size,3,none⟩ (.int .i64 fx)).setCell ⟨wr.heap.size,4,none⟩ (.string ⟨fname.toArray⟩)).setCell ⟨wr.heap.size,5,none⟩ (.slice fA fl fc)).setCell ⟨wr.heap.size,9,none⟩ (.slice A2 l2.length c2)).heap.size:=by have:=lt_of_block HTk.out;omega
 clear HM4 HO2 HQ HT4 HW4 HF4 s0 s1 s2 s3 s4 s5 s6 s7 s8 s9 s10 sf v0 v1 v2 hTw4 hTw5 hTw6 hz4
 generalize ((((((w4.setCell ⟨wr.heap.size,0,none⟩ (.int .i64 7)).setCell ⟨wr.heap.size,2,none⟩ (.int .i64 fo)).setCell ⟨wr.heap.size,3,none⟩ (.int .i64 fx)).setCell ⟨wr.heap.size,4,none⟩ (.string ⟨fname.toArray⟩)).setCell ⟨wr.heap.size,5,none⟩ (.slice fA fl fc)).setCell ⟨wr.heap.size,9,none⟩ (.slice A2 l2.length c2))=wk at *
 have HWk:=Lib.hid HBk.out.wm
 obtain⟨q0,-⟩:=HWk.out.cells
 go_wp2_with fail
 refine(zaq wk W.q W.xs i4 2 HWk.out.src (by omega) (by omega)).mono ?_
 rintro e w7 ⟨rfl,hS7,hG7⟩
 (try dsimp only)
 rw[show (2:Int).toNat=2 from rfl]
 have HW7:=Lib.hid (HWk.out.next hS7 hG7)
 obtain⟨hF7,hT7,⟨s0,s1,s2,s3,s4,s5,s6,s7,s8,s9,s10⟩,sf,hTw4,hTw5,hz7⟩:=zez HFk.out hG7 HTk.out hTq
 have HF7:=Lib.hid hF7
 have HT7:=Lib.hid hT7
 have HM7:Hid (ExM w7 (wr.heap.size+1≤·) E ⟨fo,fx,fname,fA,fl,fc⟩):=HMk.out.gr hG7 (by omega)
 have HS7:Hid (StsM w7 (wr.heap.size+1≤·) l2 A2):=HSk.out.gr hG7 (by omega)
 have HB7:=Lib.hid (HBk.out.go (Fr.of_grown hG7) HW7.out)
 clear hS7 hG7 hF7 hT7 HMk HSk HBk HWk HTk HFk q0
 by_cases h1:zab W.xs i4 2=1
 ·
  have t1:=bT (show ((zab W.xs i4 2:Nat):Int)=1 by omega)
  clear h1
  obtain⟨f0,f1,f2⟩:=HFC.out w7 HF7.out
  have HN7:=Lib.hid (HS.out.names HF7.out)
  have HP7:=Lib.hid (HS.out.params HF7.out HP.out)
  go_wp2_with fail
  refine(IH3.out w7 _ lo2 us vA vc d1 _ (by omega) (by omega) (by first|exact hdd|exact hwd|exact hwd1|rfl) HW7.out HN7.out.1 HN7.out.2 (by omega) HP7.out).mono ?_
  rintro e w8 ⟨l3,P3,A3,c3,i8,lo3,us3,-,rfl,hB3,hM3,-,hW8,hF78⟩
  (try dsimp only)
  clear s0 s1 s2 s3 s4 s5 s6 s7 s8 s9 s10 sf hTw4 hTw5
  obtain⟨hF8,hT8,⟨s0,s1,s2,s3,s4,s5,s6,s7,s8,s9,s10⟩,sf,hTw4,hTw5,hz8⟩:=zjj HF7.out hF78 HT7.out hTg hTq
  have HF8:=Lib.hid hF8
  have HW8:=Lib.hid hW8
  have HB3:=Lib.hid hB3
  have hle3:=hB3.le
  have HM8:=Lib.hid (HM7.out.keep (w':=w8) fun b hb hl=>hF78.block b hl (by omega) (by omega))
  have HS8:=Lib.hid (HS7.out.keep (w':=w8) fun b hb hl=>hF78.block b hl (by omega) (by omega))
  have HS9:=Lib.hid hM3
  have HFr:=Lib.hid hF78
  clear hB3 hM3 hW8 hF78 hF8 hT8 HM7 HS7
  have HQ:=Lib.hid ((PutAt.refl (wr.heap.size) w8).set 10 (.slice A3 l3.length c3))
  have HFk:=Lib.hid (HF8.out.putAt HQ.out (Nat.le_refl _))
  have HBk:=Lib.hid (HS.out.go HFk.out (HS.out.wmk HFk.out HW8.out HQ.out (Nat.le_refl _)))
  have HSM:Hid (StM (w8.setCell ⟨wr.heap.size,10,none⟩ (.slice A3 l3.length c3)) (wr.heap.size≤·) (St.mk 7 [] E noRf [] l2 l3) (⟨⟨fo,fx,fname,fA,fl,fc⟩,none,0,0,none,0,A2,c2,A3,c3⟩:SG)):=zbn 7 [] E noRf [] l2 l3 _ ((HM8.out.keep fun b hb _=>HQ.out.2.2.2.2 b (by omega)).more fun b hb=>by omega) rfl (ArsM.nil _ _ _) (HS8.out.putAt' HQ.out (by omega) (by omega)) (HS9.out.putAt' HQ.out (by omega) (by omega))
  have HBW:=Lib.hid (BlW.cond2 HD1.out E l2 l3 HBL.out HR5.out HB2.out HB3.out)
  have HNB:=Lib.hid (HS.out.lt)
  go_wp2_with (first|(at_builtin;refine wpList_append_lies _ rfl (.tmp 244) (.tmp 246) 56 rfl (w.heap.size+1) 81 iS _ 11 192 Tryd.underlying56 hiS hs0 hs1 hs2 rfl (by decide) (.slice oA P.length oc) P.length (stK.cs P) rfl (HBk.out.o.alloc _) ⟨w8.heap.size,0,none⟩ 1 1 [.int .i64 7,.string ⟨#[]⟩,.int .i64 fo,.int .i64 fx,.string ⟨fname.toArray⟩,.slice fA fl fc,.string ⟨#[]⟩,.slice none 0 0,.slice none 0 0,.slice A2 l2.length c2,.slice A3 l3.length c3] rfl rfl (zam (w8.setCell ⟨wr.heap.size,10,none⟩ (.slice A3 l3.length c3)) _ (by simp[World.setCell]) _ _) (stK.one ((St.mk 7 [] E noRf [] l2 l3),(⟨⟨fo,fx,fname,fA,fl,fc⟩,none,0,0,none,0,A2,c2,A3,c3⟩:SG))) (by omega) (by unfold maxLen;omega) (by omega) (by simp[World.setCell];omega) _ rfl ?_))
  intro gb cap7 w7 hown hgrow hlies hgl7
  have HB7:=Lib.hid (HBk.out.snoc (a:=((St.mk 7 [] E noRf [] l2 l3),(⟨⟨fo,fx,fname,fA,fl,fc⟩,none,0,0,none,0,A2,c2,A3,c3⟩:SG))) HSM.out HNB.out HS.out.sz hown hgrow (zai hlies (by simp)))
  clear hown hgrow hlies hgl7 HSM
  go_wp2_with fail
  apply HQQ.out
  ·
   exact⟨k-1,P++[((St.mk 7 [] E noRf [] l2 l3),(⟨⟨fo,fx,fname,fA,fl,fc⟩,none,0,0,none,0,A2,c2,A3,c3⟩:SG))],us,i8,lo3,by go_num,by omega,by omega,by omega,by rw[List.map_append];exact HBW.out,HB7.out⟩
  ·
   simp[intOf];omega
 ·
  have t1:=bF (show ((zab W.xs i4 2:Nat):Int)≠1 by omega)
  clear h1
  have HSM:Hid (StM w7 (wr.heap.size≤·) (St.mk 7 [] E noRf [] l2 []) (⟨⟨fo,fx,fname,fA,fl,fc⟩,none,0,0,none,0,A2,c2,none,0⟩:SG)):=zbn 7 [] E noRf [] l2 [] _ (HM7.out.more fun b hb=>by omega) rfl (ArsM.nil _ _ _) (HS7.out.putAt' (PutAt.refl wr.heap.size _) (by omega) (by omega)) (StsM.nil _ _ _)
  have HBW:=Lib.hid (BlW.cond2 HD1.out E l2 [] HBL.out HR5.out HB2.out (BlW.nil _ _ _))
  have HNB:=Lib.hid (HS.out.lt)
  go_wp2_with (first|(at_builtin;refine wpList_append_lies _ rfl (.tmp 244) (.tmp 246) 56 rfl (w.heap.size+1) 81 iS _ 11 192 Tryd.underlying56 hiS hs0 hs1 hs2 rfl (by decide) (.slice oA P.length oc) P.length (stK.cs P) rfl (HB7.out.o.alloc _) ⟨w7.heap.size,0,none⟩ 1 1 [.int .i64 7,.string ⟨#[]⟩,.int .i64 fo,.int .i64 fx,.string ⟨fname.toArray⟩,.slice fA fl fc,.string ⟨#[]⟩,.slice none 0 0,.slice none 0 0,.slice A2 l2.length c2,.slice none 0 0] rfl rfl (zam w7 _ rfl _ _) (stK.one ((St.mk 7 [] E noRf [] l2 []),(⟨⟨fo,fx,fname,fA,fl,fc⟩,none,0,0,none,0,A2,c2,none,0⟩:SG))) (by omega) (by unfold maxLen;omega) (by omega) (by simp;omega) _ rfl ?_))
  intro gb cap7 w7 hown hgrow hlies hgl7
  have HB7:=Lib.hid (HB7.out.snoc (a:=((St.mk 7 [] E noRf [] l2 []),(⟨⟨fo,fx,fname,fA,fl,fc⟩,none,0,0,none,0,A2,c2,none,0⟩:SG))) HSM.out HNB.out HS.out.sz hown hgrow (zai hlies (by simp)))
  clear hown hgrow hlies hgl7 HSM
  go_wp2_with fail
  apply HQQ.out
  ·
   exact⟨k-1,P++[((St.mk 7 [] E noRf [] l2 []),(⟨⟨fo,fx,fname,fA,fl,fc⟩,none,0,0,none,0,A2,c2,none,0⟩:SG))],us,(zaa W.xs i4),lo2,by go_num,by omega,by omega,by omega,by rw[List.map_append];exact HBW.out,HB7.out⟩
  ·
   simp[intOf];omega
end Go.Proofs.YtlnbmmgbfgmboaaDoor
