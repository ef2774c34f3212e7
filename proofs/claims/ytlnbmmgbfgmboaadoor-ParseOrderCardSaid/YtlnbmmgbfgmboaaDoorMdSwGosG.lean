import Derived.Test.YtlnbmmgbfgmboaaDoorQ9
import Derived.Deep.CutRange
namespace Go.Proofs.YtlnbmmgbfgmboaaDoor
open Go.RowKit
set_option maxRecDepth 100000 in
set_option maxHeartbeats 8000000 in
theorem sw_gos {W:WP} {fn:Nm} {ps:List Pm} {pA bA:Option Addr} {pc bn bc N left d most k:Nat} {w wr w3:World} {vs us:List Nm} {P:List (St × SG)} {oA vA:Option Addr} {oc vc i1 i2 lo m:Nat} {Q:Exit→Act→World→Prop} {K K1 K2:Act→World→Prop} {u5 u7 u8 u9 a0 a1 a2 a3 a4 a5 a6 a7 a8 a9 aa ab ac ad ae af ag ah ai aj ak al am an ao ap aq ar au av aw ax ay az aA aB aC aD aE aF aG aH aI aJ aK aL aM aN aO aP aQ aR aS aT aU aV aW aX aY aZ b0 b1 b2 b3 b4 b5 b6 b7 b8 b9 ba bb bd be bf bg bh bi bj bk bl bm bo bp bq br bs bt bu bv bw bx bz bB bC bD bE bG bH bI bJ bK bL bM bN bO bP bQ bR bS bT bU bV bW bX bY bZ c0 c1 c2 c3 c5 c6 c7 c8 c9 ca cb cc cd ce cf cg ch ci cj ck cl cm cn co cp cq cr ct cu cv cw cx cy cz cA cB cC cD cE cG cH cI cJ cK cL cM cN cO cP cQ cR cS cT cU cV cW cX cY cZ d0 d1 d2 d3 d4 d5 d6 d7 d8 d9 da db dc dd de df dg dh di dj dk dl dm dn dp dq dr ds dt du dv dw dx dy dz dA dB dC dD dE dF dG dH dI dJ dK dL dM dN dO dP dQ dR dS dT dU dV dW dX:Value} (hC:RndC W fn ps pA bA pc bn bc N left d most k w wr w3 vs us P oA vA oc vc i1 i2 lo m)
  (hK:∀a w,(nav [true,true,true,false,true,false,false,true,false,false,true,true,false,true,false,true] (Tryd.f15.body.getD .skip)).wp Tryd.prog (Exit.inBlock 2 (Exit.then K1 (Exit.inBlock 1 (Exit.then K2 Q)))) a w→K a w)
  (hK1:∀a w,(nav [true,true,true,false,true,false,false,true,false,false,true,true,true] (Tryd.f15.body.getD .skip)).wp Tryd.prog (Exit.inBlock 1 (Exit.then K2 Q)) a w→K1 a w) (hK2:∀a w,(nav [true,true,true,false,true,false,false,true,true] (Tryd.f15.body.getD .skip)).wp Tryd.prog Q a w→K2 a w)
  (HQQ:Hid (∀(dY dZ e0 e1 e2 e3 e4 e5 e6 e7 e8 e9 ea eb ec ed ee ef eg eh ei ej ek el em en eo ep eq er es et eu ev ew ex ey ez eA eB eC eD eE eF eG eH eI eJ eK eL eM eN eO eP eQ eR eS eT eU eV eW eX eY eZ f3 f4 f5 f6 f7 f8 f9 fa fb fc fd fe ff fg fh fi fj fk fm fo fp fq fr ft fu fv fw fx fy fz fA fB fC fD fE fF fG fH fI fJ fK fL fM fN fO fP fQ fR fS fT fU fV fW fX fY fZ g0 g1 g2 g3 g4 g5 g6 g7 g8 g9 ga gd ge gf gg gh gi gk gl gm gn gp gq gr gs gt gu gv gw gx gy gz gC gD gE gF gG gH gI gJ gK gL gM gN gO gP gQ gR gS gT gU gV gW gX gY gZ h0 h3 h5 h6 h8 h9 ha hc he hf hg hh hj ho hp hq hr hs ht hu hv hw hx hy hz hA hB hD hE hG hH hI hJ hL hM hN hO hP hQ hR hS hT hU hV hW hX hY hZ i3 vv vo vn:Value) (w':World),BkL w W ps (.cells #[.string ⟨fn.toArray⟩,.slice pA ps.length pc,.slice bA bn bc] 58 (0,0)) d left most vs vv vo vn w'→(intOf vn).toNat<k→Q .normal {tmps:=#[.pointer (some ⟨W.g,0,none⟩),.agg #[.string ⟨fn.toArray⟩,.slice pA ps.length pc,.slice bA bn bc],vv,.int .i64 (d:Int),.int .i64 (most:Int),u5,.pointer (some ⟨w.heap.size,0,none⟩),u7,u8,u9,a0,vo,vn,dY,dZ,e0,e1,a3,a4,a5,a6,a7,a8,a9,aa,ab,ac,e2,e3,e4,e5,e6,e7,e8,e9,ea,eb,ec,ed,ee,ef,eg,eh,ei,ej,ek,el,em,en,eo,ep,eq,er,es,et,eu,ev,ew,ex,ey,ez,eA,eB,eC,eD,eE,eF,eG,eH,eI,eJ,eK,eL,eM,eN,eO,eP,eQ,eR,eS,eT,eU,eV,eW,eX,eY,eZ,f3,f4,f5,f6,f7,f8,f9,fa,fb,fc,fd,fe,ff,fg,fh,fi,fj,fk,fm,fo,fp,fq,fr,ft,fu,fv,fw,fx,fy,fz,fA,fB,fC,fD,fE,fF,fG,fH,fI,fJ,fK,fL,fM,fN,fO,fP,fQ,fR,fS,fT,fU,fV,fW,fX,fY,fZ,g0,g1,g2,g3,g4,g5,g6,g7,g8,g9,ga,gd,ge,gf,gg,gh,gi,gk,gl,gm,gn,gp,gq,gr,gs,gt,gu,gv,gw,gx,gy,gz,gC,gD,gE,gF,gG,gH,gI,gJ,gK,gL,gM,gN,gO,gP,gQ,gR,gS,gT,gU,gV,gW,gX,gY,gZ,h0,h3,h5,h6,h8,h9,ha,hc,he,hf,hg,hh,hj,ho,hp,hq,hr,hs,ht,hu,hv,hw,hx,hy,hz,hA,hB,hD,hE,hG,hH,hI,hJ,hL,hM,hN,hO,hP,hQ,hR,hS,hT,hU,hV,hW,hX,hY,hZ,i3,dX],defers:=[]} w'))
  (e10:m=10) :
  (nav [true,true,true,false,true,false,false,true,false,false,true,true,false,true,false,false] (Tryd.f15.body.getD .skip)).wp Tryd.prog (Exit.then K (Exit.inBlock 2 (Exit.then K1 (Exit.inBlock 1 (Exit.then K2 Q))))) {tmps:=#[.pointer (some ⟨W.g,0,none⟩),.agg #[.string ⟨fn.toArray⟩,.slice pA ps.length pc,.slice bA bn bc],.slice vA us.length vc,.int .i64 (d:Int),.int .i64 (most:Int),u5,.pointer (some ⟨w.heap.size,0,none⟩),u7,u8,u9,a0,.slice oA P.length oc,.int .i64 (k:Int),.pointer (some ⟨wr.heap.size,0,none⟩),.int .i64 (m:Int),a1,a2,a3,a4,a5,a6,a7,a8,a9,aa,ab,ac,ad,ae,af,ag,ah,ai,aj,ak,al,am,an,ao,ap,aq,ar,au,av,aw,ax,ay,az,aA,aB,aC,aD,aE,aF,aG,aH,aI,aJ,aK,aL,aM,aN,aO,aP,aQ,aR,aS,aT,aU,aV,aW,aX,aY,aZ,b0,b1,b2,b3,b4,b5,b6,b7,b8,b9,ba,bb,bd,be,bf,bg,bh,bi,bj,bk,bl,bm,bo,bp,bq,br,bs,bt,bu,bv,bw,bx,bz,bB,bC,bD,bE,bG,bH,bI,bJ,bK,bL,bM,bN,bO,bP,bQ,bR,bS,bT,bU,bV,bW,bX,bY,bZ,c0,c1,c2,c3,c5,c6,c7,c8,c9,ca,cb,cc,cd,ce,cf,cg,ch,ci,cj,ck,cl,cm,cn,co,cp,cq,cr,ct,cu,cv,cw,cx,cy,cz,cA,cB,cC,cD,cE,cG,cH,cI,cJ,cK,cL,cM,cN,cO,cP,cQ,cR,cS,cT,cU,cV,cW,cX,cY,cZ,d0,d1,d2,d3,d4,d5,d6,d7,d8,d9,da,db,dc,dd,de,df,dg,dh,di,dj,dk,dl,dm,dn,dp,dq,dr,ds,dt,du,dv,dw,dx,dy,dz,dA,dB,dC,dD,dE,dF,dG,dH,dI,dJ,dK,dL,dM,dN,dO,dP,dQ,dR,dS,dT,dU,dV,dW,dX],defers:=[]} w3:=by
 obtain⟨hps,hl,hd,hm,hn,hql,hgl,hll,hgl',hwr,hk,hk0,hun,hlo,hPl,hm14,HP,IH3,IH2,HBL,HS,HF3,HT3,HW3,HNq,HNg,HPm,f0,f1,f2⟩:=hC
 have hg0:=hgl
 have hq0:=hql
 obtain⟨i0,hi,hz0,hz1,hz2⟩:=info_parts Tryd.infoStr
 obtain⟨iS,hiS,hs0,hs1,hs2⟩:=info_parts Tryd.infoSt
 dsimp only[nav,Tryd.f15,Option.getD] at hK hK1 hK2 ⊢
 have h4:¬m<4:=by omega
 have t4:¬((m:Nat):Int)<4:=by omega
 have h7:¬m<7:=by omega
 have t7:¬((m:Nat):Int)<7:=by omega
 subst e10
 have hTq:wr.heap.size≠W.q:=by omega
 have hTg:wr.heap.size≠W.g:=by omega
 have hgT:W.g≠wr.heap.size:=by omega
 have hfl:=HS.out.wm.fl
 have hjl:zab W.xs i2 W.fs.length<W.fs.length:=zau W.xs i2 W.fs.length (by omega)
 obtain⟨bF,gA,gc,gB,gbn,gbc,hAF,hbg,hbq,n0,n1,n2,hPg⟩:=HS.out.wm.fn (zab W.xs i2 W.fs.length) hjl
 have hbl:bF<wr.heap.size:=World.block_lt_of_cell? _ _ n0
 have HFC:Hid (∀w',Fr W.g W.q wr w'→w'.cell? ⟨bF,zab W.xs i2 W.fs.length*3,none⟩=some (.string ⟨W.fs[zab W.xs i2 W.fs.length].name.toArray⟩)∧w'.cell? ⟨bF,zab W.xs i2 W.fs.length*3+1,none⟩=some (.slice gA W.fs[zab W.xs i2 W.fs.length].ps.length gc)∧w'.cell? ⟨bF,zab W.xs i2 W.fs.length*3+2,none⟩=some (.slice gB gbn gbc)∧PmsM w' (fun b=>b≠W.g∧b≠W.q) W.fs[zab W.xs i2 W.fs.length].ps gA):=fun w' hF=>⟨(World.cell?_of_block (a:=⟨bF,_,none⟩) (hF.block bF hbl hbg hbq)).trans n0,(World.cell?_of_block (a:=⟨bF,_,none⟩) (hF.block bF hbl hbg hbq)).trans n1,(World.cell?_of_block (a:=⟨bF,_,none⟩) (hF.block bF hbl hbg hbq)).trans n2,hPg.keep fun b hb hl=>hF.block b hl hb.1 hb.2⟩
 have HGL:Hid (W.fs[zab W.xs i2 W.fs.length].ps.length≤2):=(HS.out.wm.fs _ hjl).1
 have HCW:Hid (∀args,args.length=W.fs[zab W.xs i2 W.fs.length].ps.length→(∀j (h1:j<W.fs[zab W.xs i2 W.fs.length].ps.length) (h2:j<args.length),ArW W.ms ps us W.fs[zab W.xs i2 W.fs.length].ps[j] args[j])→BlW W.ms W.fs ps d vs left lo (P.map (·.1)++[.mk 4 W.fs[zab W.xs i2 W.fs.length].name noEx noRf args [] []]) us):=fun args h1 h2=>BlW.call 4 _ args HBL.out (by omega) hjl h1 h2
 have hbT:bF≠wr.heap.size:=by omega
 have HQ0:=Lib.hid (((PutAt.refl wr.heap.size w3).set 0 (.int .i64 3)).set 0 (.int .i64 4))
 have HFn:=Lib.hid (HF3.out.putAt HQ0.out (Nat.le_refl _))
 have HWn:=Lib.hid (HS.out.wmk HFn.out HW3.out HQ0.out (Nat.le_refl _))
 have HTn:Hid (((w3.setCell ⟨wr.heap.size,0,none⟩ (.int .i64 3)).setCell ⟨wr.heap.size,0,none⟩ (.int .i64 4)).heap[wr.heap.size]?=some (.cells #[.int .i64 4,.string ⟨#[]⟩,.int .i64 0,.int .i64 0,.string ⟨#[]⟩,.slice none 0 0,.string ⟨#[]⟩,.slice none 0 0,.slice none 0 0,.slice none 0 0,.slice none 0 0] 81 (0,0))):=(za8 0 (.int .i64 4) (za8 0 (.int .i64 3) HT3.out))
 have hzn:wr.heap.size<((w3.setCell ⟨wr.heap.size,0,none⟩ (.int .i64 3)).setCell ⟨wr.heap.size,0,none⟩ (.int .i64 4)).heap.size:=lt_of_block HTn.out
 obtain⟨s0,-,-,-,-,-,-,-,-,-,-,sf,-⟩:=zah HT3.out
 clear n0 n1 n2 hPg f0 f1 f2 t4 h4 t7 h7 hz0 hz1 hz2 hi hm14
 generalize hnj:W.fs[zab W.xs i2 W.fs.length]=gj at *
 clear hnj
 go_wp2_with fail
 generalize ((w3.setCell ⟨wr.heap.size,0,none⟩ (.int .i64 3)).setCell ⟨wr.heap.size,0,none⟩ (.int .i64 4))=wn at *
 clear s0 sf HQ0
 obtain⟨n0,n1,n2,-⟩:=HFC.out wn HFn.out
 have u0:=HWn.out.cells.1
 have u3:=HWn.out.cells.2.2.1
 rw[hAF] at u3
 have hgX:W.g≠wn.heap.size:=by have:=HWn.out.cells.2.2.2.2.2.2;omega
 have hbX:bF≠wn.heap.size:=by omega
 have hj0:(0:Int)≤(zab W.xs i2 W.fs.length:Int):=by omega
 have hj1:(zab W.xs i2 W.fs.length:Int)<(W.fs.length:Int):=by omega
 generalize hjn:zab W.xs i2 W.fs.length=jn at *
 go_region_held3 (fun w'=>w'.cell? ⟨W.g,0,none⟩=some (.pointer (some ⟨W.q,0,none⟩))∧w'.cell? ⟨W.g,3,none⟩=some (.slice (some ⟨bF,0,none⟩) W.fs.length W.cF)∧w'.cell? ⟨bF,jn*3,none⟩=some (.string ⟨gj.name.toArray⟩)∧w'.cell? ⟨bF,jn*3+1,none⟩=some (.slice gA gj.ps.length gc)∧w'.cell? ⟨bF,jn*3+2,none⟩=some (.slice gB gbn gbc))
  (refine⟨?_,?_,?_,?_,?_⟩<;>repeat (first|with_reducible assumption|with_reducible refine za6 _ ?_|with_reducible refine za5 ?_|with_reducible refine za3 hgX ?_|with_reducible refine za3 hbX ?_))
  ((go_simp;go_at_call 14;refine(zaq _ W.q W.xs i2 (W.fs.length:Int) (by with_reducible first|exact WrM.src (WrM.drew HWn.out)|exact WrM.src (WrM.drew (WrM.alloc HWn.out _))|exact WrM.src (WrM.alloc HWn.out _)|exact WrM.src HWn.out) (by omega) (by omega)).mono ?_;rintro e w5 ⟨rfl,hS5,hG5⟩;rw[Int.toNat_natCast,hjn];have HS5:=Lib.hid hS5;have hG6:wn.grownBy w5 (some W.q):=(by with_reducible first|exact zaD hG5|exact za4 (zaD hG5)|exact za4 hG5|exact hG5);have HG5:=Lib.hid hG6;(try (have hG7:(wn.alloc (.cells #[.string ⟨#[]⟩,.slice none 0 0,.slice none 0 0] 58)).drew.grownBy w5 (some W.q):=(by with_reducible exact hG5);obtain⟨hx5,x0,x1,x2,xf⟩:=new_fn hG7 HWn.out.src.lt;clear hG7;have HX5:=Lib.hid hx5;clear hx5));have HW5:=Lib.hid (HWn.out.next HS5.out HG5.out);have HF5:=Lib.hid (HFn.out.trans (Fr.of_grown HG5.out));have k0:=HW5.out.cells.1;have k3:=HW5.out.cells.2.2.1;rw[hAF] at k3;obtain⟨m0,m1,m2,-⟩:=HFC.out w5 HF5.out;have HT5:=Lib.hid ((hG6.block wr.heap.size hzn (fun e=>by injection e with e;omega)).trans HTn.out);clear hS5 hG5 hG6;dsimp only))
 all_goals
  first
   | (refine wlift (CalP W wr lo (zaa W.xs i2) 4 gj gA gB gc gbn gbc w5.heap.size) (by with_reducible exact zhd HW5.out HF5.out HT5.out) ?_;generalize w5.heap.size=X at *)
   | (refine wlift (CalP W wr lo (zaa W.xs i2) 4 gj gA gB gc gbn gbc wn.heap.size) (by with_reducible exact zhc HS.out HW5.out HF5.out HT5.out HX5.out hzn) ?_;generalize wn.heap.size=X at *)
  rintro wk ⟨hWk,hFk,hTk,hXk,hxk⟩
  clear HS5 HG5 HW5 HF5 HT5 k0 k3 m0 m1 m2 u0 u3 n0 n1 n2 hgX hbX
  have HWk:=Lib.hid hWk
  have HFk:=Lib.hid hFk
  have HTk:=Lib.hid hTk
  have HXk:=Lib.hid hXk
  have HGP:=Lib.hid (HFC.out wk hFk).2.2.2
  have HXd:Hid (wk.drew.heap[X]?=_):=hXk
  have hXl:X<wk.drew.heap.size:=lt_of_block hXk
  have hXT:X≠wr.heap.size:=by omega
  have hfT:w.heap.size≠wr.heap.size:=by have:=HS.out.sz;omega
  have HFE:Hid (∀w',Fr W.g W.q wr w'→w'.cell? ⟨w.heap.size,0,none⟩=some (.string ⟨fn.toArray⟩)∧w'.cell? ⟨w.heap.size,1,none⟩=some (.slice pA ps.length pc)∧w'.cell? ⟨w.heap.size,2,none⟩=some (.slice bA bn bc)):=fun w' hF=>zcu (HS.out.func hF)
  have HNk:=Lib.hid (HS.out.names hFk).1
  have HPk:=Lib.hid (HS.out.params hFk HP.out)
  obtain⟨x0,x1,x2⟩:=zcu hXk
  obtain⟨f0,f1,f2⟩:=zcu (HS.out.func hFk)
  have HWd:Hid (WrM wk.drew W (zaa W.xs i2) lo):=HWk.out.keep fun _ _=>rfl
  have HNd:Hid (StrN wk.drew W.q vA us):=HNk.out
  have HTd:Hid (wk.drew.heap[wr.heap.size]?=_):=HTk.out
  have HFd:Hid (Fr W.g W.q wr wk.drew):=⟨HFk.out.os,HFk.out.tape,HFk.out.output,HFk.out.size,HFk.out.block⟩
  have HPd:Hid (PmsM wk.drew (fun b=>b≠W.g∧b≠W.q) ps pA):=HPk.out
  have HGPd:Hid (PmsM wk.drew (fun b=>b≠W.g∧b≠W.q) gj.ps gA):=HGP.out
  have hzk:wr.heap.size<wk.heap.size:=lt_of_block hTk
  have hzd:wk.drew.heap.size=wk.heap.size:=rfl
  clear hWk hFk hTk hXk HWk HFk HTk HXk HNk HPk HGP
  go_wp2_with fail
  go_region_held3 (fun w'=>w'.cell? ⟨w.heap.size,0,none⟩=some (.string ⟨fn.toArray⟩)∧w'.cell? ⟨w.heap.size,1,none⟩=some (.slice pA ps.length pc)∧w'.cell? ⟨w.heap.size,2,none⟩=some (.slice bA bn bc)∧w'.cell? ⟨X,0,none⟩=some (.string ⟨gj.name.toArray⟩)∧w'.cell? ⟨X,1,none⟩=some (.slice gA gj.ps.length gc)∧w'.cell? ⟨X,2,none⟩=some (.slice gB gbn gbc))
   (refine⟨?_,?_,?_,?_,?_,?_⟩<;>repeat (first|with_reducible assumption|with_reducible refine za5 ?_|with_reducible refine za3 hfT ?_|with_reducible refine za3 hXT ?_))
   ((go_simp;go_at_call 30;refine(zfn _ W _ lo us vA vc fn ps pA bA pc bn bc gj.name gj.ps gA gB gc gbn gbc HWd.out HNd.out (by omega) HPd.out hps HGPd.out HGL.out).mono ?_;rintro e w4 ⟨l4,A4,c4,i4,rfl,hll,har,hAr,hW4,hG4⟩;obtain⟨hF4,hT4,⟨s0,s1,s2,s3,s4,s5,s6,s7,s8,s9,s10⟩,sf,hTw4,hTw5,hz4⟩:=zez HFd.out hG4 HTd.out hTq;have HF4:=Lib.hid hF4;have HT4:=Lib.hid hT4;have HW4:=Lib.hid hW4;have HA4:=Lib.hid hAr;have HCB:=Lib.hid (HCW.out l4 hll har);have v0:=HFE.out w4 hF4;obtain⟨v0,v1,v2⟩:=v0;obtain⟨y0,y1,y2⟩:=zcu ((hG4.block X hXl (fun e=>by injection e with e;omega)).trans HXd.out);clear hll har hAr hW4 hG4 hF4 hT4;dsimp only))
  all_goals
   have HQ:=Lib.hid (((PutAt.refl (wr.heap.size) w4).set 1 (.string ⟨gj.name.toArray⟩)).set 8 (.slice A4 l4.length c4))
   have HFk:=Lib.hid (HF4.out.putAt HQ.out (Nat.le_refl _))
   have HBk:=Lib.hid (HS.out.go HFk.out (HS.out.wmk HFk.out HW4.out HQ.out (Nat.le_refl _)))
   have HSM:Hid (StM ((w4.setCell ⟨wr.heap.size,1,none⟩ (.string ⟨gj.name.toArray⟩)).setCell ⟨wr.heap.size,8,none⟩ (.slice A4 l4.length c4)) (wr.heap.size≤·) (St.mk 4 gj.name noEx noRf l4 [] []) (⟨⟨0,0,[],none,0,0⟩,none,0,0,A4,c4,none,0,none,0⟩:SG)):=zbn 4 gj.name noEx noRf l4 [] [] _ (ExM.leaf _ _ _ _ _ _ _) rfl ((HA4.out.keep fun b hb _=>HQ.out.2.2.2.2 b (by omega)).more fun b hb=>by omega) (StsM.nil _ _ _) (StsM.nil _ _ _)
   have HBW:=Lib.hid (HCB.out)
   have HNB:=Lib.hid (HS.out.lt)
   go_wp2_with (first|(at_builtin;refine wpList_append_lies _ rfl (.tmp 244) (.tmp 246) 56 rfl (w.heap.size+1) 81 iS _ 11 192 Tryd.underlying56 hiS hs0 hs1 hs2 rfl (by decide) (.slice oA P.length oc) P.length (stK.cs P) rfl (HBk.out.o.alloc _) ⟨w4.heap.size,0,none⟩ 1 1 [.int .i64 4,.string ⟨gj.name.toArray⟩,.int .i64 0,.int .i64 0,.string ⟨#[]⟩,.slice none 0 0,.string ⟨#[]⟩,.slice none 0 0,.slice A4 l4.length c4,.slice none 0 0,.slice none 0 0] rfl rfl (zam ((w4.setCell ⟨wr.heap.size,1,none⟩ (.string ⟨gj.name.toArray⟩)).setCell ⟨wr.heap.size,8,none⟩ (.slice A4 l4.length c4)) _ (by simp[World.setCell]) _ _) (stK.one ((St.mk 4 gj.name noEx noRf l4 [] []),(⟨⟨0,0,[],none,0,0⟩,none,0,0,A4,c4,none,0,none,0⟩:SG))) (by omega) (by unfold maxLen;omega) (by omega) (by simp[World.setCell];omega) _ rfl ?_))
   intro gb cap7 w7 hown hgrow hlies hgl7
   have HB7:=Lib.hid (HBk.out.snoc (a:=((St.mk 4 gj.name noEx noRf l4 [] []),(⟨⟨0,0,[],none,0,0⟩,none,0,0,A4,c4,none,0,none,0⟩:SG))) HSM.out HNB.out HS.out.sz hown hgrow (zai hlies (by simp)))
   clear hown hgrow hlies hgl7 HSM
   go_wp2_with fail
   apply HQQ.out
   ·
    exact⟨k-1,P++[((St.mk 4 gj.name noEx noRf l4 [] []),(⟨⟨0,0,[],none,0,0⟩,none,0,0,A4,c4,none,0,none,0⟩:SG))],us,i4,lo,by go_num,by omega,by omega,by omega,by rw[List.map_append];exact HBW.out,HB7.out⟩
   ·
    simp[intOf];omega
end Go.Proofs.YtlnbmmgbfgmboaaDoor
