import Derived.Test.YtlnbmmgbfgmboaaGreatDoorQa
import Derived.Test.YtlnbmmgbfgmboaaGreatDoorQ9
import Derived.Deep.RegionLaw
namespace Go.Proofs.YtlnbmmgbfgmboaaGreatDoor
open Go.RowKit
set_option maxRecDepth 100000 in
set_option maxHeartbeats 8000000 in
theorem pgLoop1 {w w4:World} {g n:Nat} {ys:List Int} {ar:Bool} {R:Act→World→Prop} {u0 u1 u2 u6 u7 u8 u9 a0 a1 a2 a3 a4 a5 a6 a7 a8 a9 aa ab ac ad ae af ag ah ai aj ak al am an ao ap aq au av aw ax ay az aA aB aC aD aE aF aG aH aI aJ aK aL aM aN aO aP aQ aR aS aT aU aV aW aX aY aZ b0 b1 b2 b3 b4 b5 b6 b7 b8 b9 ba bb bc bd be bf bg bh bi bj bk bl bm bn bo bp bq br bs bt bu bv bw bx bz bA bB bC bD bE bG bH bI bJ bK bL bM bN bO bP bQ bR bS bT bU bV bW bX bY bZ c0 c1 c2 c3 c4 c5 c6 c7 c8 c9 cb cc cd ce cf cg ch ci cj ck cl cm cn co cp cq cr ct cu cv cw cx cy cz cA cB cC cD cE cF cG cH cI cJ cK cL cN cO cP cQ cR cS cT cU cV cW cX cY cZ d0 d1 d2 d3 d4 d5 d6 d7 d8 d9 da db dc dd de df dg dh di dj dk dl dm dn dp dq dr ds dt du dv dw dx dy dz dA dB dC dD dE dF dG dH dI dJ dK dL dM dN dO dP dQ dR dS dT dU dV dW dX dY dZ e0 e1 e2 e3 e4 e5 e6 e7 e8 e9 ea eb ec ed ee:Value} (HGE:Hid (g=w.heap.size+1+1)) (hn4:n<4) (HL1:Hid (ML1 w g ys ar 0 w4))
  (HQQ:Hid (∀(x4 x5 x6 x7 x8 x9 ef eg eh ei ej ek el em en eo ep eq er es et eu ev ew ex ey ez eA eB eC eD eE eF eG eH eI eJ eK eL eM eN eO eP eQ eR eS eT eU eV eW eX eY eZ f0 f1 f2 f3 f4 f5 f6 f7 f8 f9 fa fb fc fd fe ff fg fh fi fj fk fl fm fn fo fp fq fr fs ft fu fv fw fx fy fz fA fB fC fD fE fF fG fH fI fJ fK fL fM fN fO fP fQ fR fS fT fU fV fW fX fY fZ g0 g1 g2 g3 g4 g5 g6 g7 g8 g9 ga gc gd ge gf gg gh gi gj gk gl gm gn go gp gq gr gs gt gu gv gw gx gy gz gA gB gC gD gE gF gG gH gI gJ gK gL gM gN gO gP gQ gR gS gT gU gV gW gX gY gZ h0 h3 h4 h5 h6 h7 h8 h9 ha hc hd he hf hg hh hi hj hl hm hn ho hp hq hr hs ht hu hv hw hx hy hz hA hB hC hD hE hF hG hH hI hJ hK hM hN hO hP hQ hR hT hU hV hW hX hY hZ i0 i2 i3 i4 i7 i8 i9 ia ib ic id ie ig ih ii ij ik il im io ip iq ir it iu iv iw ix:Value) (w':World),ML1 w g ys ar (n+1) w'→R {tmps:=#[u0,u1,u2,.pointer (some ⟨g,0,none⟩),x4,x5,x6,x7,x8,x9,ef,eg,eh,ei,ej,ek,el,em,en,eo,ep,eq,er,es,et,eu,ev,ew,ex,ey,ez,eA,eB,eC,eD,eE,eF,eG,eH,eI,eJ,eK,eL,eM,eN,eO,eP,eQ,eR,eS,eT,eU,eV,eW,eX,eY,eZ,f0,f1,f2,f3,f4,f5,f6,f7,f8,f9,fa,fb,fc,fd,fe,ff,fg,fh,fi,fj,fk,fl,fm,fn,fo,fp,fq,fr,fs,ft,fu,fv,fw,fx,fy,fz,fA,fB,fC,fD,fE,fF,fG,fH,fI,fJ,fK,fL,fM,fN,fO,fP,fQ,fR,fS,fT,fU,fV,fW,fX,fY,fZ,g0,g1,g2,g3,g4,g5,g6,g7,g8,g9,ga,gc,gd,ge,gf,gg,gh,gi,gj,gk,gl,gm,gn,go,gp,gq,gr,gs,gt,gu,gv,gw,gx,gy,gz,gA,gB,gC,gD,gE,gF,gG,gH,gI,gJ,gK,gL,gM,gN,gO,gP,gQ,gR,gS,gT,gU,gV,gW,gX,gY,gZ,h0,h3,h4,h5,h6,h7,h8,h9,ha,hc,hd,he,hf,hg,hh,hi,hj,hl,hm,hn,ho,hp,hq,hr,hs,ht,hu,hv,hw,hx,hy,hz,hA,hB,hC,hD,hE,hF,hG,hH,hI,hJ,hK,hM,hN,hO,hP,hQ,hR,hT,hU,hV,hW,hX,hY,hZ,i0,i2,i3,i4,i7,i8,i9,ia,ib,ic,id,ie,ig,ih,ii,ij,ik,il,im,io,ip,iq,ir,it,iu,iv,iw,ix],defers:=[]} w')) :
  (nav [true,true,true,false,true,false] (Tryz.f14.body.getD .skip)).wp Tryz.prog (Exit.inBlock 0 (Nrm R)) {tmps:=#[u0,u1,u2,.pointer (some ⟨g,0,none⟩),.int .i64 0,.int .i64 (1+(n:Int)),u6,u7,u8,u9,a0,a1,a2,a3,a4,a5,a6,a7,a8,a9,aa,ab,ac,ad,ae,af,ag,ah,ai,aj,ak,al,am,an,ao,ap,aq,au,av,aw,ax,ay,az,aA,aB,aC,aD,aE,aF,aG,aH,aI,aJ,aK,aL,aM,aN,aO,aP,aQ,aR,aS,aT,aU,aV,aW,aX,aY,aZ,b0,b1,b2,b3,b4,b5,b6,b7,b8,b9,ba,bb,bc,bd,be,bf,bg,bh,bi,bj,bk,bl,bm,bn,bo,bp,bq,br,bs,bt,bu,bv,bw,bx,bz,bA,bB,bC,bD,bE,bG,bH,bI,bJ,bK,bL,bM,bN,bO,bP,bQ,bR,bS,bT,bU,bV,bW,bX,bY,bZ,c0,c1,c2,c3,c4,c5,c6,c7,c8,c9,cb,cc,cd,ce,cf,cg,ch,ci,cj,ck,cl,cm,cn,co,cp,cq,cr,ct,cu,cv,cw,cx,cy,cz,cA,cB,cC,cD,cE,cF,cG,cH,cI,cJ,cK,cL,cN,cO,cP,cQ,cR,cS,cT,cU,cV,cW,cX,cY,cZ,d0,d1,d2,d3,d4,d5,d6,d7,d8,d9,da,db,dc,dd,de,df,dg,dh,di,dj,dk,dl,dm,dn,dp,dq,dr,ds,dt,du,dv,dw,dx,dy,dz,dA,dB,dC,dD,dE,dF,dG,dH,dI,dJ,dK,dL,dM,dN,dO,dP,dQ,dR,dS,dT,dU,dV,dW,dX,dY,dZ,e0,e1,e2,e3,e4,e5,e6,e7,e8,e9,ea,eb,ec,ed,ee],defers:=[]} w4:=by
 obtain⟨iM,hiM,hgM0,hgM1,hgM2⟩:=info_parts Tryz.infoMx;dsimp only[nav,Tryz.f14,Option.getD]
 go_loopw [4,6] (fun i _ wr=>∃k:Nat,k≤n+1∧i=.int .i64 k∧Hid (ML1 w g ys ar k wr)) (fun i _ _=>n+1-(intOf i).toNat)
 case atStart=>exact⟨0,Nat.zero_le _,rfl,HL1⟩
 case round =>
  clear HL1;obtain⟨k,hk,rfl,hL⟩:=hrel;obtain⟨PM,AM,cM,i,hPk,hMx,hS⟩:=hL.out;have HS:=zH hS;have HMX:=zH hMx;have hkl:PM.length≤8:=by omega
  subst hPk;obtain⟨s0,-,s2,-,-,sf,sl⟩:=HS.out.cells;by_cases hlt:PM.length<1+n
  ·
   clear hL hMx hS;have hch:=chr97 PM.length (by omega);have hcv:=zaw (UInt8.ofNat (97+PM.length)) (wr.alloc (.cells #[.int .u8 ((UInt8.ofNat (97+PM.length)).toNat:Int)] 5)) wr.heap.size 1 (NewsAt.alloc wr _ rfl _ _);have i1:(PM.length:Int)<1+(n:Int):=by omega
   have HCA0:Hid (∀(b:Bool) (z:Nat),(⟨[UInt8.ofNat (97+PM.length)],b,z⟩:Mx).name=[UInt8.ofNat (97+PM.length)]):=fun _ _=>rfl;obtain⟨ca,hca⟩:∃ca,ca=UInt8.ofNat (97+PM.length):=⟨_,rfl⟩;rw[←hca] at hch hcv;have HCA:Hid ([ca]=[UInt8.ofNat (97+PM.length)]):=by show _=_;rw[hca]
   clear hca HCA0;go_wp2_with fail;clear s0 s2 sf hcv hch i1;have HA2:=zH ((HS.out.alloc (.cells #[.int .u8 (ca.toNat:Int)] 5)).alloc (.cells #[.string ⟨#[ca]⟩,.bool false,.int .i64 0] 88));have HT2:=heap_alloc_new (wr.alloc (.cells #[.int .u8 (ca.toNat:Int)] 5)) (.cells #[.string ⟨#[ca]⟩,.bool false,.int .i64 0] 88);rw[show (wr.alloc (.cells #[.int .u8 (ca.toNat:Int)] 5)).heap.size=wr.heap.size+1 by simp] at HT2;have HG2:Hid (wr.grownBy ((wr.alloc (.cells #[.int .u8 (ca.toNat:Int)] 5)).alloc (.cells #[.string ⟨#[ca]⟩,.bool false,.int .i64 0] 88)) (some (w.heap.size+1))):=zag (zag (za2 (Below.refl _ _)) _) _;have HT2:=zH HT2;generalize ((wr.alloc (.cells #[.int .u8 (ca.toNat:Int)] 5)).alloc (.cells #[.string ⟨#[ca]⟩,.bool false,.int .i64 0] 88))=W2 at *;obtain⟨T,hTe⟩:∃T,T=wr.heap.size+1:=⟨_,rfl⟩;rw[←hTe] at HT2 ⊢;have HTE:Hid (w.heap.size+1<T∧wr.heap.size≤T):=by have:=HGE.out;exact⟨by omega,by omega⟩
   clear hTe;refine(zaq _ (w.heap.size+1) ys i 5 HA2.out.s (by omega) (by omega)).mono ?_;rintro e w5 ⟨rfl,hS5,hG5⟩
   (try dsimp only)
   rw[show (5:Int).toNat=5 from rfl];have hv5:=zav ys i 5 (by omega);have HS5:=zH hS5;have HG5:=zH (za0 HG2.out hG5);have HT5:=zH ((hG5.block T (lt_of_block HT2.out) (fun e=>by injection e with e;have:=HTE.out;omega)).trans HT2.out);clear hS5 hG5 HA2 HT2 HG2;generalize zad ys i 5=v at *;generalize zaf ys i=i5 at *;obtain⟨t0,t1,t2,tf,tl⟩:=blk3 HT5.out;have tf1:=tf 1;have tf2:=tf 2;by_cases h1:v=1
   ·
    subst h1;have HQ:=zH ((PutAt.refl T w5).set 1 (.bool true));have HT6:=zH (za4 1 (.bool true) HT5.out);have HS6:=zH (HS.out.next (HS5.out.keep fun b hb=>HQ.out.2.2.2.2 b (by have:=HTE.out;omega)) (za5 HG5.out HQ.out HTE.out.2))
    go_upto_region 12 with fail
    have HSx:=HS6;have HTx:Hid ((w5.setCell ⟨T,1,none⟩ (.bool true)).heap[T]?=some (.cells #[.string ⟨#[ca]⟩,.bool true,.int .i64 0] 88 (0,0))):=HT6.out;clear t0 t1 t2 tf1 tf2 tf tl HT6;generalize (w5.setCell ⟨T,1,none⟩ (.bool true))=wx at HSx HTx ⊢;obtain⟨p0,-,p2,-,-,pf,pl⟩:=HSx.out.cells;obtain⟨t0,t1,t2,-,-⟩:=blk3 HTx.out;have pf2:=pf 2;clear pf;go_region_law (first
     | (refine step_append_lies _ (by rfl) _ _ _ (by rfl) (g+1) 88 iM _ 3 32 Tryz.underlying42 hiM hgM0 hgM1 hgM2 rfl (by omega) (.slice AM PM.length cM) PM.length (mxK.cs PM) (by rfl) (HSx.out.drew.alloc _).p.rM ⟨wx.heap.size,0,none⟩ 1 1 [.string ⟨#[ca]⟩,.bool true,.int .i64 0] (by rfl) (by rfl) (zak wx.drew _ rfl _ _) (mxK.one ⟨[ca],true,0⟩) (by omega) (by unfold maxLen;omega) (by omega) (by simp;omega) (wx.heap.size+1) (by simp) ?_;intro gb cap7 w7 hown hgrow hlies hgl7;obtain⟨k0,-,k2,-,kf⟩:=(HSx.out.drew.alloc _).kg (HSx.out.drew.alloc _).p.rM hgrow;have kf2:=kf 2;clear kf))
    all_goals
     have HS7:=zH ((HSx.out.drew.alloc _).snocM ⟨[ca],true,0⟩ hown hgrow (zah hlies (by simp)));clear hown hgrow hlies hgl7 p0 p2 pf2 t0 t1 t2 HSx HTx;go_wp2_with fail;go_roundw
     case rel =>
      refine⟨PM.length+1,by omega,by go_num,PM++[⟨[ca],true,0⟩],some ⟨gb,0,none⟩,cap7,i5,by simp,HMX.out.snoc HCA.out (by simp;try omega) (by simp),?_⟩;rw[List.length_append];exact HS7.out
     case measure=>simp[intOf];omega
   ·
    by_cases h2:v=2
    ·
     subst h2;have HS5n:=zH (HS.out.next HS5.out HG5.out);obtain⟨s0,-⟩:=HS5n.out.cells;go_wp2_with fail;refine(zaq _ (w.heap.size+1) ys i5 3 HS5.out (by omega) (by omega)).mono ?_;rintro e w6 ⟨rfl,hS6,hG6⟩
     (try dsimp only)
     rw[show (3:Int).toNat=3 from rfl];have hv6:=zav ys i5 3 (by omega);have HS6:=zH hS6;have HG6:=zH (za0 HG5.out hG6);have HTz:=zH ((hG6.block T (lt_of_block HT5.out) (fun e=>by injection e with e;have:=HTE.out;omega)).trans HT5.out);clear hS6 hG6 s0 t0 t1 t2 tf1 tf2 tf tl HT5 HS5 HG5 HS5n;generalize zad ys i5 3=v6 at *;generalize zaf ys i5=i6 at *;obtain⟨t0,t1,t2,tf,tl⟩:=blk3 HTz.out;have tf1:=tf 1;have tf2:=tf 2;have HQ:=zH ((PutAt.refl T w6).set 2 (.int .i64 (1+(v6:Int))));have HT6:=zH (za4 2 (.int .i64 (1+(v6:Int))) HTz.out);have HS6:=zH (HS.out.next (HS6.out.keep fun b hb=>HQ.out.2.2.2.2 b (by have:=HTE.out;omega)) (za5 HG6.out HQ.out HTE.out.2))
     go_upto_region 12 with fail
     have HSx:=HS6;have HTx:Hid ((w6.setCell ⟨T,2,none⟩ (.int .i64 (1+(v6:Int)))).heap[T]?=some (.cells #[.string ⟨#[ca]⟩,.bool false,.int .i64 (1+(v6:Int))] 88 (0,0))):=HT6.out;clear t0 t1 t2 tf1 tf2 tf tl HT6;generalize (w6.setCell ⟨T,2,none⟩ (.int .i64 (1+(v6:Int))))=wx at HSx HTx ⊢;obtain⟨p0,-,p2,-,-,pf,pl⟩:=HSx.out.cells;obtain⟨t0,t1,t2,-,-⟩:=blk3 HTx.out;have pf2:=pf 2;clear pf;go_region_law (first
      | (refine step_append_lies _ (by rfl) _ _ _ (by rfl) (g+1) 88 iM _ 3 32 Tryz.underlying42 hiM hgM0 hgM1 hgM2 rfl (by omega) (.slice AM PM.length cM) PM.length (mxK.cs PM) (by rfl) (HSx.out.drew.alloc _).p.rM ⟨wx.heap.size,0,none⟩ 1 1 [.string ⟨#[ca]⟩,.bool false,.int .i64 (1+(v6:Int))] (by rfl) (by rfl) (zak wx.drew _ rfl _ _) (mxK.one ⟨[ca],false,(1+v6)⟩) (by omega) (by unfold maxLen;omega) (by omega) (by simp;omega) (wx.heap.size+1) (by simp) ?_;intro gb cap7 w7 hown hgrow hlies hgl7;obtain⟨k0,-,k2,-,kf⟩:=(HSx.out.drew.alloc _).kg (HSx.out.drew.alloc _).p.rM hgrow;have kf2:=kf 2;clear kf))
     all_goals
      have HS7:=zH ((HSx.out.drew.alloc _).snocM ⟨[ca],false,(1+v6)⟩ hown hgrow (zah hlies (by simp)));clear hown hgrow hlies hgl7 p0 p2 pf2 t0 t1 t2 HSx HTx;go_wp2_with fail;go_roundw
      case rel =>
       refine⟨PM.length+1,by omega,by go_num,PM++[⟨[ca],false,(1+v6)⟩],some ⟨gb,0,none⟩,cap7,i6,by simp,HMX.out.snoc HCA.out (by simp;try omega) (by simp),?_⟩;rw[List.length_append];exact HS7.out
      case measure=>simp[intOf];omega
    ·
     have n1:=bF (show ((v:Nat):Int)≠1 by omega);have n2:=bF (show ((v:Nat):Int)≠2 by omega);have HT6:=HT5;have HS6:=zH (HS.out.next HS5.out HG5.out)
     go_upto_region 12 with fail
     have HSx:=HS6;have HTx:Hid (w5.heap[T]?=some (.cells #[.string ⟨#[ca]⟩,.bool false,.int .i64 0] 88 (0,0))):=HT6.out;clear t0 t1 t2 tf1 tf2 tf tl HT6;generalize w5=wx at HSx HTx ⊢;obtain⟨p0,-,p2,-,-,pf,pl⟩:=HSx.out.cells;obtain⟨t0,t1,t2,-,-⟩:=blk3 HTx.out;have pf2:=pf 2;clear pf;go_region_law (first
      | (refine step_append_lies _ (by rfl) _ _ _ (by rfl) (g+1) 88 iM _ 3 32 Tryz.underlying42 hiM hgM0 hgM1 hgM2 rfl (by omega) (.slice AM PM.length cM) PM.length (mxK.cs PM) (by rfl) (HSx.out.drew.alloc _).p.rM ⟨wx.heap.size,0,none⟩ 1 1 [.string ⟨#[ca]⟩,.bool false,.int .i64 0] (by rfl) (by rfl) (zak wx.drew _ rfl _ _) (mxK.one ⟨[ca],false,0⟩) (by omega) (by unfold maxLen;omega) (by omega) (by simp;omega) (wx.heap.size+1) (by simp) ?_;intro gb cap7 w7 hown hgrow hlies hgl7;obtain⟨k0,-,k2,-,kf⟩:=(HSx.out.drew.alloc _).kg (HSx.out.drew.alloc _).p.rM hgrow;have kf2:=kf 2;clear kf))
     all_goals
      have HS7:=zH ((HSx.out.drew.alloc _).snocM ⟨[ca],false,0⟩ hown hgrow (zah hlies (by simp)));clear hown hgrow hlies hgl7 p0 p2 pf2 t0 t1 t2 HSx HTx;go_wp2_with fail;go_roundw
      case rel =>
       refine⟨PM.length+1,by omega,by go_num,PM++[⟨[ca],false,0⟩],some ⟨gb,0,none⟩,cap7,i5,by simp,HMX.out.snoc HCA.out (by simp;try omega) (by simp),?_⟩;rw[List.length_append];exact HS7.out
      case measure=>simp[intOf];omega
  ·
   have i1:¬(PM.length:Int)<1+(n:Int):=by omega
   have hke:PM.length=n+1:=by omega
   rw[hke] at hL;clear hMx hS HS HMX hke;go_wp2_with fail;apply HQQ.out;exact hL.out
end Go.Proofs.YtlnbmmgbfgmboaaGreatDoor
