import Derived.Test.YtlnbmmgbfgmboaaGreatDoorQa
import Derived.Test.YtlnbmmgbfgmboaaGreatDoorQ11
import Derived.Test.YtlnbmmgbfgmboaaGreatDoorMdPgDG
import Derived.Deep.RegionLaw
namespace Go.Proofs.YtlnbmmgbfgmboaaGreatDoor
open Go.RowKit
set_option maxRecDepth 100000 in
set_option maxHeartbeats 8000000 in
theorem pgLoop3 {w w4:World} {g kmax:Nat} {ys:List Int} {ar:Bool} {vV vG vM:Value} {us:List Nm} {PG:List Gl} {PM:List Mx} {R:Act→World→Prop} {u0 u1 u2 u4 u5 u6 u7 u8 u9 a0 a4 a5 a6 a7 a8 a9 aa ab ac ad ae af ag ah ai aj ak al am an ao ap aq au av aw ax ay az aA aB aC aD aE aF aG aH aI aJ aK aL aM aN aO aP aQ aR aS aT aU aV aW aX aY aZ b0 b1 b2 b3 b4 b5 b6 b7 b8 b9 ba bb bc bd be bf bg bh bi bj bk bl bm bn bo bp bq br bs bt bu bv bw bx bz bA bB bC bD bE bG bH bI bJ bK bL bM bN bO bP bQ bR bS bU cV cW cX cY cZ d3 d4 d5 d6 d7 d8 d9 da db dc dd de df dg dh di dj dk dl dm dn dp dq dr ds dt du dv dw dx dy dz dA dB dC dD dE dF dG dH dI dJ dK dL dM dN dO dP dQ dR dS dT dU dV dW dX dY dZ e0 e1 e2 e3 e4 e5 e6 e7 e8 e9 ea eb ec ed ee ef eg a1 a2 a3 bV bW bX bY bZ c0 c1 c2 c3 c4 c5 c6 c7 c8 c9 cb cc cd ce cf cg ch ci cj ck cl cm cn co cp cq cr ct cu cv cw cx cy cz cA cB cC cD cE cG cH cI cJ cK cL cM cN cO cP cQ cR cS cT cU:Value} (HGE:Hid (g=w.heap.size+1+1)) (hkm:kmax<4) (HL1:Hid (ML3 w g ys ar vV us vG vM PG PM 0 w4))
  (HQQ:Hid (∀(eh ei ej ek el em en eo ep eq er es et eu ev ew ex ey ez eA eB eC eD eE eF eG eH eI eJ eK eL eM eN eO eP eQ eR eS eT eU eV eW eX eY eZ f0 f1 f2 f3 f4 f5 f6 f7 f8 f9 fa fb fc fd fe ff fg fh:Value) (w':World),ML3 w g ys ar vV us vG vM PG PM (kmax+1) w'→R {tmps:=#[u0,u1,u2,.pointer (some ⟨g,0,none⟩),u4,u5,u6,u7,u8,u9,a0,.int .i64 (kmax:Int),eh,ei,ej,ek,a4,a5,a6,a7,a8,a9,aa,ab,ac,ad,ae,af,ag,ah,ai,aj,ak,al,am,an,ao,ap,aq,au,av,aw,ax,ay,az,aA,aB,aC,aD,aE,aF,aG,aH,aI,aJ,aK,aL,aM,aN,aO,aP,aQ,aR,aS,aT,aU,aV,aW,aX,aY,aZ,b0,b1,b2,b3,b4,b5,b6,b7,b8,b9,ba,bb,bc,bd,be,bf,bg,bh,bi,bj,bk,bl,bm,bn,bo,bp,bq,br,bs,bt,bu,bv,bw,bx,bz,bA,bB,bC,bD,bE,bG,bH,bI,bJ,bK,bL,bM,bN,bO,bP,bQ,bR,bS,bU,el,em,en,eo,ep,eq,er,es,et,eu,ev,ew,ex,ey,ez,eA,eB,eC,eD,eE,eF,eG,eH,eI,eJ,eK,eL,eM,eN,eO,eP,eQ,eR,eS,eT,eU,eV,eW,eX,eY,eZ,f0,f1,f2,f3,f4,f5,f6,f7,f8,f9,fa,fb,fc,fd,fe,ff,fg,fh,cV,cW,cX,cY,cZ,d3,d4,d5,d6,d7,d8,d9,da,db,dc,dd,de,df,dg,dh,di,dj,dk,dl,dm,dn,dp,dq,dr,ds,dt,du,dv,dw,dx,dy,dz,dA,dB,dC,dD,dE,dF,dG,dH,dI,dJ,dK,dL,dM,dN,dO,dP,dQ,dR,dS,dT,dU,dV,dW,dX,dY,dZ,e0,e1,e2,e3,e4,e5,e6,e7,e8,e9,ea,eb,ec,ed,ee,ef,eg],defers:=[]} w')) :
  (nav [true,true,true,true,true,true,true,false,true,false] (Tryz.f14.body.getD .skip)).wp Tryz.prog (Exit.inBlock 5 (Nrm R)) {tmps:=#[u0,u1,u2,.pointer (some ⟨g,0,none⟩),u4,u5,u6,u7,u8,u9,a0,.int .i64 (kmax:Int),.int .i64 0,a1,a2,a3,a4,a5,a6,a7,a8,a9,aa,ab,ac,ad,ae,af,ag,ah,ai,aj,ak,al,am,an,ao,ap,aq,au,av,aw,ax,ay,az,aA,aB,aC,aD,aE,aF,aG,aH,aI,aJ,aK,aL,aM,aN,aO,aP,aQ,aR,aS,aT,aU,aV,aW,aX,aY,aZ,b0,b1,b2,b3,b4,b5,b6,b7,b8,b9,ba,bb,bc,bd,be,bf,bg,bh,bi,bj,bk,bl,bm,bn,bo,bp,bq,br,bs,bt,bu,bv,bw,bx,bz,bA,bB,bC,bD,bE,bG,bH,bI,bJ,bK,bL,bM,bN,bO,bP,bQ,bR,bS,bU,bV,bW,bX,bY,bZ,c0,c1,c2,c3,c4,c5,c6,c7,c8,c9,cb,cc,cd,ce,cf,cg,ch,ci,cj,ck,cl,cm,cn,co,cp,cq,cr,ct,cu,cv,cw,cx,cy,cz,cA,cB,cC,cD,cE,cG,cH,cI,cJ,cK,cL,cM,cN,cO,cP,cQ,cR,cS,cT,cU,cV,cW,cX,cY,cZ,d3,d4,d5,d6,d7,d8,d9,da,db,dc,dd,de,df,dg,dh,di,dj,dk,dl,dm,dn,dp,dq,dr,ds,dt,du,dv,dw,dx,dy,dz,dA,dB,dC,dD,dE,dF,dG,dH,dI,dJ,dK,dL,dM,dN,dO,dP,dQ,dR,dS,dT,dU,dV,dW,dX,dY,dZ,e0,e1,e2,e3,e4,e5,e6,e7,e8,e9,ea,eb,ec,ed,ee,ef,eg],defers:=[]} w4:=by
 obtain⟨iF,hiF,hgF0,hgF1,hgF2⟩:=info_parts Tryz.infoFn;dsimp only[nav,Tryz.f14,Option.getD]
 go_loopw [12,13,14,15] (fun v _ _ _ wr=>∃k:Nat,k≤kmax+1∧v=.int .i64 k∧Hid (ML3 w g ys ar vV us vG vM PG PM k wr)) (fun v _ _ _ _=>kmax+1-(intOf v).toNat)
 case atStart=>exact⟨0,Nat.zero_le _,rfl,HL1⟩
 case round =>
  clear HL1;obtain⟨k,hk,rfl,hL⟩:=hrel;by_cases hlt:k<kmax+1
  ·
   obtain⟨PF,AF,cF,i,hPk,hFo,hS⟩:=hL.out;have HS:=zH hS;have HFO:=zH hFo;subst hPk;have hpl8:PF.length≤8:=by omega
   obtain⟨s0,-,-,-,-,sf,sl⟩:=HS.out.cells;clear hL hFo hS sf;have i1:(PF.length:Int)≤(kmax:Int):=by omega
   have hch:=chr48 PF.length (by omega);have hch2:IntKind.u8.wrap (IntKind.i64.wrap (48+(PF.length:Int)))=((UInt8.ofNat (48+PF.length)).toNat:Int):=by rw[IntWalk.i64_in _ (by omega)];exact hch
   obtain⟨ca,hca⟩:∃ca,ca=UInt8.ofNat (48+PF.length):=⟨_,rfl⟩;rw[←hca] at hch hch2;have HCA:Hid ([102,ca]=[102,UInt8.ofNat (48+PF.length)]):=by show _=_;rw[hca]
   clear hca;have hcv:=zaw ca (wr.alloc (.cells #[.int .u8 (ca.toNat:Int)] 5)) wr.heap.size 1 (NewsAt.alloc wr _ rfl _ _);have happ1:(({data:=#[102]}:ByteArray)++{data:=#[ca]})=⟨#[102,ca]⟩:=rfl;have HG2:Hid (wr.grownBy ((wr.alloc (.cells #[.int .u8 (ca.toNat:Int)] 5)).alloc (.cells #[.string ⟨#[102,ca]⟩,.slice none 0 0,.slice none 0 0] 52)) (some (w.heap.size+1))):=zag (zag (za2 (Below.refl _ _)) _) _;have HT2:Hid (((wr.alloc (.cells #[.int .u8 (ca.toNat:Int)] 5)).alloc (.cells #[.string ⟨#[102,ca]⟩,.slice none 0 0,.slice none 0 0] 52)).heap[wr.heap.size+1]?=some (.cells #[.string ⟨#[102,ca]⟩,.slice none 0 0,.slice none 0 0] 52 (0,0))):=(new2 wr (.cells #[.int .u8 (ca.toNat:Int)] 5) (.cells #[.string ⟨#[102,ca]⟩,.slice none 0 0,.slice none 0 0] 52)).2;have HA2:=zH ((HS.out.alloc (.cells #[.int .u8 (ca.toNat:Int)] 5)).alloc (.cells #[.string ⟨#[102,ca]⟩,.slice none 0 0,.slice none 0 0] 52));obtain⟨T,hTe⟩:∃T,T=wr.heap.size+1:=⟨_,rfl⟩;have HTE:Hid (w.heap.size+1<T∧wr.heap.size≤T∧g<T):=by have:=HGE.out;exact⟨by omega,by omega,by omega⟩
   have HTe:=zH hTe;clear hTe;by_cases h0:PF.length=0
   ·
    have d0:=bT (show (PF.length:Int)=0 by omega);have H0:=zH h0;clear h0
    go_upto_region 25 with fail
    rw[←HTe.out] at HT2 ⊢;generalize ((wr.alloc (.cells #[.int .u8 (ca.toNat:Int)] 5)).alloc (.cells #[.string ⟨#[102,ca]⟩,.slice none 0 0,.slice none 0 0] 52))=W2 at *;obtain⟨t0,t1,t2,tf,tl⟩:=blk3 HT2.out;have tf0:=tf 0;obtain⟨s2,-⟩:=HA2.out.cells;have hgT:g≠T:=by have:=HTE.out;omega
    have HQ:=zH ((PutAt.refl T W2).set 0 (.string ⟨#[109,97,105,110]⟩));have HT3:=zH (za4 0 (.string ⟨#[109,97,105,110]⟩) HT2.out);have HG3:=zH (za5 HG2.out HQ.out HTE.out.2.1);have HS3:=zH (HS.out.next (HA2.out.s.keep fun b hb=>HQ.out.2.2.2.2 b (by have:=HTE.out;omega)) HG3.out);have s3:=HS3.out.cells.1;clear tf;go_wp2_with fail;refine(zaq _ (w.heap.size+1) ys i 3 HS3.out.s (by omega) (by omega)).mono ?_;rintro e w5 ⟨rfl,hS5,hG5⟩
    (try dsimp only)
    rw[show (3:Int).toNat=3 from rfl];have hv5:=zav ys i 3 (by omega);have HS5:=zH hS5;have HG5:=zH (za0 HG3.out hG5);have HT5:=zH ((hG5.block T (lt_of_block HT3.out) (fun e=>by injection e with e;have:=HTE.out;omega)).trans HT3.out);have s5:=(HS.out.next HS5.out HG5.out).cells.1;clear hS5 hG5;generalize zad ys i 3=v at *;generalize zaf ys i=i5 at *;clear s0 s2 s3 t0 t1 t2 tf0 tl hch hch2 hcv happ1;have hv3:(0:Int)≤(v:Int):=by omega
    go_wp2_with fail;obtain⟨wo,hwo⟩:∃wo:World,wo=wr:=⟨_,rfl⟩;have HML:Hid (ML4 w wo g ys T [109,97,105,110] 0 0 w5):=by rw[hwo];exact zfQ HS5.out HG5.out HT5.out HTE.out.2.1
    rw[←hwo] at HS;clear hwo HG5 HS5 HT5 HG3 HS3 HQ HT3 HG2 HT2 HA2;have d1:¬(0:Int)<(PF.length:Int):=by have:=H0.out;omega
    have d2:¬0<PF.length:=by have:=H0.out;omega
    clear d0
    go_loopw [14,15] (fun n _ wz=>n=.int .i64 (v:Int)∧Hid (ML4 w wo g ys T [109,97,105,110] 0 0 wz)) (fun _ _ _=>0)
    case atStart=>exact⟨rfl,HML⟩
    case round =>
     clear HML;obtain⟨rfl,HML⟩:=hrel;by_cases hv0:0<v
     all_goals
      obtain⟨i9,PS,pA,pc,hP9⟩:=HML.out;have HP9:=zH hP9;have HS9:=zH (HS.out.next hP9.src hP9.gr);obtain⟨p0,-,-,p3,-,pf,pl⟩:=HS9.out.cells;obtain⟨t0,t1,t2,-,hTl⟩:=blk3 hP9.t;have pf3:=pf 3;have hln:=hP9.len;clear hP9 pf
      go_upto_region 31 with fail
      go_region_law (first
       | (refine step_append_lies _ (by rfl) _ _ _ (by rfl) (g+1) 52 iF _ 3 64 Tryz.underlying43 hiF hgF0 hgF1 hgF2 rfl (by omega) (.slice AF PF.length cF) PF.length (fnK.cs PF) (by rfl) (HS9.out.drew.alloc _).p.rF ⟨wr.heap.size,0,none⟩ 1 1 [.string ⟨#[109,97,105,110]⟩,.slice pA PS.length pc,.slice none 0 0] (by rfl) (by rfl) (zak wr.drew _ rfl _ _) (fnK.one ((⟨[109,97,105,110],PS,[]⟩,⟨pA,pc,none,0⟩):Fn × FnG)) (by omega) (by unfold maxLen;omega) (by omega) (by simp;omega) (wr.heap.size+1) (by simp) ?_;intro gb cap7 w7 hown hgrow hlies hgl7;obtain⟨k0,-,-,k3,kf⟩:=(HS9.out.drew.alloc _).kg (HS9.out.drew.alloc _).p.rF hgrow;have kf3:=kf 3;clear kf))
      all_goals
       have HS7:=zH ((HS9.out.drew.alloc _).snocF ((⟨[109,97,105,110],PS,[]⟩,⟨pA,pc,none,0⟩):Fn × FnG) (pml_in HS.out HP9.out fun b hb=>Below.heap_alloc wr _ b hb) hown hgrow (zah hlies (by simp)));have HOK:=zH (HFO.out.snoc (a:=((⟨[109,97,105,110],PS,[]⟩,⟨pA,pc,none,0⟩):Fn × FnG)) ⟨by show [109,97,105,110]=_;rw[if_pos H0.out],by show PS.length≤2;omega,fun _=>List.eq_nil_of_length_eq_zero (by omega),fun i h=>absurd h (by show ¬i<PS.length;omega),rfl,rfl,rfl⟩);clear hown hgrow hlies hgl7 p0 p3 pf3 t0 t1 t2 HS9 HP9;go_wp2_with fail;go_roundw
       case rel =>
        refine⟨PF.length+1,by omega,by go_num,PF++[((⟨[109,97,105,110],PS,[]⟩,⟨pA,pc,none,0⟩):Fn × FnG)],some ⟨gb,0,none⟩,cap7,i9,by simp,HOK.out,?_⟩;rw[List.length_append];exact HS7.out
       case measure=>simp[intOf];omega
   ·
    have d0:=bF (show (PF.length:Int)≠0 by omega);go_wp2_with fail;rw[←HTe.out] at HT2 ⊢;generalize ((wr.alloc (.cells #[.int .u8 (ca.toNat:Int)] 5)).alloc (.cells #[.string ⟨#[102,ca]⟩,.slice none 0 0,.slice none 0 0] 52))=W2 at *;refine(zaq _ (w.heap.size+1) ys i 3 HA2.out.s (by omega) (by omega)).mono ?_;rintro e w5 ⟨rfl,hS5,hG5⟩
    (try dsimp only)
    rw[show (3:Int).toNat=3 from rfl];have hv5:=zav ys i 3 (by omega);have HS5:=zH hS5;have HG5:=zH (za0 HG2.out hG5);have HT5:=zH ((hG5.block T (lt_of_block HT2.out) (fun e=>by injection e with e;have:=HTE.out;omega)).trans HT2.out);have s5:=(HS.out.next HS5.out HG5.out).cells.1;clear hS5 hG5;generalize zad ys i 3=v at *;generalize zaf ys i=i5 at *;clear s0 hch hch2 hcv happ1;obtain⟨wo,hwo⟩:∃wo:World,wo=wr:=⟨_,rfl⟩;have HML:Hid (ML4 w wo g ys T [102,ca] v v w5):=by rw[hwo];exact zfQ HS5.out HG5.out HT5.out HTE.out.2.1
    rw[←hwo] at HS;clear hwo HG5 HS5 HT5 HG2 HT2 HA2;go_wp2_with fail;refine Code.wp_mono (zbJ 7 Nrm.imp) (pgLoop4 HGE (by omega) hv5 HS HML ?_);refine zH ?_;intro ej ek eF eG eH eI eJ eK eL eM eN eO eP eQ eR eS eT eU eV eW eX eY eZ f0 f1 f2 f3 f4 f5 wx hML9;dsimp only[Exit.then];obtain⟨i9,PS,pA,pc,hP9⟩:=hML9;have HP9:=zH hP9;have HS9:=zH (HS.out.next hP9.src hP9.gr);obtain⟨p0,-,-,p3,-,pf,pl⟩:=HS9.out.cells;obtain⟨t0,t1,t2,-,hTl⟩:=blk3 hP9.t;have pf3:=pf 3;have hln:=hP9.len;clear hP9 pf
    go_upto_region 31 with fail
    go_region_law (first
     | (refine step_append_lies _ (by rfl) _ _ _ (by rfl) (g+1) 52 iF _ 3 64 Tryz.underlying43 hiF hgF0 hgF1 hgF2 rfl (by omega) (.slice AF PF.length cF) PF.length (fnK.cs PF) (by rfl) (HS9.out.drew.alloc _).p.rF ⟨wx.heap.size,0,none⟩ 1 1 [.string ⟨#[102,ca]⟩,.slice pA PS.length pc,.slice none 0 0] (by rfl) (by rfl) (zak wx.drew _ rfl _ _) (fnK.one ((⟨[102,ca],PS,[]⟩,⟨pA,pc,none,0⟩):Fn × FnG)) (by omega) (by unfold maxLen;omega) (by omega) (by simp;omega) (wx.heap.size+1) (by simp) ?_;intro gb cap7 w7 hown hgrow hlies hgl7;obtain⟨k0,-,-,k3,kf⟩:=(HS9.out.drew.alloc _).kg (HS9.out.drew.alloc _).p.rF hgrow;have kf3:=kf 3;clear kf))
    all_goals
     have HS7:=zH ((HS9.out.drew.alloc _).snocF ((⟨[102,ca],PS,[]⟩,⟨pA,pc,none,0⟩):Fn × FnG) (pml_in HS.out HP9.out fun b hb=>Below.heap_alloc wx _ b hb) hown hgrow (zah hlies (by simp)));have HOK:=zH (HFO.out.snoc (a:=((⟨[102,ca],PS,[]⟩,⟨pA,pc,none,0⟩):Fn × FnG)) ⟨by show [102,ca]=_;rw[if_neg h0];exact HCA.out,by show PS.length≤2;omega,fun h=>absurd h h0,fun i h=>by have h1:=HP9.out.ok i h;rwa [show v-i=PS.length-i by omega] at h1,rfl,rfl,rfl⟩);clear hown hgrow hlies hgl7 p0 p3 pf3 t0 t1 t2 HS9 HP9;go_wp2_with fail;go_roundw
     case rel =>
      refine⟨PF.length+1,by omega,by go_num,PF++[((⟨[102,ca],PS,[]⟩,⟨pA,pc,none,0⟩):Fn × FnG)],some ⟨gb,0,none⟩,cap7,i9,by simp,HOK.out,?_⟩;rw[List.length_append];exact HS7.out
     case measure=>simp[intOf];omega
  ·
   have i1:¬(k:Int)≤(kmax:Int):=by omega
   have hke:k=kmax+1:=by omega
   rw[hke] at hL;clear hke;go_wp2_with fail;apply HQQ.out;exact hL.out
end Go.Proofs.YtlnbmmgbfgmboaaGreatDoor
