import Derived.Test.YtlnbmmgbfgmboaaGreatDoorQa
import Derived.Test.YtlnbmmgbfgmboaaGreatDoorQ10
import Derived.Deep.RegionLaw
import Derived.Deep.RegionHeld3
import Derived.Deep.CutRange
namespace Go.Proofs.YtlnbmmgbfgmboaaGreatDoor
open Go.RowKit
def opB0:Oper:={dst:=some 103,op:=Op.move (Operand.tmp 3),type:=79,pos := "made.go:190",after:=#[],guard:=none}
def opB1:Oper:={dst:=some 104,op:=Op.move (Operand.tmp 3),type:=79,pos := "made.go:190",after:=#[],guard:=none}
def opB2:Oper:={dst:=some 105,op:=Op.nilCheck (Operand.tmp 104),type:=0,pos := "made.go:190",after:=#[{on:=1,ground:=Ground.data}],guard:=none}
def opB3:Oper:={dst:=some 106,op:=Op.fieldAddr 85 (Operand.tmp 105) 1,type:=0,pos := "made.go:190",after:=#[{on:=2,ground:=Ground.data}],guard:=none}
def opB4:Oper:={dst:=some 107,op:=Op.fieldAddr 45 (Operand.tmp 106) 0,type:=0,pos := "made.go:190",after:=#[{on:=3,ground:=Ground.data}],guard:=none}
def opB5:Oper:={dst:=some 108,op:=Op.load 41 (Operand.tmp 107),type:=41,pos := "made.go:190",after:=#[{on:=4,ground:=Ground.data}],guard:=none}
def opB6:Oper:={dst:=some 109,op:=Op.load 90 (Operand.tmp 10),type:=90,pos := "made.go:190",after:=#[],guard:=none}
def opB7:Oper:={dst:=some 110,op:=Op.buildSlice 41 1 #[(0,Operand.tmp 109)],type:=41,pos := "made.go:190",after:=#[{on:=6,ground:=Ground.data}],guard:=none}
def opB8:Oper:={dst:=some 111,op:=Op.call {callee:=Callee.builtin Builtin.append,args:=#[Operand.tmp 108,Operand.tmp 110],argTypes:=#[41,41]},type:=41,pos := "made.go:190",after:=#[{on:=5,ground:=Ground.data},{on:=7,ground:=Ground.data}],guard:=none}
def opB9:Oper:={dst:=some 112,op:=Op.move (Operand.tmp 7),type:=26,pos := "made.go:190",after:=#[],guard:=none}
def opB10:Oper:={dst:=some 113,op:=Op.fieldAddr 90 (Operand.tmp 10) 0,type:=0,pos := "made.go:190",after:=#[],guard:=none}
def opB11:Oper:={dst:=some 114,op:=Op.load 9 (Operand.tmp 113),type:=9,pos := "made.go:190",after:=#[{on:=10,ground:=Ground.data}],guard:=none}
def zcl:Oper:={dst:=some 115,op:=Op.buildSlice 26 1 #[(0,Operand.tmp 114)],type:=26,pos := "made.go:190",after:=#[{on:=11,ground:=Ground.data}],guard:=none}
def zd5:Oper:={dst:=some 116,op:=Op.call {callee:=Callee.builtin Builtin.append,args:=#[Operand.tmp 112,Operand.tmp 115],argTypes:=#[26,26]},type:=26,pos := "made.go:190",after:=#[{on:=9,ground:=Ground.data},{on:=12,ground:=Ground.data},{on:=8,ground:=Ground.chain}],guard:=none}
def zc3:Oper:={dst:=some 117,op:=Op.nilCheck (Operand.tmp 103),type:=0,pos := "made.go:190",after:=#[{on:=0,ground:=Ground.data},{on:=0,ground:=Ground.phase},{on:=1,ground:=Ground.phase},{on:=2,ground:=Ground.phase},{on:=3,ground:=Ground.phase},{on:=4,ground:=Ground.phase},{on:=5,ground:=Ground.phase},{on:=6,ground:=Ground.phase},{on:=7,ground:=Ground.phase},{on:=8,ground:=Ground.phase},{on:=9,ground:=Ground.textOnly Departure.lateStores},{on:=10,ground:=Ground.textOnly Departure.lateStores},{on:=11,ground:=Ground.textOnly Departure.lateStores},{on:=12,ground:=Ground.textOnly Departure.lateStoresUnsure},{on:=13,ground:=Ground.phase}],guard:=none}
def zc2:Oper:={dst:=some 118,op:=Op.fieldAddr 85 (Operand.tmp 117) 1,type:=0,pos := "made.go:190",after:=#[{on:=14,ground:=Ground.data},{on:=0,ground:=Ground.phase},{on:=1,ground:=Ground.phase},{on:=2,ground:=Ground.phase},{on:=3,ground:=Ground.phase},{on:=4,ground:=Ground.phase},{on:=5,ground:=Ground.phase},{on:=6,ground:=Ground.phase},{on:=7,ground:=Ground.phase},{on:=8,ground:=Ground.phase},{on:=9,ground:=Ground.textOnly Departure.lateStores},{on:=10,ground:=Ground.textOnly Departure.lateStores},{on:=11,ground:=Ground.textOnly Departure.lateStores},{on:=12,ground:=Ground.textOnly Departure.lateStoresUnsure},{on:=13,ground:=Ground.phase}],guard:=none}
def zc1:Oper:={dst:=some 119,op:=Op.fieldAddr 45 (Operand.tmp 118) 0,type:=0,pos := "made.go:190",after:=#[{on:=15,ground:=Ground.data},{on:=0,ground:=Ground.phase},{on:=1,ground:=Ground.phase},{on:=2,ground:=Ground.phase},{on:=3,ground:=Ground.phase},{on:=4,ground:=Ground.phase},{on:=5,ground:=Ground.phase},{on:=6,ground:=Ground.phase},{on:=7,ground:=Ground.phase},{on:=8,ground:=Ground.phase},{on:=9,ground:=Ground.textOnly Departure.lateStores},{on:=10,ground:=Ground.textOnly Departure.lateStores},{on:=11,ground:=Ground.textOnly Departure.lateStores},{on:=12,ground:=Ground.textOnly Departure.lateStoresUnsure},{on:=13,ground:=Ground.phase}],guard:=none}
def zc0:Oper:={dst:=none,op:=Op.store 41 (Operand.tmp 119) (Operand.tmp 111),type:=0,pos := "made.go:190",after:=#[{on:=16,ground:=Ground.data},{on:=8,ground:=Ground.data},{on:=13,ground:=Ground.chain},{on:=0,ground:=Ground.phase},{on:=1,ground:=Ground.phase},{on:=2,ground:=Ground.phase},{on:=3,ground:=Ground.phase},{on:=4,ground:=Ground.phase},{on:=5,ground:=Ground.phase},{on:=6,ground:=Ground.phase},{on:=7,ground:=Ground.phase},{on:=8,ground:=Ground.phase},{on:=9,ground:=Ground.textOnly Departure.lateStores},{on:=10,ground:=Ground.textOnly Departure.lateStores},{on:=11,ground:=Ground.textOnly Departure.lateStores},{on:=12,ground:=Ground.textOnly Departure.lateStoresUnsure},{on:=13,ground:=Ground.phase}],guard:=none}
def zbZ:Oper:={dst:=some 7,op:=Op.assign (Operand.tmp 116),type:=26,pos := "made.go:190",after:=#[{on:=13,ground:=Ground.data},{on:=17,ground:=Ground.chain},{on:=0,ground:=Ground.phase},{on:=1,ground:=Ground.phase},{on:=2,ground:=Ground.phase},{on:=3,ground:=Ground.phase},{on:=4,ground:=Ground.phase},{on:=5,ground:=Ground.phase},{on:=6,ground:=Ground.phase},{on:=7,ground:=Ground.phase},{on:=8,ground:=Ground.phase},{on:=9,ground:=Ground.phase},{on:=10,ground:=Ground.phase},{on:=11,ground:=Ground.phase},{on:=12,ground:=Ground.phase},{on:=13,ground:=Ground.phase},{on:=14,ground:=Ground.phase},{on:=15,ground:=Ground.phase},{on:=16,ground:=Ground.phase},{on:=17,ground:=Ground.phase}],guard:=none}
set_option maxRecDepth 100000 in
set_option maxHeartbeats 8000000 in
theorem pgLoop2 {w w4:World} {g n:Nat} {ys:List Int} {ar:Bool} {PM:List Mx} {vM:Value} {R:Act→World→Prop} {u0 u1 u2 u4 u5 u6 a2 a3 a4 a5 a6 a7 a8 a9 aa ab ac ad ae af ag ah ai aj ak al am an ao ap aq au av aw ax ay az aA aB aC aD aE aF aH aI aJ aK aL aM aN aO aP aQ aR aS aT aU aW aX aY aZ b2 b3 b4 b5 b6 b7 b8 b9 ba bb bc bd be bf bg bh bi bj bk bl bm bn bo bp bq br bs bt bu bv bw bx bz bA bB bC bD bE bF bG bH bI bJ bK bL bM bN bO bP bQ bR bS bT bU bV bW bX bY bZ c0 c1 c2 c3 c4 c5 c6 c7 c8 c9 cb cc cd ce cf cg ch ci cj ck cl cm cn co cp cq cr ct cu cv cw cx cy cz cA cB cC cD cE cF cH cI cJ cK cL cM cN cO cP cQ cR cS cT cU cV cW cX cY cZ d0 d1 d2 d3 d4 d5 d6 d7 d8 d9 da db dc dd de df dg dh di dj dk dl dm dn dp dq dr ds dt du dv dw dx dy dz dA dB dC dD dE dF dG dH dI dJ dK dL dM dN dO dP dQ dR dS dT dU dV dW dX dY dZ e0 e1 e2 e3 e4 e5 e6 e7 e8 e9 ea eb ec ed ee ef eg eh ei ej:Value} (HGE:Hid (g=w.heap.size+1+1)) (hn4:n<3) (HL1:Hid (ML2 w g ys ar PM vM 0 (.slice none 0 0) w4))
  (HQQ:Hid (∀(x4 x5 x6 x8 x9 ek el em en eo ep eq er es et eu ev ew ex ey ez eA eB eC eD eE eF eG eH eI eJ eK eL eM eN eO eP eQ eR eS eT eU eV eW eX eY eZ f0 f1 f2 f3 f4 f5 f6 f7 f8 f9 fa fb fc fd fe ff fg fh fi fj fk fl fm fn fo fp fq fr fs ft fu fv fw fx fy fz fA fB fC fD fE fF fG fH fI fJ fK fL fM fN fO fP fQ fR fS fT fU fV fW fX fY fZ g0 g1 g2 g3 g4 g5 g6 g7 g8 g9 ga gb gc gd ge gf gg gh gi gj gk gl gm gn gp gq gs gt gu gv gw gx gy gz gA gB gC gD gE gF gH gI gJ gK gL gM gN gO gP gQ gR gS gT gU gW gX gY gZ h0 h1 h2 h3 h4 h5 h6 h7 h8 h9 ha hb hc hd he hf hg hh hi hj hl hm hn ho hp hq hr hs ht hu hv hw hx hy hz hA hB hC hD hE hF hG hH hI hJ hM hN hO hP hQ hR hU hV hW hX hY hZ i2 i3 i4 i6 i7 i8 i9 ia ib ic id ie ig ih ii ij ik il im io ip iq ir it iu iv iw ix iy iz iA iB iC iD iE vv:Value) (w':World),ML2 w g ys ar PM vM n vv w'→R {tmps:=#[u0,u1,u2,.pointer (some ⟨g,0,none⟩),x4,x5,x6,vv,x8,x9,ek,el,em,en,eo,ep,eq,er,es,et,eu,ev,ew,ex,ey,ez,eA,eB,eC,eD,eE,eF,eG,eH,eI,eJ,eK,eL,eM,eN,eO,eP,eQ,eR,eS,eT,eU,eV,eW,eX,eY,eZ,f0,f1,f2,f3,f4,f5,f6,f7,f8,f9,fa,fb,fc,fd,fe,ff,fg,fh,fi,fj,fk,fl,fm,fn,fo,fp,fq,fr,fs,ft,fu,fv,fw,fx,fy,fz,fA,fB,fC,fD,fE,fF,fG,fH,fI,fJ,fK,fL,fM,fN,fO,fP,fQ,fR,fS,fT,fU,fV,fW,fX,fY,fZ,g0,g1,g2,g3,g4,g5,g6,g7,g8,g9,ga,gb,gc,gd,ge,gf,gg,gh,gi,gj,gk,gl,gm,gn,gp,gq,gs,gt,gu,gv,gw,gx,gy,gz,gA,gB,gC,gD,gE,gF,gH,gI,gJ,gK,gL,gM,gN,gO,gP,gQ,gR,gS,gT,gU,gW,gX,gY,gZ,h0,h1,h2,h3,h4,h5,h6,h7,h8,h9,ha,hb,hc,hd,he,hf,hg,hh,hi,hj,hl,hm,hn,ho,hp,hq,hr,hs,ht,hu,hv,hw,hx,hy,hz,hA,hB,hC,hD,hE,hF,hG,hH,hI,hJ,hM,hN,hO,hP,hQ,hR,hU,hV,hW,hX,hY,hZ,i2,i3,i4,i6,i7,i8,i9,ia,ib,ic,id,ie,ig,ih,ii,ij,ik,il,im,io,ip,iq,ir,it,iu,iv,iw,ix,iy,iz,iA,iB,iC,iD,iE],defers:=[]} w')) :
  (nav [true,true,true,true,true,false,true,false] (Tryz.f14.body.getD .skip)).wp Tryz.prog (Exit.inBlock 3 (Nrm R)) {tmps:=#[u0,u1,u2,.pointer (some ⟨g,0,none⟩),u4,u5,u6,.slice none 0 0,.int .i64 0,.int .i64 (n:Int),a2,a3,a4,a5,a6,a7,a8,a9,aa,ab,ac,ad,ae,af,ag,ah,ai,aj,ak,al,am,an,ao,ap,aq,au,av,aw,ax,ay,az,aA,aB,aC,aD,aE,aF,aH,aI,aJ,aK,aL,aM,aN,aO,aP,aQ,aR,aS,aT,aU,aW,aX,aY,aZ,b2,b3,b4,b5,b6,b7,b8,b9,ba,bb,bc,bd,be,bf,bg,bh,bi,bj,bk,bl,bm,bn,bo,bp,bq,br,bs,bt,bu,bv,bw,bx,bz,bA,bB,bC,bD,bE,bF,bG,bH,bI,bJ,bK,bL,bM,bN,bO,bP,bQ,bR,bS,bT,bU,bV,bW,bX,bY,bZ,c0,c1,c2,c3,c4,c5,c6,c7,c8,c9,cb,cc,cd,ce,cf,cg,ch,ci,cj,ck,cl,cm,cn,co,cp,cq,cr,ct,cu,cv,cw,cx,cy,cz,cA,cB,cC,cD,cE,cF,cH,cI,cJ,cK,cL,cM,cN,cO,cP,cQ,cR,cS,cT,cU,cV,cW,cX,cY,cZ,d0,d1,d2,d3,d4,d5,d6,d7,d8,d9,da,db,dc,dd,de,df,dg,dh,di,dj,dk,dl,dm,dn,dp,dq,dr,ds,dt,du,dv,dw,dx,dy,dz,dA,dB,dC,dD,dE,dF,dG,dH,dI,dJ,dK,dL,dM,dN,dO,dP,dQ,dR,dS,dT,dU,dV,dW,dX,dY,dZ,e0,e1,e2,e3,e4,e5,e6,e7,e8,e9,ea,eb,ec,ed,ee,ef,eg,eh,ei,ej],defers:=[]} w4:=by
 obtain⟨iG,hiG,hgG0,hgG1,hgG2⟩:=info_parts Tryz.infoGl;obtain⟨i0,hi0,hz0,hz1,hz2⟩:=info_parts Tryz.infoStr;dsimp only[nav,Tryz.f14,Option.getD]
 go_loopw [7,8,10] (fun vv i _ wr=>∃k:Nat,k≤n∧i=.int .i64 k∧Hid (ML2 w g ys ar PM vM k vv wr)) (fun _ i _ _=>n-(intOf i).toNat)
 case atStart=>exact⟨0,Nat.zero_le _,rfl,HL1⟩
 case round =>
  clear HL1;obtain⟨k,hk,rfl,hL⟩:=hrel;by_cases hlt:k<n
  ·
   obtain⟨PG,AG,vA,cG,vc,i,hPk,hvv,hGo,hS⟩:=hL.out;subst hvv;have HS:=zH hS;have HGO:=zH hGo;have hkl:PG.length≤8:=by omega
   subst hPk;obtain⟨s0,-,-,-,-,sf,sl⟩:=HS.out.cells;clear hL hGo hS sf;have hch:=chr48 PG.length (by omega);have hch2:IntKind.u8.wrap (IntKind.i64.wrap (48+(PG.length:Int)))=((UInt8.ofNat (48+PG.length)).toNat:Int):=by rw[IntWalk.i64_in _ (by omega)];exact hch
   have i1:(PG.length:Int)<(n:Int):=by omega
   obtain⟨ca,hca⟩:∃ca,ca=UInt8.ofNat (48+PG.length):=⟨_,rfl⟩;rw[←hca] at hch hch2;have HCA:Hid ([103,ca]=[103,UInt8.ofNat (48+PG.length)]):=by show _=_;rw[hca]
   clear hca;have hq1:w.heap.size+1<wr.heap.size:=by have:=HGE.out;omega
   have hgT0:g≠wr.heap.size:=by omega
   have hgT1:g≠wr.heap.size+1:=by omega
   have happ1:(({data:=#[103]}:ByteArray)++{data:=#[ca]})=⟨#[103,ca]⟩:=rfl;go_wp2_with fail
   go_cut [10] from 90 to 102 (fun s10 wx=>∃T v i5:Nat,s10=.pointer (some ⟨T,0,none⟩)∧v<5∧NwP w wr ys i5 T (.string ⟨#[103,ca]⟩) (.int .i64 ((v:Int)-2)) 90 wx)
   case first =>
    have cv1:(convert 23 9 (.slice (some ⟨wr.heap.size,0,none⟩) 1 1)).run Tryz.prog ((wr.alloc (.cells #[.int .u8 (ca.toNat:Int)] 5)).drew)=.ok (.string ⟨#[ca]⟩) ((wr.alloc (.cells #[.int .u8 (ca.toNat:Int)] 5)).drew):=zaw ca _ _ _ (NewsAt.drew (NewsAt.alloc wr _ rfl _ _));have cv2:(convert 23 9 (.slice (some ⟨wr.heap.size,0,none⟩) 1 1)).run Tryz.prog (((wr.alloc (.cells #[.int .u8 (ca.toNat:Int)] 5)).alloc (.cells #[.string ⟨#[]⟩,.int .i64 0] 90)).drew)=.ok (.string ⟨#[ca]⟩) (((wr.alloc (.cells #[.int .u8 (ca.toNat:Int)] 5)).alloc (.cells #[.string ⟨#[]⟩,.int .i64 0] 90)).drew):=zaw ca _ _ _ (NewsAt.drew (NewsAt.alc (.cells #[.string ⟨#[]⟩,.int .i64 0] 90) (NewsAt.alloc wr _ rfl _ _)));have cv3:(convert 23 9 (.slice (some ⟨wr.heap.size+1,0,none⟩) 1 1)).run Tryz.prog (((wr.alloc (.cells #[.string ⟨#[]⟩,.int .i64 0] 90)).alloc (.cells #[.int .u8 (ca.toNat:Int)] 5)).drew)=.ok (.string ⟨#[ca]⟩) (((wr.alloc (.cells #[.string ⟨#[]⟩,.int .i64 0] 90)).alloc (.cells #[.int .u8 (ca.toNat:Int)] 5)).drew):=zaw ca _ _ _ (NewsAt.drew (NewsAt.alloc (wr.alloc (.cells #[.string ⟨#[]⟩,.int .i64 0] 90)) _ (by simp) _ _));go_region_law (first
     | (go_simp;go_at_call 32;refine(zaq _ (w.heap.size+1) ys i 5 (by with_reducible first|exact PwR.src (PwR.drew HS.out)|exact PwR.src (PwR.drew (PwR.alloc HS.out _))|exact PwR.src (PwR.drew (PwR.alloc (PwR.alloc HS.out _) _))|exact PwR.src (PwR.alloc (PwR.alloc HS.out _) _)|exact PwR.src (PwR.alloc HS.out _)) (by omega) (by omega)).mono ?_;rintro e w5 ⟨rfl,hS5,hG5⟩;rw[show (5:Int).toNat=5 from rfl];have hGx:=zaB hG5;have hG6:wr.grownBy w5 (some (w.heap.size+1)):=(by with_reducible first|exact hGx|exact za6 hGx|exact za6 (za6 hGx));(first|(with_reducible have hNb:NewsAt w5 (wr.heap.size+1) [.int .u8 (ca.toNat:Int)]:=zd0 (zd2 hGx hq1);have cv8:=zaw ca w5 _ 1 hNb;have cv9:=zaw ca (w5.alloc (.cells #[.string ⟨#[]⟩,.int .i64 0] 90)) _ 1 (NewsAt.alc _ hNb))|(with_reducible have hNb:NewsAt w5 wr.heap.size [.int .u8 (ca.toNat:Int)]:=zd0 (zd3 hGx hq1);have cv8:=zaw ca w5 _ 1 hNb;have cv9:=zaw ca (w5.alloc (.cells #[.string ⟨#[]⟩,.int .i64 0] 90)) _ 1 (NewsAt.alc _ hNb))|(with_reducible have hNb:NewsAt w5 wr.heap.size [.int .u8 (ca.toNat:Int)]:=zd0 (zdq hGx hq1);have cv8:=zaw ca w5 _ 1 hNb;have cv9:=zaw ca (w5.alloc (.cells #[.string ⟨#[]⟩,.int .i64 0] 90)) _ 1 (NewsAt.alc _ hNb))|skip);(first|(with_reducible have hTz:w5.heap[wr.heap.size+1]?=some (.cells #[.string ⟨#[]⟩,.int .i64 0] 90 (0,0)):=zd2 hGx hq1;obtain⟨t0,t1,tf0,tf1⟩:=zaV hTz;have HTz:=zH hTz)|(with_reducible have hTz:w5.heap[wr.heap.size]?=some (.cells #[.string ⟨#[]⟩,.int .i64 0] 90 (0,0)):=zd3 hGx hq1;obtain⟨t0,t1,tf0,tf1⟩:=zaV hTz;have HTz:=zH hTz)|(with_reducible have hTz:w5.heap[wr.heap.size]?=some (.cells #[.string ⟨#[]⟩,.int .i64 0] 90 (0,0)):=zdq hGx hq1;obtain⟨t0,t1,tf0,tf1⟩:=zaV hTz;have HTz:=zH hTz;obtain⟨a0,a1,af0,af1⟩:=zaV (zae (.cells #[.int .u8 (ca.toNat:Int)] 5) hTz))|skip);have cv5:(convert 23 9 (.slice (some ⟨w5.heap.size,0,none⟩) 1 1)).run Tryz.prog (w5.alloc (.cells #[.int .u8 (ca.toNat:Int)] 5))=.ok (.string ⟨#[ca]⟩) (w5.alloc (.cells #[.int .u8 (ca.toNat:Int)] 5)):=zaw ca _ _ _ (NewsAt.alloc w5 _ rfl _ _);have cv6:(convert 23 9 (.slice (some ⟨w5.heap.size,0,none⟩) 1 1)).run Tryz.prog ((w5.alloc (.cells #[.int .u8 (ca.toNat:Int)] 5)).alloc (.cells #[.string ⟨#[]⟩,.int .i64 0] 90))=.ok (.string ⟨#[ca]⟩) ((w5.alloc (.cells #[.int .u8 (ca.toNat:Int)] 5)).alloc (.cells #[.string ⟨#[]⟩,.int .i64 0] 90)):=zaw ca _ _ _ (NewsAt.alc (.cells #[.string ⟨#[]⟩,.int .i64 0] 90) (NewsAt.alloc w5 _ rfl _ _));have cv7:(convert 23 9 (.slice (some ⟨w5.heap.size+1,0,none⟩) 1 1)).run Tryz.prog ((w5.alloc (.cells #[.string ⟨#[]⟩,.int .i64 0] 90)).alloc (.cells #[.int .u8 (ca.toNat:Int)] 5))=.ok (.string ⟨#[ca]⟩) ((w5.alloc (.cells #[.string ⟨#[]⟩,.int .i64 0] 90)).alloc (.cells #[.int .u8 (ca.toNat:Int)] 5)):=zaw ca _ _ _ (NewsAt.alloc (w5.alloc (.cells #[.string ⟨#[]⟩,.int .i64 0] 90)) _ (by simp) _ _);have hv5:=zav ys i 5 (by omega);have HS5:=zH hS5;have HG5:=zH hG6;have s5:=(HS.out.next hS5 hG6).cells.1;obtain⟨b0,b1,bf0,bf1⟩:=zaV (zae (.cells #[.int .u8 (ca.toNat:Int)] 5) (heap_alloc_new w5 (.cells #[.string ⟨#[]⟩,.int .i64 0] 90)));generalize zad ys i 5=v at *;generalize zaf ys i=i5 at *;have hwv:IntKind.i64.wrap ((v:Int)-2)=(v:Int)-2:=IntWalk.i64_in _ (by omega);have hgW0:g≠w5.heap.size:=(by have:=hG6.size;omega);have hgW1:g≠w5.heap.size+1:=(by have:=hG6.size;omega);dsimp only))
    all_goals
     go_wp2_with fail
     go_meet
     refine⟨_,v,i5,rfl,hv5,?_⟩
     first
      | with_reducible exact zd8 HS5.out HG5.out hq1 HTz.out (lR _)
      | with_reducible exact zd8 HS5.out HG5.out hq1 HTz.out (Nat.le_succ _)
      | with_reducible exact zd8 (zcc _ HS5.out) (zag HG5.out _) hq1 (zae _ HTz.out) (lR _)
      | with_reducible exact zd8 (zcc _ HS5.out) (zag HG5.out _) hq1 (zae _ HTz.out) (Nat.le_succ _)
      | with_reducible exact zfW HS5.out HG5.out
      | with_reducible exact ziz _ HS5.out HG5.out
      | with_reducible exact NwP.alc (zfW HS5.out HG5.out) _
      | with_reducible exact zd8 (zcc _ (zcc _ HS5.out)) (zag (zag HG5.out _) _) hq1 (zae _ (heap_alloc_new _ _)) HG5.out.size
   case rest =>
    obtain⟨T,v,i5,rfl,hv5,hNw⟩:=hcut;have HSx:=zH (HS.out.next hNw.src hNw.gr);have HTx:=zH hNw.t;obtain⟨p0,p1,-,-,-,pf,pl⟩:=HSx.out.cells;obtain⟨t0,t1,-,-⟩:=zaV HTx.out;have pf1:=pf 1;have hTg:T≠g:=by have:=hNw.hT;omega
    have hTl:=lt_of_block HTx.out;have HLV:Hid ((PG.map (·.name)).length=PG.length):=List.length_map ..;have HNG2:Hid (NewsAt ((wc.alloc (.cells #[.string ⟨#[103,ca]⟩,.int .i64 ((v:Int)-2)] 90)).alloc (.cells #[.string ⟨#[103,ca]⟩] 9)) wc.heap.size [.string ⟨#[103,ca]⟩,.int .i64 ((v:Int)-2)]):=NewsAt.keep (NewsAt.alloc wc _ rfl _ _) (Below.heap_alloc _ _ _ (by simp));have HNV2:Hid (NewsAt ((wc.alloc (.cells #[.string ⟨#[103,ca]⟩,.int .i64 ((v:Int)-2)] 90)).alloc (.cells #[.string ⟨#[103,ca]⟩] 9)) (wc.heap.size+1) [.string ⟨#[103,ca]⟩]):=NewsAt.alloc _ _ (by simp) _ _;have HNV3:Hid (NewsAt ((wc.alloc (.cells #[.string ⟨#[103,ca]⟩] 9)).alloc (.cells #[.string ⟨#[103,ca]⟩,.int .i64 ((v:Int)-2)] 90)) wc.heap.size [.string ⟨#[103,ca]⟩]):=NewsAt.keep (NewsAt.alloc wc _ rfl _ _) (Below.heap_alloc _ _ _ (by simp));have HNG3:Hid (NewsAt ((wc.alloc (.cells #[.string ⟨#[103,ca]⟩] 9)).alloc (.cells #[.string ⟨#[103,ca]⟩,.int .i64 ((v:Int)-2)] 90)) (wc.heap.size+1) [.string ⟨#[103,ca]⟩,.int .i64 ((v:Int)-2)]):=NewsAt.alloc _ _ (by simp) _ _;have HGl:=zH HSx.out.p.rG.lt;have HVl:=zH HSx.out.v.lt;have HTG:Hid (some T≠(Value.slice AG PG.length cG).ownBlock):=fun e=>by have:=(HS.out.p.rG.lt _ e.symm).2;have:=hNw.hT;omega
    have HTV:Hid (some T≠(Value.slice vA PG.length vc).ownBlock):=fun e=>by have:=(HS.out.v.lt _ e.symm).2;have:=hNw.hT;omega
    clear hNw pf;go_wp2_with fail;refine wp_region_held_drew (S:=fun w'=>w'.cell? ⟨T,0,none⟩=some (.string ⟨#[103,ca]⟩)∧w'.cell? ⟨T,1,none⟩=some (.int .i64 ((v:Int)-2))) (by kernel_rfl) (by refine⟨?_,?_⟩<;>repeat (first|with_reducible assumption|with_reducible refine za9 _ ?_|with_reducible refine za8 ?_|with_reducible refine za7 hTg ?_)) (fun hHeld=>?_);refine wpAnyH_take (i:=0) (oi:=opB0) (v:=?_) rfl (by kernel_rfl) (by kernel_rfl) (by kernel_rfl) (fun _ _ _ h=>h) (Or.inl ⟨by rfl,?y1⟩) (by assumption) ?ry1
    case y1=>intro wz hSw;(try dsimp only at hSw);dsimp only[opB0];go_simp;(try with_reducible rfl)
    try simp only[opB0,Act.put,zS,zZ,zT]
    refine wpAnyH_take (i:=1) (oi:=opB1) (v:=?_) rfl (by kernel_rfl) (by kernel_rfl) (by kernel_rfl) (fun _ _ _ h=>h) (Or.inl ⟨by rfl,?y2⟩) (by assumption) ?ry2
    case y2=>intro wz hSw;(try dsimp only at hSw);dsimp only[opB1];go_simp;(try with_reducible rfl)
    try simp only[opB1,Act.put,zS,zZ,zT]
    refine wpAnyH_take (i:=2) (oi:=opB2) (v:=?_) rfl (by kernel_rfl) (by kernel_rfl) (by kernel_rfl) (fun _ _ _ h=>h) (Or.inl ⟨by rfl,?y3⟩) (by assumption) ?ry3
    case y3=>intro wz hSw;(try dsimp only at hSw);dsimp only[opB2];go_simp;(try with_reducible rfl)
    try simp only[opB2,Act.put,zS,zZ,zT]
    refine wpAnyH_take (i:=3) (oi:=opB3) (v:=?_) rfl (by kernel_rfl) (by kernel_rfl) (by kernel_rfl) (fun _ _ _ h=>h) (Or.inl ⟨by rfl,?y4⟩) (by assumption) ?ry4
    case y4=>intro wz hSw;(try dsimp only at hSw);dsimp only[opB3];go_simp;(try with_reducible rfl)
    try simp only[opB3,Act.put,zS,zZ,zT]
    refine wpAnyH_take (i:=4) (oi:=opB4) (v:=?_) rfl (by kernel_rfl) (by kernel_rfl) (by kernel_rfl) (fun _ _ _ h=>h) (Or.inl ⟨by rfl,?y5⟩) (by assumption) ?ry5
    case y5=>intro wz hSw;(try dsimp only at hSw);dsimp only[opB4];go_simp;(try with_reducible rfl)
    try simp only[opB4,Act.put,zS,zZ,zT]
    refine wpAnyH_take (i:=6) (oi:=opB6) (v:=?_) rfl (by kernel_rfl) (by kernel_rfl) (by kernel_rfl) (fun _ _ _ h=>h) (Or.inl ⟨by rfl,?y6⟩) (by assumption) ?ry6
    case y6=>intro wz hSw;(try dsimp only at hSw);dsimp only[opB6];go_simp;(try with_reducible rfl)
    try simp only[opB6,Act.put,zS,zZ,zT]
    refine wpAnyH_take (i:=9) (oi:=opB9) (v:=?_) rfl (by kernel_rfl) (by kernel_rfl) (by kernel_rfl) (fun _ _ _ h=>h) (Or.inl ⟨by rfl,?y7⟩) (by assumption) ?ry7
    case y7=>intro wz hSw;(try dsimp only at hSw);dsimp only[opB9];go_simp;(try with_reducible rfl)
    try simp only[opB9,Act.put,zS,zZ,zT]
    refine wpAnyH_take (i:=10) (oi:=opB10) (v:=?_) rfl (by kernel_rfl) (by kernel_rfl) (by kernel_rfl) (fun _ _ _ h=>h) (Or.inl ⟨by rfl,?y8⟩) (by assumption) ?ry8
    case y8=>intro wz hSw;(try dsimp only at hSw);dsimp only[opB10];go_simp;(try with_reducible rfl)
    try simp only[opB10,Act.put,zS,zZ,zT]
    refine wpAnyH_take (i:=11) (oi:=opB11) (v:=?_) rfl (by kernel_rfl) (by kernel_rfl) (by kernel_rfl) (fun _ _ _ h=>h) (Or.inl ⟨by rfl,?y9⟩) (by assumption) ?ry9
    case y9=>intro wz hSw;(try dsimp only at hSw);dsimp only[opB11];go_simp;(try with_reducible rfl)
    try simp only[opB11,Act.put,zS,zZ,zT]
    refine wpAnyH_ready (rs:=[5,7,12]) (by kernel_rfl) (by simp) ?_;refine AllReadyH.cons (o:=opB5) rfl (fun K hK=>?_) ?_
    ·
     dsimp only[opB5];go_simp;refine hK.out _ _ (by refine⟨?_,?_⟩<;>repeat (first|with_reducible assumption|with_reducible refine za9 _ ?_|with_reducible refine za8 ?_|with_reducible refine za7 hTg ?_)) (fun hHeld=>?_);clear hK K
     try simp only[opB5,Act.put,zS,zZ,zT]
     refine wpAnyH_ready (rs:=[7,12]) (by kernel_rfl) (by simp) ?_;refine AllReadyH.cons (o:=opB7) rfl (fun K hK=>?_) ?_
     ·
      dsimp only[opB7];go_simp;refine hK.out _ _ (by refine⟨?_,?_⟩<;>repeat (first|with_reducible assumption|with_reducible refine za9 _ ?_|with_reducible refine za8 ?_|with_reducible refine za7 hTg ?_)) (fun hHeld=>?_);clear hK K
      try simp only[opB7,Act.put,zS,zZ,zT]
      refine wpAnyH_ready (rs:=[8,12]) (by kernel_rfl) (by simp) ?_;refine AllReadyH.cons (o:=opB8) rfl (fun K hK=>?_) ?_
      ·
       delta opB8;(refine step_append_lies _ (by rfl) _ _ _ (by rfl) (g+1) 90 iG _ 2 24 Tryz.underlying41 hiG hgG0 hgG1 hgG2 rfl (by decide) (.slice AG PG.length cG) PG.length (glK.cs PG) (by rfl) (PwR.drew (PwR.alloc HSx.out (.cells #[.string ⟨#[103,ca]⟩,.int .i64 ((v:Int)-2)] 90))).p.rG ⟨wc.heap.size,0,none⟩ 1 1 [.string ⟨#[103,ca]⟩,.int .i64 ((v:Int)-2)] (by rfl) (by rfl) (NewsAt.drew (NewsAt.alloc wc _ rfl _ _)) (glK.one (⟨[103,ca],(v:Int)-2⟩:Gl)) (by omega) (by unfold maxLen;omega) (by omega) (by have:=(PwR.drew (PwR.alloc HSx.out (.cells #[.string ⟨#[103,ca]⟩,.int .i64 ((v:Int)-2)] 90))).cells.2.2.2.2.2.2;omega) _ rfl ?_;intro gG capG w7 hownG hgrowG hliesG hglG;obtain⟨k0,k1,-,-,kf⟩:=(PwR.drew (PwR.alloc HSx.out (.cells #[.string ⟨#[103,ca]⟩,.int .i64 ((v:Int)-2)] 90))).kg (PwR.drew (PwR.alloc HSx.out (.cells #[.string ⟨#[103,ca]⟩,.int .i64 ((v:Int)-2)] 90))).p.rG hgrowG;have kf1:=kf 1;clear kf;have HT7:=zH ((hgrowG.block T (lt_of_block (zae (.cells #[.string ⟨#[103,ca]⟩,.int .i64 ((v:Int)-2)] 90) HTx.out)) HTG.out).trans (zae (.cells #[.string ⟨#[103,ca]⟩,.int .i64 ((v:Int)-2)] 90) HTx.out));obtain⟨t0,t1,-,-⟩:=zaV HT7.out;have hTl7:=lt_of_block HT7.out;have HSg:=zH (PwR.aG (PwR.drew (PwR.alloc HSx.out (.cells #[.string ⟨#[103,ca]⟩,.int .i64 ((v:Int)-2)] 90))) (⟨[103,ca],(v:Int)-2⟩:Gl) hownG hgrowG (zah hliesG rfl)));refine hK.out _ _ (by refine⟨?_,?_⟩<;>repeat (first|with_reducible assumption|with_reducible refine za9 _ ?_|with_reducible refine za8 ?_|with_reducible refine za7 hTg ?_)) (fun hHeld=>?_);clear hK K
       try simp only[Act.put,zS,zZ,zT]
       refine wpAnyH_ready (rs:=[12]) (by kernel_rfl) (by simp) ?_;refine AllReadyH.cons (o:=zcl) rfl (fun K hK=>?_) ?_
       ·
        dsimp only[zcl];go_simp;refine hK.out _ _ (by refine⟨?_,?_⟩<;>repeat (first|with_reducible assumption|with_reducible refine za9 _ ?_|with_reducible refine za8 ?_|with_reducible refine za7 hTg ?_)) (fun hHeld=>?_);clear hK K
        try simp only[zcl,Act.put,zS,zZ,zT]
        refine wpAnyH_ready (rs:=[13]) (by kernel_rfl) (by simp) ?_;refine AllReadyH.cons (o:=zd5) rfl (fun K hK=>?_) ?_
        ·
         delta zd5;(refine step_append_lies _ (by rfl) _ _ _ (by rfl) (g+1) 9 i0 _ 1 16 Tryz.underlying26 hi0 hz0 hz1 hz2 rfl (by decide) (.slice vA PG.length vc) PG.length (strK.cs (PG.map (·.name))) (by rfl) (HLV.out▸(PwR.alloc HSg.out (.cells #[.string ⟨#[103,ca]⟩] 9)).v) ⟨w7.heap.size,0,none⟩ 1 1 [.string ⟨#[103,ca]⟩] (by rfl) (by rfl) (NewsAt.alloc w7 _ rfl _ _) (strK.one [103,ca]) (by omega) (by unfold maxLen;omega) (by omega) (by have:=(PwR.alloc HSg.out (.cells #[.string ⟨#[103,ca]⟩] 9)).cells.2.2.2.2.2.2;omega) _ rfl ?_;intro gV capV w8 hownV hgrowV hliesV hglV;obtain⟨k0,k1,-,-,kf⟩:=(PwR.alloc HSg.out (.cells #[.string ⟨#[103,ca]⟩] 9)).kg (PwR.alloc HSg.out (.cells #[.string ⟨#[103,ca]⟩] 9)).v hgrowV;have kf1:=kf 1;clear kf;have HT8:=zH ((hgrowV.block T (lt_of_block (zae (.cells #[.string ⟨#[103,ca]⟩] 9) HT7.out)) HTV.out).trans (zae (.cells #[.string ⟨#[103,ca]⟩] 9) HT7.out));obtain⟨t0,t1,-,-⟩:=zaV HT8.out;have hTl8:=lt_of_block HT8.out;have HSz:=zH (PwR.aV (PwR.alloc HSg.out (.cells #[.string ⟨#[103,ca]⟩] 9)) [103,ca] (HLV.out.symm▸hownV) hgrowV (zah hliesV rfl)));refine hK.out _ _ (by refine⟨?_,?_⟩<;>repeat (first|with_reducible assumption|with_reducible refine za9 _ ?_|with_reducible refine za8 ?_|with_reducible refine za7 hTg ?_)) (fun hHeld=>?_);clear hK K
         try simp only[Act.put,zS,zZ,zT]
         refine wpAnyH_take (i:=14) (oi:=zc3) (v:=?_) rfl (by kernel_rfl) (by kernel_rfl) (by kernel_rfl) (fun _ _ _ h=>h) (Or.inl ⟨by rfl,?y10⟩) (by assumption) ?ry10
         case y10=>intro wz hSw;(try dsimp only at hSw);dsimp only[zc3];go_simp;(try with_reducible rfl)
         try simp only[zc3,Act.put,zS,zZ,zT]
         refine wpAnyH_take (i:=15) (oi:=zc2) (v:=?_) rfl (by kernel_rfl) (by kernel_rfl) (by kernel_rfl) (fun _ _ _ h=>h) (Or.inl ⟨by rfl,?y11⟩) (by assumption) ?ry11
         case y11=>intro wz hSw;(try dsimp only at hSw);dsimp only[zc2];go_simp;(try with_reducible rfl)
         try simp only[zc2,Act.put,zS,zZ,zT]
         refine wpAnyH_take (i:=16) (oi:=zc1) (v:=?_) rfl (by kernel_rfl) (by kernel_rfl) (by kernel_rfl) (fun _ _ _ h=>h) (Or.inl ⟨by rfl,?y12⟩) (by assumption) ?ry12
         case y12=>intro wz hSw;(try dsimp only at hSw);dsimp only[zc1];go_simp;(try with_reducible rfl)
         try simp only[zc1,Act.put,zS,zZ,zT]
         refine wpAnyH_ready (rs:=[17]) (by kernel_rfl) (by simp) ?_;refine AllReadyH.cons (o:=zc0) rfl (fun K hK=>?_) ?_
         ·
          dsimp only[zc0];go_simp;refine hK.out _ _ (by refine⟨?_,?_⟩<;>repeat (first|with_reducible assumption|with_reducible refine za9 _ ?_|with_reducible refine za8 ?_|with_reducible refine za7 hTg ?_)) (fun hHeld=>?_);clear hK K
          try simp only[zc0,Act.put,zS,zZ,zT]
          refine wpAnyH_take (i:=18) (oi:=zbZ) (v:=?_) rfl (by kernel_rfl) (by kernel_rfl) (by kernel_rfl) (fun _ _ _ h=>h) (Or.inl ⟨by rfl,?y13⟩) (by assumption) ?ry13
          case y13=>intro wz hSw;(try dsimp only at hSw);dsimp only[zbZ];go_simp;(try with_reducible rfl)
          try simp only[zbZ,Act.put,zS,zZ,zT]
          refine wpAnyH_done (by kernel_rfl) ?_ _;have HSy:=zH (HSz.out.sG (.slice (some ⟨gG,0,none⟩) (PG.length+1) capG));clear hownG hgrowG hliesG hglG hownV hgrowV hliesV hglV p0 p1 pf1 k0 k1 kf1 t0 t1 HSz HSx HTx;go_wp2_with fail;go_roundw
          case rel =>
           refine⟨PG.length+1,by omega,by go_num,PG++[⟨[103,ca],(v:Int)-2⟩],some ⟨gG,0,none⟩,some ⟨gV,0,none⟩,capG,capV,i5,by simp,by simp,HGO.out.snoc HCA.out (by show (-2:Int)≤(v:Int)-2;omega) (by show (v:Int)-2≤2;omega),?_⟩;rw[List.length_append,List.map_append];have h:=HSy.out;rw[HLV.out] at h;exact h
          case measure=>simp[intOf];omega
         exact AllReadyH.nil
        exact AllReadyH.nil
       exact AllReadyH.nil
      refine AllReadyH.cons (o:=zcl) rfl (fun K hK=>?_) ?_
      ·
       dsimp only[zcl];go_simp;refine hK.out _ _ (by refine⟨?_,?_⟩<;>repeat (first|with_reducible assumption|with_reducible refine za9 _ ?_|with_reducible refine za8 ?_|with_reducible refine za7 hTg ?_)) (fun hHeld=>?_);clear hK K
       try simp only[zcl,Act.put,zS,zZ,zT]
       refine wpAnyH_ready (rs:=[8]) (by kernel_rfl) (by simp) ?_;refine AllReadyH.cons (o:=opB8) rfl (fun K hK=>?_) ?_
       ·
        delta opB8;(refine step_append_lies _ (by rfl) _ _ _ (by rfl) (g+1) 90 iG _ 2 24 Tryz.underlying41 hiG hgG0 hgG1 hgG2 rfl (by decide) (.slice AG PG.length cG) PG.length (glK.cs PG) (by rfl) (PwR.drew (PwR.alloc (PwR.alloc HSx.out (.cells #[.string ⟨#[103,ca]⟩,.int .i64 ((v:Int)-2)] 90)) (.cells #[.string ⟨#[103,ca]⟩] 9))).p.rG ⟨wc.heap.size,0,none⟩ 1 1 [.string ⟨#[103,ca]⟩,.int .i64 ((v:Int)-2)] (by rfl) (by rfl) (HNG2.out) (glK.one (⟨[103,ca],(v:Int)-2⟩:Gl)) (by omega) (by unfold maxLen;omega) (by omega) (by have:=(PwR.drew (PwR.alloc (PwR.alloc HSx.out (.cells #[.string ⟨#[103,ca]⟩,.int .i64 ((v:Int)-2)] 90)) (.cells #[.string ⟨#[103,ca]⟩] 9))).cells.2.2.2.2.2.2;omega) _ rfl ?_;intro gG capG w7 hownG hgrowG hliesG hglG;obtain⟨k0,k1,-,-,kf⟩:=(PwR.drew (PwR.alloc (PwR.alloc HSx.out (.cells #[.string ⟨#[103,ca]⟩,.int .i64 ((v:Int)-2)] 90)) (.cells #[.string ⟨#[103,ca]⟩] 9))).kg (PwR.drew (PwR.alloc (PwR.alloc HSx.out (.cells #[.string ⟨#[103,ca]⟩,.int .i64 ((v:Int)-2)] 90)) (.cells #[.string ⟨#[103,ca]⟩] 9))).p.rG hgrowG;have kf1:=kf 1;clear kf;have HT7:=zH ((hgrowG.block T (lt_of_block (zae (.cells #[.string ⟨#[103,ca]⟩] 9) (zae (.cells #[.string ⟨#[103,ca]⟩,.int .i64 ((v:Int)-2)] 90) HTx.out))) HTG.out).trans (zae (.cells #[.string ⟨#[103,ca]⟩] 9) (zae (.cells #[.string ⟨#[103,ca]⟩,.int .i64 ((v:Int)-2)] 90) HTx.out)));obtain⟨t0,t1,-,-⟩:=zaV HT7.out;have hTl7:=lt_of_block HT7.out;have HSg:=zH (PwR.aG (PwR.drew (PwR.alloc (PwR.alloc HSx.out (.cells #[.string ⟨#[103,ca]⟩,.int .i64 ((v:Int)-2)] 90)) (.cells #[.string ⟨#[103,ca]⟩] 9))) (⟨[103,ca],(v:Int)-2⟩:Gl) hownG hgrowG (zah hliesG rfl));have HNV8:=zH (NewsAt.keep HNV2.out (hgrowG.block (wc.heap.size+1) (by simp;try omega) (fun e=>by have:=(HGl.out _ e.symm).2;omega))));refine hK.out _ _ (by refine⟨?_,?_⟩<;>repeat (first|with_reducible assumption|with_reducible refine za9 _ ?_|with_reducible refine za8 ?_|with_reducible refine za7 hTg ?_)) (fun hHeld=>?_);clear hK K
        try simp only[Act.put,zS,zZ,zT]
        refine wpAnyH_ready (rs:=[13]) (by kernel_rfl) (by simp) ?_;refine AllReadyH.cons (o:=zd5) rfl (fun K hK=>?_) ?_
        ·
         delta zd5;(refine step_append_lies _ (by rfl) _ _ _ (by rfl) (g+1) 9 i0 _ 1 16 Tryz.underlying26 hi0 hz0 hz1 hz2 rfl (by decide) (.slice vA PG.length vc) PG.length (strK.cs (PG.map (·.name))) (by rfl) (HLV.out▸(HSg.out).v) ⟨wc.heap.size+1,0,none⟩ 1 1 [.string ⟨#[103,ca]⟩] (by rfl) (by rfl) (HNV8.out) (strK.one [103,ca]) (by omega) (by unfold maxLen;omega) (by omega) (by have:=(HSg.out).cells.2.2.2.2.2.2;omega) _ rfl ?_;intro gV capV w8 hownV hgrowV hliesV hglV;obtain⟨k0,k1,-,-,kf⟩:=(HSg.out).kg (HSg.out).v hgrowV;have kf1:=kf 1;clear kf;have HT8:=zH ((hgrowV.block T (lt_of_block (HT7.out)) HTV.out).trans (HT7.out));obtain⟨t0,t1,-,-⟩:=zaV HT8.out;have hTl8:=lt_of_block HT8.out;have HSz:=zH (PwR.aV (HSg.out) [103,ca] (HLV.out.symm▸hownV) hgrowV (zah hliesV rfl)));refine hK.out _ _ (by refine⟨?_,?_⟩<;>repeat (first|with_reducible assumption|with_reducible refine za9 _ ?_|with_reducible refine za8 ?_|with_reducible refine za7 hTg ?_)) (fun hHeld=>?_);clear hK K
         try simp only[Act.put,zS,zZ,zT]
         refine wpAnyH_take (i:=14) (oi:=zc3) (v:=?_) rfl (by kernel_rfl) (by kernel_rfl) (by kernel_rfl) (fun _ _ _ h=>h) (Or.inl ⟨by rfl,?y14⟩) (by assumption) ?ry14
         case y14=>intro wz hSw;(try dsimp only at hSw);dsimp only[zc3];go_simp;(try with_reducible rfl)
         try simp only[zc3,Act.put,zS,zZ,zT]
         refine wpAnyH_take (i:=15) (oi:=zc2) (v:=?_) rfl (by kernel_rfl) (by kernel_rfl) (by kernel_rfl) (fun _ _ _ h=>h) (Or.inl ⟨by rfl,?y15⟩) (by assumption) ?ry15
         case y15=>intro wz hSw;(try dsimp only at hSw);dsimp only[zc2];go_simp;(try with_reducible rfl)
         try simp only[zc2,Act.put,zS,zZ,zT]
         refine wpAnyH_take (i:=16) (oi:=zc1) (v:=?_) rfl (by kernel_rfl) (by kernel_rfl) (by kernel_rfl) (fun _ _ _ h=>h) (Or.inl ⟨by rfl,?y16⟩) (by assumption) ?ry16
         case y16=>intro wz hSw;(try dsimp only at hSw);dsimp only[zc1];go_simp;(try with_reducible rfl)
         try simp only[zc1,Act.put,zS,zZ,zT]
         refine wpAnyH_ready (rs:=[17]) (by kernel_rfl) (by simp) ?_;refine AllReadyH.cons (o:=zc0) rfl (fun K hK=>?_) ?_
         ·
          dsimp only[zc0];go_simp;refine hK.out _ _ (by refine⟨?_,?_⟩<;>repeat (first|with_reducible assumption|with_reducible refine za9 _ ?_|with_reducible refine za8 ?_|with_reducible refine za7 hTg ?_)) (fun hHeld=>?_);clear hK K
          try simp only[zc0,Act.put,zS,zZ,zT]
          refine wpAnyH_take (i:=18) (oi:=zbZ) (v:=?_) rfl (by kernel_rfl) (by kernel_rfl) (by kernel_rfl) (fun _ _ _ h=>h) (Or.inl ⟨by rfl,?y17⟩) (by assumption) ?ry17
          case y17=>intro wz hSw;(try dsimp only at hSw);dsimp only[zbZ];go_simp;(try with_reducible rfl)
          try simp only[zbZ,Act.put,zS,zZ,zT]
          refine wpAnyH_done (by kernel_rfl) ?_ _;have HSy:=zH (HSz.out.sG (.slice (some ⟨gG,0,none⟩) (PG.length+1) capG));clear hownG hgrowG hliesG hglG hownV hgrowV hliesV hglV p0 p1 pf1 k0 k1 kf1 t0 t1 HSz HSx HTx;go_wp2_with fail;go_roundw
          case rel =>
           refine⟨PG.length+1,by omega,by go_num,PG++[⟨[103,ca],(v:Int)-2⟩],some ⟨gG,0,none⟩,some ⟨gV,0,none⟩,capG,capV,i5,by simp,by simp,HGO.out.snoc HCA.out (by show (-2:Int)≤(v:Int)-2;omega) (by show (v:Int)-2≤2;omega),?_⟩;rw[List.length_append,List.map_append];have h:=HSy.out;rw[HLV.out] at h;exact h
          case measure=>simp[intOf];omega
         exact AllReadyH.nil
        exact AllReadyH.nil
       exact AllReadyH.nil
      exact AllReadyH.nil
     refine AllReadyH.cons (o:=zcl) rfl (fun K hK=>?_) ?_
     ·
      dsimp only[zcl];go_simp;refine hK.out _ _ (by refine⟨?_,?_⟩<;>repeat (first|with_reducible assumption|with_reducible refine za9 _ ?_|with_reducible refine za8 ?_|with_reducible refine za7 hTg ?_)) (fun hHeld=>?_);clear hK K
      try simp only[zcl,Act.put,zS,zZ,zT]
      refine wpAnyH_ready (rs:=[7]) (by kernel_rfl) (by simp) ?_;refine AllReadyH.cons (o:=opB7) rfl (fun K hK=>?_) ?_
      ·
       dsimp only[opB7];go_simp;refine hK.out _ _ (by refine⟨?_,?_⟩<;>repeat (first|with_reducible assumption|with_reducible refine za9 _ ?_|with_reducible refine za8 ?_|with_reducible refine za7 hTg ?_)) (fun hHeld=>?_);clear hK K
       try simp only[opB7,Act.put,zS,zZ,zT]
       refine wpAnyH_ready (rs:=[8]) (by kernel_rfl) (by simp) ?_;refine AllReadyH.cons (o:=opB8) rfl (fun K hK=>?_) ?_
       ·
        delta opB8;(refine step_append_lies _ (by rfl) _ _ _ (by rfl) (g+1) 90 iG _ 2 24 Tryz.underlying41 hiG hgG0 hgG1 hgG2 rfl (by decide) (.slice AG PG.length cG) PG.length (glK.cs PG) (by rfl) (PwR.drew (PwR.alloc (PwR.alloc HSx.out (.cells #[.string ⟨#[103,ca]⟩] 9)) (.cells #[.string ⟨#[103,ca]⟩,.int .i64 ((v:Int)-2)] 90))).p.rG ⟨wc.heap.size+1,0,none⟩ 1 1 [.string ⟨#[103,ca]⟩,.int .i64 ((v:Int)-2)] (by rfl) (by rfl) (HNG3.out) (glK.one (⟨[103,ca],(v:Int)-2⟩:Gl)) (by omega) (by unfold maxLen;omega) (by omega) (by have:=(PwR.drew (PwR.alloc (PwR.alloc HSx.out (.cells #[.string ⟨#[103,ca]⟩] 9)) (.cells #[.string ⟨#[103,ca]⟩,.int .i64 ((v:Int)-2)] 90))).cells.2.2.2.2.2.2;omega) _ rfl ?_;intro gG capG w7 hownG hgrowG hliesG hglG;obtain⟨k0,k1,-,-,kf⟩:=(PwR.drew (PwR.alloc (PwR.alloc HSx.out (.cells #[.string ⟨#[103,ca]⟩] 9)) (.cells #[.string ⟨#[103,ca]⟩,.int .i64 ((v:Int)-2)] 90))).kg (PwR.drew (PwR.alloc (PwR.alloc HSx.out (.cells #[.string ⟨#[103,ca]⟩] 9)) (.cells #[.string ⟨#[103,ca]⟩,.int .i64 ((v:Int)-2)] 90))).p.rG hgrowG;have kf1:=kf 1;clear kf;have HT7:=zH ((hgrowG.block T (lt_of_block (zae (.cells #[.string ⟨#[103,ca]⟩,.int .i64 ((v:Int)-2)] 90) (zae (.cells #[.string ⟨#[103,ca]⟩] 9) HTx.out))) HTG.out).trans (zae (.cells #[.string ⟨#[103,ca]⟩,.int .i64 ((v:Int)-2)] 90) (zae (.cells #[.string ⟨#[103,ca]⟩] 9) HTx.out)));obtain⟨t0,t1,-,-⟩:=zaV HT7.out;have hTl7:=lt_of_block HT7.out;have HSg:=zH (PwR.aG (PwR.drew (PwR.alloc (PwR.alloc HSx.out (.cells #[.string ⟨#[103,ca]⟩] 9)) (.cells #[.string ⟨#[103,ca]⟩,.int .i64 ((v:Int)-2)] 90))) (⟨[103,ca],(v:Int)-2⟩:Gl) hownG hgrowG (zah hliesG rfl));have HNV8:=zH (NewsAt.keep HNV3.out (hgrowG.block (wc.heap.size) (by simp;try omega) (fun e=>by have:=(HGl.out _ e.symm).2;omega))));refine hK.out _ _ (by refine⟨?_,?_⟩<;>repeat (first|with_reducible assumption|with_reducible refine za9 _ ?_|with_reducible refine za8 ?_|with_reducible refine za7 hTg ?_)) (fun hHeld=>?_);clear hK K
        try simp only[Act.put,zS,zZ,zT]
        refine wpAnyH_ready (rs:=[13]) (by kernel_rfl) (by simp) ?_;refine AllReadyH.cons (o:=zd5) rfl (fun K hK=>?_) ?_
        ·
         delta zd5;(refine step_append_lies _ (by rfl) _ _ _ (by rfl) (g+1) 9 i0 _ 1 16 Tryz.underlying26 hi0 hz0 hz1 hz2 rfl (by decide) (.slice vA PG.length vc) PG.length (strK.cs (PG.map (·.name))) (by rfl) (HLV.out▸(HSg.out).v) ⟨wc.heap.size,0,none⟩ 1 1 [.string ⟨#[103,ca]⟩] (by rfl) (by rfl) (HNV8.out) (strK.one [103,ca]) (by omega) (by unfold maxLen;omega) (by omega) (by have:=(HSg.out).cells.2.2.2.2.2.2;omega) _ rfl ?_;intro gV capV w8 hownV hgrowV hliesV hglV;obtain⟨k0,k1,-,-,kf⟩:=(HSg.out).kg (HSg.out).v hgrowV;have kf1:=kf 1;clear kf;have HT8:=zH ((hgrowV.block T (lt_of_block (HT7.out)) HTV.out).trans (HT7.out));obtain⟨t0,t1,-,-⟩:=zaV HT8.out;have hTl8:=lt_of_block HT8.out;have HSz:=zH (PwR.aV (HSg.out) [103,ca] (HLV.out.symm▸hownV) hgrowV (zah hliesV rfl)));refine hK.out _ _ (by refine⟨?_,?_⟩<;>repeat (first|with_reducible assumption|with_reducible refine za9 _ ?_|with_reducible refine za8 ?_|with_reducible refine za7 hTg ?_)) (fun hHeld=>?_);clear hK K
         try simp only[Act.put,zS,zZ,zT]
         refine wpAnyH_take (i:=14) (oi:=zc3) (v:=?_) rfl (by kernel_rfl) (by kernel_rfl) (by kernel_rfl) (fun _ _ _ h=>h) (Or.inl ⟨by rfl,?y18⟩) (by assumption) ?ry18
         case y18=>intro wz hSw;(try dsimp only at hSw);dsimp only[zc3];go_simp;(try with_reducible rfl)
         try simp only[zc3,Act.put,zS,zZ,zT]
         refine wpAnyH_take (i:=15) (oi:=zc2) (v:=?_) rfl (by kernel_rfl) (by kernel_rfl) (by kernel_rfl) (fun _ _ _ h=>h) (Or.inl ⟨by rfl,?y19⟩) (by assumption) ?ry19
         case y19=>intro wz hSw;(try dsimp only at hSw);dsimp only[zc2];go_simp;(try with_reducible rfl)
         try simp only[zc2,Act.put,zS,zZ,zT]
         refine wpAnyH_take (i:=16) (oi:=zc1) (v:=?_) rfl (by kernel_rfl) (by kernel_rfl) (by kernel_rfl) (fun _ _ _ h=>h) (Or.inl ⟨by rfl,?y20⟩) (by assumption) ?ry20
         case y20=>intro wz hSw;(try dsimp only at hSw);dsimp only[zc1];go_simp;(try with_reducible rfl)
         try simp only[zc1,Act.put,zS,zZ,zT]
         refine wpAnyH_ready (rs:=[17]) (by kernel_rfl) (by simp) ?_;refine AllReadyH.cons (o:=zc0) rfl (fun K hK=>?_) ?_
         ·
          dsimp only[zc0];go_simp;refine hK.out _ _ (by refine⟨?_,?_⟩<;>repeat (first|with_reducible assumption|with_reducible refine za9 _ ?_|with_reducible refine za8 ?_|with_reducible refine za7 hTg ?_)) (fun hHeld=>?_);clear hK K
          try simp only[zc0,Act.put,zS,zZ,zT]
          refine wpAnyH_take (i:=18) (oi:=zbZ) (v:=?_) rfl (by kernel_rfl) (by kernel_rfl) (by kernel_rfl) (fun _ _ _ h=>h) (Or.inl ⟨by rfl,?y21⟩) (by assumption) ?ry21
          case y21=>intro wz hSw;(try dsimp only at hSw);dsimp only[zbZ];go_simp;(try with_reducible rfl)
          try simp only[zbZ,Act.put,zS,zZ,zT]
          refine wpAnyH_done (by kernel_rfl) ?_ _;have HSy:=zH (HSz.out.sG (.slice (some ⟨gG,0,none⟩) (PG.length+1) capG));clear hownG hgrowG hliesG hglG hownV hgrowV hliesV hglV p0 p1 pf1 k0 k1 kf1 t0 t1 HSz HSx HTx;go_wp2_with fail;go_roundw
          case rel =>
           refine⟨PG.length+1,by omega,by go_num,PG++[⟨[103,ca],(v:Int)-2⟩],some ⟨gG,0,none⟩,some ⟨gV,0,none⟩,capG,capV,i5,by simp,by simp,HGO.out.snoc HCA.out (by show (-2:Int)≤(v:Int)-2;omega) (by show (v:Int)-2≤2;omega),?_⟩;rw[List.length_append,List.map_append];have h:=HSy.out;rw[HLV.out] at h;exact h
          case measure=>simp[intOf];omega
         exact AllReadyH.nil
        exact AllReadyH.nil
       exact AllReadyH.nil
      exact AllReadyH.nil
     exact AllReadyH.nil
    refine AllReadyH.cons (o:=opB7) rfl (fun K hK=>?_) ?_
    ·
     dsimp only[opB7];go_simp;refine hK.out _ _ (by refine⟨?_,?_⟩<;>repeat (first|with_reducible assumption|with_reducible refine za9 _ ?_|with_reducible refine za8 ?_|with_reducible refine za7 hTg ?_)) (fun hHeld=>?_);clear hK K
     try simp only[opB7,Act.put,zS,zZ,zT]
     refine wpAnyH_ready (rs:=[5,12]) (by kernel_rfl) (by simp) ?_;refine AllReadyH.cons (o:=opB5) rfl (fun K hK=>?_) ?_
     ·
      dsimp only[opB5];go_simp;refine hK.out _ _ (by refine⟨?_,?_⟩<;>repeat (first|with_reducible assumption|with_reducible refine za9 _ ?_|with_reducible refine za8 ?_|with_reducible refine za7 hTg ?_)) (fun hHeld=>?_);clear hK K
      try simp only[opB5,Act.put,zS,zZ,zT]
      refine wpAnyH_ready (rs:=[8,12]) (by kernel_rfl) (by simp) ?_;refine AllReadyH.cons (o:=opB8) rfl (fun K hK=>?_) ?_
      ·
       delta opB8;(refine step_append_lies _ (by rfl) _ _ _ (by rfl) (g+1) 90 iG _ 2 24 Tryz.underlying41 hiG hgG0 hgG1 hgG2 rfl (by decide) (.slice AG PG.length cG) PG.length (glK.cs PG) (by rfl) (PwR.drew (PwR.alloc HSx.out (.cells #[.string ⟨#[103,ca]⟩,.int .i64 ((v:Int)-2)] 90))).p.rG ⟨wc.heap.size,0,none⟩ 1 1 [.string ⟨#[103,ca]⟩,.int .i64 ((v:Int)-2)] (by rfl) (by rfl) (NewsAt.drew (NewsAt.alloc wc _ rfl _ _)) (glK.one (⟨[103,ca],(v:Int)-2⟩:Gl)) (by omega) (by unfold maxLen;omega) (by omega) (by have:=(PwR.drew (PwR.alloc HSx.out (.cells #[.string ⟨#[103,ca]⟩,.int .i64 ((v:Int)-2)] 90))).cells.2.2.2.2.2.2;omega) _ rfl ?_;intro gG capG w7 hownG hgrowG hliesG hglG;obtain⟨k0,k1,-,-,kf⟩:=(PwR.drew (PwR.alloc HSx.out (.cells #[.string ⟨#[103,ca]⟩,.int .i64 ((v:Int)-2)] 90))).kg (PwR.drew (PwR.alloc HSx.out (.cells #[.string ⟨#[103,ca]⟩,.int .i64 ((v:Int)-2)] 90))).p.rG hgrowG;have kf1:=kf 1;clear kf;have HT7:=zH ((hgrowG.block T (lt_of_block (zae (.cells #[.string ⟨#[103,ca]⟩,.int .i64 ((v:Int)-2)] 90) HTx.out)) HTG.out).trans (zae (.cells #[.string ⟨#[103,ca]⟩,.int .i64 ((v:Int)-2)] 90) HTx.out));obtain⟨t0,t1,-,-⟩:=zaV HT7.out;have hTl7:=lt_of_block HT7.out;have HSg:=zH (PwR.aG (PwR.drew (PwR.alloc HSx.out (.cells #[.string ⟨#[103,ca]⟩,.int .i64 ((v:Int)-2)] 90))) (⟨[103,ca],(v:Int)-2⟩:Gl) hownG hgrowG (zah hliesG rfl)));refine hK.out _ _ (by refine⟨?_,?_⟩<;>repeat (first|with_reducible assumption|with_reducible refine za9 _ ?_|with_reducible refine za8 ?_|with_reducible refine za7 hTg ?_)) (fun hHeld=>?_);clear hK K
       try simp only[Act.put,zS,zZ,zT]
       refine wpAnyH_ready (rs:=[12]) (by kernel_rfl) (by simp) ?_;refine AllReadyH.cons (o:=zcl) rfl (fun K hK=>?_) ?_
       ·
        dsimp only[zcl];go_simp;refine hK.out _ _ (by refine⟨?_,?_⟩<;>repeat (first|with_reducible assumption|with_reducible refine za9 _ ?_|with_reducible refine za8 ?_|with_reducible refine za7 hTg ?_)) (fun hHeld=>?_);clear hK K
        try simp only[zcl,Act.put,zS,zZ,zT]
        refine wpAnyH_ready (rs:=[13]) (by kernel_rfl) (by simp) ?_;refine AllReadyH.cons (o:=zd5) rfl (fun K hK=>?_) ?_
        ·
         delta zd5;(refine step_append_lies _ (by rfl) _ _ _ (by rfl) (g+1) 9 i0 _ 1 16 Tryz.underlying26 hi0 hz0 hz1 hz2 rfl (by decide) (.slice vA PG.length vc) PG.length (strK.cs (PG.map (·.name))) (by rfl) (HLV.out▸(PwR.alloc HSg.out (.cells #[.string ⟨#[103,ca]⟩] 9)).v) ⟨w7.heap.size,0,none⟩ 1 1 [.string ⟨#[103,ca]⟩] (by rfl) (by rfl) (NewsAt.alloc w7 _ rfl _ _) (strK.one [103,ca]) (by omega) (by unfold maxLen;omega) (by omega) (by have:=(PwR.alloc HSg.out (.cells #[.string ⟨#[103,ca]⟩] 9)).cells.2.2.2.2.2.2;omega) _ rfl ?_;intro gV capV w8 hownV hgrowV hliesV hglV;obtain⟨k0,k1,-,-,kf⟩:=(PwR.alloc HSg.out (.cells #[.string ⟨#[103,ca]⟩] 9)).kg (PwR.alloc HSg.out (.cells #[.string ⟨#[103,ca]⟩] 9)).v hgrowV;have kf1:=kf 1;clear kf;have HT8:=zH ((hgrowV.block T (lt_of_block (zae (.cells #[.string ⟨#[103,ca]⟩] 9) HT7.out)) HTV.out).trans (zae (.cells #[.string ⟨#[103,ca]⟩] 9) HT7.out));obtain⟨t0,t1,-,-⟩:=zaV HT8.out;have hTl8:=lt_of_block HT8.out;have HSz:=zH (PwR.aV (PwR.alloc HSg.out (.cells #[.string ⟨#[103,ca]⟩] 9)) [103,ca] (HLV.out.symm▸hownV) hgrowV (zah hliesV rfl)));refine hK.out _ _ (by refine⟨?_,?_⟩<;>repeat (first|with_reducible assumption|with_reducible refine za9 _ ?_|with_reducible refine za8 ?_|with_reducible refine za7 hTg ?_)) (fun hHeld=>?_);clear hK K
         try simp only[Act.put,zS,zZ,zT]
         refine wpAnyH_take (i:=14) (oi:=zc3) (v:=?_) rfl (by kernel_rfl) (by kernel_rfl) (by kernel_rfl) (fun _ _ _ h=>h) (Or.inl ⟨by rfl,?y22⟩) (by assumption) ?ry22
         case y22=>intro wz hSw;(try dsimp only at hSw);dsimp only[zc3];go_simp;(try with_reducible rfl)
         try simp only[zc3,Act.put,zS,zZ,zT]
         refine wpAnyH_take (i:=15) (oi:=zc2) (v:=?_) rfl (by kernel_rfl) (by kernel_rfl) (by kernel_rfl) (fun _ _ _ h=>h) (Or.inl ⟨by rfl,?y23⟩) (by assumption) ?ry23
         case y23=>intro wz hSw;(try dsimp only at hSw);dsimp only[zc2];go_simp;(try with_reducible rfl)
         try simp only[zc2,Act.put,zS,zZ,zT]
         refine wpAnyH_take (i:=16) (oi:=zc1) (v:=?_) rfl (by kernel_rfl) (by kernel_rfl) (by kernel_rfl) (fun _ _ _ h=>h) (Or.inl ⟨by rfl,?y24⟩) (by assumption) ?ry24
         case y24=>intro wz hSw;(try dsimp only at hSw);dsimp only[zc1];go_simp;(try with_reducible rfl)
         try simp only[zc1,Act.put,zS,zZ,zT]
         refine wpAnyH_ready (rs:=[17]) (by kernel_rfl) (by simp) ?_;refine AllReadyH.cons (o:=zc0) rfl (fun K hK=>?_) ?_
         ·
          dsimp only[zc0];go_simp;refine hK.out _ _ (by refine⟨?_,?_⟩<;>repeat (first|with_reducible assumption|with_reducible refine za9 _ ?_|with_reducible refine za8 ?_|with_reducible refine za7 hTg ?_)) (fun hHeld=>?_);clear hK K
          try simp only[zc0,Act.put,zS,zZ,zT]
          refine wpAnyH_take (i:=18) (oi:=zbZ) (v:=?_) rfl (by kernel_rfl) (by kernel_rfl) (by kernel_rfl) (fun _ _ _ h=>h) (Or.inl ⟨by rfl,?y25⟩) (by assumption) ?ry25
          case y25=>intro wz hSw;(try dsimp only at hSw);dsimp only[zbZ];go_simp;(try with_reducible rfl)
          try simp only[zbZ,Act.put,zS,zZ,zT]
          refine wpAnyH_done (by kernel_rfl) ?_ _;have HSy:=zH (HSz.out.sG (.slice (some ⟨gG,0,none⟩) (PG.length+1) capG));clear hownG hgrowG hliesG hglG hownV hgrowV hliesV hglV p0 p1 pf1 k0 k1 kf1 t0 t1 HSz HSx HTx;go_wp2_with fail;go_roundw
          case rel =>
           refine⟨PG.length+1,by omega,by go_num,PG++[⟨[103,ca],(v:Int)-2⟩],some ⟨gG,0,none⟩,some ⟨gV,0,none⟩,capG,capV,i5,by simp,by simp,HGO.out.snoc HCA.out (by show (-2:Int)≤(v:Int)-2;omega) (by show (v:Int)-2≤2;omega),?_⟩;rw[List.length_append,List.map_append];have h:=HSy.out;rw[HLV.out] at h;exact h
          case measure=>simp[intOf];omega
         exact AllReadyH.nil
        exact AllReadyH.nil
       exact AllReadyH.nil
      refine AllReadyH.cons (o:=zcl) rfl (fun K hK=>?_) ?_
      ·
       dsimp only[zcl];go_simp;refine hK.out _ _ (by refine⟨?_,?_⟩<;>repeat (first|with_reducible assumption|with_reducible refine za9 _ ?_|with_reducible refine za8 ?_|with_reducible refine za7 hTg ?_)) (fun hHeld=>?_);clear hK K
       try simp only[zcl,Act.put,zS,zZ,zT]
       refine wpAnyH_ready (rs:=[8]) (by kernel_rfl) (by simp) ?_;refine AllReadyH.cons (o:=opB8) rfl (fun K hK=>?_) ?_
       ·
        delta opB8;(refine step_append_lies _ (by rfl) _ _ _ (by rfl) (g+1) 90 iG _ 2 24 Tryz.underlying41 hiG hgG0 hgG1 hgG2 rfl (by decide) (.slice AG PG.length cG) PG.length (glK.cs PG) (by rfl) (PwR.drew (PwR.alloc (PwR.alloc HSx.out (.cells #[.string ⟨#[103,ca]⟩,.int .i64 ((v:Int)-2)] 90)) (.cells #[.string ⟨#[103,ca]⟩] 9))).p.rG ⟨wc.heap.size,0,none⟩ 1 1 [.string ⟨#[103,ca]⟩,.int .i64 ((v:Int)-2)] (by rfl) (by rfl) (HNG2.out) (glK.one (⟨[103,ca],(v:Int)-2⟩:Gl)) (by omega) (by unfold maxLen;omega) (by omega) (by have:=(PwR.drew (PwR.alloc (PwR.alloc HSx.out (.cells #[.string ⟨#[103,ca]⟩,.int .i64 ((v:Int)-2)] 90)) (.cells #[.string ⟨#[103,ca]⟩] 9))).cells.2.2.2.2.2.2;omega) _ rfl ?_;intro gG capG w7 hownG hgrowG hliesG hglG;obtain⟨k0,k1,-,-,kf⟩:=(PwR.drew (PwR.alloc (PwR.alloc HSx.out (.cells #[.string ⟨#[103,ca]⟩,.int .i64 ((v:Int)-2)] 90)) (.cells #[.string ⟨#[103,ca]⟩] 9))).kg (PwR.drew (PwR.alloc (PwR.alloc HSx.out (.cells #[.string ⟨#[103,ca]⟩,.int .i64 ((v:Int)-2)] 90)) (.cells #[.string ⟨#[103,ca]⟩] 9))).p.rG hgrowG;have kf1:=kf 1;clear kf;have HT7:=zH ((hgrowG.block T (lt_of_block (zae (.cells #[.string ⟨#[103,ca]⟩] 9) (zae (.cells #[.string ⟨#[103,ca]⟩,.int .i64 ((v:Int)-2)] 90) HTx.out))) HTG.out).trans (zae (.cells #[.string ⟨#[103,ca]⟩] 9) (zae (.cells #[.string ⟨#[103,ca]⟩,.int .i64 ((v:Int)-2)] 90) HTx.out)));obtain⟨t0,t1,-,-⟩:=zaV HT7.out;have hTl7:=lt_of_block HT7.out;have HSg:=zH (PwR.aG (PwR.drew (PwR.alloc (PwR.alloc HSx.out (.cells #[.string ⟨#[103,ca]⟩,.int .i64 ((v:Int)-2)] 90)) (.cells #[.string ⟨#[103,ca]⟩] 9))) (⟨[103,ca],(v:Int)-2⟩:Gl) hownG hgrowG (zah hliesG rfl));have HNV8:=zH (NewsAt.keep HNV2.out (hgrowG.block (wc.heap.size+1) (by simp;try omega) (fun e=>by have:=(HGl.out _ e.symm).2;omega))));refine hK.out _ _ (by refine⟨?_,?_⟩<;>repeat (first|with_reducible assumption|with_reducible refine za9 _ ?_|with_reducible refine za8 ?_|with_reducible refine za7 hTg ?_)) (fun hHeld=>?_);clear hK K
        try simp only[Act.put,zS,zZ,zT]
        refine wpAnyH_ready (rs:=[13]) (by kernel_rfl) (by simp) ?_;refine AllReadyH.cons (o:=zd5) rfl (fun K hK=>?_) ?_
        ·
         delta zd5;(refine step_append_lies _ (by rfl) _ _ _ (by rfl) (g+1) 9 i0 _ 1 16 Tryz.underlying26 hi0 hz0 hz1 hz2 rfl (by decide) (.slice vA PG.length vc) PG.length (strK.cs (PG.map (·.name))) (by rfl) (HLV.out▸(HSg.out).v) ⟨wc.heap.size+1,0,none⟩ 1 1 [.string ⟨#[103,ca]⟩] (by rfl) (by rfl) (HNV8.out) (strK.one [103,ca]) (by omega) (by unfold maxLen;omega) (by omega) (by have:=(HSg.out).cells.2.2.2.2.2.2;omega) _ rfl ?_;intro gV capV w8 hownV hgrowV hliesV hglV;obtain⟨k0,k1,-,-,kf⟩:=(HSg.out).kg (HSg.out).v hgrowV;have kf1:=kf 1;clear kf;have HT8:=zH ((hgrowV.block T (lt_of_block (HT7.out)) HTV.out).trans (HT7.out));obtain⟨t0,t1,-,-⟩:=zaV HT8.out;have hTl8:=lt_of_block HT8.out;have HSz:=zH (PwR.aV (HSg.out) [103,ca] (HLV.out.symm▸hownV) hgrowV (zah hliesV rfl)));refine hK.out _ _ (by refine⟨?_,?_⟩<;>repeat (first|with_reducible assumption|with_reducible refine za9 _ ?_|with_reducible refine za8 ?_|with_reducible refine za7 hTg ?_)) (fun hHeld=>?_);clear hK K
         try simp only[Act.put,zS,zZ,zT]
         refine wpAnyH_take (i:=14) (oi:=zc3) (v:=?_) rfl (by kernel_rfl) (by kernel_rfl) (by kernel_rfl) (fun _ _ _ h=>h) (Or.inl ⟨by rfl,?y26⟩) (by assumption) ?ry26
         case y26=>intro wz hSw;(try dsimp only at hSw);dsimp only[zc3];go_simp;(try with_reducible rfl)
         try simp only[zc3,Act.put,zS,zZ,zT]
         refine wpAnyH_take (i:=15) (oi:=zc2) (v:=?_) rfl (by kernel_rfl) (by kernel_rfl) (by kernel_rfl) (fun _ _ _ h=>h) (Or.inl ⟨by rfl,?y27⟩) (by assumption) ?ry27
         case y27=>intro wz hSw;(try dsimp only at hSw);dsimp only[zc2];go_simp;(try with_reducible rfl)
         try simp only[zc2,Act.put,zS,zZ,zT]
         refine wpAnyH_take (i:=16) (oi:=zc1) (v:=?_) rfl (by kernel_rfl) (by kernel_rfl) (by kernel_rfl) (fun _ _ _ h=>h) (Or.inl ⟨by rfl,?y28⟩) (by assumption) ?ry28
         case y28=>intro wz hSw;(try dsimp only at hSw);dsimp only[zc1];go_simp;(try with_reducible rfl)
         try simp only[zc1,Act.put,zS,zZ,zT]
         refine wpAnyH_ready (rs:=[17]) (by kernel_rfl) (by simp) ?_;refine AllReadyH.cons (o:=zc0) rfl (fun K hK=>?_) ?_
         ·
          dsimp only[zc0];go_simp;refine hK.out _ _ (by refine⟨?_,?_⟩<;>repeat (first|with_reducible assumption|with_reducible refine za9 _ ?_|with_reducible refine za8 ?_|with_reducible refine za7 hTg ?_)) (fun hHeld=>?_);clear hK K
          try simp only[zc0,Act.put,zS,zZ,zT]
          refine wpAnyH_take (i:=18) (oi:=zbZ) (v:=?_) rfl (by kernel_rfl) (by kernel_rfl) (by kernel_rfl) (fun _ _ _ h=>h) (Or.inl ⟨by rfl,?y29⟩) (by assumption) ?ry29
          case y29=>intro wz hSw;(try dsimp only at hSw);dsimp only[zbZ];go_simp;(try with_reducible rfl)
          try simp only[zbZ,Act.put,zS,zZ,zT]
          refine wpAnyH_done (by kernel_rfl) ?_ _;have HSy:=zH (HSz.out.sG (.slice (some ⟨gG,0,none⟩) (PG.length+1) capG));clear hownG hgrowG hliesG hglG hownV hgrowV hliesV hglV p0 p1 pf1 k0 k1 kf1 t0 t1 HSz HSx HTx;go_wp2_with fail;go_roundw
          case rel =>
           refine⟨PG.length+1,by omega,by go_num,PG++[⟨[103,ca],(v:Int)-2⟩],some ⟨gG,0,none⟩,some ⟨gV,0,none⟩,capG,capV,i5,by simp,by simp,HGO.out.snoc HCA.out (by show (-2:Int)≤(v:Int)-2;omega) (by show (v:Int)-2≤2;omega),?_⟩;rw[List.length_append,List.map_append];have h:=HSy.out;rw[HLV.out] at h;exact h
          case measure=>simp[intOf];omega
         exact AllReadyH.nil
        exact AllReadyH.nil
       exact AllReadyH.nil
      exact AllReadyH.nil
     refine AllReadyH.cons (o:=zcl) rfl (fun K hK=>?_) ?_
     ·
      dsimp only[zcl];go_simp;refine hK.out _ _ (by refine⟨?_,?_⟩<;>repeat (first|with_reducible assumption|with_reducible refine za9 _ ?_|with_reducible refine za8 ?_|with_reducible refine za7 hTg ?_)) (fun hHeld=>?_);clear hK K
      try simp only[zcl,Act.put,zS,zZ,zT]
      refine wpAnyH_ready (rs:=[5]) (by kernel_rfl) (by simp) ?_;refine AllReadyH.cons (o:=opB5) rfl (fun K hK=>?_) ?_
      ·
       dsimp only[opB5];go_simp;refine hK.out _ _ (by refine⟨?_,?_⟩<;>repeat (first|with_reducible assumption|with_reducible refine za9 _ ?_|with_reducible refine za8 ?_|with_reducible refine za7 hTg ?_)) (fun hHeld=>?_);clear hK K
       try simp only[opB5,Act.put,zS,zZ,zT]
       refine wpAnyH_ready (rs:=[8]) (by kernel_rfl) (by simp) ?_;refine AllReadyH.cons (o:=opB8) rfl (fun K hK=>?_) ?_
       ·
        delta opB8;(refine step_append_lies _ (by rfl) _ _ _ (by rfl) (g+1) 90 iG _ 2 24 Tryz.underlying41 hiG hgG0 hgG1 hgG2 rfl (by decide) (.slice AG PG.length cG) PG.length (glK.cs PG) (by rfl) (PwR.drew (PwR.alloc (PwR.alloc HSx.out (.cells #[.string ⟨#[103,ca]⟩,.int .i64 ((v:Int)-2)] 90)) (.cells #[.string ⟨#[103,ca]⟩] 9))).p.rG ⟨wc.heap.size,0,none⟩ 1 1 [.string ⟨#[103,ca]⟩,.int .i64 ((v:Int)-2)] (by rfl) (by rfl) (HNG2.out) (glK.one (⟨[103,ca],(v:Int)-2⟩:Gl)) (by omega) (by unfold maxLen;omega) (by omega) (by have:=(PwR.drew (PwR.alloc (PwR.alloc HSx.out (.cells #[.string ⟨#[103,ca]⟩,.int .i64 ((v:Int)-2)] 90)) (.cells #[.string ⟨#[103,ca]⟩] 9))).cells.2.2.2.2.2.2;omega) _ rfl ?_;intro gG capG w7 hownG hgrowG hliesG hglG;obtain⟨k0,k1,-,-,kf⟩:=(PwR.drew (PwR.alloc (PwR.alloc HSx.out (.cells #[.string ⟨#[103,ca]⟩,.int .i64 ((v:Int)-2)] 90)) (.cells #[.string ⟨#[103,ca]⟩] 9))).kg (PwR.drew (PwR.alloc (PwR.alloc HSx.out (.cells #[.string ⟨#[103,ca]⟩,.int .i64 ((v:Int)-2)] 90)) (.cells #[.string ⟨#[103,ca]⟩] 9))).p.rG hgrowG;have kf1:=kf 1;clear kf;have HT7:=zH ((hgrowG.block T (lt_of_block (zae (.cells #[.string ⟨#[103,ca]⟩] 9) (zae (.cells #[.string ⟨#[103,ca]⟩,.int .i64 ((v:Int)-2)] 90) HTx.out))) HTG.out).trans (zae (.cells #[.string ⟨#[103,ca]⟩] 9) (zae (.cells #[.string ⟨#[103,ca]⟩,.int .i64 ((v:Int)-2)] 90) HTx.out)));obtain⟨t0,t1,-,-⟩:=zaV HT7.out;have hTl7:=lt_of_block HT7.out;have HSg:=zH (PwR.aG (PwR.drew (PwR.alloc (PwR.alloc HSx.out (.cells #[.string ⟨#[103,ca]⟩,.int .i64 ((v:Int)-2)] 90)) (.cells #[.string ⟨#[103,ca]⟩] 9))) (⟨[103,ca],(v:Int)-2⟩:Gl) hownG hgrowG (zah hliesG rfl));have HNV8:=zH (NewsAt.keep HNV2.out (hgrowG.block (wc.heap.size+1) (by simp;try omega) (fun e=>by have:=(HGl.out _ e.symm).2;omega))));refine hK.out _ _ (by refine⟨?_,?_⟩<;>repeat (first|with_reducible assumption|with_reducible refine za9 _ ?_|with_reducible refine za8 ?_|with_reducible refine za7 hTg ?_)) (fun hHeld=>?_);clear hK K
        try simp only[Act.put,zS,zZ,zT]
        refine wpAnyH_ready (rs:=[13]) (by kernel_rfl) (by simp) ?_;refine AllReadyH.cons (o:=zd5) rfl (fun K hK=>?_) ?_
        ·
         delta zd5;(refine step_append_lies _ (by rfl) _ _ _ (by rfl) (g+1) 9 i0 _ 1 16 Tryz.underlying26 hi0 hz0 hz1 hz2 rfl (by decide) (.slice vA PG.length vc) PG.length (strK.cs (PG.map (·.name))) (by rfl) (HLV.out▸(HSg.out).v) ⟨wc.heap.size+1,0,none⟩ 1 1 [.string ⟨#[103,ca]⟩] (by rfl) (by rfl) (HNV8.out) (strK.one [103,ca]) (by omega) (by unfold maxLen;omega) (by omega) (by have:=(HSg.out).cells.2.2.2.2.2.2;omega) _ rfl ?_;intro gV capV w8 hownV hgrowV hliesV hglV;obtain⟨k0,k1,-,-,kf⟩:=(HSg.out).kg (HSg.out).v hgrowV;have kf1:=kf 1;clear kf;have HT8:=zH ((hgrowV.block T (lt_of_block (HT7.out)) HTV.out).trans (HT7.out));obtain⟨t0,t1,-,-⟩:=zaV HT8.out;have hTl8:=lt_of_block HT8.out;have HSz:=zH (PwR.aV (HSg.out) [103,ca] (HLV.out.symm▸hownV) hgrowV (zah hliesV rfl)));refine hK.out _ _ (by refine⟨?_,?_⟩<;>repeat (first|with_reducible assumption|with_reducible refine za9 _ ?_|with_reducible refine za8 ?_|with_reducible refine za7 hTg ?_)) (fun hHeld=>?_);clear hK K
         try simp only[Act.put,zS,zZ,zT]
         refine wpAnyH_take (i:=14) (oi:=zc3) (v:=?_) rfl (by kernel_rfl) (by kernel_rfl) (by kernel_rfl) (fun _ _ _ h=>h) (Or.inl ⟨by rfl,?y30⟩) (by assumption) ?ry30
         case y30=>intro wz hSw;(try dsimp only at hSw);dsimp only[zc3];go_simp;(try with_reducible rfl)
         try simp only[zc3,Act.put,zS,zZ,zT]
         refine wpAnyH_take (i:=15) (oi:=zc2) (v:=?_) rfl (by kernel_rfl) (by kernel_rfl) (by kernel_rfl) (fun _ _ _ h=>h) (Or.inl ⟨by rfl,?y31⟩) (by assumption) ?ry31
         case y31=>intro wz hSw;(try dsimp only at hSw);dsimp only[zc2];go_simp;(try with_reducible rfl)
         try simp only[zc2,Act.put,zS,zZ,zT]
         refine wpAnyH_take (i:=16) (oi:=zc1) (v:=?_) rfl (by kernel_rfl) (by kernel_rfl) (by kernel_rfl) (fun _ _ _ h=>h) (Or.inl ⟨by rfl,?y32⟩) (by assumption) ?ry32
         case y32=>intro wz hSw;(try dsimp only at hSw);dsimp only[zc1];go_simp;(try with_reducible rfl)
         try simp only[zc1,Act.put,zS,zZ,zT]
         refine wpAnyH_ready (rs:=[17]) (by kernel_rfl) (by simp) ?_;refine AllReadyH.cons (o:=zc0) rfl (fun K hK=>?_) ?_
         ·
          dsimp only[zc0];go_simp;refine hK.out _ _ (by refine⟨?_,?_⟩<;>repeat (first|with_reducible assumption|with_reducible refine za9 _ ?_|with_reducible refine za8 ?_|with_reducible refine za7 hTg ?_)) (fun hHeld=>?_);clear hK K
          try simp only[zc0,Act.put,zS,zZ,zT]
          refine wpAnyH_take (i:=18) (oi:=zbZ) (v:=?_) rfl (by kernel_rfl) (by kernel_rfl) (by kernel_rfl) (fun _ _ _ h=>h) (Or.inl ⟨by rfl,?y33⟩) (by assumption) ?ry33
          case y33=>intro wz hSw;(try dsimp only at hSw);dsimp only[zbZ];go_simp;(try with_reducible rfl)
          try simp only[zbZ,Act.put,zS,zZ,zT]
          refine wpAnyH_done (by kernel_rfl) ?_ _;have HSy:=zH (HSz.out.sG (.slice (some ⟨gG,0,none⟩) (PG.length+1) capG));clear hownG hgrowG hliesG hglG hownV hgrowV hliesV hglV p0 p1 pf1 k0 k1 kf1 t0 t1 HSz HSx HTx;go_wp2_with fail;go_roundw
          case rel =>
           refine⟨PG.length+1,by omega,by go_num,PG++[⟨[103,ca],(v:Int)-2⟩],some ⟨gG,0,none⟩,some ⟨gV,0,none⟩,capG,capV,i5,by simp,by simp,HGO.out.snoc HCA.out (by show (-2:Int)≤(v:Int)-2;omega) (by show (v:Int)-2≤2;omega),?_⟩;rw[List.length_append,List.map_append];have h:=HSy.out;rw[HLV.out] at h;exact h
          case measure=>simp[intOf];omega
         exact AllReadyH.nil
        exact AllReadyH.nil
       exact AllReadyH.nil
      exact AllReadyH.nil
     exact AllReadyH.nil
    refine AllReadyH.cons (o:=zcl) rfl (fun K hK=>?_) ?_
    ·
     dsimp only[zcl];go_simp;refine hK.out _ _ (by refine⟨?_,?_⟩<;>repeat (first|with_reducible assumption|with_reducible refine za9 _ ?_|with_reducible refine za8 ?_|with_reducible refine za7 hTg ?_)) (fun hHeld=>?_);clear hK K
     try simp only[zcl,Act.put,zS,zZ,zT]
     refine wpAnyH_ready (rs:=[5,7]) (by kernel_rfl) (by simp) ?_;refine AllReadyH.cons (o:=opB5) rfl (fun K hK=>?_) ?_
     ·
      dsimp only[opB5];go_simp;refine hK.out _ _ (by refine⟨?_,?_⟩<;>repeat (first|with_reducible assumption|with_reducible refine za9 _ ?_|with_reducible refine za8 ?_|with_reducible refine za7 hTg ?_)) (fun hHeld=>?_);clear hK K
      try simp only[opB5,Act.put,zS,zZ,zT]
      refine wpAnyH_ready (rs:=[7]) (by kernel_rfl) (by simp) ?_;refine AllReadyH.cons (o:=opB7) rfl (fun K hK=>?_) ?_
      ·
       dsimp only[opB7];go_simp;refine hK.out _ _ (by refine⟨?_,?_⟩<;>repeat (first|with_reducible assumption|with_reducible refine za9 _ ?_|with_reducible refine za8 ?_|with_reducible refine za7 hTg ?_)) (fun hHeld=>?_);clear hK K
       try simp only[opB7,Act.put,zS,zZ,zT]
       refine wpAnyH_ready (rs:=[8]) (by kernel_rfl) (by simp) ?_;refine AllReadyH.cons (o:=opB8) rfl (fun K hK=>?_) ?_
       ·
        delta opB8;(refine step_append_lies _ (by rfl) _ _ _ (by rfl) (g+1) 90 iG _ 2 24 Tryz.underlying41 hiG hgG0 hgG1 hgG2 rfl (by decide) (.slice AG PG.length cG) PG.length (glK.cs PG) (by rfl) (PwR.drew (PwR.alloc (PwR.alloc HSx.out (.cells #[.string ⟨#[103,ca]⟩] 9)) (.cells #[.string ⟨#[103,ca]⟩,.int .i64 ((v:Int)-2)] 90))).p.rG ⟨wc.heap.size+1,0,none⟩ 1 1 [.string ⟨#[103,ca]⟩,.int .i64 ((v:Int)-2)] (by rfl) (by rfl) (HNG3.out) (glK.one (⟨[103,ca],(v:Int)-2⟩:Gl)) (by omega) (by unfold maxLen;omega) (by omega) (by have:=(PwR.drew (PwR.alloc (PwR.alloc HSx.out (.cells #[.string ⟨#[103,ca]⟩] 9)) (.cells #[.string ⟨#[103,ca]⟩,.int .i64 ((v:Int)-2)] 90))).cells.2.2.2.2.2.2;omega) _ rfl ?_;intro gG capG w7 hownG hgrowG hliesG hglG;obtain⟨k0,k1,-,-,kf⟩:=(PwR.drew (PwR.alloc (PwR.alloc HSx.out (.cells #[.string ⟨#[103,ca]⟩] 9)) (.cells #[.string ⟨#[103,ca]⟩,.int .i64 ((v:Int)-2)] 90))).kg (PwR.drew (PwR.alloc (PwR.alloc HSx.out (.cells #[.string ⟨#[103,ca]⟩] 9)) (.cells #[.string ⟨#[103,ca]⟩,.int .i64 ((v:Int)-2)] 90))).p.rG hgrowG;have kf1:=kf 1;clear kf;have HT7:=zH ((hgrowG.block T (lt_of_block (zae (.cells #[.string ⟨#[103,ca]⟩,.int .i64 ((v:Int)-2)] 90) (zae (.cells #[.string ⟨#[103,ca]⟩] 9) HTx.out))) HTG.out).trans (zae (.cells #[.string ⟨#[103,ca]⟩,.int .i64 ((v:Int)-2)] 90) (zae (.cells #[.string ⟨#[103,ca]⟩] 9) HTx.out)));obtain⟨t0,t1,-,-⟩:=zaV HT7.out;have hTl7:=lt_of_block HT7.out;have HSg:=zH (PwR.aG (PwR.drew (PwR.alloc (PwR.alloc HSx.out (.cells #[.string ⟨#[103,ca]⟩] 9)) (.cells #[.string ⟨#[103,ca]⟩,.int .i64 ((v:Int)-2)] 90))) (⟨[103,ca],(v:Int)-2⟩:Gl) hownG hgrowG (zah hliesG rfl));have HNV8:=zH (NewsAt.keep HNV3.out (hgrowG.block (wc.heap.size) (by simp;try omega) (fun e=>by have:=(HGl.out _ e.symm).2;omega))));refine hK.out _ _ (by refine⟨?_,?_⟩<;>repeat (first|with_reducible assumption|with_reducible refine za9 _ ?_|with_reducible refine za8 ?_|with_reducible refine za7 hTg ?_)) (fun hHeld=>?_);clear hK K
        try simp only[Act.put,zS,zZ,zT]
        refine wpAnyH_ready (rs:=[13]) (by kernel_rfl) (by simp) ?_;refine AllReadyH.cons (o:=zd5) rfl (fun K hK=>?_) ?_
        ·
         delta zd5;(refine step_append_lies _ (by rfl) _ _ _ (by rfl) (g+1) 9 i0 _ 1 16 Tryz.underlying26 hi0 hz0 hz1 hz2 rfl (by decide) (.slice vA PG.length vc) PG.length (strK.cs (PG.map (·.name))) (by rfl) (HLV.out▸(HSg.out).v) ⟨wc.heap.size,0,none⟩ 1 1 [.string ⟨#[103,ca]⟩] (by rfl) (by rfl) (HNV8.out) (strK.one [103,ca]) (by omega) (by unfold maxLen;omega) (by omega) (by have:=(HSg.out).cells.2.2.2.2.2.2;omega) _ rfl ?_;intro gV capV w8 hownV hgrowV hliesV hglV;obtain⟨k0,k1,-,-,kf⟩:=(HSg.out).kg (HSg.out).v hgrowV;have kf1:=kf 1;clear kf;have HT8:=zH ((hgrowV.block T (lt_of_block (HT7.out)) HTV.out).trans (HT7.out));obtain⟨t0,t1,-,-⟩:=zaV HT8.out;have hTl8:=lt_of_block HT8.out;have HSz:=zH (PwR.aV (HSg.out) [103,ca] (HLV.out.symm▸hownV) hgrowV (zah hliesV rfl)));refine hK.out _ _ (by refine⟨?_,?_⟩<;>repeat (first|with_reducible assumption|with_reducible refine za9 _ ?_|with_reducible refine za8 ?_|with_reducible refine za7 hTg ?_)) (fun hHeld=>?_);clear hK K
         try simp only[Act.put,zS,zZ,zT]
         refine wpAnyH_take (i:=14) (oi:=zc3) (v:=?_) rfl (by kernel_rfl) (by kernel_rfl) (by kernel_rfl) (fun _ _ _ h=>h) (Or.inl ⟨by rfl,?y34⟩) (by assumption) ?ry34
         case y34=>intro wz hSw;(try dsimp only at hSw);dsimp only[zc3];go_simp;(try with_reducible rfl)
         try simp only[zc3,Act.put,zS,zZ,zT]
         refine wpAnyH_take (i:=15) (oi:=zc2) (v:=?_) rfl (by kernel_rfl) (by kernel_rfl) (by kernel_rfl) (fun _ _ _ h=>h) (Or.inl ⟨by rfl,?y35⟩) (by assumption) ?ry35
         case y35=>intro wz hSw;(try dsimp only at hSw);dsimp only[zc2];go_simp;(try with_reducible rfl)
         try simp only[zc2,Act.put,zS,zZ,zT]
         refine wpAnyH_take (i:=16) (oi:=zc1) (v:=?_) rfl (by kernel_rfl) (by kernel_rfl) (by kernel_rfl) (fun _ _ _ h=>h) (Or.inl ⟨by rfl,?y36⟩) (by assumption) ?ry36
         case y36=>intro wz hSw;(try dsimp only at hSw);dsimp only[zc1];go_simp;(try with_reducible rfl)
         try simp only[zc1,Act.put,zS,zZ,zT]
         refine wpAnyH_ready (rs:=[17]) (by kernel_rfl) (by simp) ?_;refine AllReadyH.cons (o:=zc0) rfl (fun K hK=>?_) ?_
         ·
          dsimp only[zc0];go_simp;refine hK.out _ _ (by refine⟨?_,?_⟩<;>repeat (first|with_reducible assumption|with_reducible refine za9 _ ?_|with_reducible refine za8 ?_|with_reducible refine za7 hTg ?_)) (fun hHeld=>?_);clear hK K
          try simp only[zc0,Act.put,zS,zZ,zT]
          refine wpAnyH_take (i:=18) (oi:=zbZ) (v:=?_) rfl (by kernel_rfl) (by kernel_rfl) (by kernel_rfl) (fun _ _ _ h=>h) (Or.inl ⟨by rfl,?y37⟩) (by assumption) ?ry37
          case y37=>intro wz hSw;(try dsimp only at hSw);dsimp only[zbZ];go_simp;(try with_reducible rfl)
          try simp only[zbZ,Act.put,zS,zZ,zT]
          refine wpAnyH_done (by kernel_rfl) ?_ _;have HSy:=zH (HSz.out.sG (.slice (some ⟨gG,0,none⟩) (PG.length+1) capG));clear hownG hgrowG hliesG hglG hownV hgrowV hliesV hglV p0 p1 pf1 k0 k1 kf1 t0 t1 HSz HSx HTx;go_wp2_with fail;go_roundw
          case rel =>
           refine⟨PG.length+1,by omega,by go_num,PG++[⟨[103,ca],(v:Int)-2⟩],some ⟨gG,0,none⟩,some ⟨gV,0,none⟩,capG,capV,i5,by simp,by simp,HGO.out.snoc HCA.out (by show (-2:Int)≤(v:Int)-2;omega) (by show (v:Int)-2≤2;omega),?_⟩;rw[List.length_append,List.map_append];have h:=HSy.out;rw[HLV.out] at h;exact h
          case measure=>simp[intOf];omega
         exact AllReadyH.nil
        exact AllReadyH.nil
       exact AllReadyH.nil
      exact AllReadyH.nil
     refine AllReadyH.cons (o:=opB7) rfl (fun K hK=>?_) ?_
     ·
      dsimp only[opB7];go_simp;refine hK.out _ _ (by refine⟨?_,?_⟩<;>repeat (first|with_reducible assumption|with_reducible refine za9 _ ?_|with_reducible refine za8 ?_|with_reducible refine za7 hTg ?_)) (fun hHeld=>?_);clear hK K
      try simp only[opB7,Act.put,zS,zZ,zT]
      refine wpAnyH_ready (rs:=[5]) (by kernel_rfl) (by simp) ?_;refine AllReadyH.cons (o:=opB5) rfl (fun K hK=>?_) ?_
      ·
       dsimp only[opB5];go_simp;refine hK.out _ _ (by refine⟨?_,?_⟩<;>repeat (first|with_reducible assumption|with_reducible refine za9 _ ?_|with_reducible refine za8 ?_|with_reducible refine za7 hTg ?_)) (fun hHeld=>?_);clear hK K
       try simp only[opB5,Act.put,zS,zZ,zT]
       refine wpAnyH_ready (rs:=[8]) (by kernel_rfl) (by simp) ?_;refine AllReadyH.cons (o:=opB8) rfl (fun K hK=>?_) ?_
       ·
        delta opB8;(refine step_append_lies _ (by rfl) _ _ _ (by rfl) (g+1) 90 iG _ 2 24 Tryz.underlying41 hiG hgG0 hgG1 hgG2 rfl (by decide) (.slice AG PG.length cG) PG.length (glK.cs PG) (by rfl) (PwR.drew (PwR.alloc (PwR.alloc HSx.out (.cells #[.string ⟨#[103,ca]⟩] 9)) (.cells #[.string ⟨#[103,ca]⟩,.int .i64 ((v:Int)-2)] 90))).p.rG ⟨wc.heap.size+1,0,none⟩ 1 1 [.string ⟨#[103,ca]⟩,.int .i64 ((v:Int)-2)] (by rfl) (by rfl) (HNG3.out) (glK.one (⟨[103,ca],(v:Int)-2⟩:Gl)) (by omega) (by unfold maxLen;omega) (by omega) (by have:=(PwR.drew (PwR.alloc (PwR.alloc HSx.out (.cells #[.string ⟨#[103,ca]⟩] 9)) (.cells #[.string ⟨#[103,ca]⟩,.int .i64 ((v:Int)-2)] 90))).cells.2.2.2.2.2.2;omega) _ rfl ?_;intro gG capG w7 hownG hgrowG hliesG hglG;obtain⟨k0,k1,-,-,kf⟩:=(PwR.drew (PwR.alloc (PwR.alloc HSx.out (.cells #[.string ⟨#[103,ca]⟩] 9)) (.cells #[.string ⟨#[103,ca]⟩,.int .i64 ((v:Int)-2)] 90))).kg (PwR.drew (PwR.alloc (PwR.alloc HSx.out (.cells #[.string ⟨#[103,ca]⟩] 9)) (.cells #[.string ⟨#[103,ca]⟩,.int .i64 ((v:Int)-2)] 90))).p.rG hgrowG;have kf1:=kf 1;clear kf;have HT7:=zH ((hgrowG.block T (lt_of_block (zae (.cells #[.string ⟨#[103,ca]⟩,.int .i64 ((v:Int)-2)] 90) (zae (.cells #[.string ⟨#[103,ca]⟩] 9) HTx.out))) HTG.out).trans (zae (.cells #[.string ⟨#[103,ca]⟩,.int .i64 ((v:Int)-2)] 90) (zae (.cells #[.string ⟨#[103,ca]⟩] 9) HTx.out)));obtain⟨t0,t1,-,-⟩:=zaV HT7.out;have hTl7:=lt_of_block HT7.out;have HSg:=zH (PwR.aG (PwR.drew (PwR.alloc (PwR.alloc HSx.out (.cells #[.string ⟨#[103,ca]⟩] 9)) (.cells #[.string ⟨#[103,ca]⟩,.int .i64 ((v:Int)-2)] 90))) (⟨[103,ca],(v:Int)-2⟩:Gl) hownG hgrowG (zah hliesG rfl));have HNV8:=zH (NewsAt.keep HNV3.out (hgrowG.block (wc.heap.size) (by simp;try omega) (fun e=>by have:=(HGl.out _ e.symm).2;omega))));refine hK.out _ _ (by refine⟨?_,?_⟩<;>repeat (first|with_reducible assumption|with_reducible refine za9 _ ?_|with_reducible refine za8 ?_|with_reducible refine za7 hTg ?_)) (fun hHeld=>?_);clear hK K
        try simp only[Act.put,zS,zZ,zT]
        refine wpAnyH_ready (rs:=[13]) (by kernel_rfl) (by simp) ?_;refine AllReadyH.cons (o:=zd5) rfl (fun K hK=>?_) ?_
        ·
         delta zd5;(refine step_append_lies _ (by rfl) _ _ _ (by rfl) (g+1) 9 i0 _ 1 16 Tryz.underlying26 hi0 hz0 hz1 hz2 rfl (by decide) (.slice vA PG.length vc) PG.length (strK.cs (PG.map (·.name))) (by rfl) (HLV.out▸(HSg.out).v) ⟨wc.heap.size,0,none⟩ 1 1 [.string ⟨#[103,ca]⟩] (by rfl) (by rfl) (HNV8.out) (strK.one [103,ca]) (by omega) (by unfold maxLen;omega) (by omega) (by have:=(HSg.out).cells.2.2.2.2.2.2;omega) _ rfl ?_;intro gV capV w8 hownV hgrowV hliesV hglV;obtain⟨k0,k1,-,-,kf⟩:=(HSg.out).kg (HSg.out).v hgrowV;have kf1:=kf 1;clear kf;have HT8:=zH ((hgrowV.block T (lt_of_block (HT7.out)) HTV.out).trans (HT7.out));obtain⟨t0,t1,-,-⟩:=zaV HT8.out;have hTl8:=lt_of_block HT8.out;have HSz:=zH (PwR.aV (HSg.out) [103,ca] (HLV.out.symm▸hownV) hgrowV (zah hliesV rfl)));refine hK.out _ _ (by refine⟨?_,?_⟩<;>repeat (first|with_reducible assumption|with_reducible refine za9 _ ?_|with_reducible refine za8 ?_|with_reducible refine za7 hTg ?_)) (fun hHeld=>?_);clear hK K
         try simp only[Act.put,zS,zZ,zT]
         refine wpAnyH_take (i:=14) (oi:=zc3) (v:=?_) rfl (by kernel_rfl) (by kernel_rfl) (by kernel_rfl) (fun _ _ _ h=>h) (Or.inl ⟨by rfl,?y38⟩) (by assumption) ?ry38
         case y38=>intro wz hSw;(try dsimp only at hSw);dsimp only[zc3];go_simp;(try with_reducible rfl)
         try simp only[zc3,Act.put,zS,zZ,zT]
         refine wpAnyH_take (i:=15) (oi:=zc2) (v:=?_) rfl (by kernel_rfl) (by kernel_rfl) (by kernel_rfl) (fun _ _ _ h=>h) (Or.inl ⟨by rfl,?y39⟩) (by assumption) ?ry39
         case y39=>intro wz hSw;(try dsimp only at hSw);dsimp only[zc2];go_simp;(try with_reducible rfl)
         try simp only[zc2,Act.put,zS,zZ,zT]
         refine wpAnyH_take (i:=16) (oi:=zc1) (v:=?_) rfl (by kernel_rfl) (by kernel_rfl) (by kernel_rfl) (fun _ _ _ h=>h) (Or.inl ⟨by rfl,?y40⟩) (by assumption) ?ry40
         case y40=>intro wz hSw;(try dsimp only at hSw);dsimp only[zc1];go_simp;(try with_reducible rfl)
         try simp only[zc1,Act.put,zS,zZ,zT]
         refine wpAnyH_ready (rs:=[17]) (by kernel_rfl) (by simp) ?_;refine AllReadyH.cons (o:=zc0) rfl (fun K hK=>?_) ?_
         ·
          dsimp only[zc0];go_simp;refine hK.out _ _ (by refine⟨?_,?_⟩<;>repeat (first|with_reducible assumption|with_reducible refine za9 _ ?_|with_reducible refine za8 ?_|with_reducible refine za7 hTg ?_)) (fun hHeld=>?_);clear hK K
          try simp only[zc0,Act.put,zS,zZ,zT]
          refine wpAnyH_take (i:=18) (oi:=zbZ) (v:=?_) rfl (by kernel_rfl) (by kernel_rfl) (by kernel_rfl) (fun _ _ _ h=>h) (Or.inl ⟨by rfl,?y41⟩) (by assumption) ?ry41
          case y41=>intro wz hSw;(try dsimp only at hSw);dsimp only[zbZ];go_simp;(try with_reducible rfl)
          try simp only[zbZ,Act.put,zS,zZ,zT]
          refine wpAnyH_done (by kernel_rfl) ?_ _;have HSy:=zH (HSz.out.sG (.slice (some ⟨gG,0,none⟩) (PG.length+1) capG));clear hownG hgrowG hliesG hglG hownV hgrowV hliesV hglV p0 p1 pf1 k0 k1 kf1 t0 t1 HSz HSx HTx;go_wp2_with fail;go_roundw
          case rel =>
           refine⟨PG.length+1,by omega,by go_num,PG++[⟨[103,ca],(v:Int)-2⟩],some ⟨gG,0,none⟩,some ⟨gV,0,none⟩,capG,capV,i5,by simp,by simp,HGO.out.snoc HCA.out (by show (-2:Int)≤(v:Int)-2;omega) (by show (v:Int)-2≤2;omega),?_⟩;rw[List.length_append,List.map_append];have h:=HSy.out;rw[HLV.out] at h;exact h
          case measure=>simp[intOf];omega
         exact AllReadyH.nil
        exact AllReadyH.nil
       exact AllReadyH.nil
      exact AllReadyH.nil
     exact AllReadyH.nil
    exact AllReadyH.nil
  ·
   have i1:¬(k:Int)<(n:Int):=by omega
   have hke:k=n:=by omega
   rw[hke] at hL;clear hke;go_wp2_with fail;apply HQQ.out;exact hL.out
end Go.Proofs.YtlnbmmgbfgmboaaGreatDoor
