import Derived.Test.YtlnbmmgbfgmboaaGreatDoorQa
import Derived.Test.YtlnbmmgbfgmboaaGreatDoorQ9
import Derived.Deep.CutRange
namespace Go.Proofs.YtlnbmmgbfgmboaaGreatDoor
open Go.RowKit
def opV0:Oper:={dst:=some 90,op:=Op.move (Operand.tmp 0),type:=79,pos := "made.go:140",after:=#[],guard:=none}
def opV1:Oper:={dst:=some 91,op:=Op.move (Operand.tmp 2),type:=26,pos := "made.go:140",after:=#[],guard:=none}
def opV2:Oper:={dst:=some 92,op:=Op.call {callee:=Callee.value (Operand.func 57),args:=#[Operand.tmp 90,Operand.tmp 91],argTypes:=#[79,26]},type:=68,pos := "made.go:140",after:=#[{on:=0,ground:=Ground.data},{on:=1,ground:=Ground.data}],guard:=none}
def opV3:Oper:={dst:=some 93,op:=Op.move (Operand.tmp 0),type:=79,pos := "made.go:140",after:=#[{on:=24,ground:=Ground.gcOnly Departure.lateStores}],guard:=none}
def opV4:Oper:={dst:=some 94,op:=Op.nilCheck (Operand.tmp 93),type:=0,pos := "made.go:140",after:=#[{on:=3,ground:=Ground.data},{on:=24,ground:=Ground.gcOnly Departure.lateStores}],guard:=none}
def opV5:Oper:={dst:=some 95,op:=Op.fieldAddr 85 (Operand.tmp 94) 2,type:=0,pos := "made.go:140",after:=#[{on:=4,ground:=Ground.data},{on:=24,ground:=Ground.gcOnly Departure.lateStores}],guard:=none}
def opV6:Oper:={dst:=some 96,op:=Op.load 3 (Operand.tmp 95),type:=3,pos := "made.go:140",after:=#[{on:=5,ground:=Ground.data},{on:=24,ground:=Ground.gcOnly Departure.lateStores}],guard:=none}
def opV7:Oper:={dst:=some 97,op:=Op.binOp BinOp.rem 3 (Operand.tmp 96) (Operand.const (Value.int IntKind.i64 26)) 3,type:=3,pos := "made.go:140",after:=#[{on:=6,ground:=Ground.data},{on:=24,ground:=Ground.gcOnly Departure.lateStores}],guard:=none}
def opV8:Oper:={dst:=some 98,op:=Op.binOp BinOp.add 3 (Operand.const (Value.int IntKind.i64 97)) (Operand.tmp 97) 3,type:=3,pos := "made.go:140",after:=#[{on:=7,ground:=Ground.data},{on:=24,ground:=Ground.gcOnly Departure.lateStores}],guard:=none}
def opV9:Oper:={dst:=some 99,op:=Op.convert 3 5 (Operand.tmp 98),type:=5,pos := "made.go:140",after:=#[{on:=8,ground:=Ground.data},{on:=24,ground:=Ground.gcOnly Departure.lateStores}],guard:=none}
def opV10:Oper:={dst:=some 100,op:=Op.move (Operand.tmp 0),type:=79,pos := "made.go:140",after:=#[{on:=24,ground:=Ground.gcOnly Departure.lateStores}],guard:=none}
def opV11:Oper:={dst:=some 101,op:=Op.nilCheck (Operand.tmp 100),type:=0,pos := "made.go:140",after:=#[{on:=10,ground:=Ground.data},{on:=24,ground:=Ground.gcOnly Departure.lateStores}],guard:=none}
def opV12:Oper:={dst:=some 102,op:=Op.fieldAddr 85 (Operand.tmp 101) 2,type:=0,pos := "made.go:140",after:=#[{on:=11,ground:=Ground.data},{on:=24,ground:=Ground.gcOnly Departure.lateStores}],guard:=none}
def opV13:Oper:={dst:=some 103,op:=Op.load 3 (Operand.tmp 102),type:=3,pos := "made.go:140",after:=#[{on:=12,ground:=Ground.data},{on:=24,ground:=Ground.gcOnly Departure.lateStores}],guard:=none}
def opV14:Oper:={dst:=some 104,op:=Op.binOp BinOp.quo 3 (Operand.tmp 103) (Operand.const (Value.int IntKind.i64 26)) 3,type:=3,pos := "made.go:140",after:=#[{on:=13,ground:=Ground.data},{on:=24,ground:=Ground.gcOnly Departure.lateStores}],guard:=none}
def opV15:Oper:={dst:=some 105,op:=Op.binOp BinOp.rem 3 (Operand.tmp 104) (Operand.const (Value.int IntKind.i64 26)) 3,type:=3,pos := "made.go:140",after:=#[{on:=14,ground:=Ground.data},{on:=24,ground:=Ground.gcOnly Departure.lateStores}],guard:=none}
def opV16:Oper:={dst:=some 106,op:=Op.binOp BinOp.add 3 (Operand.const (Value.int IntKind.i64 97)) (Operand.tmp 105) 3,type:=3,pos := "made.go:140",after:=#[{on:=15,ground:=Ground.data},{on:=24,ground:=Ground.gcOnly Departure.lateStores}],guard:=none}
def opV17:Oper:={dst:=some 107,op:=Op.convert 3 5 (Operand.tmp 106),type:=5,pos := "made.go:140",after:=#[{on:=16,ground:=Ground.data},{on:=24,ground:=Ground.gcOnly Departure.lateStores}],guard:=none}
def zdR:Oper:={dst:=some 108,op:=Op.buildSlice 23 2 #[(0,Operand.tmp 99),(1,Operand.tmp 107)],type:=23,pos := "made.go:140",after:=#[{on:=9,ground:=Ground.data},{on:=17,ground:=Ground.data},{on:=24,ground:=Ground.gcOnly Departure.lateStores}],guard:=none}
def zby:Oper:={dst:=some 109,op:=Op.convert 23 9 (Operand.tmp 108),type:=9,pos := "made.go:140",after:=#[{on:=18,ground:=Ground.data},{on:=24,ground:=Ground.gcOnly Departure.lateStores}],guard:=none}
def zbx:Oper:={dst:=some 110,op:=Op.binOp BinOp.add 9 (Operand.const (Value.string {data:=#[118]})) (Operand.tmp 109) 9,type:=9,pos := "made.go:140",after:=#[{on:=19,ground:=Ground.data},{on:=24,ground:=Ground.gcOnly Departure.lateStores}],guard:=none}
def opV21:Oper:={dst:=some 111,op:=Op.fieldAddr 73 (Operand.tmp 13) 0,type:=0,pos := "made.go:140",after:=#[{on:=0,ground:=Ground.textOnly Departure.lateStores},{on:=1,ground:=Ground.textOnly Departure.lateStores},{on:=2,ground:=Ground.textOnly Departure.lateStoresUnsure},{on:=3,ground:=Ground.textOnly Departure.lateStores},{on:=4,ground:=Ground.textOnly Departure.lateStores},{on:=5,ground:=Ground.textOnly Departure.lateStores},{on:=6,ground:=Ground.textOnly Departure.lateStores},{on:=7,ground:=Ground.textOnly Departure.lateStores},{on:=8,ground:=Ground.textOnly Departure.lateStores},{on:=9,ground:=Ground.textOnly Departure.lateStores},{on:=10,ground:=Ground.textOnly Departure.lateStores},{on:=11,ground:=Ground.textOnly Departure.lateStores},{on:=12,ground:=Ground.textOnly Departure.lateStores},{on:=13,ground:=Ground.textOnly Departure.lateStores},{on:=14,ground:=Ground.textOnly Departure.lateStores},{on:=15,ground:=Ground.textOnly Departure.lateStores},{on:=16,ground:=Ground.textOnly Departure.lateStores},{on:=17,ground:=Ground.textOnly Departure.lateStores},{on:=18,ground:=Ground.textOnly Departure.lateStores},{on:=19,ground:=Ground.textOnly Departure.lateStores},{on:=20,ground:=Ground.textOnly Departure.lateStores}],guard:=none}
def zcN:Oper:={dst:=none,op:=Op.store 3 (Operand.tmp 111) (Operand.const (Value.int IntKind.i64 1)),type:=0,pos := "made.go:140",after:=#[{on:=21,ground:=Ground.data},{on:=2,ground:=Ground.chain},{on:=0,ground:=Ground.textOnly Departure.lateStores},{on:=1,ground:=Ground.textOnly Departure.lateStores},{on:=2,ground:=Ground.textOnly Departure.lateStoresUnsure},{on:=3,ground:=Ground.textOnly Departure.lateStores},{on:=4,ground:=Ground.textOnly Departure.lateStores},{on:=5,ground:=Ground.textOnly Departure.lateStores},{on:=6,ground:=Ground.textOnly Departure.lateStores},{on:=7,ground:=Ground.textOnly Departure.lateStores},{on:=8,ground:=Ground.textOnly Departure.lateStores},{on:=9,ground:=Ground.textOnly Departure.lateStores},{on:=10,ground:=Ground.textOnly Departure.lateStores},{on:=11,ground:=Ground.textOnly Departure.lateStores},{on:=12,ground:=Ground.textOnly Departure.lateStores},{on:=13,ground:=Ground.textOnly Departure.lateStores},{on:=14,ground:=Ground.textOnly Departure.lateStores},{on:=15,ground:=Ground.textOnly Departure.lateStores},{on:=16,ground:=Ground.textOnly Departure.lateStores},{on:=17,ground:=Ground.textOnly Departure.lateStores},{on:=18,ground:=Ground.textOnly Departure.lateStores},{on:=19,ground:=Ground.textOnly Departure.lateStores},{on:=20,ground:=Ground.textOnly Departure.lateStores}],guard:=none}
def zcM:Oper:={dst:=some 112,op:=Op.fieldAddr 73 (Operand.tmp 13) 2,type:=0,pos := "made.go:140",after:=#[{on:=0,ground:=Ground.phase},{on:=1,ground:=Ground.phase},{on:=2,ground:=Ground.phase},{on:=3,ground:=Ground.textOnly Departure.lateStores},{on:=4,ground:=Ground.textOnly Departure.lateStores},{on:=5,ground:=Ground.textOnly Departure.lateStores},{on:=6,ground:=Ground.textOnly Departure.lateStores},{on:=7,ground:=Ground.textOnly Departure.lateStores},{on:=8,ground:=Ground.textOnly Departure.lateStores},{on:=9,ground:=Ground.textOnly Departure.lateStores},{on:=10,ground:=Ground.textOnly Departure.lateStores},{on:=11,ground:=Ground.textOnly Departure.lateStores},{on:=12,ground:=Ground.textOnly Departure.lateStores},{on:=13,ground:=Ground.textOnly Departure.lateStores},{on:=14,ground:=Ground.textOnly Departure.lateStores},{on:=15,ground:=Ground.textOnly Departure.lateStores},{on:=16,ground:=Ground.textOnly Departure.lateStores},{on:=17,ground:=Ground.textOnly Departure.lateStores},{on:=18,ground:=Ground.textOnly Departure.lateStores},{on:=19,ground:=Ground.textOnly Departure.lateStores},{on:=20,ground:=Ground.textOnly Departure.lateStores},{on:=21,ground:=Ground.phase},{on:=22,ground:=Ground.phase}],guard:=none}
def zbw:Oper:={dst:=none,op:=Op.store 68 (Operand.tmp 112) (Operand.tmp 92),type:=0,pos := "made.go:140",after:=#[{on:=23,ground:=Ground.data},{on:=2,ground:=Ground.data},{on:=22,ground:=Ground.chain},{on:=0,ground:=Ground.phase},{on:=1,ground:=Ground.phase},{on:=2,ground:=Ground.phase},{on:=3,ground:=Ground.textOnly Departure.lateStores},{on:=4,ground:=Ground.textOnly Departure.lateStores},{on:=5,ground:=Ground.textOnly Departure.lateStores},{on:=6,ground:=Ground.textOnly Departure.lateStores},{on:=7,ground:=Ground.textOnly Departure.lateStores},{on:=8,ground:=Ground.textOnly Departure.lateStores},{on:=9,ground:=Ground.textOnly Departure.lateStores},{on:=10,ground:=Ground.textOnly Departure.lateStores},{on:=11,ground:=Ground.textOnly Departure.lateStores},{on:=12,ground:=Ground.textOnly Departure.lateStores},{on:=13,ground:=Ground.textOnly Departure.lateStores},{on:=14,ground:=Ground.textOnly Departure.lateStores},{on:=15,ground:=Ground.textOnly Departure.lateStores},{on:=16,ground:=Ground.textOnly Departure.lateStores},{on:=17,ground:=Ground.textOnly Departure.lateStores},{on:=18,ground:=Ground.textOnly Departure.lateStores},{on:=19,ground:=Ground.textOnly Departure.lateStores},{on:=20,ground:=Ground.textOnly Departure.lateStores},{on:=21,ground:=Ground.phase},{on:=22,ground:=Ground.phase}],guard:=none}
def zbv:Oper:={dst:=some 113,op:=Op.fieldAddr 73 (Operand.tmp 13) 1,type:=0,pos := "made.go:140",after:=#[{on:=0,ground:=Ground.phase},{on:=1,ground:=Ground.phase},{on:=2,ground:=Ground.phase},{on:=3,ground:=Ground.phase},{on:=4,ground:=Ground.phase},{on:=5,ground:=Ground.phase},{on:=6,ground:=Ground.phase},{on:=7,ground:=Ground.phase},{on:=8,ground:=Ground.phase},{on:=9,ground:=Ground.phase},{on:=10,ground:=Ground.phase},{on:=11,ground:=Ground.phase},{on:=12,ground:=Ground.phase},{on:=13,ground:=Ground.phase},{on:=14,ground:=Ground.phase},{on:=15,ground:=Ground.phase},{on:=16,ground:=Ground.phase},{on:=17,ground:=Ground.phase},{on:=18,ground:=Ground.phase},{on:=19,ground:=Ground.phase},{on:=20,ground:=Ground.phase},{on:=21,ground:=Ground.phase},{on:=22,ground:=Ground.phase},{on:=23,ground:=Ground.phase},{on:=24,ground:=Ground.phase}],guard:=none}
def zbu:Oper:={dst:=none,op:=Op.store 9 (Operand.tmp 113) (Operand.tmp 110),type:=0,pos := "made.go:140",after:=#[{on:=25,ground:=Ground.data},{on:=20,ground:=Ground.data},{on:=24,ground:=Ground.chain},{on:=0,ground:=Ground.phase},{on:=1,ground:=Ground.phase},{on:=2,ground:=Ground.phase},{on:=3,ground:=Ground.phase},{on:=4,ground:=Ground.phase},{on:=5,ground:=Ground.phase},{on:=6,ground:=Ground.phase},{on:=7,ground:=Ground.phase},{on:=8,ground:=Ground.phase},{on:=9,ground:=Ground.phase},{on:=10,ground:=Ground.phase},{on:=11,ground:=Ground.phase},{on:=12,ground:=Ground.phase},{on:=13,ground:=Ground.phase},{on:=14,ground:=Ground.phase},{on:=15,ground:=Ground.phase},{on:=16,ground:=Ground.phase},{on:=17,ground:=Ground.phase},{on:=18,ground:=Ground.phase},{on:=19,ground:=Ground.phase},{on:=20,ground:=Ground.phase},{on:=21,ground:=Ground.phase},{on:=22,ground:=Ground.phase},{on:=23,ground:=Ground.phase},{on:=24,ground:=Ground.phase}],guard:=none}
set_option maxRecDepth 100000 in
set_option maxHeartbeats 8000000 in
theorem sw_var {W:WP} {fn:Nm} {ps:List Pm} {pA bA:Option Addr} {pc bn bc N left d most k:Nat} {w wr w3:World} {vs us:List Nm} {P:List (St × SG)} {oA vA:Option Addr} {oc vc i1 i2 lo m:Nat} {Q:Exit→Act→World→Prop} {K K1 K2:Act→World→Prop} {u5 u7 u8 u9 a0 a1 a2 a3 a4 a5 a6 a7 a8 a9 aa ab ac ad ae af ag ah ai aj ak al am an ao ap aq ar au av aw ax ay az aA aB aC aD aE aF aG aH aI aJ aK aL aM aN aO aP aQ aR aS aT aU aV aW aX aY aZ b0 b1 b2 b3 b4 b5 b6 b7 b8 b9 ba bb bd be bf bg bh bi bj bk bl bm bo bp bq br bs bt bu bv bw bx bz bB bC bD bE bF bG bH bI bJ bK bL bM bN bO bP bQ bR bS bT bU bV bW bX bY bZ c0 c1 c2 c3 c4 c5 c6 c7 c8 c9 cc cd ce cf cg ch ci cj ck cl cm cn co cp cq cr ct cu cv cw cx cy cz cA cB cC cD cE cF cG cH cI cJ cK cL cM cN cO cP cQ cR cS cT cU cV cW cX cY cZ d0 d1 d2 d3 d4 d5 d6 d7 d8 d9 da db dc dd de df dg dh di dj dk dl dm dn dp dq dr ds dt du dv dw dx dy dz dA dB dC dD dE dF dG dH dI dJ dK dL dM dN dO dP dQ dR dS dT dU dV dW:Value} (hC:RndC W fn ps pA bA pc bn bc N left d most k w wr w3 vs us P oA vA oc vc i1 i2 lo m)
  (hK:∀a w,(nav [true,true,true,false,true,false,false,true,false,false,true,true,false,true,false,true] (Tryz.f33.body.getD .skip)).wp Tryz.prog (Exit.inBlock 2 (Exit.then K1 (Exit.inBlock 1 (Exit.then K2 Q)))) a w→K a w)
  (hK1:∀a w,(nav [true,true,true,false,true,false,false,true,false,false,true,true,true] (Tryz.f33.body.getD .skip)).wp Tryz.prog (Exit.inBlock 1 (Exit.then K2 Q)) a w→K1 a w) (hK2:∀a w,(nav [true,true,true,false,true,false,false,true,true] (Tryz.f33.body.getD .skip)).wp Tryz.prog Q a w→K2 a w)
  (HQQ:Hid (∀(dX dY dZ e0 e1 e2 e3 e4 e5 e6 e8 e9 ea eb ec ed ee ef eg eh ei ej ek el em en eo ep eq er es et eu ev ew ex ey ez eA eB eC eD eE eF eG eH eI eJ eK eL eM eN eO eP eQ eR eS eT eU eV eW eX eY eZ f3 f4 f5 f6 f7 f8 f9 fa fb fd fe ff fg fh fi fj fk fm fp fq fr fs ft fu fv fw fy fz fB fC fD fE fF fG fH fI fJ fK fL fM fN fO fP fQ fR fS fT fU fV fW fX fY fZ g0 g1 g2 g3 g4 g5 g6 g7 g8 g9 ga gc gd ge gf gg gh gi gj gk gl gm gn gp gq gr gs gt gu gw gx gy gz gA gB gC gD gE gF gG gH gI gJ gK gL gM gN gO gP gQ gR gS gT gU gV gW gX gY gZ h1 h2 h3 h5 h6 h8 h9 ha hc he hf hg hh hj ho hp hr hs ht hu hv hw hx hy hz hA hB hD hE hF hG hH hJ hL hM hN hO hP hQ hS hT hU hV hW hX hY hZ i3 i5 vv vo vn:Value) (w':World),BkL w W ps (.cells #[.string ⟨fn.toArray⟩,.slice pA ps.length pc,.slice bA bn bc] 52 (0,0)) d left most vs vv vo vn w'→(intOf vn).toNat<k→Q .normal {tmps:=#[.pointer (some ⟨W.g,0,none⟩),.agg #[.string ⟨fn.toArray⟩,.slice pA ps.length pc,.slice bA bn bc],vv,.int .i64 (d:Int),.int .i64 (most:Int),u5,.pointer (some ⟨w.heap.size,0,none⟩),u7,u8,u9,a0,vo,vn,dX,dY,dZ,e0,a3,a4,a5,a6,a7,a8,a9,aa,ab,ac,e1,e2,e3,e4,e5,e6,e8,e9,ea,eb,ec,ed,ee,ef,eg,eh,ei,ej,ek,el,em,en,eo,ep,eq,er,es,et,eu,ev,ew,ex,ey,ez,eA,eB,eC,eD,eE,eF,eG,eH,eI,eJ,eK,eL,eM,eN,eO,eP,eQ,eR,eS,eT,eU,eV,eW,eX,eY,eZ,f3,f4,f5,f6,f7,f8,f9,fa,fb,fd,fe,ff,fg,fh,fi,fj,fk,fm,fp,fq,fr,fs,ft,fu,fv,fw,fy,fz,fB,fC,fD,fE,fF,fG,fH,fI,fJ,fK,fL,fM,fN,fO,fP,fQ,fR,fS,fT,fU,fV,fW,fX,fY,fZ,g0,g1,g2,g3,g4,g5,g6,g7,g8,g9,ga,gc,gd,ge,gf,gg,gh,gi,gj,gk,gl,gm,gn,gp,gq,gr,gs,gt,gu,gw,gx,gy,gz,gA,gB,gC,gD,gE,gF,gG,gH,gI,gJ,gK,gL,gM,gN,gO,gP,gQ,gR,gS,gT,gU,gV,gW,gX,gY,gZ,h1,h2,h3,h5,h6,h8,h9,ha,hc,he,hf,hg,hh,hj,ho,hp,hr,hs,ht,hu,hv,hw,hx,hy,hz,hA,hB,hD,hE,hF,hG,hH,hJ,hL,hM,hN,hO,hP,hQ,hS,hT,hU,hV,hW,hX,hY,hZ,i3,i5,dW],defers:=[]} w'))
  (e7:m=7) :
  (nav [true,true,true,false,true,false,false,true,false,false,true,true,false,true,false,false] (Tryz.f33.body.getD .skip)).wp Tryz.prog (Exit.then K (Exit.inBlock 2 (Exit.then K1 (Exit.inBlock 1 (Exit.then K2 Q))))) {tmps:=#[.pointer (some ⟨W.g,0,none⟩),.agg #[.string ⟨fn.toArray⟩,.slice pA ps.length pc,.slice bA bn bc],.slice vA us.length vc,.int .i64 (d:Int),.int .i64 (most:Int),u5,.pointer (some ⟨w.heap.size,0,none⟩),u7,u8,u9,a0,.slice oA P.length oc,.int .i64 (k:Int),.pointer (some ⟨wr.heap.size,0,none⟩),.int .i64 (m:Int),a1,a2,a3,a4,a5,a6,a7,a8,a9,aa,ab,ac,ad,ae,af,ag,ah,ai,aj,ak,al,am,an,ao,ap,aq,ar,au,av,aw,ax,ay,az,aA,aB,aC,aD,aE,aF,aG,aH,aI,aJ,aK,aL,aM,aN,aO,aP,aQ,aR,aS,aT,aU,aV,aW,aX,aY,aZ,b0,b1,b2,b3,b4,b5,b6,b7,b8,b9,ba,bb,bd,be,bf,bg,bh,bi,bj,bk,bl,bm,bo,bp,bq,br,bs,bt,bu,bv,bw,bx,bz,bB,bC,bD,bE,bF,bG,bH,bI,bJ,bK,bL,bM,bN,bO,bP,bQ,bR,bS,bT,bU,bV,bW,bX,bY,bZ,c0,c1,c2,c3,c4,c5,c6,c7,c8,c9,cc,cd,ce,cf,cg,ch,ci,cj,ck,cl,cm,cn,co,cp,cq,cr,ct,cu,cv,cw,cx,cy,cz,cA,cB,cC,cD,cE,cF,cG,cH,cI,cJ,cK,cL,cM,cN,cO,cP,cQ,cR,cS,cT,cU,cV,cW,cX,cY,cZ,d0,d1,d2,d3,d4,d5,d6,d7,d8,d9,da,db,dc,dd,de,df,dg,dh,di,dj,dk,dl,dm,dn,dp,dq,dr,ds,dt,du,dv,dw,dx,dy,dz,dA,dB,dC,dD,dE,dF,dG,dH,dI,dJ,dK,dL,dM,dN,dO,dP,dQ,dR,dS,dT,dU,dV,dW],defers:=[]} w3:=by
 obtain⟨hps,hl,hd,hm,hn,hql,hgl,hll,hgl',hwr,hk,hk0,hun,hlo,hPl,hm14,HP,IH3,IH2,HBL,HS,HF3,HT3,HW3,HNq,HNg,HPm,f0,f1,f2⟩:=hC;have hg0:=hgl;have hq0:=hql;obtain⟨i0,hi,hz0,hz1,hz2⟩:=info_parts Tryz.infoStr;obtain⟨iS,hiS,hs0,hs1,hs2⟩:=info_parts Tryz.infoSt;dsimp only[nav,Tryz.f33,Option.getD] at hK hK1 hK2 ⊢;have h4:¬m<4:=by omega
 have t4:¬((m:Nat):Int)<4:=by omega
 have h7:¬m<7:=by omega
 have t7:¬((m:Nat):Int)<7:=by omega
 subst e7;have hva:=vname_a lo (by omega);have hvb:=vname_b lo (by omega);have HVN:Hid (zhN lo=[118,UInt8.ofNat (97+lo % 26),UInt8.ofNat (97+lo / 26 % 26)]):=rfl;generalize UInt8.ofNat (97+lo % 26)=ca at *;generalize UInt8.ofNat (97+lo / 26 % 26)=cb at *;have hTq:wr.heap.size≠W.q:=by omega
 have hgT:W.g≠wr.heap.size:=by omega
 have hqw3:W.q≠w3.heap.size:=by have:=HW3.out.src.lt;omega
 have hz3:=lt_of_block HT3.out;have HW3d:Hid (WrM w3.drew W i2 lo):=HW3.out.keep fun _ _=>rfl;have HNd:Hid (StrN w3.drew W.q vA us):=HNq.out;have hTw7:w3.heap.size≠wr.heap.size:=by omega
 have q4:=HW3.out.cells.2.2.2.1;clear f0 f1 f2 t4 h4 h7 hm14;go_wp2_with fail;clear t7
 go_cut [13] from 27 to 247 (fun s13 wx=>s13=.pointer (some ⟨wr.heap.size,0,none⟩)∧∃(E:Ex) (fo fx:Int) (fname:List UInt8) (fA:Option Addr) (fl fc i4:Nat),ExW 2 us E∧VarP W wr lo i4 ca cb E fo fx fname fA fl fc wx)
 case first =>
  refine wp_region_noPanic ?_;refine wp_region_held_drew (S:=fun w'=>w'.cell? ⟨W.g,4,none⟩=some (.int .i64 (lo:Int))) (by kernel_rfl) (by repeat (first|with_reducible assumption|with_reducible refine za9 _ ?_|with_reducible refine za8 ?_|with_reducible refine za7 hgT ?_)) (fun hHeld=>?_);refine wpAnyH_take (i:=0) (oi:=opV0) (v:=?_) rfl (by kernel_rfl) (by kernel_rfl) (by kernel_rfl) (fun _ _ _ h=>h) (Or.inl ⟨by rfl,?y1⟩) (by assumption) ?ry1
  case y1=>intro wz hSw;(try dsimp only at hSw);dsimp only[opV0];go_simp;(try with_reducible rfl)
  try simp only[opV0,Act.put,zS,zZ,zT]
  refine wpAnyH_take (i:=1) (oi:=opV1) (v:=?_) rfl (by kernel_rfl) (by kernel_rfl) (by kernel_rfl) (fun _ _ _ h=>h) (Or.inl ⟨by rfl,?y2⟩) (by assumption) ?ry2
  case y2=>intro wz hSw;(try dsimp only at hSw);dsimp only[opV1];go_simp;(try with_reducible rfl)
  try simp only[opV1,Act.put,zS,zZ,zT]
  refine wpAnyH_take (i:=3) (oi:=opV3) (v:=?_) rfl (by kernel_rfl) (by kernel_rfl) (by kernel_rfl) (fun _ _ _ h=>h) (Or.inl ⟨by rfl,?y3⟩) (by assumption) ?ry3
  case y3=>intro wz hSw;(try dsimp only at hSw);dsimp only[opV3];go_simp;(try with_reducible rfl)
  try simp only[opV3,Act.put,zS,zZ,zT]
  refine wpAnyH_take (i:=4) (oi:=opV4) (v:=?_) rfl (by kernel_rfl) (by kernel_rfl) (by kernel_rfl) (fun _ _ _ h=>h) (Or.inl ⟨by rfl,?y4⟩) (by assumption) ?ry4
  case y4=>intro wz hSw;(try dsimp only at hSw);dsimp only[opV4];go_simp;(try with_reducible rfl)
  try simp only[opV4,Act.put,zS,zZ,zT]
  refine wpAnyH_take (i:=5) (oi:=opV5) (v:=?_) rfl (by kernel_rfl) (by kernel_rfl) (by kernel_rfl) (fun _ _ _ h=>h) (Or.inl ⟨by rfl,?y5⟩) (by assumption) ?ry5
  case y5=>intro wz hSw;(try dsimp only at hSw);dsimp only[opV5];go_simp;(try with_reducible rfl)
  try simp only[opV5,Act.put,zS,zZ,zT]
  refine wpAnyH_take (i:=6) (oi:=opV6) (v:=?_) rfl (by kernel_rfl) (by kernel_rfl) (by kernel_rfl) (fun _ _ _ h=>h) (Or.inl ⟨by rfl,?y6⟩) (by assumption) ?ry6
  case y6=>intro wz hSw;(try dsimp only at hSw);dsimp only[opV6];go_simp;(try with_reducible rfl)
  try simp only[opV6,Act.put,zS,zZ,zT]
  refine wpAnyH_take (i:=7) (oi:=opV7) (v:=?_) rfl (by kernel_rfl) (by kernel_rfl) (by kernel_rfl) (fun _ _ _ h=>h) (Or.inl ⟨by rfl,?y7⟩) (by assumption) ?ry7
  case y7=>intro wz hSw;(try dsimp only at hSw);dsimp only[opV7];go_simp;(try with_reducible rfl)
  try simp only[opV7,Act.put,zS,zZ,zT]
  refine wpAnyH_take (i:=8) (oi:=opV8) (v:=?_) rfl (by kernel_rfl) (by kernel_rfl) (by kernel_rfl) (fun _ _ _ h=>h) (Or.inl ⟨by rfl,?y8⟩) (by assumption) ?ry8
  case y8=>intro wz hSw;(try dsimp only at hSw);dsimp only[opV8];go_simp;(try with_reducible rfl)
  try simp only[opV8,Act.put,zS,zZ,zT]
  refine wpAnyH_take (i:=9) (oi:=opV9) (v:=?_) rfl (by kernel_rfl) (by kernel_rfl) (by kernel_rfl) (fun _ _ _ h=>h) (Or.inl ⟨by rfl,?y9⟩) (by assumption) ?ry9
  case y9=>intro wz hSw;(try dsimp only at hSw);dsimp only[opV9];go_simp;(try with_reducible rfl)
  try simp only[opV9,Act.put,zS,zZ,zT]
  refine wpAnyH_take (i:=10) (oi:=opV10) (v:=?_) rfl (by kernel_rfl) (by kernel_rfl) (by kernel_rfl) (fun _ _ _ h=>h) (Or.inl ⟨by rfl,?y10⟩) (by assumption) ?ry10
  case y10=>intro wz hSw;(try dsimp only at hSw);dsimp only[opV10];go_simp;(try with_reducible rfl)
  try simp only[opV10,Act.put,zS,zZ,zT]
  refine wpAnyH_take (i:=11) (oi:=opV11) (v:=?_) rfl (by kernel_rfl) (by kernel_rfl) (by kernel_rfl) (fun _ _ _ h=>h) (Or.inl ⟨by rfl,?y11⟩) (by assumption) ?ry11
  case y11=>intro wz hSw;(try dsimp only at hSw);dsimp only[opV11];go_simp;(try with_reducible rfl)
  try simp only[opV11,Act.put,zS,zZ,zT]
  refine wpAnyH_take (i:=12) (oi:=opV12) (v:=?_) rfl (by kernel_rfl) (by kernel_rfl) (by kernel_rfl) (fun _ _ _ h=>h) (Or.inl ⟨by rfl,?y12⟩) (by assumption) ?ry12
  case y12=>intro wz hSw;(try dsimp only at hSw);dsimp only[opV12];go_simp;(try with_reducible rfl)
  try simp only[opV12,Act.put,zS,zZ,zT]
  refine wpAnyH_take (i:=13) (oi:=opV13) (v:=?_) rfl (by kernel_rfl) (by kernel_rfl) (by kernel_rfl) (fun _ _ _ h=>h) (Or.inl ⟨by rfl,?y13⟩) (by assumption) ?ry13
  case y13=>intro wz hSw;(try dsimp only at hSw);dsimp only[opV13];go_simp;(try with_reducible rfl)
  try simp only[opV13,Act.put,zS,zZ,zT]
  refine wpAnyH_take (i:=14) (oi:=opV14) (v:=?_) rfl (by kernel_rfl) (by kernel_rfl) (by kernel_rfl) (fun _ _ _ h=>h) (Or.inl ⟨by rfl,?y14⟩) (by assumption) ?ry14
  case y14=>intro wz hSw;(try dsimp only at hSw);dsimp only[opV14];go_simp;(try with_reducible rfl)
  try simp only[opV14,Act.put,zS,zZ,zT]
  refine wpAnyH_take (i:=15) (oi:=opV15) (v:=?_) rfl (by kernel_rfl) (by kernel_rfl) (by kernel_rfl) (fun _ _ _ h=>h) (Or.inl ⟨by rfl,?y15⟩) (by assumption) ?ry15
  case y15=>intro wz hSw;(try dsimp only at hSw);dsimp only[opV15];go_simp;(try with_reducible rfl)
  try simp only[opV15,Act.put,zS,zZ,zT]
  refine wpAnyH_take (i:=16) (oi:=opV16) (v:=?_) rfl (by kernel_rfl) (by kernel_rfl) (by kernel_rfl) (fun _ _ _ h=>h) (Or.inl ⟨by rfl,?y16⟩) (by assumption) ?ry16
  case y16=>intro wz hSw;(try dsimp only at hSw);dsimp only[opV16];go_simp;(try with_reducible rfl)
  try simp only[opV16,Act.put,zS,zZ,zT]
  refine wpAnyH_take (i:=17) (oi:=opV17) (v:=?_) rfl (by kernel_rfl) (by kernel_rfl) (by kernel_rfl) (fun _ _ _ h=>h) (Or.inl ⟨by rfl,?y17⟩) (by assumption) ?ry17
  case y17=>intro wz hSw;(try dsimp only at hSw);dsimp only[opV17];go_simp;(try with_reducible rfl)
  try simp only[opV17,Act.put,zS,zZ,zT]
  refine wpAnyH_take (i:=21) (oi:=opV21) (v:=?_) rfl (by kernel_rfl) (by kernel_rfl) (by kernel_rfl) (fun _ _ _ h=>h) (Or.inl ⟨by rfl,?y18⟩) (by assumption) ?ry18
  case y18=>intro wz hSw;(try dsimp only at hSw);dsimp only[opV21];go_simp;(try with_reducible rfl)
  try simp only[opV21,Act.put,zS,zZ,zT]
  refine wpAnyH_ready (rs:=[2,18]) (by kernel_rfl) (by simp) ?_;refine AllReadyH.cons (o:=opV2) rfl (fun K hK=>?_) ?_
  ·
   dsimp only[opV2];(go_simp;go_at_call 57;refine(zca _ W i2 lo us vA vc (by with_reducible first|exact HW3d.out|exact WrM.drew (WrM.alloc HW3.out _)|exact WrM.alloc HW3.out _) (by with_reducible first|exact HNd.out|exact StrN.drew (StrN.alloc HNq.out _)|exact StrN.alloc HNq.out _) (by omega)).mono ?_;rintro e w4 ⟨f,E,i4,rfl,hR,hI,hW4,hG4⟩;obtain⟨fo,fx,fname,fA,fl,fc⟩:=f;have q4x:=hW4.cells.2.2.2.1;have hG5:w3.grownBy w4 (some W.q):=(by with_reducible first|exact za6 (zaB hG4)|exact zaB hG4|exact za6 hG4);obtain⟨hF4,hT4,⟨s0,s1,s2,s3,s4,s5,-⟩,sf,hTw4,hTw5,hz4⟩:=zew HF3.out hG5 HT3.out hTq;have HF4:=zH hF4;have HT4:=zH hT4;have HM4:=zH (hI.more (S':=(w3.heap.size≤·)) fun b hb=>Nat.le_trans (by simp) hb);have HW4:=zH hW4;have HR4:=zH hR;have hTw6:=Ne.symm hTw5;obtain⟨⟨x2,x3,x4,x5⟩,xf⟩:=stp11 (.int .i64 1) (.cells #[.int .u8 (ca.toNat:Int),.int .u8 (cb.toNat:Int)] 5) hT4;(try (have HNW:=(NewsAt.alloc w3 w3.heap.size rfl [.int .u8 (ca.toNat:Int),.int .u8 (cb.toNat:Int)] 5).keep (hG4.block _ (by simp) (fun e=>by injection e with e;exact hqw3 e.symm))));clear hR hI hW4 hG4 hG5 hT4 hF4;dsimp only[EF.val]);refine hK.out _ _ (by repeat (first|with_reducible assumption|with_reducible refine za9 _ ?_|with_reducible refine za8 ?_|with_reducible refine za7 hgT ?_)) (fun hHeld=>?_);clear hK K
   try simp only[opV2,Act.put,zS,zZ,zT]
   refine wpAnyH_ready (rs:=[18,22]) (by kernel_rfl) (by simp) ?_;refine AllReadyH.cons (o:=zdR) rfl (fun K hK=>?_) ?_
   ·
    dsimp only[zdR];go_simp;refine hK.out _ _ (by repeat (first|with_reducible assumption|with_reducible refine za9 _ ?_|with_reducible refine za8 ?_|with_reducible refine za7 hgT ?_)) (fun hHeld=>?_);clear hK K
    try simp only[zdR,Act.put,zS,zZ,zT]
    refine wpAnyH_ready (rs:=[19,22]) (by kernel_rfl) (by simp) ?_;refine AllReadyH.cons (o:=zby) rfl (fun K hK=>?_) ?_
    ·
     dsimp only[zby];(go_simp;rw[zbN ca cb _ _ _ (by repeat (first|with_reducible assumption|(with_reducible refine NewsAt.alloc _ _ ?_ _ _;first|rfl|simp[World.setCell];done)|with_reducible refine NewsAt.drew ?_|with_reducible refine NewsAt.set ?_ hTw6|with_reducible refine NewsAt.set ?_ hTw7))];go_simp);refine hK.out _ _ (by repeat (first|with_reducible assumption|with_reducible refine za9 _ ?_|with_reducible refine za8 ?_|with_reducible refine za7 hgT ?_)) (fun hHeld=>?_);clear hK K
     try simp only[zby,Act.put,zS,zZ,zT]
     refine wpAnyH_take (i:=20) (oi:=zbx) (v:=?_) rfl (by kernel_rfl) (by kernel_rfl) (by kernel_rfl) (fun _ _ _ h=>h) (Or.inl ⟨by rfl,?y19⟩) (by assumption) ?ry19
     case y19=>intro wz hSw;(try dsimp only at hSw);dsimp only[zbx];go_simp;(try with_reducible rfl)
     try simp only[zbx,Act.put,zS,zZ,zT]
     refine wpAnyH_ready (rs:=[22]) (by kernel_rfl) (by simp) ?_;refine AllReadyH.cons (o:=zcN) rfl (fun K hK=>?_) ?_
     ·
      dsimp only[zcN];go_simp;refine hK.out _ _ (by repeat (first|with_reducible assumption|with_reducible refine za9 _ ?_|with_reducible refine za8 ?_|with_reducible refine za7 hgT ?_)) (fun hHeld=>?_);clear hK K
      try simp only[zcN,Act.put,zS,zZ,zT]
      refine wpAnyH_take (i:=23) (oi:=zcM) (v:=?_) rfl (by kernel_rfl) (by kernel_rfl) (by kernel_rfl) (fun _ _ _ h=>h) (Or.inl ⟨by rfl,?y20⟩) (by assumption) ?ry20
      case y20=>intro wz hSw;(try dsimp only at hSw);dsimp only[zcM];go_simp;(try with_reducible rfl)
      try simp only[zcM,Act.put,zS,zZ,zT]
      refine wpAnyH_ready (rs:=[24]) (by kernel_rfl) (by simp) ?_;refine AllReadyH.cons (o:=zbw) rfl (fun K hK=>?_) ?_
      ·
       dsimp only[zbw];go_simp;refine hK.out _ _ (by repeat (first|with_reducible assumption|with_reducible refine za9 _ ?_|with_reducible refine za8 ?_|with_reducible refine za7 hgT ?_)) (fun hHeld=>?_);clear hK K
       try simp only[zbw,Act.put,zS,zZ,zT]
       refine wpAnyH_take (i:=25) (oi:=zbv) (v:=?_) rfl (by kernel_rfl) (by kernel_rfl) (by kernel_rfl) (fun _ _ _ h=>h) (Or.inl ⟨by rfl,?y21⟩) (by assumption) ?ry21
       case y21=>intro wz hSw;(try dsimp only at hSw);dsimp only[zbv];go_simp;(try with_reducible rfl)
       try simp only[zbv,Act.put,zS,zZ,zT]
       refine wpAnyH_ready (rs:=[26]) (by kernel_rfl) (by simp) ?_;refine AllReadyH.cons (o:=zbu) rfl (fun K hK=>?_) ?_
       ·
        dsimp only[zbu];go_simp;refine hK.out _ _ (by repeat (first|with_reducible assumption|with_reducible refine za9 _ ?_|with_reducible refine za8 ?_|with_reducible refine za7 hgT ?_)) (fun hHeld=>?_);clear hK K
        try simp only[zbu,Act.put,zS,zZ,zT]
        refine wpAnyH_done (by kernel_rfl) ?_ _;refine NoPanic.normal ?_;go_wp2_with fail
        go_meet
        rw[show (({data:=#[118]}:ByteArray)++{data:=#[ca,cb]})=⟨#[118,ca,cb]⟩ from rfl];refine⟨rfl,E,fo,fx,fname,fA,fl,fc,i4,HR4.out,?_⟩
        first
         | with_reducible exact zaJ ca cb HS.out HF4.out HW4.out HT4.out HM4.out hz3
         | with_reducible exact VarP.alloc (zaJ ca cb HS.out HF4.out HW4.out HT4.out HM4.out hz3) _
       exact AllReadyH.nil
      exact AllReadyH.nil
     exact AllReadyH.nil
    refine AllReadyH.cons (o:=zcN) rfl (fun K hK=>?_) ?_
    ·
     dsimp only[zcN];go_simp;refine hK.out _ _ (by repeat (first|with_reducible assumption|with_reducible refine za9 _ ?_|with_reducible refine za8 ?_|with_reducible refine za7 hgT ?_)) (fun hHeld=>?_);clear hK K
     try simp only[zcN,Act.put,zS,zZ,zT]
     refine wpAnyH_take (i:=23) (oi:=zcM) (v:=?_) rfl (by kernel_rfl) (by kernel_rfl) (by kernel_rfl) (fun _ _ _ h=>h) (Or.inl ⟨by rfl,?y22⟩) (by assumption) ?ry22
     case y22=>intro wz hSw;(try dsimp only at hSw);dsimp only[zcM];go_simp;(try with_reducible rfl)
     try simp only[zcM,Act.put,zS,zZ,zT]
     refine wpAnyH_ready (rs:=[19,24]) (by kernel_rfl) (by simp) ?_;refine AllReadyH.cons (o:=zby) rfl (fun K hK=>?_) ?_
     ·
      dsimp only[zby];(go_simp;rw[zbN ca cb _ _ _ (by repeat (first|with_reducible assumption|(with_reducible refine NewsAt.alloc _ _ ?_ _ _;first|rfl|simp[World.setCell];done)|with_reducible refine NewsAt.drew ?_|with_reducible refine NewsAt.set ?_ hTw6|with_reducible refine NewsAt.set ?_ hTw7))];go_simp);refine hK.out _ _ (by repeat (first|with_reducible assumption|with_reducible refine za9 _ ?_|with_reducible refine za8 ?_|with_reducible refine za7 hgT ?_)) (fun hHeld=>?_);clear hK K
      try simp only[zby,Act.put,zS,zZ,zT]
      refine wpAnyH_take (i:=20) (oi:=zbx) (v:=?_) rfl (by kernel_rfl) (by kernel_rfl) (by kernel_rfl) (fun _ _ _ h=>h) (Or.inl ⟨by rfl,?y23⟩) (by assumption) ?ry23
      case y23=>intro wz hSw;(try dsimp only at hSw);dsimp only[zbx];go_simp;(try with_reducible rfl)
      try simp only[zbx,Act.put,zS,zZ,zT]
      refine wpAnyH_ready (rs:=[24]) (by kernel_rfl) (by simp) ?_;refine AllReadyH.cons (o:=zbw) rfl (fun K hK=>?_) ?_
      ·
       dsimp only[zbw];go_simp;refine hK.out _ _ (by repeat (first|with_reducible assumption|with_reducible refine za9 _ ?_|with_reducible refine za8 ?_|with_reducible refine za7 hgT ?_)) (fun hHeld=>?_);clear hK K
       try simp only[zbw,Act.put,zS,zZ,zT]
       refine wpAnyH_take (i:=25) (oi:=zbv) (v:=?_) rfl (by kernel_rfl) (by kernel_rfl) (by kernel_rfl) (fun _ _ _ h=>h) (Or.inl ⟨by rfl,?y24⟩) (by assumption) ?ry24
       case y24=>intro wz hSw;(try dsimp only at hSw);dsimp only[zbv];go_simp;(try with_reducible rfl)
       try simp only[zbv,Act.put,zS,zZ,zT]
       refine wpAnyH_ready (rs:=[26]) (by kernel_rfl) (by simp) ?_;refine AllReadyH.cons (o:=zbu) rfl (fun K hK=>?_) ?_
       ·
        dsimp only[zbu];go_simp;refine hK.out _ _ (by repeat (first|with_reducible assumption|with_reducible refine za9 _ ?_|with_reducible refine za8 ?_|with_reducible refine za7 hgT ?_)) (fun hHeld=>?_);clear hK K
        try simp only[zbu,Act.put,zS,zZ,zT]
        refine wpAnyH_done (by kernel_rfl) ?_ _;refine NoPanic.normal ?_;go_wp2_with fail
        go_meet
        rw[show (({data:=#[118]}:ByteArray)++{data:=#[ca,cb]})=⟨#[118,ca,cb]⟩ from rfl];refine⟨rfl,E,fo,fx,fname,fA,fl,fc,i4,HR4.out,?_⟩
        first
         | with_reducible exact zaJ ca cb HS.out HF4.out HW4.out HT4.out HM4.out hz3
         | with_reducible exact VarP.alloc (zaJ ca cb HS.out HF4.out HW4.out HT4.out HM4.out hz3) _
       exact AllReadyH.nil
      exact AllReadyH.nil
     refine AllReadyH.cons (o:=zbw) rfl (fun K hK=>?_) ?_
     ·
      dsimp only[zbw];go_simp;refine hK.out _ _ (by repeat (first|with_reducible assumption|with_reducible refine za9 _ ?_|with_reducible refine za8 ?_|with_reducible refine za7 hgT ?_)) (fun hHeld=>?_);clear hK K
      try simp only[zbw,Act.put,zS,zZ,zT]
      refine wpAnyH_ready (rs:=[19]) (by kernel_rfl) (by simp) ?_;refine AllReadyH.cons (o:=zby) rfl (fun K hK=>?_) ?_
      ·
       dsimp only[zby];(go_simp;rw[zbN ca cb _ _ _ (by repeat (first|with_reducible assumption|(with_reducible refine NewsAt.alloc _ _ ?_ _ _;first|rfl|simp[World.setCell];done)|with_reducible refine NewsAt.drew ?_|with_reducible refine NewsAt.set ?_ hTw6|with_reducible refine NewsAt.set ?_ hTw7))];go_simp);refine hK.out _ _ (by repeat (first|with_reducible assumption|with_reducible refine za9 _ ?_|with_reducible refine za8 ?_|with_reducible refine za7 hgT ?_)) (fun hHeld=>?_);clear hK K
       try simp only[zby,Act.put,zS,zZ,zT]
       refine wpAnyH_take (i:=20) (oi:=zbx) (v:=?_) rfl (by kernel_rfl) (by kernel_rfl) (by kernel_rfl) (fun _ _ _ h=>h) (Or.inl ⟨by rfl,?y25⟩) (by assumption) ?ry25
       case y25=>intro wz hSw;(try dsimp only at hSw);dsimp only[zbx];go_simp;(try with_reducible rfl)
       try simp only[zbx,Act.put,zS,zZ,zT]
       refine wpAnyH_take (i:=25) (oi:=zbv) (v:=?_) rfl (by kernel_rfl) (by kernel_rfl) (by kernel_rfl) (fun _ _ _ h=>h) (Or.inl ⟨by rfl,?y26⟩) (by assumption) ?ry26
       case y26=>intro wz hSw;(try dsimp only at hSw);dsimp only[zbv];go_simp;(try with_reducible rfl)
       try simp only[zbv,Act.put,zS,zZ,zT]
       refine wpAnyH_ready (rs:=[26]) (by kernel_rfl) (by simp) ?_;refine AllReadyH.cons (o:=zbu) rfl (fun K hK=>?_) ?_
       ·
        dsimp only[zbu];go_simp;refine hK.out _ _ (by repeat (first|with_reducible assumption|with_reducible refine za9 _ ?_|with_reducible refine za8 ?_|with_reducible refine za7 hgT ?_)) (fun hHeld=>?_);clear hK K
        try simp only[zbu,Act.put,zS,zZ,zT]
        refine wpAnyH_done (by kernel_rfl) ?_ _;refine NoPanic.normal ?_;go_wp2_with fail
        go_meet
        rw[show (({data:=#[118]}:ByteArray)++{data:=#[ca,cb]})=⟨#[118,ca,cb]⟩ from rfl];refine⟨rfl,E,fo,fx,fname,fA,fl,fc,i4,HR4.out,?_⟩
        first
         | with_reducible exact zaJ ca cb HS.out HF4.out HW4.out HT4.out HM4.out hz3
         | with_reducible exact VarP.alloc (zaJ ca cb HS.out HF4.out HW4.out HT4.out HM4.out hz3) _
       exact AllReadyH.nil
      exact AllReadyH.nil
     exact AllReadyH.nil
    exact AllReadyH.nil
   refine AllReadyH.cons (o:=zcN) rfl (fun K hK=>?_) ?_
   ·
    dsimp only[zcN];go_simp;refine hK.out _ _ (by repeat (first|with_reducible assumption|with_reducible refine za9 _ ?_|with_reducible refine za8 ?_|with_reducible refine za7 hgT ?_)) (fun hHeld=>?_);clear hK K
    try simp only[zcN,Act.put,zS,zZ,zT]
    refine wpAnyH_take (i:=23) (oi:=zcM) (v:=?_) rfl (by kernel_rfl) (by kernel_rfl) (by kernel_rfl) (fun _ _ _ h=>h) (Or.inl ⟨by rfl,?y27⟩) (by assumption) ?ry27
    case y27=>intro wz hSw;(try dsimp only at hSw);dsimp only[zcM];go_simp;(try with_reducible rfl)
    try simp only[zcM,Act.put,zS,zZ,zT]
    refine wpAnyH_ready (rs:=[18,24]) (by kernel_rfl) (by simp) ?_;refine AllReadyH.cons (o:=zdR) rfl (fun K hK=>?_) ?_
    ·
     dsimp only[zdR];go_simp;refine hK.out _ _ (by repeat (first|with_reducible assumption|with_reducible refine za9 _ ?_|with_reducible refine za8 ?_|with_reducible refine za7 hgT ?_)) (fun hHeld=>?_);clear hK K
     try simp only[zdR,Act.put,zS,zZ,zT]
     refine wpAnyH_ready (rs:=[19,24]) (by kernel_rfl) (by simp) ?_;refine AllReadyH.cons (o:=zby) rfl (fun K hK=>?_) ?_
     ·
      dsimp only[zby];(go_simp;rw[zbN ca cb _ _ _ (by repeat (first|with_reducible assumption|(with_reducible refine NewsAt.alloc _ _ ?_ _ _;first|rfl|simp[World.setCell];done)|with_reducible refine NewsAt.drew ?_|with_reducible refine NewsAt.set ?_ hTw6|with_reducible refine NewsAt.set ?_ hTw7))];go_simp);refine hK.out _ _ (by repeat (first|with_reducible assumption|with_reducible refine za9 _ ?_|with_reducible refine za8 ?_|with_reducible refine za7 hgT ?_)) (fun hHeld=>?_);clear hK K
      try simp only[zby,Act.put,zS,zZ,zT]
      refine wpAnyH_take (i:=20) (oi:=zbx) (v:=?_) rfl (by kernel_rfl) (by kernel_rfl) (by kernel_rfl) (fun _ _ _ h=>h) (Or.inl ⟨by rfl,?y28⟩) (by assumption) ?ry28
      case y28=>intro wz hSw;(try dsimp only at hSw);dsimp only[zbx];go_simp;(try with_reducible rfl)
      try simp only[zbx,Act.put,zS,zZ,zT]
      refine wpAnyH_ready (rs:=[24]) (by kernel_rfl) (by simp) ?_;refine AllReadyH.cons (o:=zbw) rfl (fun K hK=>?_) ?_
      ·
       dsimp only[zbw];go_simp;refine hK.out _ _ (by repeat (first|with_reducible assumption|with_reducible refine za9 _ ?_|with_reducible refine za8 ?_|with_reducible refine za7 hgT ?_)) (fun hHeld=>?_);clear hK K
       try simp only[zbw,Act.put,zS,zZ,zT]
       refine wpAnyH_take (i:=25) (oi:=zbv) (v:=?_) rfl (by kernel_rfl) (by kernel_rfl) (by kernel_rfl) (fun _ _ _ h=>h) (Or.inl ⟨by rfl,?y29⟩) (by assumption) ?ry29
       case y29=>intro wz hSw;(try dsimp only at hSw);dsimp only[zbv];go_simp;(try with_reducible rfl)
       try simp only[zbv,Act.put,zS,zZ,zT]
       refine wpAnyH_ready (rs:=[26]) (by kernel_rfl) (by simp) ?_;refine AllReadyH.cons (o:=zbu) rfl (fun K hK=>?_) ?_
       ·
        dsimp only[zbu];go_simp;refine hK.out _ _ (by repeat (first|with_reducible assumption|with_reducible refine za9 _ ?_|with_reducible refine za8 ?_|with_reducible refine za7 hgT ?_)) (fun hHeld=>?_);clear hK K
        try simp only[zbu,Act.put,zS,zZ,zT]
        refine wpAnyH_done (by kernel_rfl) ?_ _;refine NoPanic.normal ?_;go_wp2_with fail
        go_meet
        rw[show (({data:=#[118]}:ByteArray)++{data:=#[ca,cb]})=⟨#[118,ca,cb]⟩ from rfl];refine⟨rfl,E,fo,fx,fname,fA,fl,fc,i4,HR4.out,?_⟩
        first
         | with_reducible exact zaJ ca cb HS.out HF4.out HW4.out HT4.out HM4.out hz3
         | with_reducible exact VarP.alloc (zaJ ca cb HS.out HF4.out HW4.out HT4.out HM4.out hz3) _
       exact AllReadyH.nil
      exact AllReadyH.nil
     refine AllReadyH.cons (o:=zbw) rfl (fun K hK=>?_) ?_
     ·
      dsimp only[zbw];go_simp;refine hK.out _ _ (by repeat (first|with_reducible assumption|with_reducible refine za9 _ ?_|with_reducible refine za8 ?_|with_reducible refine za7 hgT ?_)) (fun hHeld=>?_);clear hK K
      try simp only[zbw,Act.put,zS,zZ,zT]
      refine wpAnyH_ready (rs:=[19]) (by kernel_rfl) (by simp) ?_;refine AllReadyH.cons (o:=zby) rfl (fun K hK=>?_) ?_
      ·
       dsimp only[zby];(go_simp;rw[zbN ca cb _ _ _ (by repeat (first|with_reducible assumption|(with_reducible refine NewsAt.alloc _ _ ?_ _ _;first|rfl|simp[World.setCell];done)|with_reducible refine NewsAt.drew ?_|with_reducible refine NewsAt.set ?_ hTw6|with_reducible refine NewsAt.set ?_ hTw7))];go_simp);refine hK.out _ _ (by repeat (first|with_reducible assumption|with_reducible refine za9 _ ?_|with_reducible refine za8 ?_|with_reducible refine za7 hgT ?_)) (fun hHeld=>?_);clear hK K
       try simp only[zby,Act.put,zS,zZ,zT]
       refine wpAnyH_take (i:=20) (oi:=zbx) (v:=?_) rfl (by kernel_rfl) (by kernel_rfl) (by kernel_rfl) (fun _ _ _ h=>h) (Or.inl ⟨by rfl,?y30⟩) (by assumption) ?ry30
       case y30=>intro wz hSw;(try dsimp only at hSw);dsimp only[zbx];go_simp;(try with_reducible rfl)
       try simp only[zbx,Act.put,zS,zZ,zT]
       refine wpAnyH_take (i:=25) (oi:=zbv) (v:=?_) rfl (by kernel_rfl) (by kernel_rfl) (by kernel_rfl) (fun _ _ _ h=>h) (Or.inl ⟨by rfl,?y31⟩) (by assumption) ?ry31
       case y31=>intro wz hSw;(try dsimp only at hSw);dsimp only[zbv];go_simp;(try with_reducible rfl)
       try simp only[zbv,Act.put,zS,zZ,zT]
       refine wpAnyH_ready (rs:=[26]) (by kernel_rfl) (by simp) ?_;refine AllReadyH.cons (o:=zbu) rfl (fun K hK=>?_) ?_
       ·
        dsimp only[zbu];go_simp;refine hK.out _ _ (by repeat (first|with_reducible assumption|with_reducible refine za9 _ ?_|with_reducible refine za8 ?_|with_reducible refine za7 hgT ?_)) (fun hHeld=>?_);clear hK K
        try simp only[zbu,Act.put,zS,zZ,zT]
        refine wpAnyH_done (by kernel_rfl) ?_ _;refine NoPanic.normal ?_;go_wp2_with fail
        go_meet
        rw[show (({data:=#[118]}:ByteArray)++{data:=#[ca,cb]})=⟨#[118,ca,cb]⟩ from rfl];refine⟨rfl,E,fo,fx,fname,fA,fl,fc,i4,HR4.out,?_⟩
        first
         | with_reducible exact zaJ ca cb HS.out HF4.out HW4.out HT4.out HM4.out hz3
         | with_reducible exact VarP.alloc (zaJ ca cb HS.out HF4.out HW4.out HT4.out HM4.out hz3) _
       exact AllReadyH.nil
      exact AllReadyH.nil
     exact AllReadyH.nil
    refine AllReadyH.cons (o:=zbw) rfl (fun K hK=>?_) ?_
    ·
     dsimp only[zbw];go_simp;refine hK.out _ _ (by repeat (first|with_reducible assumption|with_reducible refine za9 _ ?_|with_reducible refine za8 ?_|with_reducible refine za7 hgT ?_)) (fun hHeld=>?_);clear hK K
     try simp only[zbw,Act.put,zS,zZ,zT]
     refine wpAnyH_ready (rs:=[18]) (by kernel_rfl) (by simp) ?_;refine AllReadyH.cons (o:=zdR) rfl (fun K hK=>?_) ?_
     ·
      dsimp only[zdR];go_simp;refine hK.out _ _ (by repeat (first|with_reducible assumption|with_reducible refine za9 _ ?_|with_reducible refine za8 ?_|with_reducible refine za7 hgT ?_)) (fun hHeld=>?_);clear hK K
      try simp only[zdR,Act.put,zS,zZ,zT]
      refine wpAnyH_ready (rs:=[19]) (by kernel_rfl) (by simp) ?_;refine AllReadyH.cons (o:=zby) rfl (fun K hK=>?_) ?_
      ·
       dsimp only[zby];(go_simp;rw[zbN ca cb _ _ _ (by repeat (first|with_reducible assumption|(with_reducible refine NewsAt.alloc _ _ ?_ _ _;first|rfl|simp[World.setCell];done)|with_reducible refine NewsAt.drew ?_|with_reducible refine NewsAt.set ?_ hTw6|with_reducible refine NewsAt.set ?_ hTw7))];go_simp);refine hK.out _ _ (by repeat (first|with_reducible assumption|with_reducible refine za9 _ ?_|with_reducible refine za8 ?_|with_reducible refine za7 hgT ?_)) (fun hHeld=>?_);clear hK K
       try simp only[zby,Act.put,zS,zZ,zT]
       refine wpAnyH_take (i:=20) (oi:=zbx) (v:=?_) rfl (by kernel_rfl) (by kernel_rfl) (by kernel_rfl) (fun _ _ _ h=>h) (Or.inl ⟨by rfl,?y32⟩) (by assumption) ?ry32
       case y32=>intro wz hSw;(try dsimp only at hSw);dsimp only[zbx];go_simp;(try with_reducible rfl)
       try simp only[zbx,Act.put,zS,zZ,zT]
       refine wpAnyH_take (i:=25) (oi:=zbv) (v:=?_) rfl (by kernel_rfl) (by kernel_rfl) (by kernel_rfl) (fun _ _ _ h=>h) (Or.inl ⟨by rfl,?y33⟩) (by assumption) ?ry33
       case y33=>intro wz hSw;(try dsimp only at hSw);dsimp only[zbv];go_simp;(try with_reducible rfl)
       try simp only[zbv,Act.put,zS,zZ,zT]
       refine wpAnyH_ready (rs:=[26]) (by kernel_rfl) (by simp) ?_;refine AllReadyH.cons (o:=zbu) rfl (fun K hK=>?_) ?_
       ·
        dsimp only[zbu];go_simp;refine hK.out _ _ (by repeat (first|with_reducible assumption|with_reducible refine za9 _ ?_|with_reducible refine za8 ?_|with_reducible refine za7 hgT ?_)) (fun hHeld=>?_);clear hK K
        try simp only[zbu,Act.put,zS,zZ,zT]
        refine wpAnyH_done (by kernel_rfl) ?_ _;refine NoPanic.normal ?_;go_wp2_with fail
        go_meet
        rw[show (({data:=#[118]}:ByteArray)++{data:=#[ca,cb]})=⟨#[118,ca,cb]⟩ from rfl];refine⟨rfl,E,fo,fx,fname,fA,fl,fc,i4,HR4.out,?_⟩
        first
         | with_reducible exact zaJ ca cb HS.out HF4.out HW4.out HT4.out HM4.out hz3
         | with_reducible exact VarP.alloc (zaJ ca cb HS.out HF4.out HW4.out HT4.out HM4.out hz3) _
       exact AllReadyH.nil
      exact AllReadyH.nil
     exact AllReadyH.nil
    exact AllReadyH.nil
   exact AllReadyH.nil
  refine AllReadyH.cons (o:=zdR) rfl (fun K hK=>?_) ?_
  ·
   dsimp only[zdR];go_simp;refine hK.out _ _ (by repeat (first|with_reducible assumption|with_reducible refine za9 _ ?_|with_reducible refine za8 ?_|with_reducible refine za7 hgT ?_)) (fun hHeld=>?_);clear hK K
   try simp only[zdR,Act.put,zS,zZ,zT]
   refine wpAnyH_ready (rs:=[2,19]) (by kernel_rfl) (by simp) ?_;refine AllReadyH.cons (o:=opV2) rfl (fun K hK=>?_) ?_
   ·
    dsimp only[opV2];(go_simp;go_at_call 57;refine(zca _ W i2 lo us vA vc (by with_reducible first|exact HW3d.out|exact WrM.drew (WrM.alloc HW3.out _)|exact WrM.alloc HW3.out _) (by with_reducible first|exact HNd.out|exact StrN.drew (StrN.alloc HNq.out _)|exact StrN.alloc HNq.out _) (by omega)).mono ?_;rintro e w4 ⟨f,E,i4,rfl,hR,hI,hW4,hG4⟩;obtain⟨fo,fx,fname,fA,fl,fc⟩:=f;have q4x:=hW4.cells.2.2.2.1;have hG5:w3.grownBy w4 (some W.q):=(by with_reducible first|exact za6 (zaB hG4)|exact zaB hG4|exact za6 hG4);obtain⟨hF4,hT4,⟨s0,s1,s2,s3,s4,s5,-⟩,sf,hTw4,hTw5,hz4⟩:=zew HF3.out hG5 HT3.out hTq;have HF4:=zH hF4;have HT4:=zH hT4;have HM4:=zH (hI.more (S':=(w3.heap.size≤·)) fun b hb=>Nat.le_trans (by simp) hb);have HW4:=zH hW4;have HR4:=zH hR;have hTw6:=Ne.symm hTw5;obtain⟨⟨x2,x3,x4,x5⟩,xf⟩:=stp11 (.int .i64 1) (.cells #[.int .u8 (ca.toNat:Int),.int .u8 (cb.toNat:Int)] 5) hT4;(try (have HNW:=(NewsAt.alloc w3 w3.heap.size rfl [.int .u8 (ca.toNat:Int),.int .u8 (cb.toNat:Int)] 5).keep (hG4.block _ (by simp) (fun e=>by injection e with e;exact hqw3 e.symm))));clear hR hI hW4 hG4 hG5 hT4 hF4;dsimp only[EF.val]);refine hK.out _ _ (by repeat (first|with_reducible assumption|with_reducible refine za9 _ ?_|with_reducible refine za8 ?_|with_reducible refine za7 hgT ?_)) (fun hHeld=>?_);clear hK K
    try simp only[opV2,Act.put,zS,zZ,zT]
    refine wpAnyH_ready (rs:=[19,22]) (by kernel_rfl) (by simp) ?_;refine AllReadyH.cons (o:=zby) rfl (fun K hK=>?_) ?_
    ·
     dsimp only[zby];(go_simp;rw[zbN ca cb _ _ _ (by repeat (first|with_reducible assumption|(with_reducible refine NewsAt.alloc _ _ ?_ _ _;first|rfl|simp[World.setCell];done)|with_reducible refine NewsAt.drew ?_|with_reducible refine NewsAt.set ?_ hTw6|with_reducible refine NewsAt.set ?_ hTw7))];go_simp);refine hK.out _ _ (by repeat (first|with_reducible assumption|with_reducible refine za9 _ ?_|with_reducible refine za8 ?_|with_reducible refine za7 hgT ?_)) (fun hHeld=>?_);clear hK K
     try simp only[zby,Act.put,zS,zZ,zT]
     refine wpAnyH_take (i:=20) (oi:=zbx) (v:=?_) rfl (by kernel_rfl) (by kernel_rfl) (by kernel_rfl) (fun _ _ _ h=>h) (Or.inl ⟨by rfl,?y34⟩) (by assumption) ?ry34
     case y34=>intro wz hSw;(try dsimp only at hSw);dsimp only[zbx];go_simp;(try with_reducible rfl)
     try simp only[zbx,Act.put,zS,zZ,zT]
     refine wpAnyH_ready (rs:=[22]) (by kernel_rfl) (by simp) ?_;refine AllReadyH.cons (o:=zcN) rfl (fun K hK=>?_) ?_
     ·
      dsimp only[zcN];go_simp;refine hK.out _ _ (by repeat (first|with_reducible assumption|with_reducible refine za9 _ ?_|with_reducible refine za8 ?_|with_reducible refine za7 hgT ?_)) (fun hHeld=>?_);clear hK K
      try simp only[zcN,Act.put,zS,zZ,zT]
      refine wpAnyH_take (i:=23) (oi:=zcM) (v:=?_) rfl (by kernel_rfl) (by kernel_rfl) (by kernel_rfl) (fun _ _ _ h=>h) (Or.inl ⟨by rfl,?y35⟩) (by assumption) ?ry35
      case y35=>intro wz hSw;(try dsimp only at hSw);dsimp only[zcM];go_simp;(try with_reducible rfl)
      try simp only[zcM,Act.put,zS,zZ,zT]
      refine wpAnyH_ready (rs:=[24]) (by kernel_rfl) (by simp) ?_;refine AllReadyH.cons (o:=zbw) rfl (fun K hK=>?_) ?_
      ·
       dsimp only[zbw];go_simp;refine hK.out _ _ (by repeat (first|with_reducible assumption|with_reducible refine za9 _ ?_|with_reducible refine za8 ?_|with_reducible refine za7 hgT ?_)) (fun hHeld=>?_);clear hK K
       try simp only[zbw,Act.put,zS,zZ,zT]
       refine wpAnyH_take (i:=25) (oi:=zbv) (v:=?_) rfl (by kernel_rfl) (by kernel_rfl) (by kernel_rfl) (fun _ _ _ h=>h) (Or.inl ⟨by rfl,?y36⟩) (by assumption) ?ry36
       case y36=>intro wz hSw;(try dsimp only at hSw);dsimp only[zbv];go_simp;(try with_reducible rfl)
       try simp only[zbv,Act.put,zS,zZ,zT]
       refine wpAnyH_ready (rs:=[26]) (by kernel_rfl) (by simp) ?_;refine AllReadyH.cons (o:=zbu) rfl (fun K hK=>?_) ?_
       ·
        dsimp only[zbu];go_simp;refine hK.out _ _ (by repeat (first|with_reducible assumption|with_reducible refine za9 _ ?_|with_reducible refine za8 ?_|with_reducible refine za7 hgT ?_)) (fun hHeld=>?_);clear hK K
        try simp only[zbu,Act.put,zS,zZ,zT]
        refine wpAnyH_done (by kernel_rfl) ?_ _;refine NoPanic.normal ?_;go_wp2_with fail
        go_meet
        rw[show (({data:=#[118]}:ByteArray)++{data:=#[ca,cb]})=⟨#[118,ca,cb]⟩ from rfl];refine⟨rfl,E,fo,fx,fname,fA,fl,fc,i4,HR4.out,?_⟩
        first
         | with_reducible exact zaJ ca cb HS.out HF4.out HW4.out HT4.out HM4.out hz3
         | with_reducible exact VarP.alloc (zaJ ca cb HS.out HF4.out HW4.out HT4.out HM4.out hz3) _
       exact AllReadyH.nil
      exact AllReadyH.nil
     exact AllReadyH.nil
    refine AllReadyH.cons (o:=zcN) rfl (fun K hK=>?_) ?_
    ·
     dsimp only[zcN];go_simp;refine hK.out _ _ (by repeat (first|with_reducible assumption|with_reducible refine za9 _ ?_|with_reducible refine za8 ?_|with_reducible refine za7 hgT ?_)) (fun hHeld=>?_);clear hK K
     try simp only[zcN,Act.put,zS,zZ,zT]
     refine wpAnyH_take (i:=23) (oi:=zcM) (v:=?_) rfl (by kernel_rfl) (by kernel_rfl) (by kernel_rfl) (fun _ _ _ h=>h) (Or.inl ⟨by rfl,?y37⟩) (by assumption) ?ry37
     case y37=>intro wz hSw;(try dsimp only at hSw);dsimp only[zcM];go_simp;(try with_reducible rfl)
     try simp only[zcM,Act.put,zS,zZ,zT]
     refine wpAnyH_ready (rs:=[19,24]) (by kernel_rfl) (by simp) ?_;refine AllReadyH.cons (o:=zby) rfl (fun K hK=>?_) ?_
     ·
      dsimp only[zby];(go_simp;rw[zbN ca cb _ _ _ (by repeat (first|with_reducible assumption|(with_reducible refine NewsAt.alloc _ _ ?_ _ _;first|rfl|simp[World.setCell];done)|with_reducible refine NewsAt.drew ?_|with_reducible refine NewsAt.set ?_ hTw6|with_reducible refine NewsAt.set ?_ hTw7))];go_simp);refine hK.out _ _ (by repeat (first|with_reducible assumption|with_reducible refine za9 _ ?_|with_reducible refine za8 ?_|with_reducible refine za7 hgT ?_)) (fun hHeld=>?_);clear hK K
      try simp only[zby,Act.put,zS,zZ,zT]
      refine wpAnyH_take (i:=20) (oi:=zbx) (v:=?_) rfl (by kernel_rfl) (by kernel_rfl) (by kernel_rfl) (fun _ _ _ h=>h) (Or.inl ⟨by rfl,?y38⟩) (by assumption) ?ry38
      case y38=>intro wz hSw;(try dsimp only at hSw);dsimp only[zbx];go_simp;(try with_reducible rfl)
      try simp only[zbx,Act.put,zS,zZ,zT]
      refine wpAnyH_ready (rs:=[24]) (by kernel_rfl) (by simp) ?_;refine AllReadyH.cons (o:=zbw) rfl (fun K hK=>?_) ?_
      ·
       dsimp only[zbw];go_simp;refine hK.out _ _ (by repeat (first|with_reducible assumption|with_reducible refine za9 _ ?_|with_reducible refine za8 ?_|with_reducible refine za7 hgT ?_)) (fun hHeld=>?_);clear hK K
       try simp only[zbw,Act.put,zS,zZ,zT]
       refine wpAnyH_take (i:=25) (oi:=zbv) (v:=?_) rfl (by kernel_rfl) (by kernel_rfl) (by kernel_rfl) (fun _ _ _ h=>h) (Or.inl ⟨by rfl,?y39⟩) (by assumption) ?ry39
       case y39=>intro wz hSw;(try dsimp only at hSw);dsimp only[zbv];go_simp;(try with_reducible rfl)
       try simp only[zbv,Act.put,zS,zZ,zT]
       refine wpAnyH_ready (rs:=[26]) (by kernel_rfl) (by simp) ?_;refine AllReadyH.cons (o:=zbu) rfl (fun K hK=>?_) ?_
       ·
        dsimp only[zbu];go_simp;refine hK.out _ _ (by repeat (first|with_reducible assumption|with_reducible refine za9 _ ?_|with_reducible refine za8 ?_|with_reducible refine za7 hgT ?_)) (fun hHeld=>?_);clear hK K
        try simp only[zbu,Act.put,zS,zZ,zT]
        refine wpAnyH_done (by kernel_rfl) ?_ _;refine NoPanic.normal ?_;go_wp2_with fail
        go_meet
        rw[show (({data:=#[118]}:ByteArray)++{data:=#[ca,cb]})=⟨#[118,ca,cb]⟩ from rfl];refine⟨rfl,E,fo,fx,fname,fA,fl,fc,i4,HR4.out,?_⟩
        first
         | with_reducible exact zaJ ca cb HS.out HF4.out HW4.out HT4.out HM4.out hz3
         | with_reducible exact VarP.alloc (zaJ ca cb HS.out HF4.out HW4.out HT4.out HM4.out hz3) _
       exact AllReadyH.nil
      exact AllReadyH.nil
     refine AllReadyH.cons (o:=zbw) rfl (fun K hK=>?_) ?_
     ·
      dsimp only[zbw];go_simp;refine hK.out _ _ (by repeat (first|with_reducible assumption|with_reducible refine za9 _ ?_|with_reducible refine za8 ?_|with_reducible refine za7 hgT ?_)) (fun hHeld=>?_);clear hK K
      try simp only[zbw,Act.put,zS,zZ,zT]
      refine wpAnyH_ready (rs:=[19]) (by kernel_rfl) (by simp) ?_;refine AllReadyH.cons (o:=zby) rfl (fun K hK=>?_) ?_
      ·
       dsimp only[zby];(go_simp;rw[zbN ca cb _ _ _ (by repeat (first|with_reducible assumption|(with_reducible refine NewsAt.alloc _ _ ?_ _ _;first|rfl|simp[World.setCell];done)|with_reducible refine NewsAt.drew ?_|with_reducible refine NewsAt.set ?_ hTw6|with_reducible refine NewsAt.set ?_ hTw7))];go_simp);refine hK.out _ _ (by repeat (first|with_reducible assumption|with_reducible refine za9 _ ?_|with_reducible refine za8 ?_|with_reducible refine za7 hgT ?_)) (fun hHeld=>?_);clear hK K
       try simp only[zby,Act.put,zS,zZ,zT]
       refine wpAnyH_take (i:=20) (oi:=zbx) (v:=?_) rfl (by kernel_rfl) (by kernel_rfl) (by kernel_rfl) (fun _ _ _ h=>h) (Or.inl ⟨by rfl,?y40⟩) (by assumption) ?ry40
       case y40=>intro wz hSw;(try dsimp only at hSw);dsimp only[zbx];go_simp;(try with_reducible rfl)
       try simp only[zbx,Act.put,zS,zZ,zT]
       refine wpAnyH_take (i:=25) (oi:=zbv) (v:=?_) rfl (by kernel_rfl) (by kernel_rfl) (by kernel_rfl) (fun _ _ _ h=>h) (Or.inl ⟨by rfl,?y41⟩) (by assumption) ?ry41
       case y41=>intro wz hSw;(try dsimp only at hSw);dsimp only[zbv];go_simp;(try with_reducible rfl)
       try simp only[zbv,Act.put,zS,zZ,zT]
       refine wpAnyH_ready (rs:=[26]) (by kernel_rfl) (by simp) ?_;refine AllReadyH.cons (o:=zbu) rfl (fun K hK=>?_) ?_
       ·
        dsimp only[zbu];go_simp;refine hK.out _ _ (by repeat (first|with_reducible assumption|with_reducible refine za9 _ ?_|with_reducible refine za8 ?_|with_reducible refine za7 hgT ?_)) (fun hHeld=>?_);clear hK K
        try simp only[zbu,Act.put,zS,zZ,zT]
        refine wpAnyH_done (by kernel_rfl) ?_ _;refine NoPanic.normal ?_;go_wp2_with fail
        go_meet
        rw[show (({data:=#[118]}:ByteArray)++{data:=#[ca,cb]})=⟨#[118,ca,cb]⟩ from rfl];refine⟨rfl,E,fo,fx,fname,fA,fl,fc,i4,HR4.out,?_⟩
        first
         | with_reducible exact zaJ ca cb HS.out HF4.out HW4.out HT4.out HM4.out hz3
         | with_reducible exact VarP.alloc (zaJ ca cb HS.out HF4.out HW4.out HT4.out HM4.out hz3) _
       exact AllReadyH.nil
      exact AllReadyH.nil
     exact AllReadyH.nil
    exact AllReadyH.nil
   refine AllReadyH.cons (o:=zby) rfl (fun K hK=>?_) ?_
   ·
    dsimp only[zby];(go_simp;rw[zbN ca cb _ _ _ (by repeat (first|with_reducible assumption|(with_reducible refine NewsAt.alloc _ _ ?_ _ _;first|rfl|simp[World.setCell];done)|with_reducible refine NewsAt.drew ?_|with_reducible refine NewsAt.set ?_ hTw6|with_reducible refine NewsAt.set ?_ hTw7))];go_simp);refine hK.out _ _ (by repeat (first|with_reducible assumption|with_reducible refine za9 _ ?_|with_reducible refine za8 ?_|with_reducible refine za7 hgT ?_)) (fun hHeld=>?_);clear hK K
    try simp only[zby,Act.put,zS,zZ,zT]
    refine wpAnyH_take (i:=20) (oi:=zbx) (v:=?_) rfl (by kernel_rfl) (by kernel_rfl) (by kernel_rfl) (fun _ _ _ h=>h) (Or.inl ⟨by rfl,?y42⟩) (by assumption) ?ry42
    case y42=>intro wz hSw;(try dsimp only at hSw);dsimp only[zbx];go_simp;(try with_reducible rfl)
    try simp only[zbx,Act.put,zS,zZ,zT]
    refine wpAnyH_ready (rs:=[2]) (by kernel_rfl) (by simp) ?_;refine AllReadyH.cons (o:=opV2) rfl (fun K hK=>?_) ?_
    ·
     dsimp only[opV2];(go_simp;go_at_call 57;refine(zca _ W i2 lo us vA vc (by with_reducible first|exact HW3d.out|exact WrM.drew (WrM.alloc HW3.out _)|exact WrM.alloc HW3.out _) (by with_reducible first|exact HNd.out|exact StrN.drew (StrN.alloc HNq.out _)|exact StrN.alloc HNq.out _) (by omega)).mono ?_;rintro e w4 ⟨f,E,i4,rfl,hR,hI,hW4,hG4⟩;obtain⟨fo,fx,fname,fA,fl,fc⟩:=f;have q4x:=hW4.cells.2.2.2.1;have hG5:w3.grownBy w4 (some W.q):=(by with_reducible first|exact za6 (zaB hG4)|exact zaB hG4|exact za6 hG4);obtain⟨hF4,hT4,⟨s0,s1,s2,s3,s4,s5,-⟩,sf,hTw4,hTw5,hz4⟩:=zew HF3.out hG5 HT3.out hTq;have HF4:=zH hF4;have HT4:=zH hT4;have HM4:=zH (hI.more (S':=(w3.heap.size≤·)) fun b hb=>Nat.le_trans (by simp) hb);have HW4:=zH hW4;have HR4:=zH hR;have hTw6:=Ne.symm hTw5;obtain⟨⟨x2,x3,x4,x5⟩,xf⟩:=stp11 (.int .i64 1) (.cells #[.int .u8 (ca.toNat:Int),.int .u8 (cb.toNat:Int)] 5) hT4;(try (have HNW:=(NewsAt.alloc w3 w3.heap.size rfl [.int .u8 (ca.toNat:Int),.int .u8 (cb.toNat:Int)] 5).keep (hG4.block _ (by simp) (fun e=>by injection e with e;exact hqw3 e.symm))));clear hR hI hW4 hG4 hG5 hT4 hF4;dsimp only[EF.val]);refine hK.out _ _ (by repeat (first|with_reducible assumption|with_reducible refine za9 _ ?_|with_reducible refine za8 ?_|with_reducible refine za7 hgT ?_)) (fun hHeld=>?_);clear hK K
     try simp only[opV2,Act.put,zS,zZ,zT]
     refine wpAnyH_ready (rs:=[22]) (by kernel_rfl) (by simp) ?_;refine AllReadyH.cons (o:=zcN) rfl (fun K hK=>?_) ?_
     ·
      dsimp only[zcN];go_simp;refine hK.out _ _ (by repeat (first|with_reducible assumption|with_reducible refine za9 _ ?_|with_reducible refine za8 ?_|with_reducible refine za7 hgT ?_)) (fun hHeld=>?_);clear hK K
      try simp only[zcN,Act.put,zS,zZ,zT]
      refine wpAnyH_take (i:=23) (oi:=zcM) (v:=?_) rfl (by kernel_rfl) (by kernel_rfl) (by kernel_rfl) (fun _ _ _ h=>h) (Or.inl ⟨by rfl,?y43⟩) (by assumption) ?ry43
      case y43=>intro wz hSw;(try dsimp only at hSw);dsimp only[zcM];go_simp;(try with_reducible rfl)
      try simp only[zcM,Act.put,zS,zZ,zT]
      refine wpAnyH_ready (rs:=[24]) (by kernel_rfl) (by simp) ?_;refine AllReadyH.cons (o:=zbw) rfl (fun K hK=>?_) ?_
      ·
       dsimp only[zbw];go_simp;refine hK.out _ _ (by repeat (first|with_reducible assumption|with_reducible refine za9 _ ?_|with_reducible refine za8 ?_|with_reducible refine za7 hgT ?_)) (fun hHeld=>?_);clear hK K
       try simp only[zbw,Act.put,zS,zZ,zT]
       refine wpAnyH_take (i:=25) (oi:=zbv) (v:=?_) rfl (by kernel_rfl) (by kernel_rfl) (by kernel_rfl) (fun _ _ _ h=>h) (Or.inl ⟨by rfl,?y44⟩) (by assumption) ?ry44
       case y44=>intro wz hSw;(try dsimp only at hSw);dsimp only[zbv];go_simp;(try with_reducible rfl)
       try simp only[zbv,Act.put,zS,zZ,zT]
       refine wpAnyH_ready (rs:=[26]) (by kernel_rfl) (by simp) ?_;refine AllReadyH.cons (o:=zbu) rfl (fun K hK=>?_) ?_
       ·
        dsimp only[zbu];go_simp;refine hK.out _ _ (by repeat (first|with_reducible assumption|with_reducible refine za9 _ ?_|with_reducible refine za8 ?_|with_reducible refine za7 hgT ?_)) (fun hHeld=>?_);clear hK K
        try simp only[zbu,Act.put,zS,zZ,zT]
        refine wpAnyH_done (by kernel_rfl) ?_ _;refine NoPanic.normal ?_;go_wp2_with fail
        go_meet
        rw[show (({data:=#[118]}:ByteArray)++{data:=#[ca,cb]})=⟨#[118,ca,cb]⟩ from rfl];refine⟨rfl,E,fo,fx,fname,fA,fl,fc,i4,HR4.out,?_⟩
        first
         | with_reducible exact zaJ ca cb HS.out HF4.out HW4.out HT4.out HM4.out hz3
         | with_reducible exact VarP.alloc (zaJ ca cb HS.out HF4.out HW4.out HT4.out HM4.out hz3) _
       exact AllReadyH.nil
      exact AllReadyH.nil
     exact AllReadyH.nil
    exact AllReadyH.nil
   exact AllReadyH.nil
  exact AllReadyH.nil
 case rest =>
  obtain⟨rfl,E,fo,fx,fname,fA,fl,fc,i4,hR,hWk,hFk,hTk,hMk⟩:=hcut
  (try dsimp only at hTk)
  have HR5:=zH hR;have HFk:=zH hFk;have HTk:=zH hTk;have HMk:=zH hMk;have HBk:=zH (HS.out.go hFk hWk);obtain⟨y0,y1,y2,y3,y4,y5,y6,y7,y8,y9,y10,yf,ylt⟩:=zac hTk;have hLTs:=HS.out.lt;clear hWk hFk hTk hMk hR;go_wp2_with (first|(at_builtin;refine wpList_append_lies _ rfl (.tmp 114) (.tmp 117) 26 rfl (w.heap.size+1) 9 i0 _ 1 16 Tryz.underlying26 hi hz0 hz1 hz2 rfl (by decide) (.slice vA us.length vc) us.length (strK.cs us) rfl (HBk.out.n.alloc _) ⟨wc.heap.size,0,none⟩ 1 1 [.string ⟨#[118,ca,cb]⟩] rfl rfl (zak wc _ rfl _ _) (strK.one [118,ca,cb]) (by omega) (by unfold maxLen;omega) (by omega) (by simp;omega) _ rfl ?_));intro gv capv w5 hown hgrow hlies hgl5;have hTv:some wr.heap.size≠(Value.slice vA us.length vc).ownBlock:=fun e=>by have:=hLTs _ (.inr e.symm);omega
  have HT5:=zH ((hgrow.block wr.heap.size (by simp;omega) hTv).trans ((Below.heap_alloc wc _ _ ylt).trans HTk.out));have HM5:Hid (ExM w5 (fun b=>wr.heap.size+1≤b∧b<wc.heap.size) E ⟨fo,fx,fname,fA,fl,fc⟩):=HMk.out.inside.keep fun b hb hl=>(hgrow.block b (by simp;omega) (fun e=>by have:=hLTs _ (.inr e.symm);omega)).trans (Below.heap_alloc wc _ b hl);have hl5:=zah hlies (w:=wc.alloc (.cells #[.string ⟨#[118,ca,cb]⟩] 9)) (by simp) (n:=us.length+1) (c:=capv);have HB5:Hid (BkS w W (.cells #[.string ⟨fn.toArray⟩,.slice pA ps.length pc,.slice bA bn bc] 52 (0,0)) P (us++[[118,ca,cb]]) (.slice oA P.length oc) (.slice (some ⟨gv,0,none⟩) (us.length+1) capv) i4 lo w5):=HBk.out.snocN hown hgrow hl5;have HS0:Hid (∀b,(wr.heap.size≤b∧b<wc.heap.size)→w.heap.size+1≤b∧some b≠(Value.slice oA P.length oc).ownBlock∧some b≠(Value.slice (some ⟨gv,0,none⟩) (us.length+1) capv).ownBlock):=fun b hb=>by
   have h0:=HS.out.sz;refine⟨by omega,fun e=>by have:=hLTs _ (.inl e.symm);omega,fun e=>?_⟩;rcases hl5 with h|⟨q,h,hq⟩
   ·
    rw[h] at e
    have:=hLTs _ (.inr e.symm);omega
   ·
    rw[h] at e;injection e with e;simp at hq;omega
  have hsz5:wc.heap.size≤w5.heap.size:=Nat.le_trans (by simp) hgrow.size;obtain⟨z0,z1,z2,z3,z4,z5,z6,z7,z8,z9,z10,zf,zlt⟩:=zac HT5.out;have HSM:Hid (StM w5 (fun b=>wr.heap.size≤b∧b<wc.heap.size) (St.mk 1 [118,ca,cb] E noRf [] [] []) (⟨⟨fo,fx,fname,fA,fl,fc⟩,none,0,0,none,0,none,0,none,0⟩:SG)):=zaL 1 [118,ca,cb] E noRf [] [] [] _ (HM5.out.more fun b hb=>⟨by omega,hb.2⟩) rfl (ArsM.nil _ _ _) (StsM.nil _ _ _) (StsM.nil _ _ _);have HBW:=zH (BlW.var E HBL.out HR5.out);rw[HVN.out] at HBW;clear y0 y1 y2 y3 y4 y5 y6 y7 y8 y9 y10 yf hown hgrow hlies hTv hl5 HM5 HMk HTk hLTs;go_wp2_with (first|(at_builtin;refine wpList_append_lies _ rfl (.tmp 244) (.tmp 246) 35 rfl (w.heap.size+1) 73 iS _ 11 192 Tryz.underlying35 hiS hs0 hs1 hs2 rfl (by decide) (.slice oA P.length oc) P.length (stK.cs P) rfl (HB5.out.o.alloc _) ⟨w5.heap.size,0,none⟩ 1 1 [.int .i64 1,.string ⟨#[118,ca,cb]⟩,.int .i64 fo,.int .i64 fx,.string ⟨fname.toArray⟩,.slice fA fl fc,.string ⟨#[]⟩,.slice none 0 0,.slice none 0 0,.slice none 0 0,.slice none 0 0] rfl rfl (zak w5 _ rfl _ _) (stK.one ((St.mk 1 [118,ca,cb] E noRf [] [] []),(⟨⟨fo,fx,fname,fA,fl,fc⟩,none,0,0,none,0,none,0,none,0⟩:SG))) (by omega) (by unfold maxLen;omega) (by omega) (by simp;omega) _ rfl ?_));intro gb cap7 w7 hown hgrow hlies hgl7;have HB7:=zH (HB5.out.snocS (a:=((St.mk 1 [118,ca,cb] E noRf [] [] []),(⟨⟨fo,fx,fname,fA,fl,fc⟩,none,0,0,none,0,none,0,none,0⟩:SG))) HSM.out HS0.out hown hgrow (zah hlies (by simp)));clear hown hgrow hlies hgl7 HSM HB5 HS0;go_wp2_with fail;apply HQQ.out
  ·
   exact⟨k-1,P++[((St.mk 1 [118,ca,cb] E noRf [] [] []),(⟨⟨fo,fx,fname,fA,fl,fc⟩,none,0,0,none,0,none,0,none,0⟩:SG))],us++[[118,ca,cb]],i4,lo,by go_num,by omega,by rw[List.length_append];show us.length+1+lo≤1000;omega,by omega,by rw[List.map_append];exact HBW.out,HB7.out⟩
  ·
   simp[intOf];omega
end Go.Proofs.YtlnbmmgbfgmboaaGreatDoor
