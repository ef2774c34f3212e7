import Derived.Test.YtlnbmmgbfgmboaaGreatDoorQa
import Derived.Test.YtlnbmmgbfgmboaaGreatDoorQ12
import Derived.Test.YtlnbmmgbfgmboaaGreatDoorQ14
import Derived.Deep.RegionHeld3
import Derived.Test.YtlnbmmgbfgmboaaGreatDoorQ2
import Derived.Test.YtlnbmmgbfgmboaaGreatDoorQ3
namespace Go.Proofs.YtlnbmmgbfgmboaaGreatDoor
open Go.RowKit
def opE0:Oper:={dst:=some 241,op:=Op.move (Operand.tmp 3),type:=79,pos := "made.go:211",after:=#[],guard:=none}
def opE1:Oper:={dst:=some 242,op:=Op.nilCheck (Operand.tmp 241),type:=0,pos := "made.go:211",after:=#[{on:=0,ground:=Ground.data}],guard:=none}
def opE2:Oper:={dst:=some 243,op:=Op.fieldAddr 85 (Operand.tmp 242) 1,type:=0,pos := "made.go:211",after:=#[{on:=1,ground:=Ground.data}],guard:=none}
def opE3:Oper:={dst:=some 244,op:=Op.fieldAddr 45 (Operand.tmp 243) 2,type:=0,pos := "made.go:211",after:=#[{on:=2,ground:=Ground.data}],guard:=none}
def opE4:Oper:={dst:=some 245,op:=Op.load 43 (Operand.tmp 244),type:=43,pos := "made.go:211",after:=#[{on:=3,ground:=Ground.data}],guard:=none}
def opE5:Oper:={dst:=some 246,op:=Op.move (Operand.tmp 16),type:=3,pos := "made.go:211",after:=#[],guard:=none}
def opE6:Oper:={dst:=some 247,op:=Op.move (Operand.tmp 3),type:=79,pos := "made.go:211",after:=#[],guard:=none}
def opE7:Oper:={dst:=some 248,op:=Op.move (Operand.tmp 3),type:=79,pos := "made.go:211",after:=#[],guard:=none}
def opE8:Oper:={dst:=some 249,op:=Op.nilCheck (Operand.tmp 248),type:=0,pos := "made.go:211",after:=#[{on:=7,ground:=Ground.data}],guard:=none}
def opE9:Oper:={dst:=some 250,op:=Op.fieldAddr 85 (Operand.tmp 249) 1,type:=0,pos := "made.go:211",after:=#[{on:=8,ground:=Ground.data}],guard:=none}
def opE10:Oper:={dst:=some 251,op:=Op.fieldAddr 45 (Operand.tmp 250) 2,type:=0,pos := "made.go:211",after:=#[{on:=9,ground:=Ground.data}],guard:=none}
def opE11:Oper:={dst:=some 252,op:=Op.load 43 (Operand.tmp 251),type:=43,pos := "made.go:211",after:=#[{on:=10,ground:=Ground.data}],guard:=none}
def opE12:Oper:={dst:=some 253,op:=Op.move (Operand.tmp 16),type:=3,pos := "made.go:211",after:=#[],guard:=none}
def opE13:Oper:={dst:=some 254,op:=Op.indexAddr 43 (Operand.tmp 252) (Operand.tmp 253),type:=0,pos := "made.go:211",after:=#[{on:=11,ground:=Ground.data},{on:=12,ground:=Ground.data}],guard:=none}
def opE14:Oper:={dst:=some 255,op:=Op.load 52 (Operand.tmp 254),type:=52,pos := "made.go:211",after:=#[{on:=13,ground:=Ground.data}],guard:=none}
def opE15:Oper:={dst:=some 256,op:=Op.move (Operand.tmp 17),type:=26,pos := "made.go:211",after:=#[],guard:=none}
def opE16:Oper:={dst:=some 257,op:=Op.call {callee:=Callee.value (Operand.func 33),args:=#[Operand.tmp 247,Operand.tmp 255,Operand.tmp 256,Operand.const (Value.int IntKind.i64 2),Operand.const (Value.int IntKind.i64 6)],argTypes:=#[79,52,26,3,3]},type:=35,pos := "made.go:211",after:=#[{on:=6,ground:=Ground.data},{on:=14,ground:=Ground.data},{on:=15,ground:=Ground.data}],guard:=none}
def opE17:Oper:={dst:=some 258,op:=Op.indexAddr 43 (Operand.tmp 245) (Operand.tmp 246),type:=0,pos := "made.go:211",after:=#[{on:=4,ground:=Ground.data},{on:=5,ground:=Ground.data},{on:=0,ground:=Ground.phase},{on:=1,ground:=Ground.phase},{on:=2,ground:=Ground.phase},{on:=3,ground:=Ground.phase},{on:=4,ground:=Ground.phase},{on:=5,ground:=Ground.phase},{on:=6,ground:=Ground.phase},{on:=7,ground:=Ground.phase},{on:=8,ground:=Ground.phase},{on:=9,ground:=Ground.phase},{on:=10,ground:=Ground.phase},{on:=11,ground:=Ground.phase},{on:=12,ground:=Ground.phase},{on:=13,ground:=Ground.phase},{on:=14,ground:=Ground.phase},{on:=15,ground:=Ground.phase},{on:=16,ground:=Ground.phase}],guard:=none}
def opE18:Oper:={dst:=some 259,op:=Op.fieldAddr 52 (Operand.tmp 258) 2,type:=0,pos := "made.go:211",after:=#[{on:=17,ground:=Ground.data},{on:=0,ground:=Ground.phase},{on:=1,ground:=Ground.phase},{on:=2,ground:=Ground.phase},{on:=3,ground:=Ground.phase},{on:=4,ground:=Ground.phase},{on:=5,ground:=Ground.phase},{on:=6,ground:=Ground.phase},{on:=7,ground:=Ground.phase},{on:=8,ground:=Ground.phase},{on:=9,ground:=Ground.phase},{on:=10,ground:=Ground.phase},{on:=11,ground:=Ground.phase},{on:=12,ground:=Ground.phase},{on:=13,ground:=Ground.phase},{on:=14,ground:=Ground.phase},{on:=15,ground:=Ground.phase},{on:=16,ground:=Ground.phase}],guard:=none}
def opE19:Oper:={dst:=none,op:=Op.store 35 (Operand.tmp 259) (Operand.tmp 257),type:=0,pos := "made.go:211",after:=#[{on:=18,ground:=Ground.data},{on:=16,ground:=Ground.data},{on:=16,ground:=Ground.chain},{on:=0,ground:=Ground.phase},{on:=1,ground:=Ground.phase},{on:=2,ground:=Ground.phase},{on:=3,ground:=Ground.phase},{on:=4,ground:=Ground.phase},{on:=5,ground:=Ground.phase},{on:=6,ground:=Ground.phase},{on:=7,ground:=Ground.phase},{on:=8,ground:=Ground.phase},{on:=9,ground:=Ground.phase},{on:=10,ground:=Ground.phase},{on:=11,ground:=Ground.phase},{on:=12,ground:=Ground.phase},{on:=13,ground:=Ground.phase},{on:=14,ground:=Ground.phase},{on:=15,ground:=Ground.phase},{on:=16,ground:=Ground.phase}],guard:=none}
set_option maxRecDepth 100000 in
set_option maxHeartbeats 8000000 in
theorem pgLoop5 {w w4:World} {g:Nat} {ys:List Int} {ar:Bool} {vA:Option Addr} {vc:Nat} {us:List Nm} {AG AM:Option Addr} {cG cM:Nat} {PG:List Gl} {PM:List Mx} {bF cF:Nat} {H0:List Hd} {R:Act→World→Prop} {u0 u1 u2 u4 u5 u6 u8 u9 a0 a1 a2 a3 a4 a5 a8 a9 aa ab ac ae af ag ah ai aj ak al am an ao ap aq au av aw ax ay az aA aB aC aD aE aF aG aH aI aJ aK aL aM aN aO aP aQ aR aS aT aU aV aW aX aY aZ b0 b1 b2 b3 b4 b5 b6 b7 b8 b9 ba bb bc bd be bf bg bh bi bj bk bl bm bn bo bp bq br bs bt bu bv bw bx bz bA bB bC bD bE bG bH bI bJ bK bL bM bN bO bP bQ bR bS bT bU bV bW bX bY bZ c3 c4 c5 c6 c7 c9 ca cb cc cd ce cf cg ch ci cj ck cl cm cn co cp cq cr ct cu cv cw cx cy cz cA cB cC cD cE cH cI cJ cK cL cN cO cP cQ cR cS cT cU cV cW cX cY cZ d3 ek el em en a6 a7 d4 d5 d6 d7 d8 d9 da db dc dd de dg dh di dj dk dl dm dn dp dq dr ds dt du dv dw dx dy dz dA dB dC dD dE dF dG dH dI dJ dK dL dM dN dO dP dQ dR dS dT dU dV dW dX dY dZ e0 e1 e2 e3 e4 e5 e6 e7 e8 e9 ea eb ec ed ee ef eg eh ei ej:Value}
  (HGE:Hid (g=w.heap.size+1+1)) (hf:1≤H0.length∧H0.length≤4) (hm:1≤PM.length∧PM.length≤4) (HM:Hid (∀k (h:k<PM.length),PM[k].size≤3∧PM[k].name.length≤16)) (HH:Hid (∀k (h:k<H0.length),H0[k].ps.length≤2∧H0[k].name.length≤16)) (hus:us.length≤900) (HL1:Hid (ML5 w g ys ar vA us AG AM cG cM PG PM bF cF H0 0 w4))
  (HQQ:Hid (∀(eo ep eq er es et eu ev ew ex ey ez eA eB eC eD eE eF eG eH eI eJ eK eL eM eN eO eP eQ eR eS eT eU eV eW eX eY eZ f0 f1 f2 f3 f4 f5 f6 f7 f8 f9 fa fb fc fd fe ff fg fh fi fj fk fl fm fo fp fq fr fs ft fu fv fw fx fy fA fB fC fD fE fF fG:Value) (w':World),ML5 w g ys ar vA us AG AM cG cM PG PM bF cF H0 H0.length w'→R {tmps:=#[u0,u1,u2,.pointer (some ⟨g,0,none⟩),u4,u5,u6,.slice vA us.length vc,u8,u9,a0,a1,a2,a3,a4,a5,eo,ep,eq,a8,a9,aa,ab,ac,ae,af,ag,ah,ai,aj,ak,al,am,an,ao,ap,aq,au,av,aw,ax,ay,az,aA,aB,aC,aD,aE,aF,aG,aH,aI,aJ,aK,aL,aM,aN,aO,aP,aQ,aR,aS,aT,aU,aV,aW,aX,aY,aZ,b0,b1,b2,b3,b4,b5,b6,b7,b8,b9,ba,bb,bc,bd,be,bf,bg,bh,bi,bj,bk,bl,bm,bn,bo,bp,bq,br,bs,bt,bu,bv,bw,bx,bz,bA,bB,bC,bD,bE,bG,bH,bI,bJ,bK,bL,bM,bN,bO,bP,bQ,bR,bS,bT,bU,bV,bW,bX,bY,bZ,c3,c4,c5,c6,c7,c9,ca,cb,cc,cd,ce,cf,cg,ch,ci,cj,ck,cl,cm,cn,co,cp,cq,cr,ct,cu,cv,cw,cx,cy,cz,cA,cB,cC,cD,cE,cH,cI,cJ,cK,cL,cN,cO,cP,cQ,cR,cS,cT,cU,cV,cW,cX,cY,cZ,d3,er,es,et,eu,ev,ew,ex,ey,ez,eA,eB,eC,eD,eE,eF,eG,eH,eI,eJ,eK,eL,eM,eN,eO,eP,eQ,eR,eS,eT,eU,eV,eW,eX,eY,eZ,f0,f1,f2,f3,f4,f5,f6,f7,f8,f9,fa,fb,fc,fd,fe,ff,fg,fh,fi,fj,fk,fl,fm,fo,fp,fq,fr,fs,ft,fu,fv,fw,fx,fy,fA,fB,fC,fD,fE,fF,fG,ek,el,em,en],defers:=[]} w')) :
  (nav [true,true,true,true,true,true,true,true,false,true,false] (Tryz.f14.body.getD .skip)).wp Tryz.prog (Exit.inBlock 9 (Nrm R)) {tmps:=#[u0,u1,u2,.pointer (some ⟨g,0,none⟩),u4,u5,u6,.slice vA us.length vc,u8,u9,a0,a1,a2,a3,a4,a5,.int .i64 0,a6,a7,a8,a9,aa,ab,ac,ae,af,ag,ah,ai,aj,ak,al,am,an,ao,ap,aq,au,av,aw,ax,ay,az,aA,aB,aC,aD,aE,aF,aG,aH,aI,aJ,aK,aL,aM,aN,aO,aP,aQ,aR,aS,aT,aU,aV,aW,aX,aY,aZ,b0,b1,b2,b3,b4,b5,b6,b7,b8,b9,ba,bb,bc,bd,be,bf,bg,bh,bi,bj,bk,bl,bm,bn,bo,bp,bq,br,bs,bt,bu,bv,bw,bx,bz,bA,bB,bC,bD,bE,bG,bH,bI,bJ,bK,bL,bM,bN,bO,bP,bQ,bR,bS,bT,bU,bV,bW,bX,bY,bZ,c3,c4,c5,c6,c7,c9,ca,cb,cc,cd,ce,cf,cg,ch,ci,cj,ck,cl,cm,cn,co,cp,cq,cr,ct,cu,cv,cw,cx,cy,cz,cA,cB,cC,cD,cE,cH,cI,cJ,cK,cL,cN,cO,cP,cQ,cR,cS,cT,cU,cV,cW,cX,cY,cZ,d3,d4,d5,d6,d7,d8,d9,da,db,dc,dd,de,dg,dh,di,dj,dk,dl,dm,dn,dp,dq,dr,ds,dt,du,dv,dw,dx,dy,dz,dA,dB,dC,dD,dE,dF,dG,dH,dI,dJ,dK,dL,dM,dN,dO,dP,dQ,dR,dS,dT,dU,dV,dW,dX,dY,dZ,e0,e1,e2,e3,e4,e5,e6,e7,e8,e9,ea,eb,ec,ed,ee,ef,eg,eh,ei,ej,ek,el,em,en],defers:=[]} w4:=by
 obtain⟨i0,hi0,hz0,hz1,hz2⟩:=info_parts Tryz.infoStr;dsimp only[nav,Tryz.f14,Option.getD]
 go_loopw [16,17,18] (fun v _ _ wr=>∃k:Nat,k≤H0.length∧v=.int .i64 k∧Hid (ML5 w g ys ar vA us AG AM cG cM PG PM bF cF H0 k wr)) (fun v _ _ _=>H0.length-(intOf v).toNat)
 case atStart=>exact⟨0,Nat.zero_le _,rfl,HL1⟩
 case round =>
  clear HL1;obtain⟨k,hk,rfl,hL⟩:=hrel;obtain⟨FS,i,left,L,hH,hP,hL0,hLk,hl,hb⟩:=hL.out;have hlen:H0.length=FS.length:=by rw[←hH];simp[zb7]
  have HP:=zH hP;obtain⟨-,-,g3,hgl⟩:=HP.out.cells;have g0:wr.cell? ⟨g,0,none⟩=some (.pointer (some ⟨w.heap.size+1,0,none⟩)):=by rw[cell_of_row wr g 0 _ _ _ HP.out.gb];rfl
  by_cases hlt:k<FS.length
  ·
   have HHH:=zH hH;have HL0:=zH hL0;have HLk:=zH hLk;have HB:=zH hb;have HLEN:=zH hlen;have hf4:FS.length≤4:=by omega
   have hps:FS[k].1.ps.length≤2:=by
    have h:=(HH.out k (by omega)).1;simpa[←hH,zb7] using h
   have i0':(0:Int)≤(k:Int):=by omega
   have i1':(k:Int)<(FS.length:Int):=by omega
   have HOE:Hid ((wr.alloc (.cells #[] 9)).ownsRow wr.heap.size 9 1 (.slice (some ⟨wr.heap.size,0,none⟩) 0 0) 0 []):=by
    have h:=World.ownsRow_lit (base:=wr.heap.size) (e:=9) (size:=1) wr #[] 0 (by simp) (by simp) (by simp);show World.ownsRow _ _ _ _ _ _ _;simpa using h
   have HSL:Hid ((strK.cs us).length=us.length*1):=strK.cs_len us;have HS1:Hid (∀u∈strK.cs us,u.oneCell'=true):=fun u hu=>by
    obtain⟨a,_,ha⟩:=List.mem_flatMap.1 hu;exact strK.one a u ha
   have HVA:Hid (0<us.length→∃ad,vA=some ad∧∀j u,(strK.cs us)[j]?=some u→(wr.alloc (.cells #[] 9)).cell? (ad.add j)=some u):=fun h=>zgN ((pwf_strN HP.out).alloc _) h;clear hL hH hP hL0 hLk hb hlen;go_wp2_with (first|(at_builtin;refine zb8 _ rfl (.tmp 194) (.tmp 195) 26 rfl wr.heap.size 9 i0 _ 1 16 Tryz.underlying26 hi0 hz0 hz1 hz2 rfl (by decide) wr.heap.size 0 0 [] rfl HOE.out vA us.length vc (strK.cs us) rfl HSL.out HVA.out HS1.out (by unfold maxLen;omega) (by omega) (by simp) _ rfl ?_));intro gg capg w5 hown hgrow hlies hgl5;have HB5:Hid (Below wr.heap.size wr w5):=((Below.refl wr.heap.size wr).alloc (lR _) _).grown hgrow (by simp) fun b hb=>by injection hb with hb;omega
   have HM6:Hid (ML6 wr us (.slice (some ⟨gg,0,none⟩) us.length capg) w5):=⟨by simpa using hown,HB5.out⟩;clear hown hgrow hlies hgl5 HOE HSL HS1 HVA g0 g3;obtain⟨wo,hwo⟩:∃wo:World,wo=wr:=⟨_,rfl⟩;rw[←hwo] at HP HM6 hgl;clear hwo HB5;go_wp2_with fail;refine Code.wp_mono (zbJ 11 Nrm.imp) (pgLoop6 (FS:=FS) (kk:=k) hlt hps (by omega) HP HM6 ?_);refine zH ?_;intro ep eq eE eF eG eH eI eJ eK eL eM eN eO eP eQ eR eS eT eU eV eW eX eY eZ f0 f1 f2 f3 f4 f5 f6 f7 f8 f9 fa fb fc fd fe ff fg fh fi fj fk fl wx hML;dsimp only[Exit.then];obtain⟨oA,oc,rfl⟩:=zb4 hML.1;have HML:=zH hML;have HPx:=zH (HP.out.later hML.2);obtain⟨-,-,g3,hglx⟩:=HPx.out.cells;have g0:wx.cell? ⟨g,0,none⟩=some (.pointer (some ⟨w.heap.size+1,0,none⟩)):=by rw[cell_of_row wx g 0 _ _ _ HPx.out.gb];rfl
   obtain⟨c0,c1,c2⟩:=HPx.out.fn k hlt;have hq1:w.heap.size+1<wo.heap.size:=by have:=HGE.out;omega
   have HWd:Hid (WrM wx.drew (wpOf w g ys ar AG AM cG cM PG PM bF cF FS) i left):=(HPx.out.wrm hl hm (by have:=HLEN.out;omega) HM.out (fun k h=>by have h1:=HH.out k (by have:=HLEN.out;omega);have h2:=HHH.out;subst h2;simpa[zb7] using h1)).drew;have HSq:Hid (StrN wx.drew (w.heap.size+1) oA (ownN us FS[k].1.ps)):=zh0 hML.1 hq1;have HSg:Hid (StrN wx.drew g oA (ownN us FS[k].1.ps)):=zh0 hML.1 hgl;have HPd:Hid (PmsM wx.drew (fun b=>b≠g∧b≠w.heap.size+1) FS[k].1.ps FS[k].2.A):=(HPx.out.ps k hlt).more fun b hb _=>⟨hb.1,hb.2.1⟩;have hol:=zh1 us FS[k].1.ps;have hbFl:=HPx.out.hbF;have hgbF:g≠bF:=by omega
   clear hML
   go_upto_region 41 with fail
   refine wp_region_held_drew (S:=fun w'=>w'.cell? ⟨g,3,none⟩=some (.slice (some ⟨bF,0,none⟩) FS.length cF)) (by kernel_rfl) (by repeat (first|with_reducible assumption|with_reducible refine za8 ?_|with_reducible refine za7 hgbF ?_)) (fun hHeld=>?_);refine wpAnyH_take (i:=0) (oi:=opE0) (v:=?_) rfl (by kernel_rfl) (by kernel_rfl) (by kernel_rfl) (fun _ _ _ h=>h) (Or.inl ⟨by rfl,?y1⟩) (by assumption) ?ry1
   case y1=>intro wz hSw;(try dsimp only at hSw);dsimp only[opE0];go_simp;(try with_reducible rfl)
   try simp only[opE0,Act.put,zS,zZ,zT]
   refine wpAnyH_take (i:=1) (oi:=opE1) (v:=?_) rfl (by kernel_rfl) (by kernel_rfl) (by kernel_rfl) (fun _ _ _ h=>h) (Or.inl ⟨by rfl,?y2⟩) (by assumption) ?ry2
   case y2=>intro wz hSw;(try dsimp only at hSw);dsimp only[opE1];go_simp;(try with_reducible rfl)
   try simp only[opE1,Act.put,zS,zZ,zT]
   refine wpAnyH_take (i:=2) (oi:=opE2) (v:=?_) rfl (by kernel_rfl) (by kernel_rfl) (by kernel_rfl) (fun _ _ _ h=>h) (Or.inl ⟨by rfl,?y3⟩) (by assumption) ?ry3
   case y3=>intro wz hSw;(try dsimp only at hSw);dsimp only[opE2];go_simp;(try with_reducible rfl)
   try simp only[opE2,Act.put,zS,zZ,zT]
   refine wpAnyH_take (i:=3) (oi:=opE3) (v:=?_) rfl (by kernel_rfl) (by kernel_rfl) (by kernel_rfl) (fun _ _ _ h=>h) (Or.inl ⟨by rfl,?y4⟩) (by assumption) ?ry4
   case y4=>intro wz hSw;(try dsimp only at hSw);dsimp only[opE3];go_simp;(try with_reducible rfl)
   try simp only[opE3,Act.put,zS,zZ,zT]
   refine wpAnyH_take (i:=4) (oi:=opE4) (v:=?_) rfl (by kernel_rfl) (by kernel_rfl) (by kernel_rfl) (fun _ _ _ h=>h) (Or.inl ⟨by rfl,?y5⟩) (by assumption) ?ry5
   case y5=>intro wz hSw;(try dsimp only at hSw);dsimp only[opE4];go_simp;(try with_reducible rfl)
   try simp only[opE4,Act.put,zS,zZ,zT]
   refine wpAnyH_take (i:=5) (oi:=opE5) (v:=?_) rfl (by kernel_rfl) (by kernel_rfl) (by kernel_rfl) (fun _ _ _ h=>h) (Or.inl ⟨by rfl,?y6⟩) (by assumption) ?ry6
   case y6=>intro wz hSw;(try dsimp only at hSw);dsimp only[opE5];go_simp;(try with_reducible rfl)
   try simp only[opE5,Act.put,zS,zZ,zT]
   refine wpAnyH_take (i:=6) (oi:=opE6) (v:=?_) rfl (by kernel_rfl) (by kernel_rfl) (by kernel_rfl) (fun _ _ _ h=>h) (Or.inl ⟨by rfl,?y7⟩) (by assumption) ?ry7
   case y7=>intro wz hSw;(try dsimp only at hSw);dsimp only[opE6];go_simp;(try with_reducible rfl)
   try simp only[opE6,Act.put,zS,zZ,zT]
   refine wpAnyH_take (i:=7) (oi:=opE7) (v:=?_) rfl (by kernel_rfl) (by kernel_rfl) (by kernel_rfl) (fun _ _ _ h=>h) (Or.inl ⟨by rfl,?y8⟩) (by assumption) ?ry8
   case y8=>intro wz hSw;(try dsimp only at hSw);dsimp only[opE7];go_simp;(try with_reducible rfl)
   try simp only[opE7,Act.put,zS,zZ,zT]
   refine wpAnyH_take (i:=8) (oi:=opE8) (v:=?_) rfl (by kernel_rfl) (by kernel_rfl) (by kernel_rfl) (fun _ _ _ h=>h) (Or.inl ⟨by rfl,?y9⟩) (by assumption) ?ry9
   case y9=>intro wz hSw;(try dsimp only at hSw);dsimp only[opE8];go_simp;(try with_reducible rfl)
   try simp only[opE8,Act.put,zS,zZ,zT]
   refine wpAnyH_take (i:=9) (oi:=opE9) (v:=?_) rfl (by kernel_rfl) (by kernel_rfl) (by kernel_rfl) (fun _ _ _ h=>h) (Or.inl ⟨by rfl,?y10⟩) (by assumption) ?ry10
   case y10=>intro wz hSw;(try dsimp only at hSw);dsimp only[opE9];go_simp;(try with_reducible rfl)
   try simp only[opE9,Act.put,zS,zZ,zT]
   refine wpAnyH_take (i:=10) (oi:=opE10) (v:=?_) rfl (by kernel_rfl) (by kernel_rfl) (by kernel_rfl) (fun _ _ _ h=>h) (Or.inl ⟨by rfl,?y11⟩) (by assumption) ?ry11
   case y11=>intro wz hSw;(try dsimp only at hSw);dsimp only[opE10];go_simp;(try with_reducible rfl)
   try simp only[opE10,Act.put,zS,zZ,zT]
   refine wpAnyH_take (i:=11) (oi:=opE11) (v:=?_) rfl (by kernel_rfl) (by kernel_rfl) (by kernel_rfl) (fun _ _ _ h=>h) (Or.inl ⟨by rfl,?y12⟩) (by assumption) ?ry12
   case y12=>intro wz hSw;(try dsimp only at hSw);dsimp only[opE11];go_simp;(try with_reducible rfl)
   try simp only[opE11,Act.put,zS,zZ,zT]
   refine wpAnyH_take (i:=12) (oi:=opE12) (v:=?_) rfl (by kernel_rfl) (by kernel_rfl) (by kernel_rfl) (fun _ _ _ h=>h) (Or.inl ⟨by rfl,?y13⟩) (by assumption) ?ry13
   case y13=>intro wz hSw;(try dsimp only at hSw);dsimp only[opE12];go_simp;(try with_reducible rfl)
   try simp only[opE12,Act.put,zS,zZ,zT]
   refine wpAnyH_take (i:=13) (oi:=opE13) (v:=?_) rfl (by kernel_rfl) (by kernel_rfl) (by kernel_rfl) (fun _ _ _ h=>h) (Or.inl ⟨by rfl,?y14⟩) (by assumption) ?ry14
   case y14=>intro wz hSw;(try dsimp only at hSw);dsimp only[opE13];go_simp;(try with_reducible rfl)
   try simp only[opE13,Act.put,zS,zZ,zT]
   refine wpAnyH_take (i:=15) (oi:=opE15) (v:=?_) rfl (by kernel_rfl) (by kernel_rfl) (by kernel_rfl) (fun _ _ _ h=>h) (Or.inl ⟨by rfl,?y15⟩) (by assumption) ?ry15
   case y15=>intro wz hSw;(try dsimp only at hSw);dsimp only[opE15];go_simp;(try with_reducible rfl)
   try simp only[opE15,Act.put,zS,zZ,zT]
   refine wpAnyH_ready (rs:=[14]) (by kernel_rfl) (by simp) ?_;refine AllReadyH.cons (o:=opE14) rfl (fun K hK=>?_) ?_
   ·
    dsimp only[opE14];go_simp;refine hK.out _ _ (by repeat (first|with_reducible assumption|with_reducible refine za8 ?_|with_reducible refine za7 hgbF ?_)) (fun hHeld=>?_);clear hK K
    try simp only[opE14,Act.put,zS,zZ,zT]
    refine wpAnyH_ready (rs:=[16]) (by kernel_rfl) (by simp) ?_;refine AllReadyH.cons (o:=opE16) rfl (fun K hK=>?_) ?_
    ·
     dsimp only[opE16];(go_simp;go_at_call 33;refine(zgd (wpOf w g ys ar AG AM cG cM PG PM bF cF FS) FS[k].1.name FS[k].1.ps FS[k].2.A FS[k].2.B FS[k].2.c FS[k].1.body.length FS[k].2.d hps 25 _ i left (ownN us FS[k].1.ps) oA oc 2 6 (by omega) (by decide) (by decide) HWd.out HSq.out HSg.out (by omega) HPd.out).mono ?_;rintro e w8 ⟨l,P8,A8,c8,i8,lo8,us8,hl8,rfl,hB8,hM8,hO8,hW8,hF8⟩;have HP8:=zH (PwF.call (wr:=wx) HPx.out hW8 ⟨hF8.os,hF8.tape,hF8.output,hF8.size,hF8.block⟩);have HB8:=zH hB8;have HM8:=zH hM8;have hl8':=hB8.le;obtain⟨-,-,g38,hgl8⟩:=HP8.out.cells;obtain⟨d0,d1,d2⟩:=HP8.out.fn k hlt;have df:=HP8.out.fz (k*3+2);clear hB8 hM8 hO8 hW8 hF8 hl8;dsimp only);refine hK.out _ _ (by repeat (first|with_reducible assumption|with_reducible refine za8 ?_|with_reducible refine za7 hgbF ?_)) (fun hHeld=>?_);clear hK K
     try simp only[opE16,Act.put,zS,zZ,zT]
     refine wpAnyH_take (i:=17) (oi:=opE17) (v:=?_) rfl (by kernel_rfl) (by kernel_rfl) (by kernel_rfl) (fun _ _ _ h=>h) (Or.inl ⟨by rfl,?y16⟩) (by assumption) ?ry16
     case y16=>intro wz hSw;(try dsimp only at hSw);dsimp only[opE17];go_simp;(try with_reducible rfl)
     try simp only[opE17,Act.put,zS,zZ,zT]
     refine wpAnyH_take (i:=18) (oi:=opE18) (v:=?_) rfl (by kernel_rfl) (by kernel_rfl) (by kernel_rfl) (fun _ _ _ h=>h) (Or.inl ⟨by rfl,?y17⟩) (by assumption) ?ry17
     case y17=>intro wz hSw;(try dsimp only at hSw);dsimp only[opE18];go_simp;(try with_reducible rfl)
     try simp only[opE18,Act.put,zS,zZ,zT]
     refine wpAnyH_ready (rs:=[19]) (by kernel_rfl) (by simp) ?_;refine AllReadyH.cons (o:=opE19) rfl (fun K hK=>?_) ?_
     ·
      dsimp only[opE19];go_simp;refine hK.out _ _ (by repeat (first|with_reducible assumption|with_reducible refine za8 ?_|with_reducible refine za7 hgbF ?_)) (fun hHeld=>?_);clear hK K
      try simp only[opE19,Act.put,zS,zZ,zT]
      refine wpAnyH_done (by kernel_rfl) ?_ _;have HPz:=zH (HP8.out.body hlt l A8 c8 (HM8.out.more fun b hb _=>⟨by have h:=hb;have:=HPx.out.hbF;simp at h;omega,by have h:=hb;have:=HPx.out.hbF;have:=HGE.out;simp at h;omega,by have h:=hb;have:=HPx.out.hbF;simp at h;omega,by have h:=hb;simp at h;omega⟩));have HST:=zH (ML5.step hlt HHH.out HL0.out HLk.out (by omega) HB.out (by have h:=HB8.out;have e:=HHH.out;subst e;exact h) HPz.out);clear g0 g3 c0 c1 c2 d0 d1 d2 df g38;go_wp2_with fail;go_roundw
      case rel=>exact⟨k+1,by have:=HLEN.out;omega,by go_num,HST.out⟩
      case measure=>have:=HLEN.out;simp[intOf];omega
     exact AllReadyH.nil
    exact AllReadyH.nil
   exact AllReadyH.nil
  ·
   have i1':¬(k:Int)<(FS.length:Int):=by omega
   have hke:k=H0.length:=by omega
   rw[hke] at hL;clear hke hP hb hH;go_wp2_with fail;apply HQQ.out;exact hL.out
def zfK (E:Ex):Bool:=zaQ E&&decide (exHt E≤24)
set_option maxRecDepth 100000 in
set_option maxHeartbeats 2000000 in
theorem zbc (w:World) (E:Ex) (op num:Int) (name:List UInt8) (A:Option Addr) (n c:Nat) (hM:ExM w (fun _=>True) E ⟨op,num,name,A,n,c⟩) (hB:ExB E) (hH:exHt E≤1000000000) :
  Calls Tryz.prog 76 #[.agg #[.int .i64 op,.int .i64 num,.string ⟨name.toArray⟩,.slice A n c]] w fun e w'=>e=.returned (.bool (zfK E))∧Below w.heap.size w w':=by
 have HB0:Hid (Below w.heap.size w (w.alloc (.cells #[.int .i64 op,.int .i64 num,.string ⟨name.toArray⟩,.slice A n c] 68))):=(Below.refl _ _).alloc (lR _) _;have HM:=zH (hM.later HB0.out);have HBB:=zH hB;have HH:=zH hH;have HV:Hid (zfK E=(zaQ E&&decide (exHt E≤24))):=rfl;clear hM hB hH;go_enter Tryz.func76,Tryz.ntmps76;go_wp2_with fail;refine(zhj (SizeOf.sizeOf E+1) E op num name A n c _ (Nat.lt_succ_self _) HBB.out HM.out).mono ?_;rintro e w1 ⟨rfl,hb1⟩;obtain⟨q0,q1,q2,q3,f0,f1,f2,f3,hz⟩:=zaX hb1;have HB1:=zH (za3 HB0.out hb1);have HM1:=zH (HM.out.later hb1);clear hb1 f0 f1 f2 f3;cases hs:zaQ E with
 | false =>
  have HR:Hid (zfK E=false):=by rw[HV.out,hs];rfl
  go_wp2_with fail;go_ret;exact⟨zao HR.out.symm,HB1.out⟩
 | true =>
  have HR:Hid (zfK E=decide (exHt E≤24)):=by rw[HV.out,hs];rfl
  clear hs;go_wp2_with fail;refine(zgD (SizeOf.sizeOf E+1) E op num name A n c _ (Nat.lt_succ_self _) HBB.out HH.out HM1.out).mono ?_;rintro e w2 ⟨rfl,hb2⟩;have HB2:=zH (za3 HB1.out hb2);clear hb2;by_cases h24:exHt E≤24
  ·
   have d24:decide ((exHt E:Int)≤24)=true:=decide_eq_true (by omega);have HR2:Hid (zfK E=true):=by rw[HR.out];exact decide_eq_true h24
   clear h24;go_wp2_with fail;go_ret;exact⟨zao HR2.out.symm,HB2.out⟩
  ·
   have d24:decide ((exHt E:Int)≤24)=false:=decide_eq_false (by omega);have HR2:Hid (zfK E=false):=by rw[HR.out];exact decide_eq_false h24
   clear h24;go_wp2_with fail;go_ret;exact⟨zao HR2.out.symm,HB2.out⟩
theorem zfY {w:World} {S:Nat→Prop} {fo fx:Int} {fname:List UInt8} {fA:Option Addr} {fl fc:Nat} (h:ExM w S noEx ⟨fo,fx,fname,fA,fl,fc⟩):fo=0∧fx=0∧fname=[]∧fl=0:=by
 cases h;exact⟨rfl,rfl,rfl,rfl⟩
theorem MdE.valid {d:Nat} {E:Ex} (h:MdE d E) (hd:d≤12):zfK E=true:=by
 have:=h.ht;unfold zfK;rw[h.sh,decide_eq_true (by omega)];rfl
set_option maxRecDepth 100000 in
set_option maxHeartbeats 2000000 in
theorem zbH (w:World) (A:Option Addr) (c:Nat) :
  Calls Tryz.prog 77 #[.agg #[.int .i64 0,.int .i64 0,.string ⟨#[]⟩,.slice A 0 c]] w fun e w'=>e=.returned (.bool true)∧Below w.heap.size w w':=by
 have HB0:Hid (Below w.heap.size w (w.alloc (.cells #[.int .i64 0,.int .i64 0,.string ⟨#[]⟩,.slice A 0 c] 68))):=(Below.refl _ _).alloc (lR _) _;go_enter Tryz.func77,Tryz.ntmps77;go_wp2_with fail;go_ret;exact⟨rfl,HB0.out⟩
set_option maxRecDepth 100000 in
set_option maxHeartbeats 2000000 in
theorem zbB (w:World) (A:Option Addr) (c:Nat) :
  Calls Tryz.prog 79 #[.agg #[.string ⟨#[]⟩,.slice A 0 c]] w fun e w'=>e=.returned (.bool true)∧Below w.heap.size w w':=by
 have HB0:Hid (Below w.heap.size w (w.alloc (.cells #[.string ⟨#[]⟩,.slice A 0 c] 70))):=(Below.refl _ _).alloc (lR _) _;go_enter Tryz.func79,Tryz.ntmps79;go_wp2_with fail;go_ret;exact⟨rfl,HB0.out⟩
set_option maxRecDepth 100000 in
set_option maxHeartbeats 2000000 in
theorem zdp (w:World) (r:Rf) (A:Option Addr) (n c:Nat) (hR:MdR r) (hM:IdxM w (fun _=>True) r.idx A n) :
  Calls Tryz.prog 78 #[.agg #[.string ⟨r.name.toArray⟩,.slice A n c]] w fun e w'=>e=.returned (.bool true)∧Below w.heap.size w w':=by
 have HB0:Hid (Below w.heap.size w (w.alloc (.cells #[.string ⟨r.name.toArray⟩,.slice A n c] 70))):=(Below.refl _ _).alloc (lR _) _;have HMW:=zH (hM.keep (w':=w.alloc (.cells #[.string ⟨r.name.toArray⟩,.slice A n c] 70)) fun b _ hl=>Below.heap_alloc w _ b hl);have HR:=zH hR;have hnl:=(zaP hR.1).2;have HT:=zH (heap_alloc_new w (.cells #[.string ⟨r.name.toArray⟩,.slice A n c] 70));clear hM hR;go_enter Tryz.func78,Tryz.ntmps78;go_wp2_with fail;generalize w.alloc (.cells #[.string ⟨r.name.toArray⟩,.slice A n c] 70)=W at *;refine(zbM r.name _ (by omega)).mono ?_;rintro e w1 ⟨rfl,hb1⟩;rw[HR.out.1];have hT1:=(hb1.block _ (lt_of_block HT.out)).trans HT.out;have x0:=cell_of_row w1 w.heap.size 0 _ _ _ hT1;have x1:w1.cell? ⟨w.heap.size,1,none⟩=some (.slice A n c):=by rw[cell_of_row w1 w.heap.size 1 _ _ _ hT1];rfl
 have HB1:=zH (za3 HB0.out hb1);have HM1:=zH (HMW.out.keep (w':=w1) fun b _ hl=>hb1.block b hl);clear hT1 hb1 x0 HMW;cases hi:r.idx with
 | none =>
  have hn:n=0:=by have h:=HM1.out;rw[hi] at h;exact h
  subst hn;clear hi;go_wp2_with fail;go_ret;exact⟨rfl,HB1.out⟩
 | some E =>
  obtain⟨rfl,b,off,⟨fo,fx,fname,fA,fl,fc⟩,rfl,-,⟨a0,a1,a2,a3⟩,hE⟩:=(by have h:=HM1.out;rw[hi] at h;exact h:n=1∧∃b off f,A=some ⟨b,off,none⟩∧True∧EFat w1 b off f∧ExM w1 (fun _=>True) E f);have HE:=zH hE;have HD:=zH (HR.out.2 E hi);clear hi hE;dsimp only at a0 a1 a2 a3;go_wp2_with fail;refine(zbc _ E fo fx fname fA fl fc HE.out HD.out.b (by have:=HD.out.ht;omega)).mono ?_;rintro e w2 ⟨rfl,hb2⟩;rw[HD.out.valid (by decide)];have HB2:=zH (za3 HB1.out hb2);clear hb2;go_wp2_with fail;go_ret;exact⟨rfl,HB2.out⟩
end Go.Proofs.YtlnbmmgbfgmboaaGreatDoor
