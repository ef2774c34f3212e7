import Derived.Test.YtlnbmmgbfgmboaaDoorQ11
import Derived.Deep.RegionHeld3
import Derived.Deep.RegionLaw
import Derived.Deep.CutRange
namespace Go.Proofs.YtlnbmmgbfgmboaaDoor
open Go.RowKit
set_option maxRecDepth 100000 in
set_option maxHeartbeats 8000000 in
theorem pgLoop4 {w wr0 w4:World} {g T kk N:Nat} {ys:List Int} {ar:Bool} {kG kM kF vV vG vM vF:Value} {us:List Nm} {PG:List Gl} {PM:List Mx} {PF:List (Fn × FnG)} {i0:Nat} {nm:Nm} {R:Act→World→Prop} {u0 u1 u2 u4 u5 u6 u7 u8 u9 a2 a3 a5 a6 a7 a8 a9 aa ab ac ad ae af ag ah ai aj ak al am an ao ap aq au av aw ax ay az aA aB aC aD aE aF aG aH aI aJ aK aL aM aN aO aP aQ aR aS aT aU aV aW aX aY aZ b2 b3 b4 b5 b6 b7 b8 b9 ba bb bc bd be bf bg bh bi bj bk bl bm bn bo bp bq br bs bt bu bv bw bx bz bA bB bC bD bE bF bG bH bI bJ bK bL bM bN bO bP bQ bR bS bT bU bV bW bX bY bZ c0 c1 c2 c3 c4 c5 c6 c7 c8 c9 cb cc cd ce cf cg cJ cK cL cM cN cO cP cQ cR cS cT cU cV cW cX cY cZ d0 d1 d2 d3 d4 d5 d6 d7 d8 d9 da db dc dd de df dg dh di dj dk dl dm dn dp dq dr ds dt du dv dw dx dy dz dA dB dC dD dE dF dG dH dI dJ dK dL dM dN dO dP dQ dR dS dT dU dV dW dX dY dZ e0 e1 e2 e3 e4 e5 e6 e7 e8 e9 ea eb ec ed a4 ch ci cj ck cl cm cn co cp cq cr ct cu cv cw cx cy cz cA cB cC cD cE cF cG cH cI:Value} (HGE:Hid (g=w.heap.size+1+1)) (hkk:0<kk) (hN:N<3)
  (HS0:Hid (PwR w g ys ar kG kM kF vV us vG vM vF PG PM PF i0 wr0)) (HL1:Hid (ML4 w wr0 g ys T nm N N w4))
  (HQQ:Hid (∀(ee ef eg eh ei ej ek el em en eo ep eq er es et eu ev ew ex ey ez eA eB eC eD eE eF eG:Value) (w':World),ML4 w wr0 g ys T nm N 0 w'→R {tmps:=#[u0,u1,u2,.pointer (some ⟨g,0,none⟩),u4,u5,u6,u7,u8,u9,a2,a3,.int .i64 (kk:Int),.pointer (some ⟨T,0,none⟩),ee,ef,a5,a6,a7,a8,a9,aa,ab,ac,ad,ae,af,ag,ah,ai,aj,ak,al,am,an,ao,ap,aq,au,av,aw,ax,ay,az,aA,aB,aC,aD,aE,aF,aG,aH,aI,aJ,aK,aL,aM,aN,aO,aP,aQ,aR,aS,aT,aU,aV,aW,aX,aY,aZ,b2,b3,b4,b5,b6,b7,b8,b9,ba,bb,bc,bd,be,bf,bg,bh,bi,bj,bk,bl,bm,bn,bo,bp,bq,br,bs,bt,bu,bv,bw,bx,bz,bA,bB,bC,bD,bE,bF,bG,bH,bI,bJ,bK,bL,bM,bN,bO,bP,bQ,bR,bS,bT,bU,bV,bW,bX,bY,bZ,c0,c1,c2,c3,c4,c5,c6,c7,c8,c9,cb,cc,cd,ce,cf,cg,eg,eh,ei,ej,ek,el,em,en,eo,ep,eq,er,es,et,eu,ev,ew,ex,ey,ez,eA,eB,eC,eD,eE,eF,eG,cJ,cK,cL,cM,cN,cO,cP,cQ,cR,cS,cT,cU,cV,cW,cX,cY,cZ,d0,d1,d2,d3,d4,d5,d6,d7,d8,d9,da,db,dc,dd,de,df,dg,dh,di,dj,dk,dl,dm,dn,dp,dq,dr,ds,dt,du,dv,dw,dx,dy,dz,dA,dB,dC,dD,dE,dF,dG,dH,dI,dJ,dK,dL,dM,dN,dO,dP,dQ,dR,dS,dT,dU,dV,dW,dX,dY,dZ,e0,e1,e2,e3,e4,e5,e6,e7,e8,e9,ea,eb,ec,ed],defers:=[]} w')) :
  (nav [true,true,true,true,true,true,true,false,true,false,false,true,false,false,true,true,false,true,false] (Tryd.f5.body.getD .skip)).wp Tryd.prog (Exit.inBlock 7 (Nrm R)) {tmps:=#[u0,u1,u2,.pointer (some ⟨g,0,none⟩),u4,u5,u6,u7,u8,u9,a2,a3,.int .i64 (kk:Int),.pointer (some ⟨T,0,none⟩),.int .i64 (N:Int),a4,a5,a6,a7,a8,a9,aa,ab,ac,ad,ae,af,ag,ah,ai,aj,ak,al,am,an,ao,ap,aq,au,av,aw,ax,ay,az,aA,aB,aC,aD,aE,aF,aG,aH,aI,aJ,aK,aL,aM,aN,aO,aP,aQ,aR,aS,aT,aU,aV,aW,aX,aY,aZ,b2,b3,b4,b5,b6,b7,b8,b9,ba,bb,bc,bd,be,bf,bg,bh,bi,bj,bk,bl,bm,bn,bo,bp,bq,br,bs,bt,bu,bv,bw,bx,bz,bA,bB,bC,bD,bE,bF,bG,bH,bI,bJ,bK,bL,bM,bN,bO,bP,bQ,bR,bS,bT,bU,bV,bW,bX,bY,bZ,c0,c1,c2,c3,c4,c5,c6,c7,c8,c9,cb,cc,cd,ce,cf,cg,ch,ci,cj,ck,cl,cm,cn,co,cp,cq,cr,ct,cu,cv,cw,cx,cy,cz,cA,cB,cC,cD,cE,cF,cG,cH,cI,cJ,cK,cL,cM,cN,cO,cP,cQ,cR,cS,cT,cU,cV,cW,cX,cY,cZ,d0,d1,d2,d3,d4,d5,d6,d7,d8,d9,da,db,dc,dd,de,df,dg,dh,di,dj,dk,dl,dm,dn,dp,dq,dr,ds,dt,du,dv,dw,dx,dy,dz,dA,dB,dC,dD,dE,dF,dG,dH,dI,dJ,dK,dL,dM,dN,dO,dP,dQ,dR,dS,dT,dU,dV,dW,dX,dY,dZ,e0,e1,e2,e3,e4,e5,e6,e7,e8,e9,ea,eb,ec,ed],defers:=[]} w4:=by
 obtain⟨iP,hiP,hgP0,hgP1,hgP2⟩:=info_parts Tryd.infoPar
 dsimp only[nav,Tryd.f5,Option.getD]
 go_loopw [14,15] (fun v _ wr=>∃m:Nat,m≤N∧v=.int .i64 m∧Hid (ML4 w wr0 g ys T nm N m wr)) (fun v _ _=>(intOf v).toNat)
 case atStart=>exact⟨N,Nat.le_refl _,rfl,HL1⟩
 case round =>
  clear HL1
  obtain⟨m,hm,rfl,hL⟩:=hrel
  have hk1:(0:Int)<(kk:Int):=by omega
  by_cases hm0:0<m
  ·
   obtain⟨m,rfl⟩:∃m',m=m'+1:=⟨m-1,by omega⟩
   obtain⟨i,PS,pA,pc,hP⟩:=hL.out
   have HP:=Lib.hid hP
   have HS:=Lib.hid (HS0.out.next hP.src hP.gr)
   obtain⟨s0,-,-,-,-,sf,sl⟩:=HS.out.cells
   have hpl:=hP.len
   clear hL hP sf
   have hch:=chr48 (m+1) (by omega)
   have hch2:IntKind.u8.wrap (IntKind.i64.wrap (48+((m+1:Nat):Int)))=((UInt8.ofNat (48+(m+1))).toNat:Int):=by rw[IntWalk.i64_in _ (by omega)];exact hch
   obtain⟨ca,hca⟩:∃ca,ca=UInt8.ofNat (48+(m+1)):=⟨_,rfl⟩
   rw[←hca] at hch hch2
   have HCA:Hid ([112,ca]=[112,UInt8.ofNat (48+(m+1))]):=by show _=_;rw[hca]
   clear hca
   obtain⟨mm,hmm⟩:∃mm,mm=m+1:=⟨_,rfl⟩
   have HMM:=Lib.hid hmm
   rw[←hmm] at hch hch2 hm hm0 ⊢
   clear hmm
   have hq1:w.heap.size+1<wr.heap.size:=by have:=HGE.out;omega
   have hgT0:g≠wr.heap.size:=by omega
   have hgT1:g≠wr.heap.size+1:=by omega
   have happ1:(({data:=#[112]}:ByteArray)++{data:=#[ca]})=⟨#[112,ca]⟩:=rfl
   have hm1:(0:Int)<(mm:Int):=by omega
   go_wp2_with fail
   go_cut [15] from 153 to 165 (fun s15 wx=>∃(T2 i5:Nat) (b:Bool),s15=.pointer (some ⟨T2,0,none⟩)∧NwP w wr ys i5 T2 (.string ⟨#[112,ca]⟩) (.bool b) 60 wx)
   case first =>
    have cv1:(convert 33 9 (.slice (some ⟨wr.heap.size,0,none⟩) 1 1)).run Tryd.prog ((wr.alloc (.cells #[.int .u8 (ca.toNat:Int)] 5)).drew)=.ok (.string ⟨#[ca]⟩) ((wr.alloc (.cells #[.int .u8 (ca.toNat:Int)] 5)).drew):=zay ca _ _ _ (NewsAt.drew (NewsAt.alloc wr _ rfl _ _))
    have cv2:(convert 33 9 (.slice (some ⟨wr.heap.size,0,none⟩) 1 1)).run Tryd.prog (((wr.alloc (.cells #[.int .u8 (ca.toNat:Int)] 5)).alloc (.cells #[.string ⟨#[]⟩,.bool false] 60)).drew)=.ok (.string ⟨#[ca]⟩) (((wr.alloc (.cells #[.int .u8 (ca.toNat:Int)] 5)).alloc (.cells #[.string ⟨#[]⟩,.bool false] 60)).drew):=zay ca _ _ _ (NewsAt.drew (NewsAt.alc (.cells #[.string ⟨#[]⟩,.bool false] 60) (NewsAt.alloc wr _ rfl _ _)))
    have cv3:(convert 33 9 (.slice (some ⟨wr.heap.size+1,0,none⟩) 1 1)).run Tryd.prog (((wr.alloc (.cells #[.string ⟨#[]⟩,.bool false] 60)).alloc (.cells #[.int .u8 (ca.toNat:Int)] 5)).drew)=.ok (.string ⟨#[ca]⟩) (((wr.alloc (.cells #[.string ⟨#[]⟩,.bool false] 60)).alloc (.cells #[.int .u8 (ca.toNat:Int)] 5)).drew):=zay ca _ _ _ (NewsAt.drew (NewsAt.alloc (wr.alloc (.cells #[.string ⟨#[]⟩,.bool false] 60)) _ (by simp) _ _))
    go_region_law (first
     | (go_simp;go_at_call 14;refine(zaq _ (w.heap.size+1) ys i 3 (by with_reducible first|exact PwR.src (PwR.drew HS.out)|exact PwR.src (PwR.drew (PwR.alloc HS.out _))|exact PwR.src (PwR.drew (PwR.alloc (PwR.alloc HS.out _) _))|exact PwR.src (PwR.alloc (PwR.alloc HS.out _) _)|exact PwR.src (PwR.alloc HS.out _)) (by omega) (by omega)).mono ?_;rintro e w5 ⟨rfl,hS5,hG5⟩;rw[show (3:Int).toNat=3 from rfl];have hGx:=zaD hG5;have hG6:wr.grownBy w5 (some (w.heap.size+1)):=(by with_reducible first|exact hGx|exact za4 hGx|exact za4 (za4 hGx));(first|(with_reducible have hNb:NewsAt w5 (wr.heap.size+1) [.int .u8 (ca.toNat:Int)]:=zcN (zcP hGx hq1);have cv8:=zay ca w5 _ 1 hNb;have cv9:=zay ca (w5.alloc (.cells #[.string ⟨#[]⟩,.bool false] 60)) _ 1 (NewsAt.alc _ hNb))|(with_reducible have hNb:NewsAt w5 wr.heap.size [.int .u8 (ca.toNat:Int)]:=zcN (zcQ hGx hq1);have cv8:=zay ca w5 _ 1 hNb;have cv9:=zay ca (w5.alloc (.cells #[.string ⟨#[]⟩,.bool false] 60)) _ 1 (NewsAt.alc _ hNb))|(with_reducible have hNb:NewsAt w5 wr.heap.size [.int .u8 (ca.toNat:Int)]:=zcN (zdm hGx hq1);have cv8:=zay ca w5 _ 1 hNb;have cv9:=zay ca (w5.alloc (.cells #[.string ⟨#[]⟩,.bool false] 60)) _ 1 (NewsAt.alc _ hNb))|skip);(first|(with_reducible have hTz:w5.heap[wr.heap.size+1]?=some (.cells #[.string ⟨#[]⟩,.bool false] 60 (0,0)):=zcP hGx hq1;obtain⟨t0,t1,tf0,tf1⟩:=zb1 hTz;have HTz:=Lib.hid hTz)|(with_reducible have hTz:w5.heap[wr.heap.size]?=some (.cells #[.string ⟨#[]⟩,.bool false] 60 (0,0)):=zcQ hGx hq1;obtain⟨t0,t1,tf0,tf1⟩:=zb1 hTz;have HTz:=Lib.hid hTz)|(with_reducible have hTz:w5.heap[wr.heap.size]?=some (.cells #[.string ⟨#[]⟩,.bool false] 60 (0,0)):=zdm hGx hq1;obtain⟨t0,t1,tf0,tf1⟩:=zb1 hTz;have HTz:=Lib.hid hTz;obtain⟨a0,a1,af0,af1⟩:=zb1 (zac (.cells #[.int .u8 (ca.toNat:Int)] 5) hTz))|skip);have cv5:(convert 33 9 (.slice (some ⟨w5.heap.size,0,none⟩) 1 1)).run Tryd.prog (w5.alloc (.cells #[.int .u8 (ca.toNat:Int)] 5))=.ok (.string ⟨#[ca]⟩) (w5.alloc (.cells #[.int .u8 (ca.toNat:Int)] 5)):=zay ca _ _ _ (NewsAt.alloc w5 _ rfl _ _);have cv6:(convert 33 9 (.slice (some ⟨w5.heap.size,0,none⟩) 1 1)).run Tryd.prog ((w5.alloc (.cells #[.int .u8 (ca.toNat:Int)] 5)).alloc (.cells #[.string ⟨#[]⟩,.bool false] 60))=.ok (.string ⟨#[ca]⟩) ((w5.alloc (.cells #[.int .u8 (ca.toNat:Int)] 5)).alloc (.cells #[.string ⟨#[]⟩,.bool false] 60)):=zay ca _ _ _ (NewsAt.alc (.cells #[.string ⟨#[]⟩,.bool false] 60) (NewsAt.alloc w5 _ rfl _ _));have cv7:(convert 33 9 (.slice (some ⟨w5.heap.size+1,0,none⟩) 1 1)).run Tryd.prog ((w5.alloc (.cells #[.string ⟨#[]⟩,.bool false] 60)).alloc (.cells #[.int .u8 (ca.toNat:Int)] 5))=.ok (.string ⟨#[ca]⟩) ((w5.alloc (.cells #[.string ⟨#[]⟩,.bool false] 60)).alloc (.cells #[.int .u8 (ca.toNat:Int)] 5)):=zay ca _ _ _ (NewsAt.alloc (w5.alloc (.cells #[.string ⟨#[]⟩,.bool false] 60)) _ (by simp) _ _);have hv5:=zau ys i 3 (by omega);have HS5:=Lib.hid hS5;have HG5:=Lib.hid hG6;have s5:=(HS.out.next hS5 hG6).cells.1;obtain⟨b0,b1,bf0,bf1⟩:=zb1 (zac (.cells #[.int .u8 (ca.toNat:Int)] 5) (heap_alloc_new w5 (.cells #[.string ⟨#[]⟩,.bool false] 60)));generalize zab ys i 3=v at *;generalize zaa ys i=i5 at *;have hgW0:g≠w5.heap.size:=(by have:=hG6.size;omega);have hgW1:g≠w5.heap.size+1:=(by have:=hG6.size;omega);dsimp only))
    all_goals
     go_wp2_with fail
     go_meet
     refine⟨_,i5,decide (0<v),rfl,?_⟩
     first
      | with_reducible exact zcV HS5.out HG5.out hq1 HTz.out (Nat.le_refl _)
      | with_reducible exact zcV HS5.out HG5.out hq1 HTz.out (Nat.le_succ _)
      | with_reducible exact zcV (zcb _ HS5.out) (zap HG5.out _) hq1 (zac _ HTz.out) (Nat.le_refl _)
      | with_reducible exact zcV (zcb _ HS5.out) (zap HG5.out _) hq1 (zac _ HTz.out) (Nat.le_succ _)
      | with_reducible exact zfN HS5.out HG5.out
      | with_reducible exact ziT _ HS5.out HG5.out
      | with_reducible exact NwP.alc (zfN HS5.out HG5.out) _
      | with_reducible exact zcV (zcb _ (zcb _ HS5.out)) (zap (zap HG5.out _) _) hq1 (zac _ (heap_alloc_new _ _)) HG5.out.size
   case rest =>
    obtain⟨T2,i5,b,rfl,hNw⟩:=hcut
    have HNw:=Lib.hid hNw
    obtain⟨t0,t1,-,-⟩:=zb1 hNw.t
    have hTT:T≠w.heap.size+1:=by have:=HP.out.hT;have:=HS0.out.cells.2.2.2.2.2.2;have:=HGE.out;omega
    have HTf:=Lib.hid ((hNw.gr.block T (lt_of_block HP.out.t) (fun e=>by injection e with e;exact hTT e)).trans HP.out.t)
    obtain⟨q0,q1,q2,qf,ql⟩:=blk3 HTf.out
    have qf1:=qf 1
    have hTl:=lt_of_block hNw.t
    have HRow:Hid (wc.ownsRow (T+1) 60 2 (.slice pA PS.length pc) PS.length (pmK.cs PS)):=zar HP.out.row fun b hb hl _=>hNw.gr.block b hl (fun e=>by injection e with e;have:=HP.out.hT;have:=HGE.out;have:=HS0.out.cells.2.2.2.2.2.2;omega)
    have HRl:=Lib.hid HP.out.row.lt
    clear hNw qf
    go_wp2_with (first|(at_builtin;refine wpList_append_lies _ rfl (.tmp 167) (.tmp 169) 55 rfl (T+1) 60 iP _ 2 24 Tryd.underlying55 hiP hgP0 hgP1 hgP2 rfl (by decide) (.slice pA PS.length pc) PS.length (pmK.cs PS) rfl (HRow.out.alloc _) ⟨wc.heap.size,0,none⟩ 1 1 [.string ⟨#[112,ca]⟩,.bool b] rfl rfl (zam wc _ rfl _ _) (pmK.one ⟨[112,ca],b⟩) (by omega) (by unfold maxLen;omega) (by omega) (by simp;omega) _ rfl ?_))
    intro gb cap7 w7 hown hgrow hlies hgl7
    have HT7:=Lib.hid ((hgrow.block T (by simp;omega) (fun e=>by have:=(HRl.out _ e.symm).1;omega)).trans (zac _ HTf.out))
    have HP7:=Lib.hid (PmL.snoc (o:=.cells #[.string ⟨#[112,ca]⟩,.bool b] 60) (m:=m) (by have h:=HP.out;exact h) (by have:=HGE.out;have:=HS0.out.cells.2.2.2.2.2.2;omega) ⟨[112,ca],b⟩ HNw.out.src HNw.out.gr HCA.out hown hgrow)
    clear hown hgrow hlies hgl7 t0 t1 q0 q1 q2 qf1
    obtain⟨q0,q1,q2,qf,ql7⟩:=blk3 HT7.out
    have qf1:=qf 1
    clear qf
    go_wp2_with fail
    go_roundw
    case rel=>exact⟨m,by have:=HMM.out;omega,by have:=HMM.out;go_num,i5,PS++[⟨[112,ca],b⟩],some ⟨gb,0,none⟩,cap7,HP7.out⟩
    case measure=>have:=HMM.out;simp[intOf];omega
  ·
   have hme:m=0:=by omega
   subst hme
   go_wp2_with fail
   apply HQQ.out
   exact hL.out
end Go.Proofs.YtlnbmmgbfgmboaaDoor
