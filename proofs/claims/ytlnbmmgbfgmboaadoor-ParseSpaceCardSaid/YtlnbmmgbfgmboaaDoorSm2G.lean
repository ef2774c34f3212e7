import Derived.Test.YtlnbmmgbfgmboaaDoorSm1G
namespace Go.Proofs.YtlnbmmgbfgmboaaDoor
open Go.RowKit
set_option maxRecDepth 100000 in
set_option maxHeartbeats 8000000 in
theorem zfy (p:Pg) (hB:PgB p) (AG AM AF AG' AM' AF':Option Addr) (cG cM cF cG' cM' cF':Nat) (H H':Nat→FnG) (w:World) (hM:PgM w p AG AM AF H) (hM':PgM w p AG' AM' AF' H') :
  Calls Tryd.prog 8 #[.agg #[.slice AG p.gs.length cG,.slice AM p.ms.length cM,.slice AF p.fs.length cF],.agg #[.slice AG' p.gs.length cG',.slice AM' p.ms.length cM',.slice AF' p.fs.length cF']] w fun e w'=>e=.returned (.bool true)∧Below w.heap.size w w':=by
 obtain⟨W,hW⟩:∃W,W=(w.alloc (.cells #[.slice AG p.gs.length cG,.slice AM p.ms.length cM,.slice AF p.fs.length cF] 27)).alloc (.cells #[.slice AG' p.gs.length cG',.slice AM' p.ms.length cM',.slice AF' p.fs.length cF'] 27):=⟨_,rfl⟩
 obtain⟨hn1,hn2⟩:=new2 w (.cells #[.slice AG p.gs.length cG,.slice AM p.ms.length cM,.slice AF p.fs.length cF] 27) (.cells #[.slice AG' p.gs.length cG',.slice AM' p.ms.length cM',.slice AF' p.fs.length cF'] 27)
 rw[←hW] at hn1 hn2
 have HX:=Lib.hid hn1
 have HY:=Lib.hid hn2
 have HBW:Hid (Below w.heap.size w W):=by rw[hW];exact((Below.refl _ _).alloc (Nat.le_refl _) _).alloc (by simp) _
 have HM:=Lib.hid (hM.later HBW.out)
 have HM':=Lib.hid (hM'.later HBW.out)
 have hg:=hB.g
 have hm:=hB.m
 have hf:=hB.f
 have HFB:=Lib.hid hB.b
 have HW:=Lib.hid hW
 have n1:=nF (show ((p.gs.length:Nat):Int)=p.gs.length from rfl)
 have n2:=nF (show ((p.ms.length:Nat):Int)=p.ms.length from rfl)
 have n3:=nF (show ((p.fs.length:Nat):Int)=p.fs.length from rfl)
 clear hn1 hn2 hM hM' hB hW
 go_enter Tryd.func8,Tryd.ntmps8
 go_wp2_with fail
 rw[←HW.out]
 clear HW n1 n2 n3
 go_loopw [5] (fun i wr=>∃k:Nat,k≤p.gs.length∧i=.int .i64 k∧Hid (Below W.heap.size W wr)) (fun i _=>p.gs.length-(intOf i).toNat)
 case atStart=>exact⟨0,Nat.zero_le _,rfl,Below.refl _ _⟩
 case round =>
  obtain⟨k,hk,rfl,HBk⟩:=hrel
  obtain⟨x0,-,-,-,hxl⟩:=blk3 ((HBk.out.block _ (lt_of_block HX.out)).trans HX.out)
  obtain⟨y0,-,-,-,hyl⟩:=blk3 ((HBk.out.block _ (lt_of_block HY.out)).trans HY.out)
  by_cases hlt:k<p.gs.length
  ·
   obtain⟨b,rfl,a0,a1⟩:=(HM.out.later HBk.out).g k hlt
   obtain⟨b',rfl,e0,e1⟩:=(HM'.out.later HBk.out).g k hlt
   generalize p.gs[k]=gl at *
   have i0:(0:Int)≤(k:Int):=by omega
   have i1:(k:Int)<(p.gs.length:Int):=by omega
   have dlt:decide ((k:Int)<(p.gs.length:Int))=true:=decide_eq_true (by omega)
   go_wp2_with fail
   go_region
   all_goals
    go_wp2_with fail
    go_roundw
    case rel=>exact⟨k+1,by omega,by go_num,HBk.out.drew⟩
    case measure=>simp[intOf];omega
  ·
   have dlt:decide ((k:Int)<(p.gs.length:Int))=false:=decide_eq_false (by omega)
   go_wp2_with fail
   clear x0 y0 hxl hyl
   go_loopw [6] (fun i wr=>∃k:Nat,k≤p.ms.length∧i=.int .i64 k∧Hid (Below W.heap.size W wr)) (fun i _=>p.ms.length-(intOf i).toNat)
   case atStart=>exact⟨0,Nat.zero_le _,rfl,HBk⟩
   case round =>
    clear HBk hlt dlt
    obtain⟨k2,hk2,rfl,HBk⟩:=hrel
    obtain⟨-,x1,-,-,hxl⟩:=blk3 ((HBk.out.block _ (lt_of_block HX.out)).trans HX.out)
    obtain⟨-,y1,-,-,hyl⟩:=blk3 ((HBk.out.block _ (lt_of_block HY.out)).trans HY.out)
    by_cases hlt:k2<p.ms.length
    ·
     obtain⟨b,rfl,a0,a1,a2⟩:=(HM.out.later HBk.out).m k2 hlt
     obtain⟨b',rfl,e0,e1,e2⟩:=(HM'.out.later HBk.out).m k2 hlt
     generalize p.ms[k2]=mx at *
     have i0:(0:Int)≤(k2:Int):=by omega
     have i1:(k2:Int)<(p.ms.length:Int):=by omega
     have dlt:decide ((k2:Int)<(p.ms.length:Int))=true:=decide_eq_true (by omega)
     go_wp2_with fail
     go_region
     all_goals
      go_wp2_with fail
      go_roundw
      case rel=>exact⟨k2+1,by omega,by go_num,HBk.out.drew⟩
      case measure=>simp[intOf];omega
    ·
     have dlt:decide ((k2:Int)<(p.ms.length:Int))=false:=decide_eq_false (by omega)
     go_wp2_with fail
     clear x1 y1 hxl hyl
     go_loopw [7] (fun i wr=>∃k:Nat,k≤p.fs.length∧i=.int .i64 k∧Hid (Below W.heap.size W wr)) (fun i _=>p.fs.length-(intOf i).toNat)
     case atStart=>exact⟨0,Nat.zero_le _,rfl,HBk⟩
     case round =>
      clear HBk hlt dlt
      obtain⟨j,hj,rfl,HBj⟩:=hrel
      obtain⟨-,-,x2,-,hxl⟩:=blk3 ((HBj.out.block _ (lt_of_block HX.out)).trans HX.out)
      obtain⟨-,-,y2,-,hyl⟩:=blk3 ((HBj.out.block _ (lt_of_block HY.out)).trans HY.out)
      by_cases hlt:j<p.fs.length
      ·
       have hMj:=HM.out.later HBj.out
       have hMj':=HM'.out.later HBj.out
       obtain⟨b,hAe,a0,a1,a2⟩:=hMj.f j hlt
       obtain⟨b',hAe',e0,e1,e2⟩:=hMj'.f j hlt
       have HPs:=Lib.hid (hMj.ps j hlt)
       have HPs':=Lib.hid (hMj'.ps j hlt)
       have HS:=Lib.hid (hMj.bd j hlt)
       have HS':=Lib.hid (hMj'.bd j hlt)
       have hFB:=HFB.out p.fs[j] (List.getElem_mem hlt)
       have hpl:=hFB.1
       have HBD:=Lib.hid hFB.2
       generalize p.fs[j]=fn at *
       generalize H j=G at *
       generalize H' j=G' at *
       clear hMj hMj' hFB
       subst hAe hAe'
       have hbl:b<wr.heap.size:=World.block_lt_of_cell? _ _ a0
       have hbl':b'<wr.heap.size:=World.block_lt_of_cell? _ _ e0
       have hb1:b≠wr.heap.size:=by omega
       have hb2:b≠wr.heap.size+1:=by omega
       have hb3:b'≠wr.heap.size:=by omega
       have hb4:b'≠wr.heap.size+1:=by omega
       have hxn:w.heap.size≠wr.heap.size:=by omega
       have hxn2:w.heap.size≠wr.heap.size+1:=by omega
       have hyn:w.heap.size+1≠wr.heap.size:=by omega
       have hyn2:w.heap.size+1≠wr.heap.size+1:=by omega
       have i0:(0:Int)≤(j:Int):=by omega
       have i1:(j:Int)<(p.fs.length:Int):=by omega
       have dlt:decide ((j:Int)<(p.fs.length:Int))=true:=decide_eq_true (by omega)
       go_wp2_with fail
       go_region
       ·
        obtain⟨U,hU⟩:∃U,U=((wr.alloc (.cells #[.string ⟨fn.name.toArray⟩,.slice G.A fn.ps.length G.c,.slice G.B fn.body.length G.d] 58)).alloc (.cells #[.string ⟨fn.name.toArray⟩,.slice G'.A fn.ps.length G'.c,.slice G'.B fn.body.length G'.d] 58)).drew:=⟨_,rfl⟩
        obtain⟨hn1,hn2⟩:=new2 wr (.cells #[.string ⟨fn.name.toArray⟩,.slice G.A fn.ps.length G.c,.slice G.B fn.body.length G.d] 58) (.cells #[.string ⟨fn.name.toArray⟩,.slice G'.A fn.ps.length G'.c,.slice G'.B fn.body.length G'.d] 58)
        have HX3:Hid (U.heap[wr.heap.size]?=some (.cells #[.string ⟨fn.name.toArray⟩,.slice G.A fn.ps.length G.c,.slice G.B fn.body.length G.d] 58 (0,0))):=by rw[hU];exact hn1
        have HY3:Hid (U.heap[wr.heap.size+1]?=some (.cells #[.string ⟨fn.name.toArray⟩,.slice G'.A fn.ps.length G'.c,.slice G'.B fn.body.length G'.d] 58 (0,0))):=by rw[hU];exact hn2
        have HBx:Hid (Below wr.heap.size wr U):=by rw[hU];exact(((Below.refl _ _).alloc (Nat.le_refl _) _).alloc (by simp) _).drew
        rw[←hU]
        clear hU hn1 hn2 a0 a1 a2 e0 e1 e2 x2 y2
        obtain⟨bx,hbx⟩:∃x,x=wr.heap.size:=⟨_,rfl⟩
        obtain⟨by_,hby⟩:∃x,x=wr.heap.size+1:=⟨_,rfl⟩
        rw[←hby] at HY3 ⊢
        rw[←hbx] at HX3 ⊢
        clear hbx hby
        have n0:(fn.name==fn.name)=true:=beq_self_eq_true fn.name
        have n1:=nF (show ((fn.ps.length:Nat):Int)=fn.ps.length from rfl)
        obtain⟨u0,u1,u2,-,hul⟩:=blk3 HX3.out
        obtain⟨v0,v1,v2,-,hvl⟩:=blk3 HY3.out
        go_wp2_with fail
        refine(zfx fn.body G.B G'.B G.d G'.d U HBD.out (HS.out.later HBx.out) (HS'.out.later HBx.out)).mono ?_
        rintro e V ⟨rfl,hb⟩
        have HX4:=Lib.hid ((hb.block _ hul).trans HX3.out)
        have HY4:=Lib.hid ((hb.block _ hvl).trans HY3.out)
        have HPm:=Lib.hid ((HPs.out.later HBx.out).later hb)
        have HPm':=Lib.hid ((HPs'.out.later HBx.out).later hb)
        have HBV:=Lib.hid (zae hb (zae HBx.out HBj.out))
        clear hb u0 u1 u2 v0 v1 v2 hul hvl HX3 HY3 n0 n1
        go_wp2_with fail
        go_loopw [10] (fun i wr=>∃q:Nat,q≤fn.ps.length∧i=.int .i64 q∧Hid (Below V.heap.size V wr)) (fun i _=>fn.ps.length-(intOf i).toNat)
        case atStart=>exact⟨0,Nat.zero_le _,rfl,Below.refl _ _⟩
        case round =>
         obtain⟨q,hq,rfl,HBq⟩:=hrel
         obtain⟨-,u1,-,-,hul⟩:=blk3 ((HBq.out.block _ (lt_of_block HX4.out)).trans HX4.out)
         obtain⟨-,v1,-,-,hvl⟩:=blk3 ((HBq.out.block _ (lt_of_block HY4.out)).trans HY4.out)
         by_cases hql:q<fn.ps.length
         ·
          obtain⟨ba,oa,hA,-,m0,m1⟩:=(HPm.out.later HBq.out) q hql
          obtain⟨ba',oa',hA',-,m0',m1'⟩:=(HPm'.out.later HBq.out) q hql
          rw[hA] at u1
          rw[hA'] at v1
          generalize fn.ps[q]=pm at *
          have i2:(0:Int)≤(q:Int):=by omega
          have i3:(q:Int)<(fn.ps.length:Int):=by omega
          have djl:decide ((q:Int)<(fn.ps.length:Int))=true:=decide_eq_true (by omega)
          clear hA hA'
          go_wp2_with fail
          go_region
          all_goals
           go_wp2_with fail
           go_roundw
           case rel=>exact⟨q+1,by omega,by go_num,HBq.out.drew⟩
           case measure=>simp[intOf];omega
         ·
          have djl:decide ((q:Int)<(fn.ps.length:Int))=false:=decide_eq_false (by omega)
          go_wp2_with fail
          go_roundw
          case rel=>exact⟨j+1,by omega,by go_num,zae HBq.out HBV.out⟩
          case measure=>simp[intOf];omega
       ·
        obtain⟨U,hU⟩:∃U,U=((wr.alloc (.cells #[.string ⟨fn.name.toArray⟩,.slice G'.A fn.ps.length G'.c,.slice G'.B fn.body.length G'.d] 58)).alloc (.cells #[.string ⟨fn.name.toArray⟩,.slice G.A fn.ps.length G.c,.slice G.B fn.body.length G.d] 58)).drew:=⟨_,rfl⟩
        obtain⟨hn1,hn2⟩:=new2 wr (.cells #[.string ⟨fn.name.toArray⟩,.slice G'.A fn.ps.length G'.c,.slice G'.B fn.body.length G'.d] 58) (.cells #[.string ⟨fn.name.toArray⟩,.slice G.A fn.ps.length G.c,.slice G.B fn.body.length G.d] 58)
        have HX3:Hid (U.heap[wr.heap.size+1]?=some (.cells #[.string ⟨fn.name.toArray⟩,.slice G.A fn.ps.length G.c,.slice G.B fn.body.length G.d] 58 (0,0))):=by rw[hU];exact hn2
        have HY3:Hid (U.heap[wr.heap.size]?=some (.cells #[.string ⟨fn.name.toArray⟩,.slice G'.A fn.ps.length G'.c,.slice G'.B fn.body.length G'.d] 58 (0,0))):=by rw[hU];exact hn1
        have HBx:Hid (Below wr.heap.size wr U):=by rw[hU];exact(((Below.refl _ _).alloc (Nat.le_refl _) _).alloc (by simp) _).drew
        rw[←hU]
        clear hU hn1 hn2 a0 a1 a2 e0 e1 e2 x2 y2
        obtain⟨bx,hbx⟩:∃x,x=wr.heap.size+1:=⟨_,rfl⟩
        obtain⟨by_,hby⟩:∃x,x=wr.heap.size:=⟨_,rfl⟩
        rw[←hbx] at HX3 ⊢
        rw[←hby] at HY3 ⊢
        clear hbx hby
        have n0:(fn.name==fn.name)=true:=beq_self_eq_true fn.name
        have n1:=nF (show ((fn.ps.length:Nat):Int)=fn.ps.length from rfl)
        obtain⟨u0,u1,u2,-,hul⟩:=blk3 HX3.out
        obtain⟨v0,v1,v2,-,hvl⟩:=blk3 HY3.out
        go_wp2_with fail
        refine(zfx fn.body G.B G'.B G.d G'.d U HBD.out (HS.out.later HBx.out) (HS'.out.later HBx.out)).mono ?_
        rintro e V ⟨rfl,hb⟩
        have HX4:=Lib.hid ((hb.block _ hul).trans HX3.out)
        have HY4:=Lib.hid ((hb.block _ hvl).trans HY3.out)
        have HPm:=Lib.hid ((HPs.out.later HBx.out).later hb)
        have HPm':=Lib.hid ((HPs'.out.later HBx.out).later hb)
        have HBV:=Lib.hid (zae hb (zae HBx.out HBj.out))
        clear hb u0 u1 u2 v0 v1 v2 hul hvl HX3 HY3 n0 n1
        go_wp2_with fail
        go_loopw [10] (fun i wr=>∃q:Nat,q≤fn.ps.length∧i=.int .i64 q∧Hid (Below V.heap.size V wr)) (fun i _=>fn.ps.length-(intOf i).toNat)
        case atStart=>exact⟨0,Nat.zero_le _,rfl,Below.refl _ _⟩
        case round =>
         obtain⟨q,hq,rfl,HBq⟩:=hrel
         obtain⟨-,u1,-,-,hul⟩:=blk3 ((HBq.out.block _ (lt_of_block HX4.out)).trans HX4.out)
         obtain⟨-,v1,-,-,hvl⟩:=blk3 ((HBq.out.block _ (lt_of_block HY4.out)).trans HY4.out)
         by_cases hql:q<fn.ps.length
         ·
          obtain⟨ba,oa,hA,-,m0,m1⟩:=(HPm.out.later HBq.out) q hql
          obtain⟨ba',oa',hA',-,m0',m1'⟩:=(HPm'.out.later HBq.out) q hql
          rw[hA] at u1
          rw[hA'] at v1
          generalize fn.ps[q]=pm at *
          have i2:(0:Int)≤(q:Int):=by omega
          have i3:(q:Int)<(fn.ps.length:Int):=by omega
          have djl:decide ((q:Int)<(fn.ps.length:Int))=true:=decide_eq_true (by omega)
          clear hA hA'
          go_wp2_with fail
          go_region
          all_goals
           go_wp2_with fail
           go_roundw
           case rel=>exact⟨q+1,by omega,by go_num,HBq.out.drew⟩
           case measure=>simp[intOf];omega
         ·
          have djl:decide ((q:Int)<(fn.ps.length:Int))=false:=decide_eq_false (by omega)
          go_wp2_with fail
          go_roundw
          case rel=>exact⟨j+1,by omega,by go_num,zae HBq.out HBV.out⟩
          case measure=>simp[intOf];omega
      ·
       have dlt:decide ((j:Int)<(p.fs.length:Int))=false:=decide_eq_false (by omega)
       go_wp2_with fail
       go_ret
       exact⟨rfl,zae HBj.out HBW.out⟩
end Go.Proofs.YtlnbmmgbfgmboaaDoor
