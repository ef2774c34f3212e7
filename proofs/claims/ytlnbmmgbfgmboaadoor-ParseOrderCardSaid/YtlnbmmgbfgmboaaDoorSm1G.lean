import Derived.Test.YtlnbmmgbfgmboaaDoorQ20
import Derived.Test.YtlnbmmgbfgmboaaDoorQ8
namespace Go.Proofs.YtlnbmmgbfgmboaaDoor
open Go.RowKit
theorem ArsM.later {w w':World} {l:List Ar} {A:Option Addr} (h:ArsM w (fun _=>True) l A) (hb:Below w.heap.size w w'):ArsM w' (fun _=>True) l A:=h.keep fun b _ hl=>hb.block b hl
theorem St.eta (s:St):∃e,s=.mk s.kind s.name e s.rf s.ars s.thn s.els:=by
 cases s with
 | mk k n e r a t f=>exact⟨e,rfl⟩
structure StP2 (w:World) (s:St) (e:Ex) (G:SG):Prop where
 e:ExM w (fun _=>True) e G.f
 r:IdxM w (fun _=>True) s.rf.idx G.rA G.rn
 a:ArsM w (fun _=>True) s.ars G.aA
 t:StsM w (fun _=>True) s.thn G.tA
 l:StsM w (fun _=>True) s.els G.eA
theorem StM.parts {w:World} {s:St} {e:Ex} {G:SG} (h:StM w (fun _=>True) (.mk s.kind s.name e s.rf s.ars s.thn s.els) G):StP2 w s e G:=by
 cases h with
 | mk _ _ _ _ _ _ _ _ T E he hr ha htc hts hec hes=>exact⟨he,hr,ha,⟨T,htc,hts⟩,⟨E,hec,hes⟩⟩
theorem StP2.later {w w':World} {s:St} {e:Ex} {G:SG} (h:StP2 w s e G) (hb:Below w.heap.size w w'):StP2 w' s e G :=
 ⟨h.e.later hb,h.r.later hb,h.a.later hb,h.t.later hb,h.l.later hb⟩
structure StB2 (s:St) (e:Ex):Prop where
 e:ExB e
 r:RfB s.rf
 al:s.ars.length≤1000000
 a:∀x∈s.ars,ArB x
 t:StsB s.thn
 l:StsB s.els
theorem StB.parts {s:St} {e:Ex} (h:StB (.mk s.kind s.name e s.rf s.ars s.thn s.els)):StB2 s e:=by
 cases h with
 | mk _ _ _ _ _ _ _ he hr hal ha htl ht hel hs=>exact⟨he,hr,hal,ha,⟨htl,ht⟩,⟨hel,hs⟩⟩
theorem st_size (s:St) (e:Ex) (h:s=.mk s.kind s.name e s.rf s.ars s.thn s.els):SizeOf.sizeOf s.thn<SizeOf.sizeOf s∧SizeOf.sizeOf s.els<SizeOf.sizeOf s:=by
 cases s with
 | mk k n e r a t f =>
  constructor
  ·
   show SizeOf.sizeOf t<SizeOf.sizeOf (St.mk k n e r a t f)
   simp
   omega
  ·
   show SizeOf.sizeOf f<SizeOf.sizeOf (St.mk k n e r a t f)
   simp
   omega
set_option maxRecDepth 100000 in
set_option maxHeartbeats 8000000 in
theorem zhy (N:Nat):∀(l:List St) (A A':Option Addr) (c c':Nat) (w:World),SizeOf.sizeOf l<N→StsB l→StsM w (fun _=>True) l A→StsM w (fun _=>True) l A' →
  Calls Tryd.prog 20 #[.slice A l.length c,.slice A' l.length c'] w fun e w'=>e=.returned (.bool true)∧Below w.heap.size w w':=by
 induction N with
 | zero=>intro l A A' c c' w h;omega
 | succ N ih =>
  intro l A A' c c' w hN hB hM hM'
  have IH:=Lib.hid ih
  have HM:=Lib.hid hM
  have HM':=Lib.hid hM'
  have HB:=Lib.hid hB.2
  have hlen:=hB.1
  have HSZ:=Lib.hid (fun i (h:i<l.length)=>Nat.lt_of_lt_of_le (zg9 l i h) (Nat.le_of_lt_succ hN))
  have n3:=nF (show ((l.length:Nat):Int)=l.length from rfl)
  clear ih hM hM' hB hN
  go_enter Tryd.func20,Tryd.ntmps20
  go_wp2_with fail
  clear n3
  go_loopw [5] (fun i wr=>∃k:Nat,k≤l.length∧i=.int .i64 k∧Hid (Below w.heap.size w wr)) (fun i _=>l.length-(intOf i).toNat)
  case atStart=>exact⟨0,Nat.zero_le _,rfl,Below.refl _ _⟩
  case round =>
   obtain⟨k,hk,rfl,HBW⟩:=hrel
   by_cases hlt:k<l.length
   ·
    obtain⟨F,hc,hs⟩:=HM.out.later HBW.out
    obtain⟨F',hc',hs'⟩:=HM'.out.later HBW.out
    obtain⟨b,off,hAe,-,hat⟩:=hc k hlt
    obtain⟨b',off',hAe',-,hat'⟩:=hc' k hlt
    have hst:=hs k hlt
    have hst':=hs' k hlt
    have hSB:=HB.out l[k] (List.getElem_mem hlt)
    have hsz:=HSZ.out k hlt
    generalize l[k]=s at *
    generalize F k=G at *
    generalize F' k=G' at *
    subst hAe hAe'
    obtain⟨ex,hex⟩:=St.eta s
    obtain⟨zt,ze⟩:=st_size s ex hex
    have HZT:Hid (SizeOf.sizeOf s.thn<N):=by show _<_;omega
    have HZE:Hid (SizeOf.sizeOf s.els<N):=by show _<_;omega
    rw[hex] at hst hst' hSB
    have HP:=Lib.hid hst.parts
    have HP':=Lib.hid hst'.parts
    have HSB:=Lib.hid hSB.parts
    have har:=HSB.out.al
    have hbl:=hat.lt
    have hbl':=hat'.lt
    have hb1:b≠wr.heap.size:=by omega
    have hb2:b≠wr.heap.size+1:=by omega
    have hb3:b'≠wr.heap.size:=by omega
    have hb4:b'≠wr.heap.size+1:=by omega
    obtain⟨a0,a1,a2,a3,a4,a5,a6,a7,a8,a9,a10⟩:=hat
    obtain⟨e0,e1,e2,e3,e4,e5,e6,e7,e8,e9,e10⟩:=hat'
    have i0:(0:Int)≤(k:Int):=by omega
    have i1:(k:Int)<(l.length:Int):=by omega
    have dlt:decide ((k:Int)<(l.length:Int))=true:=decide_eq_true (by omega)
    clear hc hs hc' hs' hst hst' hSB hsz hex zt ze
    go_wp2_with fail
    go_region
    ·
     obtain⟨W,hW⟩:∃W,W=((wr.alloc (.cells #[.int .i64 s.kind,.string ⟨s.name.toArray⟩,.int .i64 G.f.op,.int .i64 G.f.num,.string ⟨G.f.name.toArray⟩,.slice G.f.A G.f.n G.f.c,.string ⟨s.rf.name.toArray⟩,.slice G.rA G.rn G.rc,.slice G.aA s.ars.length G.ac,.slice G.tA s.thn.length G.tc,.slice G.eA s.els.length G.ec] 81)).alloc (.cells #[.int .i64 s.kind,.string ⟨s.name.toArray⟩,.int .i64 G'.f.op,.int .i64 G'.f.num,.string ⟨G'.f.name.toArray⟩,.slice G'.f.A G'.f.n G'.f.c,.string ⟨s.rf.name.toArray⟩,.slice G'.rA G'.rn G'.rc,.slice G'.aA s.ars.length G'.ac,.slice G'.tA s.thn.length G'.tc,.slice G'.eA s.els.length G'.ec] 81)).drew:=⟨_,rfl⟩
     obtain⟨hn1,hn2⟩:=new2 wr (.cells #[.int .i64 s.kind,.string ⟨s.name.toArray⟩,.int .i64 G.f.op,.int .i64 G.f.num,.string ⟨G.f.name.toArray⟩,.slice G.f.A G.f.n G.f.c,.string ⟨s.rf.name.toArray⟩,.slice G.rA G.rn G.rc,.slice G.aA s.ars.length G.ac,.slice G.tA s.thn.length G.tc,.slice G.eA s.els.length G.ec] 81) (.cells #[.int .i64 s.kind,.string ⟨s.name.toArray⟩,.int .i64 G'.f.op,.int .i64 G'.f.num,.string ⟨G'.f.name.toArray⟩,.slice G'.f.A G'.f.n G'.f.c,.string ⟨s.rf.name.toArray⟩,.slice G'.rA G'.rn G'.rc,.slice G'.aA s.ars.length G'.ac,.slice G'.tA s.thn.length G'.tc,.slice G'.eA s.els.length G'.ec] 81)
     have HX:Hid (W.heap[wr.heap.size]?=some (.cells #[.int .i64 s.kind,.string ⟨s.name.toArray⟩,.int .i64 G.f.op,.int .i64 G.f.num,.string ⟨G.f.name.toArray⟩,.slice G.f.A G.f.n G.f.c,.string ⟨s.rf.name.toArray⟩,.slice G.rA G.rn G.rc,.slice G.aA s.ars.length G.ac,.slice G.tA s.thn.length G.tc,.slice G.eA s.els.length G.ec] 81 (0,0))):=by rw[hW];exact hn1
     have HY:Hid (W.heap[wr.heap.size+1]?=some (.cells #[.int .i64 s.kind,.string ⟨s.name.toArray⟩,.int .i64 G'.f.op,.int .i64 G'.f.num,.string ⟨G'.f.name.toArray⟩,.slice G'.f.A G'.f.n G'.f.c,.string ⟨s.rf.name.toArray⟩,.slice G'.rA G'.rn G'.rc,.slice G'.aA s.ars.length G'.ac,.slice G'.tA s.thn.length G'.tc,.slice G'.eA s.els.length G'.ec] 81 (0,0))):=by rw[hW];exact hn2
     have HBx:Hid (Below wr.heap.size wr W):=by rw[hW];exact(((Below.refl _ _).alloc (Nat.le_refl _) _).alloc (by simp) _).drew
     rw[←hW]
     clear hW hn1 hn2 a0 a1 a2 a3 a4 a5 a6 a7 a8 a9 a10 e0 e1 e2 e3 e4 e5 e6 e7 e8 e9 e10
     obtain⟨bx,hbx⟩:∃x,x=wr.heap.size:=⟨_,rfl⟩
     obtain⟨by_,hby⟩:∃x,x=wr.heap.size+1:=⟨_,rfl⟩
     rw[←hby] at HY ⊢
     rw[←hbx] at HX ⊢
     clear hbx hby
     have n0:=nF (show s.kind=s.kind from rfl)
     have n1:(s.name==s.name)=true:=beq_self_eq_true s.name
     have n2:=nF (show ((s.ars.length:Nat):Int)=s.ars.length from rfl)
     obtain⟨x0,x1,x2,x3,x4,x5,x6,x7,x8,x9,x10,-,hxl⟩:=zah HX.out
     obtain⟨y0,y1,y2,y3,y4,y5,y6,y7,y8,y9,y10,-,hyl⟩:=zah HY.out
     go_wp2_with fail
     refine(zcC ex G.f G'.f W HSB.out.e (HP.out.e.later HBx.out) (HP'.out.e.later HBx.out)).mono ?_
     rintro e wv1 ⟨rfl,hb⟩
     have HXc1:=Lib.hid ((hb.block _ hxl).trans HX.out)
     have HYc1:=Lib.hid ((hb.block _ hyl).trans HY.out)
     have HBxc1:=Lib.hid (zae hb HBx.out)
     clear hb
     clear x0 x1 x2 x3 x4 x5 x6 x7 x8 x9 x10 y0 y1 y2 y3 y4 y5 y6 y7 y8 y9 y10 hxl hyl
     clear HX HY HBx
     obtain⟨x0,x1,x2,x3,x4,x5,x6,x7,x8,x9,x10,-,hxl⟩:=zah HXc1.out
     obtain⟨y0,y1,y2,y3,y4,y5,y6,y7,y8,y9,y10,-,hyl⟩:=zah HYc1.out
     go_wp2_with fail
     refine(zdg s.rf G.rA G'.rA G.rn G'.rn G.rc G'.rc wv1 HSB.out.r (HP.out.r.later HBxc1.out) (HP'.out.r.later HBxc1.out)).mono ?_
     rintro e wv2 ⟨rfl,hb⟩
     have HXc2:=Lib.hid ((hb.block _ hxl).trans HXc1.out)
     have HYc2:=Lib.hid ((hb.block _ hyl).trans HYc1.out)
     have HBxc2:=Lib.hid (zae hb HBxc1.out)
     clear hb
     clear x0 x1 x2 x3 x4 x5 x6 x7 x8 x9 x10 y0 y1 y2 y3 y4 y5 y6 y7 y8 y9 y10 hxl hyl
     clear HXc1 HYc1 HBxc1
     obtain⟨x0,x1,x2,x3,x4,x5,x6,x7,x8,x9,x10,-,hxl⟩:=zah HXc2.out
     obtain⟨y0,y1,y2,y3,y4,y5,y6,y7,y8,y9,y10,-,hyl⟩:=zah HYc2.out
     go_wp2_with fail
     refine(IH.out s.thn G.tA G'.tA G.tc G'.tc wv2 HZT.out HSB.out.t (HP.out.t.later HBxc2.out) (HP'.out.t.later HBxc2.out)).mono ?_
     rintro e wv3 ⟨rfl,hb⟩
     have HXc3:=Lib.hid ((hb.block _ hxl).trans HXc2.out)
     have HYc3:=Lib.hid ((hb.block _ hyl).trans HYc2.out)
     have HBxc3:=Lib.hid (zae hb HBxc2.out)
     clear hb
     clear x0 x1 x2 x3 x4 x5 x6 x7 x8 x9 x10 y0 y1 y2 y3 y4 y5 y6 y7 y8 y9 y10 hxl hyl
     clear HXc2 HYc2 HBxc2
     obtain⟨x0,x1,x2,x3,x4,x5,x6,x7,x8,x9,x10,-,hxl⟩:=zah HXc3.out
     obtain⟨y0,y1,y2,y3,y4,y5,y6,y7,y8,y9,y10,-,hyl⟩:=zah HYc3.out
     go_wp2_with fail
     refine(IH.out s.els G.eA G'.eA G.ec G'.ec wv3 HZE.out HSB.out.l (HP.out.l.later HBxc3.out) (HP'.out.l.later HBxc3.out)).mono ?_
     rintro e wv4 ⟨rfl,hb⟩
     have HXc4:=Lib.hid ((hb.block _ hxl).trans HXc3.out)
     have HYc4:=Lib.hid ((hb.block _ hyl).trans HYc3.out)
     have HBxc4:=Lib.hid (zae hb HBxc3.out)
     clear hb
     clear x0 x1 x2 x3 x4 x5 x6 x7 x8 x9 x10 y0 y1 y2 y3 y4 y5 y6 y7 y8 y9 y10 hxl hyl
     clear HXc3 HYc3 HBxc3
     obtain⟨x0,x1,x2,x3,x4,x5,x6,x7,x8,x9,x10,-,hxl⟩:=zah HXc4.out
     obtain⟨y0,y1,y2,y3,y4,y5,y6,y7,y8,y9,y10,-,hyl⟩:=zah HYc4.out
     clear n0 n1 n2
     have HPa:=Lib.hid (HP.out.a.later HBxc4.out)
     have HPa':=Lib.hid (HP'.out.a.later HBxc4.out)
     have HAB:=Lib.hid HSB.out.a
     have HBV:=Lib.hid (zae HBxc4.out HBW.out)
     clear HP HP' HSB HBxc4
     clear x0 x1 x2 x3 x4 x5 x6 x7 x8 x9 x10 y0 y1 y2 y3 y4 y5 y6 y7 y8 y9 y10 hxl hyl
     generalize wv4=V at *
     go_wp2_with fail
     go_loopw [8] (fun i wr'=>∃j:Nat,j≤s.ars.length∧i=.int .i64 j∧Hid (Below V.heap.size V wr')) (fun i _=>s.ars.length-(intOf i).toNat)
     case atStart=>exact⟨0,Nat.zero_le _,rfl,Below.refl _ _⟩
     case round =>
      obtain⟨j,hj,rfl,HBj⟩:=hrel
      obtain⟨-,-,-,-,-,-,-,-,x8,-,-,-,hxl⟩:=zah ((HBj.out.block bx (lt_of_block HXc4.out)).trans HXc4.out)
      obtain⟨-,-,-,-,-,-,-,-,y8,-,-,-,hyl⟩:=zah ((HBj.out.block by_ (lt_of_block HYc4.out)).trans HYc4.out)
      by_cases hjl:j<s.ars.length
      ·
       obtain⟨ba,oa,hA,-,A1,n1,c1,f1,m0,m1,m2,hI,hat,hE⟩:=(HPa.out.later HBj.out) j hjl
       obtain⟨ba',oa',hA',-,A2,n2,c2,f2,m0',m1',m2',hI',hat',hE'⟩:=(HPa'.out.later HBj.out) j hjl
       have hAB:=HAB.out s.ars[j] (List.getElem_mem hjl)
       generalize s.ars[j]=ar at *
       rw[hA] at x8
       rw[hA'] at y8
       have m2b:wr.cell? ⟨ba,oa+j*7+2,none⟩=some (.slice A1 n1 c1):=m2
       have m2b':wr.cell? ⟨ba',oa'+j*7+2,none⟩=some (.slice A2 n2 c2):=m2'
       have m3:wr.cell? ⟨ba,oa+j*7+3,none⟩=some (.int .i64 f1.op):=hat.1
       have m4:wr.cell? ⟨ba,oa+j*7+4,none⟩=some (.int .i64 f1.num):=hat.2.1
       have m5:wr.cell? ⟨ba,oa+j*7+5,none⟩=some (.string ⟨f1.name.toArray⟩):=hat.2.2.1
       have m6:wr.cell? ⟨ba,oa+j*7+6,none⟩=some (.slice f1.A f1.n f1.c):=hat.2.2.2
       have m3':wr.cell? ⟨ba',oa'+j*7+3,none⟩=some (.int .i64 f2.op):=hat'.1
       have m4':wr.cell? ⟨ba',oa'+j*7+4,none⟩=some (.int .i64 f2.num):=hat'.2.1
       have m5':wr.cell? ⟨ba',oa'+j*7+5,none⟩=some (.string ⟨f2.name.toArray⟩):=hat'.2.2.1
       have m6':wr.cell? ⟨ba',oa'+j*7+6,none⟩=some (.slice f2.A f2.n f2.c):=hat'.2.2.2
       clear m2 m2' hat hat'
       have HI:=Lib.hid hI
       have HI':=Lib.hid hI'
       have HE:=Lib.hid hE
       have HE':=Lib.hid hE'
       have HR:=Lib.hid hAB.1
       have HEB:=Lib.hid hAB.2
       have z0:(ar.m != ar.m)=false:=by simp
       have i2:(0:Int)≤(j:Int):=by omega
       have i3:(j:Int)<(s.ars.length:Int):=by omega
       have djl:decide ((j:Int)<(s.ars.length:Int))=true:=decide_eq_true (by omega)
       clear hI hI' hE hE' hAB hA hA'
       go_wp2_with fail
       go_region_held3 (fun w'=>w'.cell? ⟨bx,8,none⟩=some (.slice (some ⟨ba,oa,none⟩) s.ars.length G.ac)∧w'.cell? ⟨by_,8,none⟩=some (.slice (some ⟨ba',oa',none⟩) s.ars.length G'.ac)∧w'.cell? ⟨ba,oa+j*7,none⟩=some (.bool ar.m)∧w'.cell? ⟨ba,oa+j*7+1,none⟩=some (.string ⟨ar.r.name.toArray⟩)∧w'.cell? ⟨ba,oa+j*7+2,none⟩=some (.slice A1 n1 c1)∧w'.cell? ⟨ba,oa+j*7+3,none⟩=some (.int .i64 f1.op)∧w'.cell? ⟨ba,oa+j*7+4,none⟩=some (.int .i64 f1.num)∧w'.cell? ⟨ba,oa+j*7+5,none⟩=some (.string ⟨f1.name.toArray⟩)∧w'.cell? ⟨ba,oa+j*7+6,none⟩=some (.slice f1.A f1.n f1.c)∧w'.cell? ⟨ba',oa'+j*7,none⟩=some (.bool ar.m)∧w'.cell? ⟨ba',oa'+j*7+1,none⟩=some (.string ⟨ar.r.name.toArray⟩)∧w'.cell? ⟨ba',oa'+j*7+2,none⟩=some (.slice A2 n2 c2)∧w'.cell? ⟨ba',oa'+j*7+3,none⟩=some (.int .i64 f2.op)∧w'.cell? ⟨ba',oa'+j*7+4,none⟩=some (.int .i64 f2.num)∧w'.cell? ⟨ba',oa'+j*7+5,none⟩=some (.string ⟨f2.name.toArray⟩)∧w'.cell? ⟨ba',oa'+j*7+6,none⟩=some (.slice f2.A f2.n f2.c))
        (go_keep)
        (first
         | (go_at_call 45;obtain⟨k0,k1,k2,k3,k4,k5,k6,k7,k8,k9,k10,k11,k12,k13,k14,k15⟩:=‹_∧_∧_∧_∧_∧_∧_∧_∧_∧_∧_∧_∧_∧_∧_∧World.cell? _ ⟨ba',oa'+j*7+6,none⟩=_›;refine(zdg ar.r A1 A2 n1 n2 c1 c2 wr.drew HR.out (HI.out.keep fun _ _ _=>rfl) (HI'.out.keep fun _ _ _=>rfl)).mono ?_;rintro e w3 ⟨rfl,hb3⟩;have r0:=cell_later hb3 k0;have r1:=cell_later hb3 k1;have r2:=cell_later hb3 k2;have r3:=cell_later hb3 k3;have r4:=cell_later hb3 k4;have r5:=cell_later hb3 k5;have r6:=cell_later hb3 k6;have r7:=cell_later hb3 k7;have r8:=cell_later hb3 k8;have r9:=cell_later hb3 k9;have r10:=cell_later hb3 k10;have r11:=cell_later hb3 k11;have r12:=cell_later hb3 k12;have r13:=cell_later hb3 k13;have r14:=cell_later hb3 k14;have r15:=cell_later hb3 k15;have HB3:=Lib.hid hb3;clear k0 k1 k2 k3 k4 k5 k6 k7 k8 k9 k10 k11 k12 k13 k14 k15 hb3)
         | (go_at_call 44;obtain⟨k0,k1,k2,k3,k4,k5,k6,k7,k8,k9,k10,k11,k12,k13,k14,k15⟩:=‹_∧_∧_∧_∧_∧_∧_∧_∧_∧_∧_∧_∧_∧_∧_∧World.cell? w3 ⟨ba',oa'+j*7+6,none⟩=_›;refine(zcC ar.e f1 f2 w3 HEB.out ((HE.out.keep (w':=wr.drew) fun _ _ _=>rfl).later HB3.out) ((HE'.out.keep (w':=wr.drew) fun _ _ _=>rfl).later HB3.out)).mono ?_;rintro e w4 ⟨rfl,hb4⟩;have s0:=cell_later hb4 k0;have s1:=cell_later hb4 k1;have s2:=cell_later hb4 k2;have s3:=cell_later hb4 k3;have s4:=cell_later hb4 k4;have s5:=cell_later hb4 k5;have s6:=cell_later hb4 k6;have s7:=cell_later hb4 k7;have s8:=cell_later hb4 k8;have s9:=cell_later hb4 k9;have s10:=cell_later hb4 k10;have s11:=cell_later hb4 k11;have s12:=cell_later hb4 k12;have s13:=cell_later hb4 k13;have s14:=cell_later hb4 k14;have s15:=cell_later hb4 k15;have HB4:=Lib.hid hb4;clear k0 k1 k2 k3 k4 k5 k6 k7 k8 k9 k10 k11 k12 k13 k14 k15 hb4))
       all_goals
        clear r0 s0 r1 s1 r2 s2 r3 s3 r4 s4 r5 s5 r6 s6 r7 s7 r8 s8 r9 s9 r10 s10 r11 s11 r12 s12 r13 s13 r14 s14 r15 s15
        go_wp2_with fail
        go_roundw
        case rel =>
         refine⟨j+1,by omega,by go_num,?_⟩
         exact zae HB4.out (zae HB3.out HBj.out.drew)
        case measure=>simp[intOf];omega
      ·
       have djl:decide ((j:Int)<(s.ars.length:Int))=false:=decide_eq_false (by omega)
       go_wp2_with fail
       go_roundw
       case rel=>exact⟨k+1,by omega,by go_num,zae HBj.out HBV.out⟩
       case measure=>simp[intOf];omega
    ·
     obtain⟨W,hW⟩:∃W,W=((wr.alloc (.cells #[.int .i64 s.kind,.string ⟨s.name.toArray⟩,.int .i64 G'.f.op,.int .i64 G'.f.num,.string ⟨G'.f.name.toArray⟩,.slice G'.f.A G'.f.n G'.f.c,.string ⟨s.rf.name.toArray⟩,.slice G'.rA G'.rn G'.rc,.slice G'.aA s.ars.length G'.ac,.slice G'.tA s.thn.length G'.tc,.slice G'.eA s.els.length G'.ec] 81)).alloc (.cells #[.int .i64 s.kind,.string ⟨s.name.toArray⟩,.int .i64 G.f.op,.int .i64 G.f.num,.string ⟨G.f.name.toArray⟩,.slice G.f.A G.f.n G.f.c,.string ⟨s.rf.name.toArray⟩,.slice G.rA G.rn G.rc,.slice G.aA s.ars.length G.ac,.slice G.tA s.thn.length G.tc,.slice G.eA s.els.length G.ec] 81)).drew:=⟨_,rfl⟩
     obtain⟨hn1,hn2⟩:=new2 wr (.cells #[.int .i64 s.kind,.string ⟨s.name.toArray⟩,.int .i64 G'.f.op,.int .i64 G'.f.num,.string ⟨G'.f.name.toArray⟩,.slice G'.f.A G'.f.n G'.f.c,.string ⟨s.rf.name.toArray⟩,.slice G'.rA G'.rn G'.rc,.slice G'.aA s.ars.length G'.ac,.slice G'.tA s.thn.length G'.tc,.slice G'.eA s.els.length G'.ec] 81) (.cells #[.int .i64 s.kind,.string ⟨s.name.toArray⟩,.int .i64 G.f.op,.int .i64 G.f.num,.string ⟨G.f.name.toArray⟩,.slice G.f.A G.f.n G.f.c,.string ⟨s.rf.name.toArray⟩,.slice G.rA G.rn G.rc,.slice G.aA s.ars.length G.ac,.slice G.tA s.thn.length G.tc,.slice G.eA s.els.length G.ec] 81)
     have HX:Hid (W.heap[wr.heap.size+1]?=some (.cells #[.int .i64 s.kind,.string ⟨s.name.toArray⟩,.int .i64 G.f.op,.int .i64 G.f.num,.string ⟨G.f.name.toArray⟩,.slice G.f.A G.f.n G.f.c,.string ⟨s.rf.name.toArray⟩,.slice G.rA G.rn G.rc,.slice G.aA s.ars.length G.ac,.slice G.tA s.thn.length G.tc,.slice G.eA s.els.length G.ec] 81 (0,0))):=by rw[hW];exact hn2
     have HY:Hid (W.heap[wr.heap.size]?=some (.cells #[.int .i64 s.kind,.string ⟨s.name.toArray⟩,.int .i64 G'.f.op,.int .i64 G'.f.num,.string ⟨G'.f.name.toArray⟩,.slice G'.f.A G'.f.n G'.f.c,.string ⟨s.rf.name.toArray⟩,.slice G'.rA G'.rn G'.rc,.slice G'.aA s.ars.length G'.ac,.slice G'.tA s.thn.length G'.tc,.slice G'.eA s.els.length G'.ec] 81 (0,0))):=by rw[hW];exact hn1
     have HBx:Hid (Below wr.heap.size wr W):=by rw[hW];exact(((Below.refl _ _).alloc (Nat.le_refl _) _).alloc (by simp) _).drew
     rw[←hW]
     clear hW hn1 hn2 a0 a1 a2 a3 a4 a5 a6 a7 a8 a9 a10 e0 e1 e2 e3 e4 e5 e6 e7 e8 e9 e10
     obtain⟨bx,hbx⟩:∃x,x=wr.heap.size+1:=⟨_,rfl⟩
     obtain⟨by_,hby⟩:∃x,x=wr.heap.size:=⟨_,rfl⟩
     rw[←hbx] at HX ⊢
     rw[←hby] at HY ⊢
     clear hbx hby
     have n0:=nF (show s.kind=s.kind from rfl)
     have n1:(s.name==s.name)=true:=beq_self_eq_true s.name
     have n2:=nF (show ((s.ars.length:Nat):Int)=s.ars.length from rfl)
     obtain⟨x0,x1,x2,x3,x4,x5,x6,x7,x8,x9,x10,-,hxl⟩:=zah HX.out
     obtain⟨y0,y1,y2,y3,y4,y5,y6,y7,y8,y9,y10,-,hyl⟩:=zah HY.out
     go_wp2_with fail
     refine(zcC ex G.f G'.f W HSB.out.e (HP.out.e.later HBx.out) (HP'.out.e.later HBx.out)).mono ?_
     rintro e wv1 ⟨rfl,hb⟩
     have HXc1:=Lib.hid ((hb.block _ hxl).trans HX.out)
     have HYc1:=Lib.hid ((hb.block _ hyl).trans HY.out)
     have HBxc1:=Lib.hid (zae hb HBx.out)
     clear hb
     clear x0 x1 x2 x3 x4 x5 x6 x7 x8 x9 x10 y0 y1 y2 y3 y4 y5 y6 y7 y8 y9 y10 hxl hyl
     clear HX HY HBx
     obtain⟨x0,x1,x2,x3,x4,x5,x6,x7,x8,x9,x10,-,hxl⟩:=zah HXc1.out
     obtain⟨y0,y1,y2,y3,y4,y5,y6,y7,y8,y9,y10,-,hyl⟩:=zah HYc1.out
     go_wp2_with fail
     refine(zdg s.rf G.rA G'.rA G.rn G'.rn G.rc G'.rc wv1 HSB.out.r (HP.out.r.later HBxc1.out) (HP'.out.r.later HBxc1.out)).mono ?_
     rintro e wv2 ⟨rfl,hb⟩
     have HXc2:=Lib.hid ((hb.block _ hxl).trans HXc1.out)
     have HYc2:=Lib.hid ((hb.block _ hyl).trans HYc1.out)
     have HBxc2:=Lib.hid (zae hb HBxc1.out)
     clear hb
     clear x0 x1 x2 x3 x4 x5 x6 x7 x8 x9 x10 y0 y1 y2 y3 y4 y5 y6 y7 y8 y9 y10 hxl hyl
     clear HXc1 HYc1 HBxc1
     obtain⟨x0,x1,x2,x3,x4,x5,x6,x7,x8,x9,x10,-,hxl⟩:=zah HXc2.out
     obtain⟨y0,y1,y2,y3,y4,y5,y6,y7,y8,y9,y10,-,hyl⟩:=zah HYc2.out
     go_wp2_with fail
     refine(IH.out s.thn G.tA G'.tA G.tc G'.tc wv2 HZT.out HSB.out.t (HP.out.t.later HBxc2.out) (HP'.out.t.later HBxc2.out)).mono ?_
     rintro e wv3 ⟨rfl,hb⟩
     have HXc3:=Lib.hid ((hb.block _ hxl).trans HXc2.out)
     have HYc3:=Lib.hid ((hb.block _ hyl).trans HYc2.out)
     have HBxc3:=Lib.hid (zae hb HBxc2.out)
     clear hb
     clear x0 x1 x2 x3 x4 x5 x6 x7 x8 x9 x10 y0 y1 y2 y3 y4 y5 y6 y7 y8 y9 y10 hxl hyl
     clear HXc2 HYc2 HBxc2
     obtain⟨x0,x1,x2,x3,x4,x5,x6,x7,x8,x9,x10,-,hxl⟩:=zah HXc3.out
     obtain⟨y0,y1,y2,y3,y4,y5,y6,y7,y8,y9,y10,-,hyl⟩:=zah HYc3.out
     go_wp2_with fail
     refine(IH.out s.els G.eA G'.eA G.ec G'.ec wv3 HZE.out HSB.out.l (HP.out.l.later HBxc3.out) (HP'.out.l.later HBxc3.out)).mono ?_
     rintro e wv4 ⟨rfl,hb⟩
     have HXc4:=Lib.hid ((hb.block _ hxl).trans HXc3.out)
     have HYc4:=Lib.hid ((hb.block _ hyl).trans HYc3.out)
     have HBxc4:=Lib.hid (zae hb HBxc3.out)
     clear hb
     clear x0 x1 x2 x3 x4 x5 x6 x7 x8 x9 x10 y0 y1 y2 y3 y4 y5 y6 y7 y8 y9 y10 hxl hyl
     clear HXc3 HYc3 HBxc3
     obtain⟨x0,x1,x2,x3,x4,x5,x6,x7,x8,x9,x10,-,hxl⟩:=zah HXc4.out
     obtain⟨y0,y1,y2,y3,y4,y5,y6,y7,y8,y9,y10,-,hyl⟩:=zah HYc4.out
     clear n0 n1 n2
     have HPa:=Lib.hid (HP.out.a.later HBxc4.out)
     have HPa':=Lib.hid (HP'.out.a.later HBxc4.out)
     have HAB:=Lib.hid HSB.out.a
     have HBV:=Lib.hid (zae HBxc4.out HBW.out)
     clear HP HP' HSB HBxc4
     clear x0 x1 x2 x3 x4 x5 x6 x7 x8 x9 x10 y0 y1 y2 y3 y4 y5 y6 y7 y8 y9 y10 hxl hyl
     generalize wv4=V at *
     go_wp2_with fail
     go_loopw [8] (fun i wr'=>∃j:Nat,j≤s.ars.length∧i=.int .i64 j∧Hid (Below V.heap.size V wr')) (fun i _=>s.ars.length-(intOf i).toNat)
     case atStart=>exact⟨0,Nat.zero_le _,rfl,Below.refl _ _⟩
     case round =>
      obtain⟨j,hj,rfl,HBj⟩:=hrel
      obtain⟨-,-,-,-,-,-,-,-,x8,-,-,-,hxl⟩:=zah ((HBj.out.block bx (lt_of_block HXc4.out)).trans HXc4.out)
      obtain⟨-,-,-,-,-,-,-,-,y8,-,-,-,hyl⟩:=zah ((HBj.out.block by_ (lt_of_block HYc4.out)).trans HYc4.out)
      by_cases hjl:j<s.ars.length
      ·
       obtain⟨ba,oa,hA,-,A1,n1,c1,f1,m0,m1,m2,hI,hat,hE⟩:=(HPa.out.later HBj.out) j hjl
       obtain⟨ba',oa',hA',-,A2,n2,c2,f2,m0',m1',m2',hI',hat',hE'⟩:=(HPa'.out.later HBj.out) j hjl
       have hAB:=HAB.out s.ars[j] (List.getElem_mem hjl)
       generalize s.ars[j]=ar at *
       rw[hA] at x8
       rw[hA'] at y8
       have m2b:wr.cell? ⟨ba,oa+j*7+2,none⟩=some (.slice A1 n1 c1):=m2
       have m2b':wr.cell? ⟨ba',oa'+j*7+2,none⟩=some (.slice A2 n2 c2):=m2'
       have m3:wr.cell? ⟨ba,oa+j*7+3,none⟩=some (.int .i64 f1.op):=hat.1
       have m4:wr.cell? ⟨ba,oa+j*7+4,none⟩=some (.int .i64 f1.num):=hat.2.1
       have m5:wr.cell? ⟨ba,oa+j*7+5,none⟩=some (.string ⟨f1.name.toArray⟩):=hat.2.2.1
       have m6:wr.cell? ⟨ba,oa+j*7+6,none⟩=some (.slice f1.A f1.n f1.c):=hat.2.2.2
       have m3':wr.cell? ⟨ba',oa'+j*7+3,none⟩=some (.int .i64 f2.op):=hat'.1
       have m4':wr.cell? ⟨ba',oa'+j*7+4,none⟩=some (.int .i64 f2.num):=hat'.2.1
       have m5':wr.cell? ⟨ba',oa'+j*7+5,none⟩=some (.string ⟨f2.name.toArray⟩):=hat'.2.2.1
       have m6':wr.cell? ⟨ba',oa'+j*7+6,none⟩=some (.slice f2.A f2.n f2.c):=hat'.2.2.2
       clear m2 m2' hat hat'
       have HI:=Lib.hid hI
       have HI':=Lib.hid hI'
       have HE:=Lib.hid hE
       have HE':=Lib.hid hE'
       have HR:=Lib.hid hAB.1
       have HEB:=Lib.hid hAB.2
       have z0:(ar.m != ar.m)=false:=by simp
       have i2:(0:Int)≤(j:Int):=by omega
       have i3:(j:Int)<(s.ars.length:Int):=by omega
       have djl:decide ((j:Int)<(s.ars.length:Int))=true:=decide_eq_true (by omega)
       clear hI hI' hE hE' hAB hA hA'
       go_wp2_with fail
       go_region_held3 (fun w'=>w'.cell? ⟨bx,8,none⟩=some (.slice (some ⟨ba,oa,none⟩) s.ars.length G.ac)∧w'.cell? ⟨by_,8,none⟩=some (.slice (some ⟨ba',oa',none⟩) s.ars.length G'.ac)∧w'.cell? ⟨ba,oa+j*7,none⟩=some (.bool ar.m)∧w'.cell? ⟨ba,oa+j*7+1,none⟩=some (.string ⟨ar.r.name.toArray⟩)∧w'.cell? ⟨ba,oa+j*7+2,none⟩=some (.slice A1 n1 c1)∧w'.cell? ⟨ba,oa+j*7+3,none⟩=some (.int .i64 f1.op)∧w'.cell? ⟨ba,oa+j*7+4,none⟩=some (.int .i64 f1.num)∧w'.cell? ⟨ba,oa+j*7+5,none⟩=some (.string ⟨f1.name.toArray⟩)∧w'.cell? ⟨ba,oa+j*7+6,none⟩=some (.slice f1.A f1.n f1.c)∧w'.cell? ⟨ba',oa'+j*7,none⟩=some (.bool ar.m)∧w'.cell? ⟨ba',oa'+j*7+1,none⟩=some (.string ⟨ar.r.name.toArray⟩)∧w'.cell? ⟨ba',oa'+j*7+2,none⟩=some (.slice A2 n2 c2)∧w'.cell? ⟨ba',oa'+j*7+3,none⟩=some (.int .i64 f2.op)∧w'.cell? ⟨ba',oa'+j*7+4,none⟩=some (.int .i64 f2.num)∧w'.cell? ⟨ba',oa'+j*7+5,none⟩=some (.string ⟨f2.name.toArray⟩)∧w'.cell? ⟨ba',oa'+j*7+6,none⟩=some (.slice f2.A f2.n f2.c))
        (go_keep)
        (first
         | (go_at_call 45;obtain⟨k0,k1,k2,k3,k4,k5,k6,k7,k8,k9,k10,k11,k12,k13,k14,k15⟩:=‹_∧_∧_∧_∧_∧_∧_∧_∧_∧_∧_∧_∧_∧_∧_∧World.cell? _ ⟨ba',oa'+j*7+6,none⟩=_›;refine(zdg ar.r A1 A2 n1 n2 c1 c2 wr.drew HR.out (HI.out.keep fun _ _ _=>rfl) (HI'.out.keep fun _ _ _=>rfl)).mono ?_;rintro e w3 ⟨rfl,hb3⟩;have r0:=cell_later hb3 k0;have r1:=cell_later hb3 k1;have r2:=cell_later hb3 k2;have r3:=cell_later hb3 k3;have r4:=cell_later hb3 k4;have r5:=cell_later hb3 k5;have r6:=cell_later hb3 k6;have r7:=cell_later hb3 k7;have r8:=cell_later hb3 k8;have r9:=cell_later hb3 k9;have r10:=cell_later hb3 k10;have r11:=cell_later hb3 k11;have r12:=cell_later hb3 k12;have r13:=cell_later hb3 k13;have r14:=cell_later hb3 k14;have r15:=cell_later hb3 k15;have HB3:=Lib.hid hb3;clear k0 k1 k2 k3 k4 k5 k6 k7 k8 k9 k10 k11 k12 k13 k14 k15 hb3)
         | (go_at_call 44;obtain⟨k0,k1,k2,k3,k4,k5,k6,k7,k8,k9,k10,k11,k12,k13,k14,k15⟩:=‹_∧_∧_∧_∧_∧_∧_∧_∧_∧_∧_∧_∧_∧_∧_∧World.cell? w3 ⟨ba',oa'+j*7+6,none⟩=_›;refine(zcC ar.e f1 f2 w3 HEB.out ((HE.out.keep (w':=wr.drew) fun _ _ _=>rfl).later HB3.out) ((HE'.out.keep (w':=wr.drew) fun _ _ _=>rfl).later HB3.out)).mono ?_;rintro e w4 ⟨rfl,hb4⟩;have s0:=cell_later hb4 k0;have s1:=cell_later hb4 k1;have s2:=cell_later hb4 k2;have s3:=cell_later hb4 k3;have s4:=cell_later hb4 k4;have s5:=cell_later hb4 k5;have s6:=cell_later hb4 k6;have s7:=cell_later hb4 k7;have s8:=cell_later hb4 k8;have s9:=cell_later hb4 k9;have s10:=cell_later hb4 k10;have s11:=cell_later hb4 k11;have s12:=cell_later hb4 k12;have s13:=cell_later hb4 k13;have s14:=cell_later hb4 k14;have s15:=cell_later hb4 k15;have HB4:=Lib.hid hb4;clear k0 k1 k2 k3 k4 k5 k6 k7 k8 k9 k10 k11 k12 k13 k14 k15 hb4))
       all_goals
        clear r0 s0 r1 s1 r2 s2 r3 s3 r4 s4 r5 s5 r6 s6 r7 s7 r8 s8 r9 s9 r10 s10 r11 s11 r12 s12 r13 s13 r14 s14 r15 s15
        go_wp2_with fail
        go_roundw
        case rel =>
         refine⟨j+1,by omega,by go_num,?_⟩
         exact zae HB4.out (zae HB3.out HBj.out.drew)
        case measure=>simp[intOf];omega
      ·
       have djl:decide ((j:Int)<(s.ars.length:Int))=false:=decide_eq_false (by omega)
       go_wp2_with fail
       go_roundw
       case rel=>exact⟨k+1,by omega,by go_num,zae HBj.out HBV.out⟩
       case measure=>simp[intOf];omega
   ·
    have dlt:decide ((k:Int)<(l.length:Int))=false:=decide_eq_false (by omega)
    go_wp2_with fail
    go_ret
    exact⟨rfl,HBW.out⟩
theorem zfx (l:List St) (A A':Option Addr) (c c':Nat) (w:World) (hB:StsB l) (hM:StsM w (fun _=>True) l A) (hM':StsM w (fun _=>True) l A') :
  Calls Tryd.prog 20 #[.slice A l.length c,.slice A' l.length c'] w fun e w'=>e=.returned (.bool true)∧Below w.heap.size w w' :=
 zhy (SizeOf.sizeOf l+1) l A A' c c' w (Nat.lt_succ_self _) hB hM hM'
end Go.Proofs.YtlnbmmgbfgmboaaDoor
