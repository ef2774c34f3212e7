import Derived.Test.YtlnbmmgbfgmboaaGreatDoorQa
import Derived.Test.YtlnbmmgbfgmboaaGreatDoorQ4
import Derived.Deep.RegionHeld3
import Derived.Deep.DeepCutAuto
import Derived.Test.YtlnbmmgbfgmboaaGreatDoorQ2
import Derived.Deep.AppendLies
import Derived.Deep.LoopGhost
namespace Go.Proofs.YtlnbmmgbfgmboaaGreatDoor
open Go.RowKit
def zdG (ts:List Tk.Tok) (at_:Int):Ex × Int × Nat :=
 if 0≤at_∧at_<ts.length∧Ps.kindAt ts (ts.length-1)=5 then ((Ps.PE ts 1 0 at_.toNat).ex,((Ps.PE ts 1 0 at_.toNat).at_:Int),(Ps.PE ts 1 0 at_.toNat).err) else (.mk 0 0 [] [],at_,4)
def zgc (w:World) (R:Ex × Int × Nat) (e:Ending) (w':World):Prop :=
 ∃f:EF,e=.returned (.tuple #[f.val,.int .i64 R.2.1,.int .i64 (R.2.2:Int)])∧ExM w' (w.heap.size≤·) R.1 f∧Below w.heap.size w w'
theorem zfc (w:World) (at_:Int) (W:World) (hW:Below w.heap.size w W):zgc w (.mk 0 0 [] [],at_,4) (.returned (.tuple #[.agg #[.int .i64 0,.int .i64 0,.string ⟨#[]⟩,.slice none 0 0],.int .i64 at_,.int .i64 4])) W :=
 ⟨⟨0,0,[],none,0,0⟩,rfl,ExM.leaf _ _ _ _ _ _ _,hW⟩
theorem psr_new (w:World) (ts:List Tk.Tok) (k:Nat) (A:Option Addr) (c:Nat) (hT:TokS w A ts) (hS:SgT w) (hk:k<ts.length) (hn:ts.length≤1000000) (Z:Obj) :
  Psr ((w.alloc Z).alloc (.cells #[.slice A ts.length c,.int .i64 (k:Int),.int .i64 0] 143)) (w.heap.size+1) ts k 0:=by
 have hb:∀b,b<w.heap.size→((w.alloc Z).alloc (.cells #[.slice A ts.length c,.int .i64 (k:Int),.int .i64 0] 143)).heap[b]?=w.heap[b]?:=fun b hb=>(Below.heap_alloc _ _ b (by simp;omega)).trans (Below.heap_alloc w Z b hb);refine⟨A,c,?_,hk,by omega,hn,hS.keep (hb _ hS.lt),by have:=hS.lt;omega,fun i hi=>?_⟩
 ·
  have:=heap_alloc_new (w.alloc Z) (.cells #[.slice A ts.length c,.int .i64 (k:Int),.int .i64 0] 143);simpa using this
 ·
  obtain⟨b,e,h0,h1,h2,h3⟩:=hT i hi;have hbl:b<w.heap.size:=World.block_lt_of_cell? _ _ h0;have e1:∀o',((w.alloc Z).alloc (.cells #[.slice A ts.length c,.int .i64 (k:Int),.int .i64 0] 143)).cell? ⟨b,o',none⟩=w.cell? ⟨b,o',none⟩:=fun o'=>World.cell?_of_block (hb b hbl);exact⟨b,e,by omega,(e1 _).trans h0,(e1 _).trans h1,(e1 _).trans h2,(e1 _).trans h3⟩
theorem zhl {w w1:World} (h:Below w.heap.size w w1) (hr:w.heap.size<w1.heap.size) (u0 u1 u2 u3:Value) (o:Obj):Below w.heap.size w ((set4 w1 w.heap.size u0 u1 u2 u3).alloc o):=by
 obtain⟨a1,a2,a3⟩:=zdw w1 w.heap.size u0 u1 u2 u3;exact⟨a1.trans h.os,a2.trans h.tape,a3.trans h.output,by have:=zaj w1 w.heap.size u0 u1 u2 u3;simp;omega,fun b hb=>(zaO w1 w.heap.size u0 u1 u2 u3 o b (by omega) (by omega)).trans (h.block b hb)⟩
theorem ziT {w w1:World} {Z:Array Value} {t:TypeId} {P:Obj} (hG:((w.alloc (.cells Z t)).alloc P).grownBy w1 (some (w.heap.size+1))):Below w.heap.size w w1∧w1.heap[w.heap.size]?=some (.cells Z t (0,0)):=by
 have hs:((w.alloc (.cells Z t)).alloc P).heap.size=w.heap.size+2:=by simp
 have hb:∀b,b≤w.heap.size→w1.heap[b]?=(w.alloc (.cells Z t)).heap[b]?:=fun b hb=>(hG.block b (by omega) (fun e=>by injection e with e;omega)).trans (Below.heap_alloc _ _ b (by simp;omega));exact⟨⟨hG.os,hG.tape,hG.output,by have:=hG.size;omega,fun b hbb=>(hb b (by omega)).trans (Below.heap_alloc w _ b hbb)⟩,(hb _ (lR _)).trans (heap_alloc_new w _)⟩
set_option maxRecDepth 100000 in
set_option maxHeartbeats 4000000 in
theorem zir (ts:List Tk.Tok) (A:Option Addr) (c:Nat) (at_:Int) (w:World) (hT:TokS w A ts) (hS:SgT w) (hn:ts.length≤1000000) (hat:-9223372036854775808≤at_∧at_≤9223372036854775807) :
  Calls Tryz.prog 109 #[.slice A ts.length c,.int .i64 at_] w (zgc w (zdG ts at_)):=by
 have hb0:Below w.heap.size w (w.alloc (.cells #[.int .i64 0,.int .i64 0,.string ⟨#[]⟩,.slice none 0 0] 68)):=(Below.refl _ _).alloc (lR _) _;have HB0:=zH hb0;clear hb0;by_cases h0:0≤at_
 ·
  by_cases h1:at_<ts.length
  ·
   obtain⟨k,rfl⟩:=Int.eq_ofNat_of_zero_le h0;have hk:k<ts.length:=by omega
   have hl:ts.length-1<ts.length:=by omega
   obtain⟨b,rfl,q0,-,-,-⟩:=hT (ts.length-1) hl;have hkd:Ps.kindAt ts (ts.length-1)=ts[ts.length-1].kind:=by unfold Ps.kindAt;rw[List.getElem?_eq_getElem hl]
   rw[←hkd] at q0;have hbl:b<w.heap.size:=World.block_lt_of_cell? _ _ q0;have i0:(0:Int)≤(ts.length:Int)-1:=by omega
   have i1:(ts.length:Int)-1<(ts.length:Int):=by omega
   have i2:((ts.length:Int)-1).toNat=ts.length-1:=by omega
   have d0:decide ((k:Int)<0)=false:=decide_eq_false (by omega);have d1:decide ((ts.length:Int)-1<(k:Int))=false:=decide_eq_false (by omega);by_cases h5:Ps.kindAt ts (ts.length-1)=5
   ·
    have t5:=nF (show ((Ps.kindAt ts (ts.length-1):Nat):Int)=5 by omega);have HV:Hid (zdG ts (k:Int)=((Ps.PE ts 1 0 k).ex,((Ps.PE ts 1 0 k).at_:Int),(Ps.PE ts 1 0 k).err)):=by
     unfold zdG;rw[if_pos ⟨h0,h1,h5⟩,Int.toNat_natCast];rfl
    have HPs:=zH (psr_new w ts k _ c hT hS hk hn (.cells #[.int .i64 0,.int .i64 0,.string ⟨#[]⟩,.slice none 0 0] 68));have HPF:=zH (fun W (hW:Psr W (w.heap.size+1) ts k 0)=>(zgt (w.heap.size+1) ts h5 (ts.length+1) k 0 W (by omega) hW).1 1 (by omega) (by omega));clear hT hS h0 h1 h5 hkd hat;generalize Ps.kindAt ts (ts.length-1)=K at *;go_enter Tryz.func109,Tryz.ntmps109;go_wp2_with fail;refine(HPF.out _ HPs.out).mono ?_;rintro e w1 ⟨f,rfl,hE,hP,hG⟩;unfold EF.val;obtain⟨hBw,hZ⟩:=ziT hG;have hPat:=hP.cells;obtain⟨tb,tc,-,-,-,p1,-⟩:=hPat;obtain⟨r0,r1,r2,r3,z0,z1,z2,z3,hrl⟩:=blk4 hZ;have HE:=zH hE;have HBw:=zH hBw;have hgl:w.heap.size+1<w1.heap.size:=hP.lt;clear hE hP hG hBw hZ HPF HPs;obtain⟨E0,hE0⟩:∃n,n=(Ps.PE ts 1 0 k).err:=⟨_,rfl⟩;obtain⟨A0,hA0⟩:∃n,n=(Ps.PE ts 1 0 k).at_:=⟨_,rfl⟩;rw[←hE0] at HV ⊢;rw[←hA0] at p1 HV;clear hE0 hA0;generalize (Ps.PE ts 1 0 k).ex=X0 at *;go_wp2_with fail;go_region;go_wp2_with fail;refine bodyPost_ret (v:=.tuple #[.agg #[.int .i64 f.op,.int .i64 f.num,.string ⟨f.name.toArray⟩,.slice f.A f.n f.c],.int .i64 (A0:Int),.int .i64 (E0:Int)]) (by simp[results,Tryz.results109,go_sem,r0,r1,r2,r3,hrl]) rfl ?_;rw[HV.out];refine⟨f,rfl,?_,(zhl HBw.out hrl (.int .i64 f.op) (.int .i64 f.num) (.string ⟨f.name.toArray⟩) (.slice f.A f.n f.c) _).drew⟩;have hE2:ExM w1 (w.heap.size+2≤·) X0 f:=HE.out.more fun b hb=>by simp at hb;omega
    refine ExM.more (S:=fun b=>w.heap.size+2≤b) ?_ (fun b hb=>by omega);refine hE2.keep ?_;intro b hb hlt;exact zaO w1 w.heap.size (.int .i64 f.op) (.int .i64 f.num) (.string ⟨f.name.toArray⟩) (.slice f.A f.n f.c) _ b (by omega) hlt
   ·
    have t5:=nT (show ((Ps.kindAt ts (ts.length-1):Nat):Int)≠5 by omega);have HV:Hid (zdG ts (k:Int)=(.mk 0 0 [] [],(k:Int),4)):=if_neg fun h=>h5 h.2.2;clear hT hS h0 h1 h5 hkd hat;generalize Ps.kindAt ts (ts.length-1)=K at *;go_enter Tryz.func109,Tryz.ntmps109;go_wp2_with fail;refine bodyPost_ret (v:=.tuple #[.agg #[.int .i64 0,.int .i64 0,.string ⟨#[]⟩,.slice none 0 0],.int .i64 (k:Int),.int .i64 4]) (by simp[results,Tryz.results109,go_sem]) rfl ?_;rw[HV.out];exact zfc w _ _ HB0.out
  ·
   have HV:Hid (zdG ts at_=(.mk 0 0 [] [],at_,4)):=if_neg fun h=>h1 h.2.1;have d0:decide (at_<0)=false:=decide_eq_false (by omega);have d1:decide ((ts.length:Int)-1<at_)=true:=decide_eq_true (by omega);clear hT hS h0 h1;go_enter Tryz.func109,Tryz.ntmps109;go_wp2_with fail;refine bodyPost_ret (v:=.tuple #[.agg #[.int .i64 0,.int .i64 0,.string ⟨#[]⟩,.slice none 0 0],.int .i64 at_,.int .i64 4]) (by simp[results,Tryz.results109,go_sem]) rfl ?_;rw[HV.out];exact zfc w _ _ HB0.out
 ·
  have HV:Hid (zdG ts at_=(.mk 0 0 [] [],at_,4)):=if_neg fun h=>h0 h.1;have d0:decide (at_<0)=true:=decide_eq_true (by omega);clear hT hS h0;go_enter Tryz.func109,Tryz.ntmps109;go_wp2_with fail;refine bodyPost_ret (v:=.tuple #[.agg #[.int .i64 0,.int .i64 0,.string ⟨#[]⟩,.slice none 0 0],.int .i64 at_,.int .i64 4]) (by simp[results,Tryz.results109,go_sem]) rfl ?_;rw[HV.out];exact zfc w _ _ HB0.out
def SgG (w:World) (g:Nat):Prop:=SgT w∧(0:Nat)<g
theorem SgG.grown {w w':World} {g:Nat} (h:SgG w g) (hG:w.grownBy w' (some g)):SgG w' g :=
 ⟨h.1.keep (hG.block _ h.1.lt (fun e=>by have:=h.2;injection e with e;omega)),h.2⟩
theorem SgG.later {w w':World} {g:Nat} (h:SgG w g) (hb:Below w.heap.size w w'):SgG w' g:=⟨h.1.later hb,h.2⟩
def XprPost (w:World) (g:Nat) (ts:List Tk.Tok) (σ:Pa.Sg) (o:Nat) (e:Ending) (w':World):Prop :=
 ∃f:EF,e=.returned f.val∧ExM w' (w.heap.size≤·) (Pa.exX ts σ) f∧Pps w' g ts (Pa.exS ts σ) o∧w.grownBy w' (some g)
def ParseX (W:World) (x:Ex) (k e:Nat) (en:Ending) (w':World):Prop :=
 ∃op num name A n c,en=.returned (.tuple #[.agg #[.int .i64 op,.int .i64 num,.string ⟨name.toArray⟩,.slice A n c],.int .i64 (k:Int),.int .i64 (e:Int)])∧ExM w' (W.heap.size≤·) x ⟨op,num,name,A,n,c⟩∧Below W.heap.size W w'
def ziW (W1:World) (x:Ex) (k e:Nat) (s3 s4 s5:Value) (wc:World):Prop :=
 ∃(b:Nat) (f:EF),s3=.pointer (some ⟨b,0,none⟩)∧s4=.int .i64 (k:Int)∧s5=.int .i64 (e:Int)∧W1.heap.size≤b∧wc.heap[b]?=some (.cells #[.int .i64 f.op,.int .i64 f.num,.string ⟨f.name.toArray⟩,.slice f.A f.n f.c] 68 (0,0))∧ExM wc (W1.heap.size≤·) x f∧Below W1.heap.size W1 wc
theorem blk_put4 {w:World} {X:Nat} {c0 c1 c2 c3:Value} {t:TypeId} (h:w.heap[X]?=some (.cells #[c0,c1,c2,c3] t (0,0))) (u0 u1 u2 u3:Value):(set4 w X u0 u1 u2 u3).heap[X]?=some (.cells #[u0,u1,u2,u3] t (0,0)):=by
 unfold set4;simp[World.setCell,Array.getElem?_modify];exact⟨_,h,rfl⟩
theorem xm_one {W1 w':World} {x:Ex} {k e:Nat} {f:EF} (hb:Below W1.drew.heap.size W1.drew w') (hM:ExM w' (W1.drew.heap.size≤·) x f) :
  ziW W1 x k e (.pointer (some ⟨w'.heap.size,0,none⟩)) (.int .i64 (k:Int)) (.int .i64 (e:Int)) (w'.alloc (.cells #[.int .i64 f.op,.int .i64 f.num,.string ⟨f.name.toArray⟩,.slice f.A f.n f.c] 68)) :=
 ⟨w'.heap.size,f,rfl,rfl,rfl,hb.size,heap_alloc_new w' _,hM.keep fun b _ hl=>Below.heap_alloc w' _ b hl,Below.alloc (a:=W1) ⟨hb.os,hb.tape,hb.output,hb.size,hb.block⟩ hb.size _⟩
theorem xm_two {W1 w':World} {x:Ex} {k e:Nat} {f:EF} {Z:Obj} {c0 c1 c2 c3:Value} (hb:Below (W1.alloc Z).drew.heap.size (W1.alloc Z).drew w') (hM:ExM w' ((W1.alloc Z).drew.heap.size≤·) x f) (hZ:w'.heap[W1.heap.size]?=some (.cells #[c0,c1,c2,c3] 68 (0,0))) :
  ziW W1 x k e (.pointer (some ⟨W1.heap.size,0,none⟩)) (.int .i64 (k:Int)) (.int .i64 (e:Int)) (set4 w' W1.heap.size (.int .i64 f.op) (.int .i64 f.num) (.string ⟨f.name.toArray⟩) (.slice f.A f.n f.c)):=by
 have hs:(W1.alloc Z).drew.heap.size=W1.heap.size+1:=by simp
 have h4:=zaj w' W1.heap.size (.int .i64 f.op) (.int .i64 f.num) (.string ⟨f.name.toArray⟩) (.slice f.A f.n f.c);have hsz:=hb.size;refine⟨W1.heap.size,f,rfl,rfl,rfl,lR _,blk_put4 hZ _ _ _ _,(hM.keep fun b hb' _=>zai _ _ _ _ _ _ b (by omega)).more (fun b hb'=>by omega),?_⟩;refine⟨hb.os,hb.tape,hb.output,by omega,fun b hbb=>(zai _ _ _ _ _ _ b (by omega)).trans ((hb.block b (by omega)).trans (Below.heap_alloc W1 Z b hbb))⟩
theorem zgu (ts:List Tk.Tok) (k:Nat) (hk:k<ts.length) (h5:Ps.kindAt ts (ts.length-1)=5):zdG ts (k:Int)=(Pa.exX ts (.at_ k),((Pa.exS ts (.at_ k)).k:Int),(Pa.exS ts (.at_ k)).e):=by
 unfold zdG;rw[if_pos ⟨by omega,by omega,h5⟩,show ((k:Int)).toNat=k from rfl];unfold Pa.exX Pa.exS;dsimp only;cases Ps.PE ts 1 0 k with
 | ok x m=>rfl
 | bad m e=>rfl
theorem exS_in {ts:List Tk.Tok} {k:Nat} (hk:k<ts.length) (h5:Ps.kindAt ts (ts.length-1)=5):(Pa.exS ts (.at_ k)).k<ts.length∧((Pa.exS ts (.at_ k)).live=false→(Pa.exS ts (.at_ k)).e≠0):=by
 have h:=Ps.PE_in h5 1 0 k hk (by omega);unfold Pa.exS;dsimp only;cases hR:Ps.PE ts 1 0 k with
 | ok x m=>rw[hR] at h;exact⟨h,fun e=>by cases e⟩
 | bad m e =>
  rw[hR] at h;refine⟨h,fun _=>?_⟩
  have:=Ps.PE_err (by omega) hR;show e≠0;omega
theorem Pps.put {w:World} {g:Nat} {ts:List Tk.Tok} {σ:Pa.Sg} {o:Nat} (h:Pps w g ts σ o) (τ:Pa.Sg) (hk:τ.k<ts.length) (he:τ.live=false→τ.e≠0):Pps ((w.setCell ⟨g,1,none⟩ (.int .i64 (τ.k:Int))).setCell ⟨g,3,none⟩ (.int .i64 (τ.e:Int))) g ts τ o:=by
 refine h.mk' τ o hk h.oo he (fun A c hb=>?_) fun b hb=>(Below.heap_setCell _ _ _ b (by simpa using hb)).trans (Below.heap_setCell _ _ _ b (by simpa using hb));simp[World.setCell,Array.getElem?_modify];exact⟨_,hb,rfl⟩
set_option maxRecDepth 100000 in
set_option maxHeartbeats 4000000 in
theorem zcU (w:World) (g:Nat) (ts:List Tk.Tok) (σ:Pa.Sg) (o:Nat) (hP:Pps w g ts σ o) (hS:SgG w g) :
  Calls Tryz.prog 96 #[.pointer (some ⟨g,0,none⟩)] w (XprPost w g ts σ o):=by
 have HP:=zH hP;have HS:=zH hS;have hgw:=hP.lt;cases σ with
 | bad m e =>
  have he:e≠0:=hP.err rfl;obtain⟨b,c,hne,hbl,q0,q1,q2,q3,fr,hkm,ho,a0,a1,a2,⟨v3,a3⟩,hn⟩:=(hP.alloc (.cells #[.int .i64 0,.int .i64 0,.string ⟨#[]⟩,.slice none 0 0] 68)).cells;have t0:(((Pa.Sg.bad m e).e:Int) != 0)=true:=nT (show ((e:Nat):Int)≠0 by omega);obtain⟨r0,r1,r2,r3,g0,g1,g2,g3,hrl⟩:=blk4 (heap_alloc_new w (.cells #[.int .i64 0,.int .i64 0,.string ⟨#[]⟩,.slice none 0 0] 68));clear hP hS he fr a0 a1 a2 a3 q0 q1 q2;go_enter Tryz.func96,Tryz.ntmps96;go_wp2;refine bodyPost_ret (v:=.agg #[.int .i64 0,.int .i64 0,.string ⟨#[]⟩,.slice none 0 0]) (by simp[results,Tryz.results96,go_sem,r0,r1,r2,r3]) rfl ⟨⟨0,0,[],none,0,0⟩,rfl,ExM.leaf _ _ _ _ _ _ _,?_,?_⟩
  ·
   repeat (with_reducible refine Pps.set ?_ hgw _)
   exact HP.out.alloc _
  ·
   repeat (with_reducible refine zaD ?_ (lR _) _)
   exact zag (za2 (Below.refl _ _)) _
 | at_ k =>
  have hkl:k<ts.length:=hP.inT;have HPV:=zH (zgu ts k hkl hP.last);have HIN:=zH (exS_in hkl hP.last);obtain⟨TA,tc,q0,hT⟩:=(hP.alloc (.cells #[.int .i64 0,.int .i64 0,.string ⟨#[]⟩,.slice none 0 0] 68)).toks;obtain⟨b,c,hne,hbl,-,q1,q2,q3,fr,hkm,ho,a0,a1,a2,⟨v3,a3⟩,hn⟩:=(hP.alloc (.cells #[.int .i64 0,.int .i64 0,.string ⟨#[]⟩,.slice none 0 0] 68)).cells;have e1:(Pa.Sg.at_ k).k=k:=rfl;rw[e1] at q1;have t0:(((Pa.Sg.at_ k).e:Int) != 0)=false:=rfl;have HX:=zH (heap_alloc_new w (.cells #[.int .i64 0,.int .i64 0,.string ⟨#[]⟩,.slice none 0 0] 68));have HA:=zH (show Below w.heap.size w (w.alloc (.cells #[.int .i64 0,.int .i64 0,.string ⟨#[]⟩,.slice none 0 0] 68)) from (Below.refl _ _).alloc (lR _) _);have HPA:Hid (∀W,Below (w.alloc (.cells #[.int .i64 0,.int .i64 0,.string ⟨#[]⟩,.slice none 0 0] 68)).heap.size (w.alloc (.cells #[.int .i64 0,.int .i64 0,.string ⟨#[]⟩,.slice none 0 0] 68)) W→Calls Tryz.prog 109 #[.slice TA ts.length tc,.int .i64 (k:Int)] W (ParseX W (Pa.exX ts (.at_ k)) (Pa.exS ts (.at_ k)).k (Pa.exS ts (.at_ k)).e)):=fun W hb=>by
   have:=zir ts TA tc (k:Int) W (hT.later hb) (hS.1.later (za3 HA.out hb)) hn (by omega);rw[HPV.out] at this;exact this.mono fun e w' ⟨f,he,hM,hb⟩=>⟨f.op,f.num,f.name,f.A,f.n,f.c,he,hM,hb⟩
  have HPW:=zH (hP.alloc (.cells #[.int .i64 0,.int .i64 0,.string ⟨#[]⟩,.slice none 0 0] 68));clear hP hS fr a0 a1 a2 a3 q2 e1 hT hbl hne;go_enter Tryz.func96,Tryz.ntmps96;go_wp2;generalize (w.alloc (.cells #[.int .i64 0,.int .i64 0,.string ⟨#[]⟩,.slice none 0 0] 68))=W1 at *;have hgW:g<W1.heap.size:=by have:=HA.out.size;omega
  go_upto_region 3 with fail
  go_cut [3,4,5] (fun s3 s4 s5 wc=>ziW W1 (Pa.exX ts (.at_ k)) (Pa.exS ts (.at_ k)).k (Pa.exS ts (.at_ k)).e s3 s4 s5 wc)
  case first =>
   have hn1:W1.heap.size≠g:=by omega
   have hn1':g≠W1.heap.size:=by omega
   go_region_held3 (fun w'=>w'.cell? ⟨g,0,none⟩=some (.slice TA ts.length tc)∧w'.cell? ⟨g,1,none⟩=some (.int .i64 (k:Int)))
    (go_keep)
    (first
     | (go_at_call 109;obtain⟨r0,r1⟩:=‹_∧World.cell? _ ⟨g,1,none⟩=_›;refine(HPA.out _ (by first|exact(Below.refl _ _).drew|exact((Below.refl _ _).alloc (lR _) _).drew)).mono ?_;rintro e w' ⟨fo,fn,fname,fA,fl,fc,rfl,hM,hb⟩;have u0:=cell_later hb r0;have u1:=cell_later hb r1;(first|(have hz:=(hb.block W1.heap.size (by simp)).trans (heap_alloc_new W1 (.cells #[.int .i64 0,.int .i64 0,.string ⟨#[]⟩,.slice none 0 0] 68));obtain⟨k0,k1,k2,k3,m0,m1,m2,m3,kl⟩:=blk4 hz;have HZ:=zH hz;clear hz)|skip);have hn2:w'.heap.size≠g:=(by have:=hb.size;simp at this;omega);have hn2':g≠w'.heap.size:=(by omega);have HB:=zH hb;have HM:=zH hM;clear r0 r1 hb hM))
   all_goals
    go_wp2_with fail
    go_meet
    first
     | exact xm_one (f:=⟨fo,fn,fname,fA,fl,fc⟩) HB.out HM.out
     | exact xm_two (f:=⟨fo,fn,fname,fA,fl,fc⟩) HB.out HM.out HZ.out
  case rest =>
   obtain⟨b,f,rfl,rfl,rfl,hb1,hblk,hM,hB⟩:=hcut;have hPc:=HPW.out.later hB;obtain⟨b',c',-,-,-,p1,p2,p3,pr,-⟩:=hPc.cells;have pf1:=pr 1;have pf3:=pr 3;obtain⟨y0,y1,y2,y3,-,-,-,-,hbl⟩:=blk4 hblk;have hR:=(hB.block w.heap.size (lt_of_block HX.out)).trans HX.out;obtain⟨r0,r1,r2,r3,g0,g1,g2,g3,hrl⟩:=blk4 hR;have HPC:=zH hPc;have HMC:=zH hM;have HBC:=zH hB;have hgb:g≠b:=by omega
   have hgb':b≠g:=by omega
   have hgR:g≠w.heap.size:=by omega
   have hgR':w.heap.size≠g:=by omega
   have hRl:=lt_of_block HX.out;have hRb:w.heap.size≠b:=by omega
   have hRb':b≠w.heap.size:=by omega
   clear hPc hM hB hblk hR pr p2 HPA HPV;obtain⟨τ,hτ⟩:∃τ,τ=Pa.exS ts (.at_ k):=⟨_,rfl⟩;have HTau:=zH hτ;rw[←hτ] at HIN ⊢;clear hτ;go_wp2;refine bodyPost_ret (v:=.agg #[.int .i64 f.op,.int .i64 f.num,.string ⟨f.name.toArray⟩,.slice f.A f.n f.c]) (by simp[results,Tryz.results96,go_sem,r0,r1,r2,r3]) rfl ⟨f,rfl,?_,?_,?_⟩
   ·
    exact(HMC.out.keep fun b hb _=>(zai _ _ _ _ _ _ b (by omega)).trans ((Below.heap_setCell _ _ _ b (by show b≠g;omega)).trans (Below.heap_setCell _ _ _ b (by show b≠g;omega)))).more fun b hb=>by omega
   ·
    rw[←HTau.out]
    repeat (with_reducible refine Pps.set ?_ hgw _)
    exact HPC.out.put τ HIN.out.1 HIN.out.2
   ·
    repeat (first|(with_reducible refine zaD ?_ (lR _) _)|(with_reducible refine zaH ?_))
    exact za2 (za3 HA.out HBC.out)
theorem blk2 {w:World} {b:Nat} {c0 c1:Value} {t:TypeId} (h:w.heap[b]?=some (.cells #[c0,c1] t (0,0))) :
  w.cell? ⟨b,0,none⟩=some c0∧w.cell? ⟨b,1,none⟩=some c1∧w.frozen? ⟨b,0,none⟩=false∧w.frozen? ⟨b,1,none⟩=false∧b<w.heap.size:=by
 refine⟨?_,?_,?_,?_,lt_of_block h⟩
 ·
  rw[cell_of_row w b 0 _ _ _ h];rfl
 ·
  rw[cell_of_row w b 1 _ _ _ h];rfl
 ·
  simp[World.frozen?,h]
 ·
  simp[World.frozen?,h]
theorem za1 {w w':World} {g b:Nat} {ob:Obj} (hG:w.grownBy w' (some g)) (h:w.heap[b]?=some ob) (hne:b≠g):w'.heap[b]?=some ob :=
 (hG.block b (lt_of_block h) (fun e=>by injection e with e;exact hne e)).trans h
theorem zdt {w:World} {X:Nat} {c0 c1:Value} {t:TypeId} (u:Value) (h:w.heap[X]?=some (.cells #[c0,c1] t (0,0))):(w.setCell ⟨X,1,none⟩ u).heap[X]?=some (.cells #[c0,u] t (0,0)):=by
 simp[World.setCell,Array.getElem?_modify];exact⟨_,h,rfl⟩
def RefP (w:World) (g:Nat) (ts:List Tk.Tok) (σ:Pa.Sg) (o:Nat) (e:Ending) (w':World):Prop :=
 ∃A n c,e=.returned (.agg #[.string ⟨(Pa.sRef ts σ).1.name.toArray⟩,.slice A n c])∧IdxM w' (w.heap.size≤·) (Pa.sRef ts σ).1.idx A n∧Pps w' g ts (Pa.sRef ts σ).2 o∧w.grownBy w' (some g)
set_option maxRecDepth 100000 in
set_option maxHeartbeats 4000000 in
theorem zgY (w:World) (g:Nat) (ts:List Tk.Tok) (σ:Pa.Sg) (o:Nat) (hP:Pps w g ts σ o) (hS:SgG w g) :
  Calls Tryz.prog 100 #[.pointer (some ⟨g,0,none⟩)] w (RefP w g ts σ o):=by
 have HP:=zH hP;have HS:=zH hS;have hgw:=hP.lt;have hgR:g≠w.heap.size:=by omega
 have hgR':w.heap.size≠g:=by omega
 clear hP hS;go_enter Tryz.func100,Tryz.ntmps100;go_wp2_with fail;refine(zbd _ g ts σ o (HP.out.alloc _)).mono ?_;rintro x w1 ⟨rfl,hP1,hG1⟩;have HR1:=zH (za1 hG1 (heap_alloc_new w _) hgR');have HP1:=zH hP1;have HG1:=zH (za6 hG1);have hl1:w.heap.size<w1.heap.size:=by have:=hG1.size;simp at this;omega
 clear hP1 hG1;have hgT:w1.heap.size≠g:=by omega
 generalize hnm:Pa.nmV ts σ=nm at *;have HNM:=zH hnm;clear hnm;go_wp2_with fail;refine(zam _ g ts _ o [91] (HP1.out.alloc _)).mono ?_;rintro x w2 ⟨rfl,hP2,hG2⟩;have HR2:=zH (za1 hG2 ((Below.heap_alloc w1 _ _ hl1).trans HR1.out) hgR');have HT2:=zH (za1 hG2 (heap_alloc_new w1 _) hgT);have HP2:=zH hP2;have HG2:=zH (za0 HG1.out (za6 hG2));have hl2:w1.heap.size<w2.heap.size:=by have:=hG2.size;simp at this;omega
 clear hP2 hG2;cases hI:Pa.isS ts (Pa.tk ts σ 1) [91] with
 | true =>
  have HV:Hid (Pa.sRef ts σ=(⟨nm,some (Pa.exX ts (Pa.nx (Pa.tk ts σ 1)))⟩,Pa.xp ts (Pa.exS ts (Pa.nx (Pa.tk ts σ 1))) [93])):=by show _=_;unfold Pa.sRef;rw[if_pos hI,HNM.out]
  have hac:Pa.ac ts (Pa.tk ts σ 1) [91]=Pa.nx (Pa.tk ts σ 1):=if_pos hI;rw[hac] at HP2;clear hac hI;go_wp2_with fail;refine(zcU w2 g ts _ o HP2.out (HS.out.grown HG2.out)).mono ?_;rintro x w3 ⟨f,rfl,hM3,hP3,hG3⟩;unfold EF.val;have HR3:=zH (za1 hG3 HR2.out hgR');have HT3:=zH (za1 hG3 HT2.out hgT);have HP3:=zH hP3;have HM3:=zH hM3;have HG3:=zH (za0 HG2.out hG3);have hl3:w2.heap.size≤w3.heap.size:=hG3.size;clear hP3 hG3 hM3;obtain⟨t0,t1,tf0,tf1,htl⟩:=blk2 HT3.out;go_wp2_with fail;have hs3:(w3.setCell ⟨w1.heap.size,1,none⟩ (.slice (some ⟨w3.heap.size,0,none⟩) 1 1)).heap.size=w3.heap.size:=by simp[World.setCell]
  obtain⟨W4,hW4⟩:∃W,W=(w3.setCell ⟨w1.heap.size,1,none⟩ (.slice (some ⟨w3.heap.size,0,none⟩) 1 1)).alloc (.cells #[.int .i64 f.op,.int .i64 f.num,.string ⟨f.name.toArray⟩,.slice f.A f.n f.c] 68):=⟨_,rfl⟩;have hk4:∀b,b<w3.heap.size→b≠w1.heap.size→W4.heap[b]?=w3.heap[b]?:=fun b hb hn=>by
   rw[hW4];exact(Below.heap_alloc _ _ b (by omega)).trans (Below.heap_setCell _ _ _ b hn)
  have HT4:Hid (W4.heap[w1.heap.size]?=some (.cells #[.string ⟨nm.toArray⟩,.slice (some ⟨w3.heap.size,0,none⟩) 1 1] 70 (0,0))):=by
   rw[hW4];exact(Below.heap_alloc _ _ _ (by omega)).trans (zdt _ HT3.out)
  have HR4:=zH ((hk4 w.heap.size (by omega) (by omega)).trans HR3.out);have HN4:Hid (W4.heap[w3.heap.size]?=some (.cells #[.int .i64 f.op,.int .i64 f.num,.string ⟨f.name.toArray⟩,.slice f.A f.n f.c] 68 (0,0))):=by
   have:=heap_alloc_new (w3.setCell ⟨w1.heap.size,1,none⟩ (.slice (some ⟨w3.heap.size,0,none⟩) 1 1)) (.cells #[.int .i64 f.op,.int .i64 f.num,.string ⟨f.name.toArray⟩,.slice f.A f.n f.c] 68);rw[hs3] at this;rw[hW4];exact this
  have HP4:Hid (Pps W4 g ts (Pa.exS ts (Pa.nx (Pa.tk ts σ 1))) o):=by
   rw[hW4];exact(HP3.out.set (by show g<w1.heap.size;omega) _).alloc _
  have HM4:=zH (HM3.out.keep (w':=W4) fun b hb hl=>hk4 b hl (by omega));have HG4:Hid (w.grownBy W4 (some g)):=by
   rw[hW4];exact zag (zaD HG3.out (by show w.heap.size≤w1.heap.size;omega) _) _
  rw[←hW4];clear hW4 hk4 hs3 t0 t1 tf0 tf1;refine(zap W4 g ts _ o [93] HP4.out).mono ?_;rintro x w5 ⟨rfl,hP5,hG5⟩;obtain⟨t0,t1,-,-,-⟩:=blk2 (za1 hG5 HT4.out hgT);obtain⟨r0,r1,rf0,rf1,-⟩:=blk2 (za1 hG5 HR4.out hgR');have HN5:=zH (za1 hG5 HN4.out (by omega));have HM5:=zH (HM4.out.keep (w':=w5) fun b hb hl=>hG5.block b hl (fun e=>by injection e with e;omega));have HP5:=zH hP5;have HG5:=zH (za0 HG4.out hG5);have hTR:w1.heap.size≠w.heap.size:=by omega
  clear hP5 hG5;go_wp2_with fail;refine bodyPost_ret (v:=.agg #[.string ⟨nm.toArray⟩,.slice (some ⟨w3.heap.size,0,none⟩) 1 1]) (by simp[results,Tryz.results100,go_sem,r0,r1]) rfl ⟨some ⟨w3.heap.size,0,none⟩,1,1,by rw[HV.out],?_,?_,?_⟩
  ·
   rw[HV.out];have hk:∀b,b≠w.heap.size→((w5.setCell ⟨w.heap.size,0,none⟩ (.string ⟨nm.toArray⟩)).setCell ⟨w.heap.size,1,none⟩ (.slice (some ⟨w3.heap.size,0,none⟩) 1 1)).heap[b]?=w5.heap[b]?:=fun b hb=>(Below.heap_setCell _ _ _ b hb).trans (Below.heap_setCell _ _ _ b hb);obtain⟨n0,n1,n2,n3,-,-,-,-,-⟩:=blk4 ((hk w3.heap.size (by omega)).trans HN5.out);refine⟨rfl,w3.heap.size,0,f,rfl,by omega,⟨n0,n1,n2,n3⟩,(HM5.out.keep fun b hb _=>hk b (by omega)).more fun b hb=>by omega⟩
  ·
   rw[HV.out]
   repeat (with_reducible refine Pps.set ?_ hgw _)
   exact HP5.out
  ·
   repeat (with_reducible refine zaD ?_ (lR _) _)
   exact HG5.out
 | false =>
  have HV:Hid (Pa.sRef ts σ=(⟨nm,none⟩,Pa.tk ts σ 1)):=by show _=_;unfold Pa.sRef;rw[if_neg (by rw[hI];decide),HNM.out]
  have hac:Pa.ac ts (Pa.tk ts σ 1) [91]=Pa.tk ts σ 1:=if_neg (by rw[hI];decide);rw[hac] at HP2;clear hac hI;obtain⟨t0,t1,-,-,-⟩:=blk2 HT2.out;obtain⟨r0,r1,rf0,rf1,-⟩:=blk2 HR2.out;have hTR:w1.heap.size≠w.heap.size:=by omega
  go_wp2_with fail;refine bodyPost_ret (v:=.agg #[.string ⟨nm.toArray⟩,.slice none 0 0]) (by simp[results,Tryz.results100,go_sem,r0,r1]) rfl ⟨none,0,0,by rw[HV.out],?_,?_,?_⟩
  ·
   rw[HV.out];rfl
  ·
   rw[HV.out]
   repeat (with_reducible refine Pps.set ?_ hgw _)
   exact HP2.out
  ·
   repeat (with_reducible refine zaD ?_ (lR _) _)
   exact HG2.out
theorem blk7 {w:World} {b:Nat} {c0 c1 c2 c3 c4 c5 c6:Value} {t:TypeId} (h:w.heap[b]?=some (.cells #[c0,c1,c2,c3,c4,c5,c6] t (0,0))) :
  w.cell? ⟨b,0,none⟩=some c0∧w.cell? ⟨b,1,none⟩=some c1∧w.cell? ⟨b,2,none⟩=some c2∧w.cell? ⟨b,3,none⟩=some c3∧w.cell? ⟨b,4,none⟩=some c4∧w.cell? ⟨b,5,none⟩=some c5∧w.cell? ⟨b,6,none⟩=some c6∧(∀j,w.frozen? ⟨b,j,none⟩=false)∧b<w.heap.size:=by
 refine⟨?_,?_,?_,?_,?_,?_,?_,fun j=>by simp[World.frozen?,h],lt_of_block h⟩
 ·
  rw[cell_of_row w b 0 _ _ _ h];rfl
 ·
  rw[cell_of_row w b 1 _ _ _ h];rfl
 ·
  rw[cell_of_row w b 2 _ _ _ h];rfl
 ·
  rw[cell_of_row w b 3 _ _ _ h];rfl
 ·
  rw[cell_of_row w b 4 _ _ _ h];rfl
 ·
  rw[cell_of_row w b 5 _ _ _ h];rfl
 ·
  rw[cell_of_row w b 6 _ _ _ h];rfl
theorem zac {w:World} {b:Nat} {c0 c1 c2 c3 c4 c5 c6 c7 c8 c9 c10:Value} {t:TypeId} (h:w.heap[b]?=some (.cells #[c0,c1,c2,c3,c4,c5,c6,c7,c8,c9,c10] t (0,0))) :
  w.cell? ⟨b,0,none⟩=some c0∧w.cell? ⟨b,1,none⟩=some c1∧w.cell? ⟨b,2,none⟩=some c2∧w.cell? ⟨b,3,none⟩=some c3∧w.cell? ⟨b,4,none⟩=some c4∧w.cell? ⟨b,5,none⟩=some c5∧w.cell? ⟨b,6,none⟩=some c6∧w.cell? ⟨b,7,none⟩=some c7∧w.cell? ⟨b,8,none⟩=some c8∧w.cell? ⟨b,9,none⟩=some c9∧w.cell? ⟨b,10,none⟩=some c10∧(∀j,w.frozen? ⟨b,j,none⟩=false)∧b<w.heap.size:=by
 refine⟨?_,?_,?_,?_,?_,?_,?_,?_,?_,?_,?_,fun j=>by simp[World.frozen?,h],lt_of_block h⟩
 ·
  rw[cell_of_row w b 0 _ _ _ h];rfl
 ·
  rw[cell_of_row w b 1 _ _ _ h];rfl
 ·
  rw[cell_of_row w b 2 _ _ _ h];rfl
 ·
  rw[cell_of_row w b 3 _ _ _ h];rfl
 ·
  rw[cell_of_row w b 4 _ _ _ h];rfl
 ·
  rw[cell_of_row w b 5 _ _ _ h];rfl
 ·
  rw[cell_of_row w b 6 _ _ _ h];rfl
 ·
  rw[cell_of_row w b 7 _ _ _ h];rfl
 ·
  rw[cell_of_row w b 8 _ _ _ h];rfl
 ·
  rw[cell_of_row w b 9 _ _ _ h];rfl
 ·
  rw[cell_of_row w b 10 _ _ _ h];rfl
def PutAt (r:Nat) (w w':World):Prop:=w'.os=w.os∧w'.tape=w.tape∧w'.output=w.output∧w'.heap.size=w.heap.size∧∀b,b≠r→w'.heap[b]?=w.heap[b]?
theorem PutAt.refl (r:Nat) (w:World):PutAt r w w:=⟨rfl,rfl,rfl,rfl,fun _ _=>rfl⟩
theorem PutAt.set {r:Nat} {w w':World} (h:PutAt r w w') (n:Nat) (u:Value):PutAt r w (w'.setCell ⟨r,n,none⟩ u) :=
 ⟨h.1,h.2.1,h.2.2.1,by rw[←h.2.2.2.1];simp[World.setCell],fun b hb=>(Below.heap_setCell w' _ _ b hb).trans (h.2.2.2.2 b hb)⟩
theorem Pps.putAt {w w':World} {g r:Nat} {ts:List Tk.Tok} {σ:Pa.Sg} {o:Nat} (h:Pps w g ts σ o) (hp:PutAt r w w') (hr:g<r):Pps w' g ts σ o:=h.keep fun b hb=>hp.2.2.2.2 b (by omega)
theorem za5 {w w1 w2:World} {r:Nat} {x:Option Nat} (h:w.grownBy w1 x) (hp:PutAt r w1 w2) (hr:w.heap.size≤r):w.grownBy w2 x :=
 ⟨hp.1.trans h.os,hp.2.1.trans h.tape,hp.2.2.1.trans h.output,by have:=h.size;have:=hp.2.2.2.1;omega,fun b hb hx=>(hp.2.2.2.2 b (by omega)).trans (h.block b hb hx)⟩
theorem ExM.putAt {w w':World} {r N:Nat} {E:Ex} {f:EF} (h:ExM w (N≤·) E f) (hp:PutAt r w w') (hr:r<N):ExM w' (N≤·) E f:=h.keep fun b hb _=>hp.2.2.2.2 b (by omega)
theorem IdxM.putAt {w w':World} {r N:Nat} {E:Option Ex} {A:Option Addr} {n:Nat} (h:IdxM w (N≤·) E A n) (hp:PutAt r w w') (hr:r<N):IdxM w' (N≤·) E A n:=h.keep fun b hb _=>hp.2.2.2.2 b (by omega)
theorem IdxM.more {w:World} {S S':Nat→Prop} {E:Option Ex} {A:Option Addr} {n:Nat} (h:IdxM w S E A n) (hs:∀b,S b→S' b):IdxM w S' E A n:=by
 cases E with
 | none=>exact h
 | some E =>
  obtain⟨hn,b,off,f,e,hb,hat,hM⟩:=h;exact⟨hn,b,off,f,e,hs b hb,hat,hM.more hs⟩
def ArgP (w:World) (g:Nat) (ts:List Tk.Tok) (σ:Pa.Sg) (o:Nat) (e:Ending) (w':World):Prop :=
 ∃A n c f,e=.returned (.agg #[.bool (Pa.sArg ts σ).1.m,.string ⟨(Pa.sArg ts σ).1.r.name.toArray⟩,.slice A n c,.int .i64 (f:EF).op,.int .i64 f.num,.string ⟨f.name.toArray⟩,.slice f.A f.n f.c]) ∧
  IdxM w' (w.heap.size≤·) (Pa.sArg ts σ).1.r.idx A n∧ExM w' (w.heap.size≤·) (Pa.sArg ts σ).1.e f∧Pps w' g ts (Pa.sArg ts σ).2 o∧w.grownBy w' (some g)
set_option maxRecDepth 100000 in
set_option maxHeartbeats 4000000 in
theorem zgZ (w:World) (g:Nat) (ts:List Tk.Tok) (σ:Pa.Sg) (o:Nat) (i:Int) (hP:Pps w g ts σ o) (hS:SgG w g) :
  Calls Tryz.prog 99 #[.pointer (some ⟨g,0,none⟩),.int .i64 i] w (ArgP w g ts σ o):=by
 have HP:=zH hP;have HS:=zH hS;have hgw:=hP.lt;have hgR':w.heap.size≠g:=by omega
 clear hP hS;go_enter Tryz.func99,Tryz.ntmps99;go_wp2_with fail;refine(zam _ g ts σ o [109,117,116,101,120] (HP.out.alloc _)).mono ?_;rintro x w1 ⟨rfl,hP1,hG1⟩;have HR1:=zH (za1 hG1 (heap_alloc_new w _) hgR');have HP1:=zH hP1;have HG1:=zH (za6 hG1);have hl1:w.heap.size<w1.heap.size:=by have:=hG1.size;simp at this;omega
 clear hP1 hG1;cases hI:Pa.isS ts σ [109,117,116,101,120] with
 | true =>
  have HV:Hid (Pa.sArg ts σ=(⟨true,(Pa.sRef ts (Pa.nx σ)).1,noEx⟩,(Pa.sRef ts (Pa.nx σ)).2)):=if_pos hI;have hac:Pa.ac ts σ [109,117,116,101,120]=Pa.nx σ:=if_pos hI;rw[hac] at HP1;clear hac hI;go_wp2_with fail;refine(zgY w1 g ts _ o HP1.out (HS.out.grown HG1.out)).mono ?_;rintro x w2 ⟨A,n,c,rfl,hX2,hP2,hG2⟩;obtain⟨r0,r1,r2,r3,r4,r5,r6,rf,-⟩:=blk7 (za1 hG2 HR1.out hgR');have f0:=rf 0;have f1:=rf 1;have f2:=rf 2;have f3:=rf 3;have f4:=rf 4;have f5:=rf 5;have f6:=rf 6;have HX2:=zH hX2;have HP2:=zH hP2;have HG2:=zH (za0 HG1.out hG2);clear hX2 hP2 hG2 rf;generalize hr:(Pa.sRef ts (Pa.nx σ)).1=r at *;clear hr;go_wp2_with fail;have hq:PutAt w.heap.size w2 _:=(((((((PutAt.refl w.heap.size w2).set 0 (.bool true)).set 1 (.string ⟨r.name.toArray⟩)).set 2 (.slice A n c)).set 3 (.int .i64 0)).set 4 (.int .i64 0)).set 5 (.string ⟨#[]⟩)).set 6 (.slice none 0 0);refine bodyPost_ret (v:=.agg #[.bool true,.string ⟨r.name.toArray⟩,.slice A n c,.int .i64 0,.int .i64 0,.string ⟨#[]⟩,.slice none 0 0]) (by simp[results,Tryz.results99,go_sem,r0,r1,r2,r3,r4,r5,r6]) rfl ⟨A,n,c,⟨0,0,[],none,0,0⟩,by rw[HV.out],?_,?_,?_,?_⟩
  ·
   rw[HV.out];exact(HX2.out.putAt hq hl1).more fun b hb=>by omega
  ·
   rw[HV.out];exact ExM.leaf _ _ _ _ _ _ _
  ·
   rw[HV.out];exact HP2.out.putAt hq hgw
  ·
   exact za5 HG2.out hq (lR _)
 | false =>
  have HV:Hid (Pa.sArg ts σ=(⟨false,noRf,Pa.exX ts σ⟩,Pa.exS ts σ)):=if_neg (by rw[hI];decide);have hac:Pa.ac ts σ [109,117,116,101,120]=σ:=if_neg (by rw[hI];decide);rw[hac] at HP1;clear hac hI;go_wp2_with fail;refine(zcU w1 g ts _ o HP1.out (HS.out.grown HG1.out)).mono ?_;rintro x w2 ⟨f,rfl,hX2,hP2,hG2⟩;unfold EF.val;obtain⟨r0,r1,r2,r3,r4,r5,r6,rf,-⟩:=blk7 (za1 hG2 HR1.out hgR');have f0:=rf 0;have f1:=rf 1;have f2:=rf 2;have f3:=rf 3;have f4:=rf 4;have f5:=rf 5;have f6:=rf 6;have HX2:=zH hX2;have HP2:=zH hP2;have HG2:=zH (za0 HG1.out hG2);clear hX2 hP2 hG2 rf;go_wp2_with fail;have hq:PutAt w.heap.size w2 _:=(((((((PutAt.refl w.heap.size w2).set 0 (.bool false)).set 1 (.string ⟨#[]⟩)).set 2 (.slice none 0 0)).set 3 (.int .i64 f.op)).set 4 (.int .i64 f.num)).set 5 (.string ⟨f.name.toArray⟩)).set 6 (.slice f.A f.n f.c);refine bodyPost_ret (v:=.agg #[.bool false,.string ⟨#[]⟩,.slice none 0 0,.int .i64 f.op,.int .i64 f.num,.string ⟨f.name.toArray⟩,.slice f.A f.n f.c]) (by simp[results,Tryz.results99,go_sem,r0,r1,r2,r3,r4,r5,r6]) rfl ⟨none,0,0,f,by rw[HV.out];rfl,?_,?_,?_,?_⟩
  ·
   rw[HV.out];rfl
  ·
   rw[HV.out];exact(HX2.out.putAt hq hl1).more fun b hb=>by omega
  ·
   rw[HV.out];exact HP2.out.putAt hq hgw
  ·
   exact za5 HG2.out hq (lR _)


structure It where
 x:Ex
 f:EF
 a:Nat
section
structure RowK (α:Type) where
 cl:α→List Value
 sz:Nat
 hsz:∀a,(cl a).length=sz
 one:∀a u,u∈cl a→u.oneCell'=true
 In:World→(Nat→Prop)→α→Prop
 keep:∀ {w w':World} {S:Nat→Prop} {a:α},In w S a→(∀b,S b→b<w.heap.size→w'.heap[b]?=w.heap[b]?)→In w' S a
 more:∀ {w:World} {S S':Nat→Prop} {a:α},In w S a→(∀b,S b→b<w.heap.size→S' b)→In w S' a
variable {α:Type}
def RowK.cs (K:RowK α) (P:List α):List Value:=P.flatMap K.cl
theorem RowK.cs_len (K:RowK α) (P:List α):(K.cs P).length=P.length*K.sz:=by
 induction P with
 | nil=>simp[RowK.cs]
 | cons a r ih =>
  unfold RowK.cs at ih ⊢;rw[List.flatMap_cons,List.length_append,ih,K.hsz,List.length_cons,Nat.succ_mul];omega
theorem RowK.cs_snoc (K:RowK α) (P:List α) (a:α):K.cs (P++[a])=K.cs P++K.cl a:=by simp[RowK.cs,List.flatMap_append]
theorem RowK.cs_at (K:RowK α) (P:List α) (i j:Nat) (hi:i<P.length) (hj:j<K.sz):(K.cs P)[i*K.sz+j]?=(K.cl P[i])[j]?:=by
 induction P generalizing i with
 | nil=>simp at hi
 | cons a r ih =>
  unfold RowK.cs at ih ⊢;rw[List.flatMap_cons];cases i with
  | zero=>rw[Nat.zero_mul,Nat.zero_add,List.getElem?_append_left (by rw[K.hsz];exact hj)];rfl
  | succ i =>
   rw[List.getElem?_append_right (by rw[K.hsz,Nat.succ_mul];omega),K.hsz,Nat.succ_mul]
   have:=ih i (by simpa using hi);rw[show i*K.sz+K.sz+j-K.sz=i*K.sz+j by omega,this];rfl
def OwnR (K:RowK α) (t:TypeId) (w:World) (B:Nat) (v:Value) (P:List α):Prop :=
 w.ownsRow B t K.sz v P.length (K.cs P)∧∀p∈P,K.In w (fun b=>B≤b∧some b≠v.ownBlock) p
theorem OwnR.nil (K:RowK α) (t:TypeId) (w:World) (B:Nat):OwnR K t w B (.slice none 0 0) []:=⟨World.ownsRow_nil _ _ _ _,fun p h=>absurd h (by simp)⟩
theorem OwnR.form {K:RowK α} {t:TypeId} {w:World} {B:Nat} {v:Value} {P:List α} (h:OwnR K t w B v P):∃A c,v=.slice A P.length c:=zb4 h.1
theorem OwnR.keep {K:RowK α} {t:TypeId} {w w':World} {B:Nat} {v:Value} {P:List α} (h:OwnR K t w B v P) (_hs:w.heap.size≤w'.heap.size) (hk:∀b,B≤b→b<w.heap.size→w'.heap[b]?=w.heap[b]?):OwnR K t w' B v P:=by
 refine⟨⟨h.1.1,?_⟩,fun p hp=>K.keep (h.2 p hp) fun b hb hl=>hk b hb.1 hl⟩;rcases h.1.2 with h0|⟨g,cap,cur,e,hg,hb,r⟩
 ·
  exact .inl h0
 ·
  exact .inr ⟨g,cap,cur,e,hg,(hk g hg (lt_of_block hb)).trans hb,r⟩
theorem OwnR.grown {K:RowK α} {t:TypeId} {w w':World} {B g:Nat} {v:Value} {P:List α} (h:OwnR K t w B v P) (hG:w.grownBy w' (some g)) (hg:g<B):OwnR K t w' B v P :=
 h.keep hG.size fun b hb hl=>hG.block b hl (fun e=>by injection e with e;omega)
theorem OwnR.alloc {K:RowK α} {t:TypeId} {w:World} {B:Nat} {v:Value} {P:List α} (h:OwnR K t w B v P) (o:Obj):OwnR K t (w.alloc o) B v P :=
 h.keep (by simp) fun b _ hl=>Below.heap_alloc w o b hl
theorem OwnR.snoc {K:RowK α} {t:TypeId} {w w':World} {B:Nat} {v v':Value} {P:List α} {a:α} (h:OwnR K t w B v P) (ha:K.In w (fun b=>B≤b∧some b≠v.ownBlock) a)
  (ho:w'.ownsRow B t K.sz v' (P.length+1) (K.cs P++K.cl a)) (hg:w.grownBy w' v.ownBlock) (hv:v'.ownBlock=v.ownBlock∨∃k,v'.ownBlock=some k∧w.heap.size≤k):OwnR K t w' B v' (P++[a]):=by
 have hin:∀p,K.In w (fun b=>B≤b∧some b≠v.ownBlock) p→K.In w' (fun b=>B≤b∧some b≠v'.ownBlock) p:=fun p hp=>by
  have h1:K.In w' (fun b=>(B≤b∧some b≠v.ownBlock)∧b<w.heap.size) p:=K.keep (K.more hp (fun b hb hl=>⟨hb,hl⟩)) fun b hb hl=>hg.block b hl hb.1.2;refine K.more h1 fun b hb _=>⟨hb.1.1,?_⟩;rcases hv with e|⟨k,e,hk⟩
  ·
   rw[e];exact hb.1.2
  ·
   rw[e];intro e2;injection e2 with e2
   have:=hb.2;omega
 refine⟨?_,fun p hp=>?_⟩
 ·
  rw[K.cs_snoc,List.length_append];exact ho
 ·
  rcases List.mem_append.1 hp with h1|h1
  ·
   exact hin p (h.2 p h1)
  ·
   rw[List.mem_singleton.1 h1];exact hin a ha
theorem RowK.fresh (K:RowK α) {w:World} {N B:Nat} {v:Value} {t:TypeId} {P:List α} {a:α} {w0:World} (hi:K.In w (N≤·) a) (h0:OwnR K t w0 B v P) (hN:w0.heap.size≤N) (hB:B≤N):K.In w (fun b=>B≤b∧some b≠v.ownBlock) a :=
 K.more hi fun b hb _=>⟨by omega,fun e=>by have:=(h0.1.lt b e.symm).2;omega⟩
theorem lies_own {v:Value} {g n c:Nat} {w:World} (h:v.ownBlock=some g∨g=w.heap.size):(Value.slice (some ⟨g,0,none⟩) n c).ownBlock=v.ownBlock∨∃k,(Value.slice (some ⟨g,0,none⟩) n c).ownBlock=some k∧w.heap.size≤k:=by
 rcases h with h|h
 ·
  exact .inl h.symm
 ·
  exact .inr ⟨g,rfl,by omega⟩
theorem ExM.low' {w:World} {S:Nat→Prop} {E:Ex} {f:EF} (h:ExM w S E f):ExM w (fun b=>S b∧b<w.heap.size) E f:=by
 induction h with
 | mk op num name args A c F hc hs ih =>
  refine .mk op num name args A c F (fun i hi=>?_) ih;obtain⟨b,off,e,hb,hat⟩:=hc i hi;exact⟨b,off,e,⟨hb,hat.lt⟩,hat⟩
end
structure ArG where
 A:Option Addr
 n:Nat
 c:Nat
 f:EF
def arK:RowK (Ar × ArG) where
 cl:=fun p=>[.bool p.1.m,.string ⟨p.1.r.name.toArray⟩,.slice p.2.A p.2.n p.2.c,.int .i64 p.2.f.op,.int .i64 p.2.f.num,.string ⟨p.2.f.name.toArray⟩,.slice p.2.f.A p.2.f.n p.2.f.c]
 sz:=7
 hsz:=fun _=>rfl
 one:=fun p u hu=>by
  simp at hu;rcases hu with rfl|rfl|rfl|rfl|rfl|rfl|rfl<;>rfl
 In:=fun w S p=>IdxM w S p.1.r.idx p.2.A p.2.n∧ExM w S p.1.e p.2.f
 keep:=fun h hk=>⟨h.1.keep hk,h.2.keep hk⟩
 more:=fun {w S S' a} h hs=>by
  refine⟨?_,?_⟩
  ·
   have h1:=h.1;cases hx:a.1.r.idx with
   | none=>rw[hx] at h1;exact h1
   | some E =>
    rw[hx] at h1;obtain⟨hn,b,off,f,e,hb,hat,hM⟩:=h1;exact⟨hn,b,off,f,e,hs b hb hat.lt,hat,(hM.low').more fun b hb=>hs b hb.1 hb.2⟩
  ·
   exact h.2.low'.more fun b hb=>hs b hb.1 hb.2
theorem zcJ {t:TypeId} {w:World} {B n c:Nat} {A:Option Addr} {P:List (Ar × ArG)} (h:OwnR arK t w B (.slice A n c) P):ArsM w (B≤·) (P.map (·.1)) A:=by
 intro i hi;have hi':i<P.length:=by simpa using hi
 obtain⟨A',c',e⟩:=h.form;simp only[Value.slice.injEq] at e;obtain⟨-,rfl,rfl⟩:=e;obtain⟨g,hA,hg⟩:∃g,A=some ⟨g,0,none⟩∧B≤g:=by
  rcases h.1.2 with⟨_,h0⟩|⟨g,cap',cur,e,hg,_⟩
  ·
   omega
  ·
   simp only[Value.slice.injEq] at e;exact⟨g,e.1,hg⟩
 subst hA;have q:∀j,j<7→w.cell? ⟨g,i*7+j,none⟩=(arK.cl P[i])[j]?:=fun j hj=>(World.ownsRow.cellAt h.1 _ (by show i*7+j<P.length*7;omega)).trans (arK.cs_at P i j hi' hj);have hin:=h.2 P[i] (List.getElem_mem hi');simp only[List.getElem_map];refine⟨g,0,rfl,hg,P[i].2.A,P[i].2.n,P[i].2.c,P[i].2.f,?_,?_,?_,hin.1.more fun b hb=>hb.1,⟨?_,?_,?_,?_⟩,hin.2.more fun b hb=>hb.1⟩
 ·
  rw[Nat.zero_add];exact q 0 (by omega)
 ·
  rw[Nat.zero_add];exact q 1 (by omega)
 ·
  rw[Nat.zero_add];exact q 2 (by omega)
 ·
  rw[Nat.zero_add];exact q 3 (by omega)
 ·
  rw[Nat.zero_add];exact q 4 (by omega)
 ·
  rw[Nat.zero_add];exact q 5 (by omega)
 ·
  rw[Nat.zero_add];exact q 6 (by omega)
theorem Tryz.infoArg:(Tryz.prog.info? 77).map (fun i=>(i.zero,i.size,i.bytes))=some (some (.agg #[.bool false,.string ⟨#[]⟩,.slice none 0 0,.int .i64 0,.int .i64 0,.string ⟨#[]⟩,.slice none 0 0]),7,104):=by kernel_rfl
def ArgsP (w:World) (g:Nat) (ts:List Tk.Tok) (σ:Pa.Sg) (o:Nat) (e:Ending) (w':World):Prop :=
 ∃A c,e=.returned (.slice A (Pa.sArgs ts σ).1.length c)∧ArsM w' (w.heap.size≤·) (Pa.sArgs ts σ).1 A∧Pps w' g ts (Pa.sArgs ts σ).2 o∧w.grownBy w' (some g)
theorem zak (W:World) (g:Nat) (hg:g=W.heap.size) (cs:List Value) (t:TypeId) (j:Nat) (u:Value) (hj:cs[j]?=some u):(W.alloc (.cells cs.toArray t)).cell? ((⟨g,0,none⟩:Addr).add j)=some u:=by
 subst hg;rw[Go.WideShapes.add_plain,Nat.zero_add,World.cell?_alloc_mark];simpa using hj
theorem zah {v:Value} {g n c H:Nat} {w:World} (h:v.ownBlock=some g∨g=H) (hH:w.heap.size=H):(Value.slice (some ⟨g,0,none⟩) n c).ownBlock=v.ownBlock∨∃k,(Value.slice (some ⟨g,0,none⟩) n c).ownBlock=some k∧w.heap.size≤k :=
 lies_own (by rw[hH];exact h)
def ArgsL (w:World) (g:Nat) (ts:List Tk.Tok) (R:List Ar × Pa.Sg) (o f:Nat) (v:Value) (wr:World):Prop :=
 ∃(P:List (Ar × ArG)) (τ:Pa.Sg),OwnR arK 77 wr w.heap.size v P∧Pps wr g ts τ o∧w.grownBy wr (some g)∧P.length≤1000000∧(τ.live=true→P.length≤τ.k∧ts.length≤f+τ.k) ∧
  (if Pa.isS ts τ [44]=true then Pa.sArgL ts f (Pa.nx τ) (P.map (·.1)) else (P.map (·.1),Pa.xp ts τ [41]))=R
set_option maxRecDepth 100000 in
set_option maxHeartbeats 4000000 in
theorem zis (w:World) (g:Nat) (ts:List Tk.Tok) (σ:Pa.Sg) (o:Nat) (hP:Pps w g ts σ o) (hS:SgG w g) :
  Calls Tryz.prog 98 #[.pointer (some ⟨g,0,none⟩),.func (.func 99) #[.pointer (some ⟨g,0,none⟩)] #[]] w (ArgsP w g ts σ o):=by
 obtain⟨i0,hi,hz0,hz1,hz2⟩:=info_parts Tryz.infoArg;have HP:=zH hP;have HS:=zH hS;have hgw:=hP.lt;clear hP hS;go_enter Tryz.func98,Tryz.ntmps98;go_wp2_with fail;refine(zap w g ts σ o [40] HP.out).mono ?_;rintro x w1 ⟨rfl,hP1,hG1⟩;have HP1:=zH hP1;have HG1:=zH hG1;clear hP1 hG1;generalize hσ1:Pa.xp ts σ [40]=σ1 at *;have HS1:=zH hσ1;clear hσ1;go_wp2_with fail;refine(zam w1 g ts σ1 o [41] HP1.out).mono ?_;rintro x w2 ⟨rfl,hP2,hG2⟩;have HP2:=zH hP2;have HG2:=zH (za0 HG1.out hG2);clear hP2 hG2;cases hI:Pa.isS ts σ1 [41] with
 | true =>
  have HV:Hid (Pa.sArgs ts σ=([],Pa.nx σ1)):=by show _=_;unfold Pa.sArgs;rw[HS1.out,if_pos hI]
  have hac:Pa.ac ts σ1 [41]=Pa.nx σ1:=if_pos hI;rw[hac] at HP2;clear hac hI;go_wp2_with fail;go_ret;refine⟨none,0,by rw[HV.out];rfl,?_,by rw[HV.out];exact HP2.out,HG2.out⟩;rw[HV.out];exact fun i hi=>absurd hi (by simp)
 | false =>
  have HV:Hid (Pa.sArgs ts σ=Pa.sArgL ts (ts.length+1) σ1 []):=by show _=_;unfold Pa.sArgs;rw[HS1.out,if_neg (by rw[hI];decide)]
  have hac:Pa.ac ts σ1 [41]=σ1:=if_neg (by rw[hI];decide);rw[hac] at HP2;clear hac hI;go_wp2_with fail;refine(zgZ w2 g ts σ1 o 0 HP2.out (HS.out.grown HG2.out)).mono ?_;rintro x w3 ⟨A,n,c,f,rfl,hX3,hE3,hP3,hG3⟩;have HP3:=zH hP3;have HG3:=zH (za0 HG2.out hG3);have HI3:Hid (arK.In w3 (w2.heap.size≤·) ((Pa.sArg ts σ1).1,⟨A,n,c,f⟩)):=⟨hX3,hE3⟩;have hl2:w.heap.size≤w2.heap.size:=HG2.out.size;have hl3:w.heap.size≤w3.heap.size:=HG3.out.size;have HFW:=zH (Pa.sArg_fws ts σ1);clear hX3 hE3 hP3 hG3;have HV2:Hid (Pa.sArgs ts σ=if Pa.isS ts (Pa.sArg ts σ1).2 [44]=true then Pa.sArgL ts ts.length (Pa.nx (Pa.sArg ts σ1).2) [(Pa.sArg ts σ1).1] else ([(Pa.sArg ts σ1).1],Pa.xp ts (Pa.sArg ts σ1).2 [41])):=by
   show _=_;rw[HV.out,Pa.sArgL];rfl
  generalize (Pa.sArg ts σ1).2=τ1 at *;generalize (Pa.sArg ts σ1).1=a1 at *;have hO3:OwnR arK 77 w3 w.heap.size (.slice none 0 0) []:=OwnR.nil _ _ _ _;have HO3:=zH hO3;clear hO3;go_wp2_with (first|(at_builtin;refine wpList_append_lies _ rfl (.tmp 10) (.tmp 13) 71 rfl w.heap.size 77 i0 _ 7 104 Tryz.underlying71 hi hz0 hz1 hz2 rfl (by decide) _ 0 [] rfl (World.ownsRow_nil _ _ _ _) ⟨w3.heap.size,0,none⟩ 1 1 [.bool a1.m,.string ⟨a1.r.name.toArray⟩,.slice A n c,.int .i64 f.op,.int .i64 f.num,.string ⟨f.name.toArray⟩,.slice f.A f.n f.c] rfl rfl (zak w3 _ rfl _ _) (arK.one (a1,⟨A,n,c,f⟩)) (by omega) (by unfold maxLen;omega) (by omega) (by simp;omega) _ rfl ?_));intro gb cap w4 hown hgrow hlies hgl;have hO4:OwnR arK 77 w4 w.heap.size (.slice (some ⟨gb,0,none⟩) 1 cap) [(a1,⟨A,n,c,f⟩)]:=(HO3.out.alloc _).snoc (arK.fresh (arK.keep HI3.out fun b _ hl=>Below.heap_alloc w3 _ b hl) (OwnR.nil arK 77 w2 w.heap.size) (lR _) (by omega)) hown hgrow (zah hlies (by simp));have HO4:=zH hO4;have HP4:Hid (Pps w4 g ts τ1 o):=(HP3.out.alloc _).keep fun b hb=>hgrow.block b (by have:=HP3.out.lt;simp;omega) (by simp[Value.ownBlock]);have HG4:Hid (w.grownBy w4 (some g)):=za0 (zag HG3.out _) ⟨hgrow.os,hgrow.tape,hgrow.output,hgrow.size,fun k hk _=>hgrow.block k hk (by simp[Value.ownBlock])⟩;have HL0:Hid (ArgsL w g ts (Pa.sArgs ts σ) o ts.length (.slice (some ⟨gb,0,none⟩) 1 cap) w4):=⟨[(a1,⟨A,n,c,f⟩)],τ1,HO4.out,HP4.out,HG4.out,by simp,fun hl=>⟨by have:=(HFW.out hl).2;simp;omega,by omega⟩,HV2.out.symm⟩;clear hO4 hown hgrow hlies hgl HO3 HI3 HP3 HG3 HV2 HFW HO4 HP4 HG4 HV HP2 HP1;go_wp2_with fail
  go_loopg [5] ts.length (fun k v wr=>Hid (ArgsL w g ts (Pa.sArgs ts σ) o k v wr))
  case atStart=>exact HL0.out
  case round =>
   clear HL0;obtain⟨P,τ,hO,hP,hG,hPl,hlv,hR⟩:=hrel.out;clear hrel;obtain⟨sa,sc,rfl⟩:=hO.form;have HO:=zH hO;have HPr:=zH hP;have HGr:=zH hG;have HLV:=zH hlv;have HR:=zH hR;have hnT:=hP.inT;have hnn:ts.length≤1000000:=by obtain⟨_,_,_,_,_,h,_⟩:=hP;exact h
   have hwl:w.heap.size≤wr.heap.size:=hG.size;clear hO hP hG hlv hR;go_wp2_with fail;refine(zam wr g ts τ o [44] HPr.out).mono ?_;rintro x w5 ⟨rfl,hP5,hG5⟩;have HP5:=zH hP5;have HG5:=zH (za0 HGr.out hG5);have HO5:=zH (HO.out.grown hG5 hgw);have hl5:wr.heap.size≤w5.heap.size:=hG5.size;clear hP5 hG5;cases hI:Pa.isS ts τ [44] with
   | true =>
    obtain⟨k0,rfl,-,-⟩:=zei hI;obtain⟨hk1,hk2⟩:=HLV.out rfl;have hk3:(Pa.Sg.at_ k0).k=k0:=rfl;rw[hk3] at hk1 hk2 hnT;have hac:Pa.ac ts (.at_ k0) [44]=.at_ (k0+1):=if_pos hI;rw[hac] at HP5;obtain⟨f1,rfl⟩:∃f1,gk=f1+1:=⟨gk-1,by omega⟩;have HR2:Hid (Pa.sArgs ts σ=if Pa.isS ts (Pa.sArg ts (.at_ (k0+1))).2 [44]=true then Pa.sArgL ts f1 (Pa.nx (Pa.sArg ts (.at_ (k0+1))).2) (P.map (·.1)++[(Pa.sArg ts (.at_ (k0+1))).1]) else (P.map (·.1)++[(Pa.sArg ts (.at_ (k0+1))).1],Pa.xp ts (Pa.sArg ts (.at_ (k0+1))).2 [41])):=by
     have:=HR.out;rw[if_pos hI] at this;show _=_;rw[←this,show Pa.nx (.at_ k0)=.at_ (k0+1) from rfl,Pa.sArgL]
    have HFW:=zH (Pa.sArg_fws ts (.at_ (k0+1)));clear hac hI hk3 HR HLV;go_wp2_with fail;refine(zgZ w5 g ts (.at_ (k0+1)) o _ HP5.out (HS.out.grown HG5.out)).mono ?_;rintro x w6 ⟨A',n',c',f',rfl,hX6,hE6,hP6,hG6⟩;have HP6:=zH hP6;have HG6:=zH (za0 HG5.out hG6);have HI6:Hid (arK.In w6 (w5.heap.size≤·) ((Pa.sArg ts (.at_ (k0+1))).1,⟨A',n',c',f'⟩)):=⟨hX6,hE6⟩;have HO6:=zH (HO5.out.grown hG6 hgw);have hl6:w.heap.size≤w6.heap.size:=HG6.out.size;clear hX6 hE6 hP6 hG6;generalize (Pa.sArg ts (.at_ (k0+1))).2=τ2 at *;generalize (Pa.sArg ts (.at_ (k0+1))).1=a2 at *;go_wp2_with (first|(at_builtin;refine wpList_append_lies _ rfl (.tmp 17) (.tmp 22) 71 rfl w.heap.size 77 i0 _ 7 104 Tryz.underlying71 hi hz0 hz1 hz2 rfl (by decide) _ P.length (arK.cs P) rfl (HO6.out.alloc _).1 ⟨w6.heap.size,0,none⟩ 1 1 [.bool a2.m,.string ⟨a2.r.name.toArray⟩,.slice A' n' c',.int .i64 f'.op,.int .i64 f'.num,.string ⟨f'.name.toArray⟩,.slice f'.A f'.n f'.c] rfl rfl (zak w6 _ rfl _ _) (arK.one (a2,⟨A',n',c',f'⟩)) (by omega) (by unfold maxLen;omega) (by omega) (by simp;omega) _ rfl ?_));intro gb2 cap2 w7 hown hgrow hlies hgl;have hO7:OwnR arK 77 w7 w.heap.size (.slice (some ⟨gb2,0,none⟩) (P.length+1) cap2) (P++[(a2,⟨A',n',c',f'⟩)]):=(HO6.out.alloc _).snoc (arK.fresh (arK.keep HI6.out fun b _ hl=>Below.heap_alloc w6 _ b hl) HO5.out (lR _) (by omega)) hown hgrow (zah hlies (by simp));have HO7:=zH hO7;have hgo:∀b,b≤g→some b≠(Value.slice sa P.length sc).ownBlock:=fun b hb e=>by have:=(HO6.out.1.lt b e.symm).1;omega
    have HP7:Hid (Pps w7 g ts τ2 o):=(HP6.out.alloc _).keep fun b hb=>hgrow.block b (by have:=HP6.out.lt;simp;omega) (hgo b hb);have HG7:Hid (w.grownBy w7 (some g)):=⟨hgrow.os.trans HG6.out.os,hgrow.tape.trans HG6.out.tape,hgrow.output.trans HG6.out.output,Nat.le_trans hl6 (Nat.le_trans (by simp) hgrow.size),fun b hb hne=>(hgrow.block b (by simp;omega) (fun e=>by have:=(HO6.out.1.lt b e.symm).1;omega)).trans ((Below.heap_alloc w6 _ b (by omega)).trans (HG6.out.block b hb hne))⟩;clear hO7 hown hgrow hlies hgl hgo HO6 HI6 HP6 HO5 HP5;go_wp2_with fail;go_roundg f1
    case rel =>
     refine⟨P++[(a2,⟨A',n',c',f'⟩)],τ2,HO7.out,HP7.out,HG7.out,by simp;omega,fun hl=>?_,?_⟩
     ·
      have h1:=(HFW.out hl).2;have h2:(Pa.Sg.at_ (k0+1)).k=k0+1:=rfl;refine⟨by simp;omega,by omega⟩
     ·
      rw[HR2.out,List.map_append];rfl
    case measure=>omega
   | false =>
    have hac:Pa.ac ts τ [44]=τ:=if_neg (by rw[hI];decide);rw[hac] at HP5;have HR2:Hid (Pa.sArgs ts σ=(P.map (·.1),Pa.xp ts τ [41])):=by
     have:=HR.out;rw[if_neg (by rw[hI];decide)] at this;exact this.symm
    clear hac hI HR HLV;go_wp2_with fail;refine(zap w5 g ts τ o [41] HP5.out).mono ?_;rintro x w6 ⟨rfl,hP6,hG6⟩;have HP6:=zH hP6;have HG6:=zH (za0 HG5.out hG6);have HO6:=zH (HO5.out.grown hG6 hgw);clear hP6 hG6;go_wp2_with fail;go_ret;refine⟨sa,sc,by rw[HR2.out,List.length_map];rfl,?_,by rw[HR2.out];exact HP6.out,HG6.out⟩;rw[HR2.out];exact zcJ HO6.out
end Go.Proofs.YtlnbmmgbfgmboaaGreatDoor
