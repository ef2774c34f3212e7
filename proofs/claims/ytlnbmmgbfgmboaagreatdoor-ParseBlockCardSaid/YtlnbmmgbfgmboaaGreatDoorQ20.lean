import Derived.Test.YtlnbmmgbfgmboaaGreatDoorQa
import Derived.Test.YtlnbmmgbfgmboaaGreatDoorQ19
namespace Go.Proofs.YtlnbmmgbfgmboaaGreatDoor
open Go.RowKit
def Rs (w:World) (g:Nat) (ts:List Tk.Tok) (σ:Pa.Sg) (d:Nat):Prop :=
 match σ with
 | .at_ k=>∃bad,Rsr w g ts k bad 0 0 d
 | .bad m e=>e≠0∧m<ts.length∧∃k,Rsr w g ts k m e 0 d
theorem Rs.keep {w w':World} {g:Nat} {ts:List Tk.Tok} {σ:Pa.Sg} {d:Nat} (h:Rs w g ts σ d) (hk:∀b,b≤g→w'.heap[b]?=w.heap[b]?):Rs w' g ts σ d:=by
 cases σ with
 | at_ k=>obtain⟨bad,h⟩:=h;exact⟨bad,h.keep hk⟩
 | bad m e=>obtain⟨he,hm,k,h⟩:=h;exact⟨he,hm,k,h.keep hk⟩
theorem Rs.lt {w:World} {g:Nat} {ts:List Tk.Tok} {σ:Pa.Sg} {d:Nat} (h:Rs w g ts σ d):g<w.heap.size:=by
 cases σ with
 | at_ k=>obtain⟨bad,h⟩:=h;exact h.lt
 | bad m e=>obtain⟨he,hm,k,h⟩:=h;exact h.lt
theorem Rs.later {w w':World} {g:Nat} {ts:List Tk.Tok} {σ:Pa.Sg} {d:Nat} (h:Rs w g ts σ d) (hb:Below w.heap.size w w'):Rs w' g ts σ d :=
 h.keep fun b hle=>hb.block b (Nat.lt_of_le_of_lt hle h.lt)
theorem Rs.alloc {w:World} {g:Nat} {ts:List Tk.Tok} {σ:Pa.Sg} {d:Nat} (h:Rs w g ts σ d) (o:Obj):Rs (w.alloc o) g ts σ d :=
 h.later ((Below.refl _ _).alloc (lR _) _)
theorem Rs.putAt {w w':World} {g r:Nat} {ts:List Tk.Tok} {σ:Pa.Sg} {d:Nat} (h:Rs w g ts σ d) (hp:PutAt r w w') (hr:g<r):Rs w' g ts σ d :=
 h.keep fun b hle=>hp.2.2.2.2 b (by omega)
theorem zgC {ts:List Tk.Tok} (hW:WdOk ts) (k:Nat) (s:List UInt8):isB ts k 0 s=Pa.isS ts (.at_ k) s:=by
 unfold isB Pa.isS Pa.kd;obtain⟨h3,h4⟩:=hW k;by_cases ht:Ps.textAt ts k=s
 ·
  subst ht;by_cases hr:Tk.resv (Ps.textAt ts k)=true
  ·
   have:Ps.kindAt ts k≠4:=fun e=>by rw[h4 e] at hr;cases hr
   simp[hr,this]
  ·
   have:Ps.kindAt ts k≠3:=fun e=>hr (h3 e);simp[hr,this]
 ·
  simp[ht]
theorem rsKind (w:World) (g:Nat) (ts:List Tk.Tok) (σ:Pa.Sg) (d K:Nat) (v:Int) (hv:v=(K:Int)) (hP:Rs w g ts σ d) :
  Calls Tryz.prog 36 #[.pointer (some ⟨g,0,none⟩),.int .i64 v] w fun x w'=>x=.returned (.bool (Pa.kdS ts σ K))∧Below w.heap.size w w':=by
 cases σ with
 | at_ k =>
  obtain⟨bad,h⟩:=hP;refine(zaG w g ts k bad 0 0 d K v hv h).mono ?_;rintro x w' ⟨rfl,hb⟩;exact⟨by simp[zb2,Pa.kdS],hb⟩
 | bad m e =>
  obtain⟨he,hm,k,h⟩:=hP;refine(zaG w g ts k m e 0 d K v hv h).mono ?_;rintro x w' ⟨rfl,hb⟩;exact⟨by simp[zb2,Pa.kdS,he],hb⟩
theorem rsIs (w:World) (g:Nat) (ts:List Tk.Tok) (hW:WdOk ts) (σ:Pa.Sg) (d:Nat) (s:List UInt8) (hP:Rs w g ts σ d) :
  Calls Tryz.prog 37 #[.pointer (some ⟨g,0,none⟩),.string ⟨s.toArray⟩] w fun x w'=>x=.returned (.bool (Pa.isS ts σ s))∧Below w.heap.size w w':=by
 cases σ with
 | at_ k =>
  obtain⟨bad,h⟩:=hP;refine(zaK w g ts k bad 0 0 d s h).mono ?_;rintro x w' ⟨rfl,hb⟩;exact⟨by rw[zgC hW],hb⟩
 | bad m e =>
  obtain⟨he,hm,k,h⟩:=hP;refine(zaK w g ts k m e 0 d s h).mono ?_;rintro x w' ⟨rfl,hb⟩;exact⟨by rw[zc5 he];rfl,hb⟩
theorem rsFail (w:World) (g:Nat) (ts:List Tk.Tok) (σ:Pa.Sg) (d E:Nat) (v:Int) (hv:v=(E:Int)) (hE:E≠0) (hP:Rs w g ts σ d) :
  Calls Tryz.prog 38 #[.pointer (some ⟨g,0,none⟩),.int .i64 v] w fun x w'=>x=.returned (.tuple #[])∧Rs w' g ts (Pa.fl σ E) d∧w.grownBy w' (some g):=by
 cases σ with
 | at_ k =>
  obtain⟨bad,h⟩:=hP;refine(zcr w g ts k bad 0 0 d E v hv h).mono ?_;rintro x w' ⟨rfl,hr,hG⟩;exact⟨rfl,⟨hE,h.inT,k,hr⟩,hG⟩
 | bad m e =>
  obtain⟨he,hm,k,h⟩:=hP;refine(zcr w g ts k m e 0 d E v hv h).mono ?_;rintro x w' ⟨rfl,hr,hG⟩;rw[if_neg he,if_neg he] at hr;exact⟨rfl,⟨he,hm,k,hr⟩,hG⟩
theorem zbV (w:World) (g:Nat) (ts:List Tk.Tok) (hlast:Ps.kindAt ts (ts.length-1)=5) (hW:WdOk ts) (σ:Pa.Sg) (d:Nat) (s:List UInt8) (hP:Rs w g ts σ d) :
  Calls Tryz.prog 39 #[.pointer (some ⟨g,0,none⟩),.string ⟨s.toArray⟩] w fun x w'=>x=.returned (.bool (Pa.isS ts σ s))∧Rs w' g ts (Pa.ac ts σ s) d∧w.grownBy w' (some g):=by
 cases σ with
 | at_ k =>
  obtain⟨bad,h⟩:=hP;refine(zcS w g ts k bad 0 0 d s hlast h).mono ?_;rintro x w' ⟨rfl,hr,hG⟩;unfold zda at hr;rw[zgC hW] at hr ⊢;refine⟨rfl,?_,hG⟩;unfold Pa.ac;split at hr
  ·
   rename_i hc;rw[if_pos hc];exact⟨bad,hr⟩
  ·
   rename_i hc;rw[if_neg hc];exact⟨bad,hr⟩
 | bad m e =>
  obtain⟨he,hm,k,h⟩:=hP;refine(zcS w g ts k m e 0 d s hlast h).mono ?_;rintro x w' ⟨rfl,hr,hG⟩;unfold zda at hr;rw[zc5 he,if_neg (by decide)] at hr;rw[zc5 he];exact⟨rfl,⟨he,hm,k,hr⟩,hG⟩
theorem zbW (w:World) (g:Nat) (ts:List Tk.Tok) (hlast:Ps.kindAt ts (ts.length-1)=5) (hW:WdOk ts) (σ:Pa.Sg) (d:Nat) (s:List UInt8) (hP:Rs w g ts σ d) :
  Calls Tryz.prog 50 #[.pointer (some ⟨g,0,none⟩),.string ⟨s.toArray⟩] w fun x w'=>x=.returned (.tuple #[])∧Rs w' g ts (Pa.xp ts σ s) d∧w.grownBy w' (some g):=by
 cases σ with
 | at_ k =>
  obtain⟨bad,h⟩:=hP;refine(ze7 w g ts k bad 0 0 d s hlast h).mono ?_;rintro x w' ⟨rfl,hr,hG⟩;unfold zda zet zes at hr;rw[zgC hW] at hr;refine⟨rfl,?_,hG⟩;unfold Pa.xp;by_cases hc:Pa.isS ts (.at_ k) s=true
  ·
   rw[if_pos hc,if_pos hc,if_pos hc] at hr;rw[if_pos hc];exact⟨bad,hr⟩
  ·
   rw[if_neg hc,if_neg hc,if_neg hc] at hr;rw[if_neg hc];exact⟨by decide,h.inT,k,hr⟩
 | bad m e =>
  obtain⟨he,hm,k,h⟩:=hP;refine(ze7 w g ts k m e 0 d s hlast h).mono ?_;rintro x w' ⟨rfl,hr,hG⟩;unfold zda zet zes at hr;simp[zc5 he,he] at hr;exact⟨rfl,⟨he,hm,k,hr⟩,hG⟩
set_option maxRecDepth 100000 in
set_option maxHeartbeats 4000000 in
theorem rname_F (w:World) (g:Nat) (ts:List Tk.Tok) (σ:Pa.Sg) (d:Nat) (hP:Rs w g ts σ d) (hK:Pa.kdS ts σ 1=false) :
  Calls Tryz.prog 42 #[.pointer (some ⟨g,0,none⟩)] w fun x w'=>x=.returned (.string ⟨#[]⟩)∧Rs w' g ts (Pa.fl σ 4) d∧w.grownBy w' (some g):=by
 have HP:=zH hP;have HK:=zH hK;clear hP hK;go_enter Tryz.func42,Tryz.ntmps42;go_wp2_with fail;refine(rsKind w g ts σ d 1 1 rfl HP.out).mono ?_;rw[HK.out];rintro x w1 ⟨rfl,hb⟩;have HP1:=zH (HP.out.later hb);have HB:=zH hb;clear hb;go_wp2_with fail;refine(rsFail w1 g ts σ d 4 4 rfl (by decide) HP1.out).mono ?_;rintro x w2 ⟨rfl,hP2,hG2⟩;have HP2:=zH hP2;have HG2:=zH (za0 (za2 HB.out) hG2);clear hP2 hG2;go_wp2_with fail;go_ret;exact⟨rfl,HP2.out,HG2.out⟩
theorem zgV (w:World) (g:Nat) (ts:List Tk.Tok) (hlast:Ps.kindAt ts (ts.length-1)=5) (σ:Pa.Sg) (d:Nat) (hP:Rs w g ts σ d) :
  Calls Tryz.prog 42 #[.pointer (some ⟨g,0,none⟩)] w fun x w'=>x=.returned (.string ⟨(Pa.nmV ts σ).toArray⟩)∧Rs w' g ts (Pa.tk ts σ 1) d∧w.grownBy w' (some g):=by
 cases hK:Pa.kdS ts σ 1 with
 | false =>
  refine(rname_F w g ts σ d hP hK).mono ?_;rintro x w' ⟨rfl,hr,hG⟩;refine⟨by unfold Pa.nmV;rw[if_neg (by rw[hK];decide)],?_,hG⟩;unfold Pa.tk;rw[if_neg (by rw[hK];decide)];exact hr
 | true =>
  cases σ with
  | bad m e=>cases hK
  | at_ k =>
   obtain⟨bad,h⟩:=hP;refine(zib w g ts k bad 0 0 d hlast h (by simpa[zb2,Pa.kdS] using hK)).mono ?_;rintro x w' ⟨rfl,hr,hG⟩;refine⟨by unfold Pa.nmV;rw[if_pos hK];rfl,?_,hG⟩;unfold Pa.tk;rw[if_pos hK];exact⟨bad,hr⟩
structure TksOk (ts:List Tk.Tok):Prop where
 last:Ps.kindAt ts (ts.length-1)=5
 word:WOk ts
 kinds:WdOk ts
theorem wok_wd {ts:List Tk.Tok} (h:WdOk ts):WOk ts:=by
 have h1:∀x∈[40]::[41]::Ps.sgTab,Tk.resv x=false:=by decide
 intro k h3 hm
 have:=(h k).1 h3;rw[h1 _ hm] at this;cases this
def RxPost (w:World) (g:Nat) (ts:List Tk.Tok) (σ:Pa.Sg) (d:Nat) (x:Ending) (w':World):Prop :=
 ∃f:EF,x=.returned f.val∧Rs w' g ts (Pa.exS ts σ) d∧w.grownBy w' (some g)∧((Pa.exS ts σ).live=true→ExM w' (w.heap.size≤·) (Pa.exX ts σ) f)
theorem zeA (w:World) (g:Nat) (ts:List Tk.Tok) (hT:TksOk ts) (σ:Pa.Sg) (d:Nat) (hP:Rs w g ts σ d) :
  Calls Tryz.prog 73 #[.pointer (some ⟨g,0,none⟩),.int .i64 0] w (RxPost w g ts σ d):=by
 cases σ with
 | at_ k =>
  obtain⟨bad,h⟩:=hP;refine((zfE g ts hT.last hT.word bad d (ts.length+1) k 0 (by omega) (by omega)).1 0 (by omega) w h).mono ?_;rintro x w' ⟨f,rfl,hG,hok,hbad⟩;refine⟨f,rfl,?_,hG,?_⟩
  ·
   show Rs w' g ts (match Ps.PE ts 1 0 k with|.ok _ m=>.at_ m|.bad m e=>.bad m e) d;cases hR:Ps.PE ts 1 0 k with
   | ok y m=>exact⟨bad,(hok y m hR).2⟩
   | bad a e0 =>
    have h1:=Ps.PE_in hT.last 1 0 k h.inT (by omega);rw[hR] at h1;obtain⟨he,k',hr⟩:=hbad a e0 hR;exact⟨he,h1,k',hr⟩
  ·
   show (match Ps.PE ts 1 0 k with|.ok _ m=>Pa.Sg.at_ m|.bad m e=>.bad m e).live=true→ExM w' (w.heap.size≤·) (match Ps.PE ts 1 0 k with|.ok x _=>x|.bad _ _=>noEx) f;cases hR:Ps.PE ts 1 0 k with
   | ok y m=>exact fun _=>(hok y m hR).1
   | bad a e0=>exact fun h=>by cases h
 | bad m e =>
  obtain⟨he,hm,k,h⟩:=hP;refine(zfN g ts k m e 0 d hT.last he 5 0 (by omega) w h).mono ?_;rintro x w' ⟨f,rfl,hG,hr⟩;exact⟨f,rfl,⟨he,hm,k,hr⟩,hG,fun h=>by cases h⟩
theorem Rs.set {w:World} {g:Nat} {ts:List Tk.Tok} {σ:Pa.Sg} {d:Nat} {a:Addr} (h:Rs w g ts σ d) (hg:g<a.block) (v:Value):Rs (w.setCell a v) g ts σ d :=
 h.keep fun b hle=>Below.heap_setCell _ _ _ b (by omega)
theorem zcy {ts:List Tk.Tok} {τ:Pa.Sg} {s:List UInt8} (h:(Pa.xp ts τ s).live=true):τ.live=true:=by
 cases τ with
 | at_ k=>rfl
 | bad m e=>cases h
def RrP (w:World) (g:Nat) (ts:List Tk.Tok) (σ:Pa.Sg) (d:Nat) (e:Ending) (w':World):Prop :=
 ∃A n c,e=.returned (.agg #[.string ⟨(Pa.sRef ts σ).1.name.toArray⟩,.slice A n c])∧((Pa.sRef ts σ).2.live=true→IdxM w' (w.heap.size≤·) (Pa.sRef ts σ).1.idx A n)∧Rs w' g ts (Pa.sRef ts σ).2 d∧w.grownBy w' (some g)
set_option maxRecDepth 100000 in
set_option maxHeartbeats 4000000 in
theorem rsRef (w:World) (g:Nat) (ts:List Tk.Tok) (hT:TksOk ts) (σ:Pa.Sg) (d:Nat) (hP:Rs w g ts σ d) :
  Calls Tryz.prog 75 #[.pointer (some ⟨g,0,none⟩)] w (RrP w g ts σ d):=by
 have HP:=zH hP;have HT:=zH hT;have hgw:=hP.lt;have hgR:g≠w.heap.size:=by omega
 have hgR':w.heap.size≠g:=by omega
 clear hP hT;go_enter Tryz.func75,Tryz.ntmps75;go_wp2_with fail;refine(zgV _ g ts HT.out.last σ d (HP.out.alloc _)).mono ?_;rintro x w1 ⟨rfl,hP1,hG1⟩;have HR1:=zH (za1 hG1 (heap_alloc_new w _) hgR');have HP1:=zH hP1;have HG1:=zH (za6 hG1);have hl1:w.heap.size<w1.heap.size:=by have:=hG1.size;simp at this;omega
 clear hP1 hG1;have hgT:w1.heap.size≠g:=by omega
 generalize hnm:Pa.nmV ts σ=nm at *;have HNM:=zH hnm;clear hnm;go_wp2_with fail;refine(zbV _ g ts HT.out.last HT.out.kinds _ d [91] (HP1.out.alloc _)).mono ?_;rintro x w2 ⟨rfl,hP2,hG2⟩;have HR2:=zH (za1 hG2 ((Below.heap_alloc w1 _ _ hl1).trans HR1.out) hgR');have HT2:=zH (za1 hG2 (heap_alloc_new w1 _) hgT);have HP2:=zH hP2;have HG2:=zH (za0 HG1.out (za6 hG2));have hl2:w1.heap.size<w2.heap.size:=by have:=hG2.size;simp at this;omega
 clear hP2 hG2;cases hI:Pa.isS ts (Pa.tk ts σ 1) [91] with
 | true =>
  have HV:Hid (Pa.sRef ts σ=(⟨nm,some (Pa.exX ts (Pa.nx (Pa.tk ts σ 1)))⟩,Pa.xp ts (Pa.exS ts (Pa.nx (Pa.tk ts σ 1))) [93])):=by show _=_;unfold Pa.sRef;rw[if_pos hI,HNM.out]
  have hac:Pa.ac ts (Pa.tk ts σ 1) [91]=Pa.nx (Pa.tk ts σ 1):=if_pos hI;rw[hac] at HP2;clear hac hI;go_wp2_with fail;refine(zeA w2 g ts HT.out _ d HP2.out).mono ?_;rintro x w3 ⟨f,rfl,hP3,hG3,hM3⟩;unfold EF.val;have HR3:=zH (za1 hG3 HR2.out hgR');have HT3:=zH (za1 hG3 HT2.out hgT);have HP3:=zH hP3;have HM3:=zH hM3;have HG3:=zH (za0 HG2.out hG3);have hl3:w2.heap.size≤w3.heap.size:=hG3.size;clear hP3 hG3 hM3;obtain⟨t0,t1,tf0,tf1,htl⟩:=blk2 HT3.out;go_wp2_with fail;have hs3:(w3.setCell ⟨w1.heap.size,1,none⟩ (.slice (some ⟨w3.heap.size,0,none⟩) 1 1)).heap.size=w3.heap.size:=by simp[World.setCell]
  obtain⟨W4,hW4⟩:∃W,W=(w3.setCell ⟨w1.heap.size,1,none⟩ (.slice (some ⟨w3.heap.size,0,none⟩) 1 1)).alloc (.cells #[.int .i64 f.op,.int .i64 f.num,.string ⟨f.name.toArray⟩,.slice f.A f.n f.c] 68):=⟨_,rfl⟩;have hk4:∀b,b<w3.heap.size→b≠w1.heap.size→W4.heap[b]?=w3.heap[b]?:=fun b hb hn=>by
   rw[hW4];exact(Below.heap_alloc _ _ b (by omega)).trans (Below.heap_setCell _ _ _ b hn)
  have HT4:Hid (W4.heap[w1.heap.size]?=some (.cells #[.string ⟨nm.toArray⟩,.slice (some ⟨w3.heap.size,0,none⟩) 1 1] 70 (0,0))):=by
   rw[hW4];exact(Below.heap_alloc _ _ _ (by omega)).trans (zdt _ HT3.out)
  have HR4:=zH ((hk4 w.heap.size (by omega) (by omega)).trans HR3.out);have HN4:Hid (W4.heap[w3.heap.size]?=some (.cells #[.int .i64 f.op,.int .i64 f.num,.string ⟨f.name.toArray⟩,.slice f.A f.n f.c] 68 (0,0))):=by
   have:=heap_alloc_new (w3.setCell ⟨w1.heap.size,1,none⟩ (.slice (some ⟨w3.heap.size,0,none⟩) 1 1)) (.cells #[.int .i64 f.op,.int .i64 f.num,.string ⟨f.name.toArray⟩,.slice f.A f.n f.c] 68);rw[hs3] at this;rw[hW4];exact this
  have HP4:Hid (Rs W4 g ts (Pa.exS ts (Pa.nx (Pa.tk ts σ 1))) d):=by
   rw[hW4];exact(HP3.out.set (by show g<w1.heap.size;omega) _).alloc _
  have HM4:=zH (fun h=>(HM3.out h).keep (w':=W4) fun b hb hl=>hk4 b hl (by omega));have HG4:Hid (w.grownBy W4 (some g)):=by
   rw[hW4];exact zag (zaD HG3.out (by show w.heap.size≤w1.heap.size;omega) _) _
  rw[←hW4];clear hW4 hk4 hs3 t0 t1 tf0 tf1;refine(zbW W4 g ts HT.out.last HT.out.kinds _ d [93] HP4.out).mono ?_;rintro x w5 ⟨rfl,hP5,hG5⟩;obtain⟨t0,t1,-,-,-⟩:=blk2 (za1 hG5 HT4.out hgT);obtain⟨r0,r1,rf0,rf1,-⟩:=blk2 (za1 hG5 HR4.out hgR');have HN5:=zH (za1 hG5 HN4.out (by omega));have HM5:=zH (fun h=>(HM4.out h).keep (w':=w5) fun b hb hl=>hG5.block b hl (fun e=>by injection e with e;omega));have HP5:=zH hP5;have HG5:=zH (za0 HG4.out hG5);have hTR:w1.heap.size≠w.heap.size:=by omega
  clear hP5 hG5;go_wp2_with fail;refine bodyPost_ret (v:=.agg #[.string ⟨nm.toArray⟩,.slice (some ⟨w3.heap.size,0,none⟩) 1 1]) (by simp[results,Tryz.results75,go_sem,r0,r1]) rfl ⟨some ⟨w3.heap.size,0,none⟩,1,1,by rw[HV.out],?_,?_,?_⟩
  ·
   rw[HV.out];intro hlv;have hlv':=zcy hlv;have hk:∀b,b≠w.heap.size→((w5.setCell ⟨w.heap.size,0,none⟩ (.string ⟨nm.toArray⟩)).setCell ⟨w.heap.size,1,none⟩ (.slice (some ⟨w3.heap.size,0,none⟩) 1 1)).heap[b]?=w5.heap[b]?:=fun b hb=>(Below.heap_setCell _ _ _ b hb).trans (Below.heap_setCell _ _ _ b hb);obtain⟨n0,n1,n2,n3,-,-,-,-,-⟩:=blk4 ((hk w3.heap.size (by omega)).trans HN5.out);refine⟨rfl,w3.heap.size,0,f,rfl,by omega,⟨n0,n1,n2,n3⟩,((HM5.out hlv').keep fun b hb _=>hk b (by omega)).more fun b hb=>by omega⟩
  ·
   rw[HV.out]
   repeat (with_reducible refine Rs.set ?_ hgw _)
   exact HP5.out
  ·
   repeat (with_reducible refine zaD ?_ (lR _) _)
   exact HG5.out
 | false =>
  have HV:Hid (Pa.sRef ts σ=(⟨nm,none⟩,Pa.tk ts σ 1)):=by show _=_;unfold Pa.sRef;rw[if_neg (by rw[hI];decide),HNM.out]
  have hac:Pa.ac ts (Pa.tk ts σ 1) [91]=Pa.tk ts σ 1:=if_neg (by rw[hI];decide);rw[hac] at HP2;clear hac hI;obtain⟨t0,t1,-,-,-⟩:=blk2 HT2.out;obtain⟨r0,r1,rf0,rf1,-⟩:=blk2 HR2.out;have hTR:w1.heap.size≠w.heap.size:=by omega
  go_wp2_with fail;refine bodyPost_ret (v:=.agg #[.string ⟨nm.toArray⟩,.slice none 0 0]) (by simp[results,Tryz.results75,go_sem,r0,r1]) rfl ⟨none,0,0,by rw[HV.out],?_,?_,?_⟩
  ·
   rw[HV.out];exact fun _=>rfl
  ·
   rw[HV.out]
   repeat (with_reducible refine Rs.set ?_ hgw _)
   exact HP2.out
  ·
   repeat (with_reducible refine zaD ?_ (lR _) _)
   exact HG2.out
theorem Rs.ecell {w:World} {g:Nat} {ts:List Tk.Tok} {σ:Pa.Sg} {d:Nat} (h:Rs w g ts σ d):w.cell? ⟨g,3,none⟩=some (.int .i64 (σ.e:Int)):=by
 cases σ with
 | at_ k=>obtain⟨bad,h⟩:=h;obtain⟨b,c,-,-,-,-,-,q3,-⟩:=h.cells;exact q3
 | bad m e=>obtain⟨he,hm,k,h⟩:=h;obtain⟨b,c,-,-,-,-,-,q3,-⟩:=h.cells;exact q3
theorem Rs.err {w:World} {g:Nat} {ts:List Tk.Tok} {m e:Nat} {d:Nat} (h:Rs w g ts (.bad m e) d):e≠0:=h.1
theorem Rs.inT {w:World} {g:Nat} {ts:List Tk.Tok} {σ:Pa.Sg} {d:Nat} (h:Rs w g ts σ d):σ.k<ts.length:=by
 cases σ with
 | at_ k=>obtain⟨bad,h⟩:=h;exact h.inT
 | bad m e=>exact h.2.1
theorem Rs.len {w:World} {g:Nat} {ts:List Tk.Tok} {σ:Pa.Sg} {d:Nat} (h:Rs w g ts σ d):ts.length≤1000000:=by
 cases σ with
 | at_ k=>obtain⟨bad,_,_,_,_,_,h,_⟩:=h;exact h
 | bad m e=>obtain⟨_,_,k,_,_,_,_,_,h,_⟩:=h;exact h
theorem Rsr.dcell {w:World} {g:Nat} {ts:List Tk.Tok} {k bad e o d:Nat} (h:Rsr w g ts k bad e o d):w.cell? ⟨g,5,none⟩=some (.int .i64 (d:Int))∧∀n,w.frozen? ⟨g,n,none⟩=false:=by
 obtain⟨A,c,hb,_⟩:=h;exact⟨by rw[cell_of_row w g 5 _ _ _ hb];rfl,fun n=>by simp[World.frozen?,hb]⟩
theorem Rs.dcell {w:World} {g:Nat} {ts:List Tk.Tok} {σ:Pa.Sg} {d:Nat} (h:Rs w g ts σ d):w.cell? ⟨g,5,none⟩=some (.int .i64 (d:Int))∧∀n,w.frozen? ⟨g,n,none⟩=false:=by
 cases σ with
 | at_ k=>obtain⟨bad,h⟩:=h;exact h.dcell
 | bad m e=>obtain⟨_,_,k,h⟩:=h;exact h.dcell
theorem Rsr.deep {w:World} {g:Nat} {ts:List Tk.Tok} {k bad e o d:Nat} (h:Rsr w g ts k bad e o d) (j:Nat):Rsr (w.setCell ⟨g,5,none⟩ (.int .i64 (j:Int))) g ts k bad e o j:=by
 have ho:o≤1000:=by obtain⟨A,c,_,_,ho,_⟩:=h;exact ho
 refine h.mk' k bad e o j h.inT ho (fun A c hb=>?_) fun b hb=>Below.heap_setCell w _ _ b (by simpa using hb);simp[World.setCell,Array.getElem?_modify];exact⟨_,hb,rfl⟩
theorem Rs.deep {w:World} {g:Nat} {ts:List Tk.Tok} {σ:Pa.Sg} {d:Nat} (h:Rs w g ts σ d) (j:Nat) (v:Int) (hv:v=(j:Int)):Rs (w.setCell ⟨g,5,none⟩ (.int .i64 v)) g ts σ j:=by
 subst hv;cases σ with
 | at_ k=>obtain⟨bad,h⟩:=h;exact⟨bad,h.deep j⟩
 | bad m e=>obtain⟨he,hm,k,h⟩:=h;exact⟨he,hm,k,h.deep j⟩
theorem zcW {w W W':World} {g B n size:Nat} {t:TypeId} {v:Value} {xs:List Value} (h:w.grownBy W (some g)) (ho:W.ownsRow B t size v n xs) (hB:w.heap.size≤B) (hg:W.grownBy W' v.ownBlock):w.grownBy W' (some g) :=
 ⟨hg.os.trans h.os,hg.tape.trans h.tape,hg.output.trans h.output,Nat.le_trans h.size hg.size,fun b hb hne=>(hg.block b (Nat.lt_of_lt_of_le hb h.size) (fun e=>by have:=(ho.lt b e.symm).1;omega)).trans (h.block b hb hne)⟩
theorem Rs.app {W W':World} {g B n size:Nat} {t:TypeId} {v:Value} {xs:List Value} {ts:List Tk.Tok} {σ:Pa.Sg} {d:Nat} (h:Rs W g ts σ d) (ho:W.ownsRow B t size v n xs) (hB:g<B) (hg:W.grownBy W' v.ownBlock):Rs W' g ts σ d :=
 h.keep fun b hb=>hg.block b (Nat.lt_of_le_of_lt hb h.lt) (fun e=>by have:=(ho.lt b e.symm).1;omega)
theorem zeV {W:World} {m n:Nat} (o:Obj) (h:m≤n) (e:W.heap.size=n):m≤(W.alloc o).heap.size:=by
 rw[show (W.alloc o).heap.size=W.heap.size+1 by simp];omega
theorem zeU {W:World} {n:Nat} (o:Obj) (e:W.heap.size=n):(W.alloc o).heap.size=n+1:=by
 rw[show (W.alloc o).heap.size=W.heap.size+1 by simp,e]
theorem zhq (ts:List Tk.Tok) (f m e:Nat) (l:List Ar):(Pa.sArgL ts (f+1) (.bad m e) l).2=.bad m e:=by
 rw[Pa.sArgL,if_neg (show ¬Pa.isS ts (Pa.sArg ts (.bad m e)).2 [44]=true from fun h=>by cases h)];rfl
def RaP (w:World) (g:Nat) (ts:List Tk.Tok) (σ:Pa.Sg) (d:Nat) (e:Ending) (w':World):Prop :=
 ∃A n c,e=.returned (.slice A n c)∧((Pa.sArgs ts σ).2.live=true→n=(Pa.sArgs ts σ).1.length∧ArsM w' (w.heap.size≤·) (Pa.sArgs ts σ).1 A)∧Rs w' g ts (Pa.sArgs ts σ).2 d∧w.grownBy w' (some g)
def RaL (w:World) (g:Nat) (ts:List Tk.Tok) (R:List Ar × Pa.Sg) (d f:Nat) (v:Value) (wr:World):Prop :=
 ∃τ,Rs wr g ts τ d∧w.grownBy wr (some g)∧((τ.live=false∧R.2=τ∧∃A n c,v=.slice A n c) ∨
  (τ.live=true∧∃P:List (Ar × ArG),OwnR arK 77 wr w.heap.size v P∧P.length≤τ.k∧ts.length≤f+τ.k∧Pa.sArgL ts f τ (P.map (·.1))=R))
set_option maxRecDepth 100000 in
set_option maxHeartbeats 4000000 in
theorem rsArgs (w:World) (g:Nat) (ts:List Tk.Tok) (hT:TksOk ts) (σ:Pa.Sg) (d:Nat) (hP:Rs w g ts σ d) :
  Calls Tryz.prog 74 #[.pointer (some ⟨g,0,none⟩)] w (RaP w g ts σ d):=by
 obtain⟨i0,hi,hz0,hz1,hz2⟩:=info_parts Tryz.infoArg;have HP:=zH hP;have HT:=zH hT;have hgw:=hP.lt;clear hP hT;go_enter Tryz.func74,Tryz.ntmps74;go_wp2_with fail;refine(zbW w g ts HT.out.last HT.out.kinds σ d [40] HP.out).mono ?_;rintro x w1 ⟨rfl,hP1,hG1⟩;have HP1:=zH hP1;have HG1:=zH hG1;clear hP1 hG1;generalize hσ1:Pa.xp ts σ [40]=σ1 at *;have HS1:=zH hσ1;clear hσ1;go_wp2_with fail;refine(zbV w1 g ts HT.out.last HT.out.kinds σ1 d [41] HP1.out).mono ?_;rintro x w2 ⟨rfl,hP2,hG2⟩;have HP2:=zH hP2;have HG2:=zH (za0 HG1.out hG2);clear hP2 hG2;cases hI:Pa.isS ts σ1 [41] with
 | true =>
  have HV:Hid (Pa.sArgs ts σ=([],Pa.nx σ1)):=by show _=_;unfold Pa.sArgs;rw[HS1.out,if_pos hI]
  have hac:Pa.ac ts σ1 [41]=Pa.nx σ1:=if_pos hI;rw[hac] at HP2;clear hac hI;go_wp2_with fail;go_ret;refine⟨none,0,0,rfl,fun _=>?_,by rw[HV.out];exact HP2.out,HG2.out⟩;rw[HV.out];exact⟨rfl,fun i hi=>absurd hi (by simp)⟩
 | false =>
  have HV:Hid (Pa.sArgs ts σ=Pa.sArgL ts (ts.length+1) σ1 []):=by show _=_;unfold Pa.sArgs;rw[HS1.out,if_neg (by rw[hI];decide)]
  have hac:Pa.ac ts σ1 [41]=σ1:=if_neg (by rw[hI];decide);rw[hac] at HP2;have HL0:Hid (RaL w g ts (Pa.sArgs ts σ) d (ts.length+1) (.slice none 0 0) w2):=by
   refine⟨σ1,HP2.out,HG2.out,?_⟩;cases σ1 with
   | at_ k=>exact .inr ⟨rfl,[],OwnR.nil _ _ _ _,Nat.zero_le _,by omega,HV.out.symm⟩
   | bad m e=>exact .inl ⟨rfl,by rw[HV.out];exact zhq _ _ _ _ _,none,0,0,rfl⟩
  clear hac hI HV;generalize hR0:Pa.sArgs ts σ=R at *;have HR0:=zH hR0;clear hR0;go_wp2_with fail
  go_loopg [3] (ts.length+1) (fun k v wr=>Hid (RaL w g ts R d k v wr))
  case atStart=>exact HL0.out
  case round =>
   clear HL0 HP2 HG2 HP1 HG1;obtain⟨τ,hP,hG,hcase⟩:=hrel.out;clear hrel;have HPr:=zH hP;have HGr:=zH hG;have hnn:=hP.len;have hkT:=hP.inT;have s3:=hP.ecell;have hwl:w.heap.size≤wr.heap.size:=hG.size;have hne:wr.heap.size≠g:=by omega
   clear hP hG;rcases hcase with⟨hdead,hRe,A,n,c,rfl⟩|⟨hlive,P,hO,hPk,hfk,hR⟩
   ·
    cases τ with
    | at_ k=>cases hdead
    | bad m e =>
     have he:e≠0:=HPr.out.err;have t0:(((Pa.Sg.bad m e).e:Int)==0)=false:=bF (show ((e:Nat):Int)≠0 by omega);have HRe:=zH hRe;clear he hRe hdead;go_wp2_with fail;go_ret;refine⟨A,n,c,rfl,fun h=>?_,by rw[HR0.out,HRe.out];exact HPr.out,HGr.out⟩;rw[HR0.out,HRe.out] at h;cases h
   ·
    cases τ with
    | bad m e=>cases hlive
    | at_ k0 =>
     have hk3:(Pa.Sg.at_ k0).k=k0:=rfl;rw[hk3] at hPk hfk hkT;obtain⟨sa,sc,rfl⟩:=hO.form;have t0:(((Pa.Sg.at_ k0).e:Int)==0)=true:=rfl;obtain⟨f1,rfl⟩:∃f1,gk=f1+1:=⟨gk-1,by omega⟩;have HO:=zH hO;have HR:=zH hR;have HFW:=zH (Pa.sArg_fws ts (.at_ k0));clear hO hR hlive hk3;go_wp2_with fail;refine(zbV _ g ts HT.out.last HT.out.kinds (.at_ k0) d [109,117,116,101,120] (HPr.out.alloc _)).mono ?_;rintro x w1 ⟨rfl,hP1,hG1⟩;have HB1:=zH (za1 hG1 (heap_alloc_new wr _) hne);have HP1:=zH hP1;have HG1:=zH (za0 HGr.out (za6 hG1));have HK1:Hid (∀b,w.heap.size≤b→b<wr.heap.size→w1.heap[b]?=wr.heap[b]?):=fun b hb hl=>(hG1.block b (by simp;omega) (fun e=>by injection e with e;omega)).trans (Below.heap_alloc wr _ b hl);have hl1:wr.heap.size<w1.heap.size:=lt_of_block HB1.out;clear hP1 hG1 s3 t0;cases hI:Pa.isS ts (.at_ k0) [109,117,116,101,120] with
     | true =>
      have hac:Pa.ac ts (.at_ k0) [109,117,116,101,120]=.at_ (k0+1):=if_pos hI;rw[hac] at HP1;have hsa:Pa.sArg ts (.at_ k0)=(⟨true,(Pa.sRef ts (.at_ (k0+1))).1,noEx⟩,(Pa.sRef ts (.at_ (k0+1))).2):=if_pos hI;have HR2:Hid (R=if Pa.isS ts (Pa.sRef ts (.at_ (k0+1))).2 [44]=true then Pa.sArgL ts f1 (Pa.nx (Pa.sRef ts (.at_ (k0+1))).2) (P.map (·.1)++[⟨true,(Pa.sRef ts (.at_ (k0+1))).1,noEx⟩]) else (P.map (·.1)++[⟨true,(Pa.sRef ts (.at_ (k0+1))).1,noEx⟩],Pa.xp ts (Pa.sRef ts (.at_ (k0+1))).2 [41])):=by
       show _=_;rw[←HR.out,Pa.sArgL,hsa]
      rw[hsa] at HFW;dsimp only at HFW;clear hac hI hsa HR;go_wp2_with fail;refine(rsRef w1 g ts HT.out (.at_ (k0+1)) d HP1.out).mono ?_;rintro x w2 ⟨A,n,c,rfl,hX2,hP2,hG2⟩;generalize (Pa.sRef ts (.at_ (k0+1))).1=r at *;generalize (Pa.sRef ts (.at_ (k0+1))).2=τ2 at *;obtain⟨q0,q1,q2,q3,q4,q5,q6,qf,-⟩:=blk7 (za1 hG2 HB1.out hne);have u0:=qf 0;have u1:=qf 1;have u2:=qf 2;have u3:=qf 3;have u4:=qf 4;have u5:=qf 5;have u6:=qf 6;have HX2:=zH hX2;have HP2:=zH hP2;have HG2:=zH (za0 HG1.out hG2);have HK2:Hid (∀b,w.heap.size≤b→b<wr.heap.size→w2.heap[b]?=wr.heap[b]?):=fun b hb hl=>(hG2.block b (by omega) (fun e=>by injection e with e;omega)).trans (HK1.out b hb hl);have hl2:w1.heap.size≤w2.heap.size:=hG2.size;clear hX2 hP2 hG2 qf HB1 HP1 HG1 HK1;have HQ:=zH ((((((((PutAt.refl wr.heap.size w2).set 0 (.bool true)).set 1 (.string ⟨r.name.toArray⟩)).set 2 (.slice A n c)).set 3 (.int .i64 0)).set 4 (.int .i64 0)).set 5 (.string ⟨#[]⟩)).set 6 (.slice none 0 0));have HO2:=zH (HO.out.keep (Nat.le_trans (by omega) (Nat.le_of_eq HQ.out.2.2.2.1.symm)) (fun b hb hl=>(HQ.out.2.2.2.2 b (by omega)).trans (HK2.out b hb hl)));have HSZ:=zH HQ.out.2.2.2.1;go_wp2_with (first|(at_builtin;refine wpList_append_lies _ rfl (.tmp 23) (.tmp 25) 71 rfl w.heap.size 77 i0 _ 7 104 Tryz.underlying71 hi hz0 hz1 hz2 rfl (by decide) _ P.length (arK.cs P) rfl (HO2.out.alloc _).1 ⟨w2.heap.size,0,none⟩ 1 1 [.bool true,.string ⟨r.name.toArray⟩,.slice A n c,.int .i64 0,.int .i64 0,.string ⟨#[]⟩,.slice none 0 0] rfl rfl (zak _ _ HSZ.out.symm _ _) (arK.one ((⟨true,r,noEx⟩:Ar),(⟨A,n,c,⟨0,0,[],none,0,0⟩⟩:ArG))) (by omega) (by unfold maxLen;omega) (by omega) (zeV _ (by omega) HSZ.out) _ rfl ?_));intro gb cap w3 hown hgrow hlies hgl;have HO3:Hid (τ2.live=true→OwnR arK 77 w3 w.heap.size (.slice (some ⟨gb,0,none⟩) (P.length+1) cap) (P++[((⟨true,r,noEx⟩:Ar),(⟨A,n,c,⟨0,0,[],none,0,0⟩⟩:ArG))])):=fun hl=>(HO2.out.alloc _).snoc (arK.fresh (N:=w1.heap.size) (arK.keep (show arK.In _ (w1.heap.size≤·) ((⟨true,r,noEx⟩:Ar),(⟨A,n,c,⟨0,0,[],none,0,0⟩⟩:ArG)) from ⟨(HX2.out hl).putAt HQ.out (by omega),ExM.leaf _ _ _ _ _ _ _⟩) fun b _ hl=>Below.heap_alloc _ _ b hl) HO.out (by omega) (by omega)) hown hgrow (zah hlies (zeU _ HSZ.out));have HP3:Hid (Rs w3 g ts τ2 d):=((HP2.out.putAt HQ.out (by omega)).alloc _).app (HO2.out.alloc _).1 hgw hgrow;have HG3:Hid (w.grownBy w3 (some g)):=zcW (zag (za5 HG2.out HQ.out hwl) _) (HO2.out.alloc _).1 (lR _) hgrow;clear hown hgrow hlies hgl HO2 HX2 HP2 HG2 HK2 HQ HSZ q0 q1 q2 q3 q4 q5 q6 u0 u1 u2 u3 u4 u5 u6 HO;go_wp2_with fail;refine(zbV w3 g ts HT.out.last HT.out.kinds τ2 d [44] HP3.out).mono ?_;rintro x w4 ⟨rfl,hP4,hG4⟩;have HP4:=zH hP4;have HG4:=zH (za0 HG3.out hG4);have HO4:Hid (τ2.live=true→OwnR arK 77 w4 w.heap.size (.slice (some ⟨gb,0,none⟩) (P.length+1) cap) (P++[((⟨true,r,noEx⟩:Ar),(⟨A,n,c,⟨0,0,[],none,0,0⟩⟩:ArG))])):=fun hl=>(HO3.out hl).grown hG4 hgw;clear hP4 hG4 HO3 HP3 HG3;cases hI:Pa.isS ts τ2 [44] with
      | true =>
       obtain⟨k2,rfl,-,-⟩:=zei hI;have hac:Pa.ac ts (.at_ k2) [44]=.at_ (k2+1):=if_pos hI;rw[hac] at HP4;have HR3:=zH (HR2.out.trans (if_pos hI));clear hac hI HR2;go_wp2_with fail;go_roundg f1
       case rel =>
        have h1:k0<k2:=(HFW.out rfl).2;refine⟨.at_ (k2+1),HP4.out,HG4.out,.inr ⟨rfl,P++[((⟨true,r,noEx⟩:Ar),(⟨A,n,c,⟨0,0,[],none,0,0⟩⟩:ArG))],HO4.out rfl,?_,?_,?_⟩⟩
        ·
         show _≤k2+1;simp;omega
        ·
         show _≤f1+(k2+1);omega
        ·
         rw[HR3.out,List.map_append];rfl
       case measure=>omega
      | false =>
       have hac:Pa.ac ts τ2 [44]=τ2:=if_neg (by rw[hI];decide);rw[hac] at HP4;have HR3:=zH (HR2.out.trans (if_neg (by rw[hI];decide)));clear hac hI HR2;go_wp2_with fail;refine(zbW w4 g ts HT.out.last HT.out.kinds τ2 d [41] HP4.out).mono ?_;rintro x w5 ⟨rfl,hP5,hG5⟩;have HP5:=zH hP5;have HG5:=zH (za0 HG4.out hG5);have HO5:Hid (τ2.live=true→OwnR arK 77 w5 w.heap.size (.slice (some ⟨gb,0,none⟩) (P.length+1) cap) (P++[((⟨true,r,noEx⟩:Ar),(⟨A,n,c,⟨0,0,[],none,0,0⟩⟩:ArG))])):=fun hl=>(HO4.out hl).grown hG5 hgw;clear hP5 hG5;go_wp2_with fail;go_ret;refine⟨_,_,_,rfl,fun hl=>?_,by rw[HR0.out,HR3.out];exact HP5.out,HG5.out⟩;rw[HR0.out,HR3.out] at hl ⊢;have h1:=zcJ (HO5.out (zcy hl));rw[List.map_append] at h1;exact⟨by simp,h1⟩
     | false =>
      have hac:Pa.ac ts (.at_ k0) [109,117,116,101,120]=.at_ k0:=if_neg (by rw[hI];decide);rw[hac] at HP1;have hsa:Pa.sArg ts (.at_ k0)=(⟨false,noRf,Pa.exX ts (.at_ k0)⟩,Pa.exS ts (.at_ k0)):=if_neg (by rw[hI];decide);have HR2:Hid (R=if Pa.isS ts (Pa.exS ts (.at_ k0)) [44]=true then Pa.sArgL ts f1 (Pa.nx (Pa.exS ts (.at_ k0))) (P.map (·.1)++[⟨false,noRf,Pa.exX ts (.at_ k0)⟩]) else (P.map (·.1)++[⟨false,noRf,Pa.exX ts (.at_ k0)⟩],Pa.xp ts (Pa.exS ts (.at_ k0)) [41])):=by
       show _=_;rw[←HR.out,Pa.sArgL,hsa]
      rw[hsa] at HFW;dsimp only at HFW;clear hac hI hsa HR;go_wp2_with fail;refine(zeA w1 g ts HT.out (.at_ k0) d HP1.out).mono ?_;rintro x w2 ⟨f,rfl,hP2,hG2,hX2⟩;unfold EF.val;generalize Pa.exX ts (.at_ k0)=E at *;generalize Pa.exS ts (.at_ k0)=τ2 at *;obtain⟨q0,q1,q2,q3,q4,q5,q6,qf,-⟩:=blk7 (za1 hG2 HB1.out hne);have u0:=qf 0;have u1:=qf 1;have u2:=qf 2;have u3:=qf 3;have u4:=qf 4;have u5:=qf 5;have u6:=qf 6;have HX2:=zH hX2;have HP2:=zH hP2;have HG2:=zH (za0 HG1.out hG2);have HK2:Hid (∀b,w.heap.size≤b→b<wr.heap.size→w2.heap[b]?=wr.heap[b]?):=fun b hb hl=>(hG2.block b (by omega) (fun e=>by injection e with e;omega)).trans (HK1.out b hb hl);have hl2:w1.heap.size≤w2.heap.size:=hG2.size;clear hX2 hP2 hG2 qf HB1 HP1 HG1 HK1;have HQ:=zH (((((PutAt.refl wr.heap.size w2).set 3 (.int .i64 f.op)).set 4 (.int .i64 f.num)).set 5 (.string ⟨f.name.toArray⟩)).set 6 (.slice f.A f.n f.c));have HO2:=zH (HO.out.keep (Nat.le_trans (by omega) (Nat.le_of_eq HQ.out.2.2.2.1.symm)) (fun b hb hl=>(HQ.out.2.2.2.2 b (by omega)).trans (HK2.out b hb hl)));have HSZ:=zH HQ.out.2.2.2.1;go_wp2_with (first|(at_builtin;refine wpList_append_lies _ rfl (.tmp 23) (.tmp 25) 71 rfl w.heap.size 77 i0 _ 7 104 Tryz.underlying71 hi hz0 hz1 hz2 rfl (by decide) _ P.length (arK.cs P) rfl (HO2.out.alloc _).1 ⟨w2.heap.size,0,none⟩ 1 1 [.bool false,.string ⟨#[]⟩,.slice none 0 0,.int .i64 f.op,.int .i64 f.num,.string ⟨f.name.toArray⟩,.slice f.A f.n f.c] rfl rfl (zak _ _ HSZ.out.symm _ _) (arK.one ((⟨false,noRf,E⟩:Ar),(⟨none,0,0,f⟩:ArG))) (by omega) (by unfold maxLen;omega) (by omega) (zeV _ (by omega) HSZ.out) _ rfl ?_));intro gb cap w3 hown hgrow hlies hgl;have HO3:Hid (τ2.live=true→OwnR arK 77 w3 w.heap.size (.slice (some ⟨gb,0,none⟩) (P.length+1) cap) (P++[((⟨false,noRf,E⟩:Ar),(⟨none,0,0,f⟩:ArG))])):=fun hl=>(HO2.out.alloc _).snoc (arK.fresh (N:=w1.heap.size) (arK.keep (show arK.In _ (w1.heap.size≤·) ((⟨false,noRf,E⟩:Ar),(⟨none,0,0,f⟩:ArG)) from ⟨rfl,(HX2.out hl).putAt HQ.out (by omega)⟩) fun b _ hl=>Below.heap_alloc _ _ b hl) HO.out (by omega) (by omega)) hown hgrow (zah hlies (zeU _ HSZ.out));have HP3:Hid (Rs w3 g ts τ2 d):=((HP2.out.putAt HQ.out (by omega)).alloc _).app (HO2.out.alloc _).1 hgw hgrow;have HG3:Hid (w.grownBy w3 (some g)):=zcW (zag (za5 HG2.out HQ.out hwl) _) (HO2.out.alloc _).1 (lR _) hgrow;clear hown hgrow hlies hgl HO2 HX2 HP2 HG2 HK2 HQ HSZ q0 q1 q2 q3 q4 q5 q6 u0 u1 u2 u3 u4 u5 u6 HO;go_wp2_with fail;refine(zbV w3 g ts HT.out.last HT.out.kinds τ2 d [44] HP3.out).mono ?_;rintro x w4 ⟨rfl,hP4,hG4⟩;have HP4:=zH hP4;have HG4:=zH (za0 HG3.out hG4);have HO4:Hid (τ2.live=true→OwnR arK 77 w4 w.heap.size (.slice (some ⟨gb,0,none⟩) (P.length+1) cap) (P++[((⟨false,noRf,E⟩:Ar),(⟨none,0,0,f⟩:ArG))])):=fun hl=>(HO3.out hl).grown hG4 hgw;clear hP4 hG4 HO3 HP3 HG3;cases hI:Pa.isS ts τ2 [44] with
      | true =>
       obtain⟨k2,rfl,-,-⟩:=zei hI;have hac:Pa.ac ts (.at_ k2) [44]=.at_ (k2+1):=if_pos hI;rw[hac] at HP4;have HR3:=zH (HR2.out.trans (if_pos hI));clear hac hI HR2;go_wp2_with fail;go_roundg f1
       case rel =>
        have h1:k0<k2:=(HFW.out rfl).2;refine⟨.at_ (k2+1),HP4.out,HG4.out,.inr ⟨rfl,P++[((⟨false,noRf,E⟩:Ar),(⟨none,0,0,f⟩:ArG))],HO4.out rfl,?_,?_,?_⟩⟩
        ·
         show _≤k2+1;simp;omega
        ·
         show _≤f1+(k2+1);omega
        ·
         rw[HR3.out,List.map_append];rfl
       case measure=>omega
      | false =>
       have hac:Pa.ac ts τ2 [44]=τ2:=if_neg (by rw[hI];decide);rw[hac] at HP4;have HR3:=zH (HR2.out.trans (if_neg (by rw[hI];decide)));clear hac hI HR2;go_wp2_with fail;refine(zbW w4 g ts HT.out.last HT.out.kinds τ2 d [41] HP4.out).mono ?_;rintro x w5 ⟨rfl,hP5,hG5⟩;have HP5:=zH hP5;have HG5:=zH (za0 HG4.out hG5);have HO5:Hid (τ2.live=true→OwnR arK 77 w5 w.heap.size (.slice (some ⟨gb,0,none⟩) (P.length+1) cap) (P++[((⟨false,noRf,E⟩:Ar),(⟨none,0,0,f⟩:ArG))])):=fun hl=>(HO4.out hl).grown hG5 hgw;clear hP5 hG5;go_wp2_with fail;go_ret;refine⟨_,_,_,rfl,fun hl=>?_,by rw[HR0.out,HR3.out];exact HP5.out,HG5.out⟩;rw[HR0.out,HR3.out] at hl ⊢;have h1:=zcJ (HO5.out (zcy hl));rw[List.map_append] at h1;exact⟨by simp,h1⟩

end Go.Proofs.YtlnbmmgbfgmboaaGreatDoor
