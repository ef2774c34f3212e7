import Derived.Test.YtlnbmmgbfgmboaaGreatDoorQa
import Derived.Test.YtlnbmmgbfgmboaaGreatDoorQ19
import Derived.Test.YtlnbmmgbfgmboaaGreatDoorRs6G
import Derived.Lib.SlBytesConst
import Derived.Test.YtlnbmmgbfgmboaaGreatDoorQ20
import Derived.Test.YtlnbmmgbfgmboaaGreatDoorQ2
import Derived.Test.YtlnbmmgbfgmboaaGreatDoorQ18
import Derived.Deep.RegionHeld3
namespace Go.Proofs.YtlnbmmgbfgmboaaGreatDoor
open Go.RowKit
set_option maxRecDepth 100000 in
set_option maxHeartbeats 4000000 in
theorem zhu (ts:List Tk.Tok) (A:Option Addr) (c:Nat) (at_:Int) (w:World) (hT:TokS w A ts) (hn:ts.length≤1000000) (hW:WdOk ts) :
  Calls Tryz.prog 11 #[.slice A ts.length c,.int .i64 at_] w (ziX w (zcj ts at_)):=by
 have HT:=zH hT;have HW:=zH hW;clear hT hW;go_enter Tryz.func11,Tryz.ntmps11;go_wp2_with fail;refine(zia _ ts A c at_ hn HT.out.lastK).mono ?_;rintro e w1 ⟨rfl,hb1⟩;have HB1:=zH hb1;clear hb1;cases hO:zfU ts at_ with
 | false =>
  have HV:Hid (zcj ts at_=([],at_,4)):=if_neg (by rw[hO];decide);clear hO;go_wp2_with fail;refine bodyPost_ret (v:=.tuple #[.slice none 0 0,.int .i64 at_,.int .i64 4]) (by simp[results,Tryz.results11,go_sem]) rfl ?_;rw[HV.out];exact zdY HB1.out
 | true =>
  have h0:0≤at_∧at_<ts.length∧Ps.kindAt ts (ts.length-1)=5:=by
   unfold zfU at hO;simpa using hO
  obtain⟨k,rfl⟩:=Int.eq_ofNat_of_zero_le h0.1;have hk:k<ts.length:=by omega
  have HV:=zH (zg9 hk h0.2.2);have HBN:=zH (fun W (hR:Rs W w1.heap.size ts (.at_ k) 0)=>zgm w1.heap.size ts ⟨h0.2.2,wok_wd HW.out,HW.out⟩ 25 0 rfl (by decide) W (.at_ k) hR);have HRS:Hid (Rs (w1.alloc (.cells #[.slice A ts.length c,.int .i64 (k:Int),.int .i64 0,.int .i64 0,.int .i64 0,.int .i64 0] 65)) w1.heap.size ts (.at_ k) 0):=⟨0,rsr_new w1 ts k A c (HT.out.later HB1.out) hk hn⟩;clear hO h0;go_wp2_with fail;refine(HBN.out _ HRS.out).mono ?_;rintro e w2 ⟨A1,n1,c1,rfl,hL,hP,hG⟩;have hs1:=HB1.out.size;have HB:=zH (zeS HB1.out hG);have HL:=zH hL;have HP:=zH hP;clear hL hP hG HBN HRS HT HW;generalize Pa.sBlock ts 25 0 (.at_ k)=R at *;obtain⟨l,τ⟩:=R;cases τ with
  | at_ m =>
   obtain⟨bad,hR⟩:=HP.out;obtain⟨tb,tc,-,-,-,p1,p2,p3,-⟩:=hR.cells;obtain⟨rfl,hM⟩:=HL.out rfl;have HM:Hid (StsM w2 (w.heap.size≤·) l A1):=hM.more fun b hb _=>by simp at hb;omega
   have HV2:Hid (zcj ts (k:Int)=(l,(m:Int),0)):=HV.out;clear HV HP HL hM hR;go_wp2_with fail;go_region
   all_goals
    go_wp2_with fail;refine bodyPost_ret (v:=.tuple #[.slice A1 l.length c1,.int .i64 (m:Int),.int .i64 0]) (by simp[results,Tryz.results11,go_sem]) rfl ?_;rw[HV2.out];exact⟨A1,c1,rfl,HM.out.keep fun b _ _=>rfl,HB.out.drew⟩
  | bad m e =>
   obtain⟨he,hm,k2,hR⟩:=HP.out;obtain⟨tb,tc,-,-,-,p1,p2,p3,-⟩:=hR.cells;have t0:((e:Int) != 0)=true:=nT (show ((e:Nat):Int)≠0 by omega);have HV2:Hid (zcj ts (k:Int)=([],(m:Int),e)):=HV.out;clear HV HP HL hR he;go_wp2_with fail;go_region
   all_goals
    go_wp2_with fail;refine bodyPost_ret (v:=.tuple #[.slice none 0 0,.int .i64 (m:Int),.int .i64 (e:Int)]) (by simp[results,Tryz.results11,go_sem]) rfl ?_;rw[HV2.out];exact⟨none,0,rfl,StsM.nil _ _ _,HB.out.drew⟩
theorem ziQ (l:List UInt8) (C:Array Value) (t:TypeId) (fr:Nat × Nat) (w:World) (hC:C=(l.map fun c=>Value.int .u8 (c.toNat:Int)).toArray):Byt (w.alloc (.cells C t fr)) (some ⟨w.heap.size,0,none⟩) l:=by
 intro i hi;refine⟨w.heap.size,0,rfl,?_⟩;rw[Nat.zero_add,World.cell?_alloc_mark,hC];simp[List.getElem?_eq_getElem hi]
def aw3A:List UInt8:=[109,117,116,101,120,32,97,59,32,102,117,110,99,32,109,97,105,110,40,41,32,123,32,108,111,99,107,32,97,59,32,117,110,108,111,99,107,32,97,59,32,125]
def aw3B:List UInt8:=[109,117,116,101,120,32,97,59,32,97]
theorem aw3A_n:(zcT aw3A).2.1=42:=by kernel_rfl
theorem aw3A_e:(zcT aw3A).2.2=0:=by kernel_rfl
theorem aw3A_m:(zcT aw3A).1.ms.length=1:=by kernel_rfl
theorem aw3A_f:(zcT aw3A).1.fs.map (fun f=>f.body.length)=[2]:=by kernel_rfl
theorem aw3B_n:(zcT aw3B).2.1=9:=by kernel_rfl
theorem aw3B_e:(zcT aw3B).2.2=4:=by kernel_rfl
theorem prgA (w:World) (hS:SgT w):Calls Tryz.prog 15 #[.slice (some ⟨w.heap.size,0,none⟩) 42 42] (w.alloc (.cells #[.int .u8 109,.int .u8 117,.int .u8 116,.int .u8 101,.int .u8 120,.int .u8 32,.int .u8 97,.int .u8 59,.int .u8 32,.int .u8 102,.int .u8 117,.int .u8 110,.int .u8 99,.int .u8 32,.int .u8 109,.int .u8 97,.int .u8 105,.int .u8 110,.int .u8 40,.int .u8 41,.int .u8 32,.int .u8 123,.int .u8 32,.int .u8 108,.int .u8 111,.int .u8 99,.int .u8 107,.int .u8 32,.int .u8 97,.int .u8 59,.int .u8 32,.int .u8 117,.int .u8 110,.int .u8 108,.int .u8 111,.int .u8 99,.int .u8 107,.int .u8 32,.int .u8 97,.int .u8 59,.int .u8 32,.int .u8 125] 5 (42,43))) (zfp (w.alloc (.cells #[.int .u8 109,.int .u8 117,.int .u8 116,.int .u8 101,.int .u8 120,.int .u8 32,.int .u8 97,.int .u8 59,.int .u8 32,.int .u8 102,.int .u8 117,.int .u8 110,.int .u8 99,.int .u8 32,.int .u8 109,.int .u8 97,.int .u8 105,.int .u8 110,.int .u8 40,.int .u8 41,.int .u8 32,.int .u8 123,.int .u8 32,.int .u8 108,.int .u8 111,.int .u8 99,.int .u8 107,.int .u8 32,.int .u8 97,.int .u8 59,.int .u8 32,.int .u8 117,.int .u8 110,.int .u8 108,.int .u8 111,.int .u8 99,.int .u8 107,.int .u8 32,.int .u8 97,.int .u8 59,.int .u8 32,.int .u8 125] 5 (42,43))) (zcT aw3A)) :=
 zdH aw3A (some ⟨w.heap.size,0,none⟩) 42 _ (ziQ aw3A _ _ _ w rfl) (by decide) (by decide) (hS.later ((Below.refl _ _).alloc (lR _) _)) (fun h=>lex_ok aw3A h)
theorem prgB (w:World) (hS:SgT w):Calls Tryz.prog 15 #[.slice (some ⟨w.heap.size,0,none⟩) 10 10] (w.alloc (.cells #[.int .u8 109,.int .u8 117,.int .u8 116,.int .u8 101,.int .u8 120,.int .u8 32,.int .u8 97,.int .u8 59,.int .u8 32,.int .u8 97] 5 (10,11))) (zfp (w.alloc (.cells #[.int .u8 109,.int .u8 117,.int .u8 116,.int .u8 101,.int .u8 120,.int .u8 32,.int .u8 97,.int .u8 59,.int .u8 32,.int .u8 97] 5 (10,11))) (zcT aw3B)) :=
 zdH aw3B (some ⟨w.heap.size,0,none⟩) 10 _ (ziQ aw3B _ _ _ w rfl) (by decide) (by decide) (hS.later ((Below.refl _ _).alloc (lR _) _)) (fun h=>lex_ok aw3B h)
theorem prgB2 (w:World) (o:Obj) (hS:SgT (w.alloc o)):Calls Tryz.prog 15 #[.slice (some ⟨w.heap.size+1,0,none⟩) 10 10] ((w.alloc o).alloc (.cells #[.int .u8 109,.int .u8 117,.int .u8 116,.int .u8 101,.int .u8 120,.int .u8 32,.int .u8 97,.int .u8 59,.int .u8 32,.int .u8 97] 5 (10,11))) (zfp ((w.alloc o).alloc (.cells #[.int .u8 109,.int .u8 117,.int .u8 116,.int .u8 101,.int .u8 120,.int .u8 32,.int .u8 97,.int .u8 59,.int .u8 32,.int .u8 97] 5 (10,11))) (zcT aw3B)):=by
 have:=prgB (w.alloc o) hS
 rwa [show (w.alloc o).heap.size=w.heap.size+1 by simp] at this
set_option maxRecDepth 100000 in
set_option maxHeartbeats 4000000 in
theorem zhK (w:World) (hS:SgT w):Calls Tryz.prog 8 #[] w fun e w'=>e=.returned (.bool true)∧Below w.heap.size w w':=by
 have kc:=fun (w:World) (C:Array Value) (n c:Nat)=>Lib.run_convert_bytes_const (P:=Tryz.prog) w 23 5 C n c Tryz.underlying23 Tryz.underlying5;have HS:=zH hS;have HA:=zH (prgA w hS);have HN:=zH aw3A_n;have HE:=zH aw3A_e;have HMs:=zH aw3A_m;have HFs:=zH aw3A_f;have HBn:=zH aw3B_n;have HBe:=zH aw3B_e;generalize zcT aw3A=VA at *;clear hS;go_enter Tryz.func8,Tryz.ntmps8;go_wp2_with fail;refine HA.out.mono ?_;rintro e w1 ⟨vG,vM,vF,PG,PM,PF,B,rfl,hB,hPg,hV,hb1⟩;rw[HN.out,HE.out];have HB1:=zH (zan hb1 ((Below.refl _ _).alloc (lR _) _));have hm1:PM.length=1:=by have:=HMs.out;rw[hV] at this;exact this
 have hf:=HFs.out;rw[hV] at hf;obtain⟨fe,rfl⟩:∃fe,PF=[fe]:=by
  cases PF with
  | nil=>cases hf
  | cons x r =>
   cases r with
   | nil=>exact⟨x,rfl⟩
   | cons y r=>simp at hf
 have hbody:fe.1.body.length=2:=by simpa using hf
 obtain⟨AG,cG,rfl⟩:=zaS hPg.rG;obtain⟨AM,cM,rfl⟩:=zaS hPg.rM;obtain⟨AF,cF,rfl⟩:=zaS hPg.rF;obtain⟨bf,rfl⟩:∃g,AF=some ⟨g,0,none⟩:=by
  rcases hPg.rF.2 with⟨_,h0⟩|⟨g,cap',cur,e,hg,_⟩
  ·
   simp at h0
  ·
   simp only[Value.slice.injEq] at e;exact⟨g,e.1⟩
 have hc2:w1.cell? ⟨bf,2,none⟩=some (.slice fe.2.B 2 fe.2.d):=by
  have:=World.ownsRow.cellAt hPg.rF 2 (by simp);have h2:(fnK.cs [fe])[2]?=some (.slice fe.2.B fe.1.body.length fe.2.d):=rfl;rw[this,h2,hbody]
 have HC2:=zH hc2;have hbl:bf<w1.heap.size:=World.block_lt_of_cell? _ _ hc2;rw[hm1];have kd:∀(o:Obj) (C:Array Value) (n c:Nat),(convert 23 23 (.slice (some ⟨w1.heap.size+1,0,none⟩) n c)).run Tryz.prog ((w1.alloc o).alloc (.cells C 5))=.ok (.slice (some ⟨w1.heap.size+1,0,none⟩) n c) ((w1.alloc o).alloc (.cells C 5 (C.size,C.size+1))):=fun o C n c=>by
  have:=kc (w1.alloc o) C n c
  rwa [show (w1.alloc o).heap.size=w1.heap.size+1 by simp] at this
 clear hPg hV hb1 hB hf HA HN HE HMs HFs hc2 kc;go_wp2_with fail;refine(prgB2 w1 _ (HS.out.later (HB1.out.alloc HB1.out.size _))).mono ?_;rintro e w2 ⟨vG2,vM2,vF2,PG2,PM2,PF2,B2,rfl,hB2,hPg2,hV2,hb2⟩;rw[HBn.out,HBe.out];obtain⟨AG2,cG2,rfl⟩:=zaS hPg2.rG;obtain⟨AM2,cM2,rfl⟩:=zaS hPg2.rM;obtain⟨AF2,cF2,rfl⟩:=zaS hPg2.rF;have hx1:w2.heap[w1.heap.size]?=some (.cells #[.slice AG PG.length cG,.slice AM 1 cM,.slice (some ⟨bf,0,none⟩) 1 cF] 45 (0,0)):=(hb2.block _ (by simp;omega)).trans ((Below.heap_alloc _ _ _ (by simp)).trans (heap_alloc_new w1 _));obtain⟨x0,x1,x2,-,hxl⟩:=blk3 hx1;have hk2:w2.cell? ⟨bf,2,none⟩=some (.slice fe.2.B 2 fe.2.d):=(World.cell?_of_block (a:=⟨bf,2,none⟩) ((hb2.block bf (by simp;omega)).trans ((Below.heap_alloc _ _ _ (by simp;omega)).trans (Below.heap_alloc _ _ _ hbl)))).trans HC2.out;have hbl2:bf<w2.heap.size:=World.block_lt_of_cell? _ _ hk2;have HB2:=zH (zan hb2 ((HB1.out.alloc HB1.out.size _).alloc (by have:=HB1.out.size;simp;omega) _));clear hPg2 hV2 hb2 hB2 hx1;go_wp2_with fail;go_ret;exact⟨rfl,HB2.out.alloc HB2.out.size _⟩
theorem ExB.leaf (op num:Int) (name:List UInt8) (h:name.length≤9223372036854775807):ExB (.mk op num name []):=.mk _ _ _ _ (by simp) h (fun i hi=>absurd hi (by simp))
theorem ExB.one (op num:Int) (name:List UInt8) (a:Ex) (h:name.length≤9223372036854775807) (ha:ExB a):ExB (.mk op num name [a]):=.mk _ _ _ _ (by simp) h (fun i hi=>by
 have:i=0:=by simpa using hi
 subst this;exact ha)
theorem ExB.two (op num:Int) (name:List UInt8) (a b:Ex) (h:name.length≤9223372036854775807) (ha:ExB a) (hb:ExB b):ExB (.mk op num name [a,b]):=.mk _ _ _ _ (by simp) h (fun i hi=>by
 have:i=0∨i=1:=by simp at hi;omega
 rcases this with rfl|rfl
 ·
  exact ha
 ·
  exact hb)
def TxOk (ts:List Tk.Tok):Prop:=∀k,(Ps.textAt ts k).length≤1000000
theorem exB_fuel (ts:List Tk.Tok) (hX:TxOk ts) (f:Nat):(∀l o k y m,Ps.pE ts f l o k=.ok y m→ExB y)∧(∀l o x k y m,ExB x→Ps.pC ts f l o x k=.ok y m→ExB y)∧(∀o k y m,Ps.pO ts f o k=.ok y m→ExB y):=by
 induction f with
 | zero =>
  refine⟨?_,?_,?_⟩
  ·
   intro l o k y m h;rw[Ps.pE] at h;cases h
  ·
   intro l o x k y m _ h;rw[Ps.pC] at h;cases h
  ·
   intro o k y m h;rw[Ps.pO] at h;cases h
 | succ f ih =>
  obtain⟨iE,iC,iO⟩:=ih;refine⟨?_,?_,?_⟩
  ·
   intro l o k y m h;rw[Ps.step_E] at h;obtain⟨x,k',h1,h2⟩:=Ps.bind_ok h;exact iC _ _ _ _ _ _ (iO _ _ _ _ h1) h2
  ·
   intro l o x k y m hx h;rw[Ps.step_C] at h;split at h
   ·
    injection h with h _;rw[←h];exact hx
   ·
    obtain⟨r,k',h1,h2⟩:=Ps.bind_ok h;exact iC _ _ _ _ _ _ (ExB.two _ _ _ _ _ (by decide) hx (iE _ _ _ _ _ h1)) h2
  ·
   intro o k y m h;rw[Ps.step_O] at h;split at h
   ·
    injection h with h _;rw[←h];exact ExB.leaf _ _ _ (by decide)
   split at h
   ·
    injection h with h _;rw[←h];exact ExB.leaf _ _ _ (Nat.le_trans (hX k) (by omega))
   split at h
   ·
    cases h
   split at h
   ·
    cases h
   split at h
   ·
    obtain⟨r,k',h1,h2⟩:=Ps.bind_ok h;split at h2
    ·
     injection h2 with h2 _;rw[←h2];exact iE _ _ _ _ _ h1
    ·
     cases h2
   ·
    obtain⟨r,k',h1,h2⟩:=Ps.bind_ok h;injection h2 with h2 _;rw[←h2];exact ExB.one _ _ _ _ (by decide) (iO _ _ _ _ h1)
theorem words_ok:(Tk.words.all fun s=>!(([40]::[41]::Ps.sgTab).contains s))=true:=by kernel_rfl
def tokQ (n:Nat) (t:Tk.Tok):Prop:=(t.kind=3→Tk.resv t.text=true)∧t.text.length≤n
theorem tokAt_q (l:List UInt8) (k:Nat) (t:Tk.Tok) (h:Tk.tokAt l k=.ok t):tokQ l.length t:=by
 have htw:∀p:UInt8→Bool,((l.drop k).takeWhile p).length≤l.length:=fun p=>Nat.le_trans (List.takeWhile_sublist p).length_le (by simp);unfold Tk.tokAt at h;split at h
 ·
  unfold Tk.nameAt at h;dsimp only at h;split at h
  ·
   cases h
  ·
   injection h with h;subst h;refine⟨?_,htw _⟩;dsimp only;intro h3;split at h3
   ·
    assumption
   ·
    exact absurd h3 (by decide)
 split at h
 ·
  unfold Tk.numAt at h;dsimp only at h;split at h
  ·
   cases h
  ·
   injection h with h;subst h;exact⟨fun h3=>absurd (show (2:Nat)=3 from h3) (by decide),htw _⟩
 ·
  unfold Tk.signAt at h;split at h
  ·
   injection h with h;subst h;exact⟨fun h3=>absurd (show (4:Nat)=3 from h3) (by decide),by simp;omega⟩
  split at h
  ·
   injection h with h;subst h;exact⟨fun h3=>absurd (show (4:Nat)=3 from h3) (by decide),by simp;omega⟩
  ·
   cases h
theorem lexGo_q (f:Nat) (l:List UInt8):∀(k:Nat) (acc:List Tk.Tok),(∀t∈acc,tokQ l.length t)→∀t∈(Tk.lexGo f l k acc).1,tokQ l.length t:=by
 induction f with
 | zero=>intro k acc _ t ht;rw[Tk.lexGo] at ht;cases ht
 | succ f ih =>
  intro k acc ha;rw[Tk.lexGo];split
  ·
   intro t ht;rcases List.mem_append.1 ht with h|h
   ·
    exact ha t h
   ·
    rw[List.mem_singleton.1 h];exact⟨fun h3=>absurd (show (5:Nat)=3 from h3) (by decide),by simp⟩
  ·
   split
   ·
    intro t ht;cases ht
   ·
    rename_i t' ht';split
    ·
     intro t ht;cases ht
    ·
     refine ih _ _ ?_;intro t ht;rcases List.mem_append.1 ht with h|h
     ·
      exact ha t h
     ·
      rw[List.mem_singleton.1 h];exact tokAt_q l k t' ht'
theorem lex_wok (l:List UInt8) (hl:l.length≤262144):WOk (Tk.lex l).1∧TxOk (Tk.lex l).1:=by
 have hq:∀t∈(Tk.lex l).1,tokQ l.length t:=by
  unfold Tk.lex;rw[if_neg (by omega)];exact lexGo_q _ l _ [] (fun t h=>by cases h)
 generalize (Tk.lex l).1=ts at *;constructor
 ·
  intro k h3;unfold Ps.kindAt at h3;unfold Ps.textAt;cases hk:ts[k]? with
  | none=>rw[hk] at h3;exact absurd h3 (by decide)
  | some t =>
   rw[hk] at h3;dsimp only at h3 ⊢;have h1:=(hq t (List.mem_of_getElem? hk)).1 h3;unfold Tk.resv at h1;have h2:=List.all_eq_true.1 words_ok t.text (by simpa using h1);simpa using h2
 ·
  intro k;unfold Ps.textAt;cases hk:ts[k]? with
  | none=>simp
  | some t =>
   dsimp only
   have:=(hq t (List.mem_of_getElem? hk)).2;omega
def RfB (r:Rf):Prop:=∀E,r.idx=some E→ExB E
def ArB (a:Ar):Prop:=RfB a.r∧ExB a.e
inductive StB:St→Prop
 | mk (kind:Int) (name:List UInt8) (e:Ex) (r:Rf) (args:List Ar) (thn els:List St) (he:ExB e) (hr:RfB r) (hal:args.length≤1000000) (ha:∀a∈args,ArB a) (htl:thn.length≤1000000) (ht:∀s∈thn,StB s) (hel:els.length≤1000000) (hs:∀s∈els,StB s):StB (.mk kind name e r args thn els)
def StsB (l:List St):Prop:=l.length≤1000000∧∀s∈l,StB s
def FnB (f:Fn):Prop:=f.ps.length≤1000000∧StsB f.body
structure PgB (p:Pg):Prop where
 g:p.gs.length≤1000000
 m:p.ms.length≤1000000
 f:p.fs.length≤1000000
 b:∀f∈p.fs,FnB f
theorem zeJ:ExB noEx:=ExB.leaf _ _ _ (by decide)
theorem zeg:RfB noRf:=fun E h=>by cases h
theorem StsB.nil:StsB []:=⟨by simp,fun s h=>by cases h⟩
theorem zhF (ts:List Tk.Tok) (hX:TxOk ts) (σ:Pa.Sg):ExB (Pa.exX ts σ):=by
 cases σ with
 | bad m e=>exact zeJ
 | at_ k =>
  show ExB (match Ps.PE ts 1 0 k with|.ok x _=>x|.bad _ _=>noEx);cases hR:Ps.PE ts 1 0 k with
  | bad m e=>exact zeJ
  | ok x m=>exact(exB_fuel ts hX _).1 _ _ _ _ _ hR
theorem sRef_B (ts:List Tk.Tok) (hX:TxOk ts) (σ:Pa.Sg):RfB (Pa.sRef ts σ).1:=by
 unfold Pa.sRef;split
 ·
  intro E h;injection h with h;rw[←h];exact zhF ts hX _
 ·
  intro E h;cases h
theorem sArg_B (ts:List Tk.Tok) (hX:TxOk ts) (σ:Pa.Sg):ArB (Pa.sArg ts σ).1:=by
 unfold Pa.sArg;split
 ·
  exact⟨sRef_B ts hX _,zeJ⟩
 ·
  exact⟨zeg,zhF ts hX _⟩
theorem sArgL_B (ts:List Tk.Tok) (hX:TxOk ts) (f:Nat):∀(σ:Pa.Sg) (l:List Ar),(∀a∈l,ArB a)→(∀a∈(Pa.sArgL ts f σ l).1,ArB a)∧(Pa.sArgL ts f σ l).1.length≤l.length+f:=by
 induction f with
 | zero=>intro σ l h;exact⟨h,by rw[Pa.sArgL];simp⟩
 | succ f ih =>
  intro σ l h;have h1:∀a∈l++[(Pa.sArg ts σ).1],ArB a:=fun a ha=>by
   rcases List.mem_append.1 ha with h2|h2
   ·
    exact h a h2
   ·
    rw[List.mem_singleton.1 h2];exact sArg_B ts hX σ
  rw[Pa.sArgL];split
  ·
   obtain⟨h2,h3⟩:=ih (Pa.nx (Pa.sArg ts σ).2) _ h1;refine⟨h2,Nat.le_trans h3 ?_⟩;simp;omega
  ·
   refine⟨h1,?_⟩;simp
theorem zi8 (ts:List Tk.Tok) (hX:TxOk ts) (hn:ts.length≤900000) (σ:Pa.Sg):(∀a∈(Pa.sArgs ts σ).1,ArB a)∧(Pa.sArgs ts σ).1.length≤1000000:=by
 unfold Pa.sArgs;split
 ·
  exact⟨(fun a h=>by cases h),by simp⟩
 ·
  obtain⟨h1,h2⟩:=sArgL_B ts hX (ts.length+1) (Pa.xp ts σ [40]) [] (fun a h=>by cases h);exact⟨h1,by simp at h2;omega⟩
theorem StB.plain (kind:Int) (name:List UInt8) (e:Ex) (r:Rf) (args:List Ar) (he:ExB e) (hr:RfB r) (hal:args.length≤1000000) (ha:∀a∈args,ArB a):StB (.mk kind name e r args [] []) :=
 .mk kind name e r args [] [] he hr hal ha (by simp) (fun s h=>by cases h) (by simp) (fun s h=>by cases h)
theorem sSet_B (ts:List Tk.Tok) (hX:TxOk ts) (kind:Int) (name:List UInt8) (σ:Pa.Sg):StB (Pa.sSet ts kind name σ).1:=.plain _ _ _ _ _ (zhF ts hX _) zeg (by simp) (fun a h=>by cases h)
theorem zi6 (ts:List Tk.Tok) (hX:TxOk ts) (hn:ts.length≤900000) (kind:Int) (name:List UInt8) (σ:Pa.Sg):StB (Pa.sCall ts kind name σ).1:=.plain _ _ _ _ _ zeJ zeg (zi8 ts hX hn σ).2 (zi8 ts hX hn σ).1
theorem zi5 (ts:List Tk.Tok) (hX:TxOk ts) (kind:Int) (σ:Pa.Sg):StB (Pa.sLock ts kind σ).1:=.plain _ _ _ _ _ zeJ (sRef_B ts hX σ) (by simp) (fun a h=>by cases h)
theorem sStmt_B (ts:List Tk.Tok) (hX:TxOk ts) (hn:ts.length≤900000) (blk:Pa.Sg→List St × Pa.Sg) (hb:∀τ,StsB (blk τ).1) (σ:Pa.Sg):StB (Pa.sStmt ts blk σ).1:=by
 unfold Pa.sStmt;split
 ·
  exact sSet_B ts hX _ _ _
 split
 ·
  exact zi6 ts hX hn _ _ _
 split
 ·
  exact zi5 ts hX _ _
 split
 ·
  exact zi5 ts hX _ _
 split
 ·
  unfold Pa.sIf;split
  ·
   exact .mk _ _ _ _ _ _ _ (zhF ts hX _) zeg (by simp) (fun a h=>by cases h) (hb _).1 (hb _).2 (hb _).1 (hb _).2
  ·
   exact .mk _ _ _ _ _ _ _ (zhF ts hX _) zeg (by simp) (fun a h=>by cases h) (hb _).1 (hb _).2 (by simp) (fun s h=>by cases h)
 split
 ·
  exact .mk _ _ _ _ _ _ _ (zhF ts hX _) zeg (by simp) (fun a h=>by cases h) (hb _).1 (hb _).2 (by simp) (fun s h=>by cases h)
 split
 ·
  exact .plain _ _ _ _ _ zeJ zeg (by simp) (fun a h=>by cases h)
 split
 ·
  exact zi6 ts hX hn _ _ _
 ·
  exact sSet_B ts hX _ _ _
theorem sStmts_B (ts:List Tk.Tok) (st:Pa.Sg→St × Pa.Sg) (hs:∀τ,StB (st τ).1) (f:Nat):∀(σ:Pa.Sg) (l:List St),(∀s∈l,StB s)→(∀s∈(Pa.sStmts ts st f σ l).1,StB s)∧(Pa.sStmts ts st f σ l).1.length≤l.length+f:=by
 induction f with
 | zero=>intro σ l h;exact⟨h,by rw[Pa.sStmts];simp⟩
 | succ f ih =>
  intro σ l h;rw[Pa.sStmts];split
  ·
   exact⟨h,by simp⟩
  split
  ·
   exact⟨h,by simp⟩
  ·
   obtain⟨h2,h3⟩:=ih (st σ).2 (l++[(st σ).1]) (fun s ha=>by
    rcases List.mem_append.1 ha with h2|h2
    ·
     exact h s h2
    ·
     rw[List.mem_singleton.1 h2];exact hs σ)
   refine⟨h2,Nat.le_trans h3 ?_⟩;simp;omega
theorem sBlock_B (ts:List Tk.Tok) (hX:TxOk ts) (hn:ts.length≤900000) (f:Nat):∀(o:Nat) (σ:Pa.Sg),StsB (Pa.sBlock ts f o σ).1:=by
 induction f with
 | zero=>intro o σ;exact StsB.nil
 | succ f ih =>
  intro o σ;rw[Pa.sBlock];obtain⟨h1,h2⟩:=sStmts_B ts (fun τ=>Pa.sStmt ts (fun υ=>Pa.sBlock ts f (o+1) υ) τ) (fun τ=>sStmt_B ts hX hn _ (fun υ=>ih (o+1) υ) τ) (ts.length+1) (Pa.xp ts (if Pa.isS ts σ [123]=true then Pa.lm σ o 24 else σ) [123]) [] (fun s h=>by cases h);exact⟨by simp at h2;omega,h1⟩
set_option maxRecDepth 100000 in
set_option maxHeartbeats 4000000 in
theorem zhn (N:Nat):∀(E:Ex) (f f':EF) (w:World),SizeOf.sizeOf E<N→ExB E→ExM w (fun _=>True) E f→ExM w (fun _=>True) E f' →
  Calls Tryz.prog 27 #[.agg #[.int .i64 f.op,.int .i64 f.num,.string ⟨f.name.toArray⟩,.slice f.A f.n f.c],.agg #[.int .i64 f'.op,.int .i64 f'.num,.string ⟨f'.name.toArray⟩,.slice f'.A f'.n f'.c]] w fun e w'=>e=.returned (.bool true)∧Below w.heap.size w w':=by
 induction N with
 | zero=>intro E f f' w h;omega
 | succ N ih =>
  intro E f f' w hN hok hM hM';have IH:=zH ih;clear ih;cases hM with
  | mk op num name args A c F hc hs =>
  cases hM' with
  | mk _ _ _ _ A' c' F' hc' hs' =>
  have HC:=zH hc;have HS:=zH hs;have HC':=zH hc';have HS':=zH hs';have HSZ:=zH (fun i h=>zdT op num name args i h);have hal:args.length≤1000000:=by
   cases hok with
   | mk _ _ _ _ hl hn hs=>exact hl
  have HIO:Hid (∀i (h:i<args.length),ExB args[i]):=by
   cases hok with
   | mk _ _ _ _ hl hn hs=>exact hs
  clear hok hc hs hc' hs';have n0:=nF (show op=op from rfl);have n1:=nF (show num=num from rfl);have n2:(name==name)=true:=beq_self_eq_true name;have n3:=nF (show ((args.length:Nat):Int)=args.length from rfl);dsimp only;go_enter Tryz.func27,Tryz.ntmps27;go_wp2_with fail;clear n0 n1 n2 n3
  go_loopw [5] (fun i wr=>∃k:Nat,k≤args.length∧i=.int .i64 k∧Below ((w.alloc (.cells #[.int .i64 op,.int .i64 num,.string ⟨name.toArray⟩,.slice A args.length c] 68)).alloc (.cells #[.int .i64 op,.int .i64 num,.string ⟨name.toArray⟩,.slice A' args.length c'] 68)).heap.size ((w.alloc (.cells #[.int .i64 op,.int .i64 num,.string ⟨name.toArray⟩,.slice A args.length c] 68)).alloc (.cells #[.int .i64 op,.int .i64 num,.string ⟨name.toArray⟩,.slice A' args.length c'] 68)) wr)
   (fun i _=>args.length-(intOf i).toNat)
  case atStart=>exact⟨0,Nat.zero_le _,rfl,Below.refl _ _⟩
  case round =>
   obtain⟨k,hk,rfl,hbel⟩:=hrel;obtain⟨hr0,hr1,hkeep,hsz⟩:=zbS hbel;obtain⟨q0,q1,q2,q3,f0,f1,f2,f3,hz⟩:=blk4 hr0;obtain⟨p0,p1,p2,p3,g0,g1,g2,g3,hz'⟩:=blk4 hr1;have HBE:=zH hbel;have HBW:Hid (Below w.heap.size w wr):=⟨hbel.os,hbel.tape,hbel.output,by omega,hkeep⟩;clear hbel f0 f1 f2 f3 g0 g1 g2 g3 hr0 hr1 hkeep q0 q1 q2 p0 p1 p2;by_cases hlt:k<args.length
   ·
    obtain⟨b,off,rfl,-,hat⟩:=HC.out k hlt;obtain⟨b',off',rfl,-,hat'⟩:=HC'.out k hlt;have hat1:=hat.keep (HBW.out.block b hat.lt);have hat2:=hat'.keep (HBW.out.block b' hat'.lt);obtain⟨a0,a1,a2,a3⟩:=hat1;obtain⟨e0,e1,e2,e3⟩:=hat2;have HCH:=zH ((HS.out k hlt).later HBW.out);have HCH':=zH ((HS'.out k hlt).later HBW.out);have HSK:=zH (show SizeOf.sizeOf args[k]<N by have:=HSZ.out k hlt;omega);have i0:(0:Int)≤(k:Int):=by omega
    have i1:(k:Int)<(args.length:Int):=by omega
    clear hat hat';go_wp2_with fail
    go_region_held3 (fun w'=>w'.cell? ⟨w.heap.size,3,none⟩=some (.slice (some ⟨b,off,none⟩) args.length c)∧w'.cell? ⟨w.heap.size+1,3,none⟩=some (.slice (some ⟨b',off',none⟩) args.length c') ∧
      w'.cell? ⟨b,off+k*4,none⟩=some (.int .i64 (F k).op)∧w'.cell? ⟨b,off+k*4+1,none⟩=some (.int .i64 (F k).num)∧w'.cell? ⟨b,off+k*4+2,none⟩=some (.string ⟨(F k).name.toArray⟩)∧w'.cell? ⟨b,off+k*4+3,none⟩=some (.slice (F k).A (F k).n (F k).c) ∧
      w'.cell? ⟨b',off'+k*4,none⟩=some (.int .i64 (F' k).op)∧w'.cell? ⟨b',off'+k*4+1,none⟩=some (.int .i64 (F' k).num)∧w'.cell? ⟨b',off'+k*4+2,none⟩=some (.string ⟨(F' k).name.toArray⟩)∧w'.cell? ⟨b',off'+k*4+3,none⟩=some (.slice (F' k).A (F' k).n (F' k).c))
     (go_keep)
     (first
      | (go_at_call 27;obtain⟨k0,k1,k2,k3,k4,k5,k6,k7,k8,k9⟩:=‹_∧_∧_∧_∧_∧_∧_∧_∧_∧World.cell? _ ⟨b',off'+k*4+3,none⟩=_›;refine(IH.out args[k] (F k) (F' k) wr.drew HSK.out (HIO.out k hlt) (HCH.out.keep fun _ _ _=>rfl) (HCH'.out.keep fun _ _ _=>rfl)).mono ?_;rintro e w3 ⟨rfl,hb3⟩;have r0:=cell_later hb3 k0;have r1:=cell_later hb3 k1;have r2:=cell_later hb3 k2;have r3:=cell_later hb3 k3;have r4:=cell_later hb3 k4;have r5:=cell_later hb3 k5;have r6:=cell_later hb3 k6;have r7:=cell_later hb3 k7;have r8:=cell_later hb3 k8;have r9:=cell_later hb3 k9;have HB3:=zH hb3;clear k0 k1 k2 k3 k4 k5 k6 k7 k8 k9 hb3))
    all_goals
     clear r0 r1 r2 r3 r4 r5 r6 r7 r8 r9;go_wp2_with fail;go_roundw
     case rel =>
      refine⟨k+1,by omega,by go_num,?_⟩;exact za3 HBE.out ⟨HB3.out.os,HB3.out.tape,HB3.out.output,HB3.out.size,HB3.out.block⟩
     case measure=>simp[intOf];omega
   ·
    go_wp2_with fail;go_ret;exact⟨rfl,HBW.out⟩
theorem zcQ (E:Ex) (f f':EF) (w:World) (hB:ExB E) (hM:ExM w (fun _=>True) E f) (hM':ExM w (fun _=>True) E f') :
  Calls Tryz.prog 27 #[.agg #[.int .i64 f.op,.int .i64 f.num,.string ⟨f.name.toArray⟩,.slice f.A f.n f.c],.agg #[.int .i64 f'.op,.int .i64 f'.num,.string ⟨f'.name.toArray⟩,.slice f'.A f'.n f'.c]] w fun e w'=>e=.returned (.bool true)∧Below w.heap.size w w' :=
 zhn (SizeOf.sizeOf E+1) E f f' w (Nat.lt_succ_self _) hB hM hM'
theorem IdxM.later {w w':World} {E:Option Ex} {A:Option Addr} {n:Nat} (h:IdxM w (fun _=>True) E A n) (hb:Below w.heap.size w w'):IdxM w' (fun _=>True) E A n:=h.keep fun b _ hl=>hb.block b hl
set_option maxRecDepth 100000 in
set_option maxHeartbeats 4000000 in
theorem zdl (r:Rf) (A A':Option Addr) (n n' c c':Nat) (w:World) (hB:RfB r) (hM:IdxM w (fun _=>True) r.idx A n) (hM':IdxM w (fun _=>True) r.idx A' n') :
  Calls Tryz.prog 28 #[.agg #[.string ⟨r.name.toArray⟩,.slice A n c],.agg #[.string ⟨r.name.toArray⟩,.slice A' n' c']] w fun e w'=>e=.returned (.bool true)∧Below w.heap.size w w':=by
 obtain⟨name,idx⟩:=r;dsimp only at hM hM' ⊢;have n2:(name==name)=true:=beq_self_eq_true name;cases idx with
 | none =>
  have h1:n=0:=hM;have h2:n'=0:=hM';subst h1 h2;clear hM hM' hB;go_enter Tryz.func28,Tryz.ntmps28;go_wp2_with fail;go_region
  all_goals
   go_wp2_with fail;go_ret;exact⟨rfl,(((Below.refl _ _).alloc (lR _) _).alloc (by simp) _).drew⟩
 | some E =>
  obtain⟨rfl,b,off,f,rfl,-,hat,hE⟩:=hM;obtain⟨rfl,b',off',f',rfl,-,hat',hE'⟩:=hM';have HEB:=zH (hB E rfl);have hbl:=hat.lt;have hbl':=hat'.lt;have hk:∀(o1 o2:Obj) (b:Nat),b<w.heap.size→((w.alloc o1).alloc o2).heap[b]?=w.heap[b]?:=fun o1 o2 b hl=>(Below.heap_alloc _ _ b (by simp;omega)).trans (Below.heap_alloc _ _ b hl);obtain⟨W,hW⟩:∃W,W=(w.alloc (.cells #[.string ⟨name.toArray⟩,.slice (some ⟨b,off,none⟩) 1 c] 70)).alloc (.cells #[.string ⟨name.toArray⟩,.slice (some ⟨b',off',none⟩) 1 c'] 70):=⟨_,rfl⟩;obtain⟨hn1,hn2⟩:=new2 w (.cells #[.string ⟨name.toArray⟩,.slice (some ⟨b,off,none⟩) 1 c] 70) (.cells #[.string ⟨name.toArray⟩,.slice (some ⟨b',off',none⟩) 1 c'] 70);rw[←hW] at hn1 hn2;obtain⟨p0,p1,-,-,-⟩:=blk2 hn1;obtain⟨q0,q1,-,-,-⟩:=blk2 hn2;have hkW:∀b,b<w.heap.size→W.heap[b]?=w.heap[b]?:=fun b hl=>by rw[hW];exact hk _ _ b hl
  obtain⟨a0,a1,a2,a3⟩:=hat.keep (hkW b hbl);obtain⟨e0,e1,e2,e3⟩:=hat'.keep (hkW b' hbl');have HE:=zH (hE.keep (w':=W) fun b _ hl=>hkW b hl);have HE':=zH (hE'.keep (w':=W) fun b _ hl=>hkW b hl);have HBW:Hid (Below w.heap.size w W):=by rw[hW];exact((Below.refl _ _).alloc (lR _) _).alloc (by simp) _
  have HW:=zH hW;clear hn1 hn2 hk hkW hat hat' hE hE' hB hW hbl hbl';go_enter Tryz.func28,Tryz.ntmps28;go_wp2_with fail;rw[←HW.out];clear HW
  go_region_held3 (fun w'=>w'.cell? ⟨w.heap.size,1,none⟩=some (.slice (some ⟨b,off,none⟩) 1 c)∧w'.cell? ⟨w.heap.size+1,1,none⟩=some (.slice (some ⟨b',off',none⟩) 1 c') ∧
    w'.cell? ⟨b,off,none⟩=some (.int .i64 f.op)∧w'.cell? ⟨b,off+1,none⟩=some (.int .i64 f.num)∧w'.cell? ⟨b,off+2,none⟩=some (.string ⟨f.name.toArray⟩)∧w'.cell? ⟨b,off+3,none⟩=some (.slice f.A f.n f.c) ∧
    w'.cell? ⟨b',off',none⟩=some (.int .i64 f'.op)∧w'.cell? ⟨b',off'+1,none⟩=some (.int .i64 f'.num)∧w'.cell? ⟨b',off'+2,none⟩=some (.string ⟨f'.name.toArray⟩)∧w'.cell? ⟨b',off'+3,none⟩=some (.slice f'.A f'.n f'.c))
   (go_keep)
   (first
    | (go_at_call 27;obtain⟨k0,k1,k2,k3,k4,k5,k6,k7,k8,k9⟩:=‹_∧_∧_∧_∧_∧_∧_∧_∧_∧World.cell? _ ⟨b',off'+3,none⟩=_›;refine(zcQ E f f' W.drew HEB.out (HE.out.keep fun _ _ _=>rfl) (HE'.out.keep fun _ _ _=>rfl)).mono ?_;rintro e w3 ⟨rfl,hb3⟩;have r0:=cell_later hb3 k0;have r1:=cell_later hb3 k1;have r2:=cell_later hb3 k2;have r3:=cell_later hb3 k3;have r4:=cell_later hb3 k4;have r5:=cell_later hb3 k5;have r6:=cell_later hb3 k6;have r7:=cell_later hb3 k7;have r8:=cell_later hb3 k8;have r9:=cell_later hb3 k9;have HB3:=zH hb3;clear k0 k1 k2 k3 k4 k5 k6 k7 k8 k9 hb3))
  all_goals
   clear r0 r1 r2 r3 r4 r5 r6 r7 r8 r9;go_wp2_with fail;go_ret;exact⟨rfl,zan HB3.out HBW.out.drew⟩
end Go.Proofs.YtlnbmmgbfgmboaaGreatDoor
