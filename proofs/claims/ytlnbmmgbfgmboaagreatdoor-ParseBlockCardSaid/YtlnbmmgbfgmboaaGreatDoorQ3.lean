import Derived.Test.YtlnbmmgbfgmboaaGreatDoorQa
import Derived.Test.YtlnbmmgbfgmboaaGreatDoorQ2
import Derived.Test.YtlnbmmgbfgmboaaGreatDoorQ1
import Derived.RegionTactic
import Derived.Deep.RegionHeld3
namespace Go.Proofs.YtlnbmmgbfgmboaaGreatDoor
open Go.RowKit
structure MdE (d:Nat) (E:Ex):Prop where
 ok:ExOk E
 b:ExB E
 sh:zaQ E=true
 ht:exHt E≤2*d
 tx:(zal E).length+8≤30*2 ^ d
theorem zaP {s:List UInt8} (h:zax s=true):1≤s.length∧s.length≤16:=by
 simp only[zax,Bool.and_eq_true,decide_eq_true_eq] at h;exact⟨h.2.1.1,h.2.1.2⟩
theorem zec (op:Int) (k:Nat) (e:Ex):(zbk op k e).length≤(zal e).length+2:=by
 unfold zbk;split
 ·
  simp
 ·
  omega
theorem zfg (op:Int) (k:Nat) (e:Ex):zcw op k e≤exHt e+1:=by
 unfold zcw;split<;>omega
theorem zcz (d:Nat):1≤2 ^ d:=Nat.pow_pos (by omega)
theorem md_num (n:Nat) (hn:n≤4611686018427387904) (d:Nat):MdE d (.mk 1 (n:Int) [] []):=by
 have hp:=zcz d;refine⟨.mk _ _ _ _ (by omega) (.inl ⟨.inl rfl,rfl⟩) (fun j hj=>absurd hj (by simp)),.mk _ _ _ _ (by simp) (by simp) (fun j hj=>absurd hj (by simp)),?_,?_,?_⟩
 ·
  rw[zbs,zb3,zaN,if_pos (by decide)];simp
 ·
  rw[zdB,zbQ,if_neg (by decide)];omega
 ·
  rw[zcx,zaR,if_pos rfl]
  have:=zdc (n:Int);omega
theorem md_name (s:List UInt8) (h:zax s=true) (d:Nat):MdE d (.mk 2 0 s []):=by
 have hp:=zcz d;obtain⟨h1,h2⟩:=zaP h;refine⟨.mk _ _ _ _ (by omega) (.inl ⟨.inr rfl,rfl⟩) (fun j hj=>absurd hj (by simp)),.mk _ _ _ _ (by simp) (by omega) (fun j hj=>absurd hj (by simp)),?_,?_,?_⟩
 ·
  rw[zbs,zb3,zaN,if_pos (by decide)];simp[h]
 ·
  rw[zdB,zbQ,if_neg (by decide)];omega
 ·
  rw[zcx,zaR,if_neg (by decide),if_pos rfl];omega
theorem md_un (op:Int) (ho:op=3∨op=4) (d:Nat) (x:Ex) (h:MdE d x):MdE (d+1) (.mk op 0 [] [x]):=by
 have hp:=zcz d;have hq:2 ^ (d+1)=2*2 ^ d:=by rw[Nat.pow_succ];omega
 have h5:strV op=5:=by rcases ho with rfl|rfl<;>decide
 refine⟨.mk _ _ _ _ (by omega) (.inr (.inl ⟨ho,rfl⟩)) (fun j hj=>?_),.mk _ _ _ _ (by simp) (by simp) (fun j hj=>?_),?_,?_,?_⟩
 ·
  obtain rfl:j=0:=by simpa using hj
  exact h.ok
 ·
  obtain rfl:j=0:=by simpa using hj
  exact h.b
 ·
  rw[zbs,zb3,zb3,zaN,h5,if_neg (by decide),if_pos rfl,h.sh];simp
 ·
  have:=zfg op 0 x
  have:=h.ht;rw[zdB,zbj,zbQ,if_pos h5];omega
 ·
  have h1:=zec op 0 x;have h2:=h.tx;rw[zcx,zaT,zbm,zaR,if_neg (by omega),if_neg (by omega)];rcases ho with rfl|rfl
  ·
   rw[if_pos rfl];simp;omega
  ·
   rw[if_neg (by decide),if_pos rfl];simp;omega
theorem md_bin (op:Int) (o1:5≤op) (o2:op≤17) (d:Nat) (x y:Ex) (h:MdE d x) (k:MdE d y):MdE (d+1) (.mk op 0 [] [x,y]):=by
 have hp:=zcz d;have hq:2 ^ (d+1)=2*2 ^ d:=by rw[Nat.pow_succ];omega
 have h5:strV op≠5∧strV op≠6:=by
  have hc:op=5∨op=6∨op=7∨op=8∨op=9∨op=10∨op=11∨op=12∨op=13∨op=14∨op=15∨op=16∨op=17:=by omega
  rcases hc with rfl|rfl|rfl|rfl|rfl|rfl|rfl|rfl|rfl|rfl|rfl|rfl|rfl<;>decide
 refine⟨.mk _ _ _ _ (by omega) (.inr (.inr ⟨o1,o2,rfl⟩)) (fun j hj=>?_),.mk _ _ _ _ (by simp) (by simp) (fun j hj=>?_),?_,?_,?_⟩
 ·
  have:j=0∨j=1:=by simp at hj;omega
  rcases this with rfl|rfl
  ·
   exact h.ok
  ·
   exact k.ok
 ·
  have:j=0∨j=1:=by simp at hj;omega
  rcases this with rfl|rfl
  ·
   exact h.b
  ·
   exact k.b
 ·
  rw[zbs,zb3,zb3,zb3,zaN,if_neg h5.2,if_neg h5.1,h.sh,k.sh];simp
 ·
  have:=zfg op 0 x
  have:=zfg op 1 y
  have:=h.ht
  have:=k.ht;rw[zdB,zbj,zbj,zbQ,if_neg h5.1];show max (max 0 (zcw op 0 x)) (zcw op 1 y)+0≤_;omega
 ·
  have h1:=zec op 0 x;have h2:=zec op 1 y;have h3:=h.tx;have h4:=k.tx;obtain⟨s,hs',hsl⟩:=zdb op ⟨o1,o2⟩;rw[zcx,zaT,zaT,zbm,zaR,if_neg (by omega),if_neg (by omega),if_neg (by omega),if_neg (by omega),hs'];simp;omega
theorem numG_le (xs:List Int) (j:Nat):(numG xs j).1≤4611686018427387904:=by
 unfold numG;split
 ·
  have:=zav xs (zaf xs j) 4611686018427387904 (by omega);dsimp only;omega
 ·
  have:=zav xs (zaf xs j) 4 (by omega);dsimp only;omega
theorem ziD (names:List (List UInt8)) (hN:∀n∈names,zax n=true) (xs:List Int) (i d:Nat):MdE d (exprG.leafG names xs i).1:=by
 unfold exprG.leafG;split
 ·
  rename_i h;refine md_name _ (hN _ ?_) d
  have:=zav xs (zaf xs i) names.length h.1;rw[List.getD_eq_getElem?_getD,List.getElem?_eq_getElem this];exact List.getElem_mem this
 ·
  exact md_num _ (numG_le _ _) d
theorem exprG_md (names:List (List UInt8)) (hN:∀n∈names,zax n=true) (xs:List Int) (d:Nat):∀i,MdE d (exprG names xs d i).1:=by
 induction d with
 | zero =>
  intro i;have e:exprG names xs 0 i=exprG.leafG names xs (zaf xs i):=by rw[exprG]
  rw[e];exact ziD names hN xs _ _
 | succ d ih =>
  intro i;by_cases h2:zad xs i 10<2
  ·
   rw[zeN names xs d i h2];exact ziD names hN xs _ _
  ·
   by_cases h4:zad xs i 10<4
   ·
    rw[zh8 names xs d i h2 h4];exact md_un _ (by omega) d _ (ih _)
   ·
    rw[zg7 names xs d i h2 h4];have hv:=zav xs (zaf xs i) 13 (by omega);exact md_bin _ (by omega) (by omega) d _ _ (ih _) (ih _)
theorem zbK (E:Ex) (op num:Int) (name:List UInt8) (A:Option Addr) (n c:Nat) (w:World) (hok:ExOk E) (hl:(zal E).length≤1000000000) (hM:ExM w (fun _=>True) E ⟨op,num,name,A,n,c⟩) :
  Calls Tryz.prog 81 #[.agg #[.int .i64 op,.int .i64 num,.string ⟨name.toArray⟩,.slice A n c]] w fun e w'=>e=.returned (.string ⟨(zal E).toArray⟩)∧Below w.heap.size w w' :=
 zhT (SizeOf.sizeOf E+1) E op num name A n c w (by omega) hok hl hM
structure Rf where
 name:List UInt8
 idx:Option Ex
def IdxM (w:World) (S:Nat→Prop) (o:Option Ex) (A:Option Addr) (n:Nat):Prop :=
 match o with
 | none=>n=0
 | some E=>n=1∧∃b off f,A=some ⟨b,off,none⟩∧S b∧EFat w b off f∧ExM w S E f
theorem IdxM.keep {w w':World} {S:Nat→Prop} {o:Option Ex} {A:Option Addr} {n:Nat} (h:IdxM w S o A n) (hk:∀b,S b→b<w.heap.size→w'.heap[b]?=w.heap[b]?):IdxM w' S o A n:=by
 cases o with
 | none=>exact h
 | some E =>
  obtain⟨hn,b,off,f,e,hb,hat,hM⟩:=h;exact⟨hn,b,off,f,e,hb,hat.keep (hk b hb hat.lt),hM.keep hk⟩
def zgL:Option Ex→Prop
 | none=>True
 | some E=>ExOk E
def zbo (r:Rf):List UInt8 :=
 match r.idx with
 | none=>r.name
 | some E=>r.name++[91]++zal E++[93]
theorem zar (a b:List UInt8) (h:a.length+b.length≤4000000000) (w:World):(Op.stringOp .add ⟨a.toArray⟩ ⟨b.toArray⟩).run Tryz.prog w=.ok (.string ⟨(a++b).toArray⟩) w:=by
 rw[run_string_add_sum _ _ _ (by simp[ByteArray.size];omega),bapp]
set_option maxRecDepth 100000 in
set_option maxHeartbeats 1000000 in
theorem zcE (r:Rf) (A:Option Addr) (n c:Nat) (w:World) (hM:IdxM w (fun _=>True) r.idx A n) (hok:zgL r.idx) (hl:(zbo r).length≤1000000000) :
  Calls Tryz.prog 83 #[.agg #[.string ⟨r.name.toArray⟩,.slice A n c]] w fun e w'=>e=.returned (.string ⟨(zbo r).toArray⟩)∧Below w.heap.size w w':=by
 obtain⟨name,idx⟩:=r;cases idx with
 | none =>
  dsimp only at hM;have hn:n=0:=hM;subst hn;clear hM hok hl;go_enter Tryz.func83,Tryz.ntmps83;go_wp2_with fail;go_ret;exact⟨rfl,(Below.refl _ _).alloc (lR _) _⟩
 | some E =>
  obtain⟨hn,b,off,f,hA,-,hat,hE⟩:=hM;subst hn hA;have hE':ExOk E:=hok;have htl:(zal E).length≤1000000000∧name.length+(zal E).length≤1000000000:=by
   simp[zbo] at hl;omega
  have HE:=zH hE;have HOK:=zH hE';have HTL:=zH htl;have hbl:=hat.lt;have hb0:Below w.heap.size w (w.alloc (.cells #[.string ⟨name.toArray⟩,.slice (some ⟨b,off,none⟩) 1 c] 70)):=(Below.refl _ _).alloc (lR _) _;obtain⟨a0,a1,a2,a3⟩:=hat.keep (w':=w.alloc (.cells #[.string ⟨name.toArray⟩,.slice (some ⟨b,off,none⟩) 1 c] 70)) (Below.heap_alloc _ _ _ hbl);have HR:Hid (zbo ⟨name,some E⟩=name++[91]++zal E++[93]):=rfl;have hTl:=htl.2;clear hat hE hE' htl hok hl;have s1:=fun W=>zar name [91] (by simp;omega) W;have s2:=fun W=>zar (name++[91]) (zal E) (by simp;omega) W;have s3:=fun W=>zar (name++91::zal E) [93] (by simp;omega) W;simp only[List.append_assoc,List.cons_append,List.nil_append] at s2;go_enter Tryz.func83,Tryz.ntmps83;go_wp2_with fail
  go_region_held3 (fun w'=>w'.cell? ⟨w.heap.size,0,none⟩=some (.string ⟨name.toArray⟩)∧w'.cell? ⟨w.heap.size,1,none⟩=some (.slice (some ⟨b,off,none⟩) 1 c)∧w'.cell? ⟨b,off,none⟩=some (.int .i64 f.op)∧w'.cell? ⟨b,off+1,none⟩=some (.int .i64 f.num)∧w'.cell? ⟨b,off+2,none⟩=some (.string ⟨f.name.toArray⟩)∧w'.cell? ⟨b,off+3,none⟩=some (.slice f.A f.n f.c)∧Below w.heap.size w w')
   (refine⟨?_,?_,?_,?_,?_,?_,?_⟩<;>first|assumption|(simp[*];done)|(refine Below.drew ?_;assumption))
   (first|(go_at_call 81;obtain⟨k0,k1,k2,k3,k4,k5,hbw⟩:=‹_∧_∧_∧_∧_∧_∧Below w.heap.size w _›;refine(zbK E f.op f.num f.name f.A f.n f.c _ HOK.out HTL.out.1 (HE.out.later hbw)).mono ?_;rintro e w' ⟨rfl,hb⟩;have r0:=cell_later hb k0;have r1:=cell_later hb k1;have r2:=cell_later hb k2;have r3:=cell_later hb k3;have r4:=cell_later hb k4;have r5:=cell_later hb k5;have rb:=zan hb hbw;clear k0 k1 k2 k3 k4 k5 hbw hb))
  clear s1 s2 s3 r0 r1 r2 r3 r4 r5;have HB:=zH rb;clear rb;go_wp2_with fail;go_ret;refine⟨?_,HB.out⟩;rw[HR.out];simp
structure Ar where
 m:Bool
 r:Rf
 e:Ex
def ArM (w:World) (S:Nat→Prop) (a:Ar) (b o:Nat):Prop :=
 ∃A n c f,w.cell? ⟨b,o,none⟩=some (.bool a.m)∧w.cell? ⟨b,o+1,none⟩=some (.string ⟨a.r.name.toArray⟩)∧w.cell? ⟨b,o+1+1,none⟩=some (.slice A n c)∧IdxM w S a.r.idx A n∧EFat w b (o+3) f∧ExM w S a.e f
def ArsM (w:World) (S:Nat→Prop) (l:List Ar) (A:Option Addr):Prop :=
 ∀i (h:i<l.length),∃b off,A=some ⟨b,off,none⟩∧S b∧ArM w S l[i] b (off+i*7)
def ArOk (a:Ar):Prop:=if a.m then zgL a.r.idx else ExOk a.e
def zeT (a:Ar):List UInt8:=if a.m then [109,117,116,101,120,32]++zbo a.r else zal a.e
def zck (l:List Ar):Nat→List UInt8
 | 0=>[40]
 | k+1=>zck l k++((if 0<k then [44,32] else [])++(l[k]?.map zeT).getD [])
def zaZ (l:List Ar):List UInt8:=zck l l.length++[41]
theorem zgK (l:List Ar) (k:Nat) (h:k<l.length):zck l (k+1)=zck l k++((if 0<k then [44,32] else [])++zeT l[k]):=by
 rw[zck,List.getElem?_eq_getElem h];rfl
theorem zen (l:List Ar) (k n:Nat) (h:k≤n):(zck l k).length≤(zck l n).length:=by
 induction n with
 | zero =>
  have:k=0:=by omega
  subst this;exact lR _
 | succ n ih =>
  by_cases hk:k=n+1
  ·
   subst hk;exact lR _
  ·
   have:=ih (by omega);rw[zck,List.length_append];omega
theorem ArM.later {w w':World} {S:Nat→Prop} {a:Ar} {b o:Nat} (h:ArM w S a b o) (hb:Below w.heap.size w w'):ArM w' S a b o:=by
 obtain⟨A,n,c,f,h0,h1,h2,hI,hat,hE⟩:=h;exact⟨A,n,c,f,cell_later hb h0,cell_later hb h1,cell_later hb h2,hI.keep fun b _ hlt=>hb.block b hlt,hat.keep (hb.block b hat.lt),hE.later hb⟩
set_option maxRecDepth 100000 in
set_option maxHeartbeats 2000000 in
theorem zdQ (l:List Ar) (A:Option Addr) (c:Nat) (w:World) (hM:ArsM w (fun _=>True) l A) (hok:∀i (h:i<l.length),ArOk l[i]) (hn:l.length≤1000000) (hl:(zaZ l).length≤1000000000) :
  Calls Tryz.prog 82 #[.slice A l.length c] w fun e w'=>e=.returned (.string ⟨(zaZ l).toArray⟩)∧Below w.heap.size w w':=by
 have HM:=zH hM;have HOK:=zH hok;have hl1:(zck l l.length).length≤1000000000:=by
  unfold zaZ at hl;simp at hl;omega
 have HL:=zH hl1;clear hM hok hl hl1;go_enter Tryz.func82,Tryz.ntmps82;go_wp2_with fail
 go_loopw [3,4] (fun v i wr=>∃(k:Nat) (s:List UInt8),k≤l.length∧i=.int .i64 k∧v=.string ⟨s.toArray⟩∧Hid (s=zck l k)∧Below w.heap.size w wr) (fun _ i _=>l.length-(intOf i).toNat)
 case atStart=>exact⟨0,[40],Nat.zero_le _,rfl,rfl,rfl,Below.refl _ _⟩
 case round =>
  obtain⟨k,s,hk,rfl,rfl,hs,hbel⟩:=hrel;have HBE:=zH hbel;clear hbel;have hslen:s.length≤1000000000:=by
   have h1:=zen l k l.length hk;rw[←hs.out] at h1
   have:=HL.out;omega
  by_cases hlt:k<l.length
  ·
   obtain⟨b,off,rfl,-,hA⟩:=HM.out k hlt;obtain⟨rA,rn,rc,f,c0,c1,c2,hI,hat,hE⟩:=hA.later HBE.out;obtain⟨a0,a1,a2,a3⟩:=hat;have HI:=zH hI;have HE:=zH hE;have HST:=zH (zgK l k hlt);have h1:=zen l (k+1) l.length (by omega);have HLN:Hid ((zck l (k+1)).length≤1000000000):=Nat.le_trans h1 HL.out;have HAO:=zH (HOK.out k hlt);clear hI hE h1;have happ:=bapp;obtain⟨sep,hsep⟩:∃sep:List UInt8,sep=if 0<k then [44,32] else []:=⟨_,rfl⟩;have HSEP:=zH hsep;rw[←hsep] at HST;clear hsep;generalize l[k]=a at *;obtain⟨am,ar,ae⟩:=a;dsimp only at c0 c1 c2 HI HE HST HAO;cases am with
   | true =>
    have HAT:Hid (zeT ⟨true,ar,ae⟩=[109,117,116,101,120,32]++zbo ar):=rfl;have hrl:Hid (s.length+(sep.length+(6+(zbo ar).length))≤1000000000):=by
     have:=HLN.out;rw[HST.out,HAT.out,←hs.out] at this;simp at this;show _≤_;omega
    have hrl':=hrl.out;have HOI:Hid (zgL ar.idx):=HAO.out;have hrt:(zbo ar).length≤1000000000:=by omega
    by_cases hk0:0<k
    ·
     have d0:decide ((k:Int)>0)=true:=by simp;omega
     have hse:sep=[44,32]:=by rw[HSEP.out,if_pos hk0]
     subst hse;go_wp2_with fail;refine(zcE ar rA rn rc _ HI.out HOI.out hrt).mono ?_;rintro e w1 ⟨rfl,hb1⟩;generalize zbo ar=T at *;go_wp2_with fail;go_roundw
     case rel =>
      refine⟨k+1,s++([44,32]++([109,117,116,101,120,32]++T)),by omega,by go_num,?_,?_,za3 HBE.out hb1⟩
      ·
       simp
      ·
       rw[HST.out,HAT.out,hs.out];rfl
     case measure=>simp[intOf];omega
    ·
     have d0:decide ((0:Int)<(k:Int))=false:=decide_eq_false (by omega);have hse:sep=[]:=by rw[HSEP.out,if_neg hk0]
     subst hse;go_wp2_with fail;refine(zcE ar rA rn rc _ HI.out HOI.out hrt).mono ?_;rintro e w1 ⟨rfl,hb1⟩;generalize zbo ar=T at *;go_wp2_with fail;go_roundw
     case rel =>
      refine⟨k+1,s++([]++([109,117,116,101,120,32]++T)),by omega,by go_num,?_,?_,za3 HBE.out hb1⟩
      ·
       simp
      ·
       rw[HST.out,HAT.out,hs.out];rfl
     case measure=>simp[intOf];omega
   | false =>
    have HAT:Hid (zeT ⟨false,ar,ae⟩=zal ae):=rfl;have hrl:Hid (s.length+(sep.length+(zal ae).length)≤1000000000):=by
     have:=HLN.out;rw[HST.out,HAT.out,←hs.out] at this;simp at this;show _≤_;omega
    have hrl':=hrl.out;have HOI:Hid (ExOk ae):=HAO.out;have hrt:(zal ae).length≤1000000000:=by omega
    by_cases hk0:0<k
    ·
     have d0:decide ((k:Int)>0)=true:=by simp;omega
     have hse:sep=[44,32]:=by rw[HSEP.out,if_pos hk0]
     subst hse;go_wp2_with fail;refine(zbK ae f.op f.num f.name f.A f.n f.c _ HOI.out hrt HE.out).mono ?_;rintro e w1 ⟨rfl,hb1⟩;generalize zal ae=T at *;go_wp2_with fail;go_roundw
     case rel =>
      refine⟨k+1,s++([44,32]++T),by omega,by go_num,?_,?_,za3 HBE.out hb1⟩
      ·
       simp
      ·
       rw[HST.out,HAT.out,hs.out];rfl
     case measure=>simp[intOf];omega
    ·
     have d0:decide ((0:Int)<(k:Int))=false:=decide_eq_false (by omega);have hse:sep=[]:=by rw[HSEP.out,if_neg hk0]
     subst hse;go_wp2_with fail;refine(zbK ae f.op f.num f.name f.A f.n f.c _ HOI.out hrt HE.out).mono ?_;rintro e w1 ⟨rfl,hb1⟩;generalize zal ae=T at *;go_wp2_with fail;go_roundw
     case rel =>
      refine⟨k+1,s++([]++T),by omega,by go_num,?_,?_,za3 HBE.out hb1⟩
      ·
       simp
      ·
       rw[HST.out,HAT.out,hs.out];rfl
     case measure=>simp[intOf];omega
  ·
   have hke:Hid (k=l.length):=by show _=_;omega
   have happ:=bapp;go_wp2_with fail;go_ret;refine⟨?_,HBE.out⟩;unfold zaZ;rw[←hke.out,←hs.out];rfl
inductive St where
 | mk (kind:Int) (name:List UInt8) (e:Ex) (r:Rf) (args:List Ar) (thn els:List St)
def St.kind:St→Int|.mk k _ _ _ _ _ _=>k
def St.name:St→List UInt8|.mk _ n _ _ _ _ _=>n
def St.rf:St→Rf|.mk _ _ _ r _ _ _=>r
def St.ars:St→List Ar|.mk _ _ _ _ a _ _=>a
def St.thn:St→List St|.mk _ _ _ _ _ t _=>t
def St.els:St→List St|.mk _ _ _ _ _ _ e=>e
structure SG where
 f:EF
 rA:Option Addr
 rn:Nat
 rc:Nat
 aA:Option Addr
 ac:Nat
 tA:Option Addr
 tc:Nat
 eA:Option Addr
 ec:Nat
def StC (w:World) (b o:Nat) (s:St) (g:SG):Prop :=
 w.cell? ⟨b,o,none⟩=some (.int .i64 s.kind)∧w.cell? ⟨b,o+1,none⟩=some (.string ⟨s.name.toArray⟩) ∧
 w.cell? ⟨b,o+2,none⟩=some (.int .i64 g.f.op)∧w.cell? ⟨b,o+3,none⟩=some (.int .i64 g.f.num)∧w.cell? ⟨b,o+4,none⟩=some (.string ⟨g.f.name.toArray⟩)∧w.cell? ⟨b,o+5,none⟩=some (.slice g.f.A g.f.n g.f.c) ∧
 w.cell? ⟨b,o+6,none⟩=some (.string ⟨s.rf.name.toArray⟩)∧w.cell? ⟨b,o+7,none⟩=some (.slice g.rA g.rn g.rc) ∧
 w.cell? ⟨b,o+8,none⟩=some (.slice g.aA s.ars.length g.ac)∧w.cell? ⟨b,o+9,none⟩=some (.slice g.tA s.thn.length g.tc)∧w.cell? ⟨b,o+10,none⟩=some (.slice g.eA s.els.length g.ec)
theorem StC.lt {w:World} {b o:Nat} {s:St} {g:SG} (h:StC w b o s g):b<w.heap.size:=World.block_lt_of_cell? _ _ h.1
theorem StC.keep {w w':World} {b o:Nat} {s:St} {g:SG} (h:StC w b o s g) (hk:w'.heap[b]?=w.heap[b]?):StC w' b o s g:=by
 have e:∀o',w'.cell? ⟨b,o',none⟩=w.cell? ⟨b,o',none⟩:=fun o'=>World.cell?_of_block hk;obtain⟨c0,c1,c2,c3,c4,c5,c6,c7,c8,c9,c10⟩:=h;exact⟨(e _).trans c0,(e _).trans c1,(e _).trans c2,(e _).trans c3,(e _).trans c4,(e _).trans c5,(e _).trans c6,(e _).trans c7,(e _).trans c8,(e _).trans c9,(e _).trans c10⟩
inductive StM (w:World) (S:Nat→Prop):St→SG→Prop
 | mk (kind:Int) (name:List UInt8) (e:Ex) (r:Rf) (args:List Ar) (thn els:List St) (g:SG) (T E:Nat→SG)
   (he:ExM w S e g.f) (hr:IdxM w S r.idx g.rA g.rn) (ha:ArsM w S args g.aA)
   (htc:∀i (h:i<thn.length),∃b off,g.tA=some ⟨b,off,none⟩∧S b∧StC w b (off+i*11) thn[i] (T i))
   (hts:∀i (h:i<thn.length),StM w S thn[i] (T i))
   (hec:∀i (h:i<els.length),∃b off,g.eA=some ⟨b,off,none⟩∧S b∧StC w b (off+i*11) els[i] (E i))
   (hes:∀i (h:i<els.length),StM w S els[i] (E i)):StM w S (.mk kind name e r args thn els) g
def StsM (w:World) (S:Nat→Prop) (l:List St) (A:Option Addr):Prop :=
 ∃F:Nat→SG,(∀i (h:i<l.length),∃b off,A=some ⟨b,off,none⟩∧S b∧StC w b (off+i*11) l[i] (F i))∧∀i (h:i<l.length),StM w S l[i] (F i)
theorem ArM.keep {w w':World} {S:Nat→Prop} {a:Ar} {b o:Nat} (h:ArM w S a b o) (hS:S b) (hk:∀b,S b→b<w.heap.size→w'.heap[b]?=w.heap[b]?):ArM w' S a b o:=by
 obtain⟨A,n,c,f,h0,h1,h2,hI,hat,hE⟩:=h;have e:∀o',w'.cell? ⟨b,o',none⟩=w.cell? ⟨b,o',none⟩:=fun o'=>World.cell?_of_block (hk b hS hat.lt);exact⟨A,n,c,f,(e _).trans h0,(e _).trans h1,(e _).trans h2,hI.keep hk,hat.keep (hk b hS hat.lt),hE.keep hk⟩
theorem ArsM.keep {w w':World} {S:Nat→Prop} {l:List Ar} {A:Option Addr} (h:ArsM w S l A) (hk:∀b,S b→b<w.heap.size→w'.heap[b]?=w.heap[b]?):ArsM w' S l A:=by
 intro i hi;obtain⟨b,off,e,hb,ha⟩:=h i hi;exact⟨b,off,e,hb,ha.keep hb hk⟩
theorem StM.keep {w w':World} {S:Nat→Prop} {s:St} {g:SG} (h:StM w S s g) (hk:∀b,S b→b<w.heap.size→w'.heap[b]?=w.heap[b]?):StM w' S s g:=by
 induction h with
 | mk kind name e r args thn els g T E he hr ha htc hts hec hes iht ihe =>
  refine .mk kind name e r args thn els g T E (he.keep hk) (hr.keep hk) (ha.keep hk) (fun i hi=>?_) iht (fun i hi=>?_) ihe
  ·
   obtain⟨b,off,e,hb,hc⟩:=htc i hi;exact⟨b,off,e,hb,hc.keep (hk b hb hc.lt)⟩
  ·
   obtain⟨b,off,e,hb,hc⟩:=hec i hi;exact⟨b,off,e,hb,hc.keep (hk b hb hc.lt)⟩
theorem StsM.keep {w w':World} {S:Nat→Prop} {l:List St} {A:Option Addr} (h:StsM w S l A) (hk:∀b,S b→b<w.heap.size→w'.heap[b]?=w.heap[b]?):StsM w' S l A:=by
 obtain⟨F,h1,h2⟩:=h;refine⟨F,fun i hi=>?_,fun i hi=>(h2 i hi).keep hk⟩;obtain⟨b,off,e,hb,hc⟩:=h1 i hi;exact⟨b,off,e,hb,hc.keep (hk b hb hc.lt)⟩
inductive StOk:St→Prop
 | mk (kind:Int) (name:List UInt8) (e:Ex) (r:Rf) (args:List Ar) (thn els:List St)
   (h1:kind=1∨kind=2∨kind=7∨kind=8→ExOk e)
   (h2:kind=3∨kind=4→args.length≤1000000∧∀i (h:i<args.length),ArOk args[i])
   (h3:kind=5∨kind=6→zgL r.idx)
   (h4:kind=7∨kind=8→∀i (h:i<thn.length),StOk thn[i])
   (h5:kind=7∨kind=8→∀i (h:i<els.length),StOk els[i]):StOk (.mk kind name e r args thn els)
def zbT (kind:Int) (name:List UInt8) (e:Ex) (r:Rf) (args:List Ar) (tabs lt le:List UInt8) (n:Nat):List UInt8 :=
 if kind=1 then [118,97,114,32]++(name++([32,61,32]++(zal e++[59])))
 else if kind=2 then name++([32,61,32]++(zal e++[59]))
 else if kind=3 then name++(zaZ args++[59])
 else if kind=4 then [103,111,32]++(name++(zaZ args++[59]))
 else if kind=5 then [108,111,99,107,32]++(zbo r++[59])
 else if kind=6 then [117,110,108,111,99,107,32]++(zbo r++[59])
 else if kind=7∨kind=8 then (if kind=8 then [119,104,105,108,101,32] else [105,102,32])++(zal e++([32,123,10]++(lt++(tabs++([125]++(if n=0 then [] else [32,101,108,115,101,32,123,10]++(le++(tabs++[125]))))))))
 else [114,101,116,117,114,110,59]
mutual
def zdE:St→List UInt8→List UInt8
 | .mk kind name e r args thn els,tabs=>tabs++(zbT kind name e r args tabs (zab thn (tabs++[9])) (zab els (tabs++[9])) els.length++[10])
def zab:List St→List UInt8→List UInt8
 | [],_=>[]
 | s::r,tabs=>zdE s tabs++zab r tabs
end
theorem zcb (kind:Int) (name:List UInt8) (e:Ex) (r:Rf) (args:List Ar) (thn els:List St) (tabs:List UInt8) :
  zdE (.mk kind name e r args thn els) tabs=tabs++(zbT kind name e r args tabs (zab thn (tabs++[9])) (zab els (tabs++[9])) els.length++[10]):=by rw[zdE]
theorem zc4 (tabs:List UInt8):zab [] tabs=[]:=by rw[zab]
theorem zaU (s:St) (r:List St) (tabs:List UInt8):zab (s::r) tabs=zdE s tabs++zab r tabs:=by rw[zab]
theorem zeu (l:List St) (tabs:List UInt8) (m:Nat) (h:m<l.length):zab (l.take (m+1)) tabs=zab (l.take m) tabs++zdE l[m] tabs:=by
 induction l generalizing m with
 | nil=>simp at h
 | cons s r ih =>
  cases m with
  | zero=>simp[zaU,zc4]
  | succ m =>
   have:=ih m (by simpa using h);rw[List.take_succ_cons,List.take_succ_cons,zaU,zaU,this];simp
theorem zev (l:List St) (tabs:List UInt8) (k:Nat):(zab (l.take k) tabs).length≤(zab l tabs).length:=by
 induction l generalizing k with
 | nil=>simp
 | cons s r ih =>
  cases k with
  | zero=>simp[zc4]
  | succ k =>
   have:=ih k;rw[List.take_succ_cons,zaU,zaU,List.length_append,List.length_append];omega
theorem zhi (s:St) (tabs:List UInt8):1≤(zdE s tabs).length:=by
 cases s;rw[zcb];simp;omega
theorem zff (l:List St) (tabs:List UInt8):l.length≤(zab l tabs).length:=by
 induction l with
 | nil=>simp
 | cons s r ih =>
  rw[zaU,List.length_append,List.length_cons]
  have:=zhi s tabs;omega
theorem zgh (l:List St) (i:Nat) (h:i<l.length):SizeOf.sizeOf l[i]<SizeOf.sizeOf l:=List.sizeOf_lt_of_mem (List.getElem_mem h)
theorem zhe {w wr w1:World} {o:Obj} (h0:Below w.heap.size w wr) (h1:Below (wr.alloc o).heap.size (wr.alloc o) w1):Below w.heap.size w w1 :=
 za3 h0 (za3 ((Below.refl _ _).alloc (lR _) _) h1)
def noEx:Ex:=.mk 0 0 [] []
def noRf:Rf:=⟨[],none⟩
theorem MdE.mono {d d':Nat} {E:Ex} (h:MdE d E) (hd:d≤d'):MdE d' E:=by
 have:2 ^ d≤2 ^ d':=Nat.pow_le_pow_right (by omega) hd;exact⟨h.ok,h.b,h.sh,by have:=h.ht;omega,by have:=h.tx;omega⟩
def MdR (r:Rf):Prop:=zax r.name=true∧∀E,r.idx=some E→MdE 1 E
def MdA (a:Ar):Prop:=(a.m=true∧MdR a.r∧a.e=noEx)∨(a.m=false∧a.r=noRf∧MdE 2 a.e)
inductive MdS:Nat→St→Prop
 | lock (d:Nat) (k:Int) (r:Rf) (hk:k=5∨k=6) (hr:MdR r):MdS d (.mk k [] noEx r [] [] [])
 | set (d:Nat) (k:Int) (name:List UInt8) (e:Ex) (hk:k=1∨k=2) (hn:zax name=true) (he:MdE 2 e):MdS d (.mk k name e noRf [] [] [])
 | call (d:Nat) (k:Int) (name:List UInt8) (args:List Ar) (hk:k=3∨k=4) (hn:zax name=true) (hl:args.length≤2) (ha:∀i (h:i<args.length),MdA args[i]):MdS d (.mk k name noEx noRf args [] [])
 | cond (d:Nat) (k:Int) (e:Ex) (thn els:List St) (hk:k=7∨k=8∧els=[]) (he:MdE 2 e) (h1:∀i (h:i<thn.length),MdS d thn[i]) (h2:∀i (h:i<els.length),MdS d els[i]):MdS (d+1) (.mk k [] e noRf [] thn els)
 | ret (d:Nat):MdS d (.mk 9 [] noEx noRf [] [] [])
theorem MdS.mono {d d':Nat} {s:St} (h:MdS d s):d≤d'→MdS d' s:=by
 induction h generalizing d' with
 | lock d k r hk hr=>intro _;exact .lock _ k r hk hr
 | set d k name e hk hn he=>intro _;exact .set _ k name e hk hn he
 | call d k name args hk hn hl ha=>intro _;exact .call _ k name args hk hn hl ha
 | cond d k e thn els hk he h1 h2 i1 i2 =>
  intro hd;obtain⟨m,rfl⟩:∃m,d'=m+1:=⟨d'-1,by omega⟩;exact .cond m k e thn els hk he (fun i hi=>i1 i hi (by omega)) (fun i hi=>i2 i hi (by omega))
 | ret d=>intro _;exact .ret _
mutual
def stN:St→Nat
 | .mk _ _ _ _ _ thn els=>1+stNs thn+stNs els
def stNs:List St→Nat
 | []=>0
 | s::r=>stN s+stNs r
end
theorem zbU (kind:Int) (name:List UInt8) (e:Ex) (r:Rf) (args:List Ar) (thn els:List St):stN (.mk kind name e r args thn els)=1+stNs thn+stNs els:=by rw[stN]
theorem zb9:stNs []=0:=by rw[stNs]
theorem zcn (s:St) (r:List St):stNs (s::r)=stN s+stNs r:=by rw[stNs]
theorem zbL (a b:List St):stNs (a++b)=stNs a+stNs b:=by
 induction a with
 | nil=>rw[List.nil_append,zb9];omega
 | cons s r ih=>rw[List.cons_append,zcn,zcn,ih];omega
theorem stN_pos (s:St):1≤stN s:=by
 cases s;rw[zbU];omega
theorem zeZ (l:List St):l.length≤stNs l:=by
 induction l with
 | nil=>simp
 | cons s r ih =>
  have:=stN_pos s;rw[zcn,List.length_cons];omega
theorem zdd (l:List St) (tabs:List UInt8) (K:Nat) (h:∀i (h:i<l.length),(zdE l[i] tabs).length≤stN l[i]*K):(zab l tabs).length≤stNs l*K:=by
 induction l with
 | nil=>rw[zc4];simp
 | cons s r ih =>
  have h0:=h 0 (by simp);have h1:=ih (fun i hi=>h (i+1) (Nat.succ_lt_succ hi));simp only[List.getElem_cons_zero] at h0;rw[zaU,zcn,List.length_append,Nat.add_mul];omega
theorem rf_len {r:Rf} (h:MdR r):(zbo r).length≤80:=by
 obtain⟨name,idx⟩:=r;have hn:=(zaP h.1).2;dsimp only at hn;cases idx with
 | none=>show name.length≤80;omega
 | some E =>
  have:=(h.2 E rfl).tx;simp[zbo];omega
theorem ziU {a:Ar} (h:MdA a):(zeT a).length≤130:=by
 unfold zeT;rcases h with⟨hm,hr,_⟩|⟨hm,_,he⟩
 ·
  rw[hm]
  have:=rf_len hr;simp;omega
 ·
  rw[hm]
  have:=he.tx;simp;omega
theorem ars_len (l:List Ar) (hl:l.length≤2) (h:∀i (h:i<l.length),MdA l[i]):(zaZ l).length≤300:=by
 match l,hl,h with
 | [],_,_=>simp[zaZ,zck]
 | [a],_,h =>
  have h0:=ziU (h 0 (by simp));simp only[List.getElem_cons_zero] at h0;simp[zaZ,zck];omega
 | [a,b],_,h =>
  have h0:=ziU (h 0 (by simp));have h1:=ziU (h 1 (by simp));simp only[List.getElem_cons_zero,List.getElem_cons_succ] at h0 h1;simp[zaZ,zck];omega
theorem st_bound {d:Nat} {s:St} (h:MdS d s):∀tabs:List UInt8,(zdE s tabs).length≤stN s*(500+3*(tabs.length+d)):=by
 induction h with
 | lock d k r hk hr =>
  intro tabs
  have:=rf_len hr;rw[zcb,zbU,zb9,zbT,if_neg (by omega),if_neg (by omega),if_neg (by omega),if_neg (by omega)];rcases hk with rfl|rfl
  ·
   rw[if_pos rfl];simp;omega
  ·
   rw[if_neg (by decide),if_pos rfl];simp;omega
 | set d k name e hk hn he =>
  intro tabs
  have:=(zaP hn).2
  have:=he.tx;rw[zcb,zbU,zb9,zbT];rcases hk with rfl|rfl
  ·
   rw[if_pos rfl];simp;omega
  ·
   rw[if_neg (by decide),if_pos rfl];simp;omega
 | call d k name args hk hn hl ha =>
  intro tabs
  have:=(zaP hn).2
  have:=ars_len args hl ha;rw[zcb,zbU,zb9,zbT,if_neg (by omega),if_neg (by omega)];rcases hk with rfl|rfl
  ·
   rw[if_pos rfl];simp;omega
  ·
   rw[if_neg (by decide),if_pos rfl];simp;omega
 | cond d k e thn els hk he h1 h2 i1 i2 =>
  intro tabs
  have:=he.tx;have b1:=zdd thn (tabs++[9]) _ (fun i hi=>i1 i hi (tabs++[9]));have b2:=zdd els (tabs++[9]) _ (fun i hi=>i2 i hi (tabs++[9]));have e1:500+3*((tabs++[9]).length+d)=500+3*(tabs.length+(d+1)):=by simp;omega
  rw[e1] at b1 b2;rw[zcb,zbU,zbT,if_neg (by omega),if_neg (by omega),if_neg (by omega),if_neg (by omega),if_neg (by omega),if_neg (by omega),if_pos (by omega),Nat.add_mul,Nat.add_mul];generalize stNs thn*(500+3*(tabs.length+(d+1)))=x1 at *;generalize stNs els*(500+3*(tabs.length+(d+1)))=x2 at *;rcases hk with rfl|⟨rfl,rfl⟩
  ·
   rw[if_neg (by decide)];by_cases hz:els.length=0
   ·
    rw[if_pos hz];simp;omega
   ·
    rw[if_neg hz];simp;omega
  ·
   rw[if_pos rfl];simp;omega
 | ret d =>
  intro tabs;rw[zcb,zbU,zb9,zbT,if_neg (by decide),if_neg (by decide),if_neg (by decide),if_neg (by decide),if_neg (by decide),if_neg (by decide),if_neg (by decide)];simp;omega
theorem MdR.ok {r:Rf} (h:MdR r):zgL r.idx:=by
 obtain⟨name,idx⟩:=r;cases idx with
 | none=>exact trivial
 | some E=>exact(h.2 E rfl).ok
theorem MdA.ok {a:Ar} (h:MdA a):ArOk a:=by
 unfold ArOk;rcases h with⟨hm,hr,_⟩|⟨hm,_,he⟩
 ·
  rw[if_pos hm];exact hr.ok
 ·
  rw[if_neg (by rw[hm];decide)];exact he.ok
theorem MdS.ok {d:Nat} {s:St} (h:MdS d s):StOk s:=by
 induction h with
 | lock d k r hk hr=>exact .mk _ _ _ _ _ _ _ (fun h=>by omega) (fun h=>by omega) (fun _=>hr.ok) (fun h=>by omega) (fun h=>by omega)
 | set d k name e hk hn he=>exact .mk _ _ _ _ _ _ _ (fun _=>he.ok) (fun h=>by omega) (fun h=>by omega) (fun h=>by omega) (fun h=>by omega)
 | call d k name args hk hn hl ha=>exact .mk _ _ _ _ _ _ _ (fun h=>by omega) (fun _=>⟨by omega,fun i hi=>(ha i hi).ok⟩) (fun h=>by omega) (fun h=>by omega) (fun h=>by omega)
 | cond d k e thn els hk he h1 h2 i1 i2=>exact .mk _ _ _ _ _ _ _ (fun _=>he.ok) (fun h=>by omega) (fun h=>by omega) (fun _=>i1) (fun _=>i2)
 | ret d=>exact .mk _ _ _ _ _ _ _ (fun h=>by omega) (fun h=>by omega) (fun h=>by omega) (fun h=>by omega) (fun h=>by omega)
structure Gl where
 name:List UInt8
 init:Int
structure Mx where
 name:List UInt8
 re:Bool
 size:Nat
structure Pm where
 name:List UInt8
 m:Bool
structure Fn where
 name:List UInt8
 ps:List Pm
 body:List St
structure Pg where
 gs:List Gl
 ms:List Mx
 fs:List Fn
structure MdP (P:Pg):Prop where
 gl:P.gs.length≤2
 ml:P.ms.length≤4
 fl:P.fs.length≤4
 g:∀i (h:i<P.gs.length),zax P.gs[i].name=true∧-2≤P.gs[i].init∧P.gs[i].init≤2
 m:∀i (h:i<P.ms.length),zax P.ms[i].name=true∧P.ms[i].size≤3∧(P.ms[i].re=true→P.ms[i].size=0)
 f:∀i (h:i<P.fs.length),zax P.fs[i].name=true∧P.fs[i].ps.length≤2∧(∀j (h':j<P.fs[i].ps.length),zax (P.fs[i].ps[j]).name=true)∧(∀j (h':j<P.fs[i].body.length),MdS 2 (P.fs[i].body[j]))∧stNs P.fs[i].body≤48
abbrev Nm:=List UInt8
def ExW (d:Nat) (vs:List Nm) (E:Ex):Prop :=
 (∃n:Nat,n≤4611686018427387904∧E=.mk 1 (n:Int) [] [])∨∃xs k i,k≤d∧E=(exprG vs xs k i).1
def RfW (ms:List Mx) (ps:List Pm) (vs:List Nm) (r:Rf):Prop :=
 (∃i,∃h:i<ms.length,r.name=ms[i].name∧((ms[i].size=0∧r.idx=none)∨(0<ms[i].size∧∃E,r.idx=some E∧ExW 1 vs E))) ∨
 (∃i,∃h:i<ps.length,ps[i].m=true∧r.name=ps[i].name∧r.idx=none)
def ArW (ms:List Mx) (ps:List Pm) (vs:List Nm) (p:Pm) (a:Ar):Prop :=
 (p.m=true∧a.m=true∧RfW ms ps vs a.r∧a.e=noEx)∨(p.m=false∧a.m=false∧a.r=noRf∧ExW 2 vs a.e)
structure Hd where
 name:Nm
 ps:List Pm
def zhN (k:Nat):Nm:=[118,UInt8.ofNat (97+k % 26),UInt8.ofNat (97+k / 26 % 26)]
inductive BlW (ms:List Mx) (fs:List Hd) (ps:List Pm):Nat→List Nm→Nat→Nat→List St→List Nm→Prop
 | nil (d:Nat) (vs:List Nm) (k:Nat):BlW ms fs ps d vs k k [] vs
 | lock {d:Nat} {vs:List Nm} {hi lo:Nat} {l:List St} {us:List Nm} (k:Int) (r:Rf) (h:BlW ms fs ps d vs hi (lo+1) l us) (hk:k=5∨k=6) (hr:RfW ms ps us r) :
   BlW ms fs ps d vs hi lo (l++[.mk k [] noEx r [] [] []]) us
 | var {d:Nat} {vs:List Nm} {hi lo:Nat} {l:List St} {us:List Nm} (e:Ex) (h:BlW ms fs ps d vs hi (lo+1) l us) (he:ExW 2 us e) :
   BlW ms fs ps d vs hi lo (l++[.mk 1 (zhN lo) e noRf [] [] []]) (us++[zhN lo])
 | set {d:Nat} {vs:List Nm} {hi lo:Nat} {l:List St} {us:List Nm} (n:Nm) (e:Ex) (h:BlW ms fs ps d vs hi (lo+1) l us) (hn:n∈us) (he:ExW 2 us e) :
   BlW ms fs ps d vs hi lo (l++[.mk 2 n e noRf [] [] []]) us
 | call {d:Nat} {vs:List Nm} {hi lo:Nat} {l:List St} {us:List Nm} (k:Int) (i:Nat) (args:List Ar) (h:BlW ms fs ps d vs hi (lo+1) l us) (hk:k=3∨k=4) (hi':i<fs.length)
   (hl:args.length=fs[i].ps.length) (ha:∀j (h1:j<fs[i].ps.length) (h2:j<args.length),ArW ms ps us fs[i].ps[j] args[j]) :
   BlW ms fs ps d vs hi lo (l++[.mk k fs[i].name noEx noRf args [] []]) us
 | cond {d:Nat} {vs:List Nm} {hi m n lo:Nat} {l:List St} {us u1 u2:List Nm} (e:Ex) (thn els:List St) (h:BlW ms fs ps (d+1) vs hi (m+1) l us) (he:ExW 2 us e)
   (h1:BlW ms fs ps d us m n thn u1) (h2:BlW ms fs ps d us n lo els u2) :
   BlW ms fs ps (d+1) vs hi lo (l++[.mk 7 [] e noRf [] thn els]) us
 | whl {d:Nat} {vs:List Nm} {hi m lo:Nat} {l:List St} {us u1:List Nm} (e:Ex) (thn:List St) (h:BlW ms fs ps (d+1) vs hi (m+1) l us) (he:ExW 2 us e)
   (h1:BlW ms fs ps d us m lo thn u1) :
   BlW ms fs ps (d+1) vs hi lo (l++[.mk 8 [] e noRf [] thn []]) us
 | ret {d:Nat} {vs:List Nm} {hi lo:Nat} {l:List St} {us:List Nm} (h:BlW ms fs ps d vs hi (lo+1) l us) :
   BlW ms fs ps d vs hi lo (l++[.mk 9 [] noEx noRf [] [] []]) us
 | around {d:Nat} {vs:List Nm} {hi m lo:Nat} {l l2:List St} {us u2:List Nm} (r:Rf) (h:BlW ms fs ps d vs hi (m+1) l us) (hr:RfW ms ps us r)
   (h2:BlW ms fs ps 0 us m lo l2 u2) :
   BlW ms fs ps d vs hi lo (((l++[.mk 5 [] noEx r [] [] []])++l2)++[.mk 6 [] noEx r [] [] []]) us
structure PgW (P:Pg):Prop where
 gl:P.gs.length≤2
 ml:1≤P.ms.length∧P.ms.length≤4
 fl:1≤P.fs.length∧P.fs.length≤4
 g:∀i (h:i<P.gs.length),P.gs[i].name=[103,UInt8.ofNat (48+i)]∧-2≤P.gs[i].init∧P.gs[i].init≤2
 m:∀i (h:i<P.ms.length),P.ms[i].name=[UInt8.ofNat (97+i)]∧P.ms[i].size≤3∧(P.ms[i].re=true→P.ms[i].size=0)
 f:∀i (h:i<P.fs.length),P.fs[i].name=(if i=0 then [109,97,105,110] else [102,UInt8.ofNat (48+i)])∧P.fs[i].ps.length≤2∧(i=0→P.fs[i].ps=[]) ∧
  ∀j (h':j<P.fs[i].ps.length),(P.fs[i].ps[j]).name=[112,UInt8.ofNat (48+(P.fs[i].ps.length-j))]
 b:∃L:Nat→Nat,L 0≤24∧∀i (h:i<P.fs.length),∃us,BlW P.ms (P.fs.map fun f=>⟨f.name,f.ps⟩) P.fs[i].ps 2 (P.gs.map (·.name)++(P.fs[i].ps.filter fun p=>!p.m).map (·.name)) (L i) (L (i+1)) P.fs[i].body us
theorem vName_ok (k:Nat) (h:k<26):zax (zhN k)=true:=by
 have:∀k:Fin 26,zax (zhN k.val)=true:=by decide
 exact this ⟨k,h⟩
theorem ExW.md {d:Nat} {vs:List Nm} {E:Ex} (h:ExW d vs E) (hN:∀n∈vs,zax n=true):MdE d E:=by
 rcases h with⟨n,hn,rfl⟩|⟨xs,k,i,hk,rfl⟩
 ·
  exact md_num n hn d
 ·
  exact(exprG_md vs hN xs k i).mono hk
theorem RfW.md {ms:List Mx} {ps:List Pm} {vs:List Nm} {r:Rf} (h:RfW ms ps vs r) (hN:∀n∈vs,zax n=true) (hM:∀i (h:i<ms.length),zax ms[i].name=true) (hP:∀i (h:i<ps.length),zax ps[i].name=true):MdR r:=by
 rcases h with⟨i,hi,hn,hx⟩|⟨i,hi,-,hn,hx⟩
 ·
  refine⟨by rw[hn];exact hM i hi,fun E hE=>?_⟩;rcases hx with⟨-,h0⟩|⟨-,E',h0,hW⟩
  ·
   rw[h0] at hE;cases hE
  ·
   rw[h0] at hE;injection hE with hE;rw[←hE];exact hW.md hN
 ·
  refine⟨by rw[hn];exact hP i hi,fun E hE=>?_⟩;rw[hx] at hE;cases hE
theorem ArW.md {ms:List Mx} {ps:List Pm} {vs:List Nm} {p:Pm} {a:Ar} (h:ArW ms ps vs p a) (hN:∀n∈vs,zax n=true) (hM:∀i (h:i<ms.length),zax ms[i].name=true) (hP:∀i (h:i<ps.length),zax ps[i].name=true):MdA a:=by
 rcases h with⟨-,hm,hr,he⟩|⟨-,hm,hr,he⟩
 ·
  exact .inl ⟨hm,hr.md hN hM hP,he⟩
 ·
  exact .inr ⟨hm,hr,he.md hN⟩
structure BlF (d:Nat) (hi lo:Nat) (l:List St) (us:List Nm):Prop where
 s:∀s∈l,MdS d s
 n:stNs l+2*lo≤2*hi
 u:∀n∈us,zax n=true
theorem BlW.le {ms:List Mx} {fs:List Hd} {ps:List Pm} {d:Nat} {vs:List Nm} {hi lo:Nat} {l:List St} {us:List Nm} (h:BlW ms fs ps d vs hi lo l us):lo≤hi:=by
 induction h<;>omega
theorem zcF {l:List St} {a s:St} (h:s∈l++[a]):s∈l∨s=a:=by simpa using h
theorem zbX (a:St):stNs [a]=stN a:=by rw[zcn,zb9];omega
theorem BlW.facts {ms:List Mx} {fs:List Hd} {ps:List Pm} (hM:∀i (h:i<ms.length),zax ms[i].name=true) (hP:∀i (h:i<ps.length),zax ps[i].name=true)
  (hF:∀i (h:i<fs.length),zax fs[i].name=true∧fs[i].ps.length≤2) {d:Nat} {vs:List Nm} {hi lo:Nat} {l:List St} {us:List Nm} (h:BlW ms fs ps d vs hi lo l us) :
  hi≤26→(∀n∈vs,zax n=true)→BlF d hi lo l us:=by
 induction h with
 | nil d vs k=>exact fun _ hv=>⟨fun s hs=>absurd hs (by simp),by rw[zb9];omega,hv⟩
 | lock k r h hk hr ih =>
  intro h26 hv;obtain⟨i1,i2,i3⟩:=ih h26 hv;refine⟨fun s hs=>?_,?_,i3⟩
  ·
   rcases zcF hs with h1|rfl
   ·
    exact i1 s h1
   ·
    exact .lock _ k r hk (hr.md i3 hM hP)
  ·
   rw[zbL,zbX,zbU,zb9];omega
 | @var d vs hi lo l us e h he ih =>
  intro h26 hv;obtain⟨i1,i2,i3⟩:=ih h26 hv;have hle:=h.le;have hvn:=vName_ok lo (by omega);refine⟨fun s hs=>?_,?_,fun n hn=>?_⟩
  ·
   rcases zcF hs with h1|rfl
   ·
    exact i1 s h1
   ·
    exact .set _ 1 _ e (.inl rfl) hvn (he.md i3)
  ·
   rw[zbL,zbX,zbU,zb9];omega
  ·
   rcases List.mem_append.1 hn with h1|h1
   ·
    exact i3 n h1
   ·
    rw[List.mem_singleton.1 h1];exact hvn
 | set n e h hn he ih =>
  intro h26 hv;obtain⟨i1,i2,i3⟩:=ih h26 hv;refine⟨fun s hs=>?_,?_,i3⟩
  ·
   rcases zcF hs with h1|rfl
   ·
    exact i1 s h1
   ·
    exact .set _ 2 _ e (.inr rfl) (i3 n hn) (he.md i3)
  ·
   rw[zbL,zbX,zbU,zb9];omega
 | call k i args h hk hi' hl ha ih =>
  intro h26 hv;obtain⟨i1,i2,i3⟩:=ih h26 hv;refine⟨fun s hs=>?_,?_,i3⟩
  ·
   rcases zcF hs with h1|rfl
   ·
    exact i1 s h1
   ·
    exact .call _ k _ args hk (hF i hi').1 (by rw[hl];exact(hF i hi').2) (fun j hj=>(ha j (by omega) hj).md i3 hM hP)
  ·
   rw[zbL,zbX,zbU,zb9];omega
 | cond e thn els h he h1 h2 ih ih1 ih2 =>
  intro h26 hv;obtain⟨i1,i2,i3⟩:=ih h26 hv;have l0:=h.le;have l1:=h1.le;obtain⟨a1,a2,-⟩:=ih1 (by omega) i3;obtain⟨b1,b2,-⟩:=ih2 (by omega) i3;refine⟨fun s hs=>?_,?_,i3⟩
  ·
   rcases zcF hs with h1|rfl
   ·
    exact i1 s h1
   ·
    exact .cond _ 7 e thn els (.inl rfl) (he.md i3) (fun j hj=>a1 _ (List.getElem_mem hj)) (fun j hj=>b1 _ (List.getElem_mem hj))
  ·
   rw[zbL,zbX,zbU];omega
 | whl e thn h he h1 ih ih1 =>
  intro h26 hv;obtain⟨i1,i2,i3⟩:=ih h26 hv;have l0:=h.le;obtain⟨a1,a2,-⟩:=ih1 (by omega) i3;refine⟨fun s hs=>?_,?_,i3⟩
  ·
   rcases zcF hs with h1|rfl
   ·
    exact i1 s h1
   ·
    exact .cond _ 8 e thn [] (.inr ⟨rfl,rfl⟩) (he.md i3) (fun j hj=>a1 _ (List.getElem_mem hj)) (fun j hj=>absurd hj (by simp))
  ·
   rw[zbL,zbX,zbU,zb9];omega
 | ret h ih =>
  intro h26 hv;obtain⟨i1,i2,i3⟩:=ih h26 hv;refine⟨fun s hs=>?_,?_,i3⟩
  ·
   rcases zcF hs with h1|rfl
   ·
    exact i1 s h1
   ·
    exact .ret _
  ·
   rw[zbL,zbX,zbU,zb9];omega
 | around r h hr h2 ih ih2 =>
  intro h26 hv;obtain⟨i1,i2,i3⟩:=ih h26 hv;have l0:=h.le;obtain⟨a1,a2,-⟩:=ih2 (by omega) i3;have hR:=hr.md i3 hM hP;refine⟨fun s hs=>?_,?_,i3⟩
  ·
   rcases zcF hs with h1|rfl
   ·
    rcases List.mem_append.1 h1 with h1|h1
    ·
     rcases zcF h1 with h1|rfl
     ·
      exact i1 s h1
     ·
      exact .lock _ 5 r (.inl rfl) hR
    ·
     exact(a1 s h1).mono (Nat.zero_le _)
   ·
    exact .lock _ 6 r (.inr rfl) hR
  ·
   rw[zbL,zbL,zbL,zbX,zbX,zbU,zbU,zb9];omega
theorem gName_ok (i:Nat) (h:i<10):zax [103,UInt8.ofNat (48+i)]=true:=by
 have:∀k:Fin 10,zax [103,UInt8.ofNat (48+k.val)]=true:=by decide
 exact this ⟨i,h⟩
theorem fName_ok (i:Nat) (h:i<10):zax [102,UInt8.ofNat (48+i)]=true:=by
 have:∀k:Fin 10,zax [102,UInt8.ofNat (48+k.val)]=true:=by decide
 exact this ⟨i,h⟩
theorem pName_ok (i:Nat) (h:i<10):zax [112,UInt8.ofNat (48+i)]=true:=by
 have:∀k:Fin 10,zax [112,UInt8.ofNat (48+k.val)]=true:=by decide
 exact this ⟨i,h⟩
theorem mName_ok (i:Nat) (h:i<20):zax [UInt8.ofNat (97+i)]=true:=by
 have:∀k:Fin 20,zax [UInt8.ofNat (97+k.val)]=true:=by decide
 exact this ⟨i,h⟩
theorem main_ok:zax [109,97,105,110]=true:=by decide
theorem PgW.md {P:Pg} (h:PgW P):MdP P:=by
 have hG:∀i (h:i<P.gs.length),zax P.gs[i].name=true:=fun i hi=>by
  rw[(h.g i hi).1];exact gName_ok i (by have:=h.gl;omega)
 have hM:∀i (h:i<P.ms.length),zax P.ms[i].name=true:=fun i hi=>by
  rw[(h.m i hi).1];exact mName_ok i (by have:=h.ml;omega)
 have hF:∀i (h:i<P.fs.length),zax P.fs[i].name=true:=fun i hi=>by
  rw[(h.f i hi).1];split
  ·
   exact main_ok
  ·
   exact fName_ok i (by have:=h.fl;omega)
 have hP:∀i (h:i<P.fs.length) j (h':j<P.fs[i].ps.length),zax (P.fs[i].ps[j]).name=true:=fun i hi j hj=>by
  rw[(h.f i hi).2.2.2 j hj];exact pName_ok _ (by have:=(h.f i hi).2.1;omega)
 obtain⟨L,hL0,hL⟩:=h.b;have hmono:∀i,i≤P.fs.length→L i≤24:=by
  intro i
  induction i with
  | zero=>exact fun _=>hL0
  | succ i ih =>
   intro hi;obtain⟨us,hB⟩:=hL i (by omega)
   have:=hB.le
   have:=ih (by omega);omega
 refine⟨h.gl,h.ml.2,h.fl.2,fun i hi=>⟨hG i hi,(h.g i hi).2⟩,fun i hi=>⟨hM i hi,(h.m i hi).2⟩,fun i hi=>?_⟩;obtain⟨us,hB⟩:=hL i hi;have hf:=hB.facts hM (hP i hi) (fun j hj=>by
  simp only[List.getElem_map];have hj':j<P.fs.length:=by simpa using hj
  exact⟨hF j hj',(h.f j hj').2.1⟩) (by have:=hmono i (by omega);omega) (fun n hn=>by
  rcases List.mem_append.1 hn with h1|h1
  ·
   obtain⟨g,hg,rfl⟩:=List.mem_map.1 h1;obtain⟨j,hj,rfl⟩:=List.mem_iff_getElem.1 hg;exact hG j hj
  ·
   obtain⟨p,hp,rfl⟩:=List.mem_map.1 h1;obtain⟨j,hj,rfl⟩:=List.mem_iff_getElem.1 ((List.mem_filter.1 hp).1);exact hP i hi j hj)
 refine⟨hF i hi,(h.f i hi).2.1,hP i hi,fun j hj=>hf.s _ (List.getElem_mem hj),?_⟩
 have:=hf.n
 have:=hmono i (by omega);omega
namespace Ps
inductive R where
 | bad (at_ e:Nat)
 | ok (x:Ex) (at_:Nat)
def R.bind (r:R) (f:Ex→Nat→R):R :=
 match r with
 | .bad a e=>.bad a e
 | .ok x k=>f x k
def sgTab:List (List UInt8):=[[],[],[],[45],[33],[42],[47],[37],[43],[45],[60],[60,61],[62],[62,61],[61,61],[33,61],[38,38],[124,124]]
def opFind (s:List UInt8):Nat→Nat→Nat
 | 0,_=>0
 | n+1,op=>if sgTab.getD op []=s then op else opFind s n (op+1)
def uop (s:List UInt8):Nat:=opFind s 2 3
def bop (s:List UInt8):Nat:=opFind s 13 5
def strD (op:Int):Nat:=if 1≤op∧op≤17 then strV op+1 else 0
def kindAt (ts:List Tk.Tok) (k:Nat):Nat:=match ts[k]? with|some t=>t.kind|none=>5
def sgn (ts:List Tk.Tok) (k:Nat):List UInt8:=match ts[k]? with|some t=>if t.kind=4 then t.text else []|none=>[]
def numAt (ts:List Tk.Tok) (k:Nat):Nat:=match ts[k]? with|some t=>t.num|none=>0
def textAt (ts:List Tk.Tok) (k:Nat):List UInt8:=match ts[k]? with|some t=>t.text|none=>[]
mutual
def pE (ts:List Tk.Tok):Nat→Nat→Nat→Nat→R
 | 0,_,_,k=>.bad k 0
 | f+1,least,o,k=>(pO ts f o k).bind fun x k'=>pC ts f least o x k'
def pC (ts:List Tk.Tok):Nat→Nat→Nat→Ex→Nat→R
 | 0,_,_,_,k=>.bad k 0
 | f+1,least,o,x,k =>
  if strD (bop (sgn ts k))<least then .ok x k
  else (pE ts f (strD (bop (sgn ts k))+1) o (k+1)).bind fun r k'=>pC ts f least o (.mk (bop (sgn ts k)) 0 [] [x,r]) k'
def pO (ts:List Tk.Tok):Nat→Nat→Nat→R
 | 0,_,k=>.bad k 0
 | f+1,o,k =>
  if kindAt ts k=2 then .ok (.mk 1 (numAt ts k) [] []) (k+1)
  else if kindAt ts k=1 then .ok (.mk 2 0 (textAt ts k) []) (k+1)
  else if uop (sgn ts k)=0∧sgn ts k≠[40] then .bad k 4
  else if o=24 then .bad k 3
  else if uop (sgn ts k)=0 then (pE ts f 1 (o+1) (k+1)).bind fun x k'=>if sgn ts k'=[41] then .ok x (k'+1) else .bad k' 4
  else (pO ts f (o+1) (k+1)).bind fun x k'=>.ok (.mk (uop (sgn ts k)) 0 [] [x]) k'
end
theorem bind_ok {r:R} {f:Ex→Nat→R} {y:Ex} {m:Nat} (h:r.bind f=.ok y m):∃x k,r=.ok x k∧f x k=.ok y m:=by
 cases r with
 | bad a e=>cases h
 | ok x k=>exact⟨x,k,rfl,h⟩
theorem zc9 {r:R} {f g:Ex→Nat→R} (h:∀x k,r=.ok x k→f x k=g x k):r.bind f=r.bind g:=by
 cases r with
 | bad a e=>rfl
 | ok x k=>exact h x k rfl
theorem bind_assoc (r:R) (f g:Ex→Nat→R):(r.bind f).bind g=r.bind fun x k=>(f x k).bind g:=by cases r<;>rfl
theorem step_E (ts:List Tk.Tok) (f l o k:Nat):pE ts (f+1) l o k=(pO ts f o k).bind fun x k'=>pC ts f l o x k':=by rw[pE]
theorem step_C (ts:List Tk.Tok) (f l o:Nat) (x:Ex) (k:Nat):pC ts (f+1) l o x k=if strD (bop (sgn ts k))<l then .ok x k
  else (pE ts f (strD (bop (sgn ts k))+1) o (k+1)).bind fun r k'=>pC ts f l o (.mk (bop (sgn ts k)) 0 [] [x,r]) k':=by rw[pC]
theorem step_O (ts:List Tk.Tok) (f o k:Nat):pO ts (f+1) o k =
  if kindAt ts k=2 then .ok (.mk 1 (numAt ts k) [] []) (k+1)
  else if kindAt ts k=1 then .ok (.mk 2 0 (textAt ts k) []) (k+1)
  else if uop (sgn ts k)=0∧sgn ts k≠[40] then .bad k 4
  else if o=24 then .bad k 3
  else if uop (sgn ts k)=0 then (pE ts f 1 (o+1) (k+1)).bind fun x k'=>if sgn ts k'=[41] then .ok x (k'+1) else .bad k' 4
  else (pO ts f (o+1) (k+1)).bind fun x k'=>.ok (.mk (uop (sgn ts k)) 0 [] [x]) k':=by rw[pO]
theorem moves (ts:List Tk.Tok) (f:Nat):(∀l o k y m,pE ts f l o k=.ok y m→k<m)∧(∀l o x k y m,pC ts f l o x k=.ok y m→k≤m)∧(∀o k y m,pO ts f o k=.ok y m→k<m):=by
 induction f with
 | zero =>
  refine⟨?_,?_,?_⟩
  ·
   intro l o k y m h;rw[pE] at h;cases h
  ·
   intro l o x k y m h;rw[pC] at h;cases h
  ·
   intro o k y m h;rw[pO] at h;cases h
 | succ f ih =>
  obtain⟨iE,iC,iO⟩:=ih;refine⟨?_,?_,?_⟩
  ·
   intro l o k y m h;rw[step_E] at h;obtain⟨x,k',h1,h2⟩:=bind_ok h
   have:=iO _ _ _ _ h1
   have:=iC _ _ _ _ _ _ h2;omega
  ·
   intro l o x k y m h;rw[step_C] at h;split at h
   ·
    injection h with _ h;omega
   ·
    obtain⟨r,k',h1,h2⟩:=bind_ok h
    have:=iE _ _ _ _ _ h1
    have:=iC _ _ _ _ _ _ h2;omega
  ·
   intro o k y m h;rw[step_O] at h;split at h
   ·
    injection h with _ h;omega
   split at h
   ·
    injection h with _ h;omega
   split at h
   ·
    cases h
   split at h
   ·
    cases h
   split at h
   ·
    obtain⟨r,k',h1,h2⟩:=bind_ok h
    have:=iE _ _ _ _ _ h1;split at h2
    ·
     injection h2 with _ h2;omega
    ·
     cases h2
   ·
    obtain⟨r,k',h1,h2⟩:=bind_ok h
    have:=iO _ _ _ _ h1;injection h2 with _ h2;omega
theorem zh2 (ts:List Tk.Tok) (k:Nat) (h:ts.length≤k):kindAt ts k=5:=by
 unfold kindAt;rw[List.getElem?_eq_none h]
theorem zgv (ts:List Tk.Tok) (k:Nat) (h:ts.length≤k):sgn ts k=[]:=by
 unfold sgn;rw[List.getElem?_eq_none h]
theorem uop_nil:uop []=0:=by decide
theorem ziR:bop []=0:=by decide
theorem strD_zero:strD 0=0:=by decide
theorem out_O (ts:List Tk.Tok) (f o k:Nat) (h:ts.length≤k):pO ts (f+1) o k=.bad k 4:=by
 rw[step_O,zh2 ts k h,zgv ts k h,uop_nil,if_neg (by decide),if_neg (by decide),if_pos ⟨rfl,by decide⟩]
theorem zdr (ts:List Tk.Tok) (l k:Nat) (hl:1≤l) (h:¬strD (bop (sgn ts k))<l):k<ts.length:=by
 rcases Nat.lt_or_ge k ts.length with h1|h1
 ·
  exact h1
 ·
  rw[zgv ts k h1,ziR] at h;exact absurd (show strD (0:Nat)<l from by rw[show ((0:Nat):Int)=0 from rfl,strD_zero];omega) h
theorem fuel (ts:List Tk.Tok) (f:Nat):(∀l o k,1≤l→3*(ts.length-k)+2≤f→pE ts (f+1) l o k=pE ts f l o k) ∧
  (∀l o x k,1≤l→3*(ts.length-k)+1≤f→pC ts (f+1) l o x k=pC ts f l o x k)∧(∀o k,3*(ts.length-k)+1≤f→pO ts (f+1) o k=pO ts f o k):=by
 induction f with
 | zero=>exact⟨fun _ _ _ _ h=>absurd h (by omega),fun _ _ _ _ _ h=>absurd h (by omega),fun _ _ h=>absurd h (by omega)⟩
 | succ f ih =>
  obtain⟨iE,iC,iO⟩:=ih;obtain⟨mE,mC,mO⟩:=moves ts f;refine⟨?_,?_,?_⟩
  ·
   intro l o k hl h;rw[step_E ts (f+1),step_E ts f,iO o k (by omega)];refine zc9 fun x k' hx=>?_
   have:=mO _ _ _ _ hx;exact iC _ _ _ _ hl (by omega)
  ·
   intro l o x k hl h;rw[step_C ts (f+1),step_C ts f];split
   ·
    rfl
   ·
    rename_i hn;have hk:=zdr ts l k hl hn;rw[iE _ _ (k+1) (by omega) (by omega)];refine zc9 fun r k' hx=>?_
    have:=mE _ _ _ _ _ hx;exact iC _ _ _ _ hl (by omega)
  ·
   intro o k h;rcases Nat.lt_or_ge k ts.length with hk|hk
   ·
    rw[step_O ts (f+1) o k,step_O ts f o k,iE 1 (o+1) (k+1) (by omega) (by omega),iO (o+1) (k+1) (by omega)]
   ·
    rw[out_O ts _ o k hk,out_O ts _ o k hk]
def PE (ts:List Tk.Tok) (l o k:Nat):R:=pE ts (3*(ts.length-k)+2) l o k
def PC (ts:List Tk.Tok) (l o:Nat) (x:Ex) (k:Nat):R:=pC ts (3*(ts.length-k)+1) l o x k
def PO (ts:List Tk.Tok) (o k:Nat):R:=pO ts (3*(ts.length-k)+1) o k
theorem fuelE (ts:List Tk.Tok) (f l o k:Nat) (hl:1≤l) (h:3*(ts.length-k)+2≤f):pE ts f l o k=PE ts l o k:=by
 induction f with
 | zero=>omega
 | succ f ih =>
  rcases Nat.lt_or_ge f (3*(ts.length-k)+2) with h1|h1
  ·
   have:f+1=3*(ts.length-k)+2:=by omega
   rw[this];rfl
  ·
   rw[(fuel ts f).1 l o k hl h1,ih h1]
theorem fuelC (ts:List Tk.Tok) (f l o:Nat) (x:Ex) (k:Nat) (hl:1≤l) (h:3*(ts.length-k)+1≤f):pC ts f l o x k=PC ts l o x k:=by
 induction f with
 | zero=>omega
 | succ f ih =>
  rcases Nat.lt_or_ge f (3*(ts.length-k)+1) with h1|h1
  ·
   have:f+1=3*(ts.length-k)+1:=by omega
   rw[this];rfl
  ·
   rw[(fuel ts f).2.1 l o x k hl h1,ih h1]
theorem fuelO (ts:List Tk.Tok) (f o k:Nat) (h:3*(ts.length-k)+1≤f):pO ts f o k=PO ts o k:=by
 induction f with
 | zero=>omega
 | succ f ih =>
  rcases Nat.lt_or_ge f (3*(ts.length-k)+1) with h1|h1
  ·
   have:f+1=3*(ts.length-k)+1:=by omega
   rw[this];rfl
  ·
   rw[(fuel ts f).2.2 o k h1,ih h1]
theorem PO_moves {ts:List Tk.Tok} {o k:Nat} {y:Ex} {m:Nat} (h:PO ts o k=.ok y m):k<m:=(moves ts _).2.2 _ _ _ _ h
theorem PE_moves {ts:List Tk.Tok} {l o k:Nat} {y:Ex} {m:Nat} (h:PE ts l o k=.ok y m):k<m:=(moves ts _).1 _ _ _ _ _ h
theorem PE_eq (ts:List Tk.Tok) (l o k:Nat) (hl:1≤l):PE ts l o k=(PO ts o k).bind fun x k'=>PC ts l o x k':=by
 have h:PE ts l o k=(PO ts o k).bind fun x k'=>pC ts (3*(ts.length-k)+1) l o x k':=step_E ts (3*(ts.length-k)+1) l o k;rw[h];refine zc9 fun x k' hx=>?_
 have:=PO_moves hx;exact fuelC _ _ _ _ _ _ hl (by omega)
theorem PC_stop (ts:List Tk.Tok) (l o:Nat) (x:Ex) (k:Nat) (h:strD (bop (sgn ts k))<l):PC ts l o x k=.ok x k:=by
 unfold PC;rw[step_C,if_pos h]
theorem PC_go (ts:List Tk.Tok) (l o:Nat) (x:Ex) (k:Nat) (hl:1≤l) (h:¬strD (bop (sgn ts k))<l):PC ts l o x k=(PE ts (strD (bop (sgn ts k))+1) o (k+1)).bind fun r k'=>PC ts l o (.mk (bop (sgn ts k)) 0 [] [x,r]) k':=by
 have hk:=zdr ts l k hl h;have h0:PC ts l o x k=_:=step_C ts (3*(ts.length-k)) l o x k;rw[h0,if_neg h,fuelE _ _ _ _ (k+1) (by omega) (by omega)];refine zc9 fun x k' hx=>?_
 have:=PE_moves hx;exact fuelC _ _ _ _ _ _ hl (by omega)
theorem PO_eq (ts:List Tk.Tok) (o k:Nat):PO ts o k =
  if kindAt ts k=2 then .ok (.mk 1 (numAt ts k) [] []) (k+1)
  else if kindAt ts k=1 then .ok (.mk 2 0 (textAt ts k) []) (k+1)
  else if uop (sgn ts k)=0∧sgn ts k≠[40] then .bad k 4
  else if o=24 then .bad k 3
  else if uop (sgn ts k)=0 then (PE ts 1 (o+1) (k+1)).bind fun x k'=>if sgn ts k'=[41] then .ok x (k'+1) else .bad k' 4
  else (PO ts (o+1) (k+1)).bind fun x k'=>.ok (.mk (uop (sgn ts k)) 0 [] [x]) k':=by
 rcases Nat.lt_or_ge k ts.length with hk|hk
 ·
  have h0:PO ts o k=_:=step_O ts (3*(ts.length-k)) o k;rw[h0,fuelE _ _ 1 _ (k+1) (by omega) (by omega),fuelO _ _ _ (k+1) (by omega)]
 ·
  have h0:PO ts o k=_:=out_O ts (3*(ts.length-k)) o k hk;rw[h0,zh2 ts k hk,zgv ts k hk,uop_nil,if_neg (by decide),if_neg (by decide),if_pos ⟨rfl,by decide⟩]
theorem opFind_le (s:List UInt8) (n op:Nat):opFind s n op=0∨op≤opFind s n op∧opFind s n op<op+n:=by
 induction n generalizing op with
 | zero=>left;rfl
 | succ n ih =>
  unfold opFind;split
  ·
   right;omega
  ·
   rcases ih (op+1) with h|h
   ·
    left;exact h
   ·
    right;omega
theorem bop_str (s:List UInt8):strD (bop s)≤5:=by
 rcases opFind_le s 13 5 with h|h
 ·
  show strD (opFind s 13 5)≤5;rw[h];decide
 ·
  show strD (opFind s 13 5)≤5;generalize opFind s 13 5=n at *;unfold strD strV;split<;>(repeat' split)<;>omega
theorem PC_ends (ts:List Tk.Tok) (n:Nat):∀(l o:Nat) (x:Ex) (k:Nat) (y:Ex) (m:Nat),ts.length-k<n→1≤l→PC ts l o x k=.ok y m→strD (bop (sgn ts m))<l:=by
 induction n with
 | zero=>intro l o x k y m h;omega
 | succ n ih =>
  intro l o x k y m hn hl h;by_cases hs:strD (bop (sgn ts k))<l
  ·
   rw[PC_stop ts l o x k hs] at h;injection h with _ h;rw[←h];exact hs
  ·
   have hk:=zdr ts l k hl hs;rw[PC_go ts l o x k hl hs] at h;obtain⟨r,k',h1,h2⟩:=bind_ok h
   have:=PE_moves h1;exact ih l o _ k' y m (by omega) hl h2
theorem PE_ends {ts:List Tk.Tok} {l o k:Nat} {y:Ex} {m:Nat} (hl:1≤l) (h:PE ts l o k=.ok y m):strD (bop (sgn ts m))<l:=by
 rw[PE_eq ts l o k hl] at h;obtain⟨r,k',h1,h2⟩:=bind_ok h;exact PC_ends ts _ l o r k' y m (Nat.lt_succ_self _) hl h2
theorem PC_split (ts:List Tk.Tok) (n:Nat):∀(l o:Nat) (x:Ex) (k:Nat),ts.length-k<n→1≤l→PC ts l o x k=(PC ts (l+1) o x k).bind fun y m=>PC ts l o y m:=by
 induction n with
 | zero=>intro l o x k h;omega
 | succ n ih =>
  intro l o x k hn hl;by_cases hs:strD (bop (sgn ts k))<l+1
  ·
   rw[PC_stop ts (l+1) o x k hs];rfl
  ·
   have hk:=zdr ts (l+1) k (by omega) hs;rw[PC_go ts (l+1) o x k (by omega) hs,PC_go ts l o x k hl (by omega),bind_assoc];refine zc9 fun r k' hx=>?_
   have:=PE_moves hx;exact ih l o _ k' (by omega) hl
theorem PE_split (ts:List Tk.Tok) (l o k:Nat) (hl:1≤l):PE ts l o k=(PE ts (l+1) o k).bind fun y m=>PC ts l o y m:=by
 rw[PE_eq ts l o k hl,PE_eq ts (l+1) o k (by omega),bind_assoc];exact zc9 fun x k' _=>PC_split ts _ l o x k' (Nat.lt_succ_self _) hl
theorem PE_six (ts:List Tk.Tok) (o k:Nat):PE ts 6 o k=PO ts o k:=by
 rw[PE_eq ts 6 o k (by omega)]
 have:∀x k',PC ts 6 o x k'=.ok x k':=fun x k'=>PC_stop ts 6 o x k' (by have:=bop_str (sgn ts k');omega);cases PO ts o k with
 | bad a e=>rfl
 | ok x k'=>exact this x k'
theorem sgn_kind {ts:List Tk.Tok} {k:Nat} (h:sgn ts k≠[]):kindAt ts k=4:=by
 unfold sgn at h;unfold kindAt;cases hk:ts[k]? with
 | none=>rw[hk] at h;exact absurd rfl h
 | some t =>
  rw[hk] at h;dsimp only at h ⊢;split at h
  ·
   assumption
  ·
   exact absurd rfl h
theorem next_in {ts:List Tk.Tok} (hlast:kindAt ts (ts.length-1)=5) {k:Nat} (hk:k<ts.length) (h:kindAt ts k≠5):k+1<ts.length:=by
 rcases Nat.lt_or_ge (k+1) ts.length with h1|h1
 ·
  exact h1
 ·
  have:k=ts.length-1:=by omega
  rw[this] at h;exact absurd hlast h
theorem bop_sgn {ts:List Tk.Tok} {l k:Nat} (hl:1≤l) (h:¬strD (bop (sgn ts k))<l):sgn ts k≠[]:=by
 intro e;rw[e,ziR] at h;exact h (show strD (0:Nat)<l from by rw[show ((0:Nat):Int)=0 from rfl,strD_zero];omega)
def R.at_:R→Nat
 | .bad m _=>m
 | .ok _ m=>m
theorem zfn {r:R} {f:Ex→Nat→R} {n:Nat} (h:r.at_<n) (hf:∀x k,k<n→(f x k).at_<n):(r.bind f).at_<n:=by
 cases r with
 | bad a e=>exact h
 | ok x k=>exact hf x k h
theorem inside (ts:List Tk.Tok) (hlast:kindAt ts (ts.length-1)=5) (f:Nat):(∀l o k,k<ts.length→1≤l→(pE ts f l o k).at_<ts.length)∧(∀l o x k,k<ts.length→1≤l→(pC ts f l o x k).at_<ts.length)∧(∀o k,k<ts.length→(pO ts f o k).at_<ts.length):=by
 induction f with
 | zero =>
  refine⟨?_,?_,?_⟩
  ·
   intro l o k h _;rw[pE];exact h
  ·
   intro l o x k h _;rw[pC];exact h
  ·
   intro o k h;rw[pO];exact h
 | succ f ih =>
  obtain⟨iE,iC,iO⟩:=ih;refine⟨?_,?_,?_⟩
  ·
   intro l o k h hl;rw[step_E];exact zfn (iO o k h) fun x k' hk'=>iC l o x k' hk' hl
  ·
   intro l o x k h hl;rw[step_C];split
   ·
    exact h
   ·
    rename_i hn;have h1:=next_in hlast h (by rw[sgn_kind (bop_sgn hl hn)];decide);exact zfn (iE _ o _ h1 (by omega)) fun x k' hk'=>iC l o _ k' hk' hl
  ·
   intro o k h;rw[step_O];split
   ·
    rename_i h2;exact next_in hlast h (by rw[h2];decide)
   split
   ·
    rename_i h2;exact next_in hlast h (by rw[h2];decide)
   split
   ·
    exact h
   ·
    rename_i hq;have hs:sgn ts k≠[]:=by
     intro e;rw[e] at hq;exact hq ⟨uop_nil,by decide⟩
    have h1:=next_in hlast h (by rw[sgn_kind hs];decide);split
    ·
     exact h
    split
    ·
     refine zfn (iE 1 _ _ h1 (by omega)) fun x k' hk'=>?_;split
     ·
      rename_i h41;exact next_in hlast hk' (by rw[sgn_kind (by rw[h41];decide)];decide)
     ·
      exact hk'
    ·
     exact zfn (iO _ _ h1) fun x k' hk'=>hk'
theorem PE_in {ts:List Tk.Tok} (hlast:kindAt ts (ts.length-1)=5) (l o k:Nat) (h:k<ts.length) (hl:1≤l):(PE ts l o k).at_<ts.length:=(inside ts hlast _).1 l o k h hl
theorem zdZ {r:R} {f:Ex→Nat→R} {m e:Nat} (h:r.bind f=.bad m e):r=.bad m e∨∃x k,r=.ok x k∧f x k=.bad m e:=by
 cases r with
 | bad a e=>left;exact h
 | ok x k=>right;exact⟨x,k,rfl,h⟩
theorem errs (ts:List Tk.Tok) (f:Nat):(∀l o k m e,1≤l→3*(ts.length-k)+2≤f→pE ts f l o k=.bad m e→e=3∨e=4) ∧
  (∀l o x k m e,1≤l→3*(ts.length-k)+1≤f→pC ts f l o x k=.bad m e→e=3∨e=4)∧(∀o k m e,3*(ts.length-k)+1≤f→pO ts f o k=.bad m e→e=3∨e=4):=by
 induction f with
 | zero=>exact⟨fun _ _ _ _ _ _ h=>absurd h (by omega),fun _ _ _ _ _ _ _ h=>absurd h (by omega),fun _ _ _ _ h=>absurd h (by omega)⟩
 | succ f ih =>
  obtain⟨iE,iC,iO⟩:=ih;obtain⟨mE,mC,mO⟩:=moves ts f;refine⟨?_,?_,?_⟩
  ·
   intro l o k m e hl hf h;rw[step_E] at h;rcases zdZ h with h|⟨x,k',h1,h2⟩
   ·
    exact iO _ _ _ _ (by omega) h
   ·
    have:=mO _ _ _ _ h1;exact iC _ _ _ _ _ _ hl (by omega) h2
  ·
   intro l o x k m e hl hf h;rw[step_C] at h;split at h
   ·
    cases h
   ·
    rename_i hn;have hk:=zdr ts l k hl hn;rcases zdZ h with h|⟨r,k',h1,h2⟩
    ·
     exact iE _ _ _ _ _ (by omega) (by omega) h
    ·
     have:=mE _ _ _ _ _ h1;exact iC _ _ _ _ _ _ hl (by omega) h2
  ·
   intro o k m e hf h;rcases Nat.lt_or_ge k ts.length with hk|hk
   ·
    rw[step_O] at h;split at h
    ·
     cases h
    split at h
    ·
     cases h
    split at h
    ·
     injection h with _ h;omega
    split at h
    ·
     injection h with _ h;omega
    split at h
    ·
     rcases zdZ h with h|⟨r,k',h1,h2⟩
     ·
      exact iE _ _ _ _ _ (by omega) (by omega) h
     ·
      split at h2
      ·
       cases h2
      ·
       injection h2 with _ h2;omega
    ·
     rcases zdZ h with h|⟨r,k',h1,h2⟩
     ·
      exact iO _ _ _ _ (by omega) h
     ·
      cases h2
   ·
    rw[out_O ts f o k hk] at h;injection h with _ h;omega
theorem PE_err {ts:List Tk.Tok} {l o k m e:Nat} (hl:1≤l) (h:PE ts l o k=.bad m e):e=3∨e=4:=(errs ts _).1 l o k m e hl (lR _) h
theorem PO_err {ts:List Tk.Tok} {o k m e:Nat} (h:PO ts o k=.bad m e):e=3∨e=4:=(errs ts _).2.2 o k m e (lR _) h
end Ps
namespace Pa
inductive Sg where
 | bad (m e:Nat)
 | at_ (k:Nat)
def Sg.k:Sg→Nat|.bad m _=>m|.at_ k=>k
def Sg.e:Sg→Nat|.bad _ e=>e|.at_ _=>0
def Sg.live:Sg→Bool|.bad _ _=>false|.at_ _=>true
def kd (s:List UInt8):Nat:=if Tk.resv s=true then 3 else 4
def isS (ts:List Tk.Tok) (σ:Sg) (s:List UInt8):Bool:=match σ with|.bad _ _=>false|.at_ k=>decide (Ps.kindAt ts k=kd s)&&decide (Ps.textAt ts k=s)
def kdS (ts:List Tk.Tok) (σ:Sg) (K:Nat):Bool:=match σ with|.bad _ _=>false|.at_ k=>decide (Ps.kindAt ts k=K)
def nx:Sg→Sg|.bad m e=>.bad m e|.at_ k=>.at_ (k+1)
def fl (σ:Sg) (e:Nat):Sg:=match σ with|.bad m e'=>.bad m e'|.at_ k=>.bad k e
def ac (ts:List Tk.Tok) (σ:Sg) (s:List UInt8):Sg:=if isS ts σ s=true then nx σ else σ
def xp (ts:List Tk.Tok) (σ:Sg) (s:List UInt8):Sg:=if isS ts σ s=true then nx σ else fl σ 4
def lm (σ:Sg) (c most:Nat):Sg:=if most≤c then fl σ 3 else σ
def tk (ts:List Tk.Tok) (σ:Sg) (K:Nat):Sg:=if kdS ts σ K=true then nx σ else fl σ 4
def nmV (ts:List Tk.Tok) (σ:Sg):List UInt8:=if kdS ts σ 1=true then Ps.textAt ts σ.k else []
def nuV (ts:List Tk.Tok) (σ:Sg):Nat:=if kdS ts σ 2=true then Ps.numAt ts σ.k else 0
def exX (ts:List Tk.Tok) (σ:Sg):Ex:=match σ with|.bad _ _=>noEx|.at_ k=>match Ps.PE ts 1 0 k with|.ok x _=>x|.bad _ _=>noEx
def exS (ts:List Tk.Tok) (σ:Sg):Sg:=match σ with|.bad m e=>.bad m e|.at_ k=>match Ps.PE ts 1 0 k with|.ok _ m=>.at_ m|.bad m e=>.bad m e
def sRef (ts:List Tk.Tok) (σ:Sg):Rf × Sg :=
 if isS ts (tk ts σ 1) [91]=true then (⟨nmV ts σ,some (exX ts (nx (tk ts σ 1)))⟩,xp ts (exS ts (nx (tk ts σ 1))) [93]) else (⟨nmV ts σ,none⟩,tk ts σ 1)
def sArg (ts:List Tk.Tok) (σ:Sg):Ar × Sg :=
 if isS ts σ [109,117,116,101,120]=true then (⟨true,(sRef ts (nx σ)).1,noEx⟩,(sRef ts (nx σ)).2) else (⟨false,noRf,exX ts σ⟩,exS ts σ)
def sArgL (ts:List Tk.Tok):Nat→Sg→List Ar→List Ar × Sg
 | 0,σ,l=>(l,σ)
 | f+1,σ,l=>if isS ts (sArg ts σ).2 [44]=true then sArgL ts f (nx (sArg ts σ).2) (l++[(sArg ts σ).1]) else (l++[(sArg ts σ).1],xp ts (sArg ts σ).2 [41])
def sArgs (ts:List Tk.Tok) (σ:Sg):List Ar × Sg :=
 if isS ts (xp ts σ [40]) [41]=true then ([],nx (xp ts σ [40])) else sArgL ts (ts.length+1) (xp ts σ [40]) []
def sSet (ts:List Tk.Tok) (kind:Int) (name:List UInt8) (σ:Sg):St × Sg:=(.mk kind name (exX ts (xp ts σ [61])) noRf [] [] [],xp ts (exS ts (xp ts σ [61])) [59])
def sCall (ts:List Tk.Tok) (kind:Int) (name:List UInt8) (σ:Sg):St × Sg:=(.mk kind name noEx noRf (sArgs ts σ).1 [] [],xp ts (sArgs ts σ).2 [59])
def sLock (ts:List Tk.Tok) (kind:Int) (σ:Sg):St × Sg:=(.mk kind [] noEx (sRef ts σ).1 [] [] [],xp ts (sRef ts σ).2 [59])
def sIf (ts:List Tk.Tok) (blk:Sg→List St × Sg) (σ:Sg):St × Sg :=
 if isS ts (blk (exS ts σ)).2 [101,108,115,101]=true then (.mk 7 [] (exX ts σ) noRf [] (blk (exS ts σ)).1 (blk (nx (blk (exS ts σ)).2)).1,(blk (nx (blk (exS ts σ)).2)).2)
 else (.mk 7 [] (exX ts σ) noRf [] (blk (exS ts σ)).1 [],(blk (exS ts σ)).2)
def sWhile (ts:List Tk.Tok) (blk:Sg→List St × Sg) (σ:Sg):St × Sg:=(.mk 8 [] (exX ts σ) noRf [] (blk (exS ts σ)).1 [],(blk (exS ts σ)).2)
def sStmt (ts:List Tk.Tok) (blk:Sg→List St × Sg) (σ:Sg):St × Sg :=
 if isS ts σ [118,97,114]=true then sSet ts 1 (nmV ts (nx σ)) (tk ts (nx σ) 1)
 else if isS ts σ [103,111]=true then sCall ts 4 (nmV ts (nx σ)) (tk ts (nx σ) 1)
 else if isS ts σ [108,111,99,107]=true then sLock ts 5 (nx σ)
 else if isS ts σ [117,110,108,111,99,107]=true then sLock ts 6 (nx σ)
 else if isS ts σ [105,102]=true then sIf ts blk (nx σ)
 else if isS ts σ [119,104,105,108,101]=true then sWhile ts blk (nx σ)
 else if isS ts σ [114,101,116,117,114,110]=true then (.mk 9 [] noEx noRf [] [] [],xp ts (nx σ) [59])
 else if isS ts (tk ts σ 1) [40]=true then sCall ts 3 (nmV ts σ) (tk ts σ 1)
 else sSet ts 2 (nmV ts σ) (tk ts σ 1)
def sStmts (ts:List Tk.Tok) (st:Sg→St × Sg):Nat→Sg→List St→List St × Sg
 | 0,σ,l=>(l,σ)
 | f+1,σ,l=>if σ.live=false then (l,σ) else if isS ts σ [125]=true then (l,nx σ) else sStmts ts st f (st σ).2 (l++[(st σ).1])
def sBlock (ts:List Tk.Tok):Nat→Nat→Sg→List St × Sg
 | 0,_,σ=>([],σ)
 | f+1,o,σ=>sStmts ts (fun τ=>sStmt ts (fun υ=>sBlock ts f (o+1) υ) τ) (ts.length+1) (xp ts (if isS ts σ [123]=true then lm σ o 24 else σ) [123]) []
def sParam (ts:List Tk.Tok) (i:Nat) (σ:Sg):Pm × Sg :=
 (⟨nmV ts (ac ts (if isS ts σ [109,117,116,101,120]=true∨kdS ts σ 1=true then lm σ i 6 else σ) [109,117,116,101,120]),isS ts (if isS ts σ [109,117,116,101,120]=true∨kdS ts σ 1=true then lm σ i 6 else σ) [109,117,116,101,120]⟩,
  tk ts (ac ts (if isS ts σ [109,117,116,101,120]=true∨kdS ts σ 1=true then lm σ i 6 else σ) [109,117,116,101,120]) 1)
def sParamL (ts:List Tk.Tok):Nat→Sg→List Pm→List Pm × Sg
 | 0,σ,l=>(l,σ)
 | f+1,σ,l=>if isS ts (sParam ts l.length σ).2 [44]=true then sParamL ts f (nx (sParam ts l.length σ).2) (l++[(sParam ts l.length σ).1]) else (l++[(sParam ts l.length σ).1],xp ts (sParam ts l.length σ).2 [41])
def sParams (ts:List Tk.Tok) (σ:Sg):List Pm × Sg :=
 if isS ts (xp ts σ [40]) [41]=true then ([],nx (xp ts σ [40])) else sParamL ts (ts.length+1) (xp ts σ [40]) []
def sGlobal (ts:List Tk.Tok) (σ:Sg):Gl × Sg :=
 if isS ts (tk ts σ 1) [61]=true then
  (⟨nmV ts σ,if isS ts (nx (tk ts σ 1)) [45]=true then -((nuV ts (nx (nx (tk ts σ 1))):Nat):Int) else (nuV ts (nx (tk ts σ 1)):Nat)⟩,
   xp ts (tk ts (ac ts (nx (tk ts σ 1)) [45]) 2) [59])
 else (⟨nmV ts σ,0⟩,xp ts (tk ts σ 1) [59])
def szS (ts:List Tk.Tok) (σ:Sg):Sg:=tk ts (if kdS ts σ 2=true∧(Ps.numAt ts σ.k<1∨64<Ps.numAt ts σ.k) then fl σ 3 else σ) 2
def sMutex (ts:List Tk.Tok) (re:Bool) (σ:Sg):Mx × Sg :=
 if re=false∧isS ts (tk ts σ 1) [91]=true then (⟨nmV ts σ,re,nuV ts (nx (tk ts σ 1))⟩,xp ts (xp ts (szS ts (nx (tk ts σ 1))) [93]) [59])
 else (⟨nmV ts σ,re,0⟩,xp ts (tk ts σ 1) [59])
def sFunc (ts:List Tk.Tok) (σ:Sg):Fn × Sg :=
 (⟨nmV ts σ,(sParams ts (tk ts σ 1)).1,(sBlock ts 25 0 (sParams ts (tk ts σ 1)).2).1⟩,(sBlock ts 25 0 (sParams ts (tk ts σ 1)).2).2)
def sProg (ts:List Tk.Tok):Nat→Sg→Pg→Pg × Sg
 | 0,σ,p=>(p,σ)
 | f+1,σ,p =>
  if σ.live=false∨kdS ts σ 5=true then (p,σ)
  else if isS ts σ [118,97,114]=true then sProg ts f (sGlobal ts (ac ts (lm σ p.gs.length 16) [118,97,114])).2 {p with gs:=p.gs++[(sGlobal ts (ac ts (lm σ p.gs.length 16) [118,97,114])).1]}
  else if isS ts σ [109,117,116,101,120]=true then sProg ts f (sMutex ts false (ac ts (lm σ p.ms.length 12) [109,117,116,101,120])).2 {p with ms:=p.ms++[(sMutex ts false (ac ts (lm σ p.ms.length 12) [109,117,116,101,120])).1]}
  else if isS ts σ [114,109,117,116,101,120]=true then sProg ts f (sMutex ts true (ac ts (lm σ p.ms.length 12) [114,109,117,116,101,120])).2 {p with ms:=p.ms++[(sMutex ts true (ac ts (lm σ p.ms.length 12) [114,109,117,116,101,120])).1]}
  else if isS ts σ [102,117,110,99]=true then sProg ts f (sFunc ts (ac ts (lm σ p.fs.length 16) [102,117,110,99])).2 {p with fs:=p.fs++[(sFunc ts (ac ts (lm σ p.fs.length 16) [102,117,110,99])).1]}
  else (p,fl σ 4)
end Pa
namespace Pa
def Fws (σ τ:Sg):Prop:=τ.live=true→σ.live=true∧σ.k<τ.k
def Fwd (σ τ:Sg):Prop:=τ.live=true→σ.live=true∧σ.k≤τ.k
theorem Fws.fwd {σ τ:Sg} (h:Fws σ τ):Fwd σ τ:=fun hl=>⟨(h hl).1,Nat.le_of_lt (h hl).2⟩
theorem Fwd.refl (σ:Sg):Fwd σ σ:=fun h=>⟨h,lR _⟩
theorem Fwd.trans {a b c:Sg} (h:Fwd a b) (k:Fwd b c):Fwd a c:=fun hl=>⟨(h (k hl).1).1,Nat.le_trans (h (k hl).1).2 (k hl).2⟩
theorem Fws.then {a b c:Sg} (h:Fws a b) (k:Fwd b c):Fws a c:=fun hl=>⟨(h (k hl).1).1,Nat.lt_of_lt_of_le (h (k hl).1).2 (k hl).2⟩
theorem Fwd.then {a b c:Sg} (h:Fwd a b) (k:Fws b c):Fws a c:=fun hl=>⟨(h (k hl).1).1,Nat.lt_of_le_of_lt (h (k hl).1).2 (k hl).2⟩
theorem zbp (σ:Sg):Fws σ (nx σ):=by
 cases σ with
 | bad m e=>intro h;cases h
 | at_ k=>intro _;exact⟨rfl,Nat.lt_succ_self k⟩
theorem fl_dead (σ:Sg) (e:Nat):(fl σ e).live=false:=by cases σ<;>rfl
theorem zh6 (σ τ:Sg) (e:Nat):Fws τ (fl σ e):=fun h=>by rw[fl_dead] at h;cases h
theorem xp_fws (ts:List Tk.Tok) (σ:Sg) (s:List UInt8):Fws σ (xp ts σ s):=by
 unfold xp;split
 ·
  exact zbp σ
 ·
  exact zh6 σ σ 4
theorem tk_fws (ts:List Tk.Tok) (σ:Sg) (K:Nat):Fws σ (tk ts σ K):=by
 unfold tk;split
 ·
  exact zbp σ
 ·
  exact zh6 σ σ 4
theorem ac_fwd (ts:List Tk.Tok) (σ:Sg) (s:List UInt8):Fwd σ (ac ts σ s):=by
 unfold ac;split
 ·
  exact(zbp σ).fwd
 ·
  exact .refl σ
theorem lm_fwd (σ:Sg) (c most:Nat):Fwd σ (lm σ c most):=by
 unfold lm;split
 ·
  exact(zh6 σ σ 3).fwd
 ·
  exact .refl σ
theorem zdA (ts:List Tk.Tok) (σ:Sg):Fws σ (exS ts σ):=by
 cases σ with
 | bad m e=>intro h;cases h
 | at_ k =>
  unfold exS;dsimp only;cases h:Ps.PE ts 1 0 k with
  | ok x m=>intro _;exact⟨rfl,Ps.PE_moves h⟩
  | bad m e=>intro h;cases h
theorem zgU (ts:List Tk.Tok) (σ:Sg):Fws σ (sRef ts σ).2:=by
 unfold sRef;split
 ·
  exact(tk_fws ts σ 1).then ((zbp _).fwd.trans ((zdA ts _).fwd.trans (xp_fws ts _ _).fwd))
 ·
  exact tk_fws ts σ 1
theorem sArg_fws (ts:List Tk.Tok) (σ:Sg):Fws σ (sArg ts σ).2:=by
 unfold sArg;split
 ·
  exact(zbp σ).then (zgU ts _).fwd
 ·
  exact zdA ts σ
theorem zi9 (ts:List Tk.Tok) (f:Nat):∀(σ:Sg) (l:List Ar),Fwd σ (sArgL ts f σ l).2:=by
 induction f with
 | zero=>intro σ l;exact .refl σ
 | succ f ih =>
  intro σ l;rw[sArgL];split
  ·
   exact(sArg_fws ts σ).fwd.trans ((zbp _).fwd.trans (ih _ _))
  ·
   exact(sArg_fws ts σ).fwd.trans (xp_fws ts _ _).fwd
theorem zi7 (ts:List Tk.Tok) (σ:Sg):Fws σ (sArgs ts σ).2:=by
 unfold sArgs;split
 ·
  exact(xp_fws ts σ _).then (zbp _).fwd
 ·
  exact(xp_fws ts σ _).then (zi9 ts _ _ _)
theorem zgT (ts:List Tk.Tok) (kind:Int) (name:List UInt8) (σ:Sg):Fws σ (sSet ts kind name σ).2:=(xp_fws ts σ _).then ((zdA ts _).fwd.trans (xp_fws ts _ _).fwd)
theorem zfD (ts:List Tk.Tok) (kind:Int) (name:List UInt8) (σ:Sg):Fws σ (sCall ts kind name σ).2:=(zi7 ts σ).then (xp_fws ts _ _).fwd
theorem zfC (ts:List Tk.Tok) (kind:Int) (σ:Sg):Fws σ (sLock ts kind σ).2:=(zgU ts σ).then (xp_fws ts _ _).fwd
theorem sIf_fws (ts:List Tk.Tok) (blk:Sg→List St × Sg) (hb:∀τ,Fwd τ (blk τ).2) (σ:Sg):Fws σ (sIf ts blk σ).2:=by
 unfold sIf;split
 ·
  exact(zdA ts σ).then ((hb _).trans ((zbp _).fwd.trans (hb _)))
 ·
  exact(zdA ts σ).then (hb _)
theorem zho (ts:List Tk.Tok) (blk:Sg→List St × Sg) (hb:∀τ,Fwd τ (blk τ).2) (σ:Sg):Fws σ (sWhile ts blk σ).2:=(zdA ts σ).then (hb _)
theorem sStmt_fws (ts:List Tk.Tok) (blk:Sg→List St × Sg) (hb:∀τ,Fwd τ (blk τ).2) (σ:Sg):Fws σ (sStmt ts blk σ).2:=by
 unfold sStmt;split
 ·
  exact(zbp σ).then ((tk_fws ts _ 1).fwd.trans (zgT ts 1 _ _).fwd)
 split
 ·
  exact(zbp σ).then ((tk_fws ts _ 1).fwd.trans (zfD ts 4 _ _).fwd)
 split
 ·
  exact(zbp σ).then (zfC ts 5 _).fwd
 split
 ·
  exact(zbp σ).then (zfC ts 6 _).fwd
 split
 ·
  exact(zbp σ).then (sIf_fws ts blk hb _).fwd
 split
 ·
  exact(zbp σ).then (zho ts blk hb _).fwd
 split
 ·
  exact(zbp σ).then (xp_fws ts _ _).fwd
 split
 ·
  exact(tk_fws ts σ 1).then (zfD ts 3 _ _).fwd
 ·
  exact(tk_fws ts σ 1).then (zgT ts 2 _ _).fwd
theorem zhp (ts:List Tk.Tok) (st:Sg→St × Sg) (hs:∀τ,Fws τ (st τ).2) (f:Nat):∀(σ:Sg) (l:List St),Fwd σ (sStmts ts st f σ l).2:=by
 induction f with
 | zero=>intro σ l;exact .refl σ
 | succ f ih =>
  intro σ l;rw[sStmts];split
  ·
   exact .refl σ
  split
  ·
   exact(zbp σ).fwd
  ·
   exact(hs σ).fwd.trans (ih _ _)
theorem sBlock_fwd (ts:List Tk.Tok) (f:Nat):∀(o:Nat) (σ:Sg),Fwd σ (sBlock ts f o σ).2:=by
 induction f with
 | zero=>intro o σ;exact .refl σ
 | succ f ih =>
  intro o σ;rw[sBlock];refine Fwd.trans ?_ (zhp ts _ (fun τ=>sStmt_fws ts _ (fun υ=>ih (o+1) υ) τ) _ _ _);split
  ·
   exact(lm_fwd σ o 24).trans (xp_fws ts _ _).fwd
  ·
   exact(xp_fws ts σ _).fwd
theorem sParam_fws (ts:List Tk.Tok) (i:Nat) (σ:Sg):Fws σ (sParam ts i σ).2:=by
 unfold sParam;refine Fwd.then ?_ (tk_fws ts _ 1);refine Fwd.trans ?_ (ac_fwd ts _ _);split
 ·
  exact lm_fwd σ i 6
 ·
  exact .refl σ
theorem zgl (ts:List Tk.Tok) (f:Nat):∀(σ:Sg) (l:List Pm),Fwd σ (sParamL ts f σ l).2:=by
 induction f with
 | zero=>intro σ l;exact .refl σ
 | succ f ih =>
  intro σ l;rw[sParamL];split
  ·
   exact(sParam_fws ts _ σ).fwd.trans ((zbp _).fwd.trans (ih _ _))
  ·
   exact(sParam_fws ts _ σ).fwd.trans (xp_fws ts _ _).fwd
theorem zgk (ts:List Tk.Tok) (σ:Sg):Fws σ (sParams ts σ).2:=by
 unfold sParams;split
 ·
  exact(xp_fws ts σ _).then (zbp _).fwd
 ·
  exact(xp_fws ts σ _).then (zgl ts _ _ _)
theorem sGlobal_fws (ts:List Tk.Tok) (σ:Sg):Fws σ (sGlobal ts σ).2:=by
 unfold sGlobal;split
 ·
  exact(tk_fws ts σ 1).then ((zbp _).fwd.trans ((ac_fwd ts _ _).trans ((tk_fws ts _ 2).fwd.trans (xp_fws ts _ _).fwd)))
 ·
  exact(tk_fws ts σ 1).then (xp_fws ts _ _).fwd
theorem szS_fwd (ts:List Tk.Tok) (σ:Sg):Fwd σ (szS ts σ):=by
 unfold szS;refine Fwd.trans ?_ (tk_fws ts _ 2).fwd;split
 ·
  exact(zh6 σ σ 3).fwd
 ·
  exact .refl σ
theorem sMutex_fws (ts:List Tk.Tok) (re:Bool) (σ:Sg):Fws σ (sMutex ts re σ).2:=by
 unfold sMutex;split
 ·
  exact(tk_fws ts σ 1).then ((zbp _).fwd.trans ((szS_fwd ts _).trans ((xp_fws ts _ _).fwd.trans (xp_fws ts _ _).fwd)))
 ·
  exact(tk_fws ts σ 1).then (xp_fws ts _ _).fwd
theorem sFunc_fws (ts:List Tk.Tok) (σ:Sg):Fws σ (sFunc ts σ).2:=(tk_fws ts σ 1).then ((zgk ts _).fwd.trans (sBlock_fwd ts 25 0 _))
end Pa
def Rsr (w:World) (g:Nat) (ts:List Tk.Tok) (k bad e o d:Nat):Prop :=
 ∃A c,w.heap[g]?=some (.cells #[.slice A ts.length c,.int .i64 (k:Int),.int .i64 (bad:Int),.int .i64 (e:Int),.int .i64 (o:Int),.int .i64 (d:Int)] 65 (0,0))∧k<ts.length∧o≤1000∧ts.length≤1000000 ∧
  ∀i (h:i<ts.length),∃b,A=some ⟨b,0,none⟩∧b<g∧w.cell? ⟨b,i*4,none⟩=some (.int .i64 (ts[i].kind:Int))∧w.cell? ⟨b,i*4+1,none⟩=some (.string ⟨ts[i].text.toArray⟩) ∧
   w.cell? ⟨b,i*4+2,none⟩=some (.int .i64 (ts[i].num:Int))∧w.cell? ⟨b,i*4+3,none⟩=some (.int .i64 (ts[i].pos:Int))
theorem Rsr.keep {w w':World} {g:Nat} {ts:List Tk.Tok} {k bad e o d:Nat} (h:Rsr w g ts k bad e o d) (hk:∀b,b≤g→w'.heap[b]?=w.heap[b]?):Rsr w' g ts k bad e o d:=by
 obtain⟨A,c,hb,hl,ho,hn,hc⟩:=h;refine⟨A,c,(hk g (lR _)).trans hb,hl,ho,hn,fun i hi=>?_⟩;obtain⟨b,e,hbg,h0,h1,h2,h3⟩:=hc i hi;have e1:∀o',w'.cell? ⟨b,o',none⟩=w.cell? ⟨b,o',none⟩:=fun o'=>World.cell?_of_block (hk b (by omega));exact⟨b,e,hbg,(e1 _).trans h0,(e1 _).trans h1,(e1 _).trans h2,(e1 _).trans h3⟩
theorem Rsr.lt {w:World} {g:Nat} {ts:List Tk.Tok} {k bad e o d:Nat} (h:Rsr w g ts k bad e o d):g<w.heap.size:=by
 obtain⟨A,c,hb,_⟩:=h;exact lt_of_block hb
theorem Rsr.later {w w':World} {g:Nat} {ts:List Tk.Tok} {k bad e o d:Nat} (h:Rsr w g ts k bad e o d) (hb:Below w.heap.size w w'):Rsr w' g ts k bad e o d :=
 h.keep fun b hle=>hb.block b (by have:=h.lt;omega)
theorem Rsr.alloc {w:World} {g:Nat} {ts:List Tk.Tok} {k bad e o d:Nat} (h:Rsr w g ts k bad e o d) (ob:Obj):Rsr (w.alloc ob) g ts k bad e o d :=
 h.keep fun b hb=>Below.heap_alloc w ob b (by have:=h.lt;omega)
theorem Rsr.inT {w:World} {g:Nat} {ts:List Tk.Tok} {k bad e o d:Nat} (h:Rsr w g ts k bad e o d):k<ts.length:=by
 obtain⟨A,c,hb,hl,_⟩:=h;exact hl
theorem Rsr.mk' {w w':World} {g:Nat} {ts:List Tk.Tok} {k bad e o d:Nat} (h:Rsr w g ts k bad e o d) (k' bad' e' o' d':Nat) (hk':k'<ts.length) (ho':o'≤1000)
  (hw:∀A c,w.heap[g]?=some (.cells #[.slice A ts.length c,.int .i64 (k:Int),.int .i64 (bad:Int),.int .i64 (e:Int),.int .i64 (o:Int),.int .i64 (d:Int)] 65 (0,0)) →
   w'.heap[g]?=some (.cells #[.slice A ts.length c,.int .i64 (k':Int),.int .i64 (bad':Int),.int .i64 (e':Int),.int .i64 (o':Int),.int .i64 (d':Int)] 65 (0,0)))
  (hb:∀b,b≠g→w'.heap[b]?=w.heap[b]?):Rsr w' g ts k' bad' e' o' d':=by
 obtain⟨A,c,hg,hl,ho,hn,hc⟩:=h;refine⟨A,c,hw A c hg,hk',ho',hn,fun i hi=>?_⟩;obtain⟨b,e,hbg,h0,h1,h2,h3⟩:=hc i hi;have e1:∀o',w'.cell? ⟨b,o',none⟩=w.cell? ⟨b,o',none⟩:=fun o'=>World.cell?_of_block (hb b (by omega));exact⟨b,e,hbg,(e1 _).trans h0,(e1 _).trans h1,(e1 _).trans h2,(e1 _).trans h3⟩
theorem Rsr.at {w:World} {g:Nat} {ts:List Tk.Tok} {k bad e o d:Nat} (h:Rsr w g ts k bad e o d) (j:Nat) (hj:j<ts.length):Rsr (w.setCell ⟨g,1,none⟩ (.int .i64 (j:Int))) g ts j bad e o d:=by
 have ho:o≤1000:=by obtain⟨A,c,_,_,ho,_⟩:=h;exact ho
 refine h.mk' j bad e o d hj ho (fun A c hb=>?_) fun b hb=>Below.heap_setCell w _ _ b (by simpa using hb);simp[World.setCell,Array.getElem?_modify];exact⟨_,hb,rfl⟩
theorem Rsr.bad' {w:World} {g:Nat} {ts:List Tk.Tok} {k bad e o d:Nat} (h:Rsr w g ts k bad e o d) (j:Nat):Rsr (w.setCell ⟨g,2,none⟩ (.int .i64 (j:Int))) g ts k j e o d:=by
 have ho:o≤1000:=by obtain⟨A,c,_,_,ho,_⟩:=h;exact ho
 refine h.mk' k j e o d h.inT ho (fun A c hb=>?_) fun b hb=>Below.heap_setCell w _ _ b (by simpa using hb);simp[World.setCell,Array.getElem?_modify];exact⟨_,hb,rfl⟩
theorem Rsr.err {w:World} {g:Nat} {ts:List Tk.Tok} {k bad e o d:Nat} (h:Rsr w g ts k bad e o d) (j:Nat):Rsr (w.setCell ⟨g,3,none⟩ (.int .i64 (j:Int))) g ts k bad j o d:=by
 have ho:o≤1000:=by obtain⟨A,c,_,_,ho,_⟩:=h;exact ho
 refine h.mk' k bad j o d h.inT ho (fun A c hb=>?_) fun b hb=>Below.heap_setCell w _ _ b (by simpa using hb);simp[World.setCell,Array.getElem?_modify];exact⟨_,hb,rfl⟩
theorem Rsr.nest {w:World} {g:Nat} {ts:List Tk.Tok} {k bad e o d:Nat} (h:Rsr w g ts k bad e o d) (j:Nat) (hj:j≤1000):Rsr (w.setCell ⟨g,4,none⟩ (.int .i64 (j:Int))) g ts k bad e j d:=by
 refine h.mk' k bad e j d h.inT hj (fun A c hb=>?_) fun b hb=>Below.heap_setCell w _ _ b (by simpa using hb);simp[World.setCell,Array.getElem?_modify];exact⟨_,hb,rfl⟩
theorem Rsr.cells {w:World} {g:Nat} {ts:List Tk.Tok} {k bad e o d:Nat} (h:Rsr w g ts k bad e o d):∃b c,b≠g∧b<w.heap.size∧w.cell? ⟨g,0,none⟩=some (.slice (some ⟨b,0,none⟩) ts.length c)∧w.cell? ⟨g,1,none⟩=some (.int .i64 (k:Int))∧w.cell? ⟨g,2,none⟩=some (.int .i64 (bad:Int)) ∧
  w.cell? ⟨g,3,none⟩=some (.int .i64 (e:Int))∧w.cell? ⟨g,4,none⟩=some (.int .i64 (o:Int))∧(∀n:Nat,w.frozen? ⟨g,n,none⟩=false)∧k<1000000∧o≤1000 ∧
  w.cell? ⟨b,k*4,none⟩=some (.int .i64 (Ps.kindAt ts k:Int))∧w.cell? ⟨b,k*4+1,none⟩=some (.string ⟨(Ps.textAt ts k).toArray⟩)∧w.cell? ⟨b,k*4+2,none⟩=some (.int .i64 (Ps.numAt ts k:Int))∧(∃v:Int,w.cell? ⟨b,k*4+3,none⟩=some (.int .i64 v)):=by
 obtain⟨A,c,hb,hl,ho,hn,hc⟩:=h;obtain⟨b,rfl,hbg,h0,h1,h2,h3⟩:=hc k hl;have e1:Ps.kindAt ts k=ts[k].kind:=by unfold Ps.kindAt;rw[List.getElem?_eq_getElem hl]
 have e2:Ps.textAt ts k=ts[k].text:=by unfold Ps.textAt;rw[List.getElem?_eq_getElem hl]
 have e3:Ps.numAt ts k=ts[k].num:=by unfold Ps.numAt;rw[List.getElem?_eq_getElem hl]
 refine⟨b,c,by omega,World.block_lt_of_cell? _ _ h0,?_,?_,?_,?_,?_,?_,by omega,ho,by rw[e1];exact h0,by rw[e2];exact h1,by rw[e3];exact h2,_,h3⟩
 ·
  rw[cell_of_row w g 0 _ _ _ hb];rfl
 ·
  rw[cell_of_row w g 1 _ _ _ hb];rfl
 ·
  rw[cell_of_row w g 2 _ _ _ hb];rfl
 ·
  rw[cell_of_row w g 3 _ _ _ hb];rfl
 ·
  rw[cell_of_row w g 4 _ _ _ hb];rfl
 ·
  intro n;simp[World.frozen?,hb]
def isB (ts:List Tk.Tok) (k e:Nat) (s:List UInt8):Bool:=decide (e=0)&&((decide (Ps.kindAt ts k=4)||decide (Ps.kindAt ts k=3))&&decide (Ps.textAt ts k=s))
def zb2 (ts:List Tk.Tok) (k e K:Nat):Bool:=decide (e=0)&&decide (Ps.kindAt ts k=K)
set_option maxRecDepth 100000 in
set_option maxHeartbeats 4000000 in
theorem zfJ (w:World) (g:Nat) (ts:List Tk.Tok) (k bad e o d K:Nat) (hP:Rsr w g ts k bad e o d) :
  Calls Tryz.prog 36 #[.pointer (some ⟨g,0,none⟩),.int .i64 (K:Int)] w fun x w'=>x=.returned (.bool (zb2 ts k e K))∧Below w.heap.size w w':=by
 have hk:=hP.inT;obtain⟨b,c,hne,hbl,q0,q1,q2,q3,q4,fr,hkm,ho,a0,a1,a2,v,a3⟩:=hP.cells;have hgl:=hP.lt;clear hP;have i0:(0:Int)≤(k:Int):=by omega
 have i1:(k:Int)<(ts.length:Int):=by omega
 by_cases he:e=0
 ·
  have t0:=bT (show ((e:Nat):Int)=0 by omega);by_cases hK:Ps.kindAt ts k=K
  ·
   have HS:zb2 ts k e K=true:=by simp[zb2,he,hK]
   replace HS:=zH HS;have t1:=bT (show ((Ps.kindAt ts k:Nat):Int)=(K:Int) by omega);clear hK he;generalize Ps.kindAt ts k=K' at *;go_enter Tryz.func36,Tryz.ntmps36;go_wp2;go_region
   all_goals
    go_wp2;go_ret;rw[HS.out];exact⟨rfl,(Below.refl _ _).drew⟩
  ·
   have HS:zb2 ts k e K=false:=by simp[zb2,hK]
   replace HS:=zH HS;have t1:=bF (show ((Ps.kindAt ts k:Nat):Int)≠(K:Int) by omega);clear hK he;generalize Ps.kindAt ts k=K' at *;go_enter Tryz.func36,Tryz.ntmps36;go_wp2;go_region
   all_goals
    go_wp2;go_ret;rw[HS.out];exact⟨rfl,(Below.refl _ _).drew⟩
 ·
  have HS:zb2 ts k e K=false:=by simp[zb2,he]
  replace HS:=zH HS;have t0:=bF (show ((e:Nat):Int)≠0 by omega);clear he;generalize Ps.kindAt ts k=K' at *;go_enter Tryz.func36,Tryz.ntmps36;go_wp2;go_region
  all_goals
   go_wp2;go_ret;rw[HS.out];exact⟨rfl,(Below.refl _ _).drew⟩
end Go.Proofs.YtlnbmmgbfgmboaaGreatDoor
