import Derived.Test.YtlnbmmgbfgmboaaGreatDoorQa
import Derived.Test.YtlnbmmgbfgmboaaGreatDoorQ15
import Derived.Test.YtlnbmmgbfgmboaaGreatDoorRefLinesG
import Derived.Test.YtlnbmmgbfgmboaaGreatDoorQ6
namespace Go.Proofs.YtlnbmmgbfgmboaaGreatDoor
open Go.RowKit
theorem stNs_mem (l:List St) (i:Nat) (h:i<l.length):stN l[i]≤stNs l:=by
 induction l generalizing i with
 | nil=>simp at h
 | cons s r ih =>
  rw[zcn];cases i with
  | zero=>simp
  | succ i =>
   have:=ih i (by simpa using h);simp only[List.getElem_cons_succ];omega
set_option maxRecDepth 100000 in
set_option maxHeartbeats 8000000 in
theorem zfV (N:Nat):∀(l:List St) (A:Option Addr) (c d deep:Nat) (dd:Int) (w:World),SizeOf.sizeOf l<N→dd=(deep:Int)→deep+d<24→StsM w (fun _=>True) l A→(∀i (h:i<l.length),MdS d l[i])→stNs l≤1000000 →
  Calls Tryz.prog 53 #[.slice A l.length c,.int .i64 dd] w fun e w'=>e=.returned (.bool true)∧Below w.heap.size w w':=by
 induction N with
 | zero=>intro l A c d deep dd w h;omega
 | succ N ih =>
 intro l A c d deep dd w hN hdd hdp hM hMd hns;have IH:=zH ih;have HN:=zH hN;obtain⟨F,hMc,hMs⟩:=hM;have HMC:=zH hMc;have HMS:=zH hMs;have HMD:=zH hMd;have HNS:=zH hns;have HDD:=zH hdd;have hln:l.length≤1000000:=Nat.le_trans (zeZ l) hns;have dge:¬(24:Int)≤dd:=by omega
 have dlo:(0:Int)≤dd:=by omega
 have dhi:dd<24:=by omega
 clear ih hN hMc hMs hMd hns hdd;go_enter Tryz.func53,Tryz.ntmps53;go_wp2_with fail;clear dge
 go_loopw [5,6,7,8,9,10,11,12,13,14] (fun i _ _ _ _ _ _ _ _ _ wr=>∃k:Nat,k≤l.length∧i=.int .i64 k∧Below w.heap.size w wr) (fun i _ _ _ _ _ _ _ _ _ _=>l.length-(intOf i).toNat)
 case atStart=>exact⟨0,Nat.zero_le _,rfl,Below.refl _ _⟩
 case round =>
  obtain⟨k,hk,rfl,hbel⟩:=hrel;have HBE:=zH hbel;clear hbel;by_cases hlt:k<l.length
  ·
   obtain⟨b,off,rfl,-,hC0⟩:=HMC.out k hlt;have hC:=hC0.keep (HBE.out.block b hC0.lt);have hS:=(HMS.out k hlt).keep (w':=wr) (fun b _ hb=>HBE.out.block b hb);have hMk:=HMD.out k hlt;have HSZ:Hid (SizeOf.sizeOf l[k]<N):=by
    have h1:=zgh l k hlt;have h2:=HN.out;show _<_;omega
   have HSN:Hid (stN l[k]≤1000000):=Nat.le_trans (stNs_mem l k hlt) HNS.out;clear hC0;generalize l[k]=s at *;generalize F k=g at *;cases hS with
   | mk kind name e r args thn els _ T E he hr ha htc hts hec hes =>
   obtain⟨⟨fo,fx,fname,fA,fl,fc⟩,rA,rn,rc,aA,ac,tA,tc,eA,ec⟩:=g;obtain⟨c0,c1,c2,c3,c4,c5,c6,c7,c8,c9,c10⟩:=hC;dsimp only[St.kind,St.name,St.rf,St.ars,St.thn,St.els] at c0 c1 c2 c3 c4 c5 c6 c7 c8 c9 c10 he hr ha;have HE:=zH he;have HR:=zH hr;have HA:=zH ha;have HT:Hid (StsM wr (fun _=>True) thn tA):=⟨T,htc,hts⟩;have HEL:Hid (StsM wr (fun _=>True) els eA):=⟨E,hec,hes⟩;clear he hr ha htc hts hec hes;cases hMk with
   | lock d kind r hk hR =>
    have HRR:=zH hR;clear hR;obtain⟨rfl,rfl,rfl,rfl⟩:=zfY HE.out;rcases hk with rfl|rfl
    ·
     as_aux_lemma =>
      have HV:=zH (heap_alloc_new wr (.cells #[.int .i64 5,.string ⟨#[]⟩,.int .i64 0,.int .i64 0,.string ⟨#[]⟩,.slice fA 0 fc,.string ⟨r.name.toArray⟩,.slice rA rn rc,.slice aA 0 ac,.slice tA 0 tc,.slice eA 0 ec] 73));have HB0:Hid (Below wr.heap.size wr (wr.alloc (.cells #[.int .i64 5,.string ⟨#[]⟩,.int .i64 0,.int .i64 0,.string ⟨#[]⟩,.slice fA 0 fc,.string ⟨r.name.toArray⟩,.slice rA rn rc,.slice aA 0 ac,.slice tA 0 tc,.slice eA 0 ec] 73))):=(Below.refl _ _).alloc (lR _) _;go_wp2_with fail;generalize (wr.alloc (.cells #[.int .i64 5,.string ⟨#[]⟩,.int .i64 0,.int .i64 0,.string ⟨#[]⟩,.slice fA 0 fc,.string ⟨r.name.toArray⟩,.slice rA rn rc,.slice aA 0 ac,.slice tA 0 tc,.slice eA 0 ec] 73))=w0 at *;clear c0 c1 c2 c3 c4 c5 c6 c7 c8 c9 c10;have HX0:=HV;refine(zbH _ fA fc).mono ?_;rintro e w1 ⟨rfl,hb1⟩;have HX1:=zH ((hb1.block _ (lt_of_block HX0.out)).trans HX0.out);have HB1:=zH (za3 HB0.out hb1);obtain⟨x0,x1,x2,x3,x4,x5,x6,x7,x8,x9,x10,-,-⟩:=zac HX1.out;clear hb1 HX0;go_wp2_with fail;clear x0 x1 x2 x3 x4 x5 x6 x7 x8 x9 x10;refine(zdp _ r rA rn rc HRR.out (HR.out.keep fun b _ hl=>HB1.out.block b hl)).mono ?_;rintro e w2 ⟨rfl,hb2⟩;have HX2:=zH ((hb2.block _ (lt_of_block HX1.out)).trans HX1.out);have HB2:=zH (za3 HB1.out hb2);obtain⟨x0,x1,x2,x3,x4,x5,x6,x7,x8,x9,x10,-,-⟩:=zac HX2.out;clear hb2 HX1;go_wp2_with fail;clear x0 x1 x2 x3 x4 x5 x6 x7 x8 x9 x10
      go_loopw [12,13] (fun j _ wz=>j=.int .i64 0∧Hid (Below w2.heap.size w2 wz)) (fun _ _ _=>0)
      case atStart=>exact⟨rfl,Below.refl _ _⟩
      obtain⟨rfl,HBq⟩:=hrel;have HX3:=zH ((HBq.out.block _ (lt_of_block HX2.out)).trans HX2.out);have HB3:=zH (za3 HB2.out HBq.out);obtain⟨x0,x1,x2,x3,x4,x5,x6,x7,x8,x9,x10,-,-⟩:=zac HX3.out;clear HBq HX2;go_wp2_with fail;clear x0 x1 x2 x3 x4 x5 x6 x7 x8 x9 x10;go_roundw
      case rel=>exact⟨k+1,by omega,by go_num,za3 HBE.out HB3.out⟩
      case measure=>simp[intOf];omega
    ·
     as_aux_lemma =>
      have HV:=zH (heap_alloc_new wr (.cells #[.int .i64 6,.string ⟨#[]⟩,.int .i64 0,.int .i64 0,.string ⟨#[]⟩,.slice fA 0 fc,.string ⟨r.name.toArray⟩,.slice rA rn rc,.slice aA 0 ac,.slice tA 0 tc,.slice eA 0 ec] 73));have HB0:Hid (Below wr.heap.size wr (wr.alloc (.cells #[.int .i64 6,.string ⟨#[]⟩,.int .i64 0,.int .i64 0,.string ⟨#[]⟩,.slice fA 0 fc,.string ⟨r.name.toArray⟩,.slice rA rn rc,.slice aA 0 ac,.slice tA 0 tc,.slice eA 0 ec] 73))):=(Below.refl _ _).alloc (lR _) _;go_wp2_with fail;generalize (wr.alloc (.cells #[.int .i64 6,.string ⟨#[]⟩,.int .i64 0,.int .i64 0,.string ⟨#[]⟩,.slice fA 0 fc,.string ⟨r.name.toArray⟩,.slice rA rn rc,.slice aA 0 ac,.slice tA 0 tc,.slice eA 0 ec] 73))=w0 at *;clear c0 c1 c2 c3 c4 c5 c6 c7 c8 c9 c10;have HX0:=HV;refine(zbH _ fA fc).mono ?_;rintro e w1 ⟨rfl,hb1⟩;have HX1:=zH ((hb1.block _ (lt_of_block HX0.out)).trans HX0.out);have HB1:=zH (za3 HB0.out hb1);obtain⟨x0,x1,x2,x3,x4,x5,x6,x7,x8,x9,x10,-,-⟩:=zac HX1.out;clear hb1 HX0;go_wp2_with fail;clear x0 x1 x2 x3 x4 x5 x6 x7 x8 x9 x10;refine(zdp _ r rA rn rc HRR.out (HR.out.keep fun b _ hl=>HB1.out.block b hl)).mono ?_;rintro e w2 ⟨rfl,hb2⟩;have HX2:=zH ((hb2.block _ (lt_of_block HX1.out)).trans HX1.out);have HB2:=zH (za3 HB1.out hb2);obtain⟨x0,x1,x2,x3,x4,x5,x6,x7,x8,x9,x10,-,-⟩:=zac HX2.out;clear hb2 HX1;go_wp2_with fail;clear x0 x1 x2 x3 x4 x5 x6 x7 x8 x9 x10
      go_loopw [12,13] (fun j _ wz=>j=.int .i64 0∧Hid (Below w2.heap.size w2 wz)) (fun _ _ _=>0)
      case atStart=>exact⟨rfl,Below.refl _ _⟩
      obtain⟨rfl,HBq⟩:=hrel;have HX3:=zH ((HBq.out.block _ (lt_of_block HX2.out)).trans HX2.out);have HB3:=zH (za3 HB2.out HBq.out);obtain⟨x0,x1,x2,x3,x4,x5,x6,x7,x8,x9,x10,-,-⟩:=zac HX3.out;clear HBq HX2;go_wp2_with fail;clear x0 x1 x2 x3 x4 x5 x6 x7 x8 x9 x10;go_roundw
      case rel=>exact⟨k+1,by omega,by go_num,za3 HBE.out HB3.out⟩
      case measure=>simp[intOf];omega
   | set d kind name e hk hn hE =>
    have HNM:=zH hn;have hnl:=(zaP hn).2;have HD:=zH hE;clear hE hn;obtain rfl:rn=0:=HR.out;rw[show noRf.name.toArray=#[] from rfl] at c6;rcases hk with rfl|rfl
    ·
     as_aux_lemma =>
      have HV:=zH (heap_alloc_new wr (.cells #[.int .i64 1,.string ⟨name.toArray⟩,.int .i64 fo,.int .i64 fx,.string ⟨fname.toArray⟩,.slice fA fl fc,.string ⟨#[]⟩,.slice rA 0 rc,.slice aA 0 ac,.slice tA 0 tc,.slice eA 0 ec] 73));have HB0:Hid (Below wr.heap.size wr (wr.alloc (.cells #[.int .i64 1,.string ⟨name.toArray⟩,.int .i64 fo,.int .i64 fx,.string ⟨fname.toArray⟩,.slice fA fl fc,.string ⟨#[]⟩,.slice rA 0 rc,.slice aA 0 ac,.slice tA 0 tc,.slice eA 0 ec] 73))):=(Below.refl _ _).alloc (lR _) _;go_wp2_with fail;generalize (wr.alloc (.cells #[.int .i64 1,.string ⟨name.toArray⟩,.int .i64 fo,.int .i64 fx,.string ⟨fname.toArray⟩,.slice fA fl fc,.string ⟨#[]⟩,.slice rA 0 rc,.slice aA 0 ac,.slice tA 0 tc,.slice eA 0 ec] 73))=w0 at *;clear c0 c1 c2 c3 c4 c5 c6 c7 c8 c9 c10;have HX0:=HV;refine(zbM name _ (by omega)).mono ?_;rintro e w1 ⟨rfl,hb1⟩;rw[HNM.out];have HX1:=zH ((hb1.block _ (lt_of_block HX0.out)).trans HX0.out);have HB1:=zH (za3 HB0.out hb1);obtain⟨x0,x1,x2,x3,x4,x5,x6,x7,x8,x9,x10,-,-⟩:=zac HX1.out;clear hb1 HX0;go_wp2_with fail;clear x0 x1 x2 x3 x4 x5 x6 x7 x8 x9 x10;refine(zbc _ e fo fx fname fA fl fc (HE.out.later HB1.out) HD.out.b (by have:=HD.out.ht;omega)).mono ?_;rintro e w2 ⟨rfl,hb2⟩;rw[HD.out.valid (by decide)];have HX2:=zH ((hb2.block _ (lt_of_block HX1.out)).trans HX1.out);have HB2:=zH (za3 HB1.out hb2);obtain⟨x0,x1,x2,x3,x4,x5,x6,x7,x8,x9,x10,-,-⟩:=zac HX2.out;clear hb2 HX1;go_wp2_with fail;clear x0 x1 x2 x3 x4 x5 x6 x7 x8 x9 x10;refine(zbB _ rA rc).mono ?_;rintro e w3 ⟨rfl,hb3⟩;have HX3:=zH ((hb3.block _ (lt_of_block HX2.out)).trans HX2.out);have HB3:=zH (za3 HB2.out hb3);obtain⟨x0,x1,x2,x3,x4,x5,x6,x7,x8,x9,x10,-,-⟩:=zac HX3.out;clear hb3 HX2;go_wp2_with fail;clear x0 x1 x2 x3 x4 x5 x6 x7 x8 x9 x10
      go_loopw [12,13] (fun j _ wz=>j=.int .i64 0∧Hid (Below w3.heap.size w3 wz)) (fun _ _ _=>0)
      case atStart=>exact⟨rfl,Below.refl _ _⟩
      obtain⟨rfl,HBq⟩:=hrel;have HX4:=zH ((HBq.out.block _ (lt_of_block HX3.out)).trans HX3.out);have HB4:=zH (za3 HB3.out HBq.out);obtain⟨x0,x1,x2,x3,x4,x5,x6,x7,x8,x9,x10,-,-⟩:=zac HX4.out;clear HBq HX3;go_wp2_with fail;clear x0 x1 x2 x3 x4 x5 x6 x7 x8 x9 x10;go_roundw
      case rel=>exact⟨k+1,by omega,by go_num,za3 HBE.out HB4.out⟩
      case measure=>simp[intOf];omega
    ·
     as_aux_lemma =>
      have HV:=zH (heap_alloc_new wr (.cells #[.int .i64 2,.string ⟨name.toArray⟩,.int .i64 fo,.int .i64 fx,.string ⟨fname.toArray⟩,.slice fA fl fc,.string ⟨#[]⟩,.slice rA 0 rc,.slice aA 0 ac,.slice tA 0 tc,.slice eA 0 ec] 73));have HB0:Hid (Below wr.heap.size wr (wr.alloc (.cells #[.int .i64 2,.string ⟨name.toArray⟩,.int .i64 fo,.int .i64 fx,.string ⟨fname.toArray⟩,.slice fA fl fc,.string ⟨#[]⟩,.slice rA 0 rc,.slice aA 0 ac,.slice tA 0 tc,.slice eA 0 ec] 73))):=(Below.refl _ _).alloc (lR _) _;go_wp2_with fail;generalize (wr.alloc (.cells #[.int .i64 2,.string ⟨name.toArray⟩,.int .i64 fo,.int .i64 fx,.string ⟨fname.toArray⟩,.slice fA fl fc,.string ⟨#[]⟩,.slice rA 0 rc,.slice aA 0 ac,.slice tA 0 tc,.slice eA 0 ec] 73))=w0 at *;clear c0 c1 c2 c3 c4 c5 c6 c7 c8 c9 c10;have HX0:=HV;refine(zbM name _ (by omega)).mono ?_;rintro e w1 ⟨rfl,hb1⟩;rw[HNM.out];have HX1:=zH ((hb1.block _ (lt_of_block HX0.out)).trans HX0.out);have HB1:=zH (za3 HB0.out hb1);obtain⟨x0,x1,x2,x3,x4,x5,x6,x7,x8,x9,x10,-,-⟩:=zac HX1.out;clear hb1 HX0;go_wp2_with fail;clear x0 x1 x2 x3 x4 x5 x6 x7 x8 x9 x10;refine(zbc _ e fo fx fname fA fl fc (HE.out.later HB1.out) HD.out.b (by have:=HD.out.ht;omega)).mono ?_;rintro e w2 ⟨rfl,hb2⟩;rw[HD.out.valid (by decide)];have HX2:=zH ((hb2.block _ (lt_of_block HX1.out)).trans HX1.out);have HB2:=zH (za3 HB1.out hb2);obtain⟨x0,x1,x2,x3,x4,x5,x6,x7,x8,x9,x10,-,-⟩:=zac HX2.out;clear hb2 HX1;go_wp2_with fail;clear x0 x1 x2 x3 x4 x5 x6 x7 x8 x9 x10;refine(zbB _ rA rc).mono ?_;rintro e w3 ⟨rfl,hb3⟩;have HX3:=zH ((hb3.block _ (lt_of_block HX2.out)).trans HX2.out);have HB3:=zH (za3 HB2.out hb3);obtain⟨x0,x1,x2,x3,x4,x5,x6,x7,x8,x9,x10,-,-⟩:=zac HX3.out;clear hb3 HX2;go_wp2_with fail;clear x0 x1 x2 x3 x4 x5 x6 x7 x8 x9 x10
      go_loopw [12,13] (fun j _ wz=>j=.int .i64 0∧Hid (Below w3.heap.size w3 wz)) (fun _ _ _=>0)
      case atStart=>exact⟨rfl,Below.refl _ _⟩
      obtain⟨rfl,HBq⟩:=hrel;have HX4:=zH ((HBq.out.block _ (lt_of_block HX3.out)).trans HX3.out);have HB4:=zH (za3 HB3.out HBq.out);obtain⟨x0,x1,x2,x3,x4,x5,x6,x7,x8,x9,x10,-,-⟩:=zac HX4.out;clear HBq HX3;go_wp2_with fail;clear x0 x1 x2 x3 x4 x5 x6 x7 x8 x9 x10;go_roundw
      case rel=>exact⟨k+1,by omega,by go_num,za3 HBE.out HB4.out⟩
      case measure=>simp[intOf];omega
   | call d kind name args hk hn hal hA =>
    have HNM:=zH hn;have hnl:=(zaP hn).2;have HAA:=zH hA;clear hA hn;obtain⟨rfl,rfl,rfl,rfl⟩:=zfY HE.out;obtain rfl:rn=0:=HR.out;rw[show noRf.name.toArray=#[] from rfl] at c6;rcases hk with rfl|rfl
    ·
     as_aux_lemma =>
      have HV:=zH (heap_alloc_new wr (.cells #[.int .i64 3,.string ⟨name.toArray⟩,.int .i64 0,.int .i64 0,.string ⟨#[]⟩,.slice fA 0 fc,.string ⟨#[]⟩,.slice rA 0 rc,.slice aA args.length ac,.slice tA 0 tc,.slice eA 0 ec] 73));have HB0:Hid (Below wr.heap.size wr (wr.alloc (.cells #[.int .i64 3,.string ⟨name.toArray⟩,.int .i64 0,.int .i64 0,.string ⟨#[]⟩,.slice fA 0 fc,.string ⟨#[]⟩,.slice rA 0 rc,.slice aA args.length ac,.slice tA 0 tc,.slice eA 0 ec] 73))):=(Below.refl _ _).alloc (lR _) _;go_wp2_with fail;generalize (wr.alloc (.cells #[.int .i64 3,.string ⟨name.toArray⟩,.int .i64 0,.int .i64 0,.string ⟨#[]⟩,.slice fA 0 fc,.string ⟨#[]⟩,.slice rA 0 rc,.slice aA args.length ac,.slice tA 0 tc,.slice eA 0 ec] 73))=w0 at *;clear c0 c1 c2 c3 c4 c5 c6 c7 c8 c9 c10;have HX0:=HV;refine(zbM name _ (by omega)).mono ?_;rintro e w1 ⟨rfl,hb1⟩;rw[HNM.out];have HX1:=zH ((hb1.block _ (lt_of_block HX0.out)).trans HX0.out);have HB1:=zH (za3 HB0.out hb1);obtain⟨x0,x1,x2,x3,x4,x5,x6,x7,x8,x9,x10,-,-⟩:=zac HX1.out;clear hb1 HX0;go_wp2_with fail;clear x0 x1 x2 x3 x4 x5 x6 x7 x8 x9 x10;refine(zbH _ fA fc).mono ?_;rintro e w2 ⟨rfl,hb2⟩;have HX2:=zH ((hb2.block _ (lt_of_block HX1.out)).trans HX1.out);have HB2:=zH (za3 HB1.out hb2);obtain⟨x0,x1,x2,x3,x4,x5,x6,x7,x8,x9,x10,-,-⟩:=zac HX2.out;clear hb2 HX1;go_wp2_with fail;clear x0 x1 x2 x3 x4 x5 x6 x7 x8 x9 x10;refine(zbB _ rA rc).mono ?_;rintro e w3 ⟨rfl,hb3⟩;have HX3:=zH ((hb3.block _ (lt_of_block HX2.out)).trans HX2.out);have HB3:=zH (za3 HB2.out hb3);obtain⟨x0,x1,x2,x3,x4,x5,x6,x7,x8,x9,x10,-,-⟩:=zac HX3.out;clear hb3 HX2;go_wp2_with fail;clear x0 x1 x2 x3 x4 x5 x6 x7 x8 x9 x10
      go_loopw [12,13] (fun j _ wz=>∃q:Nat,q≤args.length∧j=.int .i64 q∧Hid (Below w3.heap.size w3 wz)) (fun j _ _=>args.length-(intOf j).toNat)
      case atStart=>exact⟨0,Nat.zero_le _,rfl,Below.refl _ _⟩
      case round =>
       obtain⟨q,hq,rfl,HBq⟩:=hrel;have HXq:=zH ((HBq.out.block _ (lt_of_block HX3.out)).trans HX3.out);have HBz:=zH (za3 HB3.out HBq.out);obtain⟨x0,x1,x2,x3,x4,x5,x6,x7,x8,x9,x10,-,-⟩:=zac HXq.out;by_cases hql:q<args.length
       ·
        obtain⟨ba,oa,rfl,-,hAq⟩:=HA.out q hql;obtain⟨qA,qn,qc,⟨go,gx,gname,gA,gn,gc⟩,d0,d1,d2,hI,hat,hE⟩:=hAq.later HBz.out;obtain⟨g0,g1,g2,g3⟩:=hat;dsimp only at g0 g1 g2 g3;have HAM:=zH (HAA.out q hql);have HI:=zH hI;have HEE:=zH hE;clear hI hE hAq;generalize args[q]=ar at *;obtain⟨am,⟨arn,ari⟩,ae⟩:=ar;dsimp only at d0 d1 d2 HI HEE;rcases HAM.out with⟨hm,hR,he0⟩|⟨hm,hr0,hD⟩
        ·
         dsimp only at hm hR he0;subst hm;subst he0;obtain⟨rfl,rfl,rfl,rfl⟩:=zfY HEE.out;have HRR:=zH hR;clear hR HAM;have HY0:=zH (heap_alloc_new wr (.cells #[.bool true,.string ⟨arn.toArray⟩,.slice qA qn qc,.int .i64 0,.int .i64 0,.string ⟨#[]⟩,.slice gA 0 gc] 77));have HC0:Hid (Below wr.heap.size wr (wr.alloc (.cells #[.bool true,.string ⟨arn.toArray⟩,.slice qA qn qc,.int .i64 0,.int .i64 0,.string ⟨#[]⟩,.slice gA 0 gc] 77))):=(Below.refl _ _).alloc (lR _) _;go_wp2_with fail;generalize (wr.alloc (.cells #[.bool true,.string ⟨arn.toArray⟩,.slice qA qn qc,.int .i64 0,.int .i64 0,.string ⟨#[]⟩,.slice gA 0 gc] 77))=z0 at *;refine(zdp _ ⟨arn,ari⟩ qA qn qc HRR.out (HI.out.keep fun b _ hl=>HC0.out.block b hl)).mono ?_;rintro e z1 ⟨rfl,hb1⟩;have HY1:=zH ((hb1.block _ (lt_of_block HY0.out)).trans HY0.out);have HC1:=zH (za3 HC0.out hb1);obtain⟨y0,y1,y2,y3,y4,y5,y6,-,-⟩:=blk7 HY1.out;clear hb1 HY0;go_wp2_with fail;refine(zbH _ gA gc).mono ?_;rintro e z2 ⟨rfl,hb2⟩;have HY2:=zH ((hb2.block _ (lt_of_block HY1.out)).trans HY1.out);have HC2:=zH (za3 HC1.out hb2);clear y0 y1 y2 y3 y4 y5 y6;obtain⟨y0,y1,y2,y3,y4,y5,y6,-,-⟩:=blk7 HY2.out;clear hb2 HY1;go_wp2_with fail;go_roundw
         case rel=>exact⟨q+1,by omega,by go_num,za3 HBq.out HC2.out⟩
         case measure=>simp[intOf];omega
        ·
         dsimp only[noRf] at hm hr0 hD;injection hr0 with hr0 hr1;subst hm;subst hr0;subst hr1;have HD:=zH hD;obtain rfl:qn=0:=HI.out;clear hD HAM;have HY0:=zH (heap_alloc_new wr (.cells #[.bool false,.string ⟨#[]⟩,.slice qA 0 qc,.int .i64 go,.int .i64 gx,.string ⟨gname.toArray⟩,.slice gA gn gc] 77));have HC0:Hid (Below wr.heap.size wr (wr.alloc (.cells #[.bool false,.string ⟨#[]⟩,.slice qA 0 qc,.int .i64 go,.int .i64 gx,.string ⟨gname.toArray⟩,.slice gA gn gc] 77))):=(Below.refl _ _).alloc (lR _) _;go_wp2_with fail;generalize (wr.alloc (.cells #[.bool false,.string ⟨#[]⟩,.slice qA 0 qc,.int .i64 go,.int .i64 gx,.string ⟨gname.toArray⟩,.slice gA gn gc] 77))=z0 at *;refine(zbB _ qA qc).mono ?_;rintro e z1 ⟨rfl,hb1⟩;have HY1:=zH ((hb1.block _ (lt_of_block HY0.out)).trans HY0.out);have HC1:=zH (za3 HC0.out hb1);obtain⟨y0,y1,y2,y3,y4,y5,y6,-,-⟩:=blk7 HY1.out;clear hb1 HY0;go_wp2_with fail;refine(zbc _ ae go gx gname gA gn gc (HEE.out.later HC1.out) HD.out.b (by have:=HD.out.ht;omega)).mono ?_;rintro e z2 ⟨rfl,hb2⟩;rw[HD.out.valid (by decide)];have HC2:=zH (za3 HC1.out hb2);clear y0 y1 y2 y3 y4 y5 y6 hb2 HY1;go_wp2_with fail;go_roundw
         case rel=>exact⟨q+1,by omega,by go_num,za3 HBq.out HC2.out⟩
         case measure=>simp[intOf];omega
       ·
        go_wp2_with fail;go_roundw
        case rel=>exact⟨k+1,by omega,by go_num,za3 HBE.out HBz.out⟩
        case measure=>simp[intOf];omega
    ·
     as_aux_lemma =>
      have HV:=zH (heap_alloc_new wr (.cells #[.int .i64 4,.string ⟨name.toArray⟩,.int .i64 0,.int .i64 0,.string ⟨#[]⟩,.slice fA 0 fc,.string ⟨#[]⟩,.slice rA 0 rc,.slice aA args.length ac,.slice tA 0 tc,.slice eA 0 ec] 73));have HB0:Hid (Below wr.heap.size wr (wr.alloc (.cells #[.int .i64 4,.string ⟨name.toArray⟩,.int .i64 0,.int .i64 0,.string ⟨#[]⟩,.slice fA 0 fc,.string ⟨#[]⟩,.slice rA 0 rc,.slice aA args.length ac,.slice tA 0 tc,.slice eA 0 ec] 73))):=(Below.refl _ _).alloc (lR _) _;go_wp2_with fail;generalize (wr.alloc (.cells #[.int .i64 4,.string ⟨name.toArray⟩,.int .i64 0,.int .i64 0,.string ⟨#[]⟩,.slice fA 0 fc,.string ⟨#[]⟩,.slice rA 0 rc,.slice aA args.length ac,.slice tA 0 tc,.slice eA 0 ec] 73))=w0 at *;clear c0 c1 c2 c3 c4 c5 c6 c7 c8 c9 c10;have HX0:=HV;refine(zbM name _ (by omega)).mono ?_;rintro e w1 ⟨rfl,hb1⟩;rw[HNM.out];have HX1:=zH ((hb1.block _ (lt_of_block HX0.out)).trans HX0.out);have HB1:=zH (za3 HB0.out hb1);obtain⟨x0,x1,x2,x3,x4,x5,x6,x7,x8,x9,x10,-,-⟩:=zac HX1.out;clear hb1 HX0;go_wp2_with fail;clear x0 x1 x2 x3 x4 x5 x6 x7 x8 x9 x10;refine(zbH _ fA fc).mono ?_;rintro e w2 ⟨rfl,hb2⟩;have HX2:=zH ((hb2.block _ (lt_of_block HX1.out)).trans HX1.out);have HB2:=zH (za3 HB1.out hb2);obtain⟨x0,x1,x2,x3,x4,x5,x6,x7,x8,x9,x10,-,-⟩:=zac HX2.out;clear hb2 HX1;go_wp2_with fail;clear x0 x1 x2 x3 x4 x5 x6 x7 x8 x9 x10;refine(zbB _ rA rc).mono ?_;rintro e w3 ⟨rfl,hb3⟩;have HX3:=zH ((hb3.block _ (lt_of_block HX2.out)).trans HX2.out);have HB3:=zH (za3 HB2.out hb3);obtain⟨x0,x1,x2,x3,x4,x5,x6,x7,x8,x9,x10,-,-⟩:=zac HX3.out;clear hb3 HX2;go_wp2_with fail;clear x0 x1 x2 x3 x4 x5 x6 x7 x8 x9 x10
      go_loopw [12,13] (fun j _ wz=>∃q:Nat,q≤args.length∧j=.int .i64 q∧Hid (Below w3.heap.size w3 wz)) (fun j _ _=>args.length-(intOf j).toNat)
      case atStart=>exact⟨0,Nat.zero_le _,rfl,Below.refl _ _⟩
      case round =>
       obtain⟨q,hq,rfl,HBq⟩:=hrel;have HXq:=zH ((HBq.out.block _ (lt_of_block HX3.out)).trans HX3.out);have HBz:=zH (za3 HB3.out HBq.out);obtain⟨x0,x1,x2,x3,x4,x5,x6,x7,x8,x9,x10,-,-⟩:=zac HXq.out;by_cases hql:q<args.length
       ·
        obtain⟨ba,oa,rfl,-,hAq⟩:=HA.out q hql;obtain⟨qA,qn,qc,⟨go,gx,gname,gA,gn,gc⟩,d0,d1,d2,hI,hat,hE⟩:=hAq.later HBz.out;obtain⟨g0,g1,g2,g3⟩:=hat;dsimp only at g0 g1 g2 g3;have HAM:=zH (HAA.out q hql);have HI:=zH hI;have HEE:=zH hE;clear hI hE hAq;generalize args[q]=ar at *;obtain⟨am,⟨arn,ari⟩,ae⟩:=ar;dsimp only at d0 d1 d2 HI HEE;rcases HAM.out with⟨hm,hR,he0⟩|⟨hm,hr0,hD⟩
        ·
         dsimp only at hm hR he0;subst hm;subst he0;obtain⟨rfl,rfl,rfl,rfl⟩:=zfY HEE.out;have HRR:=zH hR;clear hR HAM;have HY0:=zH (heap_alloc_new wr (.cells #[.bool true,.string ⟨arn.toArray⟩,.slice qA qn qc,.int .i64 0,.int .i64 0,.string ⟨#[]⟩,.slice gA 0 gc] 77));have HC0:Hid (Below wr.heap.size wr (wr.alloc (.cells #[.bool true,.string ⟨arn.toArray⟩,.slice qA qn qc,.int .i64 0,.int .i64 0,.string ⟨#[]⟩,.slice gA 0 gc] 77))):=(Below.refl _ _).alloc (lR _) _;go_wp2_with fail;generalize (wr.alloc (.cells #[.bool true,.string ⟨arn.toArray⟩,.slice qA qn qc,.int .i64 0,.int .i64 0,.string ⟨#[]⟩,.slice gA 0 gc] 77))=z0 at *;refine(zdp _ ⟨arn,ari⟩ qA qn qc HRR.out (HI.out.keep fun b _ hl=>HC0.out.block b hl)).mono ?_;rintro e z1 ⟨rfl,hb1⟩;have HY1:=zH ((hb1.block _ (lt_of_block HY0.out)).trans HY0.out);have HC1:=zH (za3 HC0.out hb1);obtain⟨y0,y1,y2,y3,y4,y5,y6,-,-⟩:=blk7 HY1.out;clear hb1 HY0;go_wp2_with fail;refine(zbH _ gA gc).mono ?_;rintro e z2 ⟨rfl,hb2⟩;have HY2:=zH ((hb2.block _ (lt_of_block HY1.out)).trans HY1.out);have HC2:=zH (za3 HC1.out hb2);clear y0 y1 y2 y3 y4 y5 y6;obtain⟨y0,y1,y2,y3,y4,y5,y6,-,-⟩:=blk7 HY2.out;clear hb2 HY1;go_wp2_with fail;go_roundw
         case rel=>exact⟨q+1,by omega,by go_num,za3 HBq.out HC2.out⟩
         case measure=>simp[intOf];omega
        ·
         dsimp only[noRf] at hm hr0 hD;injection hr0 with hr0 hr1;subst hm;subst hr0;subst hr1;have HD:=zH hD;obtain rfl:qn=0:=HI.out;clear hD HAM;have HY0:=zH (heap_alloc_new wr (.cells #[.bool false,.string ⟨#[]⟩,.slice qA 0 qc,.int .i64 go,.int .i64 gx,.string ⟨gname.toArray⟩,.slice gA gn gc] 77));have HC0:Hid (Below wr.heap.size wr (wr.alloc (.cells #[.bool false,.string ⟨#[]⟩,.slice qA 0 qc,.int .i64 go,.int .i64 gx,.string ⟨gname.toArray⟩,.slice gA gn gc] 77))):=(Below.refl _ _).alloc (lR _) _;go_wp2_with fail;generalize (wr.alloc (.cells #[.bool false,.string ⟨#[]⟩,.slice qA 0 qc,.int .i64 go,.int .i64 gx,.string ⟨gname.toArray⟩,.slice gA gn gc] 77))=z0 at *;refine(zbB _ qA qc).mono ?_;rintro e z1 ⟨rfl,hb1⟩;have HY1:=zH ((hb1.block _ (lt_of_block HY0.out)).trans HY0.out);have HC1:=zH (za3 HC0.out hb1);obtain⟨y0,y1,y2,y3,y4,y5,y6,-,-⟩:=blk7 HY1.out;clear hb1 HY0;go_wp2_with fail;refine(zbc _ ae go gx gname gA gn gc (HEE.out.later HC1.out) HD.out.b (by have:=HD.out.ht;omega)).mono ?_;rintro e z2 ⟨rfl,hb2⟩;rw[HD.out.valid (by decide)];have HC2:=zH (za3 HC1.out hb2);clear y0 y1 y2 y3 y4 y5 y6 hb2 HY1;go_wp2_with fail;go_roundw
         case rel=>exact⟨q+1,by omega,by go_num,za3 HBq.out HC2.out⟩
         case measure=>simp[intOf];omega
       ·
        go_wp2_with fail;go_roundw
        case rel=>exact⟨k+1,by omega,by go_num,za3 HBE.out HBz.out⟩
        case measure=>simp[intOf];omega
   | cond d kind e thn els hk hE h1 h2 =>
    have HD:=zH hE;have HT1:=zH h1;have HT2:=zH h2;have hsz:=HSZ.out;have hsn:=HSN.out;rw[zbU] at hsn;have hz1:Hid (SizeOf.sizeOf thn<N∧SizeOf.sizeOf els<N∧stNs thn≤1000000∧stNs els≤1000000):=by
     simp only[St.mk.sizeOf_spec] at hsz;exact⟨by omega,by omega,by omega,by omega⟩
    have htl:thn.length≤1000000:=Nat.le_trans (zeZ thn) hz1.out.2.2.1;have hel:els.length≤1000000:=Nat.le_trans (zeZ els) hz1.out.2.2.2;clear hE h1 h2 hsz hsn;obtain rfl:rn=0:=HR.out;rw[show noRf.name.toArray=#[] from rfl] at c6;rcases hk with rfl|⟨rfl,rfl⟩
    ·
     as_aux_lemma =>
      have HV:=zH (heap_alloc_new wr (.cells #[.int .i64 7,.string ⟨#[]⟩,.int .i64 fo,.int .i64 fx,.string ⟨fname.toArray⟩,.slice fA fl fc,.string ⟨#[]⟩,.slice rA 0 rc,.slice aA 0 ac,.slice tA thn.length tc,.slice eA els.length ec] 73));have HB0:Hid (Below wr.heap.size wr (wr.alloc (.cells #[.int .i64 7,.string ⟨#[]⟩,.int .i64 fo,.int .i64 fx,.string ⟨fname.toArray⟩,.slice fA fl fc,.string ⟨#[]⟩,.slice rA 0 rc,.slice aA 0 ac,.slice tA thn.length tc,.slice eA els.length ec] 73))):=(Below.refl _ _).alloc (lR _) _;go_wp2_with fail;generalize (wr.alloc (.cells #[.int .i64 7,.string ⟨#[]⟩,.int .i64 fo,.int .i64 fx,.string ⟨fname.toArray⟩,.slice fA fl fc,.string ⟨#[]⟩,.slice rA 0 rc,.slice aA 0 ac,.slice tA thn.length tc,.slice eA els.length ec] 73))=w0 at *;clear c0 c1 c2 c3 c4 c5 c6 c7 c8 c9 c10;have HX0:=HV;refine(zbc _ e fo fx fname fA fl fc (HE.out.later HB0.out) HD.out.b (by have:=HD.out.ht;omega)).mono ?_;rintro e w1 ⟨rfl,hb1⟩;rw[HD.out.valid (by decide)];have HX1:=zH ((hb1.block _ (lt_of_block HX0.out)).trans HX0.out);have HB1:=zH (za3 HB0.out hb1);obtain⟨x0,x1,x2,x3,x4,x5,x6,x7,x8,x9,x10,-,-⟩:=zac HX1.out;clear hb1 HX0;go_wp2_with fail;clear x0 x1 x2 x3 x4 x5 x6 x7 x8 x9 x10;refine(zbB _ rA rc).mono ?_;rintro e w2 ⟨rfl,hb2⟩;have HX2:=zH ((hb2.block _ (lt_of_block HX1.out)).trans HX1.out);have HB2:=zH (za3 HB1.out hb2);obtain⟨x0,x1,x2,x3,x4,x5,x6,x7,x8,x9,x10,-,-⟩:=zac HX2.out;clear hb2 HX1;go_wp2_with fail;clear x0 x1 x2 x3 x4 x5 x6 x7 x8 x9 x10
      go_loopw [12,13] (fun j _ wz=>j=.int .i64 0∧Hid (Below w2.heap.size w2 wz)) (fun _ _ _=>0)
      case atStart=>exact⟨rfl,Below.refl _ _⟩
      obtain⟨rfl,HBq⟩:=hrel;have HX3:=zH ((HBq.out.block _ (lt_of_block HX2.out)).trans HX2.out);have HB3:=zH (za3 HB2.out HBq.out);obtain⟨x0,x1,x2,x3,x4,x5,x6,x7,x8,x9,x10,-,-⟩:=zac HX3.out;clear HBq HX2;go_wp2_with fail;clear x0 x1 x2 x3 x4 x5 x6 x7 x8 x9 x10;refine(IH.out thn tA tc d (deep+1) (dd+1) _ hz1.out.1 (by have:=HDD.out;omega) (by omega) (HT.out.keep fun b _ hl=>HB3.out.block b hl) HT1.out hz1.out.2.2.1).mono ?_;rintro e w4 ⟨rfl,hb4⟩;have HX4:=zH ((hb4.block _ (lt_of_block HX3.out)).trans HX3.out);have HB4:=zH (za3 HB3.out hb4);obtain⟨x0,x1,x2,x3,x4,x5,x6,x7,x8,x9,x10,-,-⟩:=zac HX4.out;clear hb4 HX3;by_cases hel0:0<els.length
      ·
       go_wp2_with fail;clear x0 x1 x2 x3 x4 x5 x6 x7 x8 x9 x10;refine(IH.out els eA ec d (deep+1) (dd+1) _ hz1.out.2.1 (by have:=HDD.out;omega) (by omega) (HEL.out.keep fun b _ hl=>HB4.out.block b hl) HT2.out hz1.out.2.2.2).mono ?_;rintro e w5 ⟨rfl,hb5⟩;have HX5:=zH ((hb5.block _ (lt_of_block HX4.out)).trans HX4.out);have HB5:=zH (za3 HB4.out hb5);obtain⟨x0,x1,x2,x3,x4,x5,x6,x7,x8,x9,x10,-,-⟩:=zac HX5.out;clear hb5 HX4;go_wp2_with fail;clear x0 x1 x2 x3 x4 x5 x6 x7 x8 x9 x10;go_roundw
       case rel=>exact⟨k+1,by omega,by go_num,za3 HBE.out HB5.out⟩
       case measure=>simp[intOf];omega
      ·
       go_wp2_with fail;clear x0 x1 x2 x3 x4 x5 x6 x7 x8 x9 x10;go_roundw
       case rel=>exact⟨k+1,by omega,by go_num,za3 HBE.out HB4.out⟩
       case measure=>simp[intOf];omega
    ·
     as_aux_lemma =>
      have HV:=zH (heap_alloc_new wr (.cells #[.int .i64 8,.string ⟨#[]⟩,.int .i64 fo,.int .i64 fx,.string ⟨fname.toArray⟩,.slice fA fl fc,.string ⟨#[]⟩,.slice rA 0 rc,.slice aA 0 ac,.slice tA thn.length tc,.slice eA 0 ec] 73));have HB0:Hid (Below wr.heap.size wr (wr.alloc (.cells #[.int .i64 8,.string ⟨#[]⟩,.int .i64 fo,.int .i64 fx,.string ⟨fname.toArray⟩,.slice fA fl fc,.string ⟨#[]⟩,.slice rA 0 rc,.slice aA 0 ac,.slice tA thn.length tc,.slice eA 0 ec] 73))):=(Below.refl _ _).alloc (lR _) _;go_wp2_with fail;generalize (wr.alloc (.cells #[.int .i64 8,.string ⟨#[]⟩,.int .i64 fo,.int .i64 fx,.string ⟨fname.toArray⟩,.slice fA fl fc,.string ⟨#[]⟩,.slice rA 0 rc,.slice aA 0 ac,.slice tA thn.length tc,.slice eA 0 ec] 73))=w0 at *;clear c0 c1 c2 c3 c4 c5 c6 c7 c8 c9 c10;have HX0:=HV;refine(zbc _ e fo fx fname fA fl fc (HE.out.later HB0.out) HD.out.b (by have:=HD.out.ht;omega)).mono ?_;rintro e w1 ⟨rfl,hb1⟩;rw[HD.out.valid (by decide)];have HX1:=zH ((hb1.block _ (lt_of_block HX0.out)).trans HX0.out);have HB1:=zH (za3 HB0.out hb1);obtain⟨x0,x1,x2,x3,x4,x5,x6,x7,x8,x9,x10,-,-⟩:=zac HX1.out;clear hb1 HX0;go_wp2_with fail;clear x0 x1 x2 x3 x4 x5 x6 x7 x8 x9 x10;refine(zbB _ rA rc).mono ?_;rintro e w2 ⟨rfl,hb2⟩;have HX2:=zH ((hb2.block _ (lt_of_block HX1.out)).trans HX1.out);have HB2:=zH (za3 HB1.out hb2);obtain⟨x0,x1,x2,x3,x4,x5,x6,x7,x8,x9,x10,-,-⟩:=zac HX2.out;clear hb2 HX1;go_wp2_with fail;clear x0 x1 x2 x3 x4 x5 x6 x7 x8 x9 x10
      go_loopw [12,13] (fun j _ wz=>j=.int .i64 0∧Hid (Below w2.heap.size w2 wz)) (fun _ _ _=>0)
      case atStart=>exact⟨rfl,Below.refl _ _⟩
      obtain⟨rfl,HBq⟩:=hrel;have HX3:=zH ((HBq.out.block _ (lt_of_block HX2.out)).trans HX2.out);have HB3:=zH (za3 HB2.out HBq.out);obtain⟨x0,x1,x2,x3,x4,x5,x6,x7,x8,x9,x10,-,-⟩:=zac HX3.out;clear HBq HX2;go_wp2_with fail;clear x0 x1 x2 x3 x4 x5 x6 x7 x8 x9 x10;refine(IH.out thn tA tc d (deep+1) (dd+1) _ hz1.out.1 (by have:=HDD.out;omega) (by omega) (HT.out.keep fun b _ hl=>HB3.out.block b hl) HT1.out hz1.out.2.2.1).mono ?_;rintro e w4 ⟨rfl,hb4⟩;have HX4:=zH ((hb4.block _ (lt_of_block HX3.out)).trans HX3.out);have HB4:=zH (za3 HB3.out hb4);obtain⟨x0,x1,x2,x3,x4,x5,x6,x7,x8,x9,x10,-,-⟩:=zac HX4.out;clear hb4 HX3;go_wp2_with fail;clear x0 x1 x2 x3 x4 x5 x6 x7 x8 x9 x10;go_roundw
      case rel=>exact⟨k+1,by omega,by go_num,za3 HBE.out HB4.out⟩
      case measure=>simp[intOf];omega
   | ret _ =>
    obtain⟨rfl,rfl,rfl,rfl⟩:=zfY HE.out;obtain rfl:rn=0:=HR.out;rw[show noRf.name.toArray=#[] from rfl] at c6
    as_aux_lemma =>
     have HV:=zH (heap_alloc_new wr (.cells #[.int .i64 9,.string ⟨#[]⟩,.int .i64 0,.int .i64 0,.string ⟨#[]⟩,.slice fA 0 fc,.string ⟨#[]⟩,.slice rA 0 rc,.slice aA 0 ac,.slice tA 0 tc,.slice eA 0 ec] 73));have HB0:Hid (Below wr.heap.size wr (wr.alloc (.cells #[.int .i64 9,.string ⟨#[]⟩,.int .i64 0,.int .i64 0,.string ⟨#[]⟩,.slice fA 0 fc,.string ⟨#[]⟩,.slice rA 0 rc,.slice aA 0 ac,.slice tA 0 tc,.slice eA 0 ec] 73))):=(Below.refl _ _).alloc (lR _) _;go_wp2_with fail;generalize (wr.alloc (.cells #[.int .i64 9,.string ⟨#[]⟩,.int .i64 0,.int .i64 0,.string ⟨#[]⟩,.slice fA 0 fc,.string ⟨#[]⟩,.slice rA 0 rc,.slice aA 0 ac,.slice tA 0 tc,.slice eA 0 ec] 73))=w0 at *;clear c0 c1 c2 c3 c4 c5 c6 c7 c8 c9 c10;have HX0:=HV;refine(zbH _ fA fc).mono ?_;rintro e w1 ⟨rfl,hb1⟩;have HX1:=zH ((hb1.block _ (lt_of_block HX0.out)).trans HX0.out);have HB1:=zH (za3 HB0.out hb1);obtain⟨x0,x1,x2,x3,x4,x5,x6,x7,x8,x9,x10,-,-⟩:=zac HX1.out;clear hb1 HX0;go_wp2_with fail;clear x0 x1 x2 x3 x4 x5 x6 x7 x8 x9 x10;refine(zbB _ rA rc).mono ?_;rintro e w2 ⟨rfl,hb2⟩;have HX2:=zH ((hb2.block _ (lt_of_block HX1.out)).trans HX1.out);have HB2:=zH (za3 HB1.out hb2);obtain⟨x0,x1,x2,x3,x4,x5,x6,x7,x8,x9,x10,-,-⟩:=zac HX2.out;clear hb2 HX1;go_wp2_with fail;clear x0 x1 x2 x3 x4 x5 x6 x7 x8 x9 x10
     go_loopw [12,13] (fun j _ wz=>j=.int .i64 0∧Hid (Below w2.heap.size w2 wz)) (fun _ _ _=>0)
     case atStart=>exact⟨rfl,Below.refl _ _⟩
     obtain⟨rfl,HBq⟩:=hrel;have HX3:=zH ((HBq.out.block _ (lt_of_block HX2.out)).trans HX2.out);have HB3:=zH (za3 HB2.out HBq.out);obtain⟨x0,x1,x2,x3,x4,x5,x6,x7,x8,x9,x10,-,-⟩:=zac HX3.out;clear HBq HX2;go_wp2_with fail;clear x0 x1 x2 x3 x4 x5 x6 x7 x8 x9 x10;go_roundw
     case rel=>exact⟨k+1,by omega,by go_num,za3 HBE.out HB3.out⟩
     case measure=>simp[intOf];omega
  ·
   go_wp2_with fail;go_ret;exact⟨rfl,HBE.out⟩
end Go.Proofs.YtlnbmmgbfgmboaaGreatDoor
