import Derived.Test.YtlnbmmgbfgmboaaGreatDoorQa
import Derived.Test.YtlnbmmgbfgmboaaGreatDoorQ3
import Derived.Deep.RegionHeld3
namespace Go.Proofs.YtlnbmmgbfgmboaaGreatDoor
open Go.RowKit
theorem ziL (kind:Int):kind=1∨kind=2∨kind=3∨kind=4∨kind=5∨kind=6∨kind=7∨kind=8∨((kind==1)=false∧(kind==2)=false∧(kind==3)=false∧(kind==4)=false∧(kind==5)=false∧(kind==6)=false∧(kind==7)=false∧(kind==8)=false):=by
 simp only[beq_eq_false_iff_ne];omega
set_option maxRecDepth 100000 in
set_option maxHeartbeats 8000000 in
theorem zhA (N:Nat):∀(l:List St) (A:Option Addr) (c:Nat) (tabs:List UInt8) (w:World),SizeOf.sizeOf l<N→StsM w (fun _=>True) l A→(∀i (h:i<l.length),StOk l[i])→(zab l tabs).length≤1000000000 →
  Calls Tryz.prog 55 #[.slice A l.length c,.string ⟨tabs.toArray⟩] w fun e w'=>e=.returned (.string ⟨(zab l tabs).toArray⟩)∧Below w.heap.size w w':=by
 induction N with
 | zero=>intro l A c tabs w h;omega
 | succ N ih =>
 intro l A c tabs w hN hM hok hlen;have IH:=zH ih;have HN:=zH hN;obtain⟨F,hMc,hMs⟩:=hM;have HMC:=zH hMc;have HMS:=zH hMs;have HOK:=zH hok;have HL:=zH hlen;have hln:l.length≤1000000000:=Nat.le_trans (zff l tabs) hlen;clear ih hN hMc hMs hok hlen;go_enter Tryz.func55,Tryz.ntmps55;go_wp2_with fail
 go_loopw [5,6,7,8] (fun v i _ _ wr=>∃(k:Nat) (t:List UInt8),k≤l.length∧i=.int .i64 k∧v=.string ⟨t.toArray⟩∧Hid (t=zab (l.take k) tabs)∧Below w.heap.size w wr) (fun _ i _ _ _=>l.length-(intOf i).toNat)
 case atStart=>exact⟨0,[],Nat.zero_le _,rfl,rfl,by show _=_;rw[List.take_zero,zc4],Below.refl _ _⟩
 case round =>
  obtain⟨k,t,hk,rfl,rfl,ht,hbel⟩:=hrel;have HBE:=zH hbel;clear hbel;by_cases hlt:k<l.length
  ·
   obtain⟨b,off,rfl,-,hC0⟩:=HMC.out k hlt;have hC:=hC0.keep (HBE.out.block b hC0.lt);have hS:=(HMS.out k hlt).keep (w':=wr) (fun b _ hb=>HBE.out.block b hb);have HST:=zH (zeu l tabs k hlt);have HLN:Hid ((zab (l.take (k+1)) tabs).length≤1000000000):=Nat.le_trans (zev l tabs (k+1)) HL.out;have HSO:=zH (HOK.out k hlt);have HSZ:Hid (SizeOf.sizeOf l[k]<N):=by
    have h1:=zgh l k hlt;have h2:=HN.out;show _<_;omega
   clear hC0;generalize l[k]=s at *;generalize F k=g at *;cases hS with
   | mk kind name e r args thn els _ T E he hr ha htc hts hec hes =>
   obtain⟨⟨fop,fnum,fname,fA,fn,fc⟩,rA,rn,rc,aA,ac,tA,tc,eA,ec⟩:=g;obtain⟨c0,c1,c2,c3,c4,c5,c6,c7,c8,c9,c10⟩:=hC;dsimp only[St.kind,St.name,St.rf,St.ars,St.thn,St.els] at c0 c1 c2 c3 c4 c5 c6 c7 c8 c9 c10 he hr ha;have HE:=zH he;have HR:=zH hr;have HA:=zH ha;have HT:Hid (StsM wr (fun _=>True) thn tA):=⟨T,htc,hts⟩;have HEL:Hid (StsM wr (fun _=>True) els eA):=⟨E,hec,hes⟩;clear he hr ha htc hts hec hes;have HSX:=zH (zcb kind name e r args thn els tabs);have hb0:Below wr.heap.size wr (wr.alloc (.cells #[.int .i64 kind,.string ⟨name.toArray⟩,.int .i64 fop,.int .i64 fnum,.string ⟨fname.toArray⟩,.slice fA fn fc,.string ⟨r.name.toArray⟩,.slice rA rn rc,.slice aA args.length ac,.slice tA thn.length tc,.slice eA els.length ec] 73)):=(Below.refl _ _).alloc (lR _) _;have HB0:=zH hb0;clear hb0;have happ:=bapp;have HK:=ziL kind;rcases HK with h|h|h|h|h|h|h|h|h
   ·
    have hkd:=h;have t1:(kind==1)=true:=by simp[h]
    have HF:Hid (zbT kind name e r args tabs (zab thn (tabs++[9])) (zab els (tabs++[9])) els.length=[118,97,114,32]++(name++([32,61,32]++(zal e++[59])))):=by show _=_;rw[zbT];simp[hkd]
    have hlen:=HLN.out;rw[HST.out,HSX.out,HF.out,←ht.out] at hlen;simp only[List.length_append,List.length_cons,List.length_nil] at hlen;have htl:Hid ((zal e).length≤1000000000):=by show _≤_;omega
    have HOI:Hid (ExOk e):=by
     cases HSO.out with
     | mk _ _ _ _ _ _ _ h1 _ _ _ _=>exact h1 (by simp[hkd])
    clear hkd h;go_wp2_with fail;obtain⟨o,ho⟩:∃o,o=t++tabs:=⟨_,rfl⟩;have hol:o.length=t.length+tabs.length:=by rw[ho];simp
    have HO:=zH ho;rw[←ho];clear ho;have s1:=fun W=>zar (o) ([118,97,114,32]) (by first|omega|(simp;omega)) W;have s2:=fun W=>zar (o++[118,97,114,32]) (name) (by first|omega|(simp;omega)) W;have s3:=fun W=>zar (o++[118,97,114,32]++name) ([32,61,32]) (by first|omega|(simp;omega)) W;have s4:=fun W=>zar (o++[118,97,114,32]++name++[32,61,32]) (zal e) (by first|omega|(simp;omega)) W;have s5:=fun W=>zar (o++[118,97,114,32]++name++[32,61,32]++zal e) ([59]) (by first|omega|(simp;omega)) W;simp only[List.append_assoc,List.cons_append,List.nil_append] at s2 s3 s4 s5;have d0:Below wr.heap.size wr (wr.alloc (.cells #[.int .i64 kind,.string ⟨name.toArray⟩,.int .i64 fop,.int .i64 fnum,.string ⟨fname.toArray⟩,.slice fA fn fc,.string ⟨r.name.toArray⟩,.slice rA rn rc,.slice aA args.length ac,.slice tA thn.length tc,.slice eA els.length ec] 73)):=HB0.out
    go_region_held3 (fun w'=>w'.cell? ⟨wr.heap.size,1,none⟩=some (.string ⟨name.toArray⟩)∧w'.cell? ⟨wr.heap.size,2,none⟩=some (.int .i64 fop)∧w'.cell? ⟨wr.heap.size,3,none⟩=some (.int .i64 fnum)∧w'.cell? ⟨wr.heap.size,4,none⟩=some (.string ⟨fname.toArray⟩)∧w'.cell? ⟨wr.heap.size,5,none⟩=some (.slice fA fn fc)∧Below wr.heap.size wr w')
     (refine⟨?_,?_,?_,?_,?_,?_⟩<;>first|assumption|(simp[*];done)|(refine Below.drew ?_;assumption))
     (first|(go_at_call 81;obtain⟨k0,k1,k2,k3,k4,hbw⟩:=‹_∧_∧_∧_∧_∧Below wr.heap.size wr _›;refine(zbK e fop fnum fname fA fn fc _ HOI.out htl.out (HE.out.later hbw)).mono ?_;rintro e w' ⟨rfl,hb⟩;have r0:=cell_later hb k0;have r1:=cell_later hb k1;have r2:=cell_later hb k2;have r3:=cell_later hb k3;have r4:=cell_later hb k4;have rb:=zan hb hbw;clear k0 k1 k2 k3 k4 hbw hb))
    clear s1 s2 s3 s4 s5 r0 r1 r2 r3 r4 d0;have HB1:=zH rb;clear rb;go_wp2_with fail;go_roundw
    case rel =>
     refine⟨k+1,t++(tabs++(([118,97,114,32]++(name++([32,61,32]++(zal e++[59]))))++[10])),by omega,by go_num,?_,?_,za3 HBE.out HB1.out⟩
     ·
      rw[HO.out];simp
     ·
      show _=_;rw[HST.out,HSX.out,HF.out,ht.out]
    case measure=>simp[intOf];omega
   ·
    have hkd:=h;have t1:(kind==1)=false:=by simp[h]
    have t2:(kind==2)=true:=by simp[h]
    have HF:Hid (zbT kind name e r args tabs (zab thn (tabs++[9])) (zab els (tabs++[9])) els.length=name++([32,61,32]++(zal e++[59]))):=by show _=_;rw[zbT];simp[hkd]
    have hlen:=HLN.out;rw[HST.out,HSX.out,HF.out,←ht.out] at hlen;simp only[List.length_append,List.length_cons,List.length_nil] at hlen;have htl:Hid ((zal e).length≤1000000000):=by show _≤_;omega
    have HOI:Hid (ExOk e):=by
     cases HSO.out with
     | mk _ _ _ _ _ _ _ h1 _ _ _ _=>exact h1 (by simp[hkd])
    clear hkd h;go_wp2_with fail;obtain⟨o,ho⟩:∃o,o=t++tabs:=⟨_,rfl⟩;have hol:o.length=t.length+tabs.length:=by rw[ho];simp
    have HO:=zH ho;rw[←ho];clear ho;have s1:=fun W=>zar (o) (name) (by first|omega|(simp;omega)) W;have s2:=fun W=>zar (o++name) ([32,61,32]) (by first|omega|(simp;omega)) W;have s3:=fun W=>zar (o++name++[32,61,32]) (zal e) (by first|omega|(simp;omega)) W;have s4:=fun W=>zar (o++name++[32,61,32]++zal e) ([59]) (by first|omega|(simp;omega)) W;simp only[List.append_assoc,List.cons_append,List.nil_append] at s2 s3 s4;have d0:Below wr.heap.size wr (wr.alloc (.cells #[.int .i64 kind,.string ⟨name.toArray⟩,.int .i64 fop,.int .i64 fnum,.string ⟨fname.toArray⟩,.slice fA fn fc,.string ⟨r.name.toArray⟩,.slice rA rn rc,.slice aA args.length ac,.slice tA thn.length tc,.slice eA els.length ec] 73)):=HB0.out
    go_region_held3 (fun w'=>w'.cell? ⟨wr.heap.size,1,none⟩=some (.string ⟨name.toArray⟩)∧w'.cell? ⟨wr.heap.size,2,none⟩=some (.int .i64 fop)∧w'.cell? ⟨wr.heap.size,3,none⟩=some (.int .i64 fnum)∧w'.cell? ⟨wr.heap.size,4,none⟩=some (.string ⟨fname.toArray⟩)∧w'.cell? ⟨wr.heap.size,5,none⟩=some (.slice fA fn fc)∧Below wr.heap.size wr w')
     (refine⟨?_,?_,?_,?_,?_,?_⟩<;>first|assumption|(simp[*];done)|(refine Below.drew ?_;assumption))
     (first|(go_at_call 81;obtain⟨k0,k1,k2,k3,k4,hbw⟩:=‹_∧_∧_∧_∧_∧Below wr.heap.size wr _›;refine(zbK e fop fnum fname fA fn fc _ HOI.out htl.out (HE.out.later hbw)).mono ?_;rintro e w' ⟨rfl,hb⟩;have r0:=cell_later hb k0;have r1:=cell_later hb k1;have r2:=cell_later hb k2;have r3:=cell_later hb k3;have r4:=cell_later hb k4;have rb:=zan hb hbw;clear k0 k1 k2 k3 k4 hbw hb))
    clear s1 s2 s3 s4 r0 r1 r2 r3 r4 d0;have HB1:=zH rb;clear rb;go_wp2_with fail;go_roundw
    case rel =>
     refine⟨k+1,t++(tabs++((name++([32,61,32]++(zal e++[59])))++[10])),by omega,by go_num,?_,?_,za3 HBE.out HB1.out⟩
     ·
      rw[HO.out];simp
     ·
      show _=_;rw[HST.out,HSX.out,HF.out,ht.out]
    case measure=>simp[intOf];omega
   ·
    have hkd:=h;have t1:(kind==1)=false:=by simp[h]
    have t2:(kind==2)=false:=by simp[h]
    have t3:(kind==3)=true:=by simp[h]
    have HF:Hid (zbT kind name e r args tabs (zab thn (tabs++[9])) (zab els (tabs++[9])) els.length=name++(zaZ args++[59])):=by show _=_;rw[zbT];simp[hkd]
    have hlen:=HLN.out;rw[HST.out,HSX.out,HF.out,←ht.out] at hlen;simp only[List.length_append,List.length_cons,List.length_nil] at hlen;have htl:Hid ((zaZ args).length≤1000000000):=by show _≤_;omega
    have HOI:Hid (args.length≤1000000∧∀i (h:i<args.length),ArOk args[i]):=by
     cases HSO.out with
     | mk _ _ _ _ _ _ _ _ h2 _ _ _=>exact h2 (by simp[hkd])
    clear hkd h;go_wp2_with fail;obtain⟨o,ho⟩:∃o,o=t++tabs:=⟨_,rfl⟩;have hol:o.length=t.length+tabs.length:=by rw[ho];simp
    have HO:=zH ho;rw[←ho];clear ho;have s1:=fun W=>zar (o) (name) (by first|omega|(simp;omega)) W;have s2:=fun W=>zar (o++name) (zaZ args) (by first|omega|(simp;omega)) W;have s3:=fun W=>zar (o++name++zaZ args) ([59]) (by first|omega|(simp;omega)) W;simp only[List.append_assoc] at s2 s3;have d0:Below wr.heap.size wr (wr.alloc (.cells #[.int .i64 kind,.string ⟨name.toArray⟩,.int .i64 fop,.int .i64 fnum,.string ⟨fname.toArray⟩,.slice fA fn fc,.string ⟨r.name.toArray⟩,.slice rA rn rc,.slice aA args.length ac,.slice tA thn.length tc,.slice eA els.length ec] 73)):=HB0.out
    go_region_held3 (fun w'=>w'.cell? ⟨wr.heap.size,1,none⟩=some (.string ⟨name.toArray⟩)∧w'.cell? ⟨wr.heap.size,8,none⟩=some (.slice aA args.length ac)∧Below wr.heap.size wr w')
     (refine⟨?_,?_,?_⟩<;>first|assumption|(simp[*];done)|(refine Below.drew ?_;assumption))
     (first|(go_at_call 82;obtain⟨k0,k1,hbw⟩:=‹_∧_∧Below wr.heap.size wr _›;refine(zdQ args aA ac _ (HA.out.keep fun b _ hb=>hbw.block b hb) HOI.out.2 HOI.out.1 htl.out).mono ?_;rintro e w' ⟨rfl,hb⟩;have r0:=cell_later hb k0;have r1:=cell_later hb k1;have rb:=zan hb hbw;clear k0 k1 hbw hb))
    clear s1 s2 s3 r0 r1 d0;have HB1:=zH rb;clear rb;go_wp2_with fail;go_roundw
    case rel =>
     refine⟨k+1,t++(tabs++((name++(zaZ args++[59]))++[10])),by omega,by go_num,?_,?_,za3 HBE.out HB1.out⟩
     ·
      rw[HO.out];simp
     ·
      show _=_;rw[HST.out,HSX.out,HF.out,ht.out]
    case measure=>simp[intOf];omega
   ·
    have hkd:=h;have t1:(kind==1)=false:=by simp[h]
    have t2:(kind==2)=false:=by simp[h]
    have t3:(kind==3)=false:=by simp[h]
    have t4:(kind==4)=true:=by simp[h]
    have HF:Hid (zbT kind name e r args tabs (zab thn (tabs++[9])) (zab els (tabs++[9])) els.length=[103,111,32]++(name++(zaZ args++[59]))):=by show _=_;rw[zbT];simp[hkd]
    have hlen:=HLN.out;rw[HST.out,HSX.out,HF.out,←ht.out] at hlen;simp only[List.length_append,List.length_cons,List.length_nil] at hlen;have htl:Hid ((zaZ args).length≤1000000000):=by show _≤_;omega
    have HOI:Hid (args.length≤1000000∧∀i (h:i<args.length),ArOk args[i]):=by
     cases HSO.out with
     | mk _ _ _ _ _ _ _ _ h2 _ _ _=>exact h2 (by simp[hkd])
    clear hkd h;go_wp2_with fail;obtain⟨o,ho⟩:∃o,o=t++tabs:=⟨_,rfl⟩;have hol:o.length=t.length+tabs.length:=by rw[ho];simp
    have HO:=zH ho;rw[←ho];clear ho;have s1:=fun W=>zar (o) ([103,111,32]) (by first|omega|(simp;omega)) W;have s2:=fun W=>zar (o++[103,111,32]) (name) (by first|omega|(simp;omega)) W;have s3:=fun W=>zar (o++[103,111,32]++name) (zaZ args) (by first|omega|(simp;omega)) W;have s4:=fun W=>zar (o++[103,111,32]++name++zaZ args) ([59]) (by first|omega|(simp;omega)) W;simp only[List.append_assoc,List.cons_append,List.nil_append] at s2 s3 s4;have d0:Below wr.heap.size wr (wr.alloc (.cells #[.int .i64 kind,.string ⟨name.toArray⟩,.int .i64 fop,.int .i64 fnum,.string ⟨fname.toArray⟩,.slice fA fn fc,.string ⟨r.name.toArray⟩,.slice rA rn rc,.slice aA args.length ac,.slice tA thn.length tc,.slice eA els.length ec] 73)):=HB0.out
    go_region_held3 (fun w'=>w'.cell? ⟨wr.heap.size,1,none⟩=some (.string ⟨name.toArray⟩)∧w'.cell? ⟨wr.heap.size,8,none⟩=some (.slice aA args.length ac)∧Below wr.heap.size wr w')
     (refine⟨?_,?_,?_⟩<;>first|assumption|(simp[*];done)|(refine Below.drew ?_;assumption))
     (first|(go_at_call 82;obtain⟨k0,k1,hbw⟩:=‹_∧_∧Below wr.heap.size wr _›;refine(zdQ args aA ac _ (HA.out.keep fun b _ hb=>hbw.block b hb) HOI.out.2 HOI.out.1 htl.out).mono ?_;rintro e w' ⟨rfl,hb⟩;have r0:=cell_later hb k0;have r1:=cell_later hb k1;have rb:=zan hb hbw;clear k0 k1 hbw hb))
    clear s1 s2 s3 s4 r0 r1 d0;have HB1:=zH rb;clear rb;go_wp2_with fail;go_roundw
    case rel =>
     refine⟨k+1,t++(tabs++(([103,111,32]++(name++(zaZ args++[59])))++[10])),by omega,by go_num,?_,?_,za3 HBE.out HB1.out⟩
     ·
      rw[HO.out];simp
     ·
      show _=_;rw[HST.out,HSX.out,HF.out,ht.out]
    case measure=>simp[intOf];omega
   ·
    have hkd:=h;have t1:(kind==1)=false:=by simp[h]
    have t2:(kind==2)=false:=by simp[h]
    have t3:(kind==3)=false:=by simp[h]
    have t4:(kind==4)=false:=by simp[h]
    have t5:(kind==5)=true:=by simp[h]
    have HF:Hid (zbT kind name e r args tabs (zab thn (tabs++[9])) (zab els (tabs++[9])) els.length=[108,111,99,107,32]++(zbo r++[59])):=by show _=_;rw[zbT];simp[hkd]
    have hlen:=HLN.out;rw[HST.out,HSX.out,HF.out,←ht.out] at hlen;simp only[List.length_append,List.length_cons,List.length_nil] at hlen;have hrt:Hid ((zbo r).length≤1000000000):=by show _≤_;omega
    have HOI:Hid (zgL r.idx):=by
     cases HSO.out with
     | mk _ _ _ _ _ _ _ _ _ h3 _ _=>exact h3 (by simp[hkd])
    clear hkd h;go_wp2_with fail;refine(zcE r rA rn rc _ (HR.out.keep fun b _ hb=>HB0.out.block b hb) HOI.out hrt.out).mono ?_;rintro e1 w1 ⟨rfl,hb1⟩;have HB1:=zH hb1;clear hb1;go_wp2_with fail;go_roundw
    case rel =>
     refine⟨k+1,t++(tabs++(([108,111,99,107,32]++(zbo r++[59]))++[10])),by omega,by go_num,?_,?_,zhe HBE.out HB1.out⟩
     ·
      simp
     ·
      show _=_;rw[HST.out,HSX.out,HF.out,ht.out]
    case measure=>simp[intOf];omega
   ·
    have hkd:=h;have t1:(kind==1)=false:=by simp[h]
    have t2:(kind==2)=false:=by simp[h]
    have t3:(kind==3)=false:=by simp[h]
    have t4:(kind==4)=false:=by simp[h]
    have t5:(kind==5)=false:=by simp[h]
    have t6:(kind==6)=true:=by simp[h]
    have HF:Hid (zbT kind name e r args tabs (zab thn (tabs++[9])) (zab els (tabs++[9])) els.length=[117,110,108,111,99,107,32]++(zbo r++[59])):=by show _=_;rw[zbT];simp[hkd]
    have hlen:=HLN.out;rw[HST.out,HSX.out,HF.out,←ht.out] at hlen;simp only[List.length_append,List.length_cons,List.length_nil] at hlen;have hrt:Hid ((zbo r).length≤1000000000):=by show _≤_;omega
    have HOI:Hid (zgL r.idx):=by
     cases HSO.out with
     | mk _ _ _ _ _ _ _ _ _ h3 _ _=>exact h3 (by simp[hkd])
    clear hkd h;go_wp2_with fail;refine(zcE r rA rn rc _ (HR.out.keep fun b _ hb=>HB0.out.block b hb) HOI.out hrt.out).mono ?_;rintro e1 w1 ⟨rfl,hb1⟩;have HB1:=zH hb1;clear hb1;go_wp2_with fail;go_roundw
    case rel =>
     refine⟨k+1,t++(tabs++(([117,110,108,111,99,107,32]++(zbo r++[59]))++[10])),by omega,by go_num,?_,?_,zhe HBE.out HB1.out⟩
     ·
      simp
     ·
      show _=_;rw[HST.out,HSX.out,HF.out,ht.out]
    case measure=>simp[intOf];omega
   ·
    have hkd:=h;have t1:(kind==1)=false:=by simp[h]
    have t2:(kind==2)=false:=by simp[h]
    have t3:(kind==3)=false:=by simp[h]
    have t4:(kind==4)=false:=by simp[h]
    have t5:(kind==5)=false:=by simp[h]
    have t6:(kind==6)=false:=by simp[h]
    have t7:(kind==7)=true:=by simp[h]
    have t8:(kind==8)=false:=by simp[h]
    have HF:Hid (zbT kind name e r args tabs (zab thn (tabs++[9])) (zab els (tabs++[9])) els.length=[105,102,32]++(zal e++([32,123,10]++(zab thn (tabs++[9])++(tabs++([125]++(if els.length=0 then [] else [32,101,108,115,101,32,123,10]++(zab els (tabs++[9])++(tabs++[125]))))))))):=by show _=_;rw[zbT];simp[hkd]
    have hlen:=HLN.out;rw[HST.out,HSX.out,HF.out,←ht.out] at hlen;simp only[List.length_append,List.length_cons,List.length_nil] at hlen;have htl:Hid ((zal e).length≤1000000000):=by show _≤_;omega
    have hUl:Hid ((zab thn (tabs++[9])).length≤1000000000):=by show _≤_;omega
    have HOI:Hid (ExOk e∧(∀i (h:i<thn.length),StOk thn[i])∧∀i (h:i<els.length),StOk els[i]):=by
     cases HSO.out with
     | mk _ _ _ _ _ _ _ h1 _ _ h4 h5=>exact⟨h1 (by simp[hkd]),h4 (by simp[hkd]),h5 (by simp[hkd])⟩
    have HSZ2:Hid (SizeOf.sizeOf thn<N∧SizeOf.sizeOf els<N):=by
     have:=HSZ.out;simp only[St.mk.sizeOf_spec] at this;exact⟨by omega,by omega⟩
    clear hkd h;go_wp2_with fail;obtain⟨o,ho⟩:∃o,o=t++tabs:=⟨_,rfl⟩;have hol:o.length=t.length+tabs.length:=by rw[ho];simp
    have HO:=zH ho;rw[←ho];clear ho;have s1:=fun W=>zar (o) ([105,102,32]) (by first|omega|(simp;omega)) W;have s2:=fun W=>zar (o++[105,102,32]) (zal e) (by first|omega|(simp;omega)) W;have s3:=fun W=>zar (o++[105,102,32]++zal e) ([32,123,10]) (by first|omega|(simp;omega)) W;have s4:=fun W=>zar (o++[105,102,32]++zal e++[32,123,10]) (zab thn (tabs++[9])) (by first|omega|(simp;omega)) W;have s5:=fun W=>zar (o++[105,102,32]++zal e++[32,123,10]++zab thn (tabs++[9])) (tabs) (by first|omega|(simp;omega)) W;have s6:=fun W=>zar (o++[105,102,32]++zal e++[32,123,10]++zab thn (tabs++[9])++tabs) ([125]) (by first|omega|(simp;omega)) W;have s0:=fun W=>zar tabs [9] (by simp;omega) W;simp only[List.append_assoc,List.cons_append,List.nil_append] at s2 s3 s4 s5 s6;have d0:Below wr.heap.size wr (wr.alloc (.cells #[.int .i64 kind,.string ⟨name.toArray⟩,.int .i64 fop,.int .i64 fnum,.string ⟨fname.toArray⟩,.slice fA fn fc,.string ⟨r.name.toArray⟩,.slice rA rn rc,.slice aA args.length ac,.slice tA thn.length tc,.slice eA els.length ec] 73)):=HB0.out
    go_region_held3 (fun w'=>w'.cell? ⟨wr.heap.size,2,none⟩=some (.int .i64 fop)∧w'.cell? ⟨wr.heap.size,3,none⟩=some (.int .i64 fnum)∧w'.cell? ⟨wr.heap.size,4,none⟩=some (.string ⟨fname.toArray⟩)∧w'.cell? ⟨wr.heap.size,5,none⟩=some (.slice fA fn fc)∧w'.cell? ⟨wr.heap.size,9,none⟩=some (.slice tA thn.length tc)∧w'.cell? ⟨wr.heap.size,10,none⟩=some (.slice eA els.length ec)∧Below wr.heap.size wr w')
     (refine⟨?_,?_,?_,?_,?_,?_,?_⟩<;>first|assumption|(simp[*];done)|(refine Below.drew ?_;assumption))
     (first|(go_at_call 81;obtain⟨k0,k1,k2,k3,k4,k5,hbw⟩:=‹_∧_∧_∧_∧_∧_∧Below wr.heap.size wr _›;refine(zbK e fop fnum fname fA fn fc _ HOI.out.1 htl.out (HE.out.later hbw)).mono ?_;rintro e w' ⟨rfl,hb⟩;have r0:=cell_later hb k0;have r1:=cell_later hb k1;have r2:=cell_later hb k2;have r3:=cell_later hb k3;have r4:=cell_later hb k4;have r5:=cell_later hb k5;have rb:=zan hb hbw;clear k0 k1 k2 k3 k4 k5 hbw hb)|(go_at_call 55;obtain⟨k0,k1,k2,k3,k4,k5,hbw⟩:=‹_∧_∧_∧_∧_∧_∧Below wr.heap.size wr _›;refine(IH.out thn tA tc (tabs++[9]) _ HSZ2.out.1 (HT.out.keep fun b _ hb=>hbw.block b hb) HOI.out.2.1 hUl.out).mono ?_;rintro e w' ⟨rfl,hb⟩;have r0:=cell_later hb k0;have r1:=cell_later hb k1;have r2:=cell_later hb k2;have r3:=cell_later hb k3;have r4:=cell_later hb k4;have r5:=cell_later hb k5;have rb:=zan hb hbw;clear k0 k1 k2 k3 k4 k5 hbw hb))
    clear s0 s1 s2 s3 s4 s5 s6 d0;have HB1:=zH rb;have q5:=r5;clear r0 r1 r2 r3 r4 r5 rb;clear r0 r1 r2 r3 r4 r5 rb;by_cases hel:els.length=0
    ·
     have HEQ:=zH hel;have d1:decide ((0:Int)<(els.length:Int))=false:=decide_eq_false (by omega);go_wp2_with fail;go_roundw
     case rel =>
      refine⟨k+1,t++(tabs++(([105,102,32]++(zal e++([32,123,10]++(zab thn (tabs++[9])++(tabs++([125]++[]))))))++[10])),by omega,by go_num,?_,?_,za3 HBE.out HB1.out⟩
      ·
       rw[HO.out];simp
      ·
       show _=_;rw[HST.out,HSX.out,HF.out,if_pos HEQ.out,ht.out]
     case measure=>simp[intOf];omega
    ·
     have HF2:=HF.out;rw[if_neg hel] at HF2;have hlen2:=HLN.out;rw[HST.out,HSX.out,HF2,←ht.out] at hlen2;simp only[List.length_append,List.length_cons,List.length_nil] at hlen2;have HF3:=zH HF2;have hVl:Hid ((zab els (tabs++[9])).length≤1000000000):=by show _≤_;omega
     have d1:decide ((els.length:Int)>0)=true:=by simp;omega
     clear HF2 hlen;obtain⟨o2,ho2⟩:∃o2,o2=o++105::102::32::(zal e++32::123::10::(zab thn (tabs++[9])++(tabs++[125]))):=⟨_,rfl⟩;have hol2:o2.length=o.length+3+(zal e).length+3+(zab thn (tabs++[9])).length+tabs.length+1:=by rw[ho2];simp;omega
     have HO2:=zH ho2;rw[←ho2];clear ho2;go_wp2_with fail;refine(IH.out els eA ec (tabs++[9]) _ HSZ2.out.2 (HEL.out.keep fun b _ hb=>HB1.out.block b hb) HOI.out.2.2 hVl.out).mono ?_;rintro e1 w2 ⟨rfl,hb2⟩;have HB2:=zH (za3 HB1.out hb2);clear hb2;go_wp2_with fail;go_roundw
     case rel =>
      refine⟨k+1,t++(tabs++(([105,102,32]++(zal e++([32,123,10]++(zab thn (tabs++[9])++(tabs++([125]++([32,101,108,115,101,32,123,10]++(zab els (tabs++[9])++(tabs++[125])))))))))++[10])),by omega,by go_num,?_,?_,za3 HBE.out HB2.out⟩
      ·
       rw[HO2.out,HO.out];simp
      ·
       show _=_;rw[HST.out,HSX.out,HF3.out,ht.out]
     case measure=>simp[intOf];omega
   ·
    have hkd:=h;have t1:(kind==1)=false:=by simp[h]
    have t2:(kind==2)=false:=by simp[h]
    have t3:(kind==3)=false:=by simp[h]
    have t4:(kind==4)=false:=by simp[h]
    have t5:(kind==5)=false:=by simp[h]
    have t6:(kind==6)=false:=by simp[h]
    have t7:(kind==7)=false:=by simp[h]
    have t8:(kind==8)=true:=by simp[h]
    have HF:Hid (zbT kind name e r args tabs (zab thn (tabs++[9])) (zab els (tabs++[9])) els.length=[119,104,105,108,101,32]++(zal e++([32,123,10]++(zab thn (tabs++[9])++(tabs++([125]++(if els.length=0 then [] else [32,101,108,115,101,32,123,10]++(zab els (tabs++[9])++(tabs++[125]))))))))):=by show _=_;rw[zbT];simp[hkd]
    have hlen:=HLN.out;rw[HST.out,HSX.out,HF.out,←ht.out] at hlen;simp only[List.length_append,List.length_cons,List.length_nil] at hlen;have htl:Hid ((zal e).length≤1000000000):=by show _≤_;omega
    have hUl:Hid ((zab thn (tabs++[9])).length≤1000000000):=by show _≤_;omega
    have HOI:Hid (ExOk e∧(∀i (h:i<thn.length),StOk thn[i])∧∀i (h:i<els.length),StOk els[i]):=by
     cases HSO.out with
     | mk _ _ _ _ _ _ _ h1 _ _ h4 h5=>exact⟨h1 (by simp[hkd]),h4 (by simp[hkd]),h5 (by simp[hkd])⟩
    have HSZ2:Hid (SizeOf.sizeOf thn<N∧SizeOf.sizeOf els<N):=by
     have:=HSZ.out;simp only[St.mk.sizeOf_spec] at this;exact⟨by omega,by omega⟩
    clear hkd h;go_wp2_with fail;obtain⟨o,ho⟩:∃o,o=t++tabs:=⟨_,rfl⟩;have hol:o.length=t.length+tabs.length:=by rw[ho];simp
    have HO:=zH ho;rw[←ho];clear ho;have s1:=fun W=>zar (o) ([119,104,105,108,101,32]) (by first|omega|(simp;omega)) W;have s2:=fun W=>zar (o++[119,104,105,108,101,32]) (zal e) (by first|omega|(simp;omega)) W;have s3:=fun W=>zar (o++[119,104,105,108,101,32]++zal e) ([32,123,10]) (by first|omega|(simp;omega)) W;have s4:=fun W=>zar (o++[119,104,105,108,101,32]++zal e++[32,123,10]) (zab thn (tabs++[9])) (by first|omega|(simp;omega)) W;have s5:=fun W=>zar (o++[119,104,105,108,101,32]++zal e++[32,123,10]++zab thn (tabs++[9])) (tabs) (by first|omega|(simp;omega)) W;have s6:=fun W=>zar (o++[119,104,105,108,101,32]++zal e++[32,123,10]++zab thn (tabs++[9])++tabs) ([125]) (by first|omega|(simp;omega)) W;have s0:=fun W=>zar tabs [9] (by simp;omega) W;simp only[List.append_assoc,List.cons_append,List.nil_append] at s2 s3 s4 s5 s6;have d0:Below wr.heap.size wr (wr.alloc (.cells #[.int .i64 kind,.string ⟨name.toArray⟩,.int .i64 fop,.int .i64 fnum,.string ⟨fname.toArray⟩,.slice fA fn fc,.string ⟨r.name.toArray⟩,.slice rA rn rc,.slice aA args.length ac,.slice tA thn.length tc,.slice eA els.length ec] 73)):=HB0.out
    go_region_held3 (fun w'=>w'.cell? ⟨wr.heap.size,2,none⟩=some (.int .i64 fop)∧w'.cell? ⟨wr.heap.size,3,none⟩=some (.int .i64 fnum)∧w'.cell? ⟨wr.heap.size,4,none⟩=some (.string ⟨fname.toArray⟩)∧w'.cell? ⟨wr.heap.size,5,none⟩=some (.slice fA fn fc)∧w'.cell? ⟨wr.heap.size,9,none⟩=some (.slice tA thn.length tc)∧w'.cell? ⟨wr.heap.size,10,none⟩=some (.slice eA els.length ec)∧Below wr.heap.size wr w')
     (refine⟨?_,?_,?_,?_,?_,?_,?_⟩<;>first|assumption|(simp[*];done)|(refine Below.drew ?_;assumption))
     (first|(go_at_call 81;obtain⟨k0,k1,k2,k3,k4,k5,hbw⟩:=‹_∧_∧_∧_∧_∧_∧Below wr.heap.size wr _›;refine(zbK e fop fnum fname fA fn fc _ HOI.out.1 htl.out (HE.out.later hbw)).mono ?_;rintro e w' ⟨rfl,hb⟩;have r0:=cell_later hb k0;have r1:=cell_later hb k1;have r2:=cell_later hb k2;have r3:=cell_later hb k3;have r4:=cell_later hb k4;have r5:=cell_later hb k5;have rb:=zan hb hbw;clear k0 k1 k2 k3 k4 k5 hbw hb)|(go_at_call 55;obtain⟨k0,k1,k2,k3,k4,k5,hbw⟩:=‹_∧_∧_∧_∧_∧_∧Below wr.heap.size wr _›;refine(IH.out thn tA tc (tabs++[9]) _ HSZ2.out.1 (HT.out.keep fun b _ hb=>hbw.block b hb) HOI.out.2.1 hUl.out).mono ?_;rintro e w' ⟨rfl,hb⟩;have r0:=cell_later hb k0;have r1:=cell_later hb k1;have r2:=cell_later hb k2;have r3:=cell_later hb k3;have r4:=cell_later hb k4;have r5:=cell_later hb k5;have rb:=zan hb hbw;clear k0 k1 k2 k3 k4 k5 hbw hb))
    clear s0 s1 s2 s3 s4 s5 s6 d0;have HB1:=zH rb;have q5:=r5;clear r0 r1 r2 r3 r4 r5 rb;clear r0 r1 r2 r3 r4 r5 rb;by_cases hel:els.length=0
    ·
     have HEQ:=zH hel;have d1:decide ((0:Int)<(els.length:Int))=false:=decide_eq_false (by omega);go_wp2_with fail;go_roundw
     case rel =>
      refine⟨k+1,t++(tabs++(([119,104,105,108,101,32]++(zal e++([32,123,10]++(zab thn (tabs++[9])++(tabs++([125]++[]))))))++[10])),by omega,by go_num,?_,?_,za3 HBE.out HB1.out⟩
      ·
       rw[HO.out];simp
      ·
       show _=_;rw[HST.out,HSX.out,HF.out,if_pos HEQ.out,ht.out]
     case measure=>simp[intOf];omega
    ·
     have HF2:=HF.out;rw[if_neg hel] at HF2;have hlen2:=HLN.out;rw[HST.out,HSX.out,HF2,←ht.out] at hlen2;simp only[List.length_append,List.length_cons,List.length_nil] at hlen2;have HF3:=zH HF2;have hVl:Hid ((zab els (tabs++[9])).length≤1000000000):=by show _≤_;omega
     have d1:decide ((els.length:Int)>0)=true:=by simp;omega
     clear HF2 hlen;obtain⟨o2,ho2⟩:∃o2,o2=o++119::104::105::108::101::32::(zal e++32::123::10::(zab thn (tabs++[9])++(tabs++[125]))):=⟨_,rfl⟩;have hol2:o2.length=o.length+6+(zal e).length+3+(zab thn (tabs++[9])).length+tabs.length+1:=by rw[ho2];simp;omega
     have HO2:=zH ho2;rw[←ho2];clear ho2;go_wp2_with fail;refine(IH.out els eA ec (tabs++[9]) _ HSZ2.out.2 (HEL.out.keep fun b _ hb=>HB1.out.block b hb) HOI.out.2.2 hVl.out).mono ?_;rintro e1 w2 ⟨rfl,hb2⟩;have HB2:=zH (za3 HB1.out hb2);clear hb2;go_wp2_with fail;go_roundw
     case rel =>
      refine⟨k+1,t++(tabs++(([119,104,105,108,101,32]++(zal e++([32,123,10]++(zab thn (tabs++[9])++(tabs++([125]++([32,101,108,115,101,32,123,10]++(zab els (tabs++[9])++(tabs++[125])))))))))++[10])),by omega,by go_num,?_,?_,za3 HBE.out HB2.out⟩
      ·
       rw[HO2.out,HO.out];simp
      ·
       show _=_;rw[HST.out,HSX.out,HF3.out,ht.out]
     case measure=>simp[intOf];omega
   ·
    skip
    obtain⟨t1,t2,t3,t4,t5,t6,t7,t8⟩:=h;have HF:Hid (zbT kind name e r args tabs (zab thn (tabs++[9])) (zab els (tabs++[9])) els.length=[114,101,116,117,114,110,59]):=by
     have e1:kind≠1:=by simpa using t1
     have e2:kind≠2:=by simpa using t2
     have e3:kind≠3:=by simpa using t3
     have e4:kind≠4:=by simpa using t4
     have e5:kind≠5:=by simpa using t5
     have e6:kind≠6:=by simpa using t6
     have e7:kind≠7:=by simpa using t7
     have e8:kind≠8:=by simpa using t8
     show _=_;rw[zbT];simp[e1,e2,e3,e4,e5,e6,e7,e8]
    have hlen:=HLN.out;rw[HST.out,HSX.out,HF.out,←ht.out] at hlen;simp only[List.length_append,List.length_cons,List.length_nil] at hlen;go_wp2_with fail;go_roundw
    case rel =>
     refine⟨k+1,t++(tabs++(([114,101,116,117,114,110,59])++[10])),by omega,by go_num,?_,?_,za3 HBE.out HB0.out⟩
     ·
      simp
     ·
      show _=_;rw[HST.out,HSX.out,HF.out,ht.out]
    case measure=>simp[intOf];omega
  ·
   have hke:Hid (k=l.length):=by show _=_;omega
   go_wp2_with fail;go_ret;refine⟨?_,HBE.out⟩
   have:=ht.out;rw[hke.out,List.take_length] at this;rw[this];rfl
end Go.Proofs.YtlnbmmgbfgmboaaGreatDoor
