import Derived.Test.YtlnbmmgbfgmboaaGreatDoorQa
import Derived.Test.YtlnbmmgbfgmboaaGreatDoorQ17
import Derived.Test.YtlnbmmgbfgmboaaGreatDoorQ21
import Derived.Test.YtlnbmmgbfgmboaaGreatDoorSm1G
import Derived.Test.YtlnbmmgbfgmboaaGreatDoorRefLexG
import Derived.Test.YtlnbmmgbfgmboaaGreatDoorQ8
import Derived.Laws.BitsLemmas
import Derived.Test.YtlnbmmgbfgmboaaGreatDoorQ4
import Derived.ProofKit
import Derived.LaidMore
import Derived.OpenShut
import Derived.Stop.Joined
namespace Go.Proofs.YtlnbmmgbfgmboaaGreatDoor
open Go.RowKit
theorem zgB {w w':World} {R:List Tk.Tok × Nat × Nat} {e:Ending} (h:zeo w R e w'):∃A c,e=.returned (.tuple #[.slice A R.1.length c,.int .i64 (R.2.1:Int),.int .i64 (R.2.2:Int)])∧TokS w' A R.1∧R.1.length≤c∧Below w.heap.size w w':=by
 obtain⟨v,rfl,hown,hb⟩:=h;have h2:=hown.2;obtain⟨A,c,rfl⟩:=zb4 hown;refine⟨A,c,rfl,TokS.of_own rfl hown,?_,hb⟩;rcases h2 with⟨-,h⟩|⟨g,cap,cur,e,-,-,hle,-⟩
 ·
  omega
 ·
  injection e with e1 e2 e3;omega
theorem TokS.take {w:World} {A:Option Addr} {ts:List Tk.Tok} (h:TokS w A ts) (n:Nat):TokS w A (ts.take n):=fun i hi=>by
 have hi':i<ts.length:=by simp at hi;omega
 obtain⟨b,e,h0,h1,h2,h3⟩:=h i hi';simp only[List.getElem_take];exact⟨b,e,h0,h1,h2,h3⟩
theorem ziG (f:Nat) (b:List UInt8):∀(k:Nat) (acc:List Tk.Tok),(Tk.lexGo f b k acc).2.2≠0→(Tk.lexGo f b k acc).1=[]:=by
 induction f with
 | zero=>intro k acc _;rfl
 | succ f ih =>
  intro k acc h;rw[Tk.lexGo] at h ⊢;by_cases h1:b.length≤k
  ·
   rw[if_pos h1] at h;exact absurd rfl h
  ·
   rw[if_neg h1] at h ⊢;cases he:Tk.tokAt b k with
   | error e=>rfl
   | ok t =>
    rw[he] at h;dsimp only at h ⊢;by_cases h2:acc.length=4000
    ·
     rw[if_pos h2]
    ·
     rw[if_neg h2] at h ⊢;exact ih _ _ h
theorem lex_wdA (l:List UInt8):WdOk (Tk.lex l).1:=by
 by_cases h0:(Tk.lex l).2.2=0
 ·
  exact lex_wd l h0
 ·
  have:(Tk.lex l).1=[]:=by
   unfold Tk.lex at h0 ⊢;by_cases h:l.length>262144
   ·
    rw[if_pos h]
   ·
    rw[if_neg h] at h0 ⊢;exact ziG _ _ _ _ h0
  rw[this];intro k;exact⟨fun h=>by simp[Ps.kindAt] at h,fun h=>by simp[Ps.kindAt] at h⟩
theorem WdOk.take {ts:List Tk.Tok} (h:WdOk ts) (n:Nat):WdOk (ts.take n):=by
 intro k;by_cases hk:k<n
 ·
  have e1:Ps.kindAt (ts.take n) k=Ps.kindAt ts k:=by unfold Ps.kindAt;rw[List.getElem?_take_of_lt hk]
  have e2:Ps.textAt (ts.take n) k=Ps.textAt ts k:=by unfold Ps.textAt;rw[List.getElem?_take_of_lt hk]
  rw[e1,e2];exact h k
 ·
  have e1:Ps.kindAt (ts.take n) k=5:=by unfold Ps.kindAt;rw[List.getElem?_eq_none (by simp;omega)]
  rw[e1];exact⟨fun h=>absurd h (by decide),fun h=>absurd h (by decide)⟩
theorem TxOk.take {ts:List Tk.Tok} (h:TxOk ts) (n:Nat):TxOk (ts.take n):=by
 intro k;by_cases hk:k<n
 ·
  have e2:Ps.textAt (ts.take n) k=Ps.textAt ts k:=by unfold Ps.textAt;rw[List.getElem?_take_of_lt hk]
  rw[e2];exact h k
 ·
  have e2:Ps.textAt (ts.take n) k=[]:=by unfold Ps.textAt;rw[List.getElem?_eq_none (by simp;omega)]
  rw[e2];simp
theorem blockV_B (ts:List Tk.Tok) (hX:TxOk ts) (hn:ts.length≤900000) (at_:Int):StsB (zcj ts at_).1:=by
 unfold zcj;split
 ·
  split
  ·
   exact sBlock_B ts hX hn 25 0 _
  ·
   exact StsB.nil
 ·
  exact StsB.nil
theorem shr1_bd (x:Int) (h0:-9223372036854775808≤x) (h1:x≤9223372036854775807):-9223372036854775808≤x / 2 ^ 1∧x / 2 ^ 1≤9223372036854775807:=by
 have:(2:Int) ^ 1=2:=rfl;rw[this];omega
set_option maxRecDepth 100000 in
set_option maxHeartbeats 8000000 in
theorem zfd (xs:List Int) (hC:ProgC xs) (A:Option Addr) (cap:Nat) (w:World) (hR:IntR w A xs) (hc:xs.length≤cap) (hm:xs.length≤9223372036854775807) (hS:SgT w)
  (at_ cut:Int) (raw:Bool) (h1:-9223372036854775808≤at_∧at_≤9223372036854775807) (h2:-9223372036854775808≤cut∧cut≤9223372036854775807) :
  Calls Tryz.prog 4 #[.slice A xs.length cap,.int .i64 at_,.int .i64 cut,.bool raw] w fun e w'=>e=.returned (.bool true)∧Below w.heap.size w w':=by
 have HS:=zH hS;have HTX:=zH (mtext_of xs hC A cap w hR hc hm);have HA:=zH h1;have HC:=zH h2;clear hC hR hc hm hS h1 h2;go_enter Tryz.func4,Tryz.ntmps4;go_wp2_with fail;refine HTX.out.mono ?_;rintro e w1 ⟨P,hP,rfl,hb1⟩;have HB1:=zH hb1;have hl0:=fmtT_len hP;clear hP hb1 HTX;generalize fmtT P=L at *;obtain⟨c1,W1,hcv1,hB1,hc1,hb2⟩:=zeR L w1;have HL:=zH (zeC L (some ⟨w1.heap.size,0,none⟩) c1 W1 hB1 (by omega) hc1);have HB2:=zH (za3 HB1.out hb2);have HW:=zH (lex_wdA L);have HX:=zH (lex_wok L (by omega)).2;have hN:=ziE L;clear hB1 hc1 hb2;go_wp2_with fail;refine HL.out.mono ?_;intro e w2 hp;obtain⟨A2,c2,rfl,hT,hle,hb3⟩:=zgB hp;have HT:=zH hT;have HB3:=zH (za3 HB2.out hb3);clear hp hb3 hcv1 hT HL HB1 HB2;generalize (Tk.lex L).2.1=n0 at *;generalize (Tk.lex L).2.2=e0 at *;generalize (Tk.lex L).1=ts at *;have HSH:=zH (shr1_bd cut HC.out.1 HC.out.2);by_cases hcut:(Go.bits .and .i64 cut 1==1)=true
 case' pos =>
  have hq:=zfs (cut / 2 ^ 1) (ts.length+1) (by omega);obtain⟨q,hqe⟩:∃q,q=zdh (cut / 2 ^ 1) (ts.length+1):=⟨_,rfl⟩;rw[←hqe] at hq;have HQ:=zH hqe;clear hqe;have i0:(0:Int)<(ts.length:Int)+1:=by omega
  go_wp2_with fail;refine(zex (cut / 2 ^ 1) ((ts.length:Int)+1) _ HSH.out (by omega) (by omega)).mono ?_;rintro e w3 ⟨rfl,rfl⟩;rw[show ((ts.length:Int)+1).toNat=ts.length+1 by omega,←HQ.out];have hU:(ts.take q).length=q:=by simp;omega
  have HT2:=zH (HT.out.take q);have HW2:=zH (HW.out.take q);have HX2:=zH (HX.out.take q);clear HQ HT HW HX;generalize ts.take q=us at *;subst hU;have hN2:us.length≤4001:=by omega
  have hle2:us.length≤c2:=by omega
  clear hcut HSH hN hle hq i0
 case' neg =>
  have HT2:=HT;have HW2:=HW;have HX2:=HX;obtain⟨us,hU⟩:∃us,us=ts:=⟨_,rfl⟩;subst hU;have hN2:us.length≤4001:=hN;have hle2:us.length≤c2:=hle
 all_goals
  clear hl0;cases raw
  case' false =>
   by_cases h0:0<us.length
   case' pos =>
    have d0:decide ((0:Int)<(us.length:Int))=true:=decide_eq_true (by omega);go_wp2_with fail;refine(zex at_ (us.length:Int) _ HA.out (by omega) (by omega)).mono ?_;rintro e w3 ⟨rfl,rfl⟩;generalize ((zdh at_ (us.length:Int).toNat:Nat):Int)=at2 at *;clear d0 h0
   case' neg =>
    have d0:decide ((0:Int)<(us.length:Int))=false:=decide_eq_false (by omega);generalize at_=at2 at *;go_wp2_with fail
  case' true =>
   generalize at_=at2 at *
 all_goals
  have HK1:=zH (zhv us A2 c2 at2 w2 HT2.out (HS.out.later HB3.out) (by omega));go_wp2_with fail;refine HK1.out.mono ?_;rintro e w4 ⟨A4,c4,rfl,hM1,hb4⟩;have HM1:=zH hM1;have HB4:=zH (za3 HB3.out hb4);have HK2:=zH (zhu us A2 c2 at2 w4 (HT2.out.later hb4) (by omega) HW2.out);have HVB:=zH (blockV_B us HX2.out (by omega) at2);clear hM1 hb4 HK1 HT2 HW2 HX2;generalize zcj us at2=V at *;obtain⟨l,n1,e1⟩:=V;go_wp2_with fail;refine HK2.out.mono ?_;rintro e w5 ⟨A5,c5,rfl,hM2,hb5⟩;have HM2:=zH (hM2.more fun b _ _=>trivial);have HM3:=zH ((HM1.out.more (S':=fun _=>True) fun b _ _=>trivial).later hb5);have HB5:=zH (za3 HB4.out hb5);clear hM2 hb5 HM1 HK2;have HSM:=zH (zi4 l A4 A5 c4 c5 w5 HVB.out HM3.out HM2.out);go_wp2_with fail;refine HSM.out.mono ?_;rintro e w6 ⟨rfl,hb6⟩;have HB6:=zH (za3 HB5.out hb6);clear hb6;go_wp2_with fail;refine(zhK _ (HS.out.later HB6.out)).mono ?_;rintro e w7 ⟨rfl,hb7⟩;have HB7:=zH (za3 HB6.out hb7);clear hb7;go_wp2_with fail;go_ret;exact⟨rfl,HB7.out⟩
theorem zed (xs:List Int) (A:Option Addr) (cap:Nat) (w:World) (hR:IntR w A xs) (hc:xs.length≤cap) (hm:xs.length≤9223372036854775807) (hS:SgT w) (a1 a2:Int) (a3:Bool) (h1:-9223372036854775808≤a1∧a1≤9223372036854775807) (h2:-9223372036854775808≤a2∧a2≤9223372036854775807) :
  Calls Tryz.prog 4 #[.slice A xs.length cap,.int .i64 a1,.int .i64 a2,.bool a3] w fun e w'=>e=.returned (.bool true)∧Below w.heap.size w w':=zfd xs (zfr xs) A cap w hR hc hm hS a1 a2 a3 h1 h2
open Go.ChangeShapes Go.WideShapes Go.ChangeAt Go.RowKit
theorem gSigns:Tryz.prog.globalNamed "lockorder/expr.signs" = some 0:=by kernel_rfl
theorem tSigns:(Tryz.prog.globals[(0:Nat)]?).map (·.type)=some 150:=by kernel_rfl
def laid1 {H:Type}:List (String × DataW H):=[("lockorder/expr.signs",Rows.laid_lockorder_expr_signs)]
theorem zhC {H:Type}:(Rows.laid_lockorder_expr_signs:DataW H)=.agg (Ps.sgTab.map fun s=>.lit (.string s)):=rfl
theorem agg_inj {H:Type} {a b:List (DataW H)} (h:(DataW.agg a:DataW H)=.agg b):a=b:=by
 injection h
theorem door_met (os:Os) (args:Array Value):laidMetH Tryz.prog laid1 ((World.doorLaid Tryz.prog 400 os).forCall (fun _ _=>0) ⟨#[],args,[]⟩).memory :=
 laidMetH_of_parts3 (fuel:=8) (laidMet_of_run' 8 (by kernel_rfl) (by kernel_rfl)) (by kernel_rfl) (by kernel_rfl)
theorem of_laid {W:World} (h:laidMetH Tryz.prog laid1 W):SgT W:=by
 rw[MakeChecks.laidMetH_plain _ _ _ (by kernel_rfl)] at h;obtain⟨ps,⟨g3,t3,cs3,f3,p3,q3,hg3,ht3,hv3,hd3,_,_⟩,_⟩:=h;obtain rfl:=Option.some.inj (gSigns.symm.trans hg3);obtain rfl:=Option.some.inj (tSigns.symm.trans ht3);obtain⟨xs,m,rfl,hx,hlen,hn,hel⟩:=DataW.trod_array Tryz.underlying150 hd3;have c1:Tryz.prog.cellsOf 9=1:=by kernel_rfl
 have c18:Tryz.prog.cellsOf 150=18:=by kernel_rfl
 simp only[Prod.mk.injEq] at hx;have hxs:xs.map (·.1)=Ps.sgTab.map fun s=>.lit (.string s):=agg_inj (hx.1.symm.trans zhC);have hL:Ps.sgTab.length=18:=rfl;unfold SgT;generalize Ps.sgTab=L at *;intro i hi;have h1:=hel i (by omega);rw[c1,Nat.mul_one] at h1;have hxi:i<xs.length:=by omega
 rw[List.getElem?_eq_getElem hxi] at h1;obtain⟨s,e1,e2,_⟩:=DataW.trod_string Tryz.underlying9 h1;have hcell:cs3.toList[i]?=some (.string s):=by
  have h2:((cs3.toList.drop i).take 1)[0]?=some (Value.string s):=by rw[e1];rfl
  rw[List.getElem?_take,if_pos (by omega),List.getElem?_drop,Nat.add_zero] at h2;exact h2
 have hs:s.data.toList=L[i]:=by
  have h3:(xs.map (·.1))[i]?=(L.map fun s=>(DataW.lit (.string s):DataW _))[i]?:=by rw[hxs]
  rw[List.getElem?_map,List.getElem?_map,List.getElem?_eq_getElem hxi,List.getElem?_eq_getElem hi,e2] at h3;simpa using h3
 rw[World.var?_cell hg3 hv3 i,←Array.getElem?_toList,hcell,←hs]
end Go.Proofs.YtlnbmmgbfgmboaaGreatDoor
