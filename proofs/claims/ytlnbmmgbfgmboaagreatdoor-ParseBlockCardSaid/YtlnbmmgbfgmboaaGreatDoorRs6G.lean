import Derived.Test.YtlnbmmgbfgmboaaGreatDoorQa
import Derived.Test.YtlnbmmgbfgmboaaGreatDoorQ20
import Derived.Test.YtlnbmmgbfgmboaaGreatDoorRs5G
namespace Go.Proofs.YtlnbmmgbfgmboaaGreatDoor
open Go.RowKit
theorem SV.one (v:SV) (u:Value) (h:u∈v.cells):u.oneCell'=true:=by
 unfold SV.cells at h;simp at h;rcases h with rfl|rfl|rfl|rfl|rfl|rfl|rfl|rfl|rfl|rfl|rfl<;>rfl
theorem SV.cl {v:SV} {s:St} (h:v.Is s):stK.cl (s,v.G)=v.cells:=by
 obtain⟨h1,h2,h3,h4,h5,h6⟩:=h;unfold SV.cells;rw[h1,h2,h3,h4,h5,h6];rfl
def RbL (w:World) (g:Nat) (ts:List Tk.Tok) (st:Pa.Sg→St × Pa.Sg) (R:List St × Pa.Sg) (d f:Nat) (v:Value) (wr:World):Prop :=
 ∃τ,Rs wr g ts τ (d+1)∧w.grownBy wr (some g)∧((τ.live=false∧R.2=τ∧∃A n c,v=.slice A n c) ∨
  (τ.live=true∧d<24∧∃P:List (St × SG),OwnR stK 73 wr w.heap.size v P∧P.length≤τ.k∧ts.length≤f+τ.k∧Pa.sStmts ts st f τ (P.map (·.1))=R))
theorem Rs.fro {w:World} {g:Nat} {ts:List Tk.Tok} {σ:Pa.Sg} {d:Nat} (h:Rs w g ts σ d):w.frozen? ⟨g,5,none⟩=false:=h.dcell.2 5
set_option maxRecDepth 100000 in
set_option maxHeartbeats 8000000 in
theorem zhr (w:World) (g:Nat) (ts:List Tk.Tok) (hT:TksOk ts) (st:Pa.Sg→St × Pa.Sg) (σ:Pa.Sg) (d:Nat) (hd:d≤24) (hst:∀τ,Pa.Fws τ (st τ).2)
  (hC:d<24→∀w τ,Rs w g ts τ (d+1)→Calls Tryz.prog 51 #[.pointer (some ⟨g,0,none⟩)] w (RtP w g ts (st τ) (d+1))) (hP:Rs w g ts σ d) :
  Calls Tryz.prog 26 #[.pointer (some ⟨g,0,none⟩)] w (RbP w g ts (Pa.sStmts ts st (ts.length+1) (Pa.xp ts (opS ts σ d) [123]) []) d):=by
 obtain⟨i0,hi,hz0,hz1,hz2⟩:=info_parts Tryz.infoSt;have HP:=zH hP;have HT:=zH hT;have HC:=zH hC;have HST:=zH hst;have hgw:=hP.lt;have HOL:=zH (zfe (ts:=ts) (σ:=σ) (o:=d));have HOP:Hid (opS ts σ d=if Pa.isS ts σ [123]=true then Pa.lm σ d 24 else σ):=rfl;generalize opS ts σ d=ρ at *;generalize hR0:Pa.sStmts ts st (ts.length+1) (Pa.xp ts ρ [123]) []=R at *;have HR0:=zH hR0;clear hP hT hC hst hR0;go_enter Tryz.func26,Tryz.ntmps26;go_wp2_with fail;refine(rsIs w g ts HT.out.kinds σ d [123] HP.out).mono ?_;rintro x w1 ⟨rfl,hb1⟩;have HP1:=zH (HP.out.later hb1);have HG1:=zH (za2 (g:=g) hb1);clear hb1;have p5:=HP1.out.dcell.1;cases hI:Pa.isS ts σ [123] with
 | true =>
  by_cases h24:d=24
  ·
   have t24:((d:Int)==24)=true:=bT (show (d:Int)=24 by omega);have HQ:Hid (Pa.fl σ 3=ρ):=by
    show _=_;rw[HOP.out,if_pos hI];exact(if_pos (by omega)).symm
   clear hI h24 HOP;go_wp2_with fail;refine(rsFail w1 g ts σ d 3 3 rfl (by decide) HP1.out).mono ?_;rintro x wa ⟨rfl,hPa,hGa⟩;rw[HQ.out] at hPa;have HPa:=zH hPa;have HGa:=zH (za0 HG1.out hGa);clear hPa hGa p5 HP1 HG1 HQ t24;go_wp2_with fail;refine(zbW wa g ts HT.out.last HT.out.kinds ρ d [123] HPa.out).mono ?_;rintro x w3 ⟨rfl,hP3,hG3⟩;obtain⟨q5,qf⟩:=hP3.dcell;have f5:=qf 5;have HP3:=zH hP3;have HG3:=zH (za0 HGa.out hG3);clear hP3 hG3 qf HPa HGa;generalize Pa.xp ts ρ [123]=σ3 at *;have HL0:Hid (RbL w g ts st R d (ts.length+1) (.slice none 0 0) (w3.setCell ⟨g,5,none⟩ (.int .i64 ((d:Int)+1)))):=by
    refine⟨σ3,HP3.out.deep (d+1) _ (by omega),zaH HG3.out,?_⟩;cases σ3 with
    | at_ k=>exact .inr ⟨rfl,HOL.out rfl,[],OwnR.nil _ _ _ _,Nat.zero_le _,by omega,HR0.out⟩
    | bad m e=>exact .inl ⟨rfl,by rw[←HR0.out];exact congrArg Prod.snd (zb5 _ _ _ _ _ _),none,0,0,rfl⟩
   clear HOL HR0;go_wp2_with fail
   go_loopg [3] (ts.length+1) (fun k v wr=>Hid (RbL w g ts st R d k v wr))
   case atStart=>exact HL0.out
   case round =>
    clear HL0 HP3 HG3 q5 f5;obtain⟨τ,hP,hG,hcase⟩:=hrel.out;clear hrel;have HPr:=zH hP;have HGr:=zH hG;have hnn:=hP.len;have hkT:=hP.inT;have s3:=hP.ecell;have s5:=hP.dcell.1;have g5:=hP.fro;have hwl:w.heap.size≤wr.heap.size:=hG.size;clear hP hG;rcases hcase with⟨hdead,hRe,A,n,c,rfl⟩|⟨hlive,hd24,P,hO,hPk,hfk,hR⟩
    ·
     cases τ with
     | at_ k=>cases hdead
     | bad m e =>
      have he:e≠0:=HPr.out.err;have t0:(((Pa.Sg.bad m e).e:Int)==0)=false:=bF (show ((e:Nat):Int)≠0 by omega);have HRe:=zH hRe;clear he hRe hdead;go_wp2_with fail;go_ret;refine⟨A,n,c,rfl,fun h=>?_,?_,zaH HGr.out⟩
      ·
       rw[HRe.out] at h;cases h
      ·
       rw[HRe.out];exact HPr.out.deep d _ (by omega)
    ·
     cases τ with
     | bad m e=>cases hlive
     | at_ k0 =>
      have hk3:(Pa.Sg.at_ k0).k=k0:=rfl;rw[hk3] at hPk hfk hkT;obtain⟨sa,sc,rfl⟩:=hO.form;have t0:(((Pa.Sg.at_ k0).e:Int)==0)=true:=rfl;obtain⟨f1,rfl⟩:∃f1,gk=f1+1:=⟨gk-1,by omega⟩;have HO:=zH hO;have HR:=zH hR;clear hO hR hlive hk3;go_wp2_with fail;refine(zbV wr g ts HT.out.last HT.out.kinds (.at_ k0) (d+1) [125] HPr.out).mono ?_;rintro x w5 ⟨rfl,hP5,hG5⟩;have HP5:=zH hP5;have HG5:=zH (za0 HGr.out hG5);have HO5:=zH (HO.out.grown hG5 hgw);clear hP5 hG5 s3 s5 g5 t0 HO;cases hI:Pa.isS ts (.at_ k0) [125] with
      | true =>
       have hac:Pa.ac ts (.at_ k0) [125]=.at_ (k0+1):=if_pos hI;rw[hac] at HP5;have HRR:Hid (R=(P.map (·.1),.at_ (k0+1))):=by show _=_;rw[←HR.out];exact zcp ts st f1 k0 _ hI
       have s5:=HP5.out.dcell.1;have g5:=HP5.out.fro;clear hac hI HR;go_wp2_with fail;go_ret;refine⟨sa,P.length,sc,rfl,fun _=>?_,?_,zaH HG5.out⟩
       ·
        rw[HRR.out];exact⟨by simp,zba (HO5.out.keep (by simp[World.setCell]) fun b hb _=>Below.heap_setCell _ _ _ b (by show b≠g;omega))⟩
       ·
        rw[HRR.out];exact HP5.out.deep d _ (by omega)
      | false =>
       have hac:Pa.ac ts (.at_ k0) [125]=.at_ k0:=if_neg (by rw[hI];decide);rw[hac] at HP5;have HR2:Hid (Pa.sStmts ts st f1 (st (.at_ k0)).2 (P.map (·.1)++[(st (.at_ k0)).1])=R):=by show _=_;rw[←HR.out];exact(zcR ts st f1 k0 _ hI).symm
       have HFW:=zH (HST.out (.at_ k0));clear hac hI HR;go_wp2_with fail;refine(HC.out hd24 w5 (.at_ k0) HP5.out).mono ?_;rintro x w6 ⟨v,rfl,hM6,hP6,hG6⟩;unfold SV.val;have HP6:=zH hP6;have HG6:=zH (za0 HG5.out hG6);have HM6:=zH hM6;have HO6:=zH (HO5.out.grown hG6 hgw);have hl5:w.heap.size≤w5.heap.size:=HG5.out.size;have hl6:w.heap.size≤w6.heap.size:=HG6.out.size;clear hM6 hP6 hG6;generalize (st (.at_ k0)).2=τ2 at *;generalize (st (.at_ k0)).1=s at *;go_wp2_with (first|(at_builtin;refine wpList_append_lies _ rfl (.tmp 34) (.tmp 37) 35 rfl w.heap.size 73 i0 _ 11 192 Tryz.underlying35 hi hz0 hz1 hz2 rfl (by decide) _ P.length (stK.cs P) rfl (HO6.out.alloc _).1 ⟨w6.heap.size,0,none⟩ 1 1 v.cells rfl rfl (zak w6 _ rfl _ _) v.one (by omega) (by unfold maxLen;omega) (by omega) (by simp;omega) _ rfl ?_));intro gb2 cap2 w7 hown hgrow hlies hgl;have HO7:Hid (τ2.live=true→OwnR stK 73 w7 w.heap.size (.slice (some ⟨gb2,0,none⟩) (P.length+1) cap2) (P++[(s,v.G)])):=fun hl=>(HO6.out.alloc _).snoc (stK.fresh (N:=w5.heap.size) (stK.keep (show stK.In w6 (w5.heap.size≤·) (s,v.G) from (HM6.out hl).2) fun b _ hl=>Below.heap_alloc w6 _ b hl) HO5.out (lR _) hl5) (by rw[SV.cl (HM6.out hl).1];exact hown) hgrow (zah hlies (by simp));have HP7:Hid (Rs w7 g ts τ2 (d+1)):=(HP6.out.alloc _).app (HO6.out.alloc _).1 hgw hgrow;have HG7:Hid (w.grownBy w7 (some g)):=zcW (zag HG6.out _) (HO6.out.alloc _).1 (lR _) hgrow;clear hown hgrow hlies hgl HO6 HM6 HP6 HO5 HP5;go_wp2_with fail;go_roundg f1
       case rel =>
        refine⟨τ2,HP7.out,HG7.out,?_⟩;cases τ2 with
        | bad m e=>exact .inl ⟨rfl,by rw[←HR2.out];exact congrArg Prod.snd (zb5 _ _ _ _ _ _),_,_,_,rfl⟩
        | at_ k2 =>
         have h1:k0<k2:=(HFW.out rfl).2;refine .inr ⟨rfl,hd24,P++[(s,v.G)],HO7.out rfl,?_,?_,?_⟩
         ·
          show _≤k2;simp;omega
         ·
          show _≤f1+k2;omega
         ·
          rw[List.map_append];exact HR2.out
       case measure=>omega
  ·
   have t24:((d:Int)==24)=false:=bF (show (d:Int)≠24 by omega);have hQ:σ=ρ:=by
    rw[HOP.out,if_pos hI];exact(if_neg (by omega)).symm
   have HPa:Hid (Rs w1 g ts ρ d):=by rw[←hQ];exact HP1.out
   have HGa:=HG1;clear hI h24 HOP hQ HP1 HG1;go_wp2_with fail;refine(zbW w1 g ts HT.out.last HT.out.kinds ρ d [123] HPa.out).mono ?_;rintro x w3 ⟨rfl,hP3,hG3⟩;obtain⟨q5,qf⟩:=hP3.dcell;have f5:=qf 5;have HP3:=zH hP3;have HG3:=zH (za0 HGa.out hG3);clear hP3 hG3 qf HPa HGa;generalize Pa.xp ts ρ [123]=σ3 at *;have HL0:Hid (RbL w g ts st R d (ts.length+1) (.slice none 0 0) (w3.setCell ⟨g,5,none⟩ (.int .i64 ((d:Int)+1)))):=by
    refine⟨σ3,HP3.out.deep (d+1) _ (by omega),zaH HG3.out,?_⟩;cases σ3 with
    | at_ k=>exact .inr ⟨rfl,HOL.out rfl,[],OwnR.nil _ _ _ _,Nat.zero_le _,by omega,HR0.out⟩
    | bad m e=>exact .inl ⟨rfl,by rw[←HR0.out];exact congrArg Prod.snd (zb5 _ _ _ _ _ _),none,0,0,rfl⟩
   clear HOL HR0;go_wp2_with fail
   go_loopg [3] (ts.length+1) (fun k v wr=>Hid (RbL w g ts st R d k v wr))
   case atStart=>exact HL0.out
   case round =>
    clear HL0 HP3 HG3 q5 f5;obtain⟨τ,hP,hG,hcase⟩:=hrel.out;clear hrel;have HPr:=zH hP;have HGr:=zH hG;have hnn:=hP.len;have hkT:=hP.inT;have s3:=hP.ecell;have s5:=hP.dcell.1;have g5:=hP.fro;have hwl:w.heap.size≤wr.heap.size:=hG.size;clear hP hG;rcases hcase with⟨hdead,hRe,A,n,c,rfl⟩|⟨hlive,hd24,P,hO,hPk,hfk,hR⟩
    ·
     cases τ with
     | at_ k=>cases hdead
     | bad m e =>
      have he:e≠0:=HPr.out.err;have t0:(((Pa.Sg.bad m e).e:Int)==0)=false:=bF (show ((e:Nat):Int)≠0 by omega);have HRe:=zH hRe;clear he hRe hdead;go_wp2_with fail;go_ret;refine⟨A,n,c,rfl,fun h=>?_,?_,zaH HGr.out⟩
      ·
       rw[HRe.out] at h;cases h
      ·
       rw[HRe.out];exact HPr.out.deep d _ (by omega)
    ·
     cases τ with
     | bad m e=>cases hlive
     | at_ k0 =>
      have hk3:(Pa.Sg.at_ k0).k=k0:=rfl;rw[hk3] at hPk hfk hkT;obtain⟨sa,sc,rfl⟩:=hO.form;have t0:(((Pa.Sg.at_ k0).e:Int)==0)=true:=rfl;obtain⟨f1,rfl⟩:∃f1,gk=f1+1:=⟨gk-1,by omega⟩;have HO:=zH hO;have HR:=zH hR;clear hO hR hlive hk3;go_wp2_with fail;refine(zbV wr g ts HT.out.last HT.out.kinds (.at_ k0) (d+1) [125] HPr.out).mono ?_;rintro x w5 ⟨rfl,hP5,hG5⟩;have HP5:=zH hP5;have HG5:=zH (za0 HGr.out hG5);have HO5:=zH (HO.out.grown hG5 hgw);clear hP5 hG5 s3 s5 g5 t0 HO;cases hI:Pa.isS ts (.at_ k0) [125] with
      | true =>
       have hac:Pa.ac ts (.at_ k0) [125]=.at_ (k0+1):=if_pos hI;rw[hac] at HP5;have HRR:Hid (R=(P.map (·.1),.at_ (k0+1))):=by show _=_;rw[←HR.out];exact zcp ts st f1 k0 _ hI
       have s5:=HP5.out.dcell.1;have g5:=HP5.out.fro;clear hac hI HR;go_wp2_with fail;go_ret;refine⟨sa,P.length,sc,rfl,fun _=>?_,?_,zaH HG5.out⟩
       ·
        rw[HRR.out];exact⟨by simp,zba (HO5.out.keep (by simp[World.setCell]) fun b hb _=>Below.heap_setCell _ _ _ b (by show b≠g;omega))⟩
       ·
        rw[HRR.out];exact HP5.out.deep d _ (by omega)
      | false =>
       have hac:Pa.ac ts (.at_ k0) [125]=.at_ k0:=if_neg (by rw[hI];decide);rw[hac] at HP5;have HR2:Hid (Pa.sStmts ts st f1 (st (.at_ k0)).2 (P.map (·.1)++[(st (.at_ k0)).1])=R):=by show _=_;rw[←HR.out];exact(zcR ts st f1 k0 _ hI).symm
       have HFW:=zH (HST.out (.at_ k0));clear hac hI HR;go_wp2_with fail;refine(HC.out hd24 w5 (.at_ k0) HP5.out).mono ?_;rintro x w6 ⟨v,rfl,hM6,hP6,hG6⟩;unfold SV.val;have HP6:=zH hP6;have HG6:=zH (za0 HG5.out hG6);have HM6:=zH hM6;have HO6:=zH (HO5.out.grown hG6 hgw);have hl5:w.heap.size≤w5.heap.size:=HG5.out.size;have hl6:w.heap.size≤w6.heap.size:=HG6.out.size;clear hM6 hP6 hG6;generalize (st (.at_ k0)).2=τ2 at *;generalize (st (.at_ k0)).1=s at *;go_wp2_with (first|(at_builtin;refine wpList_append_lies _ rfl (.tmp 34) (.tmp 37) 35 rfl w.heap.size 73 i0 _ 11 192 Tryz.underlying35 hi hz0 hz1 hz2 rfl (by decide) _ P.length (stK.cs P) rfl (HO6.out.alloc _).1 ⟨w6.heap.size,0,none⟩ 1 1 v.cells rfl rfl (zak w6 _ rfl _ _) v.one (by omega) (by unfold maxLen;omega) (by omega) (by simp;omega) _ rfl ?_));intro gb2 cap2 w7 hown hgrow hlies hgl;have HO7:Hid (τ2.live=true→OwnR stK 73 w7 w.heap.size (.slice (some ⟨gb2,0,none⟩) (P.length+1) cap2) (P++[(s,v.G)])):=fun hl=>(HO6.out.alloc _).snoc (stK.fresh (N:=w5.heap.size) (stK.keep (show stK.In w6 (w5.heap.size≤·) (s,v.G) from (HM6.out hl).2) fun b _ hl=>Below.heap_alloc w6 _ b hl) HO5.out (lR _) hl5) (by rw[SV.cl (HM6.out hl).1];exact hown) hgrow (zah hlies (by simp));have HP7:Hid (Rs w7 g ts τ2 (d+1)):=(HP6.out.alloc _).app (HO6.out.alloc _).1 hgw hgrow;have HG7:Hid (w.grownBy w7 (some g)):=zcW (zag HG6.out _) (HO6.out.alloc _).1 (lR _) hgrow;clear hown hgrow hlies hgl HO6 HM6 HP6 HO5 HP5;go_wp2_with fail;go_roundg f1
       case rel =>
        refine⟨τ2,HP7.out,HG7.out,?_⟩;cases τ2 with
        | bad m e=>exact .inl ⟨rfl,by rw[←HR2.out];exact congrArg Prod.snd (zb5 _ _ _ _ _ _),_,_,_,rfl⟩
        | at_ k2 =>
         have h1:k0<k2:=(HFW.out rfl).2;refine .inr ⟨rfl,hd24,P++[(s,v.G)],HO7.out rfl,?_,?_,?_⟩
         ·
          show _≤k2;simp;omega
         ·
          show _≤f1+k2;omega
         ·
          rw[List.map_append];exact HR2.out
       case measure=>omega
 | false =>
  have hQ:σ=ρ:=by rw[HOP.out,if_neg (by rw[hI];decide)]
  have HPa:Hid (Rs w1 g ts ρ d):=by rw[←hQ];exact HP1.out
  have HGa:=HG1;clear hI HOP hQ HP1 HG1;go_wp2_with fail;refine(zbW w1 g ts HT.out.last HT.out.kinds ρ d [123] HPa.out).mono ?_;rintro x w3 ⟨rfl,hP3,hG3⟩;obtain⟨q5,qf⟩:=hP3.dcell;have f5:=qf 5;have HP3:=zH hP3;have HG3:=zH (za0 HGa.out hG3);clear hP3 hG3 qf HPa HGa;generalize Pa.xp ts ρ [123]=σ3 at *;have HL0:Hid (RbL w g ts st R d (ts.length+1) (.slice none 0 0) (w3.setCell ⟨g,5,none⟩ (.int .i64 ((d:Int)+1)))):=by
   refine⟨σ3,HP3.out.deep (d+1) _ (by omega),zaH HG3.out,?_⟩;cases σ3 with
   | at_ k=>exact .inr ⟨rfl,HOL.out rfl,[],OwnR.nil _ _ _ _,Nat.zero_le _,by omega,HR0.out⟩
   | bad m e=>exact .inl ⟨rfl,by rw[←HR0.out];exact congrArg Prod.snd (zb5 _ _ _ _ _ _),none,0,0,rfl⟩
  clear HOL HR0;go_wp2_with fail
  go_loopg [3] (ts.length+1) (fun k v wr=>Hid (RbL w g ts st R d k v wr))
  case atStart=>exact HL0.out
  case round =>
   clear HL0 HP3 HG3 q5 f5;obtain⟨τ,hP,hG,hcase⟩:=hrel.out;clear hrel;have HPr:=zH hP;have HGr:=zH hG;have hnn:=hP.len;have hkT:=hP.inT;have s3:=hP.ecell;have s5:=hP.dcell.1;have g5:=hP.fro;have hwl:w.heap.size≤wr.heap.size:=hG.size;clear hP hG;rcases hcase with⟨hdead,hRe,A,n,c,rfl⟩|⟨hlive,hd24,P,hO,hPk,hfk,hR⟩
   ·
    cases τ with
    | at_ k=>cases hdead
    | bad m e =>
     have he:e≠0:=HPr.out.err;have t0:(((Pa.Sg.bad m e).e:Int)==0)=false:=bF (show ((e:Nat):Int)≠0 by omega);have HRe:=zH hRe;clear he hRe hdead;go_wp2_with fail;go_ret;refine⟨A,n,c,rfl,fun h=>?_,?_,zaH HGr.out⟩
     ·
      rw[HRe.out] at h;cases h
     ·
      rw[HRe.out];exact HPr.out.deep d _ (by omega)
   ·
    cases τ with
    | bad m e=>cases hlive
    | at_ k0 =>
     have hk3:(Pa.Sg.at_ k0).k=k0:=rfl;rw[hk3] at hPk hfk hkT;obtain⟨sa,sc,rfl⟩:=hO.form;have t0:(((Pa.Sg.at_ k0).e:Int)==0)=true:=rfl;obtain⟨f1,rfl⟩:∃f1,gk=f1+1:=⟨gk-1,by omega⟩;have HO:=zH hO;have HR:=zH hR;clear hO hR hlive hk3;go_wp2_with fail;refine(zbV wr g ts HT.out.last HT.out.kinds (.at_ k0) (d+1) [125] HPr.out).mono ?_;rintro x w5 ⟨rfl,hP5,hG5⟩;have HP5:=zH hP5;have HG5:=zH (za0 HGr.out hG5);have HO5:=zH (HO.out.grown hG5 hgw);clear hP5 hG5 s3 s5 g5 t0 HO;cases hI:Pa.isS ts (.at_ k0) [125] with
     | true =>
      have hac:Pa.ac ts (.at_ k0) [125]=.at_ (k0+1):=if_pos hI;rw[hac] at HP5;have HRR:Hid (R=(P.map (·.1),.at_ (k0+1))):=by show _=_;rw[←HR.out];exact zcp ts st f1 k0 _ hI
      have s5:=HP5.out.dcell.1;have g5:=HP5.out.fro;clear hac hI HR;go_wp2_with fail;go_ret;refine⟨sa,P.length,sc,rfl,fun _=>?_,?_,zaH HG5.out⟩
      ·
       rw[HRR.out];exact⟨by simp,zba (HO5.out.keep (by simp[World.setCell]) fun b hb _=>Below.heap_setCell _ _ _ b (by show b≠g;omega))⟩
      ·
       rw[HRR.out];exact HP5.out.deep d _ (by omega)
     | false =>
      have hac:Pa.ac ts (.at_ k0) [125]=.at_ k0:=if_neg (by rw[hI];decide);rw[hac] at HP5;have HR2:Hid (Pa.sStmts ts st f1 (st (.at_ k0)).2 (P.map (·.1)++[(st (.at_ k0)).1])=R):=by show _=_;rw[←HR.out];exact(zcR ts st f1 k0 _ hI).symm
      have HFW:=zH (HST.out (.at_ k0));clear hac hI HR;go_wp2_with fail;refine(HC.out hd24 w5 (.at_ k0) HP5.out).mono ?_;rintro x w6 ⟨v,rfl,hM6,hP6,hG6⟩;unfold SV.val;have HP6:=zH hP6;have HG6:=zH (za0 HG5.out hG6);have HM6:=zH hM6;have HO6:=zH (HO5.out.grown hG6 hgw);have hl5:w.heap.size≤w5.heap.size:=HG5.out.size;have hl6:w.heap.size≤w6.heap.size:=HG6.out.size;clear hM6 hP6 hG6;generalize (st (.at_ k0)).2=τ2 at *;generalize (st (.at_ k0)).1=s at *;go_wp2_with (first|(at_builtin;refine wpList_append_lies _ rfl (.tmp 34) (.tmp 37) 35 rfl w.heap.size 73 i0 _ 11 192 Tryz.underlying35 hi hz0 hz1 hz2 rfl (by decide) _ P.length (stK.cs P) rfl (HO6.out.alloc _).1 ⟨w6.heap.size,0,none⟩ 1 1 v.cells rfl rfl (zak w6 _ rfl _ _) v.one (by omega) (by unfold maxLen;omega) (by omega) (by simp;omega) _ rfl ?_));intro gb2 cap2 w7 hown hgrow hlies hgl;have HO7:Hid (τ2.live=true→OwnR stK 73 w7 w.heap.size (.slice (some ⟨gb2,0,none⟩) (P.length+1) cap2) (P++[(s,v.G)])):=fun hl=>(HO6.out.alloc _).snoc (stK.fresh (N:=w5.heap.size) (stK.keep (show stK.In w6 (w5.heap.size≤·) (s,v.G) from (HM6.out hl).2) fun b _ hl=>Below.heap_alloc w6 _ b hl) HO5.out (lR _) hl5) (by rw[SV.cl (HM6.out hl).1];exact hown) hgrow (zah hlies (by simp));have HP7:Hid (Rs w7 g ts τ2 (d+1)):=(HP6.out.alloc _).app (HO6.out.alloc _).1 hgw hgrow;have HG7:Hid (w.grownBy w7 (some g)):=zcW (zag HG6.out _) (HO6.out.alloc _).1 (lR _) hgrow;clear hown hgrow hlies hgl HO6 HM6 HP6 HO5 HP5;go_wp2_with fail;go_roundg f1
      case rel =>
       refine⟨τ2,HP7.out,HG7.out,?_⟩;cases τ2 with
       | bad m e=>exact .inl ⟨rfl,by rw[←HR2.out];exact congrArg Prod.snd (zb5 _ _ _ _ _ _),_,_,_,rfl⟩
       | at_ k2 =>
        have h1:k0<k2:=(HFW.out rfl).2;refine .inr ⟨rfl,hd24,P++[(s,v.G)],HO7.out rfl,?_,?_,?_⟩
        ·
         show _≤k2;simp;omega
        ·
         show _≤f1+k2;omega
        ·
         rw[List.map_append];exact HR2.out
      case measure=>omega
theorem zgm (g:Nat) (ts:List Tk.Tok) (hT:TksOk ts) (f:Nat):∀d,f+d=25→d≤24→RbC g ts (fun σ=>Pa.sBlock ts f d σ) d:=by
 induction f with
 | zero=>intro d h1 h2;omega
 | succ f ih =>
  intro d h1 h2 w σ hP
  have:=zhr w g ts hT (fun τ=>Pa.sStmt ts (fun υ=>Pa.sBlock ts f (d+1) υ) τ) σ d h2 (fun τ=>Pa.sStmt_fws ts _ (fun υ=>Pa.sBlock_fwd ts f (d+1) υ) τ)
   (fun ho w τ hP=>rsStmt w g ts hT _ (fun υ=>Pa.sBlock_fwd ts f (d+1) υ) τ (d+1) (ih (d+1) (by omega) (by omega)) hP) hP
  exact this
end Go.Proofs.YtlnbmmgbfgmboaaGreatDoor
