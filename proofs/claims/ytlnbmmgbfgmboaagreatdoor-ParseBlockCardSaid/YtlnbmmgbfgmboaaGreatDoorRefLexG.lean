import Derived.Test.YtlnbmmgbfgmboaaGreatDoorQa
import Derived.Test.YtlnbmmgbfgmboaaGreatDoorQ16
import Derived.Test.YtlnbmmgbfgmboaaGreatDoorQ2
namespace Go.Proofs.YtlnbmmgbfgmboaaGreatDoor
open Go.RowKit
theorem zhs (s:List UInt8) (h:Tk.resv s=true):s.length≤16:=by
 simp[Tk.resv,Tk.words] at h;rcases h with h|h|h|h|h|h|h|h|h|h|h<;>simp[h]
theorem zdS (l:List UInt8) (k m:Nat) (hk:k<l.length) (hL:Tk.isLet l[k]=true) (h:m-k=((l.drop k).takeWhile Tk.isLD).length) (q:Bool) (hq:Tk.resv ((l.drop k).take (m-k))=q) (h16:q=true∨(m:Int)-(k:Int)≤16) :
  Tk.tokAt l k=.ok ⟨if q then 3 else 1,(l.drop k).take (m-k),0,k⟩:=by
 have hg:l.getD k 0=l[k]:=by simp[List.getD,List.getElem?_eq_getElem hk]
 have ht:=zcD Tk.isLD _ (m-k) h;have hlen:((l.drop k).takeWhile Tk.isLD).length≤16:=by
  rcases h16 with h16|h16
  ·
   subst h16;rw[ht] at hq;exact zhs _ hq
  ·
   omega
 unfold Tk.tokAt Tk.nameAt;rw[hg,if_pos hL];dsimp only;rw[if_neg (by omega),←ht,hq]
theorem zgM (l:List UInt8) (k m:Nat) (hk:k<l.length) (hL:Tk.isLet l[k]=true) (h:m-k=((l.drop k).takeWhile Tk.isLD).length) (h16:16<(m:Int)-(k:Int)):Tk.tokAt l k=.error 3:=by
 have hg:l.getD k 0=l[k]:=by simp[List.getD,List.getElem?_eq_getElem hk]
 unfold Tk.tokAt Tk.nameAt;rw[hg,if_pos hL];dsimp only;rw[if_pos (by omega)]
theorem zdi (p:UInt8→Bool) (s:List UInt8):∀c∈s.takeWhile p,p c=true:=by
 induction s with
 | nil=>simp
 | cons a r ih =>
  rw[List.takeWhile_cons];split
  ·
   rename_i h;intro c hc;rcases List.mem_cons.1 hc with rfl|hc
   ·
    exact h
   ·
    exact ih c hc
  ·
   simp
theorem zfX (l:List UInt8) (b off k m cap':Nat) (w:World) (hB:Byt w (some ⟨b,off,none⟩) l) (hkm:k≤m) (hm:m≤l.length) (hd:∀c∈(l.drop k).take (m-k),Tk.isDig c=true) (hl:l.length≤1000000) :
  Calls Tryz.prog 22 #[.slice (some ⟨b,off+k,none⟩) (m-k) cap'] w fun e w'=>e=.returned (.int .i64 (zeI (Tk.numVal 0 ((l.drop k).take (m-k)))))∧w=w':=by
 have hlen:((l.drop k).take (m-k)).length=m-k:=by simp;omega
 have h:=zhz ((l.drop k).take (m-k)) (some ⟨b,off+k,none⟩) cap' w (hB.sub k m) hd (by omega);rw[hlen] at h;exact h
theorem zfv (l:List UInt8) (k m:Nat) (hk:k<l.length) (hL:Tk.isLet l[k]=false) (hD:Tk.isDig l[k]=true) (h:m-k=((l.drop k).takeWhile Tk.isDig).length) (hv:Tk.numVal 0 ((l.drop k).take (m-k))=none):Tk.tokAt l k=.error 2:=by
 have hg:l.getD k 0=l[k]:=by simp[List.getD,List.getElem?_eq_getElem hk]
 rw[zcD Tk.isDig _ (m-k) h] at hv;unfold Tk.tokAt Tk.numAt;rw[hg,if_neg (by simp[hL]),if_pos hD];dsimp only;rw[hv]
theorem zhQ (l:List UInt8) (k m n:Nat) (hk:k<l.length) (hL:Tk.isLet l[k]=false) (hD:Tk.isDig l[k]=true) (h:m-k=((l.drop k).takeWhile Tk.isDig).length) (hv:Tk.numVal 0 ((l.drop k).take (m-k))=some n):Tk.tokAt l k=.ok ⟨2,(l.drop k).take (m-k),n,k⟩:=by
 have hg:l.getD k 0=l[k]:=by simp[List.getD,List.getElem?_eq_getElem hk]
 have ht:=zcD Tk.isDig _ (m-k) h;rw[ht] at hv;unfold Tk.tokAt Tk.numAt;rw[hg,if_neg (by simp[hL]),if_pos hD];dsimp only;rw[hv,ht]
theorem zi1 (l:List UInt8) (k:Nat):sgn l k=0∨sgn l k=1∨sgn l k=2:=by
 unfold sgn;split
 ·
  exact .inr (.inr rfl)
 ·
  split
  ·
   exact .inr (.inl rfl)
  ·
   exact .inl rfl
theorem zd9 (l:List UInt8) (k:Nat) (hk:k<l.length) (hL:Tk.isLet l[k]=false) (hD:Tk.isDig l[k]=false):Tk.tokAt l k=Tk.signAt l k:=by
 have hg:l.getD k 0=l[k]:=by simp[List.getD,List.getElem?_eq_getElem hk]
 unfold Tk.tokAt;rw[hg,if_neg (by simp[hL]),if_neg (by simp[hD])]
theorem zgS (l:List UInt8) (k:Nat) (hs:sgn l k=2):k+2≤l.length∧Tk.signs2.contains ((l.drop k).take 2)=true:=by
 unfold sgn at hs;split at hs
 ·
  assumption
 ·
  split at hs<;>omega
theorem sgn_inv1 (l:List UInt8) (k:Nat) (hs:sgn l k=1):¬(k+2≤l.length∧Tk.signs2.contains ((l.drop k).take 2)=true)∧Tk.signs1.contains ((l.drop k).take 1)=true:=by
 unfold sgn at hs;split at hs
 ·
  omega
 ·
  split at hs
  ·
   exact⟨by assumption,by assumption⟩
  ·
   omega
theorem sgn_inv0 (l:List UInt8) (k:Nat) (hs:sgn l k=0):¬(k+2≤l.length∧Tk.signs2.contains ((l.drop k).take 2)=true)∧¬Tk.signs1.contains ((l.drop k).take 1)=true:=by
 unfold sgn at hs;split at hs
 ·
  omega
 ·
  split at hs
  ·
   omega
  ·
   exact⟨by assumption,by assumption⟩
theorem sgn_le1 (l:List UInt8) (k:Nat) (hk:k<l.length) (_hs:sgn l k=1):k+1≤l.length:=hk
theorem sgn_le2 (l:List UInt8) (k:Nat) (_hk:k<l.length) (hs:sgn l k=2):k+2≤l.length:=(zgS l k hs).1
theorem tok_char (l:List UInt8) (k:Nat) (hk:k<l.length) (hL:Tk.isLet l[k]=false) (hD:Tk.isDig l[k]=false) (hs:sgn l k=0):Tk.tokAt l k=.error 1:=by
 obtain⟨h2,h1⟩:=sgn_inv0 l k hs;rw[zd9 l k hk hL hD,Tk.signAt,if_neg h2,if_neg h1]
theorem zhP (l:List UInt8) (k:Nat) (hk:k<l.length) (hL:Tk.isLet l[k]=false) (hD:Tk.isDig l[k]=false) (hs:sgn l k=1):Tk.tokAt l k=.ok ⟨4,(l.drop k).take 1,0,k⟩:=by
 obtain⟨h2,h1⟩:=sgn_inv1 l k hs;rw[zd9 l k hk hL hD,Tk.signAt,if_neg h2,if_pos h1]
theorem zhO (l:List UInt8) (k:Nat) (hk:k<l.length) (hL:Tk.isLet l[k]=false) (hD:Tk.isDig l[k]=false) (hs:sgn l k=2):Tk.tokAt l k=.ok ⟨4,(l.drop k).take 2,0,k⟩:=by
 rw[zd9 l k hk hL hD,Tk.signAt,if_pos (zgS l k hs)]
theorem zbD {w wr W w5:World} {e size n:Nat} {v:Value} {xs:List Value} {o:Obj} (ho:wr.ownsRow w.heap.size e size v n xs) (hw:Below w.heap.size w wr) (hb:Below wr.heap.size wr W)
  (hg:(W.alloc o).grownBy w5 v.ownBlock):Below w.heap.size w w5:=by
 have h1:=hw.size;have h2:=hb.size;exact((hw.trans (hb.mono h1)).alloc (by omega) _).grown hg (by simp;omega) (fun k hk=>(zct ho k hk).1)
set_option maxRecDepth 100000 in
set_option maxHeartbeats 2000000 in
theorem zeC (l:List UInt8) (ao:Option Addr) (cap:Nat) (w:World) (hB:Byt w ao l) (hl:l.length≤262144) (hcap:l.length≤cap) :
  Calls Tryz.prog 9 #[.slice ao l.length cap] w (zeo w (Tk.lex l)):=by
 obtain⟨i0,hi,hz0,hz1,hz2⟩:=info_parts Tryz.infoTok;have HB:=zH hB;clear hB;have HR:Hid (Tk.lex l=Tk.lexGo (l.length+1) l (Tk.skipTo l 0) []):=by unfold Tk.lex;rw[if_neg (by omega)];rfl
 have hb0:decide (262144<(l.length:Int))=false:=by simp;omega
 have hk0:=Tk.skipTo_le l 0 (Nat.zero_le _);go_enter Tryz.func9,Tryz.ntmps9;go_wp2_with (first|(go_at_call 18;refine(zb1 l _ cap _ w HB.out (by omega) (by omega) (by omega)).mono ?_;rintro e w' ⟨rfl,rfl⟩));clear hb0
 go_loopw [5,6,7,8] (fun v i _ _ wr=>∃(k f:Nat) (acc:List Tk.Tok),k≤l.length∧i=.int .i64 k∧acc.length≤4000∧l.length-k<f∧wr.ownsRow w.heap.size 55 4 v acc.length (zay acc)∧Below w.heap.size w wr∧Hid (Tk.lexGo f l k acc=Tk.lex l))
  (fun _ i _ _ _=>l.length-(intOf i).toNat)
 case atStart=>exact⟨Tk.skipTo l 0,l.length+1,[],hk0,rfl,by simp,by omega,World.ownsRow_nil _ _ _ _,Below.refl _ _,HR.out.symm⟩
 case round =>
  obtain⟨k,f,acc,hk,rfl,hacc,hf,hown,hbel,hgo⟩:=hrel;clear HR hk0;obtain⟨f,rfl⟩:∃g,f=g+1:=⟨f-1,by omega⟩;obtain⟨sa,sc,rfl⟩:=zb4 hown;have HO:=zH hown;have HBE:=zH hbel;by_cases hlt:k<l.length
  ·
   have HW:=zH (HB.out.later hbel);obtain⟨b,off,rfl,hc⟩:=HW.out k hlt;have hbl:b<wr.heap.size:=World.block_lt_of_cell? _ _ hc;have t0:=bF (show ((k:Nat):Int)≠(l.length:Int) by omega);clear hown hbel;by_cases hL:Tk.isLet l[k]=true
   ·
    go_wp2_with (first|(go_at_call 19;refine(zb6 _ _).mono ?_;rintro e w' ⟨rfl,rfl⟩))
    go_loop [8] (fun i=>∃m:Nat,k≤m∧m≤l.length∧i=.int .i64 m∧Hid (m+((l.drop m).takeWhile Tk.isLD).length=k+((l.drop k).takeWhile Tk.isLD).length)) (fun i=>l.length-(intOf i).toNat)
    case atStart=>exact⟨k,by omega,by omega,rfl,rfl⟩
    case round =>
     obtain⟨m,hkm,hm,rfl,hrel⟩:=hrel;clear hc;by_cases hlt2:m<l.length
     ·
      obtain⟨b',off',hao,hc⟩:=HW.out m hlt2;injection hao with hao;injection hao with e1 e2;subst e1 e2;have hs:=zH (zdm Tk.isLD l m hlt2);by_cases hM:Tk.isLet l[m]=true
      ·
       go_wp2_with (first|(go_at_call 19;refine(zb6 _ _).mono ?_;rintro e w' ⟨rfl,rfl⟩))
       go_round
       case rel =>
        refine⟨m+1,by omega,by omega,by go_num,?_⟩;have h2:=hs.out;rw[if_pos (by simp[Tk.isLD,hM])] at h2;have h3:=hrel.out;show _=_;omega
       case measure=>simp[intOf];omega
      ·
       have hM':Tk.isLet l[m]=false:=by simpa using hM
       clear hM;by_cases hD:Tk.isDig l[m]=true
       ·
        go_wp2_with (first|(go_at_call 19;refine(zb6 _ _).mono ?_;rintro e w' ⟨rfl,rfl⟩)|(go_at_call 20;refine(zbR _ _).mono ?_;rintro e w' ⟨rfl,rfl⟩))
        go_round
        case rel =>
         refine⟨m+1,by omega,by omega,by go_num,?_⟩;have h2:=hs.out;rw[if_pos (by simp[Tk.isLD,hD])] at h2;have h3:=hrel.out;show _=_;omega
        case measure=>simp[intOf];omega
       ·
        have hD':Tk.isDig l[m]=false:=by simpa using hD
        clear hD;have hend:m-k=((l.drop k).takeWhile Tk.isLD).length:=by
         have h2:=hs.out;rw[if_neg (by simp[Tk.isLD,hM',hD'])] at h2;have h3:=hrel.out;omega
        have hpos:k<m:=by
         have h9:=zdm Tk.isLD l k hlt;rw[if_pos (by simp[Tk.isLD,hL])] at h9;omega
        have HE':=zH hend;clear hend;have hcv0:=fun cap'=>zau l b off k m cap' (wr.alloc (.cells #[.int .i64 1,.string ⟨#[]⟩,.int .i64 0,.int .i64 (k:Int)] 55)) (HW.out.later ((Below.refl _ _).alloc (lR _) _)) hkm hm;go_wp2_with fail;refine(zb6 _ _).mono ?_;rintro e w' ⟨rfl,rfl⟩;go_wp2_with fail;refine(zbR _ _).mono ?_;rintro e w' ⟨rfl,rfl⟩;go_wp2_with fail;clear hc hM' hD';clear hcv0;refine(zcd ((l.drop k).take (m-k)) _).mono ?_;rintro e w2 ⟨rfl,hb⟩;obtain⟨q0,q1,q2,q3,f0,f1,f2,f3,hz⟩:=zaX hb;have BWa:Hid (Below wr.heap.size wr w2):=((Below.refl _ _).alloc (lR _) _).trans (hb.mono (by simp));clear hb;by_cases hq:Tk.resv ((l.drop k).take (m-k))=true
        ·
         have HT:Hid (Tk.tokAt l k=.ok ⟨3,(l.drop k).take (m-k),0,k⟩):=zdS l k m hlt hL HE'.out true hq (.inl rfl);by_cases hn:acc.length=4000
         ·
          have HE:=zH (zbh f l k acc _ hlt HT.out hn);have tn:=bT (show ((acc.length:Nat):Int)=4000 by omega);clear hn;go_wp2
          go_ret3
          exact zaA (hgo.out.symm.trans HE.out) (HBE.out.trans (((BWa.out.setCell (lR _) _):Below wr.heap.size wr (w2.setCell ⟨wr.heap.size,0,none⟩ (.int .i64 3))).mono HBE.out.size))
         ·
          have HE:=zH (zbg f l k acc _ hlt HT.out hn);have tn:=bF (show ((acc.length:Nat):Int)≠4000 by omega);have hn':acc.length<4000:=by omega
          clear hn;have hcv:=fun cap'=>zau l b off k m cap' (w2.setCell ⟨wr.heap.size,0,none⟩ (.int .i64 3)) (HW.out.later (BWa.out.setCell (lR _) _)) hkm hm;go_wp2_with (first|(at_builtin;refine wpList_append_own _ rfl (.tmp 119) (.tmp 121) 31 rfl w.heap.size 55 i0 _ 4 40 Tryz.underlying31 hi hz0 hz1 hz2 rfl (by decide) _ acc.length (zay acc) rfl ((zaW HO.out (w':=((w2.setCell ⟨wr.heap.size,0,none⟩ (.int .i64 3)).setCell ⟨wr.heap.size,1,none⟩ (.string ⟨((l.drop k).take (m-k)).toArray⟩))) ((BWa.out.setCell (lR _) _).setCell (lR _) _)).alloc _) ⟨w2.heap.size,0,none⟩ 1 1 [.int .i64 ((3:Nat):Int),.string ⟨((l.drop k).take (m-k)).toArray⟩,.int .i64 ((0:Nat):Int),.int .i64 (k:Int)] rfl rfl (zbe ((w2.setCell ⟨wr.heap.size,0,none⟩ (.int .i64 3)).setCell ⟨wr.heap.size,1,none⟩ (.string ⟨((l.drop k).take (m-k)).toArray⟩)) (w2.heap.size) (by simp) _ _ _ _ _) (zbA ⟨3,((l.drop k).take (m-k)),0,k⟩) (by unfold maxLen;omega) (by omega) (by have:=HBE.out.size;have:=(((BWa.out.setCell (lR _) _).setCell (lR _) _):Below wr.heap.size wr ((w2.setCell ⟨wr.heap.size,0,none⟩ (.int .i64 3)).setCell ⟨wr.heap.size,1,none⟩ (.string ⟨((l.drop k).take (m-k)).toArray⟩))).size;simp at *;omega) ?_));intro v' w5 hown' hgrow _;have hbel5:=zbD HO.out HBE.out (W:=((w2.setCell ⟨wr.heap.size,0,none⟩ (.int .i64 3)).setCell ⟨wr.heap.size,1,none⟩ (.string ⟨((l.drop k).take (m-k)).toArray⟩))) ((BWa.out.setCell (lR _) _).setCell (lR _) _) hgrow;have HO':=zH hown';have HBE':=zH hbel5;clear hown' hgrow hbel5 hcv;go_wp2_with (first|(go_at_call 18;refine(zb1 l _ cap _ _ (HB.out.later HBE'.out) (by omega) (by omega) (by omega)).mono ?_;rintro e w' ⟨rfl,rfl⟩));have hlen:((l.drop k).take (m-k)).length=m-k:=by simp;omega
          have hkl:k+((l.drop k).take (m-k)).length=m:=by rw[hlen];omega
          go_roundw
          case rel =>
           refine⟨Tk.skipTo l m,f,acc++[⟨3,((l.drop k).take (m-k)),0,k⟩],Tk.skipTo_le l _ hm,rfl,by simp;omega,?_,?_,HBE'.out,?_⟩
           ·
            have:m≤Tk.skipTo l m:=by unfold Tk.skipTo;omega
            omega
           ·
            have:=HO'.out;rw[List.length_append,zaC];exact this
           ·
            have h1:=HE.out;rw[hkl] at h1;exact(h1.symm.trans hgo.out:_=_)
          case measure =>
           have:m≤Tk.skipTo l m:=by unfold Tk.skipTo;omega
           simp[intOf];omega
        ·
         have hq':Tk.resv ((l.drop k).take (m-k))=false:=by simpa using hq
         clear hq;by_cases h16:(m:Int)-(k:Int)≤16
         ·
          have HT:Hid (Tk.tokAt l k=.ok ⟨1,(l.drop k).take (m-k),0,k⟩):=zdS l k m hlt hL HE'.out false hq' (.inr h16);have d16:decide (16<(m:Int)-(k:Int))=false:=by simp;omega
          by_cases hn:acc.length=4000
          ·
           have HE:=zH (zbh f l k acc _ hlt HT.out hn);have tn:=bT (show ((acc.length:Nat):Int)=4000 by omega);clear hn;go_wp2
           go_ret3
           exact zaA (hgo.out.symm.trans HE.out) (HBE.out.trans ((BWa.out:Below wr.heap.size wr w2).mono HBE.out.size))
          ·
           have HE:=zH (zbg f l k acc _ hlt HT.out hn);have tn:=bF (show ((acc.length:Nat):Int)≠4000 by omega);have hn':acc.length<4000:=by omega
           clear hn;have hcv:=fun cap'=>zau l b off k m cap' w2 (HW.out.later BWa.out) hkm hm;go_wp2_with (first|(at_builtin;refine wpList_append_own _ rfl (.tmp 119) (.tmp 121) 31 rfl w.heap.size 55 i0 _ 4 40 Tryz.underlying31 hi hz0 hz1 hz2 rfl (by decide) _ acc.length (zay acc) rfl ((zaW HO.out (w':=(w2.setCell ⟨wr.heap.size,1,none⟩ (.string ⟨((l.drop k).take (m-k)).toArray⟩))) (BWa.out.setCell (lR _) _)).alloc _) ⟨w2.heap.size,0,none⟩ 1 1 [.int .i64 ((1:Nat):Int),.string ⟨((l.drop k).take (m-k)).toArray⟩,.int .i64 ((0:Nat):Int),.int .i64 (k:Int)] rfl rfl (zbe (w2.setCell ⟨wr.heap.size,1,none⟩ (.string ⟨((l.drop k).take (m-k)).toArray⟩)) (w2.heap.size) (by simp) _ _ _ _ _) (zbA ⟨1,((l.drop k).take (m-k)),0,k⟩) (by unfold maxLen;omega) (by omega) (by have:=HBE.out.size;have:=((BWa.out.setCell (lR _) _):Below wr.heap.size wr (w2.setCell ⟨wr.heap.size,1,none⟩ (.string ⟨((l.drop k).take (m-k)).toArray⟩))).size;simp at *;omega) ?_));intro v' w5 hown' hgrow _;have hbel5:=zbD HO.out HBE.out (W:=(w2.setCell ⟨wr.heap.size,1,none⟩ (.string ⟨((l.drop k).take (m-k)).toArray⟩))) (BWa.out.setCell (lR _) _) hgrow;have HO':=zH hown';have HBE':=zH hbel5;clear hown' hgrow hbel5 hcv;go_wp2_with (first|(go_at_call 18;refine(zb1 l _ cap _ _ (HB.out.later HBE'.out) (by omega) (by omega) (by omega)).mono ?_;rintro e w' ⟨rfl,rfl⟩));have hlen:((l.drop k).take (m-k)).length=m-k:=by simp;omega
           have hkl:k+((l.drop k).take (m-k)).length=m:=by rw[hlen];omega
           go_roundw
           case rel =>
            refine⟨Tk.skipTo l m,f,acc++[⟨1,((l.drop k).take (m-k)),0,k⟩],Tk.skipTo_le l _ hm,rfl,by simp;omega,?_,?_,HBE'.out,?_⟩
            ·
             have:m≤Tk.skipTo l m:=by unfold Tk.skipTo;omega
             omega
            ·
             have:=HO'.out;rw[List.length_append,zaC];exact this
            ·
             have h1:=HE.out;rw[hkl] at h1;exact(h1.symm.trans hgo.out:_=_)
           case measure =>
            have:m≤Tk.skipTo l m:=by unfold Tk.skipTo;omega
            simp[intOf];omega
         ·
          have HEE:=zH (zcu f l k 3 acc hlt (zgM l k m hlt hL HE'.out (by omega)));have d16:decide (16<(m:Int)-(k:Int))=true:=by simp;omega
          have g16:16<(m:Int)-(k:Int):=by omega
          clear h16;go_wp2
          go_ret3
          exact zaA (hgo.out.symm.trans HEE.out) (HBE.out.trans (BWa.out.mono HBE.out.size))
     ·
      have hend:m-k=((l.drop k).takeWhile Tk.isLD).length:=by
       have h3:=hrel.out;rw[zf2 Tk.isLD l m (by omega)] at h3;omega
      have hpos:k<m:=by
       have h9:=zdm Tk.isLD l k hlt;rw[if_pos (by simp[Tk.isLD,hL])] at h9;omega
      have HE':=zH hend;clear hend;have hcv0:=fun cap'=>zau l b off k m cap' (wr.alloc (.cells #[.int .i64 1,.string ⟨#[]⟩,.int .i64 0,.int .i64 (k:Int)] 55)) (HW.out.later ((Below.refl _ _).alloc (lR _) _)) hkm hm;go_wp2_with fail;clear hcv0;refine(zcd ((l.drop k).take (m-k)) _).mono ?_;rintro e w2 ⟨rfl,hb⟩;obtain⟨q0,q1,q2,q3,f0,f1,f2,f3,hz⟩:=zaX hb;have BWa:Hid (Below wr.heap.size wr w2):=((Below.refl _ _).alloc (lR _) _).trans (hb.mono (by simp));clear hb;by_cases hq:Tk.resv ((l.drop k).take (m-k))=true
      ·
       have HT:Hid (Tk.tokAt l k=.ok ⟨3,(l.drop k).take (m-k),0,k⟩):=zdS l k m hlt hL HE'.out true hq (.inl rfl);by_cases hn:acc.length=4000
       ·
        have HE:=zH (zbh f l k acc _ hlt HT.out hn);have tn:=bT (show ((acc.length:Nat):Int)=4000 by omega);clear hn;go_wp2
        go_ret3
        exact zaA (hgo.out.symm.trans HE.out) (HBE.out.trans (((BWa.out.setCell (lR _) _):Below wr.heap.size wr (w2.setCell ⟨wr.heap.size,0,none⟩ (.int .i64 3))).mono HBE.out.size))
       ·
        have HE:=zH (zbg f l k acc _ hlt HT.out hn);have tn:=bF (show ((acc.length:Nat):Int)≠4000 by omega);have hn':acc.length<4000:=by omega
        clear hn;have hcv:=fun cap'=>zau l b off k m cap' (w2.setCell ⟨wr.heap.size,0,none⟩ (.int .i64 3)) (HW.out.later (BWa.out.setCell (lR _) _)) hkm hm;go_wp2_with (first|(at_builtin;refine wpList_append_own _ rfl (.tmp 119) (.tmp 121) 31 rfl w.heap.size 55 i0 _ 4 40 Tryz.underlying31 hi hz0 hz1 hz2 rfl (by decide) _ acc.length (zay acc) rfl ((zaW HO.out (w':=((w2.setCell ⟨wr.heap.size,0,none⟩ (.int .i64 3)).setCell ⟨wr.heap.size,1,none⟩ (.string ⟨((l.drop k).take (m-k)).toArray⟩))) ((BWa.out.setCell (lR _) _).setCell (lR _) _)).alloc _) ⟨w2.heap.size,0,none⟩ 1 1 [.int .i64 ((3:Nat):Int),.string ⟨((l.drop k).take (m-k)).toArray⟩,.int .i64 ((0:Nat):Int),.int .i64 (k:Int)] rfl rfl (zbe ((w2.setCell ⟨wr.heap.size,0,none⟩ (.int .i64 3)).setCell ⟨wr.heap.size,1,none⟩ (.string ⟨((l.drop k).take (m-k)).toArray⟩)) (w2.heap.size) (by simp) _ _ _ _ _) (zbA ⟨3,((l.drop k).take (m-k)),0,k⟩) (by unfold maxLen;omega) (by omega) (by have:=HBE.out.size;have:=(((BWa.out.setCell (lR _) _).setCell (lR _) _):Below wr.heap.size wr ((w2.setCell ⟨wr.heap.size,0,none⟩ (.int .i64 3)).setCell ⟨wr.heap.size,1,none⟩ (.string ⟨((l.drop k).take (m-k)).toArray⟩))).size;simp at *;omega) ?_));intro v' w5 hown' hgrow _;have hbel5:=zbD HO.out HBE.out (W:=((w2.setCell ⟨wr.heap.size,0,none⟩ (.int .i64 3)).setCell ⟨wr.heap.size,1,none⟩ (.string ⟨((l.drop k).take (m-k)).toArray⟩))) ((BWa.out.setCell (lR _) _).setCell (lR _) _) hgrow;have HO':=zH hown';have HBE':=zH hbel5;clear hown' hgrow hbel5 hcv;go_wp2_with (first|(go_at_call 18;refine(zb1 l _ cap _ _ (HB.out.later HBE'.out) (by omega) (by omega) (by omega)).mono ?_;rintro e w' ⟨rfl,rfl⟩));have hlen:((l.drop k).take (m-k)).length=m-k:=by simp;omega
        have hkl:k+((l.drop k).take (m-k)).length=m:=by rw[hlen];omega
        go_roundw
        case rel =>
         refine⟨Tk.skipTo l m,f,acc++[⟨3,((l.drop k).take (m-k)),0,k⟩],Tk.skipTo_le l _ hm,rfl,by simp;omega,?_,?_,HBE'.out,?_⟩
         ·
          have:m≤Tk.skipTo l m:=by unfold Tk.skipTo;omega
          omega
         ·
          have:=HO'.out;rw[List.length_append,zaC];exact this
         ·
          have h1:=HE.out;rw[hkl] at h1;exact(h1.symm.trans hgo.out:_=_)
        case measure =>
         have:m≤Tk.skipTo l m:=by unfold Tk.skipTo;omega
         simp[intOf];omega
      ·
       have hq':Tk.resv ((l.drop k).take (m-k))=false:=by simpa using hq
       clear hq;by_cases h16:(m:Int)-(k:Int)≤16
       ·
        have HT:Hid (Tk.tokAt l k=.ok ⟨1,(l.drop k).take (m-k),0,k⟩):=zdS l k m hlt hL HE'.out false hq' (.inr h16);have d16:decide (16<(m:Int)-(k:Int))=false:=by simp;omega
        by_cases hn:acc.length=4000
        ·
         have HE:=zH (zbh f l k acc _ hlt HT.out hn);have tn:=bT (show ((acc.length:Nat):Int)=4000 by omega);clear hn;go_wp2
         go_ret3
         exact zaA (hgo.out.symm.trans HE.out) (HBE.out.trans ((BWa.out:Below wr.heap.size wr w2).mono HBE.out.size))
        ·
         have HE:=zH (zbg f l k acc _ hlt HT.out hn);have tn:=bF (show ((acc.length:Nat):Int)≠4000 by omega);have hn':acc.length<4000:=by omega
         clear hn;have hcv:=fun cap'=>zau l b off k m cap' w2 (HW.out.later BWa.out) hkm hm;go_wp2_with (first|(at_builtin;refine wpList_append_own _ rfl (.tmp 119) (.tmp 121) 31 rfl w.heap.size 55 i0 _ 4 40 Tryz.underlying31 hi hz0 hz1 hz2 rfl (by decide) _ acc.length (zay acc) rfl ((zaW HO.out (w':=(w2.setCell ⟨wr.heap.size,1,none⟩ (.string ⟨((l.drop k).take (m-k)).toArray⟩))) (BWa.out.setCell (lR _) _)).alloc _) ⟨w2.heap.size,0,none⟩ 1 1 [.int .i64 ((1:Nat):Int),.string ⟨((l.drop k).take (m-k)).toArray⟩,.int .i64 ((0:Nat):Int),.int .i64 (k:Int)] rfl rfl (zbe (w2.setCell ⟨wr.heap.size,1,none⟩ (.string ⟨((l.drop k).take (m-k)).toArray⟩)) (w2.heap.size) (by simp) _ _ _ _ _) (zbA ⟨1,((l.drop k).take (m-k)),0,k⟩) (by unfold maxLen;omega) (by omega) (by have:=HBE.out.size;have:=((BWa.out.setCell (lR _) _):Below wr.heap.size wr (w2.setCell ⟨wr.heap.size,1,none⟩ (.string ⟨((l.drop k).take (m-k)).toArray⟩))).size;simp at *;omega) ?_));intro v' w5 hown' hgrow _;have hbel5:=zbD HO.out HBE.out (W:=(w2.setCell ⟨wr.heap.size,1,none⟩ (.string ⟨((l.drop k).take (m-k)).toArray⟩))) (BWa.out.setCell (lR _) _) hgrow;have HO':=zH hown';have HBE':=zH hbel5;clear hown' hgrow hbel5 hcv;go_wp2_with (first|(go_at_call 18;refine(zb1 l _ cap _ _ (HB.out.later HBE'.out) (by omega) (by omega) (by omega)).mono ?_;rintro e w' ⟨rfl,rfl⟩));have hlen:((l.drop k).take (m-k)).length=m-k:=by simp;omega
         have hkl:k+((l.drop k).take (m-k)).length=m:=by rw[hlen];omega
         go_roundw
         case rel =>
          refine⟨Tk.skipTo l m,f,acc++[⟨1,((l.drop k).take (m-k)),0,k⟩],Tk.skipTo_le l _ hm,rfl,by simp;omega,?_,?_,HBE'.out,?_⟩
          ·
           have:m≤Tk.skipTo l m:=by unfold Tk.skipTo;omega
           omega
          ·
           have:=HO'.out;rw[List.length_append,zaC];exact this
          ·
           have h1:=HE.out;rw[hkl] at h1;exact(h1.symm.trans hgo.out:_=_)
         case measure =>
          have:m≤Tk.skipTo l m:=by unfold Tk.skipTo;omega
          simp[intOf];omega
       ·
        have HEE:=zH (zcu f l k 3 acc hlt (zgM l k m hlt hL HE'.out (by omega)));have d16:decide (16<(m:Int)-(k:Int))=true:=by simp;omega
        have g16:16<(m:Int)-(k:Int):=by omega
        clear h16;go_wp2
        go_ret3
        exact zaA (hgo.out.symm.trans HEE.out) (HBE.out.trans (BWa.out.mono HBE.out.size))
   ·
    have hL':Tk.isLet l[k]=false:=by simpa using hL
    clear hL;by_cases hD:Tk.isDig l[k]=true
    ·
     go_wp2_with (first|(go_at_call 19;refine(zb6 _ _).mono ?_;rintro e w' ⟨rfl,rfl⟩)|(go_at_call 20;refine(zbR _ _).mono ?_;rintro e w' ⟨rfl,rfl⟩))
     go_loop [8] (fun i=>∃m:Nat,k≤m∧m≤l.length∧i=.int .i64 m∧Hid (m+((l.drop m).takeWhile Tk.isDig).length=k+((l.drop k).takeWhile Tk.isDig).length)) (fun i=>l.length-(intOf i).toNat)
     case atStart=>exact⟨k,by omega,by omega,rfl,rfl⟩
     case round =>
      obtain⟨m,hkm,hm,rfl,hrel⟩:=hrel;clear hc;by_cases hlt2:m<l.length
      ·
       obtain⟨b',off',hao,hc⟩:=HW.out m hlt2;injection hao with hao;injection hao with e1 e2;subst e1 e2;have hs:=zH (zdm Tk.isDig l m hlt2);by_cases hM:Tk.isDig l[m]=true
       ·
        go_wp2_with (first|(go_at_call 20;refine(zbR _ _).mono ?_;rintro e w' ⟨rfl,rfl⟩))
        go_round
        case rel =>
         refine⟨m+1,by omega,by omega,by go_num,?_⟩;have h2:=hs.out;rw[if_pos hM] at h2;have h3:=hrel.out;show _=_;omega
        case measure=>simp[intOf];omega
       ·
        have hM':Tk.isDig l[m]=false:=by simpa using hM
        clear hM;have hend:m-k=((l.drop k).takeWhile Tk.isDig).length:=by
         have h2:=hs.out;rw[if_neg (by simp[hM'])] at h2;have h3:=hrel.out;omega
        have hpos:k<m:=by
         have h9:=zdm Tk.isDig l k hlt;rw[if_pos hD] at h9;omega
        have HE':=zH hend;clear hend;have hdig:∀c∈(l.drop k).take (m-k),Tk.isDig c=true:=by
         rw[zcD Tk.isDig _ (m-k) HE'.out];exact zdi Tk.isDig _
        have HDG:=zH hdig;clear hdig;go_wp2_with fail;refine(zbR _ _).mono ?_;rintro e w' ⟨rfl,rfl⟩;go_wp2_with fail;clear hc hM';refine(zfX l b off k m _ (wr.alloc _) (HW.out.later ((Below.refl _ _).alloc (lR _) _)) hkm hm HDG.out (by omega)).mono ?_;rintro e w2 ⟨rfl,rfl⟩;cases hv:Tk.numVal 0 ((l.drop k).take (m-k)) with
        | none =>
         have HEE:=zH (zcu f l k 2 acc hlt (zfv l k m hlt hL' hD HE'.out hv));clear hv;unfold zeI;go_wp2
         go_ret3
         exact zaA (hgo.out.symm.trans HEE.out) (HBE.out.alloc HBE.out.size _)
        | some n =>
         have HT:=zH (zhQ l k m n hlt hL' hD HE'.out hv);have d0:decide ((n:Int)<0)=false:=by simp
         clear hv;unfold zeI;by_cases hn:acc.length=4000
         ·
          have HE:=zH (zbh f l k acc _ hlt HT.out hn);have tn:=bT (show ((acc.length:Nat):Int)=4000 by omega);clear hn;go_wp2
          go_ret3
          exact zaA (hgo.out.symm.trans HE.out) (HBE.out.trans ((((Below.refl _ _).alloc (lR _) _):Below wr.heap.size wr (wr.alloc (.cells #[.int .i64 2,.string ⟨#[]⟩,.int .i64 (n:Int),.int .i64 (k:Int)] 55))).mono HBE.out.size))
         ·
          have HE:=zH (zbg f l k acc _ hlt HT.out hn);have tn:=bF (show ((acc.length:Nat):Int)≠4000 by omega);have hn':acc.length<4000:=by omega
          clear hn;have hcv:=fun cap'=>zau l b off k m cap' (wr.alloc (.cells #[.int .i64 2,.string ⟨#[]⟩,.int .i64 (n:Int),.int .i64 (k:Int)] 55)) (HW.out.later ((Below.refl _ _).alloc (lR _) _)) hkm hm;go_wp2_with (first|(at_builtin;refine wpList_append_own _ rfl (.tmp 119) (.tmp 121) 31 rfl w.heap.size 55 i0 _ 4 40 Tryz.underlying31 hi hz0 hz1 hz2 rfl (by decide) _ acc.length (zay acc) rfl ((zaW HO.out (w':=(wr.alloc (.cells #[.int .i64 2,.string ⟨((l.drop k).take (m-k)).toArray⟩,.int .i64 (n:Int),.int .i64 (k:Int)] 55))) ((Below.refl _ _).alloc (lR _) _)).alloc _) ⟨wr.heap.size+1,0,none⟩ 1 1 [.int .i64 ((2:Nat):Int),.string ⟨((l.drop k).take (m-k)).toArray⟩,.int .i64 ((n:Nat):Int),.int .i64 (k:Int)] rfl rfl (zbe (wr.alloc (.cells #[.int .i64 2,.string ⟨((l.drop k).take (m-k)).toArray⟩,.int .i64 (n:Int),.int .i64 (k:Int)] 55)) (wr.heap.size+1) (by simp) _ _ _ _ _) (zbA ⟨2,((l.drop k).take (m-k)),n,k⟩) (by unfold maxLen;omega) (by omega) (by have:=HBE.out.size;have:=(((Below.refl _ _).alloc (lR _) _):Below wr.heap.size wr (wr.alloc (.cells #[.int .i64 2,.string ⟨((l.drop k).take (m-k)).toArray⟩,.int .i64 (n:Int),.int .i64 (k:Int)] 55))).size;simp at *;omega) ?_));intro v' w5 hown' hgrow _;have hbel5:=zbD HO.out HBE.out (W:=(wr.alloc (.cells #[.int .i64 2,.string ⟨((l.drop k).take (m-k)).toArray⟩,.int .i64 (n:Int),.int .i64 (k:Int)] 55))) ((Below.refl _ _).alloc (lR _) _) hgrow;have HO':=zH hown';have HBE':=zH hbel5;clear hown' hgrow hbel5 hcv;go_wp2_with (first|(go_at_call 18;refine(zb1 l _ cap _ _ (HB.out.later HBE'.out) (by omega) (by omega) (by omega)).mono ?_;rintro e w' ⟨rfl,rfl⟩));have hlen:((l.drop k).take (m-k)).length=m-k:=by simp;omega
          have hkl:k+((l.drop k).take (m-k)).length=m:=by rw[hlen];omega
          go_roundw
          case rel =>
           refine⟨Tk.skipTo l (m),f,acc++[⟨2,((l.drop k).take (m-k)),n,k⟩],Tk.skipTo_le l _ hm,rfl,by simp;omega,?_,?_,HBE'.out,?_⟩
           ·
            have:m≤Tk.skipTo l (m):=by unfold Tk.skipTo;omega
            omega
           ·
            have:=HO'.out;rw[List.length_append,zaC];exact this
           ·
            have h1:=HE.out;rw[hkl] at h1;exact(h1.symm.trans hgo.out:_=_)
          case measure =>
           have:m≤Tk.skipTo l (m):=by unfold Tk.skipTo;omega
           simp[intOf];omega
      ·
       have hend:m-k=((l.drop k).takeWhile Tk.isDig).length:=by
        have h3:=hrel.out;rw[zf2 Tk.isDig l m (by omega)] at h3;omega
       have hpos:k<m:=by
        have h9:=zdm Tk.isDig l k hlt;rw[if_pos hD] at h9;omega
       have HE':=zH hend;clear hend;have hdig:∀c∈(l.drop k).take (m-k),Tk.isDig c=true:=by
        rw[zcD Tk.isDig _ (m-k) HE'.out];exact zdi Tk.isDig _
       have HDG:=zH hdig;clear hdig;go_wp2_with fail;refine(zfX l b off k m _ (wr.alloc _) (HW.out.later ((Below.refl _ _).alloc (lR _) _)) hkm hm HDG.out (by omega)).mono ?_;rintro e w2 ⟨rfl,rfl⟩;cases hv:Tk.numVal 0 ((l.drop k).take (m-k)) with
       | none =>
        have HEE:=zH (zcu f l k 2 acc hlt (zfv l k m hlt hL' hD HE'.out hv));clear hv;unfold zeI;go_wp2
        go_ret3
        exact zaA (hgo.out.symm.trans HEE.out) (HBE.out.alloc HBE.out.size _)
       | some n =>
        have HT:=zH (zhQ l k m n hlt hL' hD HE'.out hv);have d0:decide ((n:Int)<0)=false:=by simp
        clear hv;unfold zeI;by_cases hn:acc.length=4000
        ·
         have HE:=zH (zbh f l k acc _ hlt HT.out hn);have tn:=bT (show ((acc.length:Nat):Int)=4000 by omega);clear hn;go_wp2
         go_ret3
         exact zaA (hgo.out.symm.trans HE.out) (HBE.out.trans ((((Below.refl _ _).alloc (lR _) _):Below wr.heap.size wr (wr.alloc (.cells #[.int .i64 2,.string ⟨#[]⟩,.int .i64 (n:Int),.int .i64 (k:Int)] 55))).mono HBE.out.size))
        ·
         have HE:=zH (zbg f l k acc _ hlt HT.out hn);have tn:=bF (show ((acc.length:Nat):Int)≠4000 by omega);have hn':acc.length<4000:=by omega
         clear hn;have hcv:=fun cap'=>zau l b off k m cap' (wr.alloc (.cells #[.int .i64 2,.string ⟨#[]⟩,.int .i64 (n:Int),.int .i64 (k:Int)] 55)) (HW.out.later ((Below.refl _ _).alloc (lR _) _)) hkm hm;go_wp2_with (first|(at_builtin;refine wpList_append_own _ rfl (.tmp 119) (.tmp 121) 31 rfl w.heap.size 55 i0 _ 4 40 Tryz.underlying31 hi hz0 hz1 hz2 rfl (by decide) _ acc.length (zay acc) rfl ((zaW HO.out (w':=(wr.alloc (.cells #[.int .i64 2,.string ⟨((l.drop k).take (m-k)).toArray⟩,.int .i64 (n:Int),.int .i64 (k:Int)] 55))) ((Below.refl _ _).alloc (lR _) _)).alloc _) ⟨wr.heap.size+1,0,none⟩ 1 1 [.int .i64 ((2:Nat):Int),.string ⟨((l.drop k).take (m-k)).toArray⟩,.int .i64 ((n:Nat):Int),.int .i64 (k:Int)] rfl rfl (zbe (wr.alloc (.cells #[.int .i64 2,.string ⟨((l.drop k).take (m-k)).toArray⟩,.int .i64 (n:Int),.int .i64 (k:Int)] 55)) (wr.heap.size+1) (by simp) _ _ _ _ _) (zbA ⟨2,((l.drop k).take (m-k)),n,k⟩) (by unfold maxLen;omega) (by omega) (by have:=HBE.out.size;have:=(((Below.refl _ _).alloc (lR _) _):Below wr.heap.size wr (wr.alloc (.cells #[.int .i64 2,.string ⟨((l.drop k).take (m-k)).toArray⟩,.int .i64 (n:Int),.int .i64 (k:Int)] 55))).size;simp at *;omega) ?_));intro v' w5 hown' hgrow _;have hbel5:=zbD HO.out HBE.out (W:=(wr.alloc (.cells #[.int .i64 2,.string ⟨((l.drop k).take (m-k)).toArray⟩,.int .i64 (n:Int),.int .i64 (k:Int)] 55))) ((Below.refl _ _).alloc (lR _) _) hgrow;have HO':=zH hown';have HBE':=zH hbel5;clear hown' hgrow hbel5 hcv;go_wp2_with (first|(go_at_call 18;refine(zb1 l _ cap _ _ (HB.out.later HBE'.out) (by omega) (by omega) (by omega)).mono ?_;rintro e w' ⟨rfl,rfl⟩));have hlen:((l.drop k).take (m-k)).length=m-k:=by simp;omega
         have hkl:k+((l.drop k).take (m-k)).length=m:=by rw[hlen];omega
         go_roundw
         case rel =>
          refine⟨Tk.skipTo l (m),f,acc++[⟨2,((l.drop k).take (m-k)),n,k⟩],Tk.skipTo_le l _ hm,rfl,by simp;omega,?_,?_,HBE'.out,?_⟩
          ·
           have:m≤Tk.skipTo l (m):=by unfold Tk.skipTo;omega
           omega
          ·
           have:=HO'.out;rw[List.length_append,zaC];exact this
          ·
           have h1:=HE.out;rw[hkl] at h1;exact(h1.symm.trans hgo.out:_=_)
         case measure =>
          have:m≤Tk.skipTo l (m):=by unfold Tk.skipTo;omega
          simp[intOf];omega
    ·
     have hD':Tk.isDig l[k]=false:=by simpa using hD
     clear hD;go_wp2_with fail;refine(zb6 _ _).mono ?_;rintro e w' ⟨rfl,rfl⟩;go_wp2_with fail;refine(zbR _ _).mono ?_;rintro e w' ⟨rfl,rfl⟩;go_wp2_with fail;refine(sign_any l _ cap k (wr.alloc _) (HW.out.later ((Below.refl _ _).alloc (lR _) _)) hlt (by omega) hcap).mono ?_;rintro e w2 ⟨rfl,hb⟩;obtain⟨q0,q1,q2,q3,f0,f1,f2,f3,hz⟩:=zaX hb;have BWa:Hid (Below wr.heap.size wr w2):=((Below.refl _ _).alloc (lR _) _).trans (hb.mono (by simp));clear hb hc;rcases zi1 l k with hs|hs|hs
     ·
      have HEE:=zH (zcu f l k 1 acc hlt (tok_char l k hlt hL' hD' hs));rw[hs];have te:=bT (show ((k:Nat):Int)+((0:Nat):Int)=(k:Int) by omega);clear hs;go_wp2
      go_ret3
      exact zaA (hgo.out.symm.trans HEE.out) (HBE.out.trans ((BWa.out.setCell (lR _) _).mono HBE.out.size))
     ·
      have HS:=zH hs;clear hs;have HT:=zH (zhP l k hlt hL' hD' HS.out);have hm:k+1≤l.length:=sgn_le1 l k hlt HS.out;have es:k+1-k=1:=by omega
      rw[HS.out];have te:=bF (show ((k:Nat):Int)+((1:Nat):Int)≠(k:Int) by omega);by_cases hn:acc.length=4000
      ·
       have HE:=zH (zbh f l k acc _ hlt HT.out hn);have tn:=bT (show ((acc.length:Nat):Int)=4000 by omega);clear hn;go_wp2
       go_ret3
       exact zaA (hgo.out.symm.trans HE.out) (HBE.out.trans (((BWa.out.setCell (lR _) _):Below wr.heap.size wr (w2.setCell ⟨wr.heap.size,0,none⟩ (.int .i64 4))).mono HBE.out.size))
      ·
       have HE:=zH (zbg f l k acc _ hlt HT.out hn);have tn:=bF (show ((acc.length:Nat):Int)≠4000 by omega);have hn':acc.length<4000:=by omega
       clear hn;have hcv:=fun cap'=>zau l b off k (k+1) cap' (w2.setCell ⟨wr.heap.size,0,none⟩ (.int .i64 4)) (HW.out.later (BWa.out.setCell (lR _) _)) (by omega) hm;rw[es] at hcv;go_wp2_with (first|(at_builtin;refine wpList_append_own _ rfl (.tmp 119) (.tmp 121) 31 rfl w.heap.size 55 i0 _ 4 40 Tryz.underlying31 hi hz0 hz1 hz2 rfl (by decide) _ acc.length (zay acc) rfl ((zaW HO.out (w':=((w2.setCell ⟨wr.heap.size,0,none⟩ (.int .i64 4)).setCell ⟨wr.heap.size,1,none⟩ (.string ⟨((l.drop k).take 1).toArray⟩))) ((BWa.out.setCell (lR _) _).setCell (lR _) _)).alloc _) ⟨w2.heap.size,0,none⟩ 1 1 [.int .i64 ((4:Nat):Int),.string ⟨((l.drop k).take 1).toArray⟩,.int .i64 ((0:Nat):Int),.int .i64 (k:Int)] rfl rfl (zbe ((w2.setCell ⟨wr.heap.size,0,none⟩ (.int .i64 4)).setCell ⟨wr.heap.size,1,none⟩ (.string ⟨((l.drop k).take 1).toArray⟩)) (w2.heap.size) (by simp) _ _ _ _ _) (zbA ⟨4,((l.drop k).take 1),0,k⟩) (by unfold maxLen;omega) (by omega) (by have:=HBE.out.size;have:=(((BWa.out.setCell (lR _) _).setCell (lR _) _):Below wr.heap.size wr ((w2.setCell ⟨wr.heap.size,0,none⟩ (.int .i64 4)).setCell ⟨wr.heap.size,1,none⟩ (.string ⟨((l.drop k).take 1).toArray⟩))).size;simp at *;omega) ?_));intro v' w5 hown' hgrow _;have hbel5:=zbD HO.out HBE.out (W:=((w2.setCell ⟨wr.heap.size,0,none⟩ (.int .i64 4)).setCell ⟨wr.heap.size,1,none⟩ (.string ⟨((l.drop k).take 1).toArray⟩))) ((BWa.out.setCell (lR _) _).setCell (lR _) _) hgrow;have HO':=zH hown';have HBE':=zH hbel5;clear hown' hgrow hbel5 hcv;go_wp2_with (first|(go_at_call 18;refine(zb1 l _ cap _ _ (HB.out.later HBE'.out) (by omega) (by omega) (by omega)).mono ?_;rintro e w' ⟨rfl,rfl⟩));have hlen:((l.drop k).take 1).length=k+1-k:=by simp;omega
       have hkl:k+((l.drop k).take 1).length=k+1:=by rw[hlen];omega
       go_roundw
       case rel =>
        refine⟨Tk.skipTo l (k+1),f,acc++[⟨4,((l.drop k).take 1),0,k⟩],Tk.skipTo_le l _ hm,rfl,by simp;omega,?_,?_,HBE'.out,?_⟩
        ·
         have:k+1≤Tk.skipTo l (k+1):=by unfold Tk.skipTo;omega
         omega
        ·
         have:=HO'.out;rw[List.length_append,zaC];exact this
        ·
         have h1:=HE.out;rw[hkl] at h1;exact(h1.symm.trans hgo.out:_=_)
       case measure =>
        have:k+1≤Tk.skipTo l (k+1):=by unfold Tk.skipTo;omega
        simp[intOf];omega
     ·
      have HS:=zH hs;clear hs;have HT:=zH (zhO l k hlt hL' hD' HS.out);have hm:k+2≤l.length:=sgn_le2 l k hlt HS.out;have es:k+2-k=2:=by omega
      rw[HS.out];have te:=bF (show ((k:Nat):Int)+((2:Nat):Int)≠(k:Int) by omega);by_cases hn:acc.length=4000
      ·
       have HE:=zH (zbh f l k acc _ hlt HT.out hn);have tn:=bT (show ((acc.length:Nat):Int)=4000 by omega);clear hn;go_wp2
       go_ret3
       exact zaA (hgo.out.symm.trans HE.out) (HBE.out.trans (((BWa.out.setCell (lR _) _):Below wr.heap.size wr (w2.setCell ⟨wr.heap.size,0,none⟩ (.int .i64 4))).mono HBE.out.size))
      ·
       have HE:=zH (zbg f l k acc _ hlt HT.out hn);have tn:=bF (show ((acc.length:Nat):Int)≠4000 by omega);have hn':acc.length<4000:=by omega
       clear hn;have hcv:=fun cap'=>zau l b off k (k+2) cap' (w2.setCell ⟨wr.heap.size,0,none⟩ (.int .i64 4)) (HW.out.later (BWa.out.setCell (lR _) _)) (by omega) hm;rw[es] at hcv;go_wp2_with (first|(at_builtin;refine wpList_append_own _ rfl (.tmp 119) (.tmp 121) 31 rfl w.heap.size 55 i0 _ 4 40 Tryz.underlying31 hi hz0 hz1 hz2 rfl (by decide) _ acc.length (zay acc) rfl ((zaW HO.out (w':=((w2.setCell ⟨wr.heap.size,0,none⟩ (.int .i64 4)).setCell ⟨wr.heap.size,1,none⟩ (.string ⟨((l.drop k).take 2).toArray⟩))) ((BWa.out.setCell (lR _) _).setCell (lR _) _)).alloc _) ⟨w2.heap.size,0,none⟩ 1 1 [.int .i64 ((4:Nat):Int),.string ⟨((l.drop k).take 2).toArray⟩,.int .i64 ((0:Nat):Int),.int .i64 (k:Int)] rfl rfl (zbe ((w2.setCell ⟨wr.heap.size,0,none⟩ (.int .i64 4)).setCell ⟨wr.heap.size,1,none⟩ (.string ⟨((l.drop k).take 2).toArray⟩)) (w2.heap.size) (by simp) _ _ _ _ _) (zbA ⟨4,((l.drop k).take 2),0,k⟩) (by unfold maxLen;omega) (by omega) (by have:=HBE.out.size;have:=(((BWa.out.setCell (lR _) _).setCell (lR _) _):Below wr.heap.size wr ((w2.setCell ⟨wr.heap.size,0,none⟩ (.int .i64 4)).setCell ⟨wr.heap.size,1,none⟩ (.string ⟨((l.drop k).take 2).toArray⟩))).size;simp at *;omega) ?_));intro v' w5 hown' hgrow _;have hbel5:=zbD HO.out HBE.out (W:=((w2.setCell ⟨wr.heap.size,0,none⟩ (.int .i64 4)).setCell ⟨wr.heap.size,1,none⟩ (.string ⟨((l.drop k).take 2).toArray⟩))) ((BWa.out.setCell (lR _) _).setCell (lR _) _) hgrow;have HO':=zH hown';have HBE':=zH hbel5;clear hown' hgrow hbel5 hcv;go_wp2_with (first|(go_at_call 18;refine(zb1 l _ cap _ _ (HB.out.later HBE'.out) (by omega) (by omega) (by omega)).mono ?_;rintro e w' ⟨rfl,rfl⟩));have hlen:((l.drop k).take 2).length=k+2-k:=by simp;omega
       have hkl:k+((l.drop k).take 2).length=k+2:=by rw[hlen];omega
       go_roundw
       case rel =>
        refine⟨Tk.skipTo l (k+2),f,acc++[⟨4,((l.drop k).take 2),0,k⟩],Tk.skipTo_le l _ hm,rfl,by simp;omega,?_,?_,HBE'.out,?_⟩
        ·
         have:k+2≤Tk.skipTo l (k+2):=by unfold Tk.skipTo;omega
         omega
        ·
         have:=HO'.out;rw[List.length_append,zaC];exact this
        ·
         have h1:=HE.out;rw[hkl] at h1;exact(h1.symm.trans hgo.out:_=_)
       case measure =>
        have:k+2≤Tk.skipTo l (k+2):=by unfold Tk.skipTo;omega
        rw[show ((k:Int)+2).toNat=k+2 by omega];simp[intOf];omega
  ·
   have hke:k=l.length:=by omega
   have t0:=bT (show ((k:Nat):Int)=(l.length:Int) by omega);have HE:=zH (zg1 f l k acc (by omega));have HKE:=zH hke;clear hown hbel hke;go_wp2_with (first|(at_builtin;refine wpList_append_own _ rfl (.tmp 21) (.tmp 24) 31 rfl w.heap.size 55 i0 _ 4 40 Tryz.underlying31 hi hz0 hz1 hz2 rfl (by decide) _ acc.length (zay acc) rfl (HO.out.alloc _) ⟨wr.heap.size,0,none⟩ 1 1 [.int .i64 5,.string ⟨#[]⟩,.int .i64 0,.int .i64 (k:Int)] rfl rfl (zbe wr wr.heap.size rfl _ _ _ _ _) (zbA ⟨5,[],0,k⟩) (by unfold maxLen;omega) (by omega) (by have:=HBE.out.size;simp;omega) ?_));intro v' w5 hown' hgrow _;have hbel5:=zbD HO.out HBE.out (Below.refl _ _) hgrow;have HO':=zH hown';have HBE':=zH hbel5;clear hown' hgrow hbel5;go_wp2
   go_ret3
   have hR:=hgo.out.symm.trans HE.out;rw[hR];have hke:=HKE.out;subst hke;refine⟨v',rfl,?_,HBE'.out⟩
   have:=HO'.out;rw[show (acc++[(⟨5,[],0,l.length⟩:Tk.Tok)]).length=acc.length+1 by simp,zaC];exact this
end Go.Proofs.YtlnbmmgbfgmboaaGreatDoor
