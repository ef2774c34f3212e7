import Derived.Test.YtlnbmmgbfgmboaaGreatDoorQa
import Derived.Test.YtlnbmmgbfgmboaaGreatDoorQ1
namespace Go.Proofs.YtlnbmmgbfgmboaaGreatDoor
open Go.RowKit
theorem Src.keep {w w':World} {g:Nat} {xs:List Int} {i:Nat} (h:Src w g xs i) (hk:∀b,b≤g→w'.heap[b]?=w.heap[b]?):Src w' g xs i:=by
 obtain⟨A,c,hb,hi,hx,hc⟩:=h;refine⟨A,c,(hk g (lR _)).trans hb,hi,hx,fun k hkk=>?_⟩;obtain⟨b,off,e,hbg,hcc,r⟩:=hc k hkk;exact⟨b,off,e,hbg,(World.cell?_of_block (hk b (by omega))).trans hcc,r⟩
theorem Src.lt {w:World} {g:Nat} {xs:List Int} {i:Nat} (h:Src w g xs i):g<w.heap.size:=by
 obtain⟨A,c,hb,_⟩:=h;exact lt_of_block hb
theorem Src.alloc {w:World} {g:Nat} {xs:List Int} {i:Nat} (h:Src w g xs i) (o:Obj):Src (w.alloc o) g xs i :=
 h.keep fun b hb=>Below.heap_alloc w o b (by have:=h.lt;omega)
theorem StrN.alloc {w:World} {g:Nat} {A:Option Addr} {xs:List (List UInt8)} (h:StrN w g A xs) (o:Obj):StrN (w.alloc o) g A xs:=by
 intro i hi;obtain⟨b,off,e,hb,hc⟩:=h i hi;exact⟨b,off,e,hb,(World.cell?_alloc_lt w o _ (World.block_lt_of_cell? _ _ hc)).trans hc⟩
theorem zaF {w w2:World} {g:Nat} {c0 c1 c2 c3:Value} {t:TypeId} (hlt:g<w.heap.size) (hb:(w.alloc (.cells #[c0,c1,c2,c3] t)).grownBy w2 (some g)) :
  w2.cell? ⟨w.heap.size,0,none⟩=some c0∧w2.cell? ⟨w.heap.size,1,none⟩=some c1∧w2.cell? ⟨w.heap.size,2,none⟩=some c2∧w2.cell? ⟨w.heap.size,3,none⟩=some c3 ∧
  w2.frozen? ⟨w.heap.size,0,none⟩=false∧w2.frozen? ⟨w.heap.size,1,none⟩=false∧w2.frozen? ⟨w.heap.size,2,none⟩=false∧w2.frozen? ⟨w.heap.size,3,none⟩=false∧w.heap.size<w2.heap.size:=by
 have hs:w.heap.size<(w.alloc (.cells #[c0,c1,c2,c3] t)).heap.size:=by simp
 have hk:=hb.block w.heap.size hs (fun e=>by injection e with e;omega);have e1:∀o,w2.cell? ⟨w.heap.size,o,none⟩=(w.alloc (.cells #[c0,c1,c2,c3] t)).cell? ⟨w.heap.size,o,none⟩:=fun o=>World.cell?_of_block hk;have e2:∀o,w2.frozen? ⟨w.heap.size,o,none⟩=(w.alloc (.cells #[c0,c1,c2,c3] t)).frozen? ⟨w.heap.size,o,none⟩:=fun o=>World.frozen?_of_block hk;refine⟨?_,?_,?_,?_,?_,?_,?_,?_,Nat.lt_of_lt_of_le hs hb.size⟩
 ·
  rw[e1,World.cell?_alloc_mark];rfl
 ·
  rw[e1,World.cell?_alloc_mark];rfl
 ·
  rw[e1,World.cell?_alloc_mark];rfl
 ·
  rw[e1,World.cell?_alloc_mark];rfl
 ·
  rw[e2,World.frozen?_alloc_mark];rfl
 ·
  rw[e2,World.frozen?_alloc_mark];rfl
 ·
  rw[e2,World.frozen?_alloc_mark];rfl
 ·
  rw[e2,World.frozen?_alloc_mark];rfl
def set4 (w:World) (r:Nat) (u0 u1 u2 u3:Value):World:=(((w.setCell ⟨r,0,none⟩ u0).setCell ⟨r,1,none⟩ u1).setCell ⟨r,2,none⟩ u2).setCell ⟨r,3,none⟩ u3
theorem zaj (w:World) (r:Nat) (u0 u1 u2 u3:Value):(set4 w r u0 u1 u2 u3).heap.size=w.heap.size:=by
 unfold set4;simp[World.setCell]
theorem zai (w:World) (r:Nat) (u0 u1 u2 u3:Value) (b:Nat) (hb:b≠r):(set4 w r u0 u1 u2 u3).heap[b]?=w.heap[b]?:=by
 unfold set4;rw[Below.heap_setCell _ _ _ b hb,Below.heap_setCell _ _ _ b hb,Below.heap_setCell _ _ _ b hb,Below.heap_setCell _ _ _ b hb]
theorem zaO (w:World) (r:Nat) (u0 u1 u2 u3:Value) (o:Obj) (b:Nat) (hb:b≠r) (hlt:b<w.heap.size):((set4 w r u0 u1 u2 u3).alloc o).heap[b]?=w.heap[b]?:=by
 rw[Below.heap_alloc _ o b (by rw[zaj];exact hlt),zai w r u0 u1 u2 u3 b hb]
theorem zfi (w:World) (r:Nat) (u0 u1 u2 u3:Value) (l:List Value) (t:TypeId) (o:Nat) (f:EF) (h:l[o]?=some (.int .i64 f.op)∧l[o+1]?=some (.int .i64 f.num)∧l[o+2]?=some (.string ⟨f.name.toArray⟩)∧l[o+3]?=some (.slice f.A f.n f.c)) :
  EFat ((set4 w r u0 u1 u2 u3).alloc (.cells l.toArray t)) w.heap.size o f:=by
 have hs:=zaj w r u0 u1 u2 u3;have e:∀o',((set4 w r u0 u1 u2 u3).alloc (.cells l.toArray t)).cell? ⟨w.heap.size,o',none⟩=l[o']?:=by
  intro o';rw[←hs,World.cell?_alloc_mark];simp
 exact⟨(e _).trans h.1,(e _).trans h.2.1,(e _).trans h.2.2.1,(e _).trans h.2.2.2⟩
theorem zhX {w:World} {g r:Nat} {xs:List Int} {i:Nat} (h:Src w g xs i) (hr:g<r) (u0 u1 u2 u3:Value) (o:Obj):Src ((set4 w r u0 u1 u2 u3).alloc o) g xs i :=
 h.keep fun b hb=>zaO w r u0 u1 u2 u3 o b (by omega) (by have:=h.lt;omega)
theorem zg6 {w w2:World} {g r:Nat} (h:w.grownBy w2 (some g)) (hr:w.heap.size≤r) (u0 u1 u2 u3:Value) (o:Obj):w.grownBy ((set4 w2 r u0 u1 u2 u3).alloc o) (some g) :=
 ⟨h.os,h.tape,h.output,by have:=h.size;have:=zaj w2 r u0 u1 u2 u3;simp;omega,fun i hi hne=>(zaO w2 r u0 u1 u2 u3 o i (by omega) (by have:=h.size;omega)).trans (h.block i hi hne)⟩
theorem zgI {w2:World} {n0 n1 r:Nat} {E:Ex} {f:EF} (h:ExM w2 (n1≤·) E f) (h0:n0≤n1) (hr:r<n1) (u0 u1 u2 u3:Value) (o:Obj):ExM ((set4 w2 r u0 u1 u2 u3).alloc o) (n0≤·) E f :=
 (h.keep fun b hb hlt=>zaO w2 r u0 u1 u2 u3 o b (by omega) hlt).more fun b hb=>Nat.le_trans h0 hb
theorem zeN (names:List (List UInt8)) (xs:List Int) (d i:Nat) (h:zad xs i 10<2):exprG names xs (d+1) i=exprG.leafG names xs (zaf xs i):=by
 rw[exprG];dsimp only;rw[if_pos h]
theorem zh8 (names:List (List UInt8)) (xs:List Int) (d i:Nat) (h2:¬zad xs i 10<2) (h4:zad xs i 10<4):exprG names xs (d+1) i=(.mk (3+(zad xs i 10 % 2:Nat)) 0 [] [(exprG names xs d (zaf xs i)).1],(exprG names xs d (zaf xs i)).2):=by
 rw[exprG];dsimp only;rw[if_neg h2,if_pos h4]
theorem zg7 (names:List (List UInt8)) (xs:List Int) (d i:Nat) (h2:¬zad xs i 10<2) (h4:¬zad xs i 10<4):exprG names xs (d+1) i =
  (.mk (5+(zad xs (zaf xs i) 13:Nat)) 0 [] [(exprG names xs d (zaf xs (zaf xs i))).1,(exprG names xs d (exprG names xs d (zaf xs (zaf xs i))).2).1],(exprG names xs d (exprG names xs d (zaf xs (zaf xs i))).2).2):=by
 rw[exprG];dsimp only;rw[if_neg h2,if_neg h4]
def zhf (w:World) (g:Nat) (xs:List Int) (R:Ex × Nat) (e:Ending) (w':World):Prop :=
 ∃f:EF,e=.returned f.val∧ExM w' (w.heap.size≤·) R.1 f∧Src w' g xs R.2∧w.grownBy w' (some g)
theorem za6 {w w':World} {o:Obj} {r:Option Nat} (h:(w.alloc o).grownBy w' r):w.grownBy w' r :=
 ⟨h.os,h.tape,h.output,Nat.le_trans (by simp) h.size,fun i hi hr=>(h.block i (by simp;omega) hr).trans (Below.heap_alloc w o i hi)⟩
theorem zaD {w w':World} {r:Option Nat} (h:w.grownBy w' r) {p:Addr} (hp:w.heap.size≤p.block) (u:Value):w.grownBy (w'.setCell p u) r :=
 ⟨h.os,h.tape,h.output,by simpa[World.setCell] using h.size,fun i hi hr=>(Below.heap_setCell w' p u i (by omega)).trans (h.block i hi hr)⟩
theorem Src.set {w:World} {g:Nat} {xs:List Int} {i:Nat} (h:Src w g xs i) {p:Addr} (hp:g<p.block) (u:Value):Src (w.setCell p u) g xs i :=
 h.keep fun b hb=>Below.heap_setCell w p u b (by omega)
set_option maxRecDepth 100000 in
set_option maxHeartbeats 4000000 in
theorem ze2 (names:List (List UInt8)) (xs:List Int) (g:Nat) (A:Option Addr) (cap:Nat) (hnl:names.length≤1000000) (deep:Nat):∀(i:Nat) (w:World),deep≤1000→Src w g xs i→StrN w g A names →
  Calls Tryz.prog 85 #[.pointer (some ⟨g,0,none⟩),.slice A names.length cap,.int .i64 (deep:Int)] w (zhf w g xs (exprG names xs deep i)):=by
 induction deep with
 | zero =>
  intro i w _ hS hN;have hgw:=hS.lt;have HS0:=zH (hS.alloc (.cells #[.int .i64 0,.int .i64 0,.string ⟨#[]⟩,.slice none 0 0] 68));have HN0:=zH (hN.alloc (.cells #[.int .i64 0,.int .i64 0,.string ⟨#[]⟩,.slice none 0 0] 68));clear hS hN;go_enter Tryz.func85,Tryz.ntmps85;go_wp2_with fail;refine(zaq _ g xs _ 10 HS0.out (by omega) (by omega)).mono ?_;rintro e w1 ⟨rfl,hS,hG⟩;rw[show (10:Int).toNat=10 from rfl];have HSw1:=zH hS;have HGw1:=zH (hG);clear hS hG;have HRL:Hid (exprG names xs 0 i=exprG.leafG names xs (zaf xs i)):=by unfold exprG;rfl
  by_cases hn0:0<names.length
  ·
   have d0:decide ((0:Int)<(names.length:Int))=true:=by simp;omega
   go_wp2_with fail;refine(zaq _ g xs _ 2 HSw1.out (by omega) (by omega)).mono ?_;rintro e w2 ⟨rfl,hS,hG⟩;rw[show (2:Int).toNat=2 from rfl];have HSw2:=zH hS;have HGw2:=zH (za0 HGw1.out hG);clear hS hG;have HNw2:=zH (HN0.out.grown HGw2.out);by_cases h2:zad xs (zaf xs i) 2=1
   ·
    have t1:=bT (show ((zad xs (zaf xs i) 2:Nat):Int)=1 by omega);have HR:Hid (exprG names xs 0 i=(.mk 2 0 (names.getD (zad xs (zaf xs (zaf xs i)) names.length) []) [],zaf xs (zaf xs (zaf xs i)))):=by
     rw[HRL.out];unfold exprG.leafG;rw[if_pos ⟨hn0,h2⟩];rfl
    clear h2;go_wp2_with fail;refine(zaq _ g xs _ names.length HSw2.out (by omega) (by omega)).mono ?_;rintro e w3 ⟨rfl,hS,hG⟩;rw[Int.toNat_natCast];have HSw3:=zH hS;have HGw3:=zH (za0 HGw2.out hG);clear hS hG;have hr:=zav xs (zaf xs (zaf xs i)) names.length hn0;obtain⟨b,off,hA,hbg,hcc⟩:=(HN0.out.grown HGw3.out) _ hr;subst hA;have hgd:names.getD (zad xs (zaf xs (zaf xs i)) names.length) []=names[zad xs (zaf xs (zaf xs i)) names.length]:=by simp[List.getD,List.getElem?_eq_getElem hr]
    rw[hgd] at HR;clear hgd;generalize names[zad xs (zaf xs (zaf xs i)) names.length]=nm at *;generalize zad xs (zaf xs (zaf xs i)) names.length=r at *;obtain⟨q0,q1,q2,q3,f0,f1,f2,f3,hz⟩:=zaF hgw HGw3.out;go_wp2_with fail;refine bodyPost_ret (v:=.agg #[.int .i64 2,.int .i64 0,.string ⟨nm.toArray⟩,.slice none 0 0]) (by simp[results,Tryz.results85,go_sem,q0,q1,q2,q3]) rfl ⟨⟨2,0,nm,none,0,0⟩,rfl,?_,?_,?_⟩
    ·
     rw[HR.out];exact ExM.leaf _ _ _ _ _ _ _
    ·
     rw[HR.out]
     (repeat (with_reducible refine Src.set ?_ hgw _));exact HSw3.out
    ·
     (repeat (with_reducible refine zaD ?_ (lR _) _));exact za6 HGw3.out
   ·
    have t1:=bF (show ((zad xs (zaf xs i) 2:Nat):Int)≠1 by omega);have HR:Hid (exprG names xs 0 i=(.mk 1 ((numG xs (zaf xs (zaf xs i))).1:Int) [] [],(numG xs (zaf xs (zaf xs i))).2)):=by
     rw[HRL.out];unfold exprG.leafG;rw[if_neg (fun h=>h2 h.2),if_pos hn0];rfl
    clear h2;go_wp2_with fail;refine(zcZ _ g xs _ HSw2.out).mono ?_;rintro e w9 ⟨rfl,hS,hG⟩;have HSw9:=zH hS;have HGw9:=zH (za0 HGw2.out hG);clear hS hG;obtain⟨q0,q1,q2,q3,f0,f1,f2,f3,hz⟩:=zaF hgw HGw9.out;go_wp2_with fail;refine bodyPost_ret (v:=.agg #[.int .i64 1,.int .i64 ((numG xs (zaf xs (zaf xs i))).1:Int),.string ⟨#[]⟩,.slice none 0 0]) (by simp[results,Tryz.results85,go_sem,q0,q1,q2,q3]) rfl ⟨⟨1,((numG xs (zaf xs (zaf xs i))).1:Int),[],none,0,0⟩,rfl,?_,?_,?_⟩
    ·
     rw[HR.out];exact ExM.leaf _ _ _ _ _ _ _
    ·
     rw[HR.out]
     (repeat (with_reducible refine Src.set ?_ hgw _));exact HSw9.out
    ·
     (repeat (with_reducible refine zaD ?_ (lR _) _));exact za6 HGw9.out
  ·
   have d0:decide ((0:Int)<(names.length:Int))=false:=decide_eq_false (by omega);have HR:Hid (exprG names xs 0 i=(.mk 1 ((numG xs (zaf xs i)).1:Int) [] [],(numG xs (zaf xs i)).2)):=by
    rw[HRL.out];unfold exprG.leafG;rw[if_neg (fun h=>hn0 h.1),if_neg hn0];rfl
   go_wp2_with fail;refine(zcZ _ g xs _ HSw1.out).mono ?_;rintro e w9 ⟨rfl,hS,hG⟩;have HSw9:=zH hS;have HGw9:=zH (za0 HGw1.out hG);clear hS hG;obtain⟨q0,q1,q2,q3,f0,f1,f2,f3,hz⟩:=zaF hgw HGw9.out;go_wp2_with fail;refine bodyPost_ret (v:=.agg #[.int .i64 1,.int .i64 ((numG xs (zaf xs i)).1:Int),.string ⟨#[]⟩,.slice none 0 0]) (by simp[results,Tryz.results85,go_sem,q0,q1,q2,q3]) rfl ⟨⟨1,((numG xs (zaf xs i)).1:Int),[],none,0,0⟩,rfl,?_,?_,?_⟩
   ·
    rw[HR.out];exact ExM.leaf _ _ _ _ _ _ _
   ·
    rw[HR.out]
    (repeat (with_reducible refine Src.set ?_ hgw _));exact HSw9.out
   ·
    (repeat (with_reducible refine zaD ?_ (lR _) _));exact za6 HGw9.out
 | succ d ih =>
  intro i w hd hS hN;have IH:=zH ih;clear ih;have hgw:=hS.lt;have HS0:=zH (hS.alloc (.cells #[.int .i64 0,.int .i64 0,.string ⟨#[]⟩,.slice none 0 0] 68));have HN0:=zH (hN.alloc (.cells #[.int .i64 0,.int .i64 0,.string ⟨#[]⟩,.slice none 0 0] 68));clear hS hN;have tD:=bF (show (((d+1:Nat):Int))≠0 by omega);have tE:=bF (show ((d:Int)+1)≠0 by omega);go_enter Tryz.func85,Tryz.ntmps85;go_wp2_with fail;refine(zaq _ g xs _ 10 HS0.out (by omega) (by omega)).mono ?_;rintro e w1 ⟨rfl,hS,hG⟩;rw[show (10:Int).toNat=10 from rfl];have HSw1:=zH hS;have HGw1:=zH hG;clear hS hG;have hkk:=zav xs i 10 (by omega);by_cases hk2:zad xs i 10<2
  ·
   have dk:decide (((zad xs i 10:Nat):Int)<2)=true:=by simp;omega
   have HRL:Hid (exprG names xs (d+1) i=exprG.leafG names xs (zaf xs i)):=zeN names xs d i hk2;by_cases hn0:0<names.length
   ·
    have d0:decide ((0:Int)<(names.length:Int))=true:=by simp;omega
    go_wp2_with fail;refine(zaq _ g xs _ 2 HSw1.out (by omega) (by omega)).mono ?_;rintro e w2 ⟨rfl,hS,hG⟩;rw[show (2:Int).toNat=2 from rfl];have HSw2:=zH hS;have HGw2:=zH (za0 HGw1.out hG);clear hS hG;have HNw2:=zH (HN0.out.grown HGw2.out);by_cases h2:zad xs (zaf xs i) 2=1
    ·
     have t1:=bT (show ((zad xs (zaf xs i) 2:Nat):Int)=1 by omega);have HR:Hid (exprG names xs (d+1) i=(.mk 2 0 (names.getD (zad xs (zaf xs (zaf xs i)) names.length) []) [],zaf xs (zaf xs (zaf xs i)))):=by
      rw[HRL.out];unfold exprG.leafG;rw[if_pos ⟨hn0,h2⟩];rfl
     clear h2;go_wp2_with fail;refine(zaq _ g xs _ names.length HSw2.out (by omega) (by omega)).mono ?_;rintro e w3 ⟨rfl,hS,hG⟩;rw[Int.toNat_natCast];have HSw3:=zH hS;have HGw3:=zH (za0 HGw2.out hG);clear hS hG;have hr:=zav xs (zaf xs (zaf xs i)) names.length hn0;obtain⟨b,off,hA,hbg,hcc⟩:=(HN0.out.grown HGw3.out) _ hr;subst hA;have hgd:names.getD (zad xs (zaf xs (zaf xs i)) names.length) []=names[zad xs (zaf xs (zaf xs i)) names.length]:=by simp[List.getD,List.getElem?_eq_getElem hr]
     rw[hgd] at HR;clear hgd;generalize names[zad xs (zaf xs (zaf xs i)) names.length]=nm at *;generalize zad xs (zaf xs (zaf xs i)) names.length=r at *;obtain⟨q0,q1,q2,q3,f0,f1,f2,f3,hz⟩:=zaF hgw HGw3.out;go_wp2_with fail;refine bodyPost_ret (v:=.agg #[.int .i64 2,.int .i64 0,.string ⟨nm.toArray⟩,.slice none 0 0]) (by simp[results,Tryz.results85,go_sem,q0,q1,q2,q3]) rfl ⟨⟨2,0,nm,none,0,0⟩,rfl,?_,?_,?_⟩
     ·
      rw[HR.out];exact ExM.leaf _ _ _ _ _ _ _
     ·
      rw[HR.out]
      (repeat (with_reducible refine Src.set ?_ hgw _));exact HSw3.out
     ·
      (repeat (with_reducible refine zaD ?_ (lR _) _));exact za6 HGw3.out
    ·
     have t1:=bF (show ((zad xs (zaf xs i) 2:Nat):Int)≠1 by omega);have HR:Hid (exprG names xs (d+1) i=(.mk 1 ((numG xs (zaf xs (zaf xs i))).1:Int) [] [],(numG xs (zaf xs (zaf xs i))).2)):=by
      rw[HRL.out];unfold exprG.leafG;rw[if_neg (fun h=>h2 h.2),if_pos hn0];rfl
     clear h2;go_wp2_with fail;refine(zcZ _ g xs _ HSw2.out).mono ?_;rintro e w9 ⟨rfl,hS,hG⟩;have HSw9:=zH hS;have HGw9:=zH (za0 HGw2.out hG);clear hS hG;obtain⟨q0,q1,q2,q3,f0,f1,f2,f3,hz⟩:=zaF hgw HGw9.out;go_wp2_with fail;refine bodyPost_ret (v:=.agg #[.int .i64 1,.int .i64 ((numG xs (zaf xs (zaf xs i))).1:Int),.string ⟨#[]⟩,.slice none 0 0]) (by simp[results,Tryz.results85,go_sem,q0,q1,q2,q3]) rfl ⟨⟨1,((numG xs (zaf xs (zaf xs i))).1:Int),[],none,0,0⟩,rfl,?_,?_,?_⟩
     ·
      rw[HR.out];exact ExM.leaf _ _ _ _ _ _ _
     ·
      rw[HR.out]
      (repeat (with_reducible refine Src.set ?_ hgw _));exact HSw9.out
     ·
      (repeat (with_reducible refine zaD ?_ (lR _) _));exact za6 HGw9.out
   ·
    have d0:decide ((0:Int)<(names.length:Int))=false:=decide_eq_false (by omega);have HR:Hid (exprG names xs (d+1) i=(.mk 1 ((numG xs (zaf xs i)).1:Int) [] [],(numG xs (zaf xs i)).2)):=by
     rw[HRL.out];unfold exprG.leafG;rw[if_neg (fun h=>hn0 h.1),if_neg hn0];rfl
    go_wp2_with fail;refine(zcZ _ g xs _ HSw1.out).mono ?_;rintro e w9 ⟨rfl,hS,hG⟩;have HSw9:=zH hS;have HGw9:=zH (za0 HGw1.out hG);clear hS hG;obtain⟨q0,q1,q2,q3,f0,f1,f2,f3,hz⟩:=zaF hgw HGw9.out;go_wp2_with fail;refine bodyPost_ret (v:=.agg #[.int .i64 1,.int .i64 ((numG xs (zaf xs i)).1:Int),.string ⟨#[]⟩,.slice none 0 0]) (by simp[results,Tryz.results85,go_sem,q0,q1,q2,q3]) rfl ⟨⟨1,((numG xs (zaf xs i)).1:Int),[],none,0,0⟩,rfl,?_,?_,?_⟩
    ·
     rw[HR.out];exact ExM.leaf _ _ _ _ _ _ _
    ·
     rw[HR.out]
     (repeat (with_reducible refine Src.set ?_ hgw _));exact HSw9.out
    ·
     (repeat (with_reducible refine zaD ?_ (lR _) _));exact za6 HGw9.out
  ·
   have dk:decide (((zad xs i 10:Nat):Int)<2)=false:=decide_eq_false (by omega);by_cases hk4:zad xs i 10<4
   ·
    have dk4:decide (((zad xs i 10:Nat):Int)<4)=true:=by simp;omega
    have HR:=zH (zh8 names xs d i hk2 hk4);generalize zad xs i 10=k at *;go_wp2_with fail;refine(IH.out _ w1 (by omega) HSw1.out (HN0.out.grown HGw1.out)).mono ?_;rintro e w2 ⟨f,rfl,hE,hS,hG⟩;unfold EF.val;have HE:=zH hE;have HSw2:=zH hS;have HGw2:=zH (za0 HGw1.out hG);clear hE hS hG;obtain⟨q0,q1,q2,q3,f0,f1,f2,f3,hz⟩:=zaF hgw HGw2.out;go_wp2_with fail;have hw1:w.heap.size<w1.heap.size:=by have:=HGw1.out.size;simp at this;omega
    refine bodyPost_ret (v:=.agg #[.int .i64 (3+(k:Int) % 2),.int .i64 0,.string ⟨#[]⟩,.slice (some ⟨w2.heap.size,0,none⟩) 1 1]) (by simp[results,Tryz.results85,go_sem,q0,q1,q2,q3,hz]) rfl ⟨⟨3+(k:Int) % 2,0,[],some ⟨w2.heap.size,0,none⟩,1,1⟩,rfl,?_,?_,?_⟩
    ·
     rw[HR.out];exact ExM.one _ _ _ w2.heap.size 0 1 (by omega) (zfi w2 w.heap.size _ _ _ _ [.int .i64 f.op,.int .i64 f.num,.string ⟨f.name.toArray⟩,.slice f.A f.n f.c] 68 0 f ⟨rfl,rfl,rfl,rfl⟩) (zgI HE.out (by omega) hw1 _ _ _ _ _)
    ·
     rw[HR.out];exact zhX HSw2.out hgw _ _ _ _ _
    ·
     exact zg6 (za6 HGw2.out) (lR _) _ _ _ _ _
   ·
    have dk4:decide (((zad xs i 10:Nat):Int)<4)=false:=decide_eq_false (by omega);have HR:=zH (zg7 names xs d i hk2 hk4);generalize zad xs i 10=k at *;go_wp2_with fail;refine(zaq _ g xs _ 13 HSw1.out (by omega) (by omega)).mono ?_;rintro e w2 ⟨rfl,hS,hG⟩;rw[show (13:Int).toNat=13 from rfl];have HSw2:=zH hS;have HGw2:=zH (za0 HGw1.out hG);clear hS hG;have hk13:=zav xs (zaf xs i) 13 (by omega);generalize zad xs (zaf xs i) 13=k13 at *;go_wp2_with fail;refine(IH.out _ w2 (by omega) HSw2.out (HN0.out.grown HGw2.out)).mono ?_;rintro e w3 ⟨f,rfl,hE,hS,hG⟩;unfold EF.val;have HE:=zH hE;have HSw3:=zH hS;have HGw3:=zH (za0 HGw2.out hG);clear hE hS hG;go_wp2_with fail;refine(IH.out _ w3 (by omega) HSw3.out (HN0.out.grown HGw3.out)).mono ?_;rintro e w4 ⟨f',rfl,hE,hS,hG⟩;unfold EF.val;have HE':=zH hE;have HSw4:=zH hS;have HGw4:=zH (za0 HGw3.out hG);have HE2:=zH (HE.out.keep (w':=w4) fun b hb hlt=>hG.block b hlt (fun e=>by injection e with e;have:=HSw2.out.lt;omega));have hw1:w.heap.size<w2.heap.size:=by have:=HGw2.out.size;simp at this;omega
    have hw2:w.heap.size<w3.heap.size:=by have:=HGw3.out.size;simp at this;omega
    clear hE hS hG;obtain⟨q0,q1,q2,q3,f0,f1,f2,f3,hz⟩:=zaF hgw HGw4.out;go_wp2_with fail;refine bodyPost_ret (v:=.agg #[.int .i64 (5+(k13:Int)),.int .i64 0,.string ⟨#[]⟩,.slice (some ⟨w4.heap.size,0,none⟩) 2 2]) (by simp[results,Tryz.results85,go_sem,q0,q1,q2,q3,hz]) rfl ⟨⟨5+(k13:Int),0,[],some ⟨w4.heap.size,0,none⟩,2,2⟩,rfl,?_,?_,?_⟩
    ·
     rw[HR.out];exact ExM.two _ _ _ w4.heap.size 0 2 (by omega) (zfi w4 w.heap.size _ _ _ _ [.int .i64 f.op,.int .i64 f.num,.string ⟨f.name.toArray⟩,.slice f.A f.n f.c,.int .i64 f'.op,.int .i64 f'.num,.string ⟨f'.name.toArray⟩,.slice f'.A f'.n f'.c] 68 0 f ⟨rfl,rfl,rfl,rfl⟩) (zfi w4 w.heap.size _ _ _ _ [.int .i64 f.op,.int .i64 f.num,.string ⟨f.name.toArray⟩,.slice f.A f.n f.c,.int .i64 f'.op,.int .i64 f'.num,.string ⟨f'.name.toArray⟩,.slice f'.A f'.n f'.c] 68 4 f' ⟨rfl,rfl,rfl,rfl⟩) (zgI HE2.out (by omega) hw1 _ _ _ _ _) (zgI HE'.out (by omega) hw2 _ _ _ _ _)
    ·
     rw[HR.out];exact zhX HSw4.out hgw _ _ _ _ _
    ·
     exact zg6 (za6 HGw4.out) (lR _) _ _ _ _ _
end Go.Proofs.YtlnbmmgbfgmboaaGreatDoor
