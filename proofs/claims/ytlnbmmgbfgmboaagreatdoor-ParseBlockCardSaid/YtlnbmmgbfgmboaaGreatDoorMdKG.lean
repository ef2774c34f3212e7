import Derived.Test.YtlnbmmgbfgmboaaGreatDoorQa
import Derived.Test.YtlnbmmgbfgmboaaGreatDoorQ3
import Derived.Test.YtlnbmmgbfgmboaaGreatDoorQ7
namespace Go.Proofs.YtlnbmmgbfgmboaaGreatDoor
open Go.RowKit
structure WP where
 g:Nat
 q:Nat
 xs:List Int
 ar:Bool
 vG:Value
 AM:Option Addr
 cM:Nat
 AF:Option Addr
 cF:Nat
 ms:List Mx
 fs:List Hd
structure WrM (w:World) (W:WP) (i left:Nat):Prop where
 blk:w.heap[W.g]?=some (.cells #[.pointer (some ⟨W.q,0,none⟩),W.vG,.slice W.AM W.ms.length W.cM,.slice W.AF W.fs.length W.cF,.int .i64 (left:Int),.bool W.ar] 85 (0,0))
 src:Src w W.q W.xs i
 ne:W.q<W.g
 mx:∀k (h:k<W.ms.length),∃b,W.AM=some ⟨b,0,none⟩∧b≠W.g∧b≠W.q∧w.cell? ⟨b,k*3,none⟩=some (.string ⟨W.ms[k].name.toArray⟩)∧w.cell? ⟨b,k*3+2,none⟩=some (.int .i64 (W.ms[k].size:Int))
 fn:∀k (h:k<W.fs.length),∃b A c B n d,W.AF=some ⟨b,0,none⟩∧b≠W.g∧b≠W.q∧w.cell? ⟨b,k*3,none⟩=some (.string ⟨W.fs[k].name.toArray⟩)∧w.cell? ⟨b,k*3+1,none⟩=some (.slice A W.fs[k].ps.length c)∧w.cell? ⟨b,k*3+2,none⟩=some (.slice B n d)∧PmsM w (fun b=>b≠W.g∧b≠W.q) W.fs[k].ps A
 ml:1≤W.ms.length∧W.ms.length≤4
 fl:1≤W.fs.length∧W.fs.length≤4
 ll:left≤24
 ms:∀k (h:k<W.ms.length),W.ms[k].size≤3∧W.ms[k].name.length≤16
 fs:∀k (h:k<W.fs.length),W.fs[k].ps.length≤2∧W.fs[k].name.length≤16
theorem WrM.keep {w w':World} {W:WP} {i left:Nat} (h:WrM w W i left) (hk:∀b,b<w.heap.size→w'.heap[b]?=w.heap[b]?):WrM w' W i left:=by
 have hc:∀ {b o:Nat} {v:Value},w.cell? ⟨b,o,none⟩=some v→w'.cell? ⟨b,o,none⟩=some v:=fun {b o v} hv=>(World.cell?_of_block (a:=⟨b,o,none⟩) (hk b (World.block_lt_of_cell? _ _ hv))).trans hv;refine⟨(hk _ (lt_of_block h.blk)).trans h.blk,h.src.keep fun b hb=>hk b (by have:=h.src.lt;omega),h.ne,fun k hk'=>?_,fun k hk'=>?_,h.ml,h.fl,h.ll,h.ms,h.fs⟩
 ·
  obtain⟨b,e,n1,n2,c0,c2⟩:=h.mx k hk';exact⟨b,e,n1,n2,hc c0,hc c2⟩
 ·
  obtain⟨b,A,c,B,n,d,e,n1,n2,c0,c1,c2,hp⟩:=h.fn k hk';exact⟨b,A,c,B,n,d,e,n1,n2,hc c0,hc c1,hc c2,hp.keep fun b _ hl=>hk b hl⟩
theorem WrM.alloc {w:World} {W:WP} {i left:Nat} (h:WrM w W i left) (o:Obj):WrM (w.alloc o) W i left:=h.keep fun b hb=>Below.heap_alloc w o b hb
theorem WrM.later {w w':World} {W:WP} {i left:Nat} (h:WrM w W i left) (hb:Below w.heap.size w w'):WrM w' W i left:=h.keep fun b hl=>hb.block b hl
structure Fr (a b:Nat) (w w':World):Prop where
 os:w'.os=w.os
 tape:w'.tape=w.tape
 output:w'.output=w.output
 size:w.heap.size≤w'.heap.size
 block:∀i,i<w.heap.size→i≠a→i≠b→w'.heap[i]?=w.heap[i]?
theorem Fr.refl (a b:Nat) (w:World):Fr a b w w:=⟨rfl,rfl,rfl,lR _,fun _ _ _ _=>rfl⟩
theorem Fr.trans {a b:Nat} {w w' w'':World} (h:Fr a b w w') (k:Fr a b w' w''):Fr a b w w'' :=
 ⟨k.os.trans h.os,k.tape.trans h.tape,k.output.trans h.output,Nat.le_trans h.size k.size,fun i hi ha hb=>(k.block i (Nat.lt_of_lt_of_le hi h.size) ha hb).trans (h.block i hi ha hb)⟩
theorem Fr.alloc {a b:Nat} {w w':World} (h:Fr a b w w') (o:Obj):Fr a b w (w'.alloc o) :=
 ⟨h.os,h.tape,h.output,Nat.le_trans h.size (by simp),fun i hi ha hb=>(Below.heap_alloc w' o i (Nat.lt_of_lt_of_le hi h.size)).trans (h.block i hi ha hb)⟩
theorem Fr.of_grown {a b:Nat} {w w':World} (h:w.grownBy w' (some b)):Fr a b w w':=⟨h.os,h.tape,h.output,h.size,fun i hi _ hb=>h.block i hi (fun e=>by injection e with e;exact hb e)⟩
theorem Fr.set {a b:Nat} {w w':World} (h:Fr a b w w') {p:Addr} (hp:w.heap.size≤p.block∨p.block=a∨p.block=b) (u:Value):Fr a b w (w'.setCell p u) :=
 ⟨h.os,h.tape,h.output,by simpa[World.setCell] using h.size,fun i hi ha hb=>(Below.heap_setCell w' p u i (by omega)).trans (h.block i hi ha hb)⟩
theorem Fr.putAt {a b r:Nat} {w w1 w2:World} (h:Fr a b w w1) (hp:PutAt r w1 w2) (hr:w.heap.size≤r):Fr a b w w2 :=
 ⟨hp.1.trans h.os,hp.2.1.trans h.tape,hp.2.2.1.trans h.output,by have:=h.size;have:=hp.2.2.2.1;omega,fun i hi ha hb=>(hp.2.2.2.2 i (by omega)).trans (h.block i hi ha hb)⟩
theorem WrM.next {w w':World} {W:WP} {i i' left:Nat} (h:WrM w W i left) (hs:Src w' W.q W.xs i') (hg:w.grownBy w' (some W.q)):WrM w' W i' left:=by
 have hk:∀b,b<w.heap.size→b≠W.q→w'.heap[b]?=w.heap[b]?:=fun b hb hn=>hg.block b hb (fun e=>by injection e with e;exact hn e);have hc:∀ {b o:Nat} {v:Value},b≠W.q→w.cell? ⟨b,o,none⟩=some v→w'.cell? ⟨b,o,none⟩=some v:=fun {b o v} hn hv=>(World.cell?_of_block (a:=⟨b,o,none⟩) (hk b (World.block_lt_of_cell? _ _ hv) hn)).trans hv;refine⟨(hk _ (lt_of_block h.blk) (by have:=h.ne;omega)).trans h.blk,hs,h.ne,fun k hk'=>?_,fun k hk'=>?_,h.ml,h.fl,h.ll,h.ms,h.fs⟩
 ·
  obtain⟨b,e,n1,n2,c0,c2⟩:=h.mx k hk';exact⟨b,e,n1,n2,hc n2 c0,hc n2 c2⟩
 ·
  obtain⟨b,A,c,B,n,d,e,n1,n2,c0,c1,c2,hp⟩:=h.fn k hk';exact⟨b,A,c,B,n,d,e,n1,n2,hc n2 c0,hc n2 c1,hc n2 c2,hp.keep fun b hb hl=>hk b hl hb.2⟩
theorem WrM.less {w:World} {W:WP} {i left:Nat} (h:WrM w W i left) (m:Nat) (v:Int) (hv:v=(m:Int)) (hm:m≤24):WrM (w.setCell ⟨W.g,4,none⟩ (.int .i64 v)) W i m:=by
 subst hv;have hk:∀b,b≠W.g→(w.setCell ⟨W.g,4,none⟩ (.int .i64 (m:Int))).heap[b]?=w.heap[b]?:=fun b hb=>Below.heap_setCell _ _ _ b hb;have hc:∀ {b o:Nat} {v:Value},b≠W.g→w.cell? ⟨b,o,none⟩=some v→(w.setCell ⟨W.g,4,none⟩ (.int .i64 (m:Int))).cell? ⟨b,o,none⟩=some v:=fun {b o v} hn hv=>(World.cell?_of_block (a:=⟨b,o,none⟩) (hk b hn)).trans hv;refine⟨?_,?_,h.ne,fun k hk'=>?_,fun k hk'=>?_,h.ml,h.fl,hm,h.ms,h.fs⟩
 ·
  exact za4 4 _ h.blk
 ·
  obtain⟨A,c,hb,hi,hx,hcc⟩:=h.src;refine⟨A,c,(hk _ (by have:=h.ne;omega)).trans hb,hi,hx,fun k hkk=>?_⟩;obtain⟨b,off,e,hbg,hcl,r⟩:=hcc k hkk;refine⟨b,off,e,hbg,?_,r⟩;exact(World.cell?_of_block (a:=⟨b,off+k,none⟩) (hk b (by have:=h.ne;omega))).trans hcl
 ·
  obtain⟨b,e,n1,n2,c0,c2⟩:=h.mx k hk';exact⟨b,e,n1,n2,hc n1 c0,hc n1 c2⟩
 ·
  obtain⟨b,A,c,B,n,d,e,n1,n2,c0,c1,c2,hp⟩:=h.fn k hk';exact⟨b,A,c,B,n,d,e,n1,n2,hc n1 c0,hc n1 c1,hc n1 c2,hp.keep fun b hb _=>hk b hb.1⟩
theorem WrM.cells {w:World} {W:WP} {i left:Nat} (h:WrM w W i left) :
  w.cell? ⟨W.g,0,none⟩=some (.pointer (some ⟨W.q,0,none⟩))∧w.cell? ⟨W.g,2,none⟩=some (.slice W.AM W.ms.length W.cM)∧w.cell? ⟨W.g,3,none⟩=some (.slice W.AF W.fs.length W.cF)∧w.cell? ⟨W.g,4,none⟩=some (.int .i64 (left:Int))∧w.cell? ⟨W.g,5,none⟩=some (.bool W.ar)∧w.frozen? ⟨W.g,4,none⟩=false∧W.g<w.heap.size:=by
 refine⟨?_,?_,?_,?_,?_,by simp[World.frozen?,h.blk],lt_of_block h.blk⟩
 ·
  rw[cell_of_row w W.g 0 _ _ _ h.blk];rfl
 ·
  rw[cell_of_row w W.g 2 _ _ _ h.blk];rfl
 ·
  rw[cell_of_row w W.g 3 _ _ _ h.blk];rfl
 ·
  rw[cell_of_row w W.g 4 _ _ _ h.blk];rfl
 ·
  rw[cell_of_row w W.g 5 _ _ _ h.blk];rfl
def WxP (w:World) (W:WP) (left d:Nat) (vs:List Nm) (e:Ending) (w':World):Prop :=
 ∃(f:EF) (E:Ex) (i':Nat),e=.returned f.val∧ExW d vs E∧ExM w' (w.heap.size≤·) E f∧WrM w' W i' left∧w.grownBy w' (some W.q)
theorem zfq {w w1:World} {W:WP} {i i' left d:Nat} {vs:List Nm} {E:Ex} {f:EF} {o:Obj} (h0:WrM w W i left) (hE:ExW d vs E) (hM:ExM w1 (w.heap.size+1≤·) E f) (hS:Src w1 W.q W.xs i') (hG:(w.alloc o).grownBy w1 (some W.q)) (u0 u1 u2 u3:Value) :
  WxP w W left d vs (.returned f.val) (set4 w1 w.heap.size u0 u1 u2 u3):=by
 have hq:=h0.src.lt;have hg:w.grownBy (set4 w1 w.heap.size u0 u1 u2 u3) (some W.q) :=
  ⟨hG.os,hG.tape,hG.output,by have:=hG.size;rw[zaj];simp at this;omega,fun b hb hn=>(zai w1 _ _ _ _ _ b (by omega)).trans ((za6 hG).block b hb hn)⟩
 exact⟨f,E,i',rfl,hE,(hM.keep fun b hb _=>zai w1 _ _ _ _ _ b (by omega)).more fun b hb=>by omega,h0.next (hS.keep fun b hb=>zai w1 _ _ _ _ _ b (by omega)) hg,hg⟩
theorem zhL {w w1:World} {o:Obj} {E:Ex} {f:EF} (hM:ExM w1 ((w.alloc o).heap.size≤·) E f):ExM w1 (w.heap.size+1≤·) E f:=hM.more fun b hb=>by simp at hb;omega
theorem zaB {w w':World} {r:Option Nat} (h:w.drew.grownBy w' r):w.grownBy w' r:=⟨h.os,h.tape,h.output,h.size,h.block⟩
theorem zey (names:List (List UInt8)) (xs:List Int) (g:Nat) (A:Option Addr) (cap:Nat) (hnl:names.length≤1000000) (deep:Nat) (v:Int) (hv:v=(deep:Int)) (i:Nat) (w:World) (hd:deep≤1000) (hS:Src w g xs i) (hN:StrN w g A names) :
  Calls Tryz.prog 85 #[.pointer (some ⟨g,0,none⟩),.slice A names.length cap,.int .i64 v] w (zhf w g xs (exprG names xs deep i)):=by
 subst hv;exact ze2 names xs g A cap hnl deep i w hd hS hN
set_option maxRecDepth 100000 in
set_option maxHeartbeats 4000000 in
theorem zca (w:World) (W:WP) (i left:Nat) (vs:List Nm) (A:Option Addr) (c:Nat) (hW:WrM w W i left) (hV:StrN w W.q A vs) (hn:vs.length≤1000) :
  Calls Tryz.prog 57 #[.pointer (some ⟨W.g,0,none⟩),.slice A vs.length c] w (WxP w W left 2 vs):=by
 have HW0:=zH hW;have HW:=zH (hW.alloc (.cells #[.int .i64 0,.int .i64 0,.string ⟨#[]⟩,.slice none 0 0] 68));have HV:=zH (hV.alloc (.cells #[.int .i64 0,.int .i64 0,.string ⟨#[]⟩,.slice none 0 0] 68));have hqw:=hW.src.lt;obtain⟨q0,-,-,-,q5,-,hgl⟩:=hW.cells;have hgR:W.g≠w.heap.size:=by omega
 have hgR':w.heap.size≠W.g:=by omega
 clear hW hV;cases ha:W.ar with
 | false =>
  rw[ha] at q5;clear ha;go_enter Tryz.func57,Tryz.ntmps57;go_wp2_with fail;refine(ze2 vs W.xs W.q A c (by omega) 0 i _ (by omega) HW.out.src HV.out).mono ?_;rintro e w1 ⟨f,rfl,hM,hS,hG⟩;obtain⟨p0,p1,p2,p3,f0,f1,f2,f3,hz⟩:=zaF hqw hG;have HM:=zH hM;have HS:=zH hS;have HG:=zH hG;clear hM hS hG;obtain⟨fo,fn,fname,fA,fl,fc⟩:=f;unfold EF.val;go_wp2_with fail;refine bodyPost_ret (v:=.agg #[.int .i64 fo,.int .i64 fn,.string ⟨fname.toArray⟩,.slice fA fl fc]) (by simp[results,Tryz.results57,go_sem,p0,p1,p2,p3]) rfl (zfq (f:=⟨fo,fn,fname,fA,fl,fc⟩) HW0.out (.inr ⟨W.xs,0,i,by omega,rfl⟩) (zhL HM.out) HS.out HG.out _ _ _ _)
 | true =>
  rw[ha] at q5;clear ha;have hk:=zav W.xs i 2 (by omega);go_enter Tryz.func57,Tryz.ntmps57;go_wp2_with fail;have hwr:IntKind.i64.wrap (1+((zad W.xs i 2:Nat):Int))=1+((zad W.xs i 2:Nat):Int):=IntWalk.i64_in _ (by omega);have k0:(w.alloc (.cells #[.int .i64 0,.int .i64 0,.string ⟨#[]⟩,.slice none 0 0] 68)).cell? ⟨W.g,0,none⟩=some (.pointer (some ⟨W.q,0,none⟩)):=HW.out.cells.1;generalize hw1:w.alloc (.cells #[.int .i64 0,.int .i64 0,.string ⟨#[]⟩,.slice none 0 0] 68)=w1 at *;have HW1:=zH hw1;clear hw1
  go_region_held3 (fun w'=>w'.cell? ⟨W.g,0,none⟩=some (.pointer (some ⟨W.q,0,none⟩)))
   (first|assumption|go_keep)
   (first
    | (go_at_call 32;refine(zaq w1.drew W.q W.xs i 2 (HW.out.src.keep fun _ _=>rfl) (by omega) (by omega)).mono ?_;rintro e w3 ⟨rfl,hS3,hG3⟩;rw[show (2:Int).toNat=2 from rfl];have u3:=((HW.out.keep (w':=w1.drew) fun _ _=>rfl).next hS3 hG3).cells.1;have HS3:=zH hS3;have HG3:=zH hG3;have hG3s:=zH (show (w.alloc (.cells #[.int .i64 0,.int .i64 0,.string ⟨#[]⟩,.slice none 0 0] 68)).heap.size≤w3.heap.size by rw[HW1.out];exact hG3.size);clear hS3 hG3)
    | (go_at_call 85;refine(zey vs W.xs W.q A c (by omega) (1+zad W.xs i 2) _ (by simp) _ w3 (by omega) HS3.out (StrN.grown (w:=w1.drew) HV.out HG3.out)).mono ?_;rintro e w4 ⟨f,rfl,hM4,hS4,hG4⟩;have u4:=((HW.out.keep (w':=w1.drew) fun _ _=>rfl).next hS4 (za0 HG3.out hG4)).cells.1;have hG5:=zaB (za0 HG3.out hG4);rw[←HW1.out] at hG5;obtain⟨p0,p1,p2,p3,f0,f1,f2,f3,hz⟩:=zaF hqw hG5;obtain⟨fo,fn,fname,fA,fl,fc⟩:=f;unfold EF.val;have HM4:=zH (hM4.more (S':=(w.heap.size+1≤·)) fun b hb=>Nat.le_trans (by have:=hG3s.out;simp at this;omega) hb);have HS4:=zH hS4;have HG5:=zH hG5;clear hM4 hS4 hG4 hG5))
  go_wp2_with fail;refine bodyPost_ret (v:=.agg #[.int .i64 fo,.int .i64 fn,.string ⟨fname.toArray⟩,.slice fA fl fc]) (by simp[results,Tryz.results57,go_sem,p0,p1,p2,p3]) rfl (zfq (f:=⟨fo,fn,fname,fA,fl,fc⟩) HW0.out (.inr ⟨W.xs,1+zad W.xs i 2,_,by omega,rfl⟩) HM4.out HS4.out HG5.out _ _ _ _)
end Go.Proofs.YtlnbmmgbfgmboaaGreatDoor
