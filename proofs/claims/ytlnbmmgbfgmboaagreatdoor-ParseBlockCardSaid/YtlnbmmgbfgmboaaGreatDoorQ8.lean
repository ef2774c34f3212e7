import Derived.Test.YtlnbmmgbfgmboaaGreatDoorQa
import Derived.Test.YtlnbmmgbfgmboaaGreatDoorMdKG
import Derived.Test.YtlnbmmgbfgmboaaGreatDoorQ6
import Derived.Test.YtlnbmmgbfgmboaaGreatDoorQ1
import Derived.Test.YtlnbmmgbfgmboaaGreatDoorQ7
namespace Go.Proofs.YtlnbmmgbfgmboaaGreatDoor
open Go.RowKit
set_option maxRecDepth 100000 in
set_option maxHeartbeats 4000000 in
theorem zhh (w:World) (W:WP) (i left:Nat) (vs:List Nm) (A:Option Addr) (c:Nat) (size:Nat) (hz0:1≤size) (hz3:size≤3) (hW:WrM w W i left) (hV:StrN w W.q A vs) (hn:vs.length≤1000) :
  Calls Tryz.prog 84 #[.pointer (some ⟨W.g,0,none⟩),.slice A vs.length c,.int .i64 (size:Int)] w (WxP w W left 1 vs):=by
 have HW0:=zH hW;have HW:=zH (hW.alloc (.cells #[.int .i64 0,.int .i64 0,.string ⟨#[]⟩,.slice none 0 0] 68));have HV:=zH (hV.alloc (.cells #[.int .i64 0,.int .i64 0,.string ⟨#[]⟩,.slice none 0 0] 68));have hqw:=hW.src.lt;obtain⟨q0,-,-,-,q5,-,hgl⟩:=hW.cells;have hgR:W.g≠w.heap.size:=by omega
 have hgR':w.heap.size≠W.g:=by omega
 clear hW hV;cases ha:W.ar with
 | false =>
  rw[ha] at q5;clear ha;go_enter Tryz.func84,Tryz.ntmps84;go_wp2_with fail;refine(zaq _ W.q W.xs i _ HW.out.src (by omega) (by omega)).mono ?_;rintro e w1 ⟨rfl,hS,hG⟩;rw[Int.toNat_natCast];obtain⟨p0,p1,p2,p3,f0,f1,f2,f3,hz⟩:=zaF hqw hG;have hlt:=zav W.xs i size (by omega);have HS:=zH hS;have HG:=zH hG;clear hS hG;generalize zad W.xs i size=k at *;go_wp2_with fail;refine bodyPost_ret (v:=.agg #[.int .i64 1,.int .i64 (k:Int),.string ⟨#[]⟩,.slice none 0 0]) (by simp[results,Tryz.results84,go_sem,p0,p1,p2,p3]) rfl (zfq (f:=⟨1,(k:Int),[],none,0,0⟩) HW0.out (.inl ⟨k,by omega,rfl⟩) (ExM.leaf _ _ _ _ _ _ _) HS.out HG.out _ _ _ _)
 | true =>
  rw[ha] at q5;clear ha;go_enter Tryz.func84,Tryz.ntmps84;go_wp2_with fail;refine(zaq _ W.q W.xs i 3 HW.out.src (by omega) (by omega)).mono ?_;rintro e w1 ⟨rfl,hS,hG⟩;rw[show (3:Int).toNat=3 from rfl];have k0:=(HW.out.next hS hG).cells.1;have HS1:=zH hS;have HG1:=zH hG;have HV1:=zH (HV.out.grown hG);have hz1:w.heap.size+1≤w1.heap.size:=by have:=hG.size;simp at this;omega
  clear hS hG;by_cases h1:zad W.xs i 3=1
  ·
   have t1:=bT (show ((zad W.xs i 3:Nat):Int)=1 by omega);clear h1;go_wp2_with fail;refine(zey vs W.xs W.q A c (by omega) 1 1 rfl _ w1 (by omega) HS1.out HV1.out).mono ?_;rintro e w2 ⟨f,rfl,hM,hS,hG⟩;obtain⟨p0,p1,p2,p3,f0,f1,f2,f3,hz⟩:=zaF hqw (za0 HG1.out hG);have HM:=zH (hM.more (S':=(w.heap.size+1≤·)) fun b hb=>Nat.le_trans hz1 hb);have HS:=zH hS;have HG:=zH (za0 HG1.out hG);clear hM hS hG;obtain⟨fo,fn,fname,fA,fl,fc⟩:=f;unfold EF.val;go_wp2_with fail;refine bodyPost_ret (v:=.agg #[.int .i64 fo,.int .i64 fn,.string ⟨fname.toArray⟩,.slice fA fl fc]) (by simp[results,Tryz.results84,go_sem,p0,p1,p2,p3]) rfl (zfq (f:=⟨fo,fn,fname,fA,fl,fc⟩) HW0.out (.inr ⟨W.xs,1,_,by omega,rfl⟩) HM.out HS.out HG.out _ _ _ _)
  ·
   have t1:=bF (show ((zad W.xs i 3:Nat):Int)≠1 by omega);clear h1;go_wp2_with fail;refine(zaq w1 W.q W.xs _ _ HS1.out (by omega) (by omega)).mono ?_;rintro e w2 ⟨rfl,hS,hG⟩;rw[Int.toNat_natCast];obtain⟨p0,p1,p2,p3,f0,f1,f2,f3,hz⟩:=zaF hqw (za0 HG1.out hG);have hlt:=zav W.xs (zaf W.xs i) size (by omega);have HS:=zH hS;have HG:=zH (za0 HG1.out hG);clear hS hG;generalize zad W.xs (zaf W.xs i) size=k at *;go_wp2_with fail;refine bodyPost_ret (v:=.agg #[.int .i64 1,.int .i64 (k:Int),.string ⟨#[]⟩,.slice none 0 0]) (by simp[results,Tryz.results84,go_sem,p0,p1,p2,p3]) rfl (zfq (f:=⟨1,(k:Int),[],none,0,0⟩) HW0.out (.inl ⟨k,by omega,rfl⟩) (ExM.leaf _ _ _ _ _ _ _) HS.out HG.out _ _ _ _)
def strK:RowK (List UInt8) where
 cl:=fun s=>[.string ⟨s.toArray⟩]
 sz:=1
 hsz:=fun _=>rfl
 one:=fun p u hu=>by
  simp at hu;rw[hu];rfl
 In:=fun _ _ _=>True
 keep:=fun _ _=>trivial
 more:=fun _ _=>trivial
theorem ze0 {t:TypeId} {w:World} {B n c:Nat} {A:Option Addr} {P:List (List UInt8)} (h:OwnR strK t w B (.slice A n c) P) (i:Nat) (hi:i<P.length):∃b,A=some ⟨b,0,none⟩∧B≤b∧b<w.heap.size∧w.cell? ⟨b,i,none⟩=some (.string ⟨P[i].toArray⟩):=by
 obtain⟨A',c',e⟩:=h.form;simp only[Value.slice.injEq] at e;obtain⟨-,rfl,rfl⟩:=e;obtain⟨g,hA,hg⟩:∃g,A=some ⟨g,0,none⟩∧B≤g:=by
  rcases h.1.2 with⟨_,h0⟩|⟨g,cap',cur,e,hg,_⟩
  ·
   omega
  ·
   simp only[Value.slice.injEq] at e;exact⟨g,e.1,hg⟩
 subst hA;have q:=(World.ownsRow.cellAt h.1 (i*1+0) (by show i*1+0<P.length*1;omega)).trans (strK.cs_at P i 0 hi (by show 0<1;omega));rw[show i*1+0=i by omega] at q;exact⟨g,rfl,hg,World.block_lt_of_cell? _ _ q,q⟩
def rfN (ms:List Mx) (ps:List Pm):List Nm:=ms.map (·.name)++ps.flatMap fun p=>if p.m then [p.name,p.name] else []
theorem rfN_low (ms:List Mx) (ps:List Pm) (k:Nat) (h:k<ms.length) (h':k<(rfN ms ps).length):(rfN ms ps)[k]=ms[k].name:=by
 have e:(rfN ms ps)[k]?=some ms[k].name:=by
  unfold rfN;rw[List.getElem?_append_left (by simpa using h)];simp[h]
 exact(List.getElem?_eq_some_iff.1 e).2
theorem rfN_high (ms:List Mx) (ps:List Pm) (k:Nat) (h:ms.length≤k) (h':k<(rfN ms ps).length):∃i,∃hi:i<ps.length,ps[i].m=true∧(rfN ms ps)[k]=ps[i].name:=by
 have hm:(rfN ms ps)[k]∈ps.flatMap fun p=>if p.m then [p.name,p.name] else []:=by
  have e0:(rfN ms ps)[k]?=some (rfN ms ps)[k]:=List.getElem?_eq_getElem h';generalize (rfN ms ps)[k]=x at *;unfold rfN at e0;rw[List.getElem?_append_right (by simpa using h)] at e0;exact List.mem_of_getElem? e0
 obtain⟨p,hp,hx⟩:=List.mem_flatMap.1 hm;obtain⟨i,hi,rfl⟩:=List.mem_iff_getElem.1 hp;refine⟨i,hi,?_⟩;cases hpm:ps[i].m with
 | true =>
  rw[hpm] at hx;exact⟨rfl,by simpa using hx⟩
 | false =>
  rw[hpm] at hx;simp at hx
theorem rfN_len (ms:List Mx) (ps:List Pm):ms.length≤(rfN ms ps).length∧(rfN ms ps).length≤ms.length+2*ps.length:=by
 unfold rfN;refine⟨by simp,?_⟩
 have:∀l:List Pm,(l.flatMap fun p=>if p.m then [p.name,p.name] else []).length≤2*l.length:=by
  intro l
  induction l with
  | nil=>simp
  | cons p r ih =>
   rw[List.flatMap_cons,List.length_append,List.length_cons]
   have:(if p.m then [p.name,p.name] else []).length≤2:=by split<;>simp
   omega
 have:=this ps;rw[List.length_append,List.length_map];omega
theorem rfN_snoc (ms:List Mx) (ps:List Pm) (j:Nat) (h:j<ps.length):rfN ms (ps.take (j+1))=rfN ms (ps.take j)++(if ps[j].m then [ps[j].name,ps[j].name] else []):=by
 unfold rfN;rw[List.take_succ_eq_append_getElem h,List.flatMap_append,List.append_assoc];simp
theorem OwnR.snoc2 {t:TypeId} {w':World} {B:Nat} {v':Value} {P:List (List UInt8)} {a b:List UInt8}
  (ho:w'.ownsRow B t 1 v' (P.length+2) (strK.cs P++[.string ⟨a.toArray⟩,.string ⟨b.toArray⟩])):OwnR strK t w' B v' (P++[a,b]):=by
 refine⟨?_,fun p _=>trivial⟩;have e:strK.cs (P++[a,b])=strK.cs P++[.string ⟨a.toArray⟩,.string ⟨b.toArray⟩]:=by simp[RowK.cs,List.flatMap_append,strK]
 rw[e,List.length_append];exact ho
theorem mblk2 {w:World} {b:Nat} {c0 c1:Value} {t:TypeId} (h:w.heap[b]?=some (.cells #[c0,c1] t (0,0))) :
  w.cell? ⟨b,0,none⟩=some c0∧w.cell? ⟨b,1,none⟩=some c1∧w.frozen? ⟨b,0,none⟩=false∧w.frozen? ⟨b,1,none⟩=false∧b<w.heap.size:=by
 refine⟨?_,?_,?_,?_,lt_of_block h⟩
 ·
  rw[cell_of_row w b 0 _ _ _ h];rfl
 ·
  rw[cell_of_row w b 1 _ _ _ h];rfl
 ·
  exact frozen_of_row w b 0 _ _ h
 ·
  exact frozen_of_row w b 1 _ _ h
def WrP (w:World) (W:WP) (left:Nat) (ps:List Pm) (vs:List Nm) (e:Ending) (w':World):Prop :=
 ∃(r:Rf) (A:Option Addr) (n c i':Nat),e=.returned (.agg #[.string ⟨r.name.toArray⟩,.slice A n c])∧RfW W.ms ps vs r∧IdxM w' (w.heap.size≤·) r.idx A n∧WrM w' W i' left∧w.grownBy w' (some W.q)
def set2 (w:World) (r:Nat) (u0 u1:Value):World:=(w.setCell ⟨r,0,none⟩ u0).setCell ⟨r,1,none⟩ u1
theorem zfz (w:World) (r:Nat) (u0 u1:Value):(set2 w r u0 u1).heap.size=w.heap.size:=by
 unfold set2;simp[World.setCell]
theorem ze4 (w:World) (r:Nat) (u0 u1:Value) (b:Nat) (hb:b≠r):(set2 w r u0 u1).heap[b]?=w.heap[b]?:=by
 unfold set2;rw[Below.heap_setCell _ _ _ b hb,Below.heap_setCell _ _ _ b hb]
theorem set2_at {w:World} {b:Nat} {c0 c1:Value} {t:TypeId} (h:w.heap[b]?=some (.cells #[c0,c1] t (0,0))) (u0 u1:Value):(set2 w b u0 u1).heap[b]?=some (.cells #[u0,u1] t (0,0)):=by
 unfold set2;simp[World.setCell,Array.getElem?_modify,h]
theorem zdx {w:World} {b:Nat} {c0 c1:Value} {t:TypeId} (h:w.heap[b]?=some (.cells #[c0,c1] t (0,0))) (u0 u1:Value) (o:Obj):((set2 w b u0 u1).alloc o).cell? ⟨b,0,none⟩=some u0∧((set2 w b u0 u1).alloc o).cell? ⟨b,1,none⟩=some u1:=by
 have hl:=lt_of_block h;have h2:=(Below.heap_alloc (set2 w b u0 u1) o b (by rw[zfz];exact hl)).trans (set2_at h u0 u1);obtain⟨a0,a1,-⟩:=mblk2 h2;exact⟨a0,a1⟩
theorem zhM {w w4 W':World} {W:WP} {i i' left n c:Nat} {ps:List Pm} {vs:List Nm} {r:Rf} {A:Option Addr} (h0:WrM w W i left) (hr:RfW W.ms ps vs r) (hI:IdxM W' (w.heap.size≤·) r.idx A n) (hS:Src w4 W.q W.xs i') (hG:w.grownBy w4 (some W.q))
  (hk:∀b,b<w.heap.size→W'.heap[b]?=w4.heap[b]?) (ho:W'.os=w4.os∧W'.tape=w4.tape∧W'.output=w4.output) (hsz:w4.heap.size≤W'.heap.size):WrP w W left ps vs (.returned (.agg #[.string ⟨r.name.toArray⟩,.slice A n c])) W':=by
 have hq:=h0.src.lt;have hg:w.grownBy W' (some W.q):=⟨ho.1.trans hG.os,ho.2.1.trans hG.tape,ho.2.2.trans hG.output,by have:=hG.size;omega,fun b hb hn=>(hk b hb).trans (hG.block b hb hn)⟩;exact⟨r,A,n,c,i',rfl,hr,hI,h0.next (hS.keep fun b hb=>hk b (by omega)) hg,hg⟩
theorem wr_idx {w w3 w4 w5:World} {nm:List UInt8} {f:EF} {E:Ex} (h1:w.heap.size+2≤w3.heap.size) (h2:w3.heap.size+1≤w4.heap.size) (h5:w5.heap.size=w4.heap.size) (hk:∀b,b≠w3.heap.size→w5.heap[b]?=w4.heap[b]?) (hM:ExM w4 (w3.heap.size+1≤·) E f) :
  IdxM ((set2 w5 (w.heap.size+1) (.string ⟨nm.toArray⟩) (.slice (some ⟨w4.heap.size,0,none⟩) 1 1)).alloc (.cells #[.int .i64 f.op,.int .i64 f.num,.string ⟨f.name.toArray⟩,.slice f.A f.n f.c] 68)) (w.heap.size≤·) (some E) (some ⟨w4.heap.size,0,none⟩) 1 ∧
  (∀b,b<w.heap.size→((set2 w5 (w.heap.size+1) (.string ⟨nm.toArray⟩) (.slice (some ⟨w4.heap.size,0,none⟩) 1 1)).alloc (.cells #[.int .i64 f.op,.int .i64 f.num,.string ⟨f.name.toArray⟩,.slice f.A f.n f.c] 68)).heap[b]?=w4.heap[b]?) ∧
  w4.heap.size≤((set2 w5 (w.heap.size+1) (.string ⟨nm.toArray⟩) (.slice (some ⟨w4.heap.size,0,none⟩) 1 1)).alloc (.cells #[.int .i64 f.op,.int .i64 f.num,.string ⟨f.name.toArray⟩,.slice f.A f.n f.c] 68)).heap.size:=by
 have hs:=zfz w5 (w.heap.size+1) (.string ⟨nm.toArray⟩) (.slice (some ⟨w4.heap.size,0,none⟩) 1 1);have hk2:∀b,b≠w.heap.size+1→(set2 w5 (w.heap.size+1) (.string ⟨nm.toArray⟩) (.slice (some ⟨w4.heap.size,0,none⟩) 1 1)).heap[b]?=w5.heap[b]?:=fun b hb=>ze4 w5 _ _ _ b hb;generalize set2 w5 (w.heap.size+1) (.string ⟨nm.toArray⟩) (.slice (some ⟨w4.heap.size,0,none⟩) 1 1)=w6 at *;have hn:=heap_alloc_new w6 (.cells #[.int .i64 f.op,.int .i64 f.num,.string ⟨f.name.toArray⟩,.slice f.A f.n f.c] 68);rw[hs,h5] at hn;have hal:∀b,b<w4.heap.size→(w6.alloc (.cells #[.int .i64 f.op,.int .i64 f.num,.string ⟨f.name.toArray⟩,.slice f.A f.n f.c] 68)).heap[b]?=w6.heap[b]?:=fun b hb=>Below.heap_alloc w6 _ b (by omega);refine⟨⟨rfl,w4.heap.size,0,f,rfl,by omega,?_,?_⟩,fun b hb=>(hal b (by omega)).trans ((hk2 b (by omega)).trans (hk b (by omega))),by simp;omega⟩
 ·
  obtain⟨q0,q1,q2,q3,-⟩:=blk4 hn;exact⟨q0,q1,q2,q3⟩
 ·
  exact(hM.keep fun b hb hlt=>(hal b hlt).trans ((hk2 b (by omega)).trans (hk b (by omega)))).more fun b hb=>by omega
def RfL (B:Nat) (W2:World) (N:List Nm) (v:Value) (wr:World):Prop:=OwnR strK 9 wr B v N∧Below B W2 wr
theorem zcG {w:World} {b:Nat} {c0 c1 c2:Value} {t:TypeId} (h:w.heap[b]?=some (.cells #[c0,c1,c2] t (0,0))) :
  w.cell? ⟨b,0,none⟩=some c0∧w.cell? ⟨b,1,none⟩=some c1∧w.cell? ⟨b,2,none⟩=some c2:=by
 refine⟨?_,?_,?_⟩
 ·
  rw[cell_of_row w b 0 _ _ _ h];rfl
 ·
  rw[cell_of_row w b 1 _ _ _ h];rfl
 ·
  rw[cell_of_row w b 2 _ _ _ h];rfl
theorem rf_low {w W2 wr w3:World} {q:Nat} (h1:Below w.heap.size w W2) (h2:Below (w.heap.size+2) W2 wr) (h3:wr.grownBy w3 (some q)) (hs:W2.heap.size=w.heap.size+2):w.grownBy w3 (some q) :=
 ⟨h3.os.trans (h2.os.trans h1.os),h3.tape.trans (h2.tape.trans h1.tape),h3.output.trans (h2.output.trans h1.output),by have:=h1.size;have:=h2.size;have:=h3.size;omega,
  fun b hb hn=>(h3.block b (by have:=h2.size;omega) hn).trans ((h2.block b (by omega)).trans (h1.block b hb))⟩
theorem zif {B:Nat} {W2 wr w5:World} {v:Value} {o:Obj} (h:Below B W2 wr) (hg:(wr.alloc o).grownBy w5 v.ownBlock) (hv:∀k,v.ownBlock=some k→B≤k) (hB:B≤W2.heap.size):Below B W2 w5 :=
 (h.alloc (Nat.le_trans hB h.size) o).grown hg (by have:=h.size;simp;omega) hv
theorem StrN.later {w w':World} {g:Nat} {A:Option Addr} {xs:List (List UInt8)} (h:StrN w g A xs) (hb:Below w.heap.size w w'):StrN w' g A xs:=by
 intro i hi;obtain⟨b,off,e,hn,hc⟩:=h i hi;exact⟨b,off,e,hn,cell_later hb hc⟩
set_option maxRecDepth 100000 in
set_option maxHeartbeats 8000000 in
theorem zdf (w:World) (W:WP) (i left:Nat) (vs:List Nm) (A:Option Addr) (c:Nat) (fn:Nm) (ps:List Pm) (pA bA:Option Addr) (pc bn bc:Nat) (hW:WrM w W i left) (hV:StrN w W.q A vs) (hn:vs.length≤1000) (hP:PmsM w (fun b=>b≠W.g∧b≠W.q) ps pA) (hps:ps.length≤2) :
  Calls Tryz.prog 56 #[.pointer (some ⟨W.g,0,none⟩),.agg #[.string ⟨fn.toArray⟩,.slice pA ps.length pc,.slice bA bn bc],.slice A vs.length c] w (WrP w W left ps vs):=by
 obtain⟨i0,hi,hz0,hz1,hz2⟩:=info_parts Tryz.infoStr;obtain⟨hn1,hn2⟩:=new2 w (.cells #[.string ⟨fn.toArray⟩,.slice pA ps.length pc,.slice bA bn bc] 52) (.cells #[.string ⟨#[]⟩,.slice none 0 0] 70);have hbw:Below w.heap.size w ((w.alloc (.cells #[.string ⟨fn.toArray⟩,.slice pA ps.length pc,.slice bA bn bc] 52)).alloc (.cells #[.string ⟨#[]⟩,.slice none 0 0] 70)):=((Below.refl _ _).alloc (lR _) _).alloc (by simp) _;have hsz:((w.alloc (.cells #[.string ⟨fn.toArray⟩,.slice pA ps.length pc,.slice bA bn bc] 52)).alloc (.cells #[.string ⟨#[]⟩,.slice none 0 0] 70)).heap.size=w.heap.size+2:=by simp
 have HW:=zH (hW.later hbw);have HV:=zH (hV.later hbw);have HP:=zH (hP.keep (w':=((w.alloc (.cells #[.string ⟨fn.toArray⟩,.slice pA ps.length pc,.slice bA bn bc] 52)).alloc (.cells #[.string ⟨#[]⟩,.slice none 0 0] 70))) fun b _ hl=>hbw.block b hl);have HW0:=zH hW;have HP0:=zH hP;have hml:=hW.ml;have hms:=zH hW.ms;have hgl:=hW.cells.2.2.2.2.2.2;have hql:=hW.src.lt;clear hW hV hP;go_enter Tryz.func56,Tryz.ntmps56;go_wp2_with fail;generalize hw2:((w.alloc (.cells #[.string ⟨fn.toArray⟩,.slice pA ps.length pc,.slice bA bn bc] 52)).alloc (.cells #[.string ⟨#[]⟩,.slice none 0 0] 70))=W2 at *;have HBW:=zH hbw;have HSZ:=zH hsz;have HX1:=zH hn1;have HX2:=zH hn2;clear hw2 hbw hsz hn1 hn2
 go_loopw [7,8] (fun v j wr=>∃k:Nat,k≤W.ms.length∧j=.int .i64 k∧Hid (RfL (w.heap.size+2) W2 ((W.ms.take k).map (·.name)) v wr)) (fun _ j _=>W.ms.length-(intOf j).toNat)
 case atStart=>exact⟨0,Nat.zero_le _,rfl,OwnR.nil _ _ _ _,by rw[←HSZ.out];exact Below.refl _ _⟩
 case round =>
  obtain⟨k,hk,rfl,hL⟩:=hrel;obtain⟨hO,hB⟩:=hL.out;have hB':Below W2.heap.size W2 wr:=by rw[HSZ.out];exact hB
  have hWr:=HW.out.later hB';obtain⟨q0,q2,q3,q4,q5,-,hgl'⟩:=hWr.cells;obtain⟨vA,vc,rfl⟩:=hO.form;have hsl:w.heap.size+2≤wr.heap.size:=by have:=hB.size;have:=HSZ.out;omega
  have HO:=zH hO;have HB:=zH hB;have HWr:=zH hWr;have HPr:=zH (HP.out.keep (w':=wr) fun b _ hl=>hB'.block b hl);have HVr:=zH (HV.out.later hB');have HR0:=zH ((hB'.block _ (by rw[HSZ.out];omega)).trans HX1.out);have HR1:=zH ((hB'.block _ (by rw[HSZ.out];omega)).trans HX2.out);clear hL hO hB hB' hWr q0 q3 q4 q5;by_cases hlt:k<W.ms.length
  ·
   obtain⟨b,hAM,n1,n2,c0,c2⟩:=HWr.out.mx k hlt;rw[hAM] at q2;have hnl:(W.ms[k]).name.length≤16:=(hms.out k hlt).2;have HNS:Hid ((W.ms.take (k+1)).map (·.name)=(W.ms.take k).map (·.name)++[(W.ms[k]).name]):=by show _=_;rw[List.take_succ_eq_append_getElem hlt,List.map_append];rfl
   have HLN:Hid (((W.ms.take k).map (·.name)).length=k):=by show _=_;simp;omega
   generalize hNs:(W.ms.take k).map (·.name)=Ns at *;generalize hnm:(W.ms[k]).name=nm at *;clear hNs hnm hAM c2 n1 n2;have hNl:Ns.length≤4:=by have:=HLN.out;omega
   go_wp2_with (first|(at_builtin;refine wpList_append_lies _ rfl (.tmp 23) (.tmp 33) 26 rfl (w.heap.size+2) 9 i0 _ 1 16 Tryz.underlying26 hi hz0 hz1 hz2 rfl (by decide) _ Ns.length (strK.cs Ns) rfl (HO.out.alloc _).1 ⟨wr.heap.size,0,none⟩ 1 1 [.string ⟨nm.toArray⟩] rfl rfl (zak wr _ rfl _ _) (strK.one nm) (by omega) (by unfold maxLen;omega) (by omega) (by simp;omega) _ rfl ?_));intro g cap w5 hown hgrow hlies hgl;have HO5:Hid (OwnR strK 9 w5 (w.heap.size+2) (.slice (some ⟨g,0,none⟩) (Ns.length+1) cap) (Ns++[nm])):=by
    refine⟨?_,fun _ _=>trivial⟩;rw[strK.cs_snoc,List.length_append];exact hown
   have HB5:=zH (zif HB.out hgrow (fun k hk=>(HO.out.1.lt k hk).1) (by have:=HSZ.out;omega));clear hown hgrow hlies hgl HPr HVr HR0 HR1 HWr;go_wp2_with fail;go_roundw
   case rel =>
    refine⟨k+1,by omega,by go_num,?_⟩;rw[HNS.out,show Ns.length+1=(Ns++[nm]).length by simp];exact⟨by rw[List.length_append];exact HO5.out,HB5.out⟩
   case measure=>simp[intOf];omega
  ·
   have hke:W.ms.take k=W.ms:=List.take_of_length_le (by omega);rw[hke] at HO;have HNL:Hid ((W.ms.map (·.name)).length=W.ms.length):=by show _=_;simp
   have hln:(List.map (fun x=>x.name) (List.take k W.ms)).length=W.ms.length:=by rw[hke];simp
   rw[hln];clear hke hln;go_wp2_with fail;have hr0:rfN W.ms (ps.take 0)=W.ms.map (·.name):=by unfold rfN;simp
   rw[←hr0] at HO;have HRL:Hid (∃vA' vc',RfL (w.heap.size+2) W2 (rfN W.ms (ps.take 0)) (.slice vA' (rfN W.ms (ps.take 0)).length vc') wr∧vA'=vA∧vc'=vc):=⟨vA,vc,⟨by
    have:=HO.out;rw[hr0] at this ⊢;simpa using this,HB.out⟩,rfl,rfl⟩
   have hn0:(rfN W.ms (ps.take 0)).length=W.ms.length:=by rw[hr0];simp
   clear HO HNL hk hlt hr0 HPr HVr HR0 HR1 HWr HB q2 hgl' hsl
   go_loopw [7,10] (fun v j wr=>∃k:Nat,k≤ps.length∧j=.int .i64 k∧Hid (RfL (w.heap.size+2) W2 (rfN W.ms (ps.take k)) v wr)) (fun _ j _=>ps.length-(intOf j).toNat)
   case atStart =>
    refine⟨0,Nat.zero_le _,rfl,?_⟩;obtain⟨vA',vc',h,rfl,rfl⟩:=HRL.out;rw[hn0] at h;exact h
   case round =>
    clear HRL hn0;obtain⟨k,hk,rfl,hL⟩:=hrel;obtain⟨hO,hB⟩:=hL.out;have hB':Below W2.heap.size W2 wr:=by rw[HSZ.out];exact hB
    obtain⟨vA,vc,rfl⟩:=hO.form;have hsl:w.heap.size+2≤wr.heap.size:=by have:=hB.size;have:=HSZ.out;omega
    have hf:=(hB'.block _ (by rw[HSZ.out];omega)).trans HX1.out;obtain⟨f0,f1,f2⟩:=zcG hf;have HO:=zH hO;have HB:=zH hB;have HPr:=zH (HP.out.keep (w':=wr) fun b _ hl=>hB'.block b hl);have HLE:=zH (rfN_len W.ms (ps.take k));have hrl:(rfN W.ms (ps.take k)).length≤8:=by have:=HLE.out.2;simp at this;omega
    clear hL hO hB hB' hf;by_cases hlt:k<ps.length
    ·
     obtain⟨b,off,hpA,hbS,c0,c1⟩:=HPr.out k hlt;have HBL:Hid (b<w.heap.size):=by
      obtain⟨b2,off2,e2,-,d0,-⟩:=HP0.out k hlt;rw[hpA] at e2;injection e2 with e2;injection e2 with e2
      have:=World.block_lt_of_cell? _ _ d0;show b<_;simp at this;omega
     subst hpA;have HSN:=zH (rfN_snoc W.ms ps k hlt);generalize hNs:rfN W.ms (ps.take k)=Ns at *;have i0':(0:Int)≤(k:Int):=by omega
     have i1':(k:Int)<(ps.length:Int):=by omega
     cases hpm:ps[k].m with
     | false =>
      rw[hpm] at c1 HSN;clear hpm;go_wp2_with fail;go_roundw
      case rel =>
       refine⟨k+1,by omega,by go_num,?_⟩;rw[HSN.out];simp only[Bool.false_eq_true,if_false,List.append_nil];exact⟨HO.out,HB.out⟩
      case measure=>simp[intOf];omega
     | true =>
      rw[hpm] at c1 HSN;clear hpm;generalize ps[k].name=nm at *;have hbl:b<wr.heap.size:=World.block_lt_of_cell? _ _ c0;have hne0:(Value.slice vA Ns.length vc).ownBlock≠some w.heap.size:=fun e=>by have:=(HO.out.1.lt _ e).1;omega
      have hneb:(Value.slice vA Ns.length vc).ownBlock≠some b:=fun e=>by have:=(HO.out.1.lt _ e).1;have:=HBL.out;omega
      have HSN2:Hid (rfN W.ms (ps.take (k+1))=Ns++[nm,nm]):=HSN.out;clear HSN;go_wp2_with fail
      go_region_held3 (fun w'=>w'.cell? ⟨w.heap.size,1,none⟩=some (.slice (some ⟨b,off,none⟩) ps.length pc)∧w'.cell? ⟨b,off+k*2,none⟩=some (.string ⟨nm.toArray⟩))
       (first
        | go_keep
        | (go_split_ands;refine⟨?_,?_⟩<;>first|(rw[hgrow.cell_far _ (by simp;omega) (Ne.symm hne0)];simp[*];done)|(rw[hgrow.cell_far _ (by simp;omega) (Ne.symm hneb)];simp[*];done)))
       (first
        | (refine step_append_lies _ (by rfl) _ _ _ (by rfl) (w.heap.size+2) 9 i0 _ 1 16 Tryz.underlying26 hi hz0 hz1 hz2 rfl (by decide) (.slice vA Ns.length vc) Ns.length (strK.cs Ns) (by rfl) ((HO.out.1.drew).alloc _) ⟨wr.heap.size,0,none⟩ 2 2 [.string ⟨nm.toArray⟩,.string ⟨nm.toArray⟩] (by rfl) (by rfl) (World.news_of_block (heap_alloc_new wr.drew _)) (by simp[Value.oneCell']) (by omega) (by unfold maxLen;omega) (by omega) (by simp;omega) (wr.heap.size+1) (by simp) ?_;intro gg cap' w5 hown5 hgrow hat5 hlt5))
      have HO5:Hid (OwnR strK 9 w5 (w.heap.size+2) (.slice (some ⟨gg,0,none⟩) (Ns.length+2) cap') (Ns++[nm,nm])):=OwnR.snoc2 hown5;have HB5:=zH (zif (o:=.cells #[.string ⟨nm.toArray⟩,.string ⟨nm.toArray⟩] 9) (v:=.slice vA Ns.length vc) HB.out.drew hgrow (fun j hj=>(HO.out.1.lt j hj).1) (by have:=HSZ.out;omega));clear hown5 hgrow hat5 hlt5 HPr f0 f1 f2 c0 c1 hne0 hneb;go_wp2_with fail;go_roundw
      case rel =>
       refine⟨k+1,by omega,by go_num,?_⟩;rw[HSN2.out,show Ns.length+2=(Ns++[nm,nm]).length by simp];exact⟨by rw[List.length_append];exact HO5.out,HB5.out⟩
      case measure=>simp[intOf];omega
    ·
     have hke:ps.take k=ps:=List.take_of_length_le (by omega);rw[hke] at HO HLE hrl;have HWr:=zH (HW.out.later (by rw[HSZ.out];exact HB.out));have HVr:=zH (HV.out.later (by rw[HSZ.out];exact HB.out));have HR1:=zH ((HB.out.block (w.heap.size+1) (by omega)).trans HX2.out);have hgl':=HWr.out.cells.2.2.2.2.2.2;rw[hke];obtain⟨q0,q2,q3,q4,q5,-,-⟩:=HWr.out.cells;have HMX:=zH HWr.out.mx;clear hke HPr q3 q4 q5;have hNs:=HLE.out;have HNlow:=zH (rfN_low W.ms ps);have HNhigh:=zH (rfN_high W.ms ps);generalize rfN W.ms ps=Ns at *;go_wp2_with fail;refine(zaq _ W.q W.xs i ((Ns.length:Nat):Int) HWr.out.src (by omega) (by omega)).mono ?_;rintro e w3 ⟨rfl,hS3,hG3⟩;rw[Int.toNat_natCast];have hkl:=zav W.xs i Ns.length (by omega);generalize zad W.xs i Ns.length=m at *;have HW3:=zH (HWr.out.next hS3 hG3);have HO3:=zH (HO.out.grown hG3 (by omega));have HV3:=zH (HVr.out.grown hG3);have HR3:=zH ((hG3.block _ (lt_of_block HR1.out) (fun e=>by injection e with e;omega)).trans HR1.out);have HG3:=zH (rf_low HBW.out HB.out hG3 HSZ.out);obtain⟨nb,rfl,hnb,hnl,cn⟩:=ze0 HO3.out m hkl;have hs3:w.heap.size+2≤w3.heap.size:=by omega
     obtain⟨z0,z2,-,-,-,-,hgl3⟩:=HW3.out.cells;have HNM:Hid (∀h:m<W.ms.length,Ns[m]=(W.ms[m]).name):=fun h=>HNlow.out m h hkl;have HNH:Hid (W.ms.length≤m→∃i,∃hi:i<ps.length,ps[i].m=true∧Ns[m]=ps[i].name):=fun h=>HNhigh.out m h hkl;generalize Ns[m]=nm at *;obtain⟨r0,r1,g0,g1,grl⟩:=mblk2 HR3.out;have i0m:(0:Int)≤(m:Int):=by omega
     have i1m:(m:Int)<(Ns.length:Int):=by omega
     clear hS3 hG3 q0 q2 HO HO3 HVr HWr HR1 HNlow HNhigh HB HP HP0 HMX HW HV HX1 HX2 f0 f1 f2;by_cases hmm:m<W.ms.length
     ·
      obtain⟨b',hAM,n1,n2,c0,c2⟩:=HW3.out.mx m hmm;rw[hAM] at z2;have hbl':b'<w3.heap.size:=World.block_lt_of_cell? _ _ c2;by_cases hsz0:(W.ms[m]).size=0
      ·
       have ts:(((W.ms[m]).size:Nat):Int)=0:=by omega
       have hrw:RfW W.ms ps vs ⟨nm,none⟩:=.inl ⟨m,hmm,HNM.out hmm,.inl ⟨hsz0,rfl⟩⟩;go_wp2_with fail;obtain⟨e0,e1⟩:=zdx HR3.out (.string ⟨nm.toArray⟩) (.slice none 0 0) (.cells #[.string ⟨nm.toArray⟩,.slice none 0 0] 70);unfold set2 at e0 e1;refine bodyPost_ret (v:=.agg #[.string ⟨nm.toArray⟩,.slice none 0 0]) (by simp only[results,Tryz.results56];simp[go_sem,e0,e1]) rfl ?_;exact zhM (r:=⟨nm,none⟩) HW0.out hrw rfl HW3.out.src HG3.out (fun b hb=>(Below.heap_alloc _ _ b (by simp;omega)).trans (ze4 w3 (w.heap.size+1) _ _ b (by omega))) ⟨rfl,rfl,rfl⟩ (by simp)
      ·
       have hsz3:=(hms.out m hmm).1;have HX:=zH (zhh (w3.alloc (.cells #[.string ⟨nm.toArray⟩,.slice none 0 0] 70)) W (zaf W.xs i) left vs A c (W.ms[m]).size (by omega) hsz3 (HW3.out.alloc _) (HV3.out.alloc _) hn);have HNS:Hid (∀E,ExW 1 vs E→RfW W.ms ps vs ⟨nm,some E⟩):=fun E hE=>.inl ⟨m,hmm,HNM.out hmm,.inr ⟨by omega,E,rfl,hE⟩⟩;generalize (W.ms[m]).size=size at *;have ts:=bF (show ((size:Nat):Int)≠0 by omega);have hps0:(0:Int)<(size:Int):=by omega
       go_wp2_with fail;refine HX.out.mono ?_;rintro e w4 ⟨f,E,i',rfl,hE,hM,hW4,hG4⟩;have hz3':(w3.alloc (.cells #[.string ⟨nm.toArray⟩,.slice none 0 0] 70)).heap.size=w3.heap.size+1:=by simp
       have hz4:w3.heap.size+1≤w4.heap.size:=by have:=hG4.size;omega
       have HRb:=zH ((hG4.block w3.heap.size (by omega) (fun e=>by injection e with e;omega)).trans (heap_alloc_new w3 _));have HR4:=zH ((hG4.block (w.heap.size+1) (by omega) (fun e=>by injection e with e;omega)).trans ((Below.heap_alloc w3 _ _ (by omega)).trans HR3.out));have HM4:=zH hM;have HW4:=zH hW4;have HG4:Hid (w.grownBy w4 (some W.q)):=za0 HG3.out (za6 hG4);have HE4:=zH (HNS.out E hE);obtain⟨rb0,rb1,gb0,gb1,gbl⟩:=mblk2 HRb.out;obtain⟨rr0,rr1,gr0,gr1,grl4⟩:=mblk2 HR4.out;clear hE hM hW4 hG4 r0 r1 g0 g1;have hq:=HW0.out.src.lt;unfold EF.val;go_wp2_with fail;have HR5:(w4.setCell ⟨w3.heap.size,1,none⟩ (.slice (some ⟨w4.heap.size,0,none⟩) 1 1)).heap[w.heap.size+1]?=_:=(Below.heap_setCell w4 ⟨w3.heap.size,1,none⟩ _ (w.heap.size+1) (by show w.heap.size+1≠w3.heap.size;omega)).trans HR4.out;obtain⟨e0,e1⟩:=zdx HR5 (.string ⟨nm.toArray⟩) (.slice (some ⟨w4.heap.size,0,none⟩) 1 1) (.cells #[.int .i64 f.op,.int .i64 f.num,.string ⟨f.name.toArray⟩,.slice f.A f.n f.c] 68);have hsz5:(w4.setCell ⟨w3.heap.size,1,none⟩ (.slice (some ⟨w4.heap.size,0,none⟩) 1 1)).heap.size=w4.heap.size:=by simp
       have hk5:∀b,b≠w3.heap.size→(w4.setCell ⟨w3.heap.size,1,none⟩ (.slice (some ⟨w4.heap.size,0,none⟩) 1 1)).heap[b]?=w4.heap[b]?:=fun b hb=>Below.heap_setCell w4 ⟨w3.heap.size,1,none⟩ _ b hb;have hwe:=wr_idx (w:=w) (w3:=w3) (w4:=w4) (nm:=nm) (f:=f) (by omega) (by omega) hsz5 hk5 (HM4.out.more (S':=(w3.heap.size+1≤·)) fun b hb=>by rw[hz3'] at hb;exact hb);unfold set2 at e0 e1;refine bodyPost_ret (v:=.agg #[.string ⟨nm.toArray⟩,.slice (some ⟨w4.heap.size,0,none⟩) 1 1]) (by simp only[results,Tryz.results56];simp[go_sem,e0,e1]) rfl ?_;exact zhM (r:=⟨nm,some E⟩) HW0.out HE4.out hwe.1 HW4.out.src HG4.out hwe.2.1 ⟨rfl,rfl,rfl⟩ hwe.2.2
     ·
      have hrw:RfW W.ms ps vs ⟨nm,none⟩:=.inr (by obtain⟨j,hj,h1,h2⟩:=HNH.out (by omega);exact⟨j,hj,h1,h2,rfl⟩);go_wp2_with fail;obtain⟨e0,e1⟩:=zdx HR3.out (.string ⟨nm.toArray⟩) (.slice none 0 0) (.cells #[.string ⟨nm.toArray⟩,.slice none 0 0] 70);unfold set2 at e0 e1;refine bodyPost_ret (v:=.agg #[.string ⟨nm.toArray⟩,.slice none 0 0]) (by simp only[results,Tryz.results56];simp[go_sem,e0,e1]) rfl ?_;exact zhM (r:=⟨nm,none⟩) HW0.out hrw rfl HW3.out.src HG3.out (fun b hb=>(Below.heap_alloc _ _ b (by simp;omega)).trans (ze4 w3 (w.heap.size+1) _ _ b (by omega))) ⟨rfl,rfl,rfl⟩ (by simp)
def WaP (w:World) (W:WP) (left:Nat) (ps gps:List Pm) (vs:List Nm) (e:Ending) (w':World):Prop :=
 ∃(l:List Ar) (A:Option Addr) (c i':Nat),e=.returned (.slice A l.length c)∧l.length=gps.length∧(∀j (h1:j<gps.length) (h2:j<l.length),ArW W.ms ps vs gps[j] l[j])∧ArsM w' (w.heap.size≤·) l A∧WrM w' W i' left∧w.grownBy w' (some W.q)
def WaL (w:World) (W:WP) (ps gps:List Pm) (vs:List Nm) (fo gO:Obj) (k:Nat) (v:Value) (wr:World):Prop :=
 ∃(P:List (Ar × ArG)) (i':Nat),P.length=k∧OwnR arK 77 wr (w.heap.size+2) v P∧Src wr W.q W.xs i'∧w.grownBy wr (some W.q)∧(∀j (h1:j<gps.length) (h2:j<P.length),ArW W.ms ps vs gps[j] P[j].1) ∧
  wr.heap[w.heap.size]?=some fo∧wr.heap[w.heap.size+1]?=some gO∧w.heap.size+2≤wr.heap.size
theorem OwnR.low {α:Type} {K:RowK α} {t:TypeId} {w:World} {B B':Nat} {v:Value} {P:List α} (h:OwnR K t w B v P) (hB:B'≤B):OwnR K t w B' v P:=by
 refine⟨⟨h.1.1,?_⟩,fun p hp=>K.more (h.2 p hp) fun b hb _=>⟨by omega,hb.2⟩⟩;rcases h.1.2 with h0|⟨g,cap,cur,e,hg,hb,r⟩
 ·
  exact .inl h0
 ·
  exact .inr ⟨g,cap,cur,e,by omega,hb,r⟩
theorem arW_snoc {ms:List Mx} {ps gps:List Pm} {vs:List Nm} {P:List (Ar × ArG)} {a:Ar × ArG} (h:∀j (h1:j<gps.length) (h2:j<P.length),ArW ms ps vs gps[j] P[j].1) (hk:P.length<gps.length) (ha:ArW ms ps vs gps[P.length] a.1) :
  ∀j (h1:j<gps.length) (h2:j<(P++[a]).length),ArW ms ps vs gps[j] (P++[a])[j].1:=by
 intro j h1 h2;by_cases hj:j<P.length
 ·
  rw[List.getElem_append_left hj];exact h j h1 hj
 ·
  have:j=P.length:=by simp at h2;omega
  subst this;simpa using ha
theorem WaL.snoc {w w3 w5:World} {W:WP} {i3:Nat} {ps gps:List Pm} {vs:List Nm} {fo gO o:Obj} {k:Nat} {v v':Value} {P:List (Ar × ArG)} {a:Ar × ArG} (hPk:P.length=k) (hO:OwnR arK 77 w3 (w.heap.size+2) v P) (hW:Src w3 W.q W.xs i3) (hqw:W.q<w.heap.size) (hG:w.grownBy w3 (some W.q))
  (hA:∀j (h1:j<gps.length) (h2:j<P.length),ArW W.ms ps vs gps[j] P[j].1) (hk:P.length<gps.length) (ha:ArW W.ms ps vs gps[P.length] a.1) (hf:w3.heap[w.heap.size]?=some fo) (hg:w3.heap[w.heap.size+1]?=some gO) (hs:w.heap.size+2≤w3.heap.size)
  (hin:arK.In (w3.alloc o) (fun b=>w.heap.size+2≤b∧some b≠v.ownBlock) a) (hown:w5.ownsRow (w.heap.size+2) 77 arK.sz v' (P.length+1) (arK.cs P++arK.cl a)) (hgrow:(w3.alloc o).grownBy w5 v.ownBlock)
  (hv:v'.ownBlock=v.ownBlock∨∃k,v'.ownBlock=some k∧(w3.alloc o).heap.size≤k):WaL w W ps gps vs fo gO (k+1) v' w5:=by
 have hne:∀b,b<w.heap.size+2→some b≠v.ownBlock:=fun b hb e=>by have:=(hO.1.lt b e.symm).1;omega
 have hkp:∀b,b<w3.heap.size→some b≠v.ownBlock→w5.heap[b]?=w3.heap[b]?:=fun b hb hn=>(hgrow.block b (by simp;omega) hn).trans (Below.heap_alloc w3 o b hb);have hG5:w.grownBy w5 (some W.q):=⟨hgrow.os.trans hG.os,hgrow.tape.trans hG.tape,hgrow.output.trans hG.output,Nat.le_trans hG.size (Nat.le_trans (by simp) hgrow.size),fun b hb hn=>(hkp b (by omega) (hne b (by omega))).trans (hG.block b hb hn)⟩;subst hPk;refine⟨P++[a],i3,by simp,(hO.alloc o).snoc hin hown hgrow hv,hW.keep fun b hb=>hkp b (by omega) (hne b (by omega)),hG5,arW_snoc hA hk ha,(hkp _ (by omega) (hne _ (by omega))).trans hf,(hkp _ (by omega) (hne _ (by omega))).trans hg,Nat.le_trans hs (Nat.le_trans (by simp) hgrow.size)⟩
set_option maxRecDepth 100000 in
set_option maxHeartbeats 8000000 in
theorem zfu (w:World) (W:WP) (i left:Nat) (vs:List Nm) (A:Option Addr) (c:Nat) (fn:Nm) (ps:List Pm) (pA bA:Option Addr) (pc bn bc:Nat) (gn:Nm) (gps:List Pm) (gA gB:Option Addr) (gc gbn gbc:Nat)
  (hW:WrM w W i left) (hV:StrN w W.q A vs) (hn:vs.length≤1000) (hP:PmsM w (fun b=>b≠W.g∧b≠W.q) ps pA) (hps:ps.length≤2) (hGP:PmsM w (fun b=>b≠W.g∧b≠W.q) gps gA) (hgps:gps.length≤2) :
  Calls Tryz.prog 58 #[.pointer (some ⟨W.g,0,none⟩),.agg #[.string ⟨fn.toArray⟩,.slice pA ps.length pc,.slice bA bn bc],.agg #[.string ⟨gn.toArray⟩,.slice gA gps.length gc,.slice gB gbn gbc],.slice A vs.length c] w (WaP w W left ps gps vs):=by
 obtain⟨i0,hi,hz0,hz1,hz2⟩:=info_parts Tryz.infoArg;obtain⟨hn1,hn2⟩:=new2 w (.cells #[.string ⟨fn.toArray⟩,.slice pA ps.length pc,.slice bA bn bc] 52) (.cells #[.string ⟨gn.toArray⟩,.slice gA gps.length gc,.slice gB gbn gbc] 52);have hbw:Below w.heap.size w ((w.alloc (.cells #[.string ⟨fn.toArray⟩,.slice pA ps.length pc,.slice bA bn bc] 52)).alloc (.cells #[.string ⟨gn.toArray⟩,.slice gA gps.length gc,.slice gB gbn gbc] 52)):=((Below.refl _ _).alloc (lR _) _).alloc (by simp) _;have hsz:((w.alloc (.cells #[.string ⟨fn.toArray⟩,.slice pA ps.length pc,.slice bA bn bc] 52)).alloc (.cells #[.string ⟨gn.toArray⟩,.slice gA gps.length gc,.slice gB gbn gbc] 52)).heap.size=w.heap.size+2:=by simp
 have HL0:Hid (WaL w W ps gps vs (.cells #[.string ⟨fn.toArray⟩,.slice pA ps.length pc,.slice bA bn bc] 52 (0,0)) (.cells #[.string ⟨gn.toArray⟩,.slice gA gps.length gc,.slice gB gbn gbc] 52 (0,0)) 0 (.slice none 0 0) ((w.alloc (.cells #[.string ⟨fn.toArray⟩,.slice pA ps.length pc,.slice bA bn bc] 52)).alloc (.cells #[.string ⟨gn.toArray⟩,.slice gA gps.length gc,.slice gB gbn gbc] 52))) :=
  ⟨[],i,rfl,OwnR.nil _ _ _ _,(hW.later hbw).src,za2 hbw,fun j _ h2=>absurd h2 (by simp),hn1,hn2,by omega⟩
 have HW0:=zH hW;have HV:=zH hV;have HP:=zH hP;have HGP:=zH hGP;have hgl:W.g<w.heap.size:=hW.cells.2.2.2.2.2.2;have hql:W.q<w.heap.size:=hW.src.lt;clear hW hV hP hGP hbw hsz hn1 hn2;go_enter Tryz.func58,Tryz.ntmps58;go_wp2_with fail
 go_loopw [9,10] (fun v j wr=>∃k:Nat,k≤gps.length∧j=.int .i64 k∧Hid (WaL w W ps gps vs (.cells #[.string ⟨fn.toArray⟩,.slice pA ps.length pc,.slice bA bn bc] 52 (0,0)) (.cells #[.string ⟨gn.toArray⟩,.slice gA gps.length gc,.slice gB gbn gbc] 52 (0,0)) k v wr)) (fun _ j _=>gps.length-(intOf j).toNat)
 case atStart=>exact⟨0,Nat.zero_le _,rfl,HL0.out⟩
 case round =>
  clear HL0;obtain⟨k,hk,rfl,hL⟩:=hrel;obtain⟨P,i',hPk,hO,hWr,hGr,hA,hf,hg,hsl⟩:=hL.out;subst hPk;obtain⟨vA,vc,rfl⟩:=hO.form;have HO:=zH hO;have HS:=zH hWr;have HWr:=zH (HW0.out.next hWr hGr);have HGr:=zH hGr;have HA:=zH hA;have HF:=zH hf;have HG:=zH hg;have HVr:=zH (HV.out.grown hGr);have HPr:=zH (HP.out.keep (w':=wr) fun b hb hl=>hGr.block b hl (fun e=>by injection e with e;exact hb.2 e));have HGPr:=zH (HGP.out.keep (w':=wr) fun b hb hl=>hGr.block b hl (fun e=>by injection e with e;exact hb.2 e));obtain⟨f0,f1,f2⟩:=zcG hf;obtain⟨g0,g1,g2⟩:=zcG hg;clear hL hO hWr hGr hA hf hg;by_cases hlt:P.length<gps.length
  ·
   obtain⟨b,off,hgA,hbS,c0,c1⟩:=HGPr.out P.length hlt;subst hgA;have i0':(0:Int)≤(P.length:Int):=by omega
   have i1':(P.length:Int)<(gps.length:Int):=by omega
   cases hpm:gps[P.length].m with
   | true =>
    rw[hpm] at c1;go_wp2_with fail;refine(zdf wr W i' left vs A c fn ps pA bA pc bn bc HWr.out HVr.out hn HPr.out hps).mono ?_;rintro e w3 ⟨r,rA,rn,rc,i3,rfl,hR,hI,hW3,hG3⟩;have HG3:=zH (za0 HGr.out hG3);have HO3:=zH (HO.out.grown hG3 (by omega));have HS3:=zH hW3.src;have HF3:=zH ((hG3.block _ (by omega) (fun e=>by injection e with e;omega)).trans HF.out);have HGG:=zH ((hG3.block _ (by omega) (fun e=>by injection e with e;omega)).trans HG.out);have HI:Hid (∀o,arK.In (w3.alloc o) (wr.heap.size≤·) ((⟨true,r,noEx⟩:Ar),(⟨rA,rn,rc,⟨0,0,[],none,0,0⟩⟩:ArG))):=fun o=>arK.keep ⟨hI,ExM.leaf _ _ _ _ _ _ _⟩ fun b _ hl=>Below.heap_alloc w3 o b hl;have HR:Hid (ArW W.ms ps vs gps[P.length] (⟨true,r,noEx⟩:Ar)):=.inl ⟨hpm,rfl,hR,rfl⟩;have hl3:w.heap.size+2≤w3.heap.size:=Nat.le_trans hsl hG3.size;clear hR hI hW3 hG3 hpm f0 f1 f2 g0 g1 g2 c0 c1;go_wp2_with (first|(at_builtin;refine wpList_append_lies _ rfl (.tmp 24) (.tmp 30) 71 rfl (w.heap.size+2) 77 i0 _ 7 104 Tryz.underlying71 hi hz0 hz1 hz2 rfl (by decide) _ P.length (arK.cs P) rfl (HO3.out.alloc _).1 ⟨w3.heap.size,0,none⟩ 1 1 [.bool true,.string ⟨r.name.toArray⟩,.slice rA rn rc,.int .i64 0,.int .i64 0,.string ⟨#[]⟩,.slice none 0 0] rfl rfl (zak w3 _ rfl _ _) (arK.one ((⟨true,r,noEx⟩:Ar),⟨rA,rn,rc,⟨0,0,[],none,0,0⟩⟩)) (by omega) (by unfold maxLen;omega) (by omega) (by simp;omega) _ rfl ?_));intro gb cap w5 hown hgrow hlies hgl;have HL5:=zH (WaL.snoc (W:=W) (gps:=gps) (a:=((⟨true,r,noEx⟩:Ar),(⟨rA,rn,rc,⟨0,0,[],none,0,0⟩⟩:ArG))) rfl HO3.out HS3.out hql HG3.out HA.out hlt HR.out HF3.out HGG.out hl3 (arK.fresh (HI.out _) HO.out (lR _) hsl) hown hgrow (zah hlies (by simp)));clear hown hgrow hlies hgl HR HI;go_wp2_with fail;go_roundw
    case rel=>exact⟨P.length+1,by omega,by go_num,HL5.out⟩
    case measure=>simp[intOf];omega
   | false =>
    rw[hpm] at c1;go_wp2_with fail;refine(zca wr W i' left vs A c HWr.out HVr.out hn).mono ?_;rintro e w3 ⟨f,E,i3,rfl,hR,hI,hW3,hG3⟩;have HG3:=zH (za0 HGr.out hG3);have HO3:=zH (HO.out.grown hG3 (by omega));have HS3:=zH hW3.src;have HF3:=zH ((hG3.block _ (by omega) (fun e=>by injection e with e;omega)).trans HF.out);have HGG:=zH ((hG3.block _ (by omega) (fun e=>by injection e with e;omega)).trans HG.out);have HI:Hid (∀o,arK.In (w3.alloc o) (wr.heap.size≤·) ((⟨false,noRf,E⟩:Ar),(⟨none,0,0,f⟩:ArG))):=fun o=>arK.keep ⟨rfl,hI⟩ fun b _ hl=>Below.heap_alloc w3 o b hl;have HR:Hid (ArW W.ms ps vs gps[P.length] (⟨false,noRf,E⟩:Ar)):=.inr ⟨hpm,rfl,rfl,hR⟩;have hl3:w.heap.size+2≤w3.heap.size:=Nat.le_trans hsl hG3.size;unfold EF.val;clear hR hI hW3 hG3 hpm f0 f1 f2 g0 g1 g2 c0 c1;go_wp2_with (first|(at_builtin;refine wpList_append_lies _ rfl (.tmp 32) (.tmp 37) 71 rfl (w.heap.size+2) 77 i0 _ 7 104 Tryz.underlying71 hi hz0 hz1 hz2 rfl (by decide) _ P.length (arK.cs P) rfl (HO3.out.alloc _).1 ⟨w3.heap.size,0,none⟩ 1 1 [.bool false,.string ⟨#[]⟩,.slice none 0 0,.int .i64 f.op,.int .i64 f.num,.string ⟨f.name.toArray⟩,.slice f.A f.n f.c] rfl rfl (zak w3 _ rfl _ _) (arK.one ((⟨false,noRf,E⟩:Ar),⟨none,0,0,f⟩)) (by omega) (by unfold maxLen;omega) (by omega) (by simp;omega) _ rfl ?_));intro gb cap w5 hown hgrow hlies hgl;have HL5:=zH (WaL.snoc (W:=W) (gps:=gps) (a:=((⟨false,noRf,E⟩:Ar),(⟨none,0,0,f⟩:ArG))) rfl HO3.out HS3.out hql HG3.out HA.out hlt HR.out HF3.out HGG.out hl3 (arK.fresh (HI.out _) HO.out (lR _) hsl) hown hgrow (zah hlies (by simp)));clear hown hgrow hlies hgl HR HI;go_wp2_with fail;go_roundw
    case rel=>exact⟨P.length+1,by omega,by go_num,HL5.out⟩
    case measure=>simp[intOf];omega
  ·
   go_wp2_with fail;go_ret;have he:P.length=gps.length:=by omega
   refine⟨P.map (·.1),vA,vc,i',by rw[List.length_map];rfl,by rw[List.length_map];exact he,fun j h1 h2=>?_,?_,HWr.out,HGr.out⟩
   ·
    rw[List.getElem_map];exact HA.out j h1 (by simpa using h2)
   ·
    exact zcJ (HO.out.low (by omega))
section
variable {P:Program}
theorem ze6 (w:World) (t ty e:TypeId) (i:TypeInfo) (ht:P.underlying t=some (.slice e)) (hi:P.info? e=some i) (b A:Option Addr) (n cap c:Nat) (hn:n≤cap) :
  (Builtin.append_ #[t,t] ty #[.slice b n cap,.slice A 0 c]).run P w=.ok (.slice b n cap) w:=by
 have hf:(Builtin.firstCells i.size 0 (.slice A 0 c)).run P w=.ok #[] w:=by
  cases A with
  | none=>simp[Builtin.firstCells]
  | some a=>exact run_firstCells_some (P:=P) w i.size 0 a 0 c [] (by simp) (by simp)
 cases b with
 | none=>simp[Builtin.append_,run_underlying ht,sizeOf,typeInfo,hi,Builtin.lenOf,hn,hf]
 | some b=>simp[Builtin.append_,run_underlying ht,sizeOf,typeInfo,hi,Builtin.lenOf,hn,hf,storeCells]
theorem zdg (w:World) {ops:Array Oper} {rest:List Oper} {o:Oper} {a:Act} {Q:Exit→Act→World→Prop} (hgd:o.guard=none) (s x:Operand) (t:TypeId)
  (ho:o.op=.call {callee:=.builtin .append,args:=#[s,x],argTypes:=#[t,t]}) (e:TypeId) (i:TypeInfo) (ht:P.underlying t=some (.slice e)) (hi:P.info? e=some i)
  (b A:Option Addr) (n cap c:Nat) (hn:n≤cap) (hs:a.eval s=.slice b n cap) (hx:a.eval x=.slice A 0 c)
  (h:wpList P ops Q rest (a.put o.dst (.slice b n cap)) w):wpList P ops Q (o::rest) a w:=by
 refine wpList_plain hgd fun K hK=>?_;have hr:=ze6 (P:=P) w t o.type e i ht hi b A n cap c hn;unfold Oper.wp execOp;simp only[ho,resolve,invoke,builtin,Sem.run_bind,Sem.run_pure,Result.andThen_ok,List.map_toArray,List.map_cons,List.map_nil,hs,hx,hr];exact hK _ _ h
theorem zb8 (w:World) {ops:Array Oper} {rest:List Oper} {o:Oper} {a:Act} {Q:Exit→Act→World→Prop} (hgd:o.guard=none) (s x:Operand) (t:TypeId)
  (ho:o.op=.call {callee:=.builtin .append,args:=#[s,x],argTypes:=#[t,t]})
  (base:Nat) (e:TypeId) (i:TypeInfo) (z:Value) (size bytes:Nat) (ht:P.underlying t=some (.slice e)) (hi:P.info? e=some i) (hz:i.zero=some z)
  (hsize:i.size=size) (hby:i.bytes=bytes) (hzs:z.cells.size=size) (hsz:0<size)
  (g0 cap0:Nat) (n:Nat) (xs:List Value) (hs:a.eval s=.slice (some ⟨g0,0,none⟩) n cap0) (hown:w.ownsRow base e size (.slice (some ⟨g0,0,none⟩) n cap0) n xs)
  (A:Option Addr) (m c:Nat) (news:List Value) (hx:a.eval x=.slice A m c) (hl:news.length=m*size) (hA:0<m→∃ad,A=some ad∧∀j u,news[j]?=some u→w.cell? (ad.add j)=some u) (h1:∀u∈news,u.oneCell'=true)
  (h63:n+m≤maxLen) (hbytes:(n+m)*bytes≤140737488355328) (hbase:base≤w.heap.size) (H:Nat) (hH:w.heap.size=H)
  (h:∀g cap w',w'.ownsRow base e size (.slice (some ⟨g,0,none⟩) (n+m) cap) (n+m) (xs++news)→w.grownBy w' (some g0)→(some g0=some g∨g=H)→g<w'.heap.size→wpList P ops Q rest (a.put o.dst (.slice (some ⟨g,0,none⟩) (n+m) cap)) w'):wpList P ops Q (o::rest) a w:=by
 by_cases hm:m=0
 ·
  subst hm;have hnil:news=[]:=List.length_eq_zero_iff.1 (by omega);subst hnil;have hcap:n≤cap0:=by
   rcases hown.2 with⟨h0,_⟩|⟨g,cap,cur,e1,_,_,hc,_⟩
   ·
    cases h0
   ·
    injection e1 with _ _ e3;omega
  exact zdg w hgd s x t ho e i ht hi _ A n cap0 c hcap hs hx (h g0 cap0 w (by simpa using hown) ⟨rfl,rfl,rfl,lR _,fun _ _ _=>rfl⟩ (.inl rfl) (hown.lt g0 rfl).2)
 ·
  obtain⟨ad,rfl,hnews⟩:=hA (by omega);exact wpList_append_lies w hgd s x t ho base e i z size bytes ht hi hz hsize hby hzs hsz _ n xs hs hown ad m c news hx hl hnews h1 (by omega) h63 hbytes hbase H hH h
end
def NewsAt (w:World) (g:Nat) (cs:List Value):Prop:=∀j u,cs[j]?=some u→w.cell? ((⟨g,0,none⟩:Addr).add j)=some u
theorem NewsAt.alloc (W:World) (g:Nat) (hg:g=W.heap.size) (cs:List Value) (t:TypeId):NewsAt (W.alloc (.cells cs.toArray t)) g cs:=fun j u hj=>zak W g hg cs t j u hj
theorem NewsAt.keep {w w':World} {g:Nat} {cs:List Value} (h:NewsAt w g cs) (hk:w'.heap[g]?=w.heap[g]?):NewsAt w' g cs:=fun j u hj=>by
 have h1:=h j u hj;rw[Go.WideShapes.add_plain] at h1 ⊢;exact(World.cell?_of_block (a:=⟨g,0+j,none⟩) hk).trans h1
theorem NewsAt.set {w:World} {g T k:Nat} {u:Value} {cs:List Value} (h:NewsAt w g cs) (hT:g≠T):NewsAt (w.setCell ⟨T,k,none⟩ u) g cs:=h.keep (Below.heap_setCell w ⟨T,k,none⟩ u g hT)
theorem NewsAt.drew {w:World} {g:Nat} {cs:List Value} (h:NewsAt w g cs):NewsAt w.drew g cs:=h
theorem zbN (ca cb:UInt8) (w:World) (g c:Nat) (h:NewsAt w g [.int .u8 (ca.toNat:Int),.int .u8 (cb.toNat:Int)]):(convert 23 9 (.slice (some ⟨g,0,none⟩) 2 c)).run Tryz.prog w=.ok (.string ⟨[ca,cb].toArray⟩) w:=by
 refine run_convert_bytes_back (P:=Tryz.prog) w 23 9 5 ⟨g,0,none⟩ c [ca,cb] Tryz.underlying23 Tryz.underlying5 Tryz.underlying9 ?_;intro j hj;refine h j _ ?_
 match j,hj with
 | 0,_=>rfl
 | 1,_=>rfl
theorem vname_a (lo:Nat) (h:lo≤24):IntKind.u8.wrap (IntKind.i64.wrap (97+(lo:Int).tmod 26))=((UInt8.ofNat (97+lo % 26)).toNat:Int):=by
 have:∀k:Fin 25,IntKind.u8.wrap (IntKind.i64.wrap (97+((k.val:Nat):Int).tmod 26))=((UInt8.ofNat (97+k.val % 26)).toNat:Int):=by decide
 exact this ⟨lo,by omega⟩
theorem vname_b (lo:Nat) (h:lo≤24):IntKind.u8.wrap (IntKind.i64.wrap (97+(IntKind.i64.wrap ((lo:Int) / 26)).tmod 26))=((UInt8.ofNat (97+lo / 26 % 26)).toNat:Int):=by
 have:∀k:Fin 25,IntKind.u8.wrap (IntKind.i64.wrap (97+(IntKind.i64.wrap (((k.val:Nat):Int) / 26)).tmod 26))=((UInt8.ofNat (97+k.val / 26 % 26)).toNat:Int):=by decide
 exact this ⟨lo,by omega⟩
theorem zew {a q T:Nat} {wr w3 w4:World} {c0 c1 c2 c3 c4 c5 c6 c7 c8 c9 c10:Value} {t:TypeId} (hF:Fr a q wr w3) (hG:w3.grownBy w4 (some q)) (hT:w3.heap[T]?=some (.cells #[c0,c1,c2,c3,c4,c5,c6,c7,c8,c9,c10] t (0,0))) (hq:T≠q) :
  Fr a q wr w4∧w4.heap[T]?=some (.cells #[c0,c1,c2,c3,c4,c5,c6,c7,c8,c9,c10] t (0,0))∧(w4.cell? ⟨T,0,none⟩=some c0∧w4.cell? ⟨T,1,none⟩=some c1∧w4.cell? ⟨T,2,none⟩=some c2∧w4.cell? ⟨T,3,none⟩=some c3∧w4.cell? ⟨T,4,none⟩=some c4∧w4.cell? ⟨T,5,none⟩=some c5∧w4.cell? ⟨T,6,none⟩=some c6∧w4.cell? ⟨T,7,none⟩=some c7∧w4.cell? ⟨T,8,none⟩=some c8∧w4.cell? ⟨T,9,none⟩=some c9∧w4.cell? ⟨T,10,none⟩=some c10)∧(∀j,w4.frozen? ⟨T,j,none⟩=false)∧T<w4.heap.size∧T≠w4.heap.size∧w3.heap.size≤w4.heap.size:=by
 have h4:=(hG.block _ (lt_of_block hT) (fun e=>by injection e with e;exact hq e)).trans hT;obtain⟨s0,s1,s2,s3,s4,s5,s6,s7,s8,s9,s10,sf,hl⟩:=zac h4;exact⟨hF.trans (Fr.of_grown hG),h4,⟨s0,s1,s2,s3,s4,s5,s6,s7,s8,s9,s10⟩,sf,hl,by omega,hG.size⟩
theorem za9 {w:World} {a:Addr} {v:Value} (o:Obj) (h:w.cell? a=some v):(w.alloc o).cell? a=some v:=cell_later (((Below.refl _ _).alloc (lR _) o)) h
theorem za7 {w:World} {a:Addr} {v:Value} {T k:Nat} {u:Value} (hT:a.block≠T) (h:w.cell? a=some v):(w.setCell ⟨T,k,none⟩ u).cell? a=some v:=(World.cell?_of_block (Below.heap_setCell w ⟨T,k,none⟩ u a.block hT)).trans h
theorem ziV {a q T:Nat} {wr w3 w4:World} {c0 c1 c2 c3 c4 c5 c6 c7 c8 c9 c10:Value} {t:TypeId} (hF:Fr a q wr w3) (hG:Fr a q w3 w4) (hT:w3.heap[T]?=some (.cells #[c0,c1,c2,c3,c4,c5,c6,c7,c8,c9,c10] t (0,0))) (ha:T≠a) (hq:T≠q) :
  Fr a q wr w4∧w4.heap[T]?=some (.cells #[c0,c1,c2,c3,c4,c5,c6,c7,c8,c9,c10] t (0,0))∧(w4.cell? ⟨T,0,none⟩=some c0∧w4.cell? ⟨T,1,none⟩=some c1∧w4.cell? ⟨T,2,none⟩=some c2∧w4.cell? ⟨T,3,none⟩=some c3∧w4.cell? ⟨T,4,none⟩=some c4∧w4.cell? ⟨T,5,none⟩=some c5∧w4.cell? ⟨T,6,none⟩=some c6∧w4.cell? ⟨T,7,none⟩=some c7∧w4.cell? ⟨T,8,none⟩=some c8∧w4.cell? ⟨T,9,none⟩=some c9∧w4.cell? ⟨T,10,none⟩=some c10)∧(∀j,w4.frozen? ⟨T,j,none⟩=false)∧T<w4.heap.size∧T≠w4.heap.size∧w3.heap.size≤w4.heap.size:=by
 have h4:=(hG.block _ (lt_of_block hT) ha hq).trans hT;obtain⟨s0,s1,s2,s3,s4,s5,s6,s7,s8,s9,s10,sf,hl⟩:=zac h4;exact⟨hF.trans hG,h4,⟨s0,s1,s2,s3,s4,s5,s6,s7,s8,s9,s10⟩,sf,hl,by omega,hG.size⟩
theorem stp11 {T:Nat} {w4:World} {c0 c1 c2 c3 c4 c5 c6 c7 c8 c9 c10:Value} {t:TypeId} (u:Value) (o:Obj) (hT:w4.heap[T]?=some (.cells #[c0,c1,c2,c3,c4,c5,c6,c7,c8,c9,c10] t (0,0))) :
  (((w4.setCell ⟨T,0,none⟩ u).alloc o).cell? ⟨T,2,none⟩=some c2∧((w4.setCell ⟨T,0,none⟩ u).alloc o).cell? ⟨T,3,none⟩=some c3∧((w4.setCell ⟨T,0,none⟩ u).alloc o).cell? ⟨T,4,none⟩=some c4∧((w4.setCell ⟨T,0,none⟩ u).alloc o).cell? ⟨T,5,none⟩=some c5)∧(∀j,((w4.setCell ⟨T,0,none⟩ u).alloc o).frozen? ⟨T,j,none⟩=false):=by
 have h1:=za4 0 u hT;have h2:=(Below.heap_alloc _ o T (lt_of_block h1)).trans h1;obtain⟨-,-,s2,s3,s4,s5,-,-,-,-,-,sf,-⟩:=zac h2;exact⟨⟨s2,s3,s4,s5⟩,sf⟩
theorem StsM.putAt' {w w':World} {r M N:Nat} {l:List St} {A:Option Addr} (h:StsM w (M≤·) l A) (hp:PutAt r w w') (hr:r<M) (hN:N≤M):StsM w' (N≤·) l A:=by
 obtain⟨F,h1,h2⟩:=h.putAt hp hr;refine⟨F,fun i hi=>?_,fun i hi=>(h2 i hi).more fun b hb _=>by omega⟩;obtain⟨b,off,e,hb,hc⟩:=h1 i hi;exact⟨b,off,e,by omega,hc⟩
theorem za8 {w:World} {a:Addr} {v:Value} (h:w.cell? a=some v):w.drew.cell? a=some v:=h
theorem WrM.drew {w:World} {W:WP} {i left:Nat} (h:WrM w W i left):WrM w.drew W i left:=h.keep fun _ _=>rfl
theorem StrN.drew {w:World} {g:Nat} {A:Option Addr} {xs:List (List UInt8)} (h:StrN w g A xs):StrN w.drew g A xs:=h
theorem Fr.drw {a b:Nat} {w w':World} (h:Fr a b w w'):Fr a b w w'.drew:=⟨h.os,h.tape,h.output,h.size,h.block⟩
theorem Fr.put {a b T:Nat} {w w1 w2:World} (h:Fr a b w w1) (hp:Fr T T w1 w2) (hT:w.heap.size≤T):Fr a b w w2 :=
 ⟨hp.os.trans h.os,hp.tape.trans h.tape,hp.output.trans h.output,Nat.le_trans h.size hp.size,fun i hi ha hb=>(hp.block i (Nat.lt_of_lt_of_le hi h.size) (by omega) (by omega)).trans (h.block i hi ha hb)⟩
theorem zae {w:World} {T:Nat} {o:Obj} (o':Obj) (h:w.heap[T]?=some o):(w.alloc o').heap[T]?=some o:=(Below.heap_alloc _ _ _ (lt_of_block h)).trans h
theorem BlW.whl2 {ms:List Mx} {fs:List Hd} {ps:List Pm} {d d':Nat} {vs:List Nm} {hi m lo:Nat} {l:List St} {us u1:List Nm} (hd:d=d'+1) (e:Ex) (thn:List St) (h:BlW ms fs ps d vs hi (m+1) l us) (he:ExW 2 us e)
  (h1:BlW ms fs ps d' us m lo thn u1):BlW ms fs ps d vs hi lo (l++[.mk 8 [] e noRf [] thn []]) us:=by
 subst hd;exact BlW.whl e thn h he h1
theorem BlW.cond2 {ms:List Mx} {fs:List Hd} {ps:List Pm} {d d':Nat} {vs:List Nm} {hi m n lo:Nat} {l:List St} {us u1 u2:List Nm} (hd:d=d'+1) (e:Ex) (thn els:List St) (h:BlW ms fs ps d vs hi (m+1) l us) (he:ExW 2 us e)
  (h1:BlW ms fs ps d' us m n thn u1) (h2:BlW ms fs ps d' us n lo els u2):BlW ms fs ps d vs hi lo (l++[.mk 7 [] e noRf [] thn els]) us:=by
 subst hd;exact BlW.cond e thn els h he h1 h2
theorem wlift {K:Act→World→Prop} {a:Act} {w:World} (R:World→Prop) (h:R w) (k:∀w',R w'→K a w'):K a w:=k w h
theorem BlW.len {ms:List Mx} {fs:List Hd} {ps:List Pm} {d:Nat} {vs:List Nm} {hi lo:Nat} {l:List St} {us:List Nm} (h:BlW ms fs ps d vs hi lo l us):l.length+2*lo≤2*hi:=by
 induction h with
 | nil=>simp
 | cond e thn els h he h1 h2 ih ih1 ih2=>have:=h1.le;have:=h2.le;simp;omega
 | whl e thn h he h1 ih ih1=>have:=h1.le;simp;omega
 | around r h hr h2 ih ih2=>simp;omega
 | _=>simp;omega
structure BkS (w:World) (W:WP) (fo:Obj) (P:List (St × SG)) (us:List Nm) (v vv:Value) (i lo:Nat) (wr:World):Prop where
 o:wr.ownsRow (w.heap.size+1) 73 11 v P.length (stK.cs P)
 n:wr.ownsRow (w.heap.size+1) 9 1 vv us.length (strK.cs us)
 ne:∀b,v.ownBlock=some b→vv.ownBlock≠some b
 inn:∀p∈P,StM wr (fun b=>w.heap.size+1≤b∧some b≠v.ownBlock∧some b≠vv.ownBlock) p.1 p.2
 wm:WrM wr W i lo
 fr:Fr W.g W.q w wr
 f:wr.heap[w.heap.size]?=some fo
 w0:∃i0 l0,WrM w W i0 l0
theorem BkS.hg {w:World} {W:WP} {fo:Obj} {P:List (St × SG)} {us:List Nm} {v vv:Value} {i lo:Nat} {wr:World} (h:BkS w W fo P us v vv i lo wr):W.g<w.heap.size:=by
 obtain⟨_,_,h0⟩:=h.w0;exact lt_of_block h0.blk
theorem BkS.hq {w:World} {W:WP} {fo:Obj} {P:List (St × SG)} {us:List Nm} {v vv:Value} {i lo:Nat} {wr:World} (h:BkS w W fo P us v vv i lo wr):W.q<w.heap.size:=by
 obtain⟨_,_,h0⟩:=h.w0;exact h0.src.lt
theorem WrM.fr {w w':World} {W:WP} {i0 l0 i lo:Nat} (h:WrM w W i0 l0) (hF:Fr W.g W.q w w') (hb:w'.heap[W.g]?=some (.cells #[.pointer (some ⟨W.q,0,none⟩),W.vG,.slice W.AM W.ms.length W.cM,.slice W.AF W.fs.length W.cF,.int .i64 (lo:Int),.bool W.ar] 85 (0,0)))
  (hs:Src w' W.q W.xs i) (hl:lo≤24):WrM w' W i lo:=by
 have hc:∀ {b o:Nat} {v:Value},b≠W.g→b≠W.q→w.cell? ⟨b,o,none⟩=some v→w'.cell? ⟨b,o,none⟩=some v:=fun {b o v} n1 n2 hv=>(World.cell?_of_block (a:=⟨b,o,none⟩) (hF.block b (World.block_lt_of_cell? _ _ hv) n1 n2)).trans hv;refine⟨hb,hs,h.ne,fun k hk=>?_,fun k hk=>?_,h.ml,h.fl,hl,h.ms,h.fs⟩
 ·
  obtain⟨b,e,n1,n2,c0,c2⟩:=h.mx k hk;exact⟨b,e,n1,n2,hc n1 n2 c0,hc n1 n2 c2⟩
 ·
  obtain⟨b,A,c,B,n,d,e,n1,n2,c0,c1,c2,hp⟩:=h.fn k hk;exact⟨b,A,c,B,n,d,e,n1,n2,hc n1 n2 c0,hc n1 n2 c1,hc n1 n2 c2,hp.keep fun b hb hl=>hF.block b hl hb.1 hb.2⟩
theorem zas {w w':World} {B:Nat} {t:TypeId} {sz n:Nat} {v:Value} {cs:List Value} (h:w.ownsRow B t sz v n cs) (hk:∀b,B≤b→b<w.heap.size→v.ownBlock=some b→w'.heap[b]?=w.heap[b]?):w'.ownsRow B t sz v n cs:=by
 refine⟨h.1,?_⟩;rcases h.2 with h0|⟨g,cap,cur,e,hg,hb,r⟩
 ·
  exact .inl h0
 ·
  exact .inr ⟨g,cap,cur,e,hg,(hk g hg (lt_of_block hb) (by rw[e];rfl)).trans hb,r⟩
theorem BkS.go {w:World} {W:WP} {fo:Obj} {P:List (St × SG)} {us:List Nm} {v vv:Value} {i lo i' lo':Nat} {wr w':World} (h:BkS w W fo P us v vv i lo wr) (hF:Fr W.g W.q wr w') (hW:WrM w' W i' lo'):BkS w W fo P us v vv i' lo' w':=by
 have hg:=h.hg;have hq:=h.hq;have hk:∀b,w.heap.size≤b→b<wr.heap.size→w'.heap[b]?=wr.heap[b]?:=fun b hb hl=>hF.block b hl (by omega) (by omega);exact⟨zas h.o fun b hb hl _=>hk b (by omega) hl,zas h.n fun b hb hl _=>hk b (by omega) hl,h.ne,fun p hp=>(h.inn p hp).keep fun b hb hl=>hk b (by omega) hl,hW,h.fr.trans hF,(hk _ (lR _) (lt_of_block h.f)).trans h.f,h.w0⟩
theorem BkS.names {w:World} {W:WP} {fo:Obj} {P:List (St × SG)} {us:List Nm} {v:Value} {A:Option Addr} {c:Nat} {i lo:Nat} {wr w':World} (h:BkS w W fo P us v (.slice A us.length c) i lo wr) (hF:Fr W.g W.q wr w'):StrN w' W.q A us∧StrN w' W.g A us:=by
 have hg:=h.hg;have hq:=h.hq;have hO:OwnR strK 9 wr (w.heap.size+1) (.slice A us.length c) us:=⟨h.n,fun _ _=>trivial⟩;refine⟨fun k hk=>?_,fun k hk=>?_⟩ <;>
 ·
  obtain⟨b,e,hb,hl,hc⟩:=ze0 hO k hk;exact⟨b,0,e,by omega,by rw[Nat.zero_add];exact(World.cell?_of_block (a:=⟨b,k,none⟩) (hF.block b hl (by omega) (by omega))).trans hc⟩
theorem BkS.func {w:World} {W:WP} {fo:Obj} {P:List (St × SG)} {us:List Nm} {v vv:Value} {i lo:Nat} {wr w':World} (h:BkS w W fo P us v vv i lo wr) (hF:Fr W.g W.q wr w'):w'.heap[w.heap.size]?=some fo :=
 (hF.block _ (lt_of_block h.f) (by have:=h.hg;omega) (by have:=h.hq;omega)).trans h.f
theorem BkS.params {w:World} {W:WP} {fo:Obj} {P:List (St × SG)} {us:List Nm} {v vv:Value} {i lo:Nat} {wr w':World} {ps:List Pm} {A:Option Addr} (h:BkS w W fo P us v vv i lo wr) (hF:Fr W.g W.q wr w') (hP:PmsM w (fun b=>b≠W.g∧b≠W.q) ps A):PmsM w' (fun b=>b≠W.g∧b≠W.q) ps A :=
 hP.keep fun b hb hl=>(h.fr.trans hF).block b hl hb.1 hb.2
theorem BkS.wmk {w:World} {W:WP} {fo:Obj} {P:List (St × SG)} {us:List Nm} {v vv:Value} {i lo i' lo' T:Nat} {wr w4 wk:World} (h:BkS w W fo P us v vv i lo wr) (hF:Fr W.g W.q wr wk) (hk:WrM w4 W i' lo') (hp:PutAt T w4 wk) (hT:wr.heap.size≤T):WrM wk W i' lo':=by
 obtain⟨i0,l0,h0⟩:=h.w0;have hg:=h.hg;have hq:=h.hq;have hs:=h.fr.size;exact h0.fr (h.fr.trans hF) ((hp.2.2.2.2 _ (by omega)).trans hk.blk) (hk.src.keep fun b hb=>hp.2.2.2.2 b (by omega)) hk.ll
theorem BkS.lt {w:World} {W:WP} {fo:Obj} {P:List (St × SG)} {us:List Nm} {v vv:Value} {i lo:Nat} {wr:World} (h:BkS w W fo P us v vv i lo wr):∀b,v.ownBlock=some b∨vv.ownBlock=some b→b<wr.heap.size:=by
 intro b hb;rcases hb with hb|hb
 ·
  exact(h.o.lt b hb).2
 ·
  exact(h.n.lt b hb).2
theorem BkS.sz {w:World} {W:WP} {fo:Obj} {P:List (St × SG)} {us:List Nm} {v vv:Value} {i lo:Nat} {wr:World} (h:BkS w W fo P us v vv i lo wr):w.heap.size+1≤wr.heap.size:=lt_of_block h.f
theorem BkS.snocs {w:World} {W:WP} {fo:Obj} {P:List (St × SG)} {us:List Nm} {v v' vv:Value} {i lo:Nat} {wr w5:World} {S0:Nat→Prop} {P2:List (St × SG)} (h:BkS w W fo P us v vv i lo wr) (ha:∀p∈P2,StM wr S0 p.1 p.2)
  (hS0:∀b,S0 b→w.heap.size+1≤b∧some b≠v.ownBlock∧some b≠vv.ownBlock)
  (hown:w5.ownsRow (w.heap.size+1) 73 11 v' (P.length+P2.length) (stK.cs P++stK.cs P2)) (hgrow:wr.grownBy w5 v.ownBlock)
  (hv:v'.ownBlock=v.ownBlock∨∃k,v'.ownBlock=some k∧wr.heap.size≤k):BkS w W fo (P++P2) us v' vv i lo w5:=by
 have hg:=h.hg;have hq:=h.hq;have hov:∀b,v.ownBlock=some b→w.heap.size+1≤b∧b<wr.heap.size:=fun b hb=>h.o.lt b hb;have hkp:∀b,b<wr.heap.size→some b≠v.ownBlock→w5.heap[b]?=wr.heap[b]?:=fun b hb hn=>hgrow.block b hb hn;have hlow:∀b,b<wr.heap.size→b<w.heap.size+1→w5.heap[b]?=wr.heap[b]?:=fun b hl hb=>hkp b hl fun e=>by have:=(hov b e.symm).1;omega
 have hin:∀(s:St) (G:SG) (S:Nat→Prop),(∀b,S b→w.heap.size+1≤b∧some b≠v.ownBlock∧some b≠vv.ownBlock)→StM wr S s G→StM w5 (fun b=>w.heap.size+1≤b∧some b≠v'.ownBlock∧some b≠vv.ownBlock) s G:=fun s G S hS hs=>by
  have h1:StM w5 (fun b=>S b∧b<wr.heap.size) s G:=(hs.more fun b hb hl=>(⟨hb,hl⟩:S b∧b<wr.heap.size)).keep fun b hb hl=>hkp b hl (hS b hb.1).2.1;refine h1.more fun b hb _=>⟨(hS b hb.1).1,?_,(hS b hb.1).2.2⟩;rcases hv with e|⟨k,e,hk⟩
  ·
   rw[e];exact(hS b hb.1).2.1
  ·
   rw[e];intro e2;injection e2 with e2
   have:=hb.2;omega
 have hnv:∀b,vv.ownBlock=some b→some b≠v.ownBlock:=fun b hb e=>h.ne b e.symm hb;have hgn:some W.g≠v.ownBlock:=fun e=>by have:=(hov _ e.symm).1;omega
 have hWl:=h.wm.src.lt;have hWg:=lt_of_block h.wm.blk;have hws:=h.fr.size;have hF:Fr W.g W.q w w5:=⟨hgrow.os.trans h.fr.os,hgrow.tape.trans h.fr.tape,hgrow.output.trans h.fr.output,Nat.le_trans hws hgrow.size,fun b hb n1 n2=>(hlow b (by omega) (by omega)).trans (h.fr.block b hb n1 n2)⟩;refine⟨?_,zas h.n fun b hb hl e=>hkp b hl (hnv b e),fun b hb e=>?_,fun p hp=>?_,?_,?_,(hlow _ (lt_of_block h.f) (by omega)).trans h.f,h.w0⟩
 ·
  rw[show stK.cs (P++P2)=stK.cs P++stK.cs P2 by simp[RowK.cs,List.flatMap_append],List.length_append];exact hown
 ·
  rcases hv with e2|⟨k,e2,hk⟩
  ·
   exact h.ne b (e2.symm.trans hb) e
  ·
   rw[e2] at hb;injection hb with hb
   have:=(h.n.lt b e).2;omega
 ·
  rcases List.mem_append.1 hp with h1|h1
  ·
   exact hin _ _ _ (fun b hb=>hb) (h.inn p h1)
  ·
   exact hin _ _ _ hS0 (ha p h1)
 ·
  obtain⟨i0,l0,h0⟩:=h.w0;exact h0.fr hF ((hlow _ hWg (by omega)).trans h.wm.blk) (h.wm.src.keep fun b hb=>hlow b (by omega) (by omega)) h.wm.ll
 ·
  exact hF
theorem BkS.snocS {w:World} {W:WP} {fo:Obj} {P:List (St × SG)} {us:List Nm} {v v' vv:Value} {i lo:Nat} {wr w5:World} {o:Obj} {S0:Nat→Prop} {a:St × SG} (h:BkS w W fo P us v vv i lo wr) (ha:StM wr S0 a.1 a.2)
  (hS0:∀b,S0 b→w.heap.size+1≤b∧some b≠v.ownBlock∧some b≠vv.ownBlock)
  (hown:w5.ownsRow (w.heap.size+1) 73 11 v' (P.length+1) (stK.cs P++stK.cl a)) (hgrow:(wr.alloc o).grownBy w5 v.ownBlock)
  (hv:v'.ownBlock=v.ownBlock∨∃k,v'.ownBlock=some k∧(wr.alloc o).heap.size≤k):BkS w W fo (P++[a]) us v' vv i lo w5:=by
 refine h.snocs (P2:=[a]) (S0:=S0) (fun p hp=>by rw[List.mem_singleton.1 hp];exact ha) hS0 (by simpa[RowK.cs] using hown) ⟨hgrow.os,hgrow.tape,hgrow.output,Nat.le_trans (by simp) hgrow.size,fun b hb hn=>(hgrow.block b (by simp;omega) hn).trans (Below.heap_alloc wr o b hb)⟩ ?_;rcases hv with e|⟨k,e,hk⟩
 ·
  exact .inl e
 ·
  exact .inr ⟨k,e,by simp at hk;omega⟩
theorem BkS.snoc {w:World} {W:WP} {fo:Obj} {P:List (St × SG)} {us:List Nm} {v v' vv:Value} {i lo:Nat} {wr w5:World} {o:Obj} {N:Nat} {a:St × SG} (h:BkS w W fo P us v vv i lo wr) (ha:StM wr (N≤·) a.1 a.2)
  (hN:∀b,v.ownBlock=some b∨vv.ownBlock=some b→b<N) (hN2:w.heap.size+1≤N)
  (hown:w5.ownsRow (w.heap.size+1) 73 11 v' (P.length+1) (stK.cs P++stK.cl a)) (hgrow:(wr.alloc o).grownBy w5 v.ownBlock)
  (hv:v'.ownBlock=v.ownBlock∨∃k,v'.ownBlock=some k∧(wr.alloc o).heap.size≤k):BkS w W fo (P++[a]) us v' vv i lo w5 :=
 h.snocS (S0:=(N≤·)) ha (fun b hb=>⟨Nat.le_trans hN2 hb,fun e=>by have:=hN b (.inl e.symm);omega,fun e=>by have:=hN b (.inr e.symm);omega⟩) hown hgrow hv
theorem BkS.snocN {w:World} {W:WP} {fo:Obj} {P:List (St × SG)} {us:List Nm} {v vv vv':Value} {i lo:Nat} {wr w5:World} {o:Obj} {a:Nm} (h:BkS w W fo P us v vv i lo wr)
  (hown:w5.ownsRow (w.heap.size+1) 9 1 vv' (us.length+1) (strK.cs us++strK.cl a)) (hgrow:(wr.alloc o).grownBy w5 vv.ownBlock)
  (hv:vv'.ownBlock=vv.ownBlock∨∃k,vv'.ownBlock=some k∧(wr.alloc o).heap.size≤k):BkS w W fo P (us++[a]) v vv' i lo w5:=by
 have hg:=h.hg;have hq:=h.hq;have hov:∀b,vv.ownBlock=some b→w.heap.size+1≤b∧b<wr.heap.size:=fun b hb=>h.n.lt b hb;have hkp:∀b,b<wr.heap.size→some b≠vv.ownBlock→w5.heap[b]?=wr.heap[b]?:=fun b hb hn=>(hgrow.block b (by simp;omega) hn).trans (Below.heap_alloc wr o b hb);have hlow:∀b,b<wr.heap.size→b<w.heap.size+1→w5.heap[b]?=wr.heap[b]?:=fun b hl hb=>hkp b hl fun e=>by have:=(hov b e.symm).1;omega
 have hWl:=h.wm.src.lt;have hWg:=lt_of_block h.wm.blk;have hws:=h.fr.size;have hF:Fr W.g W.q w w5:=⟨hgrow.os.trans h.fr.os,hgrow.tape.trans h.fr.tape,hgrow.output.trans h.fr.output,Nat.le_trans hws (Nat.le_trans (by simp) hgrow.size),fun b hb n1 n2=>(hlow b (by omega) (by omega)).trans (h.fr.block b hb n1 n2)⟩;refine⟨zas h.o fun b hb hl e=>hkp b hl (fun e2=>h.ne b e e2.symm),?_,fun b hb e=>?_,fun p hp=>?_,?_,hF,(hlow _ (lt_of_block h.f) (by omega)).trans h.f,h.w0⟩
 ·
  rw[strK.cs_snoc,List.length_append];exact hown
 ·
  rcases hv with e2|⟨k,e2,hk⟩
  ·
   exact h.ne b hb (e2.symm.trans e)
  ·
   rw[e2] at e;injection e with e
   have:=(h.o.lt b hb).2;simp at hk;omega
 ·
  have h1:=((h.inn p hp).more (S':=fun b=>(w.heap.size+1≤b∧some b≠v.ownBlock∧some b≠vv.ownBlock)∧b<wr.heap.size) fun b hb hl=>⟨hb,hl⟩).keep (w':=w5) fun b hb hl=>hkp b hl hb.1.2.2;refine h1.more fun b hb _=>⟨hb.1.1,hb.1.2.1,?_⟩;rcases hv with e|⟨k,e,hk⟩
  ·
   rw[e];exact hb.1.2.2
  ·
   rw[e];intro e2;injection e2 with e2
   have:=hb.2;simp at hk;omega
 ·
  obtain⟨i0,l0,h0⟩:=h.w0;exact h0.fr hF ((hlow _ hWg (by omega)).trans h.wm.blk) (h.wm.src.keep fun b hb=>hlow b (by omega) (by omega)) h.wm.ll
structure BkZ (Z:Nat→Prop) (w:World) (W:WP) (fo:Obj) (P:List (St × SG)) (us:List Nm) (v vv:Value) (i lo:Nat) (wr:World):Prop where
 o:wr.ownsRow (w.heap.size+1) 73 11 v P.length (stK.cs P)
 n:wr.ownsRow (w.heap.size+1) 9 1 vv us.length (strK.cs us)
 ne:∀b,v.ownBlock=some b→vv.ownBlock≠some b
 inn:∀p∈P,StM wr (fun b=>w.heap.size+1≤b∧some b≠v.ownBlock∧some b≠vv.ownBlock∧¬Z b) p.1 p.2
 wm:WrM wr W i lo
 fr:Fr W.g W.q w wr
 f:wr.heap[w.heap.size]?=some fo
 w0:∃i0 l0,WrM w W i0 l0
theorem BkZ.s {Z:Nat→Prop} {w:World} {W:WP} {fo:Obj} {P:List (St × SG)} {us:List Nm} {v vv:Value} {i lo:Nat} {wr:World} (h:BkZ Z w W fo P us v vv i lo wr):BkS w W fo P us v vv i lo wr :=
 ⟨h.o,h.n,h.ne,fun p hp=>(h.inn p hp).more fun _ hb _=>⟨hb.1,hb.2.1,hb.2.2.1⟩,h.wm,h.fr,h.f,h.w0⟩
theorem BkS.z {w:World} {W:WP} {fo:Obj} {P:List (St × SG)} {us:List Nm} {v vv:Value} {i lo:Nat} {wr:World} (h:BkS w W fo P us v vv i lo wr) (Z:Nat→Prop) (hZ:∀b,Z b→wr.heap.size≤b):BkZ Z w W fo P us v vv i lo wr :=
 ⟨h.o,h.n,h.ne,fun p hp=>(h.inn p hp).more fun b hb hl=>⟨hb.1,hb.2.1,hb.2.2,fun hz=>by have:=hZ b hz;omega⟩,h.wm,h.fr,h.f,h.w0⟩
theorem BkZ.put {Z:Nat→Prop} {w:World} {W:WP} {fo:Obj} {P:List (St × SG)} {us:List Nm} {v vv:Value} {i lo T:Nat} {wr w':World} (h:BkZ Z w W fo P us v vv i lo wr) (hp:PutAt T wr w') (hz:Z T) (hT:w.heap.size+1≤T) (hv:some T≠v.ownBlock) (hvv:some T≠vv.ownBlock):BkZ Z w W fo P us v vv i lo w':=by
 have hg:=h.s.hg;have hq:=h.s.hq;have hF:Fr W.g W.q w w':=h.fr.putAt hp (by omega);refine⟨zas h.o fun b _ _ e=>hp.2.2.2.2 b (fun e2=>hv (by rw[←e2,e])),zas h.n fun b _ _ e=>hp.2.2.2.2 b (fun e2=>hvv (by rw[←e2,e])),h.ne,fun p hpp=>(h.inn p hpp).keep fun b hb _=>hp.2.2.2.2 b (fun e=>hb.2.2.2 (e▸hz)),?_,hF,(hp.2.2.2.2 _ (by omega)).trans h.f,h.w0⟩;obtain⟨i0,l0,h0⟩:=h.w0;exact h0.fr hF ((hp.2.2.2.2 _ (by omega)).trans h.wm.blk) (h.wm.src.keep fun b hb=>hp.2.2.2.2 b (by omega)) h.wm.ll
theorem BkZ.go {Z:Nat→Prop} {w:World} {W:WP} {fo:Obj} {P:List (St × SG)} {us:List Nm} {v vv:Value} {i lo i' lo':Nat} {wr w':World} (h:BkZ Z w W fo P us v vv i lo wr) (hF:Fr W.g W.q wr w') (hW:WrM w' W i' lo'):BkZ Z w W fo P us v vv i' lo' w':=by
 have hg:=h.s.hg;have hq:=h.s.hq;have hk:∀b,w.heap.size≤b→b<wr.heap.size→w'.heap[b]?=wr.heap[b]?:=fun b hb hl=>hF.block b hl (by omega) (by omega);exact⟨zas h.o fun b hb hl _=>hk b (by omega) hl,zas h.n fun b hb hl _=>hk b (by omega) hl,h.ne,fun p hp=>(h.inn p hp).keep fun b hb hl=>hk b (by omega) hl,hW,h.fr.trans hF,(hk _ (lR _) (lt_of_block h.f)).trans h.f,h.w0⟩
theorem BkZ.snocs {Z:Nat→Prop} {w:World} {W:WP} {fo:Obj} {P:List (St × SG)} {us:List Nm} {v v' vv:Value} {i lo:Nat} {wr w5:World} {S0:Nat→Prop} {P2:List (St × SG)} (h:BkZ Z w W fo P us v vv i lo wr) (ha:∀p∈P2,StM wr S0 p.1 p.2)
  (hS0:∀b,S0 b→w.heap.size+1≤b∧some b≠v.ownBlock∧some b≠vv.ownBlock∧¬Z b)
  (hown:w5.ownsRow (w.heap.size+1) 73 11 v' (P.length+P2.length) (stK.cs P++stK.cs P2)) (hgrow:wr.grownBy w5 v.ownBlock)
  (hv:v'.ownBlock=v.ownBlock∨∃k,v'.ownBlock=some k∧wr.heap.size≤k):BkZ Z w W fo (P++P2) us v' vv i lo w5:=by
 have hg:=h.s.hg;have hq:=h.s.hq;have hov:∀b,v.ownBlock=some b→w.heap.size+1≤b∧b<wr.heap.size:=fun b hb=>h.o.lt b hb;have hkp:∀b,b<wr.heap.size→some b≠v.ownBlock→w5.heap[b]?=wr.heap[b]?:=fun b hb hn=>hgrow.block b hb hn;have hlow:∀b,b<wr.heap.size→b<w.heap.size+1→w5.heap[b]?=wr.heap[b]?:=fun b hl hb=>hkp b hl fun e=>by have:=(hov b e.symm).1;omega
 have hin:∀(s:St) (G:SG) (S:Nat→Prop),(∀b,S b→w.heap.size+1≤b∧some b≠v.ownBlock∧some b≠vv.ownBlock∧¬Z b)→StM wr S s G→StM w5 (fun b=>w.heap.size+1≤b∧some b≠v'.ownBlock∧some b≠vv.ownBlock∧¬Z b) s G:=fun s G S hS hs=>by
  have h1:StM w5 (fun b=>S b∧b<wr.heap.size) s G:=(hs.more fun b hb hl=>(⟨hb,hl⟩:S b∧b<wr.heap.size)).keep fun b hb hl=>hkp b hl (hS b hb.1).2.1;refine h1.more fun b hb _=>⟨(hS b hb.1).1,?_,(hS b hb.1).2.2⟩;rcases hv with e|⟨k,e,hk⟩
  ·
   rw[e];exact(hS b hb.1).2.1
  ·
   rw[e];intro e2;injection e2 with e2
   have:=hb.2;omega
 have hnv:∀b,vv.ownBlock=some b→some b≠v.ownBlock:=fun b hb e=>h.ne b e.symm hb;have hgn:some W.g≠v.ownBlock:=fun e=>by have:=(hov _ e.symm).1;omega
 have hWl:=h.wm.src.lt;have hWg:=lt_of_block h.wm.blk;have hws:=h.fr.size;have hF:Fr W.g W.q w w5:=⟨hgrow.os.trans h.fr.os,hgrow.tape.trans h.fr.tape,hgrow.output.trans h.fr.output,Nat.le_trans hws hgrow.size,fun b hb n1 n2=>(hlow b (by omega) (by omega)).trans (h.fr.block b hb n1 n2)⟩;refine⟨?_,zas h.n fun b hb hl e=>hkp b hl (hnv b e),fun b hb e=>?_,fun p hp=>?_,?_,?_,(hlow _ (lt_of_block h.f) (by omega)).trans h.f,h.w0⟩
 ·
  rw[show stK.cs (P++P2)=stK.cs P++stK.cs P2 by simp[RowK.cs,List.flatMap_append],List.length_append];exact hown
 ·
  rcases hv with e2|⟨k,e2,hk⟩
  ·
   exact h.ne b (e2.symm.trans hb) e
  ·
   rw[e2] at hb;injection hb with hb
   have:=(h.n.lt b e).2;omega
 ·
  rcases List.mem_append.1 hp with h1|h1
  ·
   exact hin _ _ _ (fun b hb=>hb) (h.inn p h1)
  ·
   exact hin _ _ _ hS0 (ha p h1)
 ·
  obtain⟨i0,l0,h0⟩:=h.w0;exact h0.fr hF ((hlow _ hWg (by omega)).trans h.wm.blk) (h.wm.src.keep fun b hb=>hlow b (by omega) (by omega)) h.wm.ll
 ·
  exact hF
theorem BkZ.snocS {Z:Nat→Prop} {w:World} {W:WP} {fo:Obj} {P:List (St × SG)} {us:List Nm} {v v' vv:Value} {i lo:Nat} {wr w5:World} {o:Obj} {S0:Nat→Prop} {a:St × SG} (h:BkZ Z w W fo P us v vv i lo wr) (ha:StM wr S0 a.1 a.2)
  (hS0:∀b,S0 b→w.heap.size+1≤b∧some b≠v.ownBlock∧some b≠vv.ownBlock∧¬Z b)
  (hown:w5.ownsRow (w.heap.size+1) 73 11 v' (P.length+1) (stK.cs P++stK.cl a)) (hgrow:(wr.alloc o).grownBy w5 v.ownBlock)
  (hv:v'.ownBlock=v.ownBlock∨∃k,v'.ownBlock=some k∧(wr.alloc o).heap.size≤k):BkZ Z w W fo (P++[a]) us v' vv i lo w5:=by
 refine h.snocs (P2:=[a]) (S0:=S0) (fun p hp=>by rw[List.mem_singleton.1 hp];exact ha) hS0 (by simpa[RowK.cs] using hown) ⟨hgrow.os,hgrow.tape,hgrow.output,Nat.le_trans (by simp) hgrow.size,fun b hb hn=>(hgrow.block b (by simp;omega) hn).trans (Below.heap_alloc wr o b hb)⟩ ?_;rcases hv with e|⟨k,e,hk⟩
 ·
  exact .inl e
 ·
  exact .inr ⟨k,e,by simp at hk;omega⟩
theorem BkZ.snoc {Z:Nat→Prop} {w:World} {W:WP} {fo:Obj} {P:List (St × SG)} {us:List Nm} {v v' vv:Value} {i lo:Nat} {wr w5:World} {o:Obj} {N:Nat} {a:St × SG} (h:BkZ Z w W fo P us v vv i lo wr) (ha:StM wr (N≤·) a.1 a.2)
  (hN:∀b,v.ownBlock=some b∨vv.ownBlock=some b→b<N) (hN2:w.heap.size+1≤N) (hNZ:∀b,Z b→b<N)
  (hown:w5.ownsRow (w.heap.size+1) 73 11 v' (P.length+1) (stK.cs P++stK.cl a)) (hgrow:(wr.alloc o).grownBy w5 v.ownBlock)
  (hv:v'.ownBlock=v.ownBlock∨∃k,v'.ownBlock=some k∧(wr.alloc o).heap.size≤k):BkZ Z w W fo (P++[a]) us v' vv i lo w5 :=
 h.snocS (S0:=(N≤·)) ha (fun b hb=>⟨Nat.le_trans hN2 hb,fun e=>by have:=hN b (.inl e.symm);omega,fun e=>by have:=hN b (.inr e.symm);omega,fun hz=>by have:=hNZ b hz;omega⟩) hown hgrow hv
theorem all11 {w:World} {T:Nat} {c0 c1 c2 c3 c4 c5 c6 c7 c8 c9 c10 v0 v1 v2 v3 v4 v5 v6 v7 v8 v9 v10:Value} {t:TypeId} (h:w.heap[T]?=some (.cells #[c0,c1,c2,c3,c4,c5,c6,c7,c8,c9,c10] t (0,0))) :
  PutAt T w (((((((((((w.setCell ⟨T,0,none⟩ v0).setCell ⟨T,1,none⟩ v1).setCell ⟨T,2,none⟩ v2).setCell ⟨T,3,none⟩ v3).setCell ⟨T,4,none⟩ v4).setCell ⟨T,5,none⟩ v5).setCell ⟨T,6,none⟩ v6).setCell ⟨T,7,none⟩ v7).setCell ⟨T,8,none⟩ v8).setCell ⟨T,9,none⟩ v9).setCell ⟨T,10,none⟩ v10)∧(((((((((((w.setCell ⟨T,0,none⟩ v0).setCell ⟨T,1,none⟩ v1).setCell ⟨T,2,none⟩ v2).setCell ⟨T,3,none⟩ v3).setCell ⟨T,4,none⟩ v4).setCell ⟨T,5,none⟩ v5).setCell ⟨T,6,none⟩ v6).setCell ⟨T,7,none⟩ v7).setCell ⟨T,8,none⟩ v8).setCell ⟨T,9,none⟩ v9).setCell ⟨T,10,none⟩ v10).heap[T]?=some (.cells #[v0,v1,v2,v3,v4,v5,v6,v7,v8,v9,v10] t (0,0)):=by
 have h1:(w.setCell ⟨T,0,none⟩ v0).heap[T]?=some (.cells #[v0,c1,c2,c3,c4,c5,c6,c7,c8,c9,c10] t (0,0)):=za4 0 v0 h;have h2:((w.setCell ⟨T,0,none⟩ v0).setCell ⟨T,1,none⟩ v1).heap[T]?=some (.cells #[v0,v1,c2,c3,c4,c5,c6,c7,c8,c9,c10] t (0,0)):=za4 1 v1 h1;have h3:(((w.setCell ⟨T,0,none⟩ v0).setCell ⟨T,1,none⟩ v1).setCell ⟨T,2,none⟩ v2).heap[T]?=some (.cells #[v0,v1,v2,c3,c4,c5,c6,c7,c8,c9,c10] t (0,0)):=za4 2 v2 h2;have h4:((((w.setCell ⟨T,0,none⟩ v0).setCell ⟨T,1,none⟩ v1).setCell ⟨T,2,none⟩ v2).setCell ⟨T,3,none⟩ v3).heap[T]?=some (.cells #[v0,v1,v2,v3,c4,c5,c6,c7,c8,c9,c10] t (0,0)):=za4 3 v3 h3;have h5:(((((w.setCell ⟨T,0,none⟩ v0).setCell ⟨T,1,none⟩ v1).setCell ⟨T,2,none⟩ v2).setCell ⟨T,3,none⟩ v3).setCell ⟨T,4,none⟩ v4).heap[T]?=some (.cells #[v0,v1,v2,v3,v4,c5,c6,c7,c8,c9,c10] t (0,0)):=za4 4 v4 h4;have h6:((((((w.setCell ⟨T,0,none⟩ v0).setCell ⟨T,1,none⟩ v1).setCell ⟨T,2,none⟩ v2).setCell ⟨T,3,none⟩ v3).setCell ⟨T,4,none⟩ v4).setCell ⟨T,5,none⟩ v5).heap[T]?=some (.cells #[v0,v1,v2,v3,v4,v5,c6,c7,c8,c9,c10] t (0,0)):=za4 5 v5 h5;have h7:(((((((w.setCell ⟨T,0,none⟩ v0).setCell ⟨T,1,none⟩ v1).setCell ⟨T,2,none⟩ v2).setCell ⟨T,3,none⟩ v3).setCell ⟨T,4,none⟩ v4).setCell ⟨T,5,none⟩ v5).setCell ⟨T,6,none⟩ v6).heap[T]?=some (.cells #[v0,v1,v2,v3,v4,v5,v6,c7,c8,c9,c10] t (0,0)):=za4 6 v6 h6;have h8:((((((((w.setCell ⟨T,0,none⟩ v0).setCell ⟨T,1,none⟩ v1).setCell ⟨T,2,none⟩ v2).setCell ⟨T,3,none⟩ v3).setCell ⟨T,4,none⟩ v4).setCell ⟨T,5,none⟩ v5).setCell ⟨T,6,none⟩ v6).setCell ⟨T,7,none⟩ v7).heap[T]?=some (.cells #[v0,v1,v2,v3,v4,v5,v6,v7,c8,c9,c10] t (0,0)):=za4 7 v7 h7;have h9:(((((((((w.setCell ⟨T,0,none⟩ v0).setCell ⟨T,1,none⟩ v1).setCell ⟨T,2,none⟩ v2).setCell ⟨T,3,none⟩ v3).setCell ⟨T,4,none⟩ v4).setCell ⟨T,5,none⟩ v5).setCell ⟨T,6,none⟩ v6).setCell ⟨T,7,none⟩ v7).setCell ⟨T,8,none⟩ v8).heap[T]?=some (.cells #[v0,v1,v2,v3,v4,v5,v6,v7,v8,c9,c10] t (0,0)):=za4 8 v8 h8;have h10:((((((((((w.setCell ⟨T,0,none⟩ v0).setCell ⟨T,1,none⟩ v1).setCell ⟨T,2,none⟩ v2).setCell ⟨T,3,none⟩ v3).setCell ⟨T,4,none⟩ v4).setCell ⟨T,5,none⟩ v5).setCell ⟨T,6,none⟩ v6).setCell ⟨T,7,none⟩ v7).setCell ⟨T,8,none⟩ v8).setCell ⟨T,9,none⟩ v9).heap[T]?=some (.cells #[v0,v1,v2,v3,v4,v5,v6,v7,v8,v9,c10] t (0,0)):=za4 9 v9 h9;have h11:(((((((((((w.setCell ⟨T,0,none⟩ v0).setCell ⟨T,1,none⟩ v1).setCell ⟨T,2,none⟩ v2).setCell ⟨T,3,none⟩ v3).setCell ⟨T,4,none⟩ v4).setCell ⟨T,5,none⟩ v5).setCell ⟨T,6,none⟩ v6).setCell ⟨T,7,none⟩ v7).setCell ⟨T,8,none⟩ v8).setCell ⟨T,9,none⟩ v9).setCell ⟨T,10,none⟩ v10).heap[T]?=some (.cells #[v0,v1,v2,v3,v4,v5,v6,v7,v8,v9,v10] t (0,0)):=za4 10 v10 h10;exact⟨((((((((((((PutAt.refl T w).set 0 v0).set 1 v1).set 2 v2).set 3 v3).set 4 v4).set 5 v5).set 6 v6).set 7 v7).set 8 v8).set 9 v9).set 10 v10),h11⟩
def WbP (w:World) (W:WP) (ps:List Pm) (d left:Nat) (vs:List Nm) (e:Ending) (w':World):Prop :=
 ∃(l:List St) (P:List (St × SG)) (A:Option Addr) (c i' lo:Nat) (us:List Nm),l=P.map (·.1)∧e=.returned (.slice A l.length c)∧BlW W.ms W.fs ps d vs left lo l us∧StsM w' (w.heap.size≤·) l A∧OwnR stK 73 w' w.heap.size (.slice A l.length c) P∧WrM w' W i' lo∧Fr W.g W.q w w'
theorem WbP.done {w w':World} {W:WP} {ps:List Pm} {d left i' lo:Nat} {vs us:List Nm} {fo:Obj} {P:List (St × SG)} {A:Option Addr} {c:Nat} {vv:Value} (h:BkS w W fo P us (.slice A P.length c) vv i' lo w') (hB:BlW W.ms W.fs ps d vs left lo (P.map (·.1)) us):WbP w W ps d left vs (.returned (.slice A P.length c)) w':=by
 have hO:OwnR stK 73 w' w.heap.size (.slice A P.length c) P:=OwnR.low ⟨h.o,fun p hp=>(h.inn p hp).more fun b hb _=>⟨hb.1,hb.2.1⟩⟩ (by omega);exact⟨P.map (·.1),P,A,c,i',lo,us,rfl,by rw[List.length_map],hB,zba hO,by rw[List.length_map];exact hO,h.wm,h.fr⟩
theorem zgN {w:World} {g:Nat} {A:Option Addr} {vs:List Nm} (h:StrN w g A vs) (hv:0<vs.length):∃ad,A=some ad∧∀j u,(strK.cs vs)[j]?=some u→w.cell? (ad.add j)=some u:=by
 obtain⟨b,off,e,-,-⟩:=h 0 hv;refine⟨_,e,fun j u hu=>?_⟩;have hj:j<vs.length:=by
  have:=(List.getElem?_eq_some_iff.1 hu).1;rw[strK.cs_len] at this;simpa[strK] using this
 obtain⟨b',off',e',-,hc⟩:=h j hj;rw[e] at e';injection e' with e';injection e' with e1 e2;subst e1;subst e2;have hr:=strK.cs_at vs j 0 hj (by show 0<1;omega);rw[show j*strK.sz+0=j by show j*1+0=j;omega] at hr;rw[hr] at hu;rw[Go.WideShapes.add_plain,hc];exact hu
theorem ziS {w w5:World} {W:WP} {i left:Nat} {fo:Obj} {vs:List Nm} {g cap:Nat} (hW:WrM w W i left) (h:w5.ownsRow (w.heap.size+1) 9 1 (.slice (some ⟨g,0,none⟩) vs.length cap) vs.length (strK.cs vs))
  (hf:(w.alloc fo).heap[w.heap.size]?=some fo) (hgrow:((w.alloc fo).alloc (.cells #[] 9)).grownBy w5 (some (w.heap.size+1))):BkS w W fo [] vs (.slice none 0 0) (.slice (some ⟨g,0,none⟩) vs.length cap) i left w5:=by
 have hk:∀b,b<w.heap.size→w5.heap[b]?=w.heap[b]?:=fun b hb=>(hgrow.block b (by simp;omega) (fun e=>by injection e with e;omega)).trans ((Below.heap_alloc _ _ b (by simp;omega)).trans (Below.heap_alloc w fo b hb));refine⟨World.ownsRow_nil _ _ _ _,h,fun b hb=>(by cases hb),fun p hp=>absurd hp (by simp),hW.keep hk,⟨hgrow.os,hgrow.tape,hgrow.output,Nat.le_trans (by simp;omega) hgrow.size,fun b hb _ _=>hk b hb⟩,?_,⟨i,left,hW⟩⟩;exact(hgrow.block _ (by simp;omega) (fun e=>by injection e with e;omega)).trans ((Below.heap_alloc _ _ _ (by simp)).trans hf)
structure VarP (W:WP) (wr:World) (lo i4:Nat) (ca cb:UInt8) (E:Ex) (fo fx:Int) (fname:List UInt8) (fA:Option Addr) (fl fc:Nat) (wx:World):Prop where
 wm:WrM wx W i4 lo
 fr:Fr W.g W.q wr wx
 t:wx.heap[wr.heap.size]?=some (.cells #[.int .i64 1,.string ⟨#[118,ca,cb]⟩,.int .i64 fo,.int .i64 fx,.string ⟨fname.toArray⟩,.slice fA fl fc,.string ⟨#[]⟩,.slice none 0 0,.slice none 0 0,.slice none 0 0,.slice none 0 0] 73 (0,0))
 e:ExM wx (wr.heap.size+1≤·) E ⟨fo,fx,fname,fA,fl,fc⟩
theorem VarP.alloc {W:WP} {wr wx:World} {lo i4:Nat} {ca cb:UInt8} {E:Ex} {fo fx:Int} {fname:List UInt8} {fA:Option Addr} {fl fc:Nat} (h:VarP W wr lo i4 ca cb E fo fx fname fA fl fc wx) (o:Obj):VarP W wr lo i4 ca cb E fo fx fname fA fl fc (wx.alloc o) :=
 ⟨h.wm.alloc o,h.fr.alloc o,zae o h.t,h.e.keep fun b _ hl=>Below.heap_alloc wx o b hl⟩
theorem zaJ {w:World} {W:WP} {f0:Obj} {P:List (St × SG)} {us:List Nm} {v vv:Value} {i0 lo0 i4 lo s3:Nat} {wr w4:World} (ca cb:UInt8) {E:Ex} {fo fx:Int} {fname:List UInt8} {fA:Option Addr} {fl fc:Nat} (h:BkS w W f0 P us v vv i0 lo0 wr) (hF:Fr W.g W.q wr w4) (hW:WrM w4 W i4 lo)
  (hT:w4.heap[wr.heap.size]?=some (.cells #[.int .i64 5,.string ⟨#[]⟩,.int .i64 0,.int .i64 0,.string ⟨#[]⟩,.slice none 0 0,.string ⟨#[]⟩,.slice none 0 0,.slice none 0 0,.slice none 0 0,.slice none 0 0] 73 (0,0))) (hM:ExM w4 (s3≤·) E ⟨fo,fx,fname,fA,fl,fc⟩) (h3:wr.heap.size<s3) :
  VarP W wr lo i4 ca cb E fo fx fname fA fl fc ((((((w4.setCell ⟨wr.heap.size,0,none⟩ (.int .i64 1)).setCell ⟨wr.heap.size,2,none⟩ (.int .i64 fo)).setCell ⟨wr.heap.size,3,none⟩ (.int .i64 fx)).setCell ⟨wr.heap.size,4,none⟩ (.string ⟨fname.toArray⟩)).setCell ⟨wr.heap.size,5,none⟩ (.slice fA fl fc)).setCell ⟨wr.heap.size,1,none⟩ (.string ⟨#[118,ca,cb]⟩)):=by
 have hQ:=((((((PutAt.refl wr.heap.size w4).set 0 (.int .i64 1)).set 2 (.int .i64 fo)).set 3 (.int .i64 fx)).set 4 (.string ⟨fname.toArray⟩)).set 5 (.slice fA fl fc)).set 1 (.string ⟨#[118,ca,cb]⟩);have hFk:=hF.putAt hQ (lR _);refine⟨h.wmk hFk hW hQ (lR _),hFk,?_,(hM.keep fun b hb _=>hQ.2.2.2.2 b (by omega)).more fun b hb=>by omega⟩;exact za4 1 _ (za4 5 _ (za4 4 _ (za4 3 _ (za4 2 _ (za4 0 _ hT)))))
theorem new_fn {wn w5:World} {q:Nat} {a b c:Value} {t:TypeId} (hG:(wn.alloc (.cells #[a,b,c] t)).drew.grownBy w5 (some q)) (hq:q<wn.heap.size) :
  w5.heap[wn.heap.size]?=some (.cells #[a,b,c] t (0,0))∧w5.cell? ⟨wn.heap.size,0,none⟩=some a∧w5.cell? ⟨wn.heap.size,1,none⟩=some b∧w5.cell? ⟨wn.heap.size,2,none⟩=some c∧∀j,w5.frozen? ⟨wn.heap.size,j,none⟩=false:=by
 have h:w5.heap[wn.heap.size]?=some (.cells #[a,b,c] t (0,0)):=(hG.block wn.heap.size (show wn.heap.size<(wn.alloc (.cells #[a,b,c] t)).heap.size by simp) (fun e=>by injection e with e;omega)).trans (heap_alloc_new wn (.cells #[a,b,c] t));obtain⟨x0,x1,x2⟩:=zcG h;exact⟨h,x0,x1,x2,fun j=>frozen_of_row w5 _ j _ _ h⟩
structure CalP (W:WP) (wr:World) (lo i4:Nat) (K:Int) (gj:Hd) (gA gB:Option Addr) (gc gbn gbc:Nat) (X:Nat) (wx:World):Prop where
 wm:WrM wx W i4 lo
 fr:Fr W.g W.q wr wx
 t:wx.heap[wr.heap.size]?=some (.cells #[.int .i64 K,.string ⟨#[]⟩,.int .i64 0,.int .i64 0,.string ⟨#[]⟩,.slice none 0 0,.string ⟨#[]⟩,.slice none 0 0,.slice none 0 0,.slice none 0 0,.slice none 0 0] 73 (0,0))
 x:wx.heap[X]?=some (.cells #[.string ⟨gj.name.toArray⟩,.slice gA gj.ps.length gc,.slice gB gbn gbc] 52 (0,0))
 hx:wr.heap.size<X
theorem zhc {W:WP} {wr w5:World} {lo i4:Nat} {K:Int} {gj:Hd} {gA gB:Option Addr} {gc gbn gbc:Nat} (hW:WrM w5 W i4 lo) (hF:Fr W.g W.q wr w5)
  (hT:w5.heap[wr.heap.size]?=some (.cells #[.int .i64 K,.string ⟨#[]⟩,.int .i64 0,.int .i64 0,.string ⟨#[]⟩,.slice none 0 0,.string ⟨#[]⟩,.slice none 0 0,.slice none 0 0,.slice none 0 0,.slice none 0 0] 73 (0,0))) :
  CalP W wr lo i4 K gj gA gB gc gbn gbc w5.heap.size (w5.alloc (.cells #[.string ⟨gj.name.toArray⟩,.slice gA gj.ps.length gc,.slice gB gbn gbc] 52)) :=
 ⟨hW.alloc _,hF.alloc _,zae _ hT,heap_alloc_new w5 _,lt_of_block hT⟩
theorem zhb {w:World} {W:WP} {f0:Obj} {P:List (St × SG)} {us:List Nm} {v vv:Value} {i0 lo0 X:Nat} {wr w5:World} {lo i4:Nat} {K:Int} {gj:Hd} {gA gB:Option Addr} {gc gbn gbc:Nat} (h:BkS w W f0 P us v vv i0 lo0 wr) (hW:WrM w5 W i4 lo) (hF:Fr W.g W.q wr w5)
  (hT:w5.heap[wr.heap.size]?=some (.cells #[.int .i64 K,.string ⟨#[]⟩,.int .i64 0,.int .i64 0,.string ⟨#[]⟩,.slice none 0 0,.string ⟨#[]⟩,.slice none 0 0,.slice none 0 0,.slice none 0 0,.slice none 0 0] 73 (0,0)))
  (hX:w5.heap[X]?=some (.cells #[.string ⟨#[]⟩,.slice none 0 0,.slice none 0 0] 52 (0,0))) (hx:wr.heap.size<X) :
  CalP W wr lo i4 K gj gA gB gc gbn gbc X (((w5.setCell ⟨X,0,none⟩ (.string ⟨gj.name.toArray⟩)).setCell ⟨X,1,none⟩ (.slice gA gj.ps.length gc)).setCell ⟨X,2,none⟩ (.slice gB gbn gbc)):=by
 have hQ:=(((PutAt.refl X w5).set 0 (.string ⟨gj.name.toArray⟩)).set 1 (.slice gA gj.ps.length gc)).set 2 (.slice gB gbn gbc);have hFk:=hF.putAt hQ (by omega);exact⟨h.wmk hFk hW hQ (by omega),hFk,(hQ.2.2.2.2 _ (by omega)).trans hT,za4 2 _ (za4 1 _ (za4 0 _ hX)),hx⟩
theorem zit {w:World} {B sz n c:Nat} {t:TypeId} {A:Option Addr} {cs:List Value} (h:w.ownsRow B t sz (.slice A n c) n cs) (hn:0<n):∃ad,A=some ad∧∀j u,cs[j]?=some u→w.cell? (ad.add j)=some u:=by
 rcases h.2 with⟨_,h0⟩|⟨g,cap,cur,e,_⟩
 ·
  omega
 ·
  injection e with e1 _ e3;subst e1 e3;refine⟨_,rfl,fun j u hj=>?_⟩;rw[Go.WideShapes.add_plain,Nat.zero_add];exact(World.ownsRow.cellAt h j (by have h1:=(List.getElem?_eq_some_iff.1 hj).1;have h2:cs.length=n*sz:=h.1;rw[←h2];exact h1)).trans hj
def BkL (w:World) (W:WP) (ps:List Pm) (fo:Obj) (d left most:Nat) (vs:List Nm) (vv v n:Value) (wr:World):Prop :=
 ∃(k:Nat) (P:List (St × SG)) (us:List Nm) (i lo:Nat),n=.int .i64 k∧k≤most∧us.length+lo≤1000∧lo≤left∧BlW W.ms W.fs ps d vs left lo (P.map (·.1)) us∧BkS w W fo P us v vv i lo wr
def IntR (w:World) (A:Option Addr) (xs:List Int):Prop :=
 ∀i (h:i<xs.length),∃b off,A=some ⟨b,off,none⟩∧w.cell? ⟨b,off+i,none⟩=some (.int .i64 xs[i])∧-9223372036854775808≤xs[i]∧xs[i]≤9223372036854775807
theorem IntR.later {w w':World} {A:Option Addr} {xs:List Int} (h:IntR w A xs) (hb:Below w.heap.size w w'):IntR w' A xs:=by
 intro i hi;obtain⟨b,off,e,hc,r⟩:=h i hi;exact⟨b,off,e,cell_later hb hc,r⟩
theorem IntR.take {w:World} {A:Option Addr} {xs:List Int} (h:IntR w A xs) (n:Nat):IntR w A (xs.take n):=fun i hi=>by
 have h1:i<xs.length:=by simp at hi;omega
 obtain⟨b,off,e,h2,r⟩:=h i h1;exact⟨b,off,e,by simpa using h2,by simpa using r⟩
set_option maxHeartbeats 1000000 in
theorem cutN_any (n:Nat) (hn:n≤1000000) (xs:List Int) (A:Option Addr) (cap:Nat) (w:World) (hR:IntR w A xs) (hc:xs.length≤cap) (hm:xs.length≤9223372036854775807) :
  Calls Tryz.prog 31 #[.slice A xs.length cap,.int .i64 (n:Int)] w fun e w'=>e=.returned (.slice A (xs.take n).length cap)∧w=w':=by
 by_cases h:n<xs.length
 ·
  obtain⟨b,off,rfl,-⟩:=hR 0 (by omega);have HL:Hid ((xs.take n).length=n):=by show _=_;simp;omega
  have hcap:n≤cap:=by omega
  clear hR;go_enter Tryz.func31,Tryz.ntmps31;go_wp2;go_ret;exact⟨by rw[HL.out];rfl,rfl⟩
 ·
  have HL:Hid ((xs.take n).length=xs.length):=by show _=_;simp;omega
  clear hR;go_enter Tryz.func31,Tryz.ntmps31;go_wp2;go_ret;exact⟨by rw[HL.out];rfl,rfl⟩
theorem new_src {w:World} {A:Option Addr} {xs:List Int} {cap:Nat} (hR:IntR w A xs) (hx:xs.length≤1000) (Z N:Obj) :
  Src (((w.alloc Z).alloc (.cells #[.slice A xs.length cap,.int .i64 0] 83)).alloc N) (w.heap.size+1) xs 0:=by
 have hk:∀b,b<w.heap.size→(((w.alloc Z).alloc (.cells #[.slice A xs.length cap,.int .i64 0] 83)).alloc N).heap[b]?=w.heap[b]?:=fun b hb =>
  (Below.heap_alloc _ _ b (by simp;omega)).trans ((Below.heap_alloc _ _ b (by simp;omega)).trans (Below.heap_alloc w Z b hb))
 refine⟨A,cap,?_,by omega,hx,fun k hkk=>?_⟩
 ·
  refine(Below.heap_alloc _ _ _ (by simp)).trans ?_
  have:=heap_alloc_new (w.alloc Z) (.cells #[.slice A xs.length cap,.int .i64 0] 83);rw[show (w.alloc Z).heap.size=w.heap.size+1 by simp] at this;exact this
 ·
  obtain⟨b,off,e,hc,r⟩:=hR k hkk;have hbl:b<w.heap.size:=World.block_lt_of_cell? _ _ hc;exact⟨b,off,e,by omega,(World.cell?_of_block (hk b hbl)).trans hc,r⟩
theorem StsM.later {w w':World} {l:List St} {A:Option Addr} (h:StsM w (fun _=>True) l A) (hb:Below w.heap.size w w'):StsM w' (fun _=>True) l A:=h.keep fun b _ hl=>hb.block b hl
theorem PmsM.later {w w':World} {l:List Pm} {A:Option Addr} (h:PmsM w (fun _=>True) l A) (hb:Below w.heap.size w w'):PmsM w' (fun _=>True) l A:=h.keep fun b _ hl=>hb.block b hl
structure PgM (w:World) (p:Pg) (AG AM AF:Option Addr) (H:Nat→FnG):Prop where
 g:∀i (h:i<p.gs.length),∃b,AG=some ⟨b,0,none⟩∧w.cell? ⟨b,i*2,none⟩=some (.string ⟨p.gs[i].name.toArray⟩)∧w.cell? ⟨b,i*2+1,none⟩=some (.int .i64 p.gs[i].init)
 m:∀i (h:i<p.ms.length),∃b,AM=some ⟨b,0,none⟩∧w.cell? ⟨b,i*3,none⟩=some (.string ⟨p.ms[i].name.toArray⟩)∧w.cell? ⟨b,i*3+1,none⟩=some (.bool p.ms[i].re)∧w.cell? ⟨b,i*3+2,none⟩=some (.int .i64 (p.ms[i].size:Int))
 f:∀i (h:i<p.fs.length),∃b,AF=some ⟨b,0,none⟩∧w.cell? ⟨b,i*3,none⟩=some (.string ⟨p.fs[i].name.toArray⟩)∧w.cell? ⟨b,i*3+1,none⟩=some (.slice (H i).A p.fs[i].ps.length (H i).c)∧w.cell? ⟨b,i*3+2,none⟩=some (.slice (H i).B p.fs[i].body.length (H i).d)
 ps:∀i (h:i<p.fs.length),PmsM w (fun _=>True) p.fs[i].ps (H i).A
 bd:∀i (h:i<p.fs.length),StsM w (fun _=>True) p.fs[i].body (H i).B
theorem zc6 {w w':World} (hb:Below w.heap.size w w') {b o:Nat} {v:Value} (h:w.cell? ⟨b,o,none⟩=some v):w'.cell? ⟨b,o,none⟩=some v :=
 (World.cell?_of_block (a:=⟨b,o,none⟩) (hb.block b (World.block_lt_of_cell? _ _ h))).trans h
theorem PgM.later {w w':World} {p:Pg} {AG AM AF:Option Addr} {H:Nat→FnG} (h:PgM w p AG AM AF H) (hb:Below w.heap.size w w'):PgM w' p AG AM AF H:=by
 refine⟨fun i hi=>?_,fun i hi=>?_,fun i hi=>?_,fun i hi=>(h.ps i hi).later hb,fun i hi=>(h.bd i hi).later hb⟩
 ·
  obtain⟨b,e,h0,h1⟩:=h.g i hi;exact⟨b,e,zc6 hb h0,zc6 hb h1⟩
 ·
  obtain⟨b,e,h0,h1,h2⟩:=h.m i hi;exact⟨b,e,zc6 hb h0,zc6 hb h1,zc6 hb h2⟩
 ·
  obtain⟨b,e,h0,h1,h2⟩:=h.f i hi;exact⟨b,e,zc6 hb h0,zc6 hb h1,zc6 hb h2⟩
theorem zcV {w:World} {B n c size m:Nat} {t:TypeId} {A:Option Addr} {xs:List Value} (h:w.ownsRow B t size (.slice A n c) m xs) (hm:0<m):∃g,A=some ⟨g,0,none⟩:=by
 rcases h.2 with⟨_,h0⟩|⟨g,cap',cur,e,hg,_⟩
 ·
  omega
 ·
  simp only[Value.slice.injEq] at e;exact⟨g,e.1⟩
end Go.Proofs.YtlnbmmgbfgmboaaGreatDoor
