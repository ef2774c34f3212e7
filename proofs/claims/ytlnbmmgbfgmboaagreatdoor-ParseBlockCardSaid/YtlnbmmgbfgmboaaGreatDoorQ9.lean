import Derived.Test.YtlnbmmgbfgmboaaGreatDoorQa
import Derived.Test.YtlnbmmgbfgmboaaGreatDoorQ8
namespace Go.Proofs.YtlnbmmgbfgmboaaGreatDoor
open Go.RowKit
structure PwR (w:World) (g:Nat) (ys:List Int) (ar:Bool) (kG kM kF:Value) (vV:Value) (us:List Nm) (vG vM vF:Value) (PG:List Gl) (PM:List Mx) (PF:List (Fn × FnG)) (i:Nat) (wr:World):Prop where
 r:wr.heap[w.heap.size]?=some (.cells #[.slice none 0 0,.slice none 0 0,.slice none 0 0] 45 (0,0))
 gb:wr.heap[g]?=some (.cells #[.pointer (some ⟨w.heap.size+1,0,none⟩),kG,kM,kF,.int .i64 24,.bool ar] 85 (0,0))
 s:Src wr (w.heap.size+1) ys i
 p:PgR wr (g+1) vG vM vF PG PM PF
 v:wr.ownsRow (g+1) 9 1 vV us.length (strK.cs us)
 dG:Dj vV vG
 dM:Dj vV vM
 dF:Dj vV vF
 b:Below w.heap.size w wr
 hg:g=w.heap.size+1+1
abbrev PwS (w:World) (g:Nat) (ys:List Int) (ar:Bool) (vV:Value) (us:List Nm) (vG vM vF:Value) (PG:List Gl) (PM:List Mx) (PF:List (Fn × FnG)) (i:Nat) (wr:World):Prop:=PwR w g ys ar vG vM vF vV us vG vM vF PG PM PF i wr
theorem PwR.next {w wr w':World} {g:Nat} {ys:List Int} {ar:Bool} {kG kM kF vV vG vM vF:Value} {us:List Nm} {PG:List Gl} {PM:List Mx} {PF:List (Fn × FnG)} {i i':Nat} (h:PwR w g ys ar kG kM kF vV us vG vM vF PG PM PF i wr) (hs:Src w' (w.heap.size+1) ys i') (hg:wr.grownBy w' (some (w.heap.size+1))):PwR w g ys ar kG kM kF vV us vG vM vF PG PM PF i' w':=by
 have hgl:=lt_of_block h.gb;have hgE:=h.hg;have hk:∀b,b<wr.heap.size→b≠w.heap.size+1→w'.heap[b]?=wr.heap[b]?:=fun b hb hn=>hg.block b hb fun e=>by injection e with e;exact hn e
 exact⟨(hk _ (by omega) (by omega)).trans h.r,(hk _ hgl (by omega)).trans h.gb,hs,h.p.keep fun b hb hl=>hk b hl (by omega),zas h.v fun b hb hl _=>hk b hl (by omega),h.dG,h.dM,h.dF,
  ⟨hg.os.trans h.b.os,hg.tape.trans h.b.tape,hg.output.trans h.b.output,by have:=h.b.size;have:=hg.size;omega,fun b hb=>(hk b (by omega) (by omega)).trans (h.b.block b hb)⟩,h.hg⟩
theorem PwR.drew {w wr:World} {g:Nat} {ys:List Int} {ar:Bool} {kG kM kF vV vG vM vF:Value} {us:List Nm} {PG:List Gl} {PM:List Mx} {PF:List (Fn × FnG)} {i:Nat} (h:PwR w g ys ar kG kM kF vV us vG vM vF PG PM PF i wr):PwR w g ys ar kG kM kF vV us vG vM vF PG PM PF i wr.drew :=
 h.next (h.s.keep fun _ _=>rfl) (zcf (za2 (Below.refl _ _)))
theorem PwR.alloc {w wr:World} {g:Nat} {ys:List Int} {ar:Bool} {kG kM kF vV vG vM vF:Value} {us:List Nm} {PG:List Gl} {PM:List Mx} {PF:List (Fn × FnG)} {i:Nat} (h:PwR w g ys ar kG kM kF vV us vG vM vF PG PM PF i wr) (o:Obj):PwR w g ys ar kG kM kF vV us vG vM vF PG PM PF i (wr.alloc o) :=
 h.next (h.s.keep fun b hb=>Below.heap_alloc wr o b (by have:=lt_of_block h.gb;have:=h.hg;omega)) (za2 ((Below.refl _ _).alloc (lR _) o))
theorem PwR.cells {w wr:World} {g:Nat} {ys:List Int} {ar:Bool} {kG kM kF vV vG vM vF:Value} {us:List Nm} {PG:List Gl} {PM:List Mx} {PF:List (Fn × FnG)} {i:Nat} (h:PwR w g ys ar kG kM kF vV us vG vM vF PG PM PF i wr) :
  wr.cell? ⟨g,0,none⟩=some (.pointer (some ⟨w.heap.size+1,0,none⟩))∧wr.cell? ⟨g,1,none⟩=some kG∧wr.cell? ⟨g,2,none⟩=some kM∧wr.cell? ⟨g,3,none⟩=some kF∧wr.cell? ⟨g,5,none⟩=some (.bool ar)∧(∀j,wr.frozen? ⟨g,j,none⟩=false)∧g<wr.heap.size:=by
 have hg:=h.gb;refine⟨?_,?_,?_,?_,?_,fun j=>by simp[World.frozen?,hg],lt_of_block hg⟩
 ·
  rw[cell_of_row wr _ 0 _ _ _ hg];rfl
 ·
  rw[cell_of_row wr _ 1 _ _ _ hg];rfl
 ·
  rw[cell_of_row wr _ 2 _ _ _ hg];rfl
 ·
  rw[cell_of_row wr _ 3 _ _ _ hg];rfl
 ·
  rw[cell_of_row wr _ 5 _ _ _ hg];rfl
theorem PwR.aG {w wr w5:World} {g:Nat} {ys:List Int} {ar:Bool} {kG kM kF vV vG vM vF v':Value} {us:List Nm} {PG:List Gl} {PM:List Mx} {PF:List (Fn × FnG)} {i:Nat} (h:PwR w g ys ar kG kM kF vV us vG vM vF PG PM PF i wr) (a:Gl)
  (hown:w5.ownsRow (g+1) 90 2 v' (PG.length+1) (glK.cs PG++glK.cl a)) (hgrow:wr.grownBy w5 vG.ownBlock) (hv:Grw wr vG v'):PwR w g ys ar kG kM kF vV us v' vM vF (PG++[a]) PM PF i w5:=by
 have hgl:=lt_of_block h.gb;have hgE:=h.hg;have hov:∀b,vG.ownBlock=some b→g+1≤b∧b<wr.heap.size:=fun b hb=>h.p.rG.lt b hb;have hlow:∀b,b<g+1→w5.heap[b]?=wr.heap[b]?:=fun b hb=>hgrow.block b (by omega) fun e=>by have:=(hov b e.symm).1;omega
 refine⟨(hlow _ (by omega)).trans h.r,(hlow _ (by omega)).trans h.gb,h.s.keep fun b hb=>hlow b (by omega),h.p.snocG a hown hgrow hv,h.v.kept hgrow h.dG,(h.dG.symm.grw hv h.v).symm,h.dM,h.dF,?_,h.hg⟩;exact⟨hgrow.os.trans h.b.os,hgrow.tape.trans h.b.tape,hgrow.output.trans h.b.output,by have:=h.b.size;have:=hgrow.size;omega,fun b hb=>(hlow b (by omega)).trans (h.b.block b hb)⟩
theorem PwR.aM {w wr w5:World} {g:Nat} {ys:List Int} {ar:Bool} {kG kM kF vV vG vM vF v':Value} {us:List Nm} {PG:List Gl} {PM:List Mx} {PF:List (Fn × FnG)} {i:Nat} (h:PwR w g ys ar kG kM kF vV us vG vM vF PG PM PF i wr) (a:Mx)
  (hown:w5.ownsRow (g+1) 88 3 v' (PM.length+1) (mxK.cs PM++mxK.cl a)) (hgrow:wr.grownBy w5 vM.ownBlock) (hv:Grw wr vM v'):PwR w g ys ar kG kM kF vV us vG v' vF PG (PM++[a]) PF i w5:=by
 have hgl:=lt_of_block h.gb;have hgE:=h.hg;have hov:∀b,vM.ownBlock=some b→g+1≤b∧b<wr.heap.size:=fun b hb=>h.p.rM.lt b hb;have hlow:∀b,b<g+1→w5.heap[b]?=wr.heap[b]?:=fun b hb=>hgrow.block b (by omega) fun e=>by have:=(hov b e.symm).1;omega
 refine⟨(hlow _ (by omega)).trans h.r,(hlow _ (by omega)).trans h.gb,h.s.keep fun b hb=>hlow b (by omega),h.p.snocM a hown hgrow hv,h.v.kept hgrow h.dM,h.dG,(h.dM.symm.grw hv h.v).symm,h.dF,?_,h.hg⟩;exact⟨hgrow.os.trans h.b.os,hgrow.tape.trans h.b.tape,hgrow.output.trans h.b.output,by have:=h.b.size;have:=hgrow.size;omega,fun b hb=>(hlow b (by omega)).trans (h.b.block b hb)⟩
theorem PwR.aF {w wr w5:World} {g:Nat} {ys:List Int} {ar:Bool} {kG kM kF vV vG vM vF v':Value} {us:List Nm} {PG:List Gl} {PM:List Mx} {PF:List (Fn × FnG)} {i:Nat} (h:PwR w g ys ar kG kM kF vV us vG vM vF PG PM PF i wr) (a:Fn × FnG) (ha:fnK.In wr (S3 (g+1) vG vM vF) a)
  (hown:w5.ownsRow (g+1) 52 3 v' (PF.length+1) (fnK.cs PF++fnK.cl a)) (hgrow:wr.grownBy w5 vF.ownBlock) (hv:Grw wr vF v'):PwR w g ys ar kG kM kF vV us vG vM v' PG PM (PF++[a]) i w5:=by
 have hgl:=lt_of_block h.gb;have hgE:=h.hg;have hov:∀b,vF.ownBlock=some b→g+1≤b∧b<wr.heap.size:=fun b hb=>h.p.rF.lt b hb;have hlow:∀b,b<g+1→w5.heap[b]?=wr.heap[b]?:=fun b hb=>hgrow.block b (by omega) fun e=>by have:=(hov b e.symm).1;omega
 refine⟨(hlow _ (by omega)).trans h.r,(hlow _ (by omega)).trans h.gb,h.s.keep fun b hb=>hlow b (by omega),h.p.snocF a ha hown hgrow hv,h.v.kept hgrow h.dF,h.dG,h.dM,(h.dF.symm.grw hv h.v).symm,?_,h.hg⟩;exact⟨hgrow.os.trans h.b.os,hgrow.tape.trans h.b.tape,hgrow.output.trans h.b.output,by have:=h.b.size;have:=hgrow.size;omega,fun b hb=>(hlow b (by omega)).trans (h.b.block b hb)⟩
theorem PwR.sG {w wr:World} {g:Nat} {ys:List Int} {ar:Bool} {kG kM kF vV vG vM vF:Value} {us:List Nm} {PG:List Gl} {PM:List Mx} {PF:List (Fn × FnG)} {i:Nat} (h:PwR w g ys ar kG kM kF vV us vG vM vF PG PM PF i wr) (u:Value):PwR w g ys ar u kM kF vV us vG vM vF PG PM PF i (wr.setCell ⟨g,1,none⟩ u):=by
 have hgE:=h.hg;have hst:=(PutAt.refl g wr).set 1 u;refine⟨(hst.2.2.2.2 _ (by omega)).trans h.r,za4 1 u h.gb,h.s.keep fun b hb=>hst.2.2.2.2 b (by omega),h.p.putAt hst (by omega),zas h.v fun b hb _ _=>hst.2.2.2.2 b (by omega),h.dG,h.dM,h.dF,?_,h.hg⟩;exact⟨hst.1.trans h.b.os,hst.2.1.trans h.b.tape,hst.2.2.1.trans h.b.output,by have:=h.b.size;have:=hst.2.2.2.1;omega,fun b hb=>(hst.2.2.2.2 b (by omega)).trans (h.b.block b hb)⟩
theorem PwR.sM {w wr:World} {g:Nat} {ys:List Int} {ar:Bool} {kG kM kF vV vG vM vF:Value} {us:List Nm} {PG:List Gl} {PM:List Mx} {PF:List (Fn × FnG)} {i:Nat} (h:PwR w g ys ar kG kM kF vV us vG vM vF PG PM PF i wr) (u:Value):PwR w g ys ar kG u kF vV us vG vM vF PG PM PF i (wr.setCell ⟨g,2,none⟩ u):=by
 have hgE:=h.hg;have hst:=(PutAt.refl g wr).set 2 u;refine⟨(hst.2.2.2.2 _ (by omega)).trans h.r,za4 2 u h.gb,h.s.keep fun b hb=>hst.2.2.2.2 b (by omega),h.p.putAt hst (by omega),zas h.v fun b hb _ _=>hst.2.2.2.2 b (by omega),h.dG,h.dM,h.dF,?_,h.hg⟩;exact⟨hst.1.trans h.b.os,hst.2.1.trans h.b.tape,hst.2.2.1.trans h.b.output,by have:=h.b.size;have:=hst.2.2.2.1;omega,fun b hb=>(hst.2.2.2.2 b (by omega)).trans (h.b.block b hb)⟩
theorem PwR.sF {w wr:World} {g:Nat} {ys:List Int} {ar:Bool} {kG kM kF vV vG vM vF:Value} {us:List Nm} {PG:List Gl} {PM:List Mx} {PF:List (Fn × FnG)} {i:Nat} (h:PwR w g ys ar kG kM kF vV us vG vM vF PG PM PF i wr) (u:Value):PwR w g ys ar kG kM u vV us vG vM vF PG PM PF i (wr.setCell ⟨g,3,none⟩ u):=by
 have hgE:=h.hg;have hst:=(PutAt.refl g wr).set 3 u;refine⟨(hst.2.2.2.2 _ (by omega)).trans h.r,za4 3 u h.gb,h.s.keep fun b hb=>hst.2.2.2.2 b (by omega),h.p.putAt hst (by omega),zas h.v fun b hb _ _=>hst.2.2.2.2 b (by omega),h.dG,h.dM,h.dF,?_,h.hg⟩;exact⟨hst.1.trans h.b.os,hst.2.1.trans h.b.tape,hst.2.2.1.trans h.b.output,by have:=h.b.size;have:=hst.2.2.2.1;omega,fun b hb=>(hst.2.2.2.2 b (by omega)).trans (h.b.block b hb)⟩
theorem PwR.aV {w wr w5:World} {g:Nat} {ys:List Int} {ar:Bool} {kG kM kF vV vG vM vF v':Value} {us:List Nm} {PG:List Gl} {PM:List Mx} {i:Nat} (h:PwR w g ys ar kG kM kF vV us vG vM vF PG PM [] i wr) (a:Nm)
  (hown:w5.ownsRow (g+1) 9 1 v' (us.length+1) (strK.cs us++strK.cl a)) (hgrow:wr.grownBy w5 vV.ownBlock) (hv:Grw wr vV v'):PwR w g ys ar kG kM kF v' (us++[a]) vG vM vF PG PM [] i w5:=by
 have hgl:=lt_of_block h.gb;have hgE:=h.hg;have hov:∀b,vV.ownBlock=some b→g+1≤b∧b<wr.heap.size:=fun b hb=>h.v.lt b hb;have hlow:∀b,b<g+1→w5.heap[b]?=wr.heap[b]?:=fun b hb=>hgrow.block b (by omega) fun e=>by have:=(hov b e.symm).1;omega
 refine⟨(hlow _ (by omega)).trans h.r,(hlow _ (by omega)).trans h.gb,h.s.keep fun b hb=>hlow b (by omega),⟨h.p.rG.kept hgrow h.dG.symm,h.p.rM.kept hgrow h.dM.symm,h.p.rF.kept hgrow h.dF.symm,fun p hp=>absurd hp (by simp),h.p.gm,h.p.gf,h.p.mf⟩,?_,h.dG.grw hv h.p.rG,h.dM.grw hv h.p.rM,h.dF.grw hv h.p.rF,?_,h.hg⟩
 ·
  rw[strK.cs_snoc,List.length_append];exact hown
 ·
  exact⟨hgrow.os.trans h.b.os,hgrow.tape.trans h.b.tape,hgrow.output.trans h.b.output,by have:=h.b.size;have:=hgrow.size;omega,fun b hb=>(hlow b (by omega)).trans (h.b.block b hb)⟩
theorem PwR.snocM {w wr w5:World} {g:Nat} {ys:List Int} {ar:Bool} {vV vG vM vF v':Value} {us:List Nm} {PG:List Gl} {PM:List Mx} {PF:List (Fn × FnG)} {i:Nat} (h:PwS w g ys ar vV us vG vM vF PG PM PF i wr) (a:Mx)
  (hown:w5.ownsRow (g+1) 88 3 v' (PM.length+1) (mxK.cs PM++mxK.cl a)) (hgrow:wr.grownBy w5 vM.ownBlock) (hv:Grw wr vM v'):PwS w g ys ar vV us vG v' vF PG (PM++[a]) PF i (w5.setCell ⟨g,2,none⟩ v'):=(h.aM a hown hgrow hv).sM v'
theorem PwR.snocF {w wr w5:World} {g:Nat} {ys:List Int} {ar:Bool} {vV vG vM vF v':Value} {us:List Nm} {PG:List Gl} {PM:List Mx} {PF:List (Fn × FnG)} {i:Nat} (h:PwS w g ys ar vV us vG vM vF PG PM PF i wr) (a:Fn × FnG) (ha:fnK.In wr (S3 (g+1) vG vM vF) a)
  (hown:w5.ownsRow (g+1) 52 3 v' (PF.length+1) (fnK.cs PF++fnK.cl a)) (hgrow:wr.grownBy w5 vF.ownBlock) (hv:Grw wr vF v'):PwS w g ys ar vV us vG vM v' PG PM (PF++[a]) i (w5.setCell ⟨g,3,none⟩ v'):=(h.aF a ha hown hgrow hv).sF v'
theorem PwR.kg {w wr w5:World} {g:Nat} {ys:List Int} {ar:Bool} {kG kM kF vV vG vM vF v:Value} {us:List Nm} {PG:List Gl} {PM:List Mx} {PF:List (Fn × FnG)} {i n sz:Nat} {t:TypeId} {cs:List Value} (h:PwR w g ys ar kG kM kF vV us vG vM vF PG PM PF i wr) (hv:wr.ownsRow (g+1) t sz v n cs) (hgrow:wr.grownBy w5 v.ownBlock) :
  w5.cell? ⟨g,0,none⟩=some (.pointer (some ⟨w.heap.size+1,0,none⟩))∧w5.cell? ⟨g,1,none⟩=some kG∧w5.cell? ⟨g,2,none⟩=some kM∧w5.cell? ⟨g,3,none⟩=some kF∧(∀j,w5.frozen? ⟨g,j,none⟩=false):=by
 have hk:=(hgrow.block g (lt_of_block h.gb) fun e=>by have:=(hv.lt _ e.symm).1;omega).trans h.gb;refine⟨?_,?_,?_,?_,fun j=>by simp[World.frozen?,hk]⟩
 ·
  rw[cell_of_row w5 _ 0 _ _ _ hk];rfl
 ·
  rw[cell_of_row w5 _ 1 _ _ _ hk];rfl
 ·
  rw[cell_of_row w5 _ 2 _ _ _ hk];rfl
 ·
  rw[cell_of_row w5 _ 3 _ _ _ hk];rfl
theorem zaw (ca:UInt8) (w:World) (g c:Nat) (h:NewsAt w g [.int .u8 (ca.toNat:Int)]):(convert 23 9 (.slice (some ⟨g,0,none⟩) 1 c)).run Tryz.prog w=.ok (.string ⟨[ca].toArray⟩) w:=by
 refine run_convert_bytes_back (P:=Tryz.prog) w 23 9 5 ⟨g,0,none⟩ c [ca] Tryz.underlying23 Tryz.underlying5 Tryz.underlying9 ?_;intro j hj;refine h j _ ?_
 match j,hj with
 | 0,_=>rfl
theorem chr97 (k:Nat) (h:k<10):IntKind.u8.wrap (97+(k:Int))=((UInt8.ofNat (97+k)).toNat:Int):=by
 have:∀k:Fin 10,IntKind.u8.wrap (97+((k.val:Nat):Int))=((UInt8.ofNat (97+k.val)).toNat:Int):=by decide
 exact this ⟨k,h⟩
theorem chr48 (k:Nat) (h:k<10):IntKind.u8.wrap (48+(k:Int))=((UInt8.ofNat (48+k)).toNat:Int):=by
 have:∀k:Fin 10,IntKind.u8.wrap (48+((k.val:Nat):Int))=((UInt8.ofNat (48+k.val)).toNat:Int):=by decide
 exact this ⟨k,h⟩
theorem NewsAt.later {w w':World} {g:Nat} {cs:List Value} (h:NewsAt w g cs) (hl:w'.heap[g]?=w.heap[g]?):NewsAt w' g cs:=h.keep hl
def nav:List Bool→Code→Code
 | [],c=>c
 | false::p,.seq a _=>nav p a
 | true::p,.seq _ b=>nav p b
 | false::p,.cond _ a _=>nav p a
 | true::p,.cond _ _ b=>nav p b
 | _::p,.block _ b=>nav p b
 | _::p,.loop b=>nav p b
 | _::_,c=>c
structure RndC (W:WP) (fn:Nm) (ps:List Pm) (pA bA:Option Addr) (pc bn bc N left d most k:Nat) (w wr w3:World) (vs us:List Nm) (P:List (St × SG)) (oA vA:Option Addr) (oc vc i1 i2 lo m:Nat):Prop where
 hps:ps.length≤2
 hl:left<N+1
 hd:d≤1000
 hm:most≤1000
 hn:vs.length+left≤1000
 hql:W.q<w.heap.size
 hgl:W.g<w.heap.size
 hll:left≤24
 hgl':W.g<wr.heap.size
 hwr:w.heap.size≤wr.heap.size
 hk:k≤most
 hk0:0<k
 hun:us.length+(lo+1)≤1000
 hlo:lo+1≤left
 hPl:P.length+2*(lo+1)≤2*left
 hm14:m<14
 HP:Hid (PmsM w (fun b=>b≠W.g∧b≠W.q) ps pA)
 IH3:Hid (∀(w:World) (i left:Nat) (vs:List Nm) (A:Option Addr) (c d:Nat) (dd:Int),left<N→d≤1000→dd=(d:Int)→WrM w W i left→StrN w W.q A vs→StrN w W.g A vs→vs.length+left≤1000→PmsM w (fun b=>b≠W.g∧b≠W.q) ps pA →
  Calls Tryz.prog 33 #[.pointer (some ⟨W.g,0,none⟩),.agg #[.string ⟨fn.toArray⟩,.slice pA ps.length pc,.slice bA bn bc],.slice A vs.length c,.int .i64 dd,.int .i64 3] w (WbP w W ps d left vs))
 IH2:Hid (∀(w:World) (i left:Nat) (vs:List Nm) (A:Option Addr) (c:Nat),left<N→WrM w W i left→StrN w W.q A vs→StrN w W.g A vs→vs.length+left≤1000→PmsM w (fun b=>b≠W.g∧b≠W.q) ps pA →
  Calls Tryz.prog 33 #[.pointer (some ⟨W.g,0,none⟩),.agg #[.string ⟨fn.toArray⟩,.slice pA ps.length pc,.slice bA bn bc],.slice A vs.length c,.int .i64 0,.int .i64 2] w (WbP w W ps 0 left vs))
 HBL:Hid (BlW W.ms W.fs ps d vs left (lo+1) (P.map (·.1)) us)
 HS:Hid (BkS w W (.cells #[.string ⟨fn.toArray⟩,.slice pA ps.length pc,.slice bA bn bc] 52 (0,0)) P us (.slice oA P.length oc) (.slice vA us.length vc) i1 (lo+1) wr)
 HF3:Hid (Fr W.g W.q wr w3)
 HT3:Hid (w3.heap[wr.heap.size]?=some (.cells #[.int .i64 5,.string ⟨#[]⟩,.int .i64 0,.int .i64 0,.string ⟨#[]⟩,.slice none 0 0,.string ⟨#[]⟩,.slice none 0 0,.slice none 0 0,.slice none 0 0,.slice none 0 0] 73 (0,0)))
 HW3:Hid (WrM w3 W i2 lo)
 HNq:Hid (StrN w3 W.q vA us)
 HNg:Hid (StrN w3 W.g vA us)
 HPm:Hid (PmsM w3 (fun b=>b≠W.g∧b≠W.q) ps pA)
 f0:w3.cell? ⟨w.heap.size,0,none⟩=some (.string ⟨fn.toArray⟩)
 f1:w3.cell? ⟨w.heap.size,1,none⟩=some (.slice pA ps.length pc)
 f2:w3.cell? ⟨w.heap.size,2,none⟩=some (.slice bA bn bc)
def MpP (w:World) (e:Ending) (w':World):Prop :=
 ∃(P:Pg) (AG AM AF:Option Addr) (cG cM cF:Nat) (H:Nat→FnG),e=.returned (.agg #[.slice AG P.gs.length cG,.slice AM P.ms.length cM,.slice AF P.fs.length cF])∧PgW P∧PgM w' P AG AM AF H∧Below w.heap.size w w'
def MxOk (PM:List Mx):Prop:=∀j (h:j<PM.length),PM[j].name=[UInt8.ofNat (97+j)]∧PM[j].size≤3∧(PM[j].re=true→PM[j].size=0)
theorem MxOk.snoc {PM:List Mx} (h:MxOk PM) {a:Mx} (h0:a.name=[UInt8.ofNat (97+PM.length)]) (h1:a.size≤3) (h2:a.re=true→a.size=0):MxOk (PM++[a]):=by
 intro j hj;rw[List.getElem_append];split
 ·
  exact h j ‹_›
 ·
  have:j=PM.length:=by simp at hj;omega
  subst this;simp only[Nat.sub_self,List.getElem_cons_zero];exact⟨h0,h1,h2⟩
def ML1 (w:World) (g:Nat) (ys:List Int) (ar:Bool) (k:Nat) (wr:World):Prop :=
 ∃(PM:List Mx) (AM:Option Addr) (cM i:Nat),PM.length=k∧MxOk PM∧PwS w g ys ar (.slice none 0 0) [] (.slice none 0 0) (.slice AM PM.length cM) (.slice none 0 0) [] PM [] i wr
theorem hid_nil (B:Nat) (t:TypeId) (w:World):w.ownsRow B t 1 (.slice none 0 0) ([]:List Nm).length (strK.cs []):=World.ownsRow_nil _ _ _ _
theorem zii {w:World} {ys:List Int} {A:Option Addr} {cap:Nat} (hR:IntR w A ys) (hx:ys.length≤1000) :
  PwS w (w.heap.size+1+1) ys false (.slice none 0 0) [] (.slice none 0 0) (.slice none 0 0) (.slice none 0 0) [] [] [] 0 (((w.alloc (.cells #[.slice none 0 0,.slice none 0 0,.slice none 0 0] 45)).alloc (.cells #[.slice A ys.length cap,.int .i64 0] 83)).alloc (.cells #[.pointer (some ⟨w.heap.size+1,0,none⟩),.slice none 0 0,.slice none 0 0,.slice none 0 0,.int .i64 24,.bool false] 85)):=by
 have h1:(w.alloc (.cells #[.slice none 0 0,.slice none 0 0,.slice none 0 0] 45)).heap.size=w.heap.size+1:=by simp
 have h2:((w.alloc (.cells #[.slice none 0 0,.slice none 0 0,.slice none 0 0] 45)).alloc (.cells #[.slice A ys.length cap,.int .i64 0] 83)).heap.size=w.heap.size+2:=by simp
 refine⟨(Below.heap_alloc _ _ _ (by omega)).trans ((Below.heap_alloc _ _ _ (by omega)).trans (heap_alloc_new w _)),?_,new_src hR hx _ _,PgR.nil _ _,hid_nil _ _ _,.inl rfl,.inl rfl,.inl rfl,((((Below.refl _ _).alloc (lR _) _).alloc (by simp) _).alloc (by simp;omega) _),rfl⟩
 have:=heap_alloc_new ((w.alloc (.cells #[.slice none 0 0,.slice none 0 0,.slice none 0 0] 45)).alloc (.cells #[.slice A ys.length cap,.int .i64 0] 83)) (.cells #[.pointer (some ⟨w.heap.size+1,0,none⟩),.slice none 0 0,.slice none 0 0,.slice none 0 0,.int .i64 24,.bool false] 85);rw[h2] at this;exact this
theorem PwR.arith {w wr:World} {g:Nat} {ys:List Int} {ar:Bool} {vV vG vM vF:Value} {us:List Nm} {PG:List Gl} {PM:List Mx} {PF:List (Fn × FnG)} {i:Nat} (h:PwS w g ys ar vV us vG vM vF PG PM PF i wr) (b:Bool):PwS w g ys b vV us vG vM vF PG PM PF i (wr.setCell ⟨g,5,none⟩ (.bool b)):=by
 have hgE:=h.hg;have hst:=(PutAt.refl g wr).set 5 (.bool b);refine⟨(hst.2.2.2.2 _ (by omega)).trans h.r,za4 5 _ h.gb,h.s.keep fun b hb=>hst.2.2.2.2 b (by omega),h.p.putAt hst (by omega),zas h.v fun b hb _ _=>hst.2.2.2.2 b (by omega),h.dG,h.dM,h.dF,?_,h.hg⟩;exact⟨hst.1.trans h.b.os,hst.2.1.trans h.b.tape,hst.2.2.1.trans h.b.output,by have:=h.b.size;have:=hst.2.2.2.1;omega,fun b hb=>(hst.2.2.2.2 b (by omega)).trans (h.b.block b hb)⟩
theorem zbJ {Q Q':Exit→Act→World→Prop} (b:Nat) (h:∀e a w,Q e a w→Q' e a w):∀e a w,Exit.inBlock b Q e a w→Exit.inBlock b Q' e a w:=by
 intro e a w hq;unfold Exit.inBlock at hq ⊢;split at hq<;>first|exact h _ _ _ hq|(split at hq<;>simp_all)
def Nrm (R:Act→World→Prop):Exit→Act→World→Prop
 | .normal,a,w=>R a w
 | _,_,_=>False
theorem Nrm.imp {Q:Exit→Act→World→Prop} (e:Exit) (a:Act) (w:World) (h:Nrm (fun a w=>Q .normal a w) e a w):Q e a w:=by
 cases e<;>first|exact h|exact h.elim
end Go.Proofs.YtlnbmmgbfgmboaaGreatDoor
