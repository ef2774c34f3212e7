import Derived.Test.YtlnbmmgbfgmboaaGreatDoorQa
import Derived.Test.YtlnbmmgbfgmboaaGreatDoorQ9
namespace Go.Proofs.YtlnbmmgbfgmboaaGreatDoor
open Go.RowKit
def GlOk (PG:List Gl):Prop:=∀j (h:j<PG.length),PG[j].name=[103,UInt8.ofNat (48+j)]∧-2≤PG[j].init∧PG[j].init≤2
theorem GlOk.snoc {PG:List Gl} (h:GlOk PG) {a:Gl} (h0:a.name=[103,UInt8.ofNat (48+PG.length)]) (h1:-2≤a.init) (h2:a.init≤2):GlOk (PG++[a]):=by
 intro j hj;rw[List.getElem_append];split
 ·
  exact h j ‹_›
 ·
  have:j=PG.length:=by simp at hj;omega
  subst this;simp only[Nat.sub_self,List.getElem_cons_zero];exact⟨h0,h1,h2⟩
def ML2 (w:World) (g:Nat) (ys:List Int) (ar:Bool) (PM:List Mx) (vM:Value) (k:Nat) (vv:Value) (wr:World):Prop :=
 ∃(PG:List Gl) (AG vA:Option Addr) (cG vc i:Nat),PG.length=k∧vv=.slice vA PG.length vc∧GlOk PG∧PwS w g ys ar (.slice vA PG.length vc) (PG.map (·.name)) (.slice AG PG.length cG) vM (.slice none 0 0) PG PM [] i wr
structure NwP (w wr:World) (ys:List Int) (i T:Nat) (a b:Value) (t:TypeId) (wx:World):Prop where
 src:Src wx (w.heap.size+1) ys i
 gr:wr.grownBy wx (some (w.heap.size+1))
 t:wx.heap[T]?=some (.cells #[a,b] t (0,0))
 hT:wr.heap.size≤T
theorem zcc {w:World} {q i:Nat} {ys:List Int} (o:Obj) (h:Src w q ys i):Src (w.alloc o) q ys i:=h.keep fun b hb=>Below.heap_alloc w o b (by have:=h.lt;omega)
theorem zd8 {w wr w5:World} {ys:List Int} {i T:Nat} {a b z0 z1:Value} {t:TypeId} (hs:Src w5 (w.heap.size+1) ys i) (hg:wr.grownBy w5 (some (w.heap.size+1))) (hq:w.heap.size+1<wr.heap.size) (ht:w5.heap[T]?=some (.cells #[z0,z1] t (0,0))) (hT:wr.heap.size≤T):NwP w wr ys i T a b t ((w5.setCell ⟨T,0,none⟩ a).setCell ⟨T,1,none⟩ b):=by
 have hQ:=((PutAt.refl T w5).set 0 a).set 1 b;exact⟨hs.keep fun b hb=>hQ.2.2.2.2 b (by omega),za5 hg hQ hT,za4 1 _ (za4 0 _ ht),hT⟩
theorem zfW {w wr w5:World} {ys:List Int} {i:Nat} {a b:Value} {t:TypeId} (hs:Src w5 (w.heap.size+1) ys i) (hg:wr.grownBy w5 (some (w.heap.size+1))):NwP w wr ys i w5.heap.size a b t (w5.alloc (.cells #[a,b] t)) :=
 ⟨zcc _ hs,zag hg _,heap_alloc_new w5 _,hg.size⟩
theorem ziz {w wr w5:World} {ys:List Int} {i:Nat} {a b:Value} {t:TypeId} (o:Obj) (hs:Src w5 (w.heap.size+1) ys i) (hg:wr.grownBy w5 (some (w.heap.size+1))):NwP w wr ys i (w5.heap.size+1) a b t ((w5.alloc o).alloc (.cells #[a,b] t)):=by
 have h:=zfW (a:=a) (b:=b) (t:=t) (zcc o hs) (zag hg o)
 rwa [show (w5.alloc o).heap.size=w5.heap.size+1 by simp] at h
theorem NwP.alc {w wr wx:World} {ys:List Int} {i T:Nat} {a b:Value} {t:TypeId} (h:NwP w wr ys i T a b t wx) (o:Obj):NwP w wr ys i T a b t (wx.alloc o) :=
 ⟨zcc o h.src,zag h.gr o,zae o h.t,h.hT⟩
theorem zdq {wr w5:World} {q:Nat} {o:Obj} (h:(wr.alloc o).grownBy w5 (some q)) (hq:q<wr.heap.size):w5.heap[wr.heap.size]?=some o :=
 (h.block wr.heap.size (by simp) (fun e=>by injection e with e;omega)).trans (heap_alloc_new wr o)
theorem zd3 {wr w5:World} {q:Nat} {o1 o2:Obj} (h:((wr.alloc o1).alloc o2).grownBy w5 (some q)) (hq:q<wr.heap.size):w5.heap[wr.heap.size]?=some o1 :=
 (h.block wr.heap.size (by simp;omega) (fun e=>by injection e with e;omega)).trans (new2 wr o1 o2).1
theorem zd2 {wr w5:World} {q:Nat} {o1 o2:Obj} (h:((wr.alloc o1).alloc o2).grownBy w5 (some q)) (hq:q<wr.heap.size):w5.heap[wr.heap.size+1]?=some o2 :=
 (h.block (wr.heap.size+1) (by simp) (fun e=>by injection e with e;omega)).trans (new2 wr o1 o2).2
theorem zd0 {w:World} {b:Nat} {c:Value} {t:TypeId} (h:w.heap[b]?=some (.cells #[c] t (0,0))):NewsAt w b [c]:=World.news_of_block h
theorem NewsAt.alc {w:World} {b:Nat} {c:Value} (o:Obj) (h:NewsAt w b [c]):NewsAt (w.alloc o) b [c]:=h.keep (Below.heap_alloc w o b (by
 have h0:=h 0 _ rfl;rw[Go.WideShapes.add_plain] at h0;exact World.block_lt_of_cell? _ _ h0))
theorem zaV {w:World} {b:Nat} {c0 c1:Value} {t:TypeId} (h:w.heap[b]?=some (.cells #[c0,c1] t (0,0))) :
  w.cell? ⟨b,0,none⟩=some c0∧w.cell? ⟨b,1,none⟩=some c1∧w.frozen? ⟨b,0,none⟩=false∧w.frozen? ⟨b,1,none⟩=false:=by
 refine⟨?_,?_,frozen_of_row w b 0 _ _ h,frozen_of_row w b 1 _ _ h⟩
 ·
  rw[cell_of_row w b 0 _ _ _ h];rfl
 ·
  rw[cell_of_row w b 1 _ _ _ h];rfl
theorem PwR.src {w wr:World} {g:Nat} {ys:List Int} {ar:Bool} {kG kM kF vV vG vM vF:Value} {us:List Nm} {PG:List Gl} {PM:List Mx} {PF:List (Fn × FnG)} {i:Nat} (h:PwR w g ys ar kG kM kF vV us vG vM vF PG PM PF i wr):Src wr (w.heap.size+1) ys i:=h.s
end Go.Proofs.YtlnbmmgbfgmboaaGreatDoor
