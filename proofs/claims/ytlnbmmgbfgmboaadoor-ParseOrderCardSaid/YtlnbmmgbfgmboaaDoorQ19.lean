import Derived.Test.YtlnbmmgbfgmboaaDoorQ18
import Derived.Test.YtlnbmmgbfgmboaaDoorQ4
import Derived.Deep.RegionLaw
import Derived.Deep.DeepCutAuto
import Derived.IntWalk
import Derived.Test.YtlnbmmgbfgmboaaDoorQ5
namespace Go.Proofs.YtlnbmmgbfgmboaaDoor
open Go.RowKit
end Go.Proofs.YtlnbmmgbfgmboaaDoor

namespace Go.Proofs.YtlnbmmgbfgmboaaDoor
open Go.RowKit
end Go.Proofs.YtlnbmmgbfgmboaaDoor

namespace Go.Proofs.YtlnbmmgbfgmboaaDoor
open Go.RowKit
end Go.Proofs.YtlnbmmgbfgmboaaDoor

namespace Go.Proofs.YtlnbmmgbfgmboaaDoor
open Go.RowKit
end Go.Proofs.YtlnbmmgbfgmboaaDoor

namespace Go.Proofs.YtlnbmmgbfgmboaaDoor
open Go.RowKit
end Go.Proofs.YtlnbmmgbfgmboaaDoor

namespace Go.Proofs.YtlnbmmgbfgmboaaDoor
open Go.RowKit
end Go.Proofs.YtlnbmmgbfgmboaaDoor

namespace Go.Proofs.YtlnbmmgbfgmboaaDoor
open Go.RowKit
end Go.Proofs.YtlnbmmgbfgmboaaDoor

namespace Go.Proofs.YtlnbmmgbfgmboaaDoor
open Go.RowKit
structure SgM (w wr:World) (g lb b b' L:Nat):Prop where
 hb:w.heap.size<b
 hb':w.heap.size<b'
 nb:b≠lb
 nb':b'≠lb
 str:StrS wr (some ⟨b,0,none⟩) (sgS (L:Int))
 int:IntS wr (some ⟨b',0,none⟩) (sgO (L:Int))
theorem SgM.keep {w wr W:World} {g lb b b' L:Nat} (h:SgM w wr g lb b b' L) (hg:g<w.heap.size) (hk:∀c,c<wr.heap.size→c≠g→c≠lb→W.heap[c]?=wr.heap[c]?):SgM w W g lb b b' L:=by
 have h1:=h.hb
 have h2:=h.hb'
 refine⟨h.hb,h.hb',h.nb,h.nb',?_,?_⟩
 ·
  intro i hi
  obtain⟨c,off,e,hc⟩:=h.str i hi
  injection e with e
  injection e with e1 e2
  subst e1 e2
  exact⟨b,0,rfl,(World.cell?_of_block (hk b (World.block_lt_of_cell? _ _ hc) (by omega) h.nb)).trans hc⟩
 ·
  intro i hi
  obtain⟨c,off,e,hc⟩:=h.int i hi
  injection e with e
  injection e with e1 e2
  subst e1 e2
  exact⟨b',0,rfl,(World.cell?_of_block (hk b' (World.block_lt_of_cell? _ _ hc) (by omega) h.nb')).trans hc⟩
end Go.Proofs.YtlnbmmgbfgmboaaDoor

namespace Go.Proofs.YtlnbmmgbfgmboaaDoor
open Go.RowKit
end Go.Proofs.YtlnbmmgbfgmboaaDoor

namespace Go.Proofs.YtlnbmmgbfgmboaaDoor
open Go.RowKit
end Go.Proofs.YtlnbmmgbfgmboaaDoor
