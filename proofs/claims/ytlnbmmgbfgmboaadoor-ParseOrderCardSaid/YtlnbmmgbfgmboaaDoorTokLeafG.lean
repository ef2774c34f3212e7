import Derived.Test.YtlnbmmgbfgmboaaDoorRows
import Derived.Test.YtlnbmmgbfgmboaaDoorQ0
import Derived.WalkKit
import Derived.WalkSpells
import Derived.WalkLawsBesides
import Derived.Lib.Hide
namespace Go.Proofs.YtlnbmmgbfgmboaaDoor
open Go.RowKit
theorem zal {a b:Bool} (h:a=b):Ending.returned (.bool a)=.returned (.bool b):=by rw[h]
theorem zaF {k:IntKind} {a b:Int} (h:a=b):Ending.returned (.int k a)=.returned (.int k b):=by rw[h]
set_option maxHeartbeats 400000 in
theorem zbs (c:UInt8) (w:World) :
  Calls Tryd.prog 58 #[.int .u8 (c.toNat:Int)] w fun e w'=>e=.returned (.bool (Tk.isLet c))∧w=w':=by
 go_enter Tryd.func58,Tryd.ntmps58
 go_wp2
 all_goals
  go_ret
  refine⟨zal ?_,rfl⟩
  rw[Bool.eq_iff_iff]
  simp[Tk.isLet]
  omega
set_option maxHeartbeats 400000 in
theorem zbK (c:UInt8) (w:World) :
  Calls Tryd.prog 60 #[.int .u8 (c.toNat:Int)] w fun e w'=>e=.returned (.bool (Tk.isDig c))∧w=w':=by
 go_enter Tryd.func60,Tryd.ntmps60
 go_wp2
 all_goals
  go_ret
  refine⟨zal ?_,rfl⟩
  rw[Bool.eq_iff_iff]
  simp[Tk.isDig]
  omega
set_option maxHeartbeats 400000 in
theorem zb5 (s:List UInt8) (w:World) :
  Calls Tryd.prog 63 #[.string ⟨s.toArray⟩] w fun e w'=>e=.returned (.bool (Tk.resv s))∧w=w':=by
 go_enter Tryd.func63,Tryd.ntmps63
 go_wp2
 all_goals
  go_ret
  refine⟨zal ?_,rfl⟩
  simp_all [Tk.resv,Tk.words]
set_option maxHeartbeats 800000 in
theorem zeM (s:List UInt8) (w:World) :
  Calls Tryd.prog 78 #[.string ⟨s.toArray⟩] w fun e w'=>e=.returned (.bool (Tk.isSg s))∧w=w':=by
 go_enter Tryd.func78,Tryd.ntmps78
 go_wp2
 all_goals
  go_ret
  refine⟨zal ?_,rfl⟩
  simp_all [Tk.isSg,Tk.signs1,Tk.signs2]
end Go.Proofs.YtlnbmmgbfgmboaaDoor
