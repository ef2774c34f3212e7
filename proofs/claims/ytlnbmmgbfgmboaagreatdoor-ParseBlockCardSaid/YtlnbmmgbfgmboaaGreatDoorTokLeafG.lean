import Derived.Test.YtlnbmmgbfgmboaaGreatDoorQa
import Derived.Test.YtlnbmmgbfgmboaaGreatDoorRows
import Derived.Test.YtlnbmmgbfgmboaaGreatDoorQ0
import Derived.WalkKit
import Derived.WalkSpells
import Derived.WalkLawsBesides
import Derived.Lib.Hide
namespace Go.Proofs.YtlnbmmgbfgmboaaGreatDoor
open Go.RowKit
theorem zao {a b:Bool} (h:a=b):Ending.returned (.bool a)=.returned (.bool b):=by rw[h]
theorem zaz {k:IntKind} {a b:Int} (h:a=b):Ending.returned (.int k a)=.returned (.int k b):=by rw[h]
set_option maxHeartbeats 400000 in
theorem zbq (c:UInt8) (w:World) :
  Calls Tryz.prog 87 #[.int .u8 (c.toNat:Int)] w fun e w'=>e=.returned (.bool (Tk.isLet c))∧w=w':=by
 go_enter Tryz.func87,Tryz.ntmps87;go_wp2
 all_goals
  go_ret;refine⟨zao ?_,rfl⟩;rw[Bool.eq_iff_iff];simp[Tk.isLet];omega
set_option maxHeartbeats 400000 in
theorem zbI (c:UInt8) (w:World) :
  Calls Tryz.prog 89 #[.int .u8 (c.toNat:Int)] w fun e w'=>e=.returned (.bool (Tk.isDig c))∧w=w':=by
 go_enter Tryz.func89,Tryz.ntmps89;go_wp2
 all_goals
  go_ret;refine⟨zao ?_,rfl⟩;rw[Bool.eq_iff_iff];simp[Tk.isDig];omega
set_option maxHeartbeats 400000 in
theorem zb0 (s:List UInt8) (w:World) :
  Calls Tryz.prog 66 #[.string ⟨s.toArray⟩] w fun e w'=>e=.returned (.bool (Tk.resv s))∧w=w':=by
 go_enter Tryz.func66,Tryz.ntmps66;go_wp2
 all_goals
  go_ret;refine⟨zao ?_,rfl⟩
  simp_all [Tk.resv,Tk.words]
set_option maxHeartbeats 800000 in
theorem zeL (s:List UInt8) (w:World) :
  Calls Tryz.prog 108 #[.string ⟨s.toArray⟩] w fun e w'=>e=.returned (.bool (Tk.isSg s))∧w=w':=by
 go_enter Tryz.func108,Tryz.ntmps108;go_wp2
 all_goals
  go_ret;refine⟨zao ?_,rfl⟩
  simp_all [Tk.isSg,Tk.signs1,Tk.signs2]
end Go.Proofs.YtlnbmmgbfgmboaaGreatDoor
