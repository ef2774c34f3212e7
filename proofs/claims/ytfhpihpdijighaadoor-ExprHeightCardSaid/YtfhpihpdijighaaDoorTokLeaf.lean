/- What the small functions of package token do: isLetter, isDigit, Reserved, isSign. -/
import Derived.Test.YtfhpihpdijighaaDoorRows
import Derived.Test.YtfhpihpdijighaaDoorTokSpec
import Derived.WalkKit
import Derived.WalkSpells
import Derived.WalkLawsBesides
import Derived.Lib.Hide
namespace Go.Proofs.YtfhpihpdijighaaDoor
open Go.RowKit

theorem ret_bool {a b : Bool} (h : a = b) : Ending.returned (.bool a) = .returned (.bool b) := by rw [h]
theorem ret_int {k : IntKind} {a b : Int} (h : a = b) : Ending.returned (.int k a) = .returned (.int k b) := by rw [h]

set_option maxHeartbeats 400000 in
theorem isLetter_any (c : UInt8) (w : World) :
    Calls Tryd.prog 91 #[.int .u8 (c.toNat : Int)] w fun e w' => e = .returned (.bool (Tk.isLet c)) ∧ w = w' := by
  go_enter Tryd.func91, Tryd.ntmps91
  go_wp2
  all_goals
    go_ret
    refine ⟨ret_bool ?_, rfl⟩
    rw [Bool.eq_iff_iff]
    simp [Tk.isLet]
    omega

set_option maxHeartbeats 400000 in
theorem isDigit_any (c : UInt8) (w : World) :
    Calls Tryd.prog 93 #[.int .u8 (c.toNat : Int)] w fun e w' => e = .returned (.bool (Tk.isDig c)) ∧ w = w' := by
  go_enter Tryd.func93, Tryd.ntmps93
  go_wp2
  all_goals
    go_ret
    refine ⟨ret_bool ?_, rfl⟩
    rw [Bool.eq_iff_iff]
    simp [Tk.isDig]
    omega

set_option maxHeartbeats 400000 in
theorem reserved_any (s : List UInt8) (w : World) :
    Calls Tryd.prog 100 #[.string ⟨s.toArray⟩] w fun e w' => e = .returned (.bool (Tk.resv s)) ∧ w = w' := by
  go_enter Tryd.func100, Tryd.ntmps100
  go_wp2
  all_goals
    go_ret
    refine ⟨ret_bool ?_, rfl⟩
    simp_all [Tk.resv, Tk.words]

set_option maxHeartbeats 800000 in
theorem isSign_any (s : List UInt8) (w : World) :
    Calls Tryd.prog 101 #[.string ⟨s.toArray⟩] w fun e w' => e = .returned (.bool (Tk.isSg s)) ∧ w = w' := by
  go_enter Tryd.func101, Tryd.ntmps101
  go_wp2
  all_goals
    go_ret
    refine ⟨ret_bool ?_, rfl⟩
    simp_all [Tk.isSg, Tk.signs1, Tk.signs2]

end Go.Proofs.YtfhpihpdijighaaDoor
