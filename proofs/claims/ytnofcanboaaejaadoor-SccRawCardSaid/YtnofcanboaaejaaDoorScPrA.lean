/- What the sets of package scc do: only, has, first, and whether a number is a node; the table of math/bits. -/
import Derived.Test.YtnofcanboaaejaaDoorScPk
import Derived.Test.YtnofcanboaaejaaDoorScBit
import Derived.WalkMore
import Derived.ScopeJumps
namespace Go.Proofs.YtnofcanboaaejaaDoor
open Go.RowKit
set_option maxRecDepth 100000

/-- the table of math/bits lies in its variable -/
def TzT (w : World) : Prop := ∀ j, j < 64 → w.cell? ⟨0, j, none⟩ = some (.int .u8 ((Lib.deBruijn64tab.getD j 0 : Nat) : Int))
theorem TzT.later {w w' : World} (h : TzT w) (hb : Below w.heap.size w w') : TzT w' := fun i hi => cell_later hb (h i hi)

theorem tz_low (x a : Nat) (hx : x < 18446744073709551616) (hx0 : x ≠ 0) (hlow : x &&& (18446744073709551616 - x) = a) :
    IntKind.u64.wrap (bits BinOp.and IntKind.u64 (x : Int) (IntKind.u64.wrap (-(x : Int))) * 285870213051353865) / 288230376151711744 = ((a * 285870213051353865 % 18446744073709551616 / 288230376151711744 : Nat) : Int) := by
  have e1 : IntKind.u64.wrap (-(x : Int)) = ((18446744073709551616 - x : Nat) : Int) := by rw [IntKind.wrap_u64]; omega
  rw [e1, u64_and_nat x _ hx (by omega), hlow, IntKind.wrap_u64]
  omega
theorem tz_pos (x k idx : Nat) (w : World) (hx0 : ((x : Int) == 0) = false)
    (key : IntKind.u64.wrap (bits BinOp.and IntKind.u64 (x : Int) (IntKind.u64.wrap (-(x : Int))) * 285870213051353865) / 288230376151711744 = (idx : Int))
    (hi : idx < 64) (hk : k < 64) (hcell : w.cell? ⟨0, idx, none⟩ = some (.int .u8 (k : Int))) :
    Calls Tryd.prog 34 #[.int .u64 (x : Int)] w fun e w' => e = .returned (.int .i64 (k : Int)) ∧ w = w' := by
  go_enter Tryd.func34, Tryd.ntmps34
  go_wp2_with (simp only [key])
  go_ret
  exact ⟨ret_int (by omega), rfl⟩
theorem tz_any (x : Nat) (hx : x < 18446744073709551616) (h0 : x ≠ 0) (w : World) (hT : TzT w) :
    Calls Tryd.prog 34 #[.int .u64 (x : Int)] w fun e w' => e = .returned (.int .i64 (Lib.ctz 64 x : Nat)) ∧ w = w' := by
  obtain ⟨hlow, hk⟩ := Lib.lowest_bit 64 x h0 hx
  obtain ⟨hi, htab⟩ := Lib.deBruijn64_at _ hk
  have hcell := hT _ hi
  rw [htab] at hcell
  exact tz_pos x _ _ w (beq_eq_false_iff_ne.2 (by omega)) (tz_low x _ hx h0 hlow) hi hk hcell

theorem scOnly_any (x : Int) (d : Nat) (w : World) (hx : x = (d : Int)) (hd : d < 64) :
    Calls Tryd.prog 30 #[.int .i64 x] w fun e w' => e = .returned (.int .u64 ((2 ^ d : Nat) : Int)) ∧ w = w' := by
  subst hx
  have HP := Lib.hid (Sc.pow_64 hd)
  go_enter Tryd.func30, Tryd.ntmps30
  go_wp2
  go_ret
  refine ⟨ret_int ?_, rfl⟩
  have e : (2 : Int) ^ d = ((2 ^ d : Nat) : Int) := by simp
  have h := HP.out
  rw [e]
  generalize 2 ^ d = p at *
  rw [IntKind.wrap_u64]
  omega
theorem scFirst_any (x : Nat) (hx : x < 18446744073709551616) (h0 : x ≠ 0) (w : World) (hT : TzT w) :
    Calls Tryd.prog 32 #[.int .u64 (x : Int)] w fun e w' => e = .returned (.int .i64 (Lib.ctz 64 x : Nat)) ∧ w = w' := by
  have HZ := Lib.hid (tz_any x hx h0 w hT)
  go_enter Tryd.func32, Tryd.ntmps32
  go_wp2_with fail
  refine HZ.out.mono ?_
  rintro e w1 ⟨rfl, rfl⟩
  go_wp2_with fail
  go_ret
  exact ⟨rfl, rfl⟩
theorem scHas_any (s d : Nat) (w : World) (hs : s < 18446744073709551616) (hd : d < 64) :
    Calls Tryd.prog 25 #[.int .u64 (s : Int), .int .i64 (d : Int)] w fun e w' => e = .returned (.bool (s.testBit d)) ∧ w = w' := by
  have HO := Lib.hid (fun W => scOnly_any (d : Int) d W rfl hd)
  have HA := Lib.hid (u64_and_nat s (2 ^ d) hs (Sc.pow_64 hd))
  have HP := Lib.hid (Sc.and_bit s d)
  generalize s.testBit d = b at *
  generalize 2 ^ d = p at *
  go_enter Tryd.func25, Tryd.ntmps25
  go_wp2_with fail
  refine (HO.out _).mono ?_
  rintro e w1 ⟨rfl, rfl⟩
  go_wp2_with fail
  go_ret
  refine ⟨ret_bool ?_, rfl⟩
  rw [HA.out, Bool.eq_iff_iff, bne_iff_ne, ← HP.out]
  omega
theorem isNode_any (A : Option Addr) (n c : Nat) (x : Int) (w : World) :
    Calls Tryd.prog 28 #[.slice A n c, .int .i64 x] w fun e w' => e = .returned (.bool (decide (0 ≤ x) && decide (x < (n : Int)))) ∧ w = w' := by
  by_cases h : 0 ≤ x
  · by_cases h2 : x < (n : Int)
    · go_enter Tryd.func28, Tryd.ntmps28
      go_wp2
      go_ret
      exact ⟨ret_bool (by simp [h, h2]), rfl⟩
    · go_enter Tryd.func28, Tryd.ntmps28
      go_wp2
      go_ret
      exact ⟨ret_bool (by simp [h2]), rfl⟩
  · have h2 : x < 0 := by omega
    go_enter Tryd.func28, Tryd.ntmps28
    go_wp2
    go_ret
    exact ⟨ret_bool (by rw [decide_eq_false (by omega : ¬ 0 ≤ x)]; rfl), rfl⟩
end Go.Proofs.YtnofcanboaaejaaDoor
