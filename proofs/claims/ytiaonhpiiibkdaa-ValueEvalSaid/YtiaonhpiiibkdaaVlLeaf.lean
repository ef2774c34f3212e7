/- What the small functions of package value do: truth, variable, the operators' functions, operation. -/
import Derived.Test.YtiaonhpiiibkdaaVlSpec
namespace Go.Proofs.Ytiaonhpiiibkdaa
open Go.RowKit

set_option maxRecDepth 100000
theorem vtruth_any (b : Bool) (w : World) : Calls Try.prog 48 #[.bool b] w fun e w' => e = .returned (.int .i64 (trV b)) ∧ w = w' := by
  go_enter Try.func48, Try.ntmps48
  cases b
  · go_wp2
    go_ret
    exact ⟨rfl, rfl⟩
  · go_wp2
    go_ret
    exact ⟨rfl, rfl⟩

theorem variable_any (l : List Int) (A : Option Addr) (cap : Nat) (n : Int) (w : World) (hR : IntR w A l) (hn : I64 n) :
    Calls Try.prog 30 #[.slice A l.length cap, .int .i64 n] w fun e w' => e = .returned (.int .i64 (varV l n)) ∧ w = w' := by
  unfold I64 at hn
  by_cases h0 : n < 0
  · have HV : Hid (varV l n = 0) := by show _ = _; unfold varV; rw [if_pos h0]
    go_enter Try.func30, Try.ntmps30
    go_wp2
    go_ret
    exact ⟨ret_int HV.out.symm, rfl⟩
  · obtain ⟨k, rfl⟩ : ∃ k : Nat, n = (k : Int) := ⟨n.toNat, by omega⟩
    by_cases h1 : k < l.length
    · obtain ⟨b, off, rfl, hcell, -⟩ := hR k h1
      have HV : Hid (varV l (k : Int) = l[k]) := by
        show _ = _
        unfold varV
        rw [if_neg h0, Int.toNat_natCast, List.getD_eq_getElem?_getD, List.getElem?_eq_getElem h1]
        rfl
      generalize l[k] = x at *
      have i0 : (0 : Int) ≤ (k : Int) := by omega
      have i1 : (k : Int) < (l.length : Int) := by omega
      clear hR
      go_enter Try.func30, Try.ntmps30
      go_wp2
      go_ret
      exact ⟨ret_int HV.out.symm, rfl⟩
    · have HV : Hid (varV l (k : Int) = 0) := by
        show _ = _
        unfold varV
        rw [if_neg h0, Int.toNat_natCast, List.getD_eq_getElem?_getD, List.getElem?_eq_none (by omega)]
        rfl
      have i1 : ¬ (k : Int) < (l.length : Int) := by omega
      clear hR
      go_enter Try.func30, Try.ntmps30
      go_wp2
      go_ret
      exact ⟨ret_int HV.out.symm, rfl⟩

/-- the number of the operator's function -/
def opF (op : Int) : Nat :=
  if op = 3 then 32 else if op = 4 then 33 else if op = 5 then 34 else if op = 6 then 35
  else if op = 7 then 36 else if op = 8 then 37 else if op = 9 then 38 else if op = 10 then 39
  else if op = 11 then 40 else if op = 12 then 41 else if op = 13 then 42 else if op = 14 then 43
  else if op = 15 then 44 else if op = 16 then 45 else if op = 17 then 46 else 47

theorem operation_any (op : Int) (w : World) (ho : 3 ≤ op ∧ op ≤ 17) : Calls Try.prog 31 #[.int .i64 op] w fun e w' => e = .returned (.func (.func (opF op)) #[] #[]) ∧ w = w' := by
  have hc : op = 3 ∨ op = 4 ∨ op = 5 ∨ op = 6 ∨ op = 7 ∨ op = 8 ∨ op = 9 ∨ op = 10 ∨ op = 11 ∨ op = 12 ∨ op = 13 ∨ op = 14 ∨ op = 15 ∨ op = 16 ∨ op = 17 := by omega
  rcases hc with rfl | rfl | rfl | rfl | rfl | rfl | rfl | rfl | rfl | rfl | rfl | rfl | rfl | rfl | rfl
  all_goals
    go_enter Try.func31, Try.ntmps31
    go_wp2
    go_ret
    exact ⟨rfl, rfl⟩

/-! ### the operators' functions -/
theorem ap3_any (a b : Int) (w : World) : Calls Try.prog 32 #[.agg #[.int .i64 a, .int .i64 b]] w fun e w' => e = .returned (.int .i64 (opV 3 a b)) ∧ Below w.heap.size w w' := by
  have HV : Hid (opV 3 a b = wrap64 (-a)) := rfl
  go_enter Try.func32, Try.ntmps32
  go_wp2
  go_ret
  exact ⟨ret_int HV.out.symm, (Below.refl _ _).alloc (Nat.le_refl _) _⟩
theorem ap4_any (a b : Int) (w : World) : Calls Try.prog 33 #[.agg #[.int .i64 a, .int .i64 b]] w fun e w' => e = .returned (.int .i64 (opV 4 a b)) ∧ Below w.heap.size w w' := by
  have HV : Hid (opV 4 a b = trV (a == 0)) := rfl
  go_enter Try.func33, Try.ntmps33
  go_wp2_with (first | (go_at_call 48; refine (vtruth_any _ _).mono ?_; rintro e w' ⟨rfl, rfl⟩))
  go_ret
  exact ⟨ret_int HV.out.symm, (Below.refl _ _).alloc (Nat.le_refl _) _⟩
theorem ap5_any (a b : Int) (w : World) : Calls Try.prog 34 #[.agg #[.int .i64 a, .int .i64 b]] w fun e w' => e = .returned (.int .i64 (opV 5 a b)) ∧ Below w.heap.size w w' := by
  have HV : Hid (opV 5 a b = wrap64 (a * b)) := rfl
  go_enter Try.func34, Try.ntmps34
  go_wp2
  go_ret
  exact ⟨ret_int HV.out.symm, (Below.refl _ _).alloc (Nat.le_refl _) _⟩
theorem ap6_any (a b : Int) (w : World) (hb : b ≠ 0) : Calls Try.prog 35 #[.agg #[.int .i64 a, .int .i64 b]] w fun e w' => e = .returned (.int .i64 (opV 6 a b)) ∧ Below w.heap.size w w' := by
  have HV : Hid (opV 6 a b = wrap64 (a.tdiv b)) := rfl
  go_enter Try.func35, Try.ntmps35
  have hb0 := bF hb
  go_wp2
  go_ret
  exact ⟨ret_int HV.out.symm, (Below.refl _ _).alloc (Nat.le_refl _) _⟩
theorem ap7_any (a b : Int) (w : World) (hb : b ≠ 0) : Calls Try.prog 36 #[.agg #[.int .i64 a, .int .i64 b]] w fun e w' => e = .returned (.int .i64 (opV 7 a b)) ∧ Below w.heap.size w w' := by
  have HV : Hid (opV 7 a b = a.tmod b) := rfl
  go_enter Try.func36, Try.ntmps36
  have hb0 := bF hb
  go_wp2
  go_ret
  exact ⟨ret_int HV.out.symm, (Below.refl _ _).alloc (Nat.le_refl _) _⟩
theorem ap8_any (a b : Int) (w : World) : Calls Try.prog 37 #[.agg #[.int .i64 a, .int .i64 b]] w fun e w' => e = .returned (.int .i64 (opV 8 a b)) ∧ Below w.heap.size w w' := by
  have HV : Hid (opV 8 a b = wrap64 (a + b)) := rfl
  go_enter Try.func37, Try.ntmps37
  go_wp2
  go_ret
  exact ⟨ret_int HV.out.symm, (Below.refl _ _).alloc (Nat.le_refl _) _⟩
theorem ap9_any (a b : Int) (w : World) : Calls Try.prog 38 #[.agg #[.int .i64 a, .int .i64 b]] w fun e w' => e = .returned (.int .i64 (opV 9 a b)) ∧ Below w.heap.size w w' := by
  have HV : Hid (opV 9 a b = wrap64 (a - b)) := rfl
  go_enter Try.func38, Try.ntmps38
  go_wp2
  go_ret
  exact ⟨ret_int HV.out.symm, (Below.refl _ _).alloc (Nat.le_refl _) _⟩
theorem ap10_any (a b : Int) (w : World) : Calls Try.prog 39 #[.agg #[.int .i64 a, .int .i64 b]] w fun e w' => e = .returned (.int .i64 (opV 10 a b)) ∧ Below w.heap.size w w' := by
  have HV : Hid (opV 10 a b = trV (decide (a < b))) := rfl
  go_enter Try.func39, Try.ntmps39
  go_wp2_with (first | (go_at_call 48; refine (vtruth_any _ _).mono ?_; rintro e w' ⟨rfl, rfl⟩))
  go_ret
  exact ⟨ret_int HV.out.symm, (Below.refl _ _).alloc (Nat.le_refl _) _⟩
theorem ap11_any (a b : Int) (w : World) : Calls Try.prog 40 #[.agg #[.int .i64 a, .int .i64 b]] w fun e w' => e = .returned (.int .i64 (opV 11 a b)) ∧ Below w.heap.size w w' := by
  have HV : Hid (opV 11 a b = trV (decide (a ≤ b))) := rfl
  go_enter Try.func40, Try.ntmps40
  go_wp2_with (first | (go_at_call 48; refine (vtruth_any _ _).mono ?_; rintro e w' ⟨rfl, rfl⟩))
  go_ret
  exact ⟨ret_int HV.out.symm, (Below.refl _ _).alloc (Nat.le_refl _) _⟩
theorem ap12_any (a b : Int) (w : World) : Calls Try.prog 41 #[.agg #[.int .i64 a, .int .i64 b]] w fun e w' => e = .returned (.int .i64 (opV 12 a b)) ∧ Below w.heap.size w w' := by
  have HV : Hid (opV 12 a b = trV (decide (b < a))) := rfl
  go_enter Try.func41, Try.ntmps41
  go_wp2_with (first | (go_at_call 48; refine (vtruth_any _ _).mono ?_; rintro e w' ⟨rfl, rfl⟩))
  go_ret
  exact ⟨ret_int HV.out.symm, (Below.refl _ _).alloc (Nat.le_refl _) _⟩
theorem ap13_any (a b : Int) (w : World) : Calls Try.prog 42 #[.agg #[.int .i64 a, .int .i64 b]] w fun e w' => e = .returned (.int .i64 (opV 13 a b)) ∧ Below w.heap.size w w' := by
  have HV : Hid (opV 13 a b = trV (decide (b ≤ a))) := rfl
  go_enter Try.func42, Try.ntmps42
  go_wp2_with (first | (go_at_call 48; refine (vtruth_any _ _).mono ?_; rintro e w' ⟨rfl, rfl⟩))
  go_ret
  exact ⟨ret_int HV.out.symm, (Below.refl _ _).alloc (Nat.le_refl _) _⟩
theorem ap14_any (a b : Int) (w : World) : Calls Try.prog 43 #[.agg #[.int .i64 a, .int .i64 b]] w fun e w' => e = .returned (.int .i64 (opV 14 a b)) ∧ Below w.heap.size w w' := by
  have HV : Hid (opV 14 a b = trV (a == b)) := rfl
  go_enter Try.func43, Try.ntmps43
  go_wp2_with (first | (go_at_call 48; refine (vtruth_any _ _).mono ?_; rintro e w' ⟨rfl, rfl⟩))
  go_ret
  exact ⟨ret_int HV.out.symm, (Below.refl _ _).alloc (Nat.le_refl _) _⟩
theorem ap15_any (a b : Int) (w : World) : Calls Try.prog 44 #[.agg #[.int .i64 a, .int .i64 b]] w fun e w' => e = .returned (.int .i64 (opV 15 a b)) ∧ Below w.heap.size w w' := by
  have HV : Hid (opV 15 a b = trV (!(a == b))) := rfl
  go_enter Try.func44, Try.ntmps44
  go_wp2_with (first | (go_at_call 48; refine (vtruth_any _ _).mono ?_; rintro e w' ⟨rfl, rfl⟩))
  go_ret
  exact ⟨ret_int HV.out.symm, (Below.refl _ _).alloc (Nat.le_refl _) _⟩
theorem ap16_any (a b : Int) (w : World) : Calls Try.prog 45 #[.agg #[.int .i64 a, .int .i64 b]] w fun e w' => e = .returned (.int .i64 (opV 16 a b)) ∧ Below w.heap.size w w' := by
  have HV : Hid (opV 16 a b = trV (!(a == 0) && !(b == 0))) := rfl
  go_enter Try.func45, Try.ntmps45
  by_cases ha : a = 0 <;> by_cases hb : b = 0
  all_goals
    first | have ta := bT ha | have ta := bF ha
    first | have tb := bT hb | have tb := bF hb
    rw [ta, tb] at HV
    go_wp2_with (first | (go_at_call 48; refine (vtruth_any _ _).mono ?_; rintro e w' ⟨rfl, rfl⟩))
    go_ret
    exact ⟨ret_int (by first | exact HV.out.symm | (rw [HV.out]; simp [bne, ta, tb])), (Below.refl _ _).alloc (Nat.le_refl _) _⟩
theorem ap17_any (a b : Int) (w : World) : Calls Try.prog 46 #[.agg #[.int .i64 a, .int .i64 b]] w fun e w' => e = .returned (.int .i64 (opV 17 a b)) ∧ Below w.heap.size w w' := by
  have HV : Hid (opV 17 a b = trV (!(a == 0) || !(b == 0))) := rfl
  go_enter Try.func46, Try.ntmps46
  by_cases ha : a = 0 <;> by_cases hb : b = 0
  all_goals
    first | have ta := bT ha | have ta := bF ha
    first | have tb := bT hb | have tb := bF hb
    rw [ta, tb] at HV
    go_wp2_with (first | (go_at_call 48; refine (vtruth_any _ _).mono ?_; rintro e w' ⟨rfl, rfl⟩))
    go_ret
    exact ⟨ret_int (by first | exact HV.out.symm | (rw [HV.out]; simp [bne, tb])), (Below.refl _ _).alloc (Nat.le_refl _) _⟩

theorem apply_any (op a b : Int) (w : World) (ho : 3 ≤ op ∧ op ≤ 17) (hb : (op = 6 ∨ op = 7) → b ≠ 0) : Calls Try.prog (opF op) #[.agg #[.int .i64 a, .int .i64 b]] w fun e w' => e = .returned (.int .i64 (opV op a b)) ∧ Below w.heap.size w w' := by
  have hc : op = 3 ∨ op = 4 ∨ op = 5 ∨ op = 6 ∨ op = 7 ∨ op = 8 ∨ op = 9 ∨ op = 10 ∨ op = 11 ∨ op = 12 ∨ op = 13 ∨ op = 14 ∨ op = 15 ∨ op = 16 ∨ op = 17 := by omega
  rcases hc with rfl | rfl | rfl | rfl | rfl | rfl | rfl | rfl | rfl | rfl | rfl | rfl | rfl | rfl | rfl
  · exact ap3_any a b w
  · exact ap4_any a b w
  · exact ap5_any a b w
  · exact ap6_any a b w (hb (by omega))
  · exact ap7_any a b w (hb (by omega))
  · exact ap8_any a b w
  · exact ap9_any a b w
  · exact ap10_any a b w
  · exact ap11_any a b w
  · exact ap12_any a b w
  · exact ap13_any a b w
  · exact ap14_any a b w
  · exact ap15_any a b w
  · exact ap16_any a b w
  · exact ap17_any a b w
end Go.Proofs.Ytiaonhpiiibkdaa
