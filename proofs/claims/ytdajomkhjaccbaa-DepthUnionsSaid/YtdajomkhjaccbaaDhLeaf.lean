/- What the small functions of package depth do: nearest, only, Full, Has, and the reference's In. -/
import Derived.Test.YtdajomkhjaccbaaDhSpec
namespace Go.Proofs.Ytdajomkhjaccbaa
open Go.RowKit
set_option maxRecDepth 100000

def I64' (x : Int) : Prop := -9223372036854775808 ≤ x ∧ x ≤ 9223372036854775807
theorem below_two {w w1 w2 : World} (h1 : Below w.heap.size w w1) (h2 : Below w1.heap.size w1 w2) : Below w.heap.size w w2 := h1.trans (h2.mono h1.size)
theorem below_drewN {B : Nat} {a w : World} (h : Below B a w) (n : Nat) : Below B a (w.drewN n) := ⟨h.os, h.tape, h.output, h.size, h.block⟩

def neV (n : Int) : Int := min (max n 0) 8
theorem neV_in (n : Int) (h0 : 0 ≤ n) (h1 : n ≤ 8) : neV n = n := by unfold neV; omega
theorem nearest_any (n : Int) (w : World) :
    Calls Try.prog 34 #[.int .i64 n] w fun e w' => e = .returned (.int .i64 (neV n)) ∧ w = w' := by
  go_enter Try.func34, Try.ntmps34
  go_wp2
  all_goals
    go_ret
    exact ⟨ret_int (by unfold neV; omega), rfl⟩
theorem and_nat (a b : Nat) (ha : a < 1024) (hb : b < 1024) : bits .and .i64 (a : Int) (b : Int) = ((a &&& b : Nat) : Int) :=
  (bits_nat .i64 10 (by decide) (fun n h0 h1 => by rw [IntKind.wrap_i64]; omega) a b ha hb).1
theorem or_nat (a b : Nat) (ha : a < 1024) (hb : b < 1024) : bits .or .i64 (a : Int) (b : Int) = ((a ||| b : Nat) : Int) :=
  (bits_nat .i64 10 (by decide) (fun n h0 h1 => by rw [IntKind.wrap_i64]; omega) a b ha hb).2
theorem pow_le (d : Nat) (hd : d ≤ 9) : 2 ^ d ≤ 512 := Nat.pow_le_pow_right (j := 9) (by decide) hd
theorem wrap_pow (d : Nat) (hd : d ≤ 9) : wrap64 ((2 : Int) ^ d) = ((2 ^ d : Nat) : Int) := by
  have e : (2 : Int) ^ d = ((2 ^ d : Nat) : Int) := by simp
  have h := pow_le d hd
  rw [e]
  generalize 2 ^ d = p at *
  unfold wrap64
  omega
theorem only_any (x : Int) (d : Nat) (w : World) (hx : x = (d : Int)) (hd : d ≤ 9) :
    Calls Try.prog 35 #[.int .i64 x] w fun e w' => e = .returned (.int .i64 ((2 ^ d : Nat) : Int)) ∧ w = w' := by
  subst hx
  go_enter Try.func35, Try.ntmps35
  go_wp2
  go_ret
  exact ⟨ret_int (wrap_pow d hd), rfl⟩
theorem only_neg (x : Int) (w : World) (hx : x < 0) :
    Calls Try.prog 35 #[.int .i64 x] w fun e w' => e = .returned (.int .i64 0) ∧ w = w' := by
  go_enter Try.func35, Try.ntmps35
  go_wp2
  go_ret
  exact ⟨rfl, rfl⟩
theorem full_any (x : Int) (k : Nat) (w : World) (hx : x = (k : Int)) (hk : k ≤ 8) :
    Calls Try.prog 15 #[.int .i64 x] w fun e w' => e = .returned (.int .i64 ((2 ^ (k + 1) - 1 : Nat) : Int)) ∧ w = w' := by
  subst hx
  have HP := Lib.hid (Nat.two_pow_pos (k + 1))
  have hle := pow_le (k + 1) (by omega)
  have HN := Lib.hid (fun W => nearest_any (k : Int) W)
  have HO := Lib.hid (fun W => only_any ((k : Int) + 1) (k + 1) W (by omega) (by omega))
  rw [neV_in _ (by omega) (by omega)] at HN
  generalize 2 ^ (k + 1) = p at *
  go_enter Try.func15, Try.ntmps15
  go_wp2_with fail
  refine (HN.out _).mono ?_
  rintro e w1 ⟨rfl, rfl⟩
  go_wp2_with fail
  refine (HO.out _).mono ?_
  rintro e w1 ⟨rfl, rfl⟩
  go_wp2_with fail
  go_ret
  exact ⟨ret_int (by have := HP.out; omega), rfl⟩
theorem and_pow (s d : Nat) : (s &&& 2 ^ d ≠ 0) ↔ s.testBit d = true := by
  constructor
  · intro h
    cases hs : s.testBit d with
    | true => rfl
    | false =>
      refine absurd (Nat.eq_of_testBit_eq fun j => ?_) h
      rw [Nat.testBit_and, Nat.testBit_two_pow, Nat.zero_testBit]
      by_cases hj : d = j
      · subst hj; rw [hs]; rfl
      · rw [decide_eq_false hj, Bool.and_false]
  · intro h h0
    have : (s &&& 2 ^ d).testBit d = true := by rw [Nat.testBit_and, h, Nat.testBit_two_pow]; simp
    rw [h0] at this
    simp at this
theorem bit_div (s k : Nat) (hs : s < 512) : (bits .and .i64 ((s : Int) / 2 ^ k) 1 == 1) = s.testBit k := by
  have e : (s : Int) / 2 ^ k = ((s / 2 ^ k : Nat) : Int) := by simp
  have hd : s / 2 ^ k ≤ s := Nat.div_le_self _ _
  have ha := and_nat (s / 2 ^ k) 1 (by omega) (by omega)
  rw [e, show (1 : Int) = ((1 : Nat) : Int) from rfl, ha, Nat.and_one_is_mod, Nat.testBit_eq_decide_div_mod_eq, Bool.eq_iff_iff, beq_iff_eq, decide_eq_true_iff]
  omega
theorem hasD_any (s : Nat) (d : Int) (w : World) (hs : s < 512) :
    Calls Try.prog 13 #[.int .i64 (s : Int), .int .i64 d] w fun e w' => e = .returned (.bool (inS s d)) ∧ w = w' := by
  have HN := Lib.hid (fun W => nearest_any d W)
  by_cases h : 0 ≤ d ∧ d ≤ 8
  · obtain ⟨k, rfl⟩ : ∃ k : Nat, d = (k : Int) := ⟨d.toNat, by omega⟩
    have hk : k ≤ 8 := by omega
    rw [neV_in _ (by omega) (by omega), ] at HN
    have HO := Lib.hid (fun W => only_any (k : Int) k W rfl (by omega))
    have HA := Lib.hid (and_nat s (2 ^ k) (by omega) (by have := pow_le k (by omega); omega))
    have HP := Lib.hid (and_pow s k)
    rw [inS_nat s k hk]
    have t0 := bT (rfl : (k : Int) = (k : Int))
    generalize s.testBit k = b at *
    generalize 2 ^ k = p at *
    clear h
    go_enter Try.func13, Try.ntmps13
    go_wp2_with fail
    refine (HN.out _).mono ?_
    rintro e w1 ⟨rfl, rfl⟩
    go_wp2_with fail
    refine (HO.out _).mono ?_
    rintro e w1 ⟨rfl, rfl⟩
    go_wp2_with fail
    go_ret
    refine ⟨ret_bool ?_, rfl⟩
    rw [HA.out, Bool.eq_iff_iff, bne_iff_ne, ← HP.out]
    omega
  · rw [inS_not s d (by omega)]
    have t0 := bF (show d ≠ neV d by unfold neV; omega)
    generalize neV d = q at *
    clear h
    go_enter Try.func13, Try.ntmps13
    go_wp2_with fail
    refine (HN.out _).mono ?_
    rintro e w1 ⟨rfl, rfl⟩
    go_wp2_with fail
    go_ret
    exact ⟨rfl, rfl⟩
theorem in_any (s : Nat) (d : Int) (w : World) (hs : s < 512) :
    Calls Try.prog 16 #[.int .i64 (s : Int), .int .i64 d] w fun e w' => e = .returned (.bool (inS s d)) ∧ w = w' := by
  by_cases h0 : d < 0
  · rw [inS_not s d (by omega)]
    go_enter Try.func16, Try.ntmps16
    go_wp2_with fail
    go_ret
    exact ⟨rfl, rfl⟩
  by_cases h1 : 8 < d
  · rw [inS_not s d (by omega)]
    go_enter Try.func16, Try.ntmps16
    go_wp2_with fail
    go_ret
    exact ⟨rfl, rfl⟩
  obtain ⟨k, rfl⟩ : ∃ k : Nat, d = (k : Int) := ⟨d.toNat, by omega⟩
  have hk : k ≤ 8 := by omega
  rw [inS_nat s k hk]
  go_enter Try.func16, Try.ntmps16
  go_wp2_with fail
  go_ret
  exact ⟨ret_bool (bit_div s k hs), rfl⟩
end Go.Proofs.Ytdajomkhjaccbaa
