/- The walk of ValueDivision. -/
import Derived.Test.YtiaonhpiiibkdaaVlLawT
namespace Go.Proofs.Ytiaonhpiiibkdaa
open Go.RowKit
set_option maxRecDepth 100000

theorem mul_back (a b : Int) (ha : I64 a) : wrap64 (wrap64 (wrap64 (a.tdiv b) * b) + a.tmod b) = a := by
  obtain ⟨k1, h1⟩ := wrap64_form (a.tdiv b)
  obtain ⟨k2, h2⟩ := wrap64_form (wrap64 (a.tdiv b) * b)
  have h3 : wrap64 (wrap64 (a.tdiv b) * b) + a.tmod b = a + 18446744073709551616 * (k1 * b + k2) := by
    rw [h2, h1, Int.add_mul]
    have h4 := Int.tmod_add_mul_tdiv a b
    have h5 : 18446744073709551616 * k1 * b = 18446744073709551616 * (k1 * b) := by rw [Int.mul_assoc]
    rw [h5, Int.mul_comm (a.tdiv b) b]
    omega
  rw [h3, wrap64_back _ _ ha]
theorem tmod_sign (a b : Int) : (0 ≤ a → 0 ≤ a.tmod b) ∧ (a ≤ 0 → a.tmod b ≤ 0) := by
  refine ⟨fun h => Int.tmod_nonneg b h, fun h => ?_⟩
  have := Int.tmod_nonneg b (show 0 ≤ -a by omega)
  rw [Int.neg_tmod] at this
  omega
theorem tmod_less (a b : Int) : (0 < b → -b < a.tmod b ∧ a.tmod b < b) ∧ (b < 0 → b < a.tmod b ∧ a.tmod b < -b) := by
  refine ⟨fun h => ⟨Int.lt_tmod_of_pos a h, Int.tmod_lt_of_pos a h⟩, fun h => ?_⟩
  have h1 := Int.lt_tmod_of_pos a (show 0 < -b by omega)
  have h2 := Int.tmod_lt_of_pos a (show 0 < -b by omega)
  rw [Int.tmod_neg] at h1 h2
  exact ⟨by omega, h2⟩

set_option maxHeartbeats 8000000 in
theorem valueDivision_any (a b : Int) (w : World) (ha : I64 a) (hb : I64 b) :
    Calls Try.prog 5 #[.int .i64 a, .int .i64 b] w fun e w' => e = .returned (.bool true) ∧ Below w.heap.size w w' := by
  by_cases h0 : b = 0
  · subst h0
    have HT := Lib.hid (fun W => twoEval_any 6 a 0 0 1 (by omega) ha hb (by rfl) W)
    have HT' := Lib.hid (fun W => twoEval_any 7 a 0 0 1 (by omega) ha hb (by rfl) W)
    go_enter Try.func5, Try.ntmps5
    go_wp2_with fail
    refine (HT.out w).mono ?_
    rintro e w1 ⟨f1, rfl, hb1, he1, -⟩
    have HB1 := Lib.hid hb1
    have HE1 := Lib.hid (he1 w1 (Below.refl _ _))
    clear hb1 he1
    go_wp2_with fail
    refine HE1.out.mono ?_
    rintro e w2 ⟨rfl, hb2⟩
    have HB2 := Lib.hid (below_two HB1.out hb2)
    clear hb2 HB1 HE1
    go_wp2_with fail
    refine (HT'.out w2).mono ?_
    rintro e w3 ⟨f3, rfl, hb3, he3, -⟩
    have HB3 := Lib.hid (below_two HB2.out hb3)
    have HE3 := Lib.hid (he3 w3 (Below.refl _ _))
    clear hb3 he3 HB2
    go_wp2_with fail
    refine HE3.out.mono ?_
    rintro e w4 ⟨rfl, hb4⟩
    have HB4 := Lib.hid (below_two HB3.out hb4)
    clear hb4 HB3 HE3
    go_wp2_with fail
    refine (awake7_any w4).mono ?_
    rintro e w7 ⟨rfl, hb7⟩
    have HB7 := Lib.hid (below_two HB4.out hb7)
    clear hb7 HB4
    go_wp2_with fail
    go_ret
    exact ⟨rfl, HB7.out⟩
  · have tb0 := bF h0
    have hmb := mul_back a b ha
    have hsg := tmod_sign a b
    have hls := tmod_less a b
    have hri := tmod_i64 (b := b) ha
    have HT := Lib.hid (fun W => twoEval_any 6 a b (wrap64 (a.tdiv b)) 0 (by omega) ha hb (by unfold twoV; rw [if_neg (fun h => h0 h.2)]; rfl) W)
    have HT' := Lib.hid (fun W => twoEval_any 7 a b (a.tmod b) 0 (by omega) ha hb (by unfold twoV; rw [if_neg (fun h => h0 h.2)]; rfl) W)
    generalize wrap64 (a.tdiv b) = q at *
    generalize a.tmod b = r at *
    obtain ⟨ha0, ha1⟩ := ha
    obtain ⟨hb0, hb1⟩ := hb
    obtain ⟨hr0, hr1⟩ := hri
    have tm := bT hmb
    have HA := Lib.hid (fun W => awake7_any W)
    clear hmb
    go_enter Try.func5, Try.ntmps5
    go_wp2_with fail
    refine (HT.out w).mono ?_
    rintro e w1 ⟨f1, rfl, hb1, he1, -⟩
    have HB1 := Lib.hid hb1
    have HE1 := Lib.hid (he1 w1 (Below.refl _ _))
    clear hb1 he1 HT
    go_wp2_with fail
    refine HE1.out.mono ?_
    rintro e w2 ⟨rfl, hb2⟩
    have HB2 := Lib.hid (below_two HB1.out hb2)
    clear hb2 HB1 HE1
    go_wp2_with fail
    refine (HT'.out w2).mono ?_
    rintro e w3 ⟨f3, rfl, hb3, he3, -⟩
    have HB3 := Lib.hid (below_two HB2.out hb3)
    have HE3 := Lib.hid (he3 w3 (Below.refl _ _))
    clear hb3 he3 HB2 HT'
    go_wp2_with fail
    refine HE3.out.mono ?_
    rintro e w4 ⟨rfl, hb4⟩
    have HB4 := Lib.hid (below_two HB3.out hb4)
    clear hb4 HB3 HE3
    by_cases hr : r = 0
    · subst hr
      have hm : wrap64 (wrap64 (q * b)) = a := by have := beq_iff_eq.1 tm; rw [Int.add_zero] at this; exact this
      clear tm
      go_wp2_with fail
      refine (HA.out w4).mono ?_
      rintro e w7 ⟨rfl, hb7⟩
      have HB7 := Lib.hid (below_two HB4.out hb7)
      clear hb7 HB4
      go_wp2_with fail
      go_ret
      first | exact ⟨rfl, HB7.out⟩ | exact ⟨ret_bool (by simp; omega), HB7.out⟩
    · have tr := bF hr
      have hcase : 0 < r ∧ 0 < a ∨ r < 0 ∧ a < 0 := by omega
      rcases hcase with ⟨c1, c2⟩ | ⟨c1, c2⟩
      · have hcb : b = -9223372036854775808 ∨ (-9223372036854775808 < b ∧ b < 0) ∨ 0 < b := by omega
        rcases hcb with h | ⟨h1, h2⟩ | h
        · subst h
          clear hsg hls
          go_wp2_with fail
          refine (HA.out w4).mono ?_
          rintro e w7 ⟨rfl, hb7⟩
          have HB7 := Lib.hid (below_two HB4.out hb7)
          clear hb7 HB4
          go_wp2_with fail
          go_ret
          first | exact ⟨rfl, HB7.out⟩ | exact ⟨ret_bool (by simp; omega), HB7.out⟩
        · have tbm := bF (show b ≠ -9223372036854775808 by omega)
          have hx : r < -b := by omega
          clear hsg hls
          go_wp2_with fail
          refine (HA.out w4).mono ?_
          rintro e w7 ⟨rfl, hb7⟩
          have HB7 := Lib.hid (below_two HB4.out hb7)
          clear hb7 HB4
          go_wp2_with fail
          go_ret
          first | exact ⟨rfl, HB7.out⟩ | exact ⟨ret_bool (by simp; omega), HB7.out⟩
        · have tbm := bF (show b ≠ -9223372036854775808 by omega)
          have hx : r < b := by omega
          clear hsg hls
          go_wp2_with fail
          refine (HA.out w4).mono ?_
          rintro e w7 ⟨rfl, hb7⟩
          have HB7 := Lib.hid (below_two HB4.out hb7)
          clear hb7 HB4
          go_wp2_with fail
          go_ret
          first | exact ⟨rfl, HB7.out⟩ | exact ⟨ret_bool (by simp; omega), HB7.out⟩
      · have hcb : b = -9223372036854775808 ∨ (-9223372036854775808 < b ∧ b < 0) ∨ 0 < b := by omega
        rcases hcb with h | ⟨h1, h2⟩ | h
        · subst h
          clear hsg hls
          go_wp2_with fail
          refine (HA.out w4).mono ?_
          rintro e w7 ⟨rfl, hb7⟩
          have HB7 := Lib.hid (below_two HB4.out hb7)
          clear hb7 HB4
          go_wp2_with fail
          go_ret
          first | exact ⟨rfl, HB7.out⟩ | exact ⟨ret_bool (by simp; omega), HB7.out⟩
        · have tbm := bF (show b ≠ -9223372036854775808 by omega)
          have hx : b < r := by omega
          clear hsg hls
          go_wp2_with fail
          refine (HA.out w4).mono ?_
          rintro e w7 ⟨rfl, hb7⟩
          have HB7 := Lib.hid (below_two HB4.out hb7)
          clear hb7 HB4
          go_wp2_with fail
          go_ret
          first | exact ⟨rfl, HB7.out⟩ | exact ⟨ret_bool (by simp; omega), HB7.out⟩
        · have tbm := bF (show b ≠ -9223372036854775808 by omega)
          have hx : -b < r := by omega
          clear hsg hls
          go_wp2_with fail
          refine (HA.out w4).mono ?_
          rintro e w7 ⟨rfl, hb7⟩
          have HB7 := Lib.hid (below_two HB4.out hb7)
          clear hb7 HB4
          go_wp2_with fail
          go_ret
          first | exact ⟨rfl, HB7.out⟩ | exact ⟨ret_bool (by simp; omega), HB7.out⟩
end Go.Proofs.Ytiaonhpiiibkdaa
