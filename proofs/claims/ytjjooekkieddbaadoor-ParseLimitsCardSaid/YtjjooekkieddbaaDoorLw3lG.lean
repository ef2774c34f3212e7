/- The walk of ParseLimits: true for all arguments. -/
import Derived.Test.YtjjooekkieddbaaDoorLw3bG
import Derived.Test.YtjjooekkieddbaaDoorLmQG
namespace Go.Proofs.YtjjooekkieddbaaDoor
open Go.RowKit

theorem cat0_len (n : Nat) : (cat limS0 n).length ≤ 100 * n := by
  induction n with
  | zero => simp [cat]
  | succ n ih => rw [cat, List.length_append]; have : (limS0 n).length ≤ 100 := by simp [limS0]
                 omega
theorem cat1_len (n : Nat) : (cat limS1 n).length ≤ 100 * n := by
  induction n with
  | zero => simp [cat]
  | succ n ih => rw [cat, List.length_append]; have : (limS1 n).length ≤ 100 := by unfold limS1; split <;> simp
                 omega
theorem cat2_len (n : Nat) : (cat limS2 n).length ≤ 100 * n := by
  induction n with
  | zero => simp [cat]
  | succ n ih => rw [cat, List.length_append]; have : (limS2 n).length ≤ 100 := by simp [limS2]
                 omega
theorem limT3_len (n : Nat) (h : n ≤ 69) : (limT3 n).length ≤ 10000 := by
  have := (s3_len n).1
  unfold limT3
  simp
  omega
theorem limT4_len : ((List.range 70).all fun n => decide ((limT4 n).length ≤ 10000)) = true := by kernel_rfl
theorem tmod_even {k : Nat} (h : k % 2 = 0) : Int.tmod (k : Int) 2 = 0 := by
  rw [Int.tmod_eq_emod_of_nonneg (by omega)]
  omega
theorem tmod_odd {k : Nat} (h : ¬ k % 2 = 0) : Int.tmod (k : Int) 2 = 1 := by
  rw [Int.tmod_eq_emod_of_nonneg (by omega)]
  omega

set_option maxRecDepth 100000 in
set_option maxHeartbeats 8000000 in
theorem parseLimits_any (kind n : Int) (w : World) (hk : -9223372036854775808 ≤ kind ∧ kind ≤ 9223372036854775807) (hn : -9223372036854775808 ≤ n ∧ n ≤ 9223372036854775807) (hS : SgT w) :
    Calls Tryd.prog 7 #[.int .i64 kind, .int .i64 n] w fun e w' => e = .returned (.bool true) ∧ Below w.heap.size w w' := by
  have HS := Lib.hid hS
  have happ := bapp
  clear hS
  go_enter Tryd.func7, Tryd.ntmps7
  go_wp2_with fail
  refine (within_big n 70 w hn (by omega) (by omega)).mono ?_
  rintro e w' ⟨rfl, rfl⟩
  rw [show (70 : Int).toNat = 70 from rfl]
  have hq := within_lt n 70 (by omega)
  generalize within n 70 = q at *
  go_wp2_with fail
  refine (within_big kind 5 w hk (by omega) (by omega)).mono ?_
  rintro e w' ⟨rfl, rfl⟩
  rw [show (5 : Int).toNat = 5 from rfl]
  have hv5 := within_lt kind 5 (by omega)
  generalize within kind 5 = v at *
  have hv : v = 0 ∨ v = 1 ∨ v = 2 ∨ v = 3 ∨ v = 4 := by omega
  rcases hv with hv | hv | hv | hv | hv
  · skip
    have t0 := bT (show ((v : Nat) : Int) = 0 by omega)
    clear hv hv5
    go_wp2_with fail
    go_loopw [5, 7] (fun s i wr => ∃ (k : Nat) (acc : List UInt8), k ≤ q ∧ acc.length ≤ 20 * k + 7 ∧ s = .string ⟨acc.toArray⟩ ∧ i = .int .i64 (k : Int) ∧ Hid (acc = cat limS0 k) ∧ Hid (Below w.heap.size w wr)) (fun _ i _ => q - (intOf i).toNat)
    case atStart => exact ⟨0, _, by omega, (by simp), rfl, rfl, rfl, Below.refl _ _⟩
    case round =>
      clear t0
      obtain ⟨k, acc, hkq, hal, rfl, rfl, HA, HBk⟩ := hrel
      by_cases hlt : k < q
      · have dlt : decide ((k : Int) < (q : Int)) = true := decide_eq_true (by omega)
        go_wp2_with fail
        go_roundw
        case rel => exact ⟨k + 1, _, by omega, (by simp; omega), rfl, by go_num, by rw [HA.out, cat]; rfl, HBk⟩
        case measure => simp [intOf]; omega
      · have dlt : decide ((k : Int) < (q : Int)) = false := decide_eq_false (by omega)
        have hkq2 : k = q := by omega
        subst hkq2

        have HLEN : Hid ((acc).length ≤ 262144) := by show _ ≤ _; rw [HA.out]; have := cat0_len k; omega
        have HER0 := Lib.hid (lim0 k (by omega))
        rw [← HA.out] at HER0
        obtain ⟨c1, W1, hrun1, hBy1, hcp1, hb1⟩ := conv_bytes acc wr
        have HBW1 := Lib.hid (below_rev hb1 HBk.out)
        have HPR := Lib.hid (pProgram_any acc _ c1 W1 hBy1 HLEN.out hcp1 (HS.out.later HBW1.out) (fun h => lex_ok _ h))
        clear hBy1 hb1 hcp1
        by_cases hle : k ≤ 16
        · have dle : decide ((k : Int) ≤ 16) = true := decide_eq_true (by omega)
          have HER : Hid ((progV acc).2.2 = 0) := HER0.out.trans (if_pos hle)
          clear hle HER0
          go_wp2_with fail
          refine HPR.out.mono ?_
          rintro e w2 ⟨vG, vM, vF, PG, PM, PF, B, rfl, hB, hPg, hV, hb2⟩
          rw [HER.out]
          obtain ⟨AG, cG, rfl⟩ := slice_form hPg.rG
          obtain ⟨AM, cM, rfl⟩ := slice_form hPg.rM
          obtain ⟨AF, cF, rfl⟩ := slice_form hPg.rF
          have HB2 := Lib.hid (below_rev hb2 HBW1.out)
          clear hPg hV hb2 hB HPR hrun1 HBW1
          generalize (progV acc).2.1 = n1 at *
          obtain ⟨c2, W2, hrun2, hBy2, hcp2, hb3⟩ := conv_bytes acc (w2.alloc (.cells #[.slice AG PG.length cG, .slice AM PM.length cM, .slice AF PF.length cF] 44))
          have HB3 := Lib.hid (below_rev hb3 (HB2.out.alloc HB2.out.size _))
          rw [show (w2.alloc (.cells #[.slice AG PG.length cG, .slice AM PM.length cM, .slice AF PF.length cF] 44)).heap.size = w2.heap.size + 1 by simp] at hrun2 hBy2
          have HSM := Lib.hid (same3_any acc _ c2 W2 hBy2 HLEN.out hcp2 (HS.out.later HB3.out))
          clear hBy2 hb3 hcp2
          have tE : (((0 : Nat) : Int) == 0) = true := rfl
          go_wp2_with fail
          refine HSM.out.mono ?_
          rintro e w3 ⟨rfl, hb4⟩
          have HB4 := Lib.hid (below_rev hb4 HB3.out)
          clear hb4
          go_wp2_with fail
          refine (awake3_any _ (HS.out.later HB4.out)).mono ?_
          rintro e w4 ⟨rfl, hb5⟩
          have HB5 := Lib.hid (below_rev hb5 HB4.out)
          clear hb5
          go_wp2_with fail
          go_ret
          exact ⟨rfl, HB5.out⟩
        · have dle : decide ((k : Int) ≤ 16) = false := decide_eq_false (by omega)
          have HER : Hid ((progV acc).2.2 = 3) := HER0.out.trans (if_neg hle)
          clear hle HER0
          go_wp2_with fail
          refine HPR.out.mono ?_
          rintro e w2 ⟨vG, vM, vF, PG, PM, PF, B, rfl, hB, hPg, hV, hb2⟩
          rw [HER.out]
          obtain ⟨AG, cG, rfl⟩ := slice_form hPg.rG
          obtain ⟨AM, cM, rfl⟩ := slice_form hPg.rM
          obtain ⟨AF, cF, rfl⟩ := slice_form hPg.rF
          have HB2 := Lib.hid (below_rev hb2 HBW1.out)
          clear hPg hV hb2 hB HPR hrun1 HBW1
          generalize (progV acc).2.1 = n1 at *
          obtain ⟨c2, W2, hrun2, hBy2, hcp2, hb3⟩ := conv_bytes acc (w2.alloc (.cells #[.slice AG PG.length cG, .slice AM PM.length cM, .slice AF PF.length cF] 44))
          have HB3 := Lib.hid (below_rev hb3 (HB2.out.alloc HB2.out.size _))
          rw [show (w2.alloc (.cells #[.slice AG PG.length cG, .slice AM PM.length cM, .slice AF PF.length cF] 44)).heap.size = w2.heap.size + 1 by simp] at hrun2 hBy2
          have HSM := Lib.hid (same3_any acc _ c2 W2 hBy2 HLEN.out hcp2 (HS.out.later HB3.out))
          clear hBy2 hb3 hcp2
          have tE : (((3 : Nat) : Int) == 0) = false := rfl
          go_wp2_with fail
          refine HSM.out.mono ?_
          rintro e w3 ⟨rfl, hb4⟩
          have HB4 := Lib.hid (below_rev hb4 HB3.out)
          clear hb4
          go_wp2_with fail
          refine (awake3_any _ (HS.out.later HB4.out)).mono ?_
          rintro e w4 ⟨rfl, hb5⟩
          have HB5 := Lib.hid (below_rev hb5 HB4.out)
          clear hb5
          go_wp2_with fail
          go_ret
          exact ⟨rfl, HB5.out⟩
  · skip
    have t0 := bF (show ((v : Nat) : Int) ≠ 0 by omega)
    have t1 := bT (show ((v : Nat) : Int) = 1 by omega)
    clear hv hv5
    go_wp2_with fail
    go_loopw [5, 8] (fun s i wr => ∃ (k : Nat) (acc : List UInt8), k ≤ q ∧ acc.length ≤ 20 * k + 7 ∧ s = .string ⟨acc.toArray⟩ ∧ i = .int .i64 (k : Int) ∧ Hid (acc = cat limS1 k) ∧ Hid (Below w.heap.size w wr)) (fun _ i _ => q - (intOf i).toNat)
    case atStart => exact ⟨0, _, by omega, (by simp), rfl, rfl, rfl, Below.refl _ _⟩
    case round =>
      clear t0 t1
      obtain ⟨k, acc, hkq, hal, rfl, rfl, HA, HBk⟩ := hrel
      by_cases hlt : k < q
      · have dlt : decide ((k : Int) < (q : Int)) = true := decide_eq_true (by omega)
        by_cases hpar : k % 2 = 0
        · have hr := tmod_even hpar
          have HC : Hid (cat limS1 (k + 1) = cat limS1 k ++ [109, 117, 116, 101, 120, 32, 120, 59, 32]) := by show _ = _; rw [cat]; unfold limS1; rw [if_pos hpar]
          clear hpar
          go_wp2_with fail
          go_roundw
          case rel => exact ⟨k + 1, _, by omega, (by simp; omega), rfl, by go_num, by rw [HA.out, HC.out]; rfl, HBk.out.alloc HBk.out.size _⟩
          case measure => simp [intOf]; omega
        · have hr := tmod_odd hpar
          have HC : Hid (cat limS1 (k + 1) = cat limS1 k ++ [114, 109, 117, 116, 101, 120, 32, 121, 59, 32]) := by show _ = _; rw [cat]; unfold limS1; rw [if_neg hpar]
          clear hpar
          go_wp2_with fail
          go_roundw
          case rel => exact ⟨k + 1, _, by omega, (by simp; omega), rfl, by go_num, by rw [HA.out, HC.out]; rfl, HBk.out.alloc HBk.out.size _⟩
          case measure => simp [intOf]; omega
      · have dlt : decide ((k : Int) < (q : Int)) = false := decide_eq_false (by omega)
        have hkq2 : k = q := by omega
        subst hkq2

        have HLEN : Hid ((acc).length ≤ 262144) := by show _ ≤ _; rw [HA.out]; have := cat1_len k; omega
        have HER0 := Lib.hid (lim1 k (by omega))
        rw [← HA.out] at HER0
        obtain ⟨c1, W1, hrun1, hBy1, hcp1, hb1⟩ := conv_bytes acc wr
        have HBW1 := Lib.hid (below_rev hb1 HBk.out)
        have HPR := Lib.hid (pProgram_any acc _ c1 W1 hBy1 HLEN.out hcp1 (HS.out.later HBW1.out) (fun h => lex_ok _ h))
        clear hBy1 hb1 hcp1
        by_cases hle : k ≤ 12
        · have dle : decide ((k : Int) ≤ 12) = true := decide_eq_true (by omega)
          have HER : Hid ((progV acc).2.2 = 0) := HER0.out.trans (if_pos hle)
          clear hle HER0
          go_wp2_with fail
          refine HPR.out.mono ?_
          rintro e w2 ⟨vG, vM, vF, PG, PM, PF, B, rfl, hB, hPg, hV, hb2⟩
          rw [HER.out]
          obtain ⟨AG, cG, rfl⟩ := slice_form hPg.rG
          obtain ⟨AM, cM, rfl⟩ := slice_form hPg.rM
          obtain ⟨AF, cF, rfl⟩ := slice_form hPg.rF
          have HB2 := Lib.hid (below_rev hb2 HBW1.out)
          clear hPg hV hb2 hB HPR hrun1 HBW1
          generalize (progV acc).2.1 = n1 at *
          obtain ⟨c2, W2, hrun2, hBy2, hcp2, hb3⟩ := conv_bytes acc (w2.alloc (.cells #[.slice AG PG.length cG, .slice AM PM.length cM, .slice AF PF.length cF] 44))
          have HB3 := Lib.hid (below_rev hb3 (HB2.out.alloc HB2.out.size _))
          rw [show (w2.alloc (.cells #[.slice AG PG.length cG, .slice AM PM.length cM, .slice AF PF.length cF] 44)).heap.size = w2.heap.size + 1 by simp] at hrun2 hBy2
          have HSM := Lib.hid (same3_any acc _ c2 W2 hBy2 HLEN.out hcp2 (HS.out.later HB3.out))
          clear hBy2 hb3 hcp2
          have tE : (((0 : Nat) : Int) == 0) = true := rfl
          go_wp2_with fail
          refine HSM.out.mono ?_
          rintro e w3 ⟨rfl, hb4⟩
          have HB4 := Lib.hid (below_rev hb4 HB3.out)
          clear hb4
          go_wp2_with fail
          refine (awake3_any _ (HS.out.later HB4.out)).mono ?_
          rintro e w4 ⟨rfl, hb5⟩
          have HB5 := Lib.hid (below_rev hb5 HB4.out)
          clear hb5
          go_wp2_with fail
          go_ret
          exact ⟨rfl, HB5.out⟩
        · have dle : decide ((k : Int) ≤ 12) = false := decide_eq_false (by omega)
          have HER : Hid ((progV acc).2.2 = 3) := HER0.out.trans (if_neg hle)
          clear hle HER0
          go_wp2_with fail
          refine HPR.out.mono ?_
          rintro e w2 ⟨vG, vM, vF, PG, PM, PF, B, rfl, hB, hPg, hV, hb2⟩
          rw [HER.out]
          obtain ⟨AG, cG, rfl⟩ := slice_form hPg.rG
          obtain ⟨AM, cM, rfl⟩ := slice_form hPg.rM
          obtain ⟨AF, cF, rfl⟩ := slice_form hPg.rF
          have HB2 := Lib.hid (below_rev hb2 HBW1.out)
          clear hPg hV hb2 hB HPR hrun1 HBW1
          generalize (progV acc).2.1 = n1 at *
          obtain ⟨c2, W2, hrun2, hBy2, hcp2, hb3⟩ := conv_bytes acc (w2.alloc (.cells #[.slice AG PG.length cG, .slice AM PM.length cM, .slice AF PF.length cF] 44))
          have HB3 := Lib.hid (below_rev hb3 (HB2.out.alloc HB2.out.size _))
          rw [show (w2.alloc (.cells #[.slice AG PG.length cG, .slice AM PM.length cM, .slice AF PF.length cF] 44)).heap.size = w2.heap.size + 1 by simp] at hrun2 hBy2
          have HSM := Lib.hid (same3_any acc _ c2 W2 hBy2 HLEN.out hcp2 (HS.out.later HB3.out))
          clear hBy2 hb3 hcp2
          have tE : (((3 : Nat) : Int) == 0) = false := rfl
          go_wp2_with fail
          refine HSM.out.mono ?_
          rintro e w3 ⟨rfl, hb4⟩
          have HB4 := Lib.hid (below_rev hb4 HB3.out)
          clear hb4
          go_wp2_with fail
          refine (awake3_any _ (HS.out.later HB4.out)).mono ?_
          rintro e w4 ⟨rfl, hb5⟩
          have HB5 := Lib.hid (below_rev hb5 HB4.out)
          clear hb5
          go_wp2_with fail
          go_ret
          exact ⟨rfl, HB5.out⟩
  · skip
    have t0 := bF (show ((v : Nat) : Int) ≠ 0 by omega)
    have t1 := bF (show ((v : Nat) : Int) ≠ 1 by omega)
    have t2 := bT (show ((v : Nat) : Int) = 2 by omega)
    clear hv hv5
    go_wp2_with fail
    go_loopw [5, 9] (fun s i wr => ∃ (k : Nat) (acc : List UInt8), k ≤ q ∧ acc.length ≤ 20 * k + 7 ∧ s = .string ⟨acc.toArray⟩ ∧ i = .int .i64 (k : Int) ∧ Hid (acc = cat limS2 k) ∧ Hid (Below w.heap.size w wr)) (fun _ i _ => q - (intOf i).toNat)
    case atStart => exact ⟨0, _, by omega, (by simp), rfl, rfl, rfl, Below.refl _ _⟩
    case round =>
      clear t0 t1 t2
      obtain ⟨k, acc, hkq, hal, rfl, rfl, HA, HBk⟩ := hrel
      by_cases hlt : k < q
      · have dlt : decide ((k : Int) < (q : Int)) = true := decide_eq_true (by omega)
        go_wp2_with fail
        go_roundw
        case rel => exact ⟨k + 1, _, by omega, (by simp; omega), rfl, by go_num, by rw [HA.out, cat]; rfl, HBk⟩
        case measure => simp [intOf]; omega
      · have dlt : decide ((k : Int) < (q : Int)) = false := decide_eq_false (by omega)
        have hkq2 : k = q := by omega
        subst hkq2

        have HLEN : Hid ((acc).length ≤ 262144) := by show _ ≤ _; rw [HA.out]; have := cat2_len k; omega
        have HER0 := Lib.hid (lim2 k (by omega))
        rw [← HA.out] at HER0
        obtain ⟨c1, W1, hrun1, hBy1, hcp1, hb1⟩ := conv_bytes acc wr
        have HBW1 := Lib.hid (below_rev hb1 HBk.out)
        have HPR := Lib.hid (pProgram_any acc _ c1 W1 hBy1 HLEN.out hcp1 (HS.out.later HBW1.out) (fun h => lex_ok _ h))
        clear hBy1 hb1 hcp1
        by_cases hle : k ≤ 16
        · have dle : decide ((k : Int) ≤ 16) = true := decide_eq_true (by omega)
          have HER : Hid ((progV acc).2.2 = 0) := HER0.out.trans (if_pos hle)
          clear hle HER0
          go_wp2_with fail
          refine HPR.out.mono ?_
          rintro e w2 ⟨vG, vM, vF, PG, PM, PF, B, rfl, hB, hPg, hV, hb2⟩
          rw [HER.out]
          obtain ⟨AG, cG, rfl⟩ := slice_form hPg.rG
          obtain ⟨AM, cM, rfl⟩ := slice_form hPg.rM
          obtain ⟨AF, cF, rfl⟩ := slice_form hPg.rF
          have HB2 := Lib.hid (below_rev hb2 HBW1.out)
          clear hPg hV hb2 hB HPR hrun1 HBW1
          generalize (progV acc).2.1 = n1 at *
          obtain ⟨c2, W2, hrun2, hBy2, hcp2, hb3⟩ := conv_bytes acc (w2.alloc (.cells #[.slice AG PG.length cG, .slice AM PM.length cM, .slice AF PF.length cF] 44))
          have HB3 := Lib.hid (below_rev hb3 (HB2.out.alloc HB2.out.size _))
          rw [show (w2.alloc (.cells #[.slice AG PG.length cG, .slice AM PM.length cM, .slice AF PF.length cF] 44)).heap.size = w2.heap.size + 1 by simp] at hrun2 hBy2
          have HSM := Lib.hid (same3_any acc _ c2 W2 hBy2 HLEN.out hcp2 (HS.out.later HB3.out))
          clear hBy2 hb3 hcp2
          have tE : (((0 : Nat) : Int) == 0) = true := rfl
          go_wp2_with fail
          refine HSM.out.mono ?_
          rintro e w3 ⟨rfl, hb4⟩
          have HB4 := Lib.hid (below_rev hb4 HB3.out)
          clear hb4
          go_wp2_with fail
          refine (awake3_any _ (HS.out.later HB4.out)).mono ?_
          rintro e w4 ⟨rfl, hb5⟩
          have HB5 := Lib.hid (below_rev hb5 HB4.out)
          clear hb5
          go_wp2_with fail
          go_ret
          exact ⟨rfl, HB5.out⟩
        · have dle : decide ((k : Int) ≤ 16) = false := decide_eq_false (by omega)
          have HER : Hid ((progV acc).2.2 = 3) := HER0.out.trans (if_neg hle)
          clear hle HER0
          go_wp2_with fail
          refine HPR.out.mono ?_
          rintro e w2 ⟨vG, vM, vF, PG, PM, PF, B, rfl, hB, hPg, hV, hb2⟩
          rw [HER.out]
          obtain ⟨AG, cG, rfl⟩ := slice_form hPg.rG
          obtain ⟨AM, cM, rfl⟩ := slice_form hPg.rM
          obtain ⟨AF, cF, rfl⟩ := slice_form hPg.rF
          have HB2 := Lib.hid (below_rev hb2 HBW1.out)
          clear hPg hV hb2 hB HPR hrun1 HBW1
          generalize (progV acc).2.1 = n1 at *
          obtain ⟨c2, W2, hrun2, hBy2, hcp2, hb3⟩ := conv_bytes acc (w2.alloc (.cells #[.slice AG PG.length cG, .slice AM PM.length cM, .slice AF PF.length cF] 44))
          have HB3 := Lib.hid (below_rev hb3 (HB2.out.alloc HB2.out.size _))
          rw [show (w2.alloc (.cells #[.slice AG PG.length cG, .slice AM PM.length cM, .slice AF PF.length cF] 44)).heap.size = w2.heap.size + 1 by simp] at hrun2 hBy2
          have HSM := Lib.hid (same3_any acc _ c2 W2 hBy2 HLEN.out hcp2 (HS.out.later HB3.out))
          clear hBy2 hb3 hcp2
          have tE : (((3 : Nat) : Int) == 0) = false := rfl
          go_wp2_with fail
          refine HSM.out.mono ?_
          rintro e w3 ⟨rfl, hb4⟩
          have HB4 := Lib.hid (below_rev hb4 HB3.out)
          clear hb4
          go_wp2_with fail
          refine (awake3_any _ (HS.out.later HB4.out)).mono ?_
          rintro e w4 ⟨rfl, hb5⟩
          have HB5 := Lib.hid (below_rev hb5 HB4.out)
          clear hb5
          go_wp2_with fail
          go_ret
          exact ⟨rfl, HB5.out⟩
  · skip
    have t0 := bF (show ((v : Nat) : Int) ≠ 0 by omega)
    have t1 := bF (show ((v : Nat) : Int) ≠ 1 by omega)
    have t2 := bF (show ((v : Nat) : Int) ≠ 2 by omega)
    have t3 := bT (show ((v : Nat) : Int) = 3 by omega)
    clear hv hv5
    go_wp2_with fail
    go_loopw [5, 10] (fun s i wr => ∃ (k : Nat) (acc : List UInt8), k ≤ q ∧ acc.length ≤ 20 * k + 7 ∧ s = .string ⟨acc.toArray⟩ ∧ i = .int .i64 (k : Int) ∧ Hid (acc = [102, 117, 110, 99, 32, 102, 40] ++ cat limS3 k) ∧ Hid (Below w.heap.size w wr)) (fun _ i _ => q - (intOf i).toNat)
    case atStart => exact ⟨0, _, by omega, (by simp), rfl, rfl, rfl, Below.refl _ _⟩
    case round =>
      clear t0 t1 t2 t3
      obtain ⟨k, acc, hkq, hal, rfl, rfl, HA, HBk⟩ := hrel
      by_cases hlt : k < q
      · have dlt : decide ((k : Int) < (q : Int)) = true := decide_eq_true (by omega)
        by_cases hpar : k = 0
        · subst hpar
          have hr : min ((0 : Nat) : Int) 1 = 0 := rfl
          go_wp2_with fail
          go_roundw
          case rel => exact ⟨1, _, by omega, (by simp; omega), rfl, by go_num, by rw [HA.out]; rfl, HBk.out.alloc HBk.out.size _⟩
          case measure => simp [intOf]; omega
        · have HC : Hid (cat limS3 (k + 1) = cat limS3 k ++ [44, 32, 109, 117, 116, 101, 120, 32, 121]) := by show _ = _; rw [cat]; unfold limS3; rw [if_neg hpar]
          by_cases h1 : k = 1
          · subst h1
            have hr : min ((1 : Nat) : Int) 1 = 1 := rfl
            clear hpar
            go_wp2_with fail
            go_roundw
            case rel => exact ⟨2, _, by omega, (by simp; omega), rfl, by go_num, (by rw [HA.out]; rfl), HBk.out.alloc HBk.out.size _⟩
            case measure => simp [intOf]; omega
          · have hr : min (k : Int) 1 = 1 := by omega
            have hle1 : ¬ ((k : Int) ≤ 1) := by omega
            clear hpar h1
            go_wp2_with fail
            go_roundw
            case rel => exact ⟨k + 1, _, by omega, (by simp; omega), rfl, by go_num, (by rw [HA.out, HC.out, List.append_assoc]; exact rfl), HBk.out.alloc HBk.out.size _⟩
            case measure => simp [intOf]; omega
      · have dlt : decide ((k : Int) < (q : Int)) = false := decide_eq_false (by omega)
        have hkq2 : k = q := by omega
        subst hkq2
        obtain ⟨txt, htx⟩ : ∃ txt, txt = acc ++ [41, 32, 123, 32, 125] := ⟨_, rfl⟩
        have hap3 : (⟨acc.toArray⟩ : ByteArray) ++ (⟨#[41, 32, 123, 32, 125]⟩ : ByteArray) = ⟨txt.toArray⟩ := by rw [htx]; exact bapp acc [41, 32, 123, 32, 125]
        have HA3 : Hid (txt = limT3 k) := by show _ = _; rw [htx, HA.out]; unfold limT3; simp
        clear htx happ
        have HLEN : Hid ((txt).length ≤ 262144) := by show _ ≤ _; rw [HA3.out]; have := limT3_len k (by omega); omega
        have HER0 := Lib.hid (lim3 k (by omega))
        rw [← HA3.out] at HER0
        obtain ⟨c1, W1, hrun1, hBy1, hcp1, hb1⟩ := conv_bytes txt wr
        have HBW1 := Lib.hid (below_rev hb1 HBk.out)
        have HPR := Lib.hid (pProgram_any txt _ c1 W1 hBy1 HLEN.out hcp1 (HS.out.later HBW1.out) (fun h => lex_ok _ h))
        clear hBy1 hb1 hcp1
        by_cases hle : k ≤ 6
        · have dle : decide ((k : Int) ≤ 6) = true := decide_eq_true (by omega)
          have HER : Hid ((progV txt).2.2 = 0) := HER0.out.trans (if_pos hle)
          clear hle HER0
          go_wp2_with fail
          refine HPR.out.mono ?_
          rintro e w2 ⟨vG, vM, vF, PG, PM, PF, B, rfl, hB, hPg, hV, hb2⟩
          rw [HER.out]
          obtain ⟨AG, cG, rfl⟩ := slice_form hPg.rG
          obtain ⟨AM, cM, rfl⟩ := slice_form hPg.rM
          obtain ⟨AF, cF, rfl⟩ := slice_form hPg.rF
          have HB2 := Lib.hid (below_rev hb2 HBW1.out)
          clear hPg hV hb2 hB HPR hrun1 HBW1
          generalize (progV txt).2.1 = n1 at *
          obtain ⟨c2, W2, hrun2, hBy2, hcp2, hb3⟩ := conv_bytes txt (w2.alloc (.cells #[.slice AG PG.length cG, .slice AM PM.length cM, .slice AF PF.length cF] 44))
          have HB3 := Lib.hid (below_rev hb3 (HB2.out.alloc HB2.out.size _))
          rw [show (w2.alloc (.cells #[.slice AG PG.length cG, .slice AM PM.length cM, .slice AF PF.length cF] 44)).heap.size = w2.heap.size + 1 by simp] at hrun2 hBy2
          have HSM := Lib.hid (same3_any txt _ c2 W2 hBy2 HLEN.out hcp2 (HS.out.later HB3.out))
          clear hBy2 hb3 hcp2
          have tE : (((0 : Nat) : Int) == 0) = true := rfl
          go_wp2_with fail
          refine HSM.out.mono ?_
          rintro e w3 ⟨rfl, hb4⟩
          have HB4 := Lib.hid (below_rev hb4 HB3.out)
          clear hb4
          go_wp2_with fail
          refine (awake3_any _ (HS.out.later HB4.out)).mono ?_
          rintro e w4 ⟨rfl, hb5⟩
          have HB5 := Lib.hid (below_rev hb5 HB4.out)
          clear hb5
          go_wp2_with fail
          go_ret
          exact ⟨rfl, HB5.out⟩
        · have dle : decide ((k : Int) ≤ 6) = false := decide_eq_false (by omega)
          have HER : Hid ((progV txt).2.2 = 3) := HER0.out.trans (if_neg hle)
          clear hle HER0
          go_wp2_with fail
          refine HPR.out.mono ?_
          rintro e w2 ⟨vG, vM, vF, PG, PM, PF, B, rfl, hB, hPg, hV, hb2⟩
          rw [HER.out]
          obtain ⟨AG, cG, rfl⟩ := slice_form hPg.rG
          obtain ⟨AM, cM, rfl⟩ := slice_form hPg.rM
          obtain ⟨AF, cF, rfl⟩ := slice_form hPg.rF
          have HB2 := Lib.hid (below_rev hb2 HBW1.out)
          clear hPg hV hb2 hB HPR hrun1 HBW1
          generalize (progV txt).2.1 = n1 at *
          obtain ⟨c2, W2, hrun2, hBy2, hcp2, hb3⟩ := conv_bytes txt (w2.alloc (.cells #[.slice AG PG.length cG, .slice AM PM.length cM, .slice AF PF.length cF] 44))
          have HB3 := Lib.hid (below_rev hb3 (HB2.out.alloc HB2.out.size _))
          rw [show (w2.alloc (.cells #[.slice AG PG.length cG, .slice AM PM.length cM, .slice AF PF.length cF] 44)).heap.size = w2.heap.size + 1 by simp] at hrun2 hBy2
          have HSM := Lib.hid (same3_any txt _ c2 W2 hBy2 HLEN.out hcp2 (HS.out.later HB3.out))
          clear hBy2 hb3 hcp2
          have tE : (((3 : Nat) : Int) == 0) = false := rfl
          go_wp2_with fail
          refine HSM.out.mono ?_
          rintro e w3 ⟨rfl, hb4⟩
          have HB4 := Lib.hid (below_rev hb4 HB3.out)
          clear hb4
          go_wp2_with fail
          refine (awake3_any _ (HS.out.later HB4.out)).mono ?_
          rintro e w4 ⟨rfl, hb5⟩
          have HB5 := Lib.hid (below_rev hb5 HB4.out)
          clear hb5
          go_wp2_with fail
          go_ret
          exact ⟨rfl, HB5.out⟩
  · skip
    have t0 := bF (show ((v : Nat) : Int) ≠ 0 by omega)
    have t1 := bF (show ((v : Nat) : Int) ≠ 1 by omega)
    have t2 := bF (show ((v : Nat) : Int) ≠ 2 by omega)
    have t3 := bF (show ((v : Nat) : Int) ≠ 3 by omega)
    clear hv hv5
    go_wp2_with fail
    refine (numberText_any (q : Int) w (by omega) (by omega)).mono ?_
    rintro e wr ⟨rfl, hb0⟩
    have HBk := Lib.hid hb0
    have hnl := numText_len (q : Int)
    obtain ⟨tx1, htx1⟩ : ∃ tx1, tx1 = [109, 117, 116, 101, 120, 32, 120, 91] ++ numText (q : Int) := ⟨_, rfl⟩
    have hap1 : (⟨#[109, 117, 116, 101, 120, 32, 120, 91]⟩ : ByteArray) ++ (⟨(numText (q : Int)).toArray⟩ : ByteArray) = ⟨tx1.toArray⟩ := by rw [htx1]; exact bapp [109, 117, 116, 101, 120, 32, 120, 91] (numText (q : Int))
    obtain ⟨txt, htx⟩ : ∃ txt, txt = tx1 ++ [93, 59] := ⟨_, rfl⟩
    have hap2 : (⟨tx1.toArray⟩ : ByteArray) ++ (⟨#[93, 59]⟩ : ByteArray) = ⟨txt.toArray⟩ := by rw [htx]; exact bapp tx1 [93, 59]
    have hl1 : tx1.length ≤ 40 := by rw [htx1]; simp; omega
    have HA4 : Hid (txt = limT4 q) := by show _ = _; rw [htx, htx1]; unfold limT4; simp
    clear htx htx1 happ
    have HLEN : Hid (txt.length ≤ 262144) := by
      rw [HA4.out]
      have := List.all_eq_true.1 limT4_len q (by simp; omega)
      simp at this
      show _ ≤ _
      omega
    have HER0 := Lib.hid (lim4 q (by omega))
    rw [← HA4.out] at HER0
    clear hb0 t0 t1 t2 t3
    obtain ⟨c1, W1, hrun1, hBy1, hcp1, hb1⟩ := conv_bytes txt wr
    have HBW1 := Lib.hid (below_rev hb1 HBk.out)
    have HPR := Lib.hid (pProgram_any txt _ c1 W1 hBy1 HLEN.out hcp1 (HS.out.later HBW1.out) (fun h => lex_ok _ h))
    clear hBy1 hb1 hcp1
    by_cases hz : q = 0
    · have tz := bT (show ((q : Nat) : Int) = 0 by omega)
      have dle : decide ((q : Int) ≤ -1) = false := decide_eq_false (by omega)
      have HER : Hid ((progV txt).2.2 = 3) := HER0.out.trans (if_pos (.inl hz))
      clear hz HER0
      go_wp2_with fail
      refine HPR.out.mono ?_
      rintro e w2 ⟨vG, vM, vF, PG, PM, PF, B, rfl, hB, hPg, hV, hb2⟩
      rw [HER.out]
      obtain ⟨AG, cG, rfl⟩ := slice_form hPg.rG
      obtain ⟨AM, cM, rfl⟩ := slice_form hPg.rM
      obtain ⟨AF, cF, rfl⟩ := slice_form hPg.rF
      have HB2 := Lib.hid (below_rev hb2 HBW1.out)
      clear hPg hV hb2 hB HPR hrun1 HBW1
      generalize (progV txt).2.1 = n1 at *
      obtain ⟨c2, W2, hrun2, hBy2, hcp2, hb3⟩ := conv_bytes txt (w2.alloc (.cells #[.slice AG PG.length cG, .slice AM PM.length cM, .slice AF PF.length cF] 44))
      have HB3 := Lib.hid (below_rev hb3 (HB2.out.alloc HB2.out.size _))
      rw [show (w2.alloc (.cells #[.slice AG PG.length cG, .slice AM PM.length cM, .slice AF PF.length cF] 44)).heap.size = w2.heap.size + 1 by simp] at hrun2 hBy2
      have HSM := Lib.hid (same3_any txt _ c2 W2 hBy2 HLEN.out hcp2 (HS.out.later HB3.out))
      clear hBy2 hb3 hcp2
      have tE : (((3 : Nat) : Int) == 0) = false := rfl
      go_wp2_with fail
      refine HSM.out.mono ?_
      rintro e w3 ⟨rfl, hb4⟩
      have HB4 := Lib.hid (below_rev hb4 HB3.out)
      clear hb4
      go_wp2_with fail
      refine (awake3_any _ (HS.out.later HB4.out)).mono ?_
      rintro e w4 ⟨rfl, hb5⟩
      have HB5 := Lib.hid (below_rev hb5 HB4.out)
      clear hb5
      go_wp2_with fail
      go_ret
      exact ⟨rfl, HB5.out⟩
    · have tz := bF (show ((q : Nat) : Int) ≠ 0 by omega)
      by_cases hle : q ≤ 64
      · have dle : decide ((q : Int) ≤ 64) = true := decide_eq_true (by omega)
        have HER : Hid ((progV txt).2.2 = 0) := HER0.out.trans (if_neg (by omega))
        clear hle hz HER0
        go_wp2_with fail
        refine HPR.out.mono ?_
        rintro e w2 ⟨vG, vM, vF, PG, PM, PF, B, rfl, hB, hPg, hV, hb2⟩
        rw [HER.out]
        obtain ⟨AG, cG, rfl⟩ := slice_form hPg.rG
        obtain ⟨AM, cM, rfl⟩ := slice_form hPg.rM
        obtain ⟨AF, cF, rfl⟩ := slice_form hPg.rF
        have HB2 := Lib.hid (below_rev hb2 HBW1.out)
        clear hPg hV hb2 hB HPR hrun1 HBW1
        generalize (progV txt).2.1 = n1 at *
        obtain ⟨c2, W2, hrun2, hBy2, hcp2, hb3⟩ := conv_bytes txt (w2.alloc (.cells #[.slice AG PG.length cG, .slice AM PM.length cM, .slice AF PF.length cF] 44))
        have HB3 := Lib.hid (below_rev hb3 (HB2.out.alloc HB2.out.size _))
        rw [show (w2.alloc (.cells #[.slice AG PG.length cG, .slice AM PM.length cM, .slice AF PF.length cF] 44)).heap.size = w2.heap.size + 1 by simp] at hrun2 hBy2
        have HSM := Lib.hid (same3_any txt _ c2 W2 hBy2 HLEN.out hcp2 (HS.out.later HB3.out))
        clear hBy2 hb3 hcp2
        have tE : (((0 : Nat) : Int) == 0) = true := rfl
        go_wp2_with fail
        refine HSM.out.mono ?_
        rintro e w3 ⟨rfl, hb4⟩
        have HB4 := Lib.hid (below_rev hb4 HB3.out)
        clear hb4
        go_wp2_with fail
        refine (awake3_any _ (HS.out.later HB4.out)).mono ?_
        rintro e w4 ⟨rfl, hb5⟩
        have HB5 := Lib.hid (below_rev hb5 HB4.out)
        clear hb5
        go_wp2_with fail
        go_ret
        exact ⟨rfl, HB5.out⟩
      · have dle : decide ((q : Int) ≤ 64) = false := decide_eq_false (by omega)
        have HER : Hid ((progV txt).2.2 = 3) := HER0.out.trans (if_pos (.inr (by omega)))
        clear hle hz HER0
        go_wp2_with fail
        refine HPR.out.mono ?_
        rintro e w2 ⟨vG, vM, vF, PG, PM, PF, B, rfl, hB, hPg, hV, hb2⟩
        rw [HER.out]
        obtain ⟨AG, cG, rfl⟩ := slice_form hPg.rG
        obtain ⟨AM, cM, rfl⟩ := slice_form hPg.rM
        obtain ⟨AF, cF, rfl⟩ := slice_form hPg.rF
        have HB2 := Lib.hid (below_rev hb2 HBW1.out)
        clear hPg hV hb2 hB HPR hrun1 HBW1
        generalize (progV txt).2.1 = n1 at *
        obtain ⟨c2, W2, hrun2, hBy2, hcp2, hb3⟩ := conv_bytes txt (w2.alloc (.cells #[.slice AG PG.length cG, .slice AM PM.length cM, .slice AF PF.length cF] 44))
        have HB3 := Lib.hid (below_rev hb3 (HB2.out.alloc HB2.out.size _))
        rw [show (w2.alloc (.cells #[.slice AG PG.length cG, .slice AM PM.length cM, .slice AF PF.length cF] 44)).heap.size = w2.heap.size + 1 by simp] at hrun2 hBy2
        have HSM := Lib.hid (same3_any txt _ c2 W2 hBy2 HLEN.out hcp2 (HS.out.later HB3.out))
        clear hBy2 hb3 hcp2
        have tE : (((3 : Nat) : Int) == 0) = false := rfl
        go_wp2_with fail
        refine HSM.out.mono ?_
        rintro e w3 ⟨rfl, hb4⟩
        have HB4 := Lib.hid (below_rev hb4 HB3.out)
        clear hb4
        go_wp2_with fail
        refine (awake3_any _ (HS.out.later HB4.out)).mono ?_
        rintro e w4 ⟨rfl, hb5⟩
        have HB5 := Lib.hid (below_rev hb5 HB4.out)
        clear hb5
        go_wp2_with fail
        go_ret
        exact ⟨rfl, HB5.out⟩
end Go.Proofs.YtjjooekkieddbaaDoor
