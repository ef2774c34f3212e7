/- The walk of DepthApply. -/
import Derived.Test.YtdajomkhjaccbaaDhK
namespace Go.Proofs.Ytdajomkhjaccbaa
open Go.RowKit
set_option maxRecDepth 100000

set_option maxHeartbeats 8000000 in
theorem depthApply_any (xs : List Int) (A : Option Addr) (capA : Nat) (ys : List Int) (B : Option Addr) (capB : Nat) (n s : Int) (w : World) (hA : IrR w A xs) (hmA : xs.length ≤ 9223372036854775807) (hB : IrR w B ys) (hmB : ys.length ≤ 9223372036854775807) (hn : I64' n) (hs : I64' s) :
    Calls Try.prog 5 #[.slice A xs.length capA, .slice B ys.length capB, .int .i64 n, .int .i64 s] w fun e w' => e = .returned (.bool true) ∧ Below w.heap.size w w' := by
  have HL := Lib.hid (fun W => limit_any n W hn)
  have hk : within n 9 ≤ 8 := by have := within_lt n 9 (by omega); omega
  generalize within n 9 = k at *
  have HSS := Lib.hid (fun W => set_any s (k : Int) k W hs rfl hk)
  have hsS : within s (2 ^ (k + 1)) < 512 := by have h1 := within_lt s (2 ^ (k + 1)) (Nat.two_pow_pos _); have h2 := pow_le (k + 1) (by omega); omega
  generalize within s (2 ^ (k + 1)) = S at *
  have HRA := Lib.hid (fun W (h : Below w.heap.size w W) => hA.later h)
  have HRB := Lib.hid (fun W (h : Below w.heap.size w W) => hB.later h)
  clear hA hB
  clear hn hs
  go_enter Try.func5, Try.ntmps5
  go_wp2_with fail
  refine (HL.out _).mono ?_
  rintro e w1 ⟨rfl, rfl⟩
  go_wp2_with fail
  refine (relation_k hk capA (HRA.out _ (Below.refl _ _)) hmA).mono ?_
  rintro e w2 ⟨g2, rfl, hx, hb⟩
  have HB := Lib.hid hb
  clear hb
  have HX := Lib.hid hx
  clear hx
  go_wp2_with fail
  refine (relation_k hk capB (HRB.out _ HB.out) hmB).mono ?_
  rintro e w3 ⟨g3, rfl, hx, hb⟩
  have HX2 := Lib.hid (HX.out.later hb)
  clear HX
  have HX := HX2
  clear HX2
  have HB2 := Lib.hid (below_two HB.out hb)
  clear HB
  have HB := HB2
  clear HB2
  clear hb
  have HY := Lib.hid hx
  clear hx
  go_wp2_with fail
  generalize relV xs k = x at *
  generalize relV ys k = y at *
  refine (HSS.out _).mono ?_
  rintro e w4 ⟨rfl, rfl⟩
  go_wp2_with fail
  have HXL := Lib.hid (fun W (h : Below w3.heap.size w3 W) => HX.out.later h)
  have HYL := Lib.hid (fun W (h : Below w3.heap.size w3 W) => HY.out.later h)
  have HXG := Lib.hid HX.out.g
  have HYG := Lib.hid HY.out.g
  clear HX HY
  go_loopw [12, 13] (fun v i wr => ∃ d : Nat, d ≤ k + 1 ∧ i = .int .i64 (d : Int) ∧ v = .bool (wiT x y d) ∧ Hid (Below w3.heap.size w3 wr)) (fun _ i _ => k + 1 - (intOf i).toNat)
  case atStart => exact ⟨0, Nat.zero_le _, rfl, rfl, Below.refl _ _⟩
  case round =>
    obtain ⟨d, hd, rfl, rfl, HW⟩ := hrel
    by_cases hdk : d ≤ k
    · have g0 : (d : Int) ≤ (k : Int) := by omega
      have hd0 : (0 : Int) ≤ (d : Int) := by omega
      have hd2 : (d : Int) < (k : Int) + 1 := by omega
      obtain ⟨b0, e0, c0⟩ := (HXL.out wr HW.out).rd d (by rw [HXG.out.len]; omega)
      injection e0 with e0
      injection e0 with e0
      subst e0
      obtain ⟨b1, e1, c1⟩ := (HYL.out wr HW.out).rd d (by rw [HYG.out.len]; omega)
      injection e1 with e1
      injection e1 with e1
      subst e1
      have h1 := (HXG.out.bd hk).at d (by rw [HXG.out.len]; omega)
      have h2 := (HYG.out.bd hk).at d (by rw [HYG.out.len]; omega)
      have HS := Lib.hid (wiT_succ x y d)
      rw [getD_in x d (by rw [HXG.out.len]; omega), getD_in y d (by rw [HYG.out.len]; omega)] at HS
      generalize x[d]'(by rw [HXG.out.len]; omega) = p at *
      generalize y[d]'(by rw [HYG.out.len]; omega) = q at *
      have j1 := andNot_nat p q h1 h2
      have HZ := Lib.hid (andNot_zero p q h1 h2)
      generalize p &&& (2 ^ 64 - (q + 1)) = z at *
      cases ht : wiT x y d with
      | false =>
        rw [ht, Bool.false_and] at HS
        clear ht
        go_wp2_with fail
        go_quiet (fail)
        go_wp2_with fail
        go_roundw
        case rel => exact ⟨d + 1, by omega, by go_num, by rw [HS.out], below_drewN HW.out _⟩
        case measure => simp [intOf]; omega
      | true =>
        rw [ht, Bool.true_and] at HS
        clear ht
        by_cases hz : z = 0
        · have t0 := bT (show (z : Int) = 0 by omega)
          have HN : Hid (wiT x y (d + 1) = true) := by show _ = _; rw [HS.out]; exact beq_iff_eq.2 (HZ.out.1 hz)
          clear hz HS HZ
          go_wp2_with fail
          go_quiet (fail)
          go_wp2_with fail
          go_roundw
          case rel => exact ⟨d + 1, by omega, by go_num, by rw [HN.out], below_drewN HW.out _⟩
          case measure => simp [intOf]; omega
        · have t0 := bF (show (z : Int) ≠ 0 by omega)
          have HN : Hid (wiT x y (d + 1) = false) := by show _ = _; rw [HS.out]; exact beq_eq_false_iff_ne.2 fun h => hz (HZ.out.2 h)
          clear hz HS HZ
          go_wp2_with fail
          go_quiet (fail)
          go_wp2_with fail
          go_roundw
          case rel => exact ⟨d + 1, by omega, by go_num, by rw [HN.out], below_drewN HW.out _⟩
          case measure => simp [intOf]; omega
    · obtain rfl : d = k + 1 := by omega
      have g0 : ¬ ((k + 1 : Nat) : Int) ≤ (k : Int) := by omega
      have HX := Lib.hid (HXL.out wr HW.out)
      have HY := Lib.hid (HYL.out wr HW.out)
      have HB2 := Lib.hid (below_two HB.out HW.out)
      have HV : Hid (wiV x y = wiT x y (k + 1)) := by show _ = _; unfold wiV; rw [HXG.out.len]
      clear HB HW HXL HYL HXG HYG
      have HB := HB2
      clear HB2
      have t1 := bT (rfl : (apV x S : Int) = (apV x S : Int))
      generalize hv : wiT x y (k + 1) = vv at *
      have HP1 := Lib.hid (fun W A (h : RlK k W A x) => apply_k (w := W) (A := A) hk (k + 1) h hsS)
      have HP2 := Lib.hid (fun W A (h : RlK k W A x) => refApply_k (w := W) (A := A) hk (k + 1) h hsS)
      generalize apV x S = p at *
      clear hv
      go_wp2_with fail
      refine (HP1.out _ _ HX.out).mono ?_
      rintro e w5 ⟨rfl, hb⟩
      have HX2 := Lib.hid (HX.out.later hb)
      clear HX
      have HX := HX2
      clear HX2
      have HY2 := Lib.hid (HY.out.later hb)
      clear HY
      have HY := HY2
      clear HY2
      have HB2 := Lib.hid (below_two HB.out hb)
      clear HB
      have HB := HB2
      clear HB2
      clear hb
      go_wp2_with fail
      refine (HP2.out _ _ HX.out).mono ?_
      rintro e w6 ⟨rfl, rfl⟩
      go_wp2_with fail
      refine (compose_k hk _ _ HX.out HY.out).mono ?_
      rintro e w7 ⟨g7, rfl, hx, hb⟩
      have HX2 := Lib.hid (HX.out.later hb)
      clear HX
      have HX := HX2
      clear HX2
      have HY2 := Lib.hid (HY.out.later hb)
      clear HY
      have HY := HY2
      clear HY2
      have HB2 := Lib.hid (below_two HB.out hb)
      clear HB
      have HB := HB2
      clear HB2
      clear hb
      have HI := Lib.hid hx
      clear hx
      go_wp2_with fail
      refine (refCompose_k hk _ _ HX.out HY.out).mono ?_
      rintro e w8 ⟨g8, rfl, hx, hb⟩
      have HX2 := Lib.hid (HX.out.later hb)
      clear HX
      have HX := HX2
      clear HX2
      have HY2 := Lib.hid (HY.out.later hb)
      clear HY
      have HY := HY2
      clear HY2
      have HI2 := Lib.hid (HI.out.later hb)
      clear HI
      have HI := HI2
      clear HI2
      have HB2 := Lib.hid (below_two HB.out hb)
      clear HB
      have HB := HB2
      clear HB2
      clear hb
      have HJ := Lib.hid hx
      clear hx
      go_wp2_with fail
      refine (same_k hk _ _ HI.out HJ.out rfl).mono ?_
      rintro e w9 ⟨rfl, hb⟩
      have HX2 := Lib.hid (HX.out.later hb)
      clear HX
      have HX := HX2
      clear HX2
      have HY2 := Lib.hid (HY.out.later hb)
      clear HY
      have HY := HY2
      clear HY2
      have HI2 := Lib.hid (HI.out.later hb)
      clear HI
      have HI := HI2
      clear HI2
      have HJ2 := Lib.hid (HJ.out.later hb)
      clear HJ
      have HJ := HJ2
      clear HJ2
      have HB2 := Lib.hid (below_two HB.out hb)
      clear HB
      have HB := HB2
      clear HB2
      clear hb
      go_wp2_with fail
      clear HI HJ
      refine (union_k hk _ _ HX.out HY.out).mono ?_
      rintro e w10 ⟨g10, rfl, hx, hb⟩
      have HX2 := Lib.hid (HX.out.later hb)
      clear HX
      have HX := HX2
      clear HX2
      have HY2 := Lib.hid (HY.out.later hb)
      clear HY
      have HY := HY2
      clear HY2
      have HB2 := Lib.hid (below_two HB.out hb)
      clear HB
      have HB := HB2
      clear HB2
      clear hb
      have HI := Lib.hid hx
      clear hx
      go_wp2_with fail
      refine (refUnion_k hk _ _ HX.out HY.out).mono ?_
      rintro e w11 ⟨g11, rfl, hx, hb⟩
      have HX2 := Lib.hid (HX.out.later hb)
      clear HX
      have HX := HX2
      clear HX2
      have HY2 := Lib.hid (HY.out.later hb)
      clear HY
      have HY := HY2
      clear HY2
      have HI2 := Lib.hid (HI.out.later hb)
      clear HI
      have HI := HI2
      clear HI2
      have HB2 := Lib.hid (below_two HB.out hb)
      clear HB
      have HB := HB2
      clear HB2
      clear hb
      have HJ := Lib.hid hx
      clear hx
      go_wp2_with fail
      refine (same_k hk _ _ HI.out HJ.out rfl).mono ?_
      rintro e w12 ⟨rfl, hb⟩
      have HX2 := Lib.hid (HX.out.later hb)
      clear HX
      have HX := HX2
      clear HX2
      have HY2 := Lib.hid (HY.out.later hb)
      clear HY
      have HY := HY2
      clear HY2
      have HI2 := Lib.hid (HI.out.later hb)
      clear HI
      have HI := HI2
      clear HI2
      have HJ2 := Lib.hid (HJ.out.later hb)
      clear HJ
      have HJ := HJ2
      clear HJ2
      have HB2 := Lib.hid (below_two HB.out hb)
      clear HB
      have HB := HB2
      clear HB2
      clear hb
      go_wp2_with fail
      clear HI HJ
      cases vv
      · refine (depWithin_k hk _ _ HX.out HY.out HV.out).mono ?_
        rintro e w13 ⟨rfl, rfl⟩
        go_wp2_with fail
        clear HX HY
        refine (awake14_any _).mono ?_
        rintro e w14 ⟨rfl, hb⟩
        have HB2 := Lib.hid (below_two HB.out hb)
        clear HB
        have HB := HB2
        clear HB2
        clear hb
        go_wp2_with fail
        go_ret
        exact ⟨rfl, HB.out⟩
      · refine (depWithin_k hk _ _ HX.out HY.out HV.out).mono ?_
        rintro e w13 ⟨rfl, rfl⟩
        go_wp2_with fail
        clear HX HY
        refine (awake14_any _).mono ?_
        rintro e w14 ⟨rfl, hb⟩
        have HB2 := Lib.hid (below_two HB.out hb)
        clear HB
        have HB := HB2
        clear HB2
        clear hb
        go_wp2_with fail
        go_ret
        exact ⟨rfl, HB.out⟩
end Go.Proofs.Ytdajomkhjaccbaa
