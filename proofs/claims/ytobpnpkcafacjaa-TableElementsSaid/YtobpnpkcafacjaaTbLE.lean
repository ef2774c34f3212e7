/- The walk of TableElements. -/
import Derived.Test.YtobpnpkcafacjaaTbMk1
namespace Go.Proofs.Ytobpnpkcafacjaa
open Go.RowKit
set_option maxRecDepth 100000

theorem mOf_facts (ms : List TM) (hok : TmOk ms) (el : Int) : mOf ms el = -1 ∨ ∃ q : Nat, ∃ h : q < ms.length, mOf ms el = (q : Int) ∧ 0 ≤ bOf ms (q : Int) ∧ bOf ms (q : Int) ≤ 768 ∧ bOf ms (q : Int) ≤ el ∧ el < bOf ms (q : Int) + max 1 (ms[q].sz : Int) ∧ ms[q].sz ≤ 64 := by
  rcases (show el < 0 ∨ 0 ≤ el by omega) with h1 | h1
  · exact .inl (mOf_neg ms el h1)
  · rcases (show el < (tE ms : Int) ∨ (tE ms : Int) ≤ el by omega) with h2 | h2
    · obtain ⟨q, hq, e, h3, h4⟩ := mOf_in ms el h1 h2
      rw [List.getElem?_eq_getElem hq] at h4
      have hb : bOf ms (q : Int) = (tB ms q : Int) := by unfold bOf; rw [if_pos (by omega), Int.toNat_natCast]
      have hw : ((ms[q].w : Nat) : Int) = max 1 (ms[q].sz : Int) := by unfold TM.w; omega
      have h5 : el < (tB ms q : Int) + (ms[q].w : Nat) := h4
      have h6 := (bOf_bd ms hok (q : Int)).2
      exact .inr ⟨q, hq, e, by omega, h6, by omega, by omega, hok.2 q hq⟩
    · exact .inl (mOf_out ms el h2)
set_option maxHeartbeats 8000000 in
theorem tableElements_any (xs : List Int) (A : Option Addr) (capA : Nat) (m el : Int) (r : Bool) (w : World) (hR : IntR w A xs) (hmA : xs.length ≤ 9223372036854775807) (hm : I64' m) (he : I64' el) :
    Calls Try.prog 3 #[.slice A xs.length capA, .int .i64 m, .int .i64 el, .bool r] w fun e w' => e = .returned (.bool true) ∧ Below w.heap.size w w' := by
  have HMX := Lib.hid (mutexes_any xs A capA w hR hmA)
  unfold I64' at hm he
  go_enter Try.func3, Try.ntmps3
  go_wp2_with fail
  refine HMX.out.mono ?_
  rintro e w2 ⟨X, ms, cx, rfl, hM, hok, hcx, hb2⟩
  have HB2 := Lib.hid hb2
  have HM := Lib.hid (fun W (h : Below w2.heap.size w2 W) => hM.later h)
  have HBA : Hid (Below w2.heap.size w2 w2) := Below.refl _ _
  have hE := hok.tE
  have hml := hok.1
  have HEL := Lib.hid (fun W (h : Below w2.heap.size w2 W) => elements_any W X ms cx (HM.out W h) hok)
  have HNW := Lib.hid (fun W (h : Below w2.heap.size w2 W) => new_any W X ms cx (HM.out W h) hok)
  have HOW := Lib.hid (fun W (h : Below w2.heap.size w2 W) => owners_any W X ms cx (HM.out W h) hok)
  have HMO := Lib.hid (fun el (he : I64' el) W (h : Below w2.heap.size w2 W) => mutexOf_any W X ms cx el (HM.out W h) hok he)
  have HMR := Lib.hid (fun el (he : I64' el) W (h : Below w2.heap.size w2 W) => refMutexOf_any W X ms cx el (HM.out W h) hok he)
  have HBS := Lib.hid (fun m (hm : I64' m) W (h : Below w2.heap.size w2 W) => base_any W X ms cx m (HM.out W h) hok hcx hm)
  have HBR := Lib.hid (fun m (hm : I64' m) W (h : Below w2.heap.size w2 W) => refBase_any W X ms cx m (HM.out W h) hok hm)
  have HIN := Lib.hid (fun el => mOf_facts ms hok el)
  have HRP := Lib.hid (fun i (h : i < (List.replicate (tE ms) ((0, 0) : TH)).length) => List.getElem_replicate h)
  have HRL : Hid ((List.replicate (tE ms) ((0, 0) : TH)).length = tE ms) := List.length_replicate ..
  unfold I64' at HMO HMR HBS HBR
  clear hM hb2 HMX hok hcx
  generalize tE ms = n at *
  generalize List.replicate n ((0, 0) : TH) = zs at *
  cases r with
  | false =>
    have HWM := Lib.hid (fun W => within_any m 14 W hm (by omega) (by omega))
    have hwM := within_lt m 14 (by omega)
    rw [show (14 : Int).toNat = 14 from rfl] at HWM
    generalize within m 14 = M at *
    have HWE := Lib.hid (fun W => within_any el 100 W he (by omega) (by omega))
    have hwE := within_lt el 100 (by omega)
    rw [show (100 : Int).toNat = 100 from rfl] at HWE
    generalize within el 100 = E at *
    go_wp2_with fail
    refine (HWM.out _).mono ?_
    rintro e wv ⟨rfl, rfl⟩
    go_wp2_with fail
    refine (HWE.out _).mono ?_
    rintro e wv ⟨rfl, rfl⟩
    go_wp2_with fail
    have hev : -9223372036854775808 ≤ (E : Int) - 1 ∧ (E : Int) - 1 ≤ 9223372036854775807 := by omega
    have hmv : -9223372036854775808 ≤ (M : Int) - 1 ∧ (M : Int) - 1 ≤ 9223372036854775807 := by omega
    generalize (E : Int) - 1 = ev at *
    generalize (M : Int) - 1 = mv at *
    clear hwE hwM
    have HBSm := Lib.hid (HBS.out mv (by omega))
    have HBRm := Lib.hid (HBR.out mv (by omega))
    replace HMO := Lib.hid (HMO.out ev (by omega))
    replace HMR := Lib.hid (HMR.out ev (by omega))
    generalize bOf ms mv = bm at HBSm HBRm
    replace HIN := Lib.hid (HIN.out ev)
    generalize mOf ms ev = k at *
    clear HBR
    refine (HEL.out _ HBA.out).mono ?_
    rintro e w3 ⟨rfl, hb3⟩
    have HBN := Lib.hid (below_two HBA.out hb3)
    clear HBA hb3 HEL
    have HBA := HBN
    clear HBN
    go_wp2_with fail
    refine (HNW.out _ HBA.out).mono ?_
    rintro e w4 ⟨D, c, rfl, hN4, hb4⟩
    have HBW := Lib.hid (below_two HBA.out hb4)
    have HV4 := Lib.hid (fun W (h : Below w4.heap.size w4 W) => hN4.v.r.later h)
    clear HBA hb4 HNW hN4
    go_wp2_with fail
    go_loopw [12] (fun i wr => ∃ j : Nat, j ≤ n ∧ i = .int .i64 (j : Int) ∧ Hid (Below w4.heap.size w4 wr)) (fun i _ => n - (intOf i).toNat)
    case atStart => exact ⟨0, Nat.zero_le _, rfl, Below.refl _ _⟩
    case round =>
      obtain ⟨j, hj, rfl, HBK⟩ := hrel
      have HBA := Lib.hid (below_two HBW.out HBK.out)
      by_cases hlt : j < n
      ·
        have i0 : (0 : Int) ≤ (j : Int) := by omega
        have i1 : (j : Int) < (n : Int) := by omega
        have hjz : j < zs.length := by have := HRL.out; omega
        obtain ⟨b1, off1, rfl, c0, c1⟩ := HV4.out wr HBK.out j hjz
        rw [HRP.out j hjz] at c0 c1
        dsimp only at c0 c1
        clear hjz
        go_wp2_with fail
        go_roundw
        case rel => exact ⟨j + 1, by omega, by go_num, HBK⟩
        case measure => simp [intOf]; omega
      ·
        obtain rfl : j = n := by omega
        have i1 : ¬ (j : Int) < (j : Int) := by omega
        clear HBK HBW HV4 HRP HRL hj hlt
        go_wp2_with fail
        refine (HMO.out _ HBA.out).mono ?_
        rintro e w5 ⟨rfl, hb5⟩
        have HBN := Lib.hid (below_two HBA.out hb5)
        clear HBA hb5 HMO
        have HBA := HBN
        clear HBN
        rcases HIN.out with rfl | ⟨q, hq, rfl, hb0, hb7, hbe, hez, hsz⟩
        ·
          clear HIN HBS HM
          have d1 : decide ((ms.length : Int) ≤ -1) = false := by simp; omega
          have d2 : decide ((0 : Int) ≤ -1) = false := rfl
          go_wp2_with fail
          have HBQ := Lib.hid (fun n => below_drewN HBA.out n)
          clear HBA
          go_quiet (fail)
          have HBA := Lib.hid (HBQ.out nq)
          clear HBQ
          go_wp2_with fail
          refine (HOW.out _ HBA.out).mono ?_
          rintro e wa ⟨O, oc, rfl, -, hba⟩
          have HBN := Lib.hid (below_two HBA.out hba)
          clear HBA hba HOW
          have HBA := HBN
          clear HBN
          go_wp2_with fail
          refine (HBSm.out _ HBA.out).mono ?_
          rintro e wa ⟨rfl, hba⟩
          have HBN := Lib.hid (below_two HBA.out hba)
          clear HBA hba HBSm
          have HBA := HBN
          clear HBN
          go_wp2_with fail
          refine (HBRm.out _ HBA.out).mono ?_
          rintro e wa ⟨rfl, hba⟩
          have HBN := Lib.hid (below_two HBA.out hba)
          clear HBA hba HBRm
          have HBA := HBN
          clear HBN
          go_wp2_with fail
          refine (HMR.out _ HBA.out).mono ?_
          rintro e wa ⟨rfl, hba⟩
          have HBN := Lib.hid (below_two HBA.out hba)
          clear HBA hba HMR
          have HBA := HBN
          clear HBN
          go_wp2_with fail
          refine (awake8_any _).mono ?_
          rintro e wz ⟨rfl, hbz⟩
          have HBZ := Lib.hid (below_two HB2.out (below_two HBA.out hbz))
          clear hbz HBA
          go_wp2_with fail
          go_ret
          exact ⟨rfl, HBZ.out⟩
        ·
          replace HBS := Lib.hid (HBS.out (q : Int) (by omega))
          obtain ⟨b, off, s', rfl, -, -, m2⟩ := HM.out w5 HBA.out q hq
          have j0 : (0 : Int) ≤ (q : Int) := by omega
          have j2 : (q : Int) < (ms.length : Int) := by omega
          have d1 : decide ((ms.length : Int) ≤ (q : Int)) = false := by simp; omega
          have d1n : decide (ms.length ≤ q) = false := by simp; omega
          have d2 : decide ((0 : Int) ≤ (q : Int)) = true := by simp
          generalize ms[q].sz = z at *
          generalize bOf ms (q : Int) = bq at *
          have j3 : decide (ev < bq) = false := by simp; omega
          clear HIN HM
          by_cases hz1 : (1 : Int) < (z : Int)
          ·
            have j4 : decide (bq + (z : Int) ≤ ev) = false := by simp; omega
            have j5 : IntKind.i64.wrap (bq + (z : Int)) = bq + (z : Int) := by rw [IntKind.wrap_i64]; omega
            go_wp2_with fail
            have hbd := HBA.out
            clear HBA
            go_region_held3 (fun W => W.cell? ⟨b, off + q * 3 + 2, none⟩ = some (.int .i64 (z : Int)) ∧ Below w2.heap.size w2 W)
              (refine ⟨?_, ?_⟩ <;> first | assumption | (refine Below.drew ?_; assumption) | (simp [*]; done))
              ((go_at_call 14; obtain ⟨k2, k3⟩ := ‹_ ∧ Below w2.heap.size w2 _›; refine (HBS.out _ k3).mono ?_; rintro e w6 ⟨rfl, hb6⟩; have r2 := cell_later hb6 k2; have r3 := below_two k3 hb6; clear k2 k3 hb6))
            all_goals
              have HBA := Lib.hid r3
              clear r2 r3
              go_wp2_with fail
              refine (HOW.out _ HBA.out).mono ?_
              rintro e wa ⟨O, oc, rfl, -, hba⟩
              have HBN := Lib.hid (below_two HBA.out hba)
              clear HBA hba HOW
              have HBA := HBN
              clear HBN
              go_wp2_with fail
              refine (HBSm.out _ HBA.out).mono ?_
              rintro e wa ⟨rfl, hba⟩
              have HBN := Lib.hid (below_two HBA.out hba)
              clear HBA hba HBSm
              have HBA := HBN
              clear HBN
              go_wp2_with fail
              refine (HBRm.out _ HBA.out).mono ?_
              rintro e wa ⟨rfl, hba⟩
              have HBN := Lib.hid (below_two HBA.out hba)
              clear HBA hba HBRm
              have HBA := HBN
              clear HBN
              go_wp2_with fail
              refine (HMR.out _ HBA.out).mono ?_
              rintro e wa ⟨rfl, hba⟩
              have HBN := Lib.hid (below_two HBA.out hba)
              clear HBA hba HMR
              have HBA := HBN
              clear HBN
              go_wp2_with fail
              refine (awake8_any _).mono ?_
              rintro e wz ⟨rfl, hbz⟩
              have HBZ := Lib.hid (below_two HB2.out (below_two HBA.out hbz))
              clear hbz HBA
              go_wp2_with fail
              go_ret
              exact ⟨rfl, HBZ.out⟩
          ·
            rcases (show z = 1 ∨ z = 0 by omega) with rfl | rfl
            ·
              replace m2 : w5.cell? ⟨b, off + q * 3 + 2, none⟩ = some (.int .i64 1) := m2
              have j4b : decide (bq < ev) = false := by simp; omega
              have j4 : decide (bq + 1 ≤ ev) = false := by simp; omega
              have j5 : IntKind.i64.wrap (bq + 1) = bq + 1 := by rw [IntKind.wrap_i64]; omega
              go_wp2_with fail
              have hbd := HBA.out
              clear HBA
              go_region_held3 (fun W => W.cell? ⟨b, off + q * 3 + 2, none⟩ = some (.int .i64 1) ∧ Below w2.heap.size w2 W)
                (refine ⟨?_, ?_⟩ <;> first | assumption | (refine Below.drew ?_; assumption) | (simp [*]; done))
                ((go_at_call 14; obtain ⟨k2, k3⟩ := ‹_ ∧ Below w2.heap.size w2 _›; refine (HBS.out _ k3).mono ?_; rintro e w6 ⟨rfl, hb6⟩; have r2 := cell_later hb6 k2; have r3 := below_two k3 hb6; clear k2 k3 hb6))
              all_goals
                have HBA := Lib.hid r3
                clear r2 r3
                go_wp2_with fail
                refine (HOW.out _ HBA.out).mono ?_
                rintro e wa ⟨O, oc, rfl, -, hba⟩
                have HBN := Lib.hid (below_two HBA.out hba)
                clear HBA hba HOW
                have HBA := HBN
                clear HBN
                go_wp2_with fail
                refine (HBSm.out _ HBA.out).mono ?_
                rintro e wa ⟨rfl, hba⟩
                have HBN := Lib.hid (below_two HBA.out hba)
                clear HBA hba HBSm
                have HBA := HBN
                clear HBN
                go_wp2_with fail
                refine (HBRm.out _ HBA.out).mono ?_
                rintro e wa ⟨rfl, hba⟩
                have HBN := Lib.hid (below_two HBA.out hba)
                clear HBA hba HBRm
                have HBA := HBN
                clear HBN
                go_wp2_with fail
                refine (HMR.out _ HBA.out).mono ?_
                rintro e wa ⟨rfl, hba⟩
                have HBN := Lib.hid (below_two HBA.out hba)
                clear HBA hba HMR
                have HBA := HBN
                clear HBN
                go_wp2_with fail
                refine (awake8_any _).mono ?_
                rintro e wz ⟨rfl, hbz⟩
                have HBZ := Lib.hid (below_two HB2.out (below_two HBA.out hbz))
                clear hbz HBA
                go_wp2_with fail
                go_ret
                exact ⟨rfl, HBZ.out⟩
            ·
              replace m2 : w5.cell? ⟨b, off + q * 3 + 2, none⟩ = some (.int .i64 0) := m2
              have j4b : decide (bq < ev) = false := by simp; omega
              have j4 : decide (bq + 1 ≤ ev) = false := by simp; omega
              have j5 : IntKind.i64.wrap (bq + 1) = bq + 1 := by rw [IntKind.wrap_i64]; omega
              go_wp2_with fail
              have hbd := HBA.out
              clear HBA
              go_region_held3 (fun W => W.cell? ⟨b, off + q * 3 + 2, none⟩ = some (.int .i64 0) ∧ Below w2.heap.size w2 W)
                (refine ⟨?_, ?_⟩ <;> first | assumption | (refine Below.drew ?_; assumption) | (simp [*]; done))
                ((go_at_call 14; obtain ⟨k2, k3⟩ := ‹_ ∧ Below w2.heap.size w2 _›; refine (HBS.out _ k3).mono ?_; rintro e w6 ⟨rfl, hb6⟩; have r2 := cell_later hb6 k2; have r3 := below_two k3 hb6; clear k2 k3 hb6))
              all_goals
                have HBA := Lib.hid r3
                clear r2 r3
                go_wp2_with fail
                refine (HOW.out _ HBA.out).mono ?_
                rintro e wa ⟨O, oc, rfl, -, hba⟩
                have HBN := Lib.hid (below_two HBA.out hba)
                clear HBA hba HOW
                have HBA := HBN
                clear HBN
                go_wp2_with fail
                refine (HBSm.out _ HBA.out).mono ?_
                rintro e wa ⟨rfl, hba⟩
                have HBN := Lib.hid (below_two HBA.out hba)
                clear HBA hba HBSm
                have HBA := HBN
                clear HBN
                go_wp2_with fail
                refine (HBRm.out _ HBA.out).mono ?_
                rintro e wa ⟨rfl, hba⟩
                have HBN := Lib.hid (below_two HBA.out hba)
                clear HBA hba HBRm
                have HBA := HBN
                clear HBN
                go_wp2_with fail
                refine (HMR.out _ HBA.out).mono ?_
                rintro e wa ⟨rfl, hba⟩
                have HBN := Lib.hid (below_two HBA.out hba)
                clear HBA hba HMR
                have HBA := HBN
                clear HBN
                go_wp2_with fail
                refine (awake8_any _).mono ?_
                rintro e wz ⟨rfl, hbz⟩
                have HBZ := Lib.hid (below_two HB2.out (below_two HBA.out hbz))
                clear hbz HBA
                go_wp2_with fail
                go_ret
                exact ⟨rfl, HBZ.out⟩
  | true =>
    go_wp2_with fail
    have HBSm := Lib.hid (HBS.out m (by omega))
    have HBRm := Lib.hid (HBR.out m (by omega))
    replace HMO := Lib.hid (HMO.out el (by omega))
    replace HMR := Lib.hid (HMR.out el (by omega))
    generalize bOf ms m = bm at HBSm HBRm
    replace HIN := Lib.hid (HIN.out el)
    generalize mOf ms el = k at *
    clear HBR
    refine (HEL.out _ HBA.out).mono ?_
    rintro e w3 ⟨rfl, hb3⟩
    have HBN := Lib.hid (below_two HBA.out hb3)
    clear HBA hb3 HEL
    have HBA := HBN
    clear HBN
    go_wp2_with fail
    refine (HNW.out _ HBA.out).mono ?_
    rintro e w4 ⟨D, c, rfl, hN4, hb4⟩
    have HBW := Lib.hid (below_two HBA.out hb4)
    have HV4 := Lib.hid (fun W (h : Below w4.heap.size w4 W) => hN4.v.r.later h)
    clear HBA hb4 HNW hN4
    go_wp2_with fail
    go_loopw [12] (fun i wr => ∃ j : Nat, j ≤ n ∧ i = .int .i64 (j : Int) ∧ Hid (Below w4.heap.size w4 wr)) (fun i _ => n - (intOf i).toNat)
    case atStart => exact ⟨0, Nat.zero_le _, rfl, Below.refl _ _⟩
    case round =>
      obtain ⟨j, hj, rfl, HBK⟩ := hrel
      have HBA := Lib.hid (below_two HBW.out HBK.out)
      by_cases hlt : j < n
      ·
        have i0 : (0 : Int) ≤ (j : Int) := by omega
        have i1 : (j : Int) < (n : Int) := by omega
        have hjz : j < zs.length := by have := HRL.out; omega
        obtain ⟨b1, off1, rfl, c0, c1⟩ := HV4.out wr HBK.out j hjz
        rw [HRP.out j hjz] at c0 c1
        dsimp only at c0 c1
        clear hjz
        go_wp2_with fail
        go_roundw
        case rel => exact ⟨j + 1, by omega, by go_num, HBK⟩
        case measure => simp [intOf]; omega
      ·
        obtain rfl : j = n := by omega
        have i1 : ¬ (j : Int) < (j : Int) := by omega
        clear HBK HBW HV4 HRP HRL hj hlt
        go_wp2_with fail
        refine (HMO.out _ HBA.out).mono ?_
        rintro e w5 ⟨rfl, hb5⟩
        have HBN := Lib.hid (below_two HBA.out hb5)
        clear HBA hb5 HMO
        have HBA := HBN
        clear HBN
        rcases HIN.out with rfl | ⟨q, hq, rfl, hb0, hb7, hbe, hez, hsz⟩
        ·
          clear HIN HBS HM
          have d1 : decide ((ms.length : Int) ≤ -1) = false := by simp; omega
          have d2 : decide ((0 : Int) ≤ -1) = false := rfl
          go_wp2_with fail
          have HBQ := Lib.hid (fun n => below_drewN HBA.out n)
          clear HBA
          go_quiet (fail)
          have HBA := Lib.hid (HBQ.out nq)
          clear HBQ
          go_wp2_with fail
          refine (HOW.out _ HBA.out).mono ?_
          rintro e wa ⟨O, oc, rfl, -, hba⟩
          have HBN := Lib.hid (below_two HBA.out hba)
          clear HBA hba HOW
          have HBA := HBN
          clear HBN
          go_wp2_with fail
          refine (HBSm.out _ HBA.out).mono ?_
          rintro e wa ⟨rfl, hba⟩
          have HBN := Lib.hid (below_two HBA.out hba)
          clear HBA hba HBSm
          have HBA := HBN
          clear HBN
          go_wp2_with fail
          refine (HBRm.out _ HBA.out).mono ?_
          rintro e wa ⟨rfl, hba⟩
          have HBN := Lib.hid (below_two HBA.out hba)
          clear HBA hba HBRm
          have HBA := HBN
          clear HBN
          go_wp2_with fail
          refine (HMR.out _ HBA.out).mono ?_
          rintro e wa ⟨rfl, hba⟩
          have HBN := Lib.hid (below_two HBA.out hba)
          clear HBA hba HMR
          have HBA := HBN
          clear HBN
          go_wp2_with fail
          refine (awake8_any _).mono ?_
          rintro e wz ⟨rfl, hbz⟩
          have HBZ := Lib.hid (below_two HB2.out (below_two HBA.out hbz))
          clear hbz HBA
          go_wp2_with fail
          go_ret
          exact ⟨rfl, HBZ.out⟩
        ·
          replace HBS := Lib.hid (HBS.out (q : Int) (by omega))
          obtain ⟨b, off, s', rfl, -, -, m2⟩ := HM.out w5 HBA.out q hq
          have j0 : (0 : Int) ≤ (q : Int) := by omega
          have j2 : (q : Int) < (ms.length : Int) := by omega
          have d1 : decide ((ms.length : Int) ≤ (q : Int)) = false := by simp; omega
          have d1n : decide (ms.length ≤ q) = false := by simp; omega
          have d2 : decide ((0 : Int) ≤ (q : Int)) = true := by simp
          generalize ms[q].sz = z at *
          generalize bOf ms (q : Int) = bq at *
          have j3 : decide (el < bq) = false := by simp; omega
          clear HIN HM
          by_cases hz1 : (1 : Int) < (z : Int)
          ·
            have j4 : decide (bq + (z : Int) ≤ el) = false := by simp; omega
            have j5 : IntKind.i64.wrap (bq + (z : Int)) = bq + (z : Int) := by rw [IntKind.wrap_i64]; omega
            go_wp2_with fail
            have hbd := HBA.out
            clear HBA
            go_region_held3 (fun W => W.cell? ⟨b, off + q * 3 + 2, none⟩ = some (.int .i64 (z : Int)) ∧ Below w2.heap.size w2 W)
              (refine ⟨?_, ?_⟩ <;> first | assumption | (refine Below.drew ?_; assumption) | (simp [*]; done))
              ((go_at_call 14; obtain ⟨k2, k3⟩ := ‹_ ∧ Below w2.heap.size w2 _›; refine (HBS.out _ k3).mono ?_; rintro e w6 ⟨rfl, hb6⟩; have r2 := cell_later hb6 k2; have r3 := below_two k3 hb6; clear k2 k3 hb6))
            all_goals
              have HBA := Lib.hid r3
              clear r2 r3
              go_wp2_with fail
              refine (HOW.out _ HBA.out).mono ?_
              rintro e wa ⟨O, oc, rfl, -, hba⟩
              have HBN := Lib.hid (below_two HBA.out hba)
              clear HBA hba HOW
              have HBA := HBN
              clear HBN
              go_wp2_with fail
              refine (HBSm.out _ HBA.out).mono ?_
              rintro e wa ⟨rfl, hba⟩
              have HBN := Lib.hid (below_two HBA.out hba)
              clear HBA hba HBSm
              have HBA := HBN
              clear HBN
              go_wp2_with fail
              refine (HBRm.out _ HBA.out).mono ?_
              rintro e wa ⟨rfl, hba⟩
              have HBN := Lib.hid (below_two HBA.out hba)
              clear HBA hba HBRm
              have HBA := HBN
              clear HBN
              go_wp2_with fail
              refine (HMR.out _ HBA.out).mono ?_
              rintro e wa ⟨rfl, hba⟩
              have HBN := Lib.hid (below_two HBA.out hba)
              clear HBA hba HMR
              have HBA := HBN
              clear HBN
              go_wp2_with fail
              refine (awake8_any _).mono ?_
              rintro e wz ⟨rfl, hbz⟩
              have HBZ := Lib.hid (below_two HB2.out (below_two HBA.out hbz))
              clear hbz HBA
              go_wp2_with fail
              go_ret
              exact ⟨rfl, HBZ.out⟩
          ·
            rcases (show z = 1 ∨ z = 0 by omega) with rfl | rfl
            ·
              replace m2 : w5.cell? ⟨b, off + q * 3 + 2, none⟩ = some (.int .i64 1) := m2
              have j4b : decide (bq < el) = false := by simp; omega
              have j4 : decide (bq + 1 ≤ el) = false := by simp; omega
              have j5 : IntKind.i64.wrap (bq + 1) = bq + 1 := by rw [IntKind.wrap_i64]; omega
              go_wp2_with fail
              have hbd := HBA.out
              clear HBA
              go_region_held3 (fun W => W.cell? ⟨b, off + q * 3 + 2, none⟩ = some (.int .i64 1) ∧ Below w2.heap.size w2 W)
                (refine ⟨?_, ?_⟩ <;> first | assumption | (refine Below.drew ?_; assumption) | (simp [*]; done))
                ((go_at_call 14; obtain ⟨k2, k3⟩ := ‹_ ∧ Below w2.heap.size w2 _›; refine (HBS.out _ k3).mono ?_; rintro e w6 ⟨rfl, hb6⟩; have r2 := cell_later hb6 k2; have r3 := below_two k3 hb6; clear k2 k3 hb6))
              all_goals
                have HBA := Lib.hid r3
                clear r2 r3
                go_wp2_with fail
                refine (HOW.out _ HBA.out).mono ?_
                rintro e wa ⟨O, oc, rfl, -, hba⟩
                have HBN := Lib.hid (below_two HBA.out hba)
                clear HBA hba HOW
                have HBA := HBN
                clear HBN
                go_wp2_with fail
                refine (HBSm.out _ HBA.out).mono ?_
                rintro e wa ⟨rfl, hba⟩
                have HBN := Lib.hid (below_two HBA.out hba)
                clear HBA hba HBSm
                have HBA := HBN
                clear HBN
                go_wp2_with fail
                refine (HBRm.out _ HBA.out).mono ?_
                rintro e wa ⟨rfl, hba⟩
                have HBN := Lib.hid (below_two HBA.out hba)
                clear HBA hba HBRm
                have HBA := HBN
                clear HBN
                go_wp2_with fail
                refine (HMR.out _ HBA.out).mono ?_
                rintro e wa ⟨rfl, hba⟩
                have HBN := Lib.hid (below_two HBA.out hba)
                clear HBA hba HMR
                have HBA := HBN
                clear HBN
                go_wp2_with fail
                refine (awake8_any _).mono ?_
                rintro e wz ⟨rfl, hbz⟩
                have HBZ := Lib.hid (below_two HB2.out (below_two HBA.out hbz))
                clear hbz HBA
                go_wp2_with fail
                go_ret
                exact ⟨rfl, HBZ.out⟩
            ·
              replace m2 : w5.cell? ⟨b, off + q * 3 + 2, none⟩ = some (.int .i64 0) := m2
              have j4b : decide (bq < el) = false := by simp; omega
              have j4 : decide (bq + 1 ≤ el) = false := by simp; omega
              have j5 : IntKind.i64.wrap (bq + 1) = bq + 1 := by rw [IntKind.wrap_i64]; omega
              go_wp2_with fail
              have hbd := HBA.out
              clear HBA
              go_region_held3 (fun W => W.cell? ⟨b, off + q * 3 + 2, none⟩ = some (.int .i64 0) ∧ Below w2.heap.size w2 W)
                (refine ⟨?_, ?_⟩ <;> first | assumption | (refine Below.drew ?_; assumption) | (simp [*]; done))
                ((go_at_call 14; obtain ⟨k2, k3⟩ := ‹_ ∧ Below w2.heap.size w2 _›; refine (HBS.out _ k3).mono ?_; rintro e w6 ⟨rfl, hb6⟩; have r2 := cell_later hb6 k2; have r3 := below_two k3 hb6; clear k2 k3 hb6))
              all_goals
                have HBA := Lib.hid r3
                clear r2 r3
                go_wp2_with fail
                refine (HOW.out _ HBA.out).mono ?_
                rintro e wa ⟨O, oc, rfl, -, hba⟩
                have HBN := Lib.hid (below_two HBA.out hba)
                clear HBA hba HOW
                have HBA := HBN
                clear HBN
                go_wp2_with fail
                refine (HBSm.out _ HBA.out).mono ?_
                rintro e wa ⟨rfl, hba⟩
                have HBN := Lib.hid (below_two HBA.out hba)
                clear HBA hba HBSm
                have HBA := HBN
                clear HBN
                go_wp2_with fail
                refine (HBRm.out _ HBA.out).mono ?_
                rintro e wa ⟨rfl, hba⟩
                have HBN := Lib.hid (below_two HBA.out hba)
                clear HBA hba HBRm
                have HBA := HBN
                clear HBN
                go_wp2_with fail
                refine (HMR.out _ HBA.out).mono ?_
                rintro e wa ⟨rfl, hba⟩
                have HBN := Lib.hid (below_two HBA.out hba)
                clear HBA hba HMR
                have HBA := HBN
                clear HBN
                go_wp2_with fail
                refine (awake8_any _).mono ?_
                rintro e wz ⟨rfl, hbz⟩
                have HBZ := Lib.hid (below_two HB2.out (below_two HBA.out hbz))
                clear hbz HBA
                go_wp2_with fail
                go_ret
                exact ⟨rfl, HBZ.out⟩
end Go.Proofs.Ytobpnpkcafacjaa
