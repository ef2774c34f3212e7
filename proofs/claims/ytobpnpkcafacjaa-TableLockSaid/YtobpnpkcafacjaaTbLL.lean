/- The walk of TableLock. -/
import Derived.Test.YtobpnpkcafacjaaTbMk1
namespace Go.Proofs.Ytobpnpkcafacjaa
open Go.RowKit
set_option maxRecDepth 100000

set_option maxHeartbeats 8000000 in
theorem tableLock_any (xs : List Int) (A : Option Addr) (capA : Nat) (ys : List Int) (B : Option Addr) (capB : Nat) (el t : Int) (r : Bool) (w : World) (hR : IntR w A xs) (hmA : xs.length ≤ 9223372036854775807) (hS : IntR w B ys) (hmB : ys.length ≤ 9223372036854775807) (he : I64' el) (ht : I64' t) :
    Calls Try.prog 4 #[.slice A xs.length capA, .slice B ys.length capB, .int .i64 el, .int .i64 t, .bool r] w fun e w' => e = .returned (.bool true) ∧ Below w.heap.size w w' := by
  have HMX := Lib.hid (mutexes_any xs A capA w hR hmA)
  unfold I64' at he ht
  go_enter Try.func4, Try.ntmps4
  go_wp2_with fail
  refine HMX.out.mono ?_
  rintro e w1 ⟨X, ms, cx, rfl, hM, hok, hcx, hb1⟩
  have HMD := Lib.hid (made_any ys B X capB cx ms w1 (hS.later hb1) hmB hM hok)
  have HB1 := Lib.hid hb1
  have HM1 := Lib.hid hM
  clear hb1 hM HMX
  go_wp2_with fail
  refine HMD.out.mono ?_
  rintro e w2 ⟨D, c, hs, rfl, hN, hG, hb2⟩
  have HB2 := Lib.hid (below_two HB1.out hb2)
  have hM2 := HM1.out.later hb2
  have HM := Lib.hid (fun W (h : Below w2.heap.size w2 W) => hM2.later h)
  have HT := Lib.hid (fun W (h : Below w2.heap.size w2 W) => hN.v.later h)
  have hn := hG.1.symm
  have hE := hok.tE
  have HBA : Hid (Below w2.heap.size w2 w2) := Below.refl _ _
  clear hb2 hM2 hN HB1 HM1 HMD
  have hth : ThOk 4611686018427387904 hs := hG.th (by omega)
  have HLK := Lib.hid (fun el t he h0 h1 W (h : Below w2.heap.size w2 W) => lock_any W X D ms hs cx c (tE ms) el t (HM.out W h) hok (HT.out W h) hn hn.symm he h0 h1 hth)
  have HLR := Lib.hid (fun el t he h0 h1 W (h : Below w2.heap.size w2 W) => refLock_any W X D ms hs cx c (tE ms) el t (HM.out W h) hok (HT.out W h) hn hn.symm he h0 h1 hth)
  have HUK := Lib.hid (fun el t he h0 h1 W (h : Below w2.heap.size w2 W) => unlock_any W X D ms hs cx c (tE ms) el t (HM.out W h) hok (HT.out W h) hn hn.symm he h0 h1 hth)
  have HUR := Lib.hid (fun el t he h0 h1 W (h : Below w2.heap.size w2 W) => refUnlock_any W X D ms hs cx c (tE ms) el t (HM.out W h) hok (HT.out W h) hn hn.symm he h0 h1 hth)
  have HFK := Lib.hid (fun el t he h0 h1 W (h : Below w2.heap.size w2 W) => free_any W X D ms hs cx c (tE ms) el t (HM.out W h) hok (HT.out W h) hn hn.symm he h0 h1)
  have HFR := Lib.hid (fun el t he h0 h1 W (h : Below w2.heap.size w2 W) => refFree_any W X D ms hs cx c (tE ms) el t (HM.out W h) hok (HT.out W h) hn hn.symm he h0 h1)
  have HLL := Lib.hid (fun el t => lkV_len ms hs el t)
  have HUL := Lib.hid (fun el t => ulV_len ms hs el t)
  rw [← hn] at HLL HUL
  clear hth HM HT hok hG hn
  generalize tE ms = n at *
  unfold LkPost at HLK HLR HUK HUR
  unfold I64' at HLK HLR HUK HUR HFK HFR
  cases r with
  | false =>
    have HW2 := Lib.hid (fun W => within_any t 4 W ht (by omega) (by omega))
    have hw2 := within_lt t 4 (by omega)
    rw [show (4 : Int).toNat = 4 from rfl] at HW2
    generalize within t 4 = U at *
    have tm2 : min ((U : Nat) : Int) 4611686018427387904 = (U : Int) := by omega
    by_cases h1n : 1 < (n : Int)
    ·
      have HW1 := Lib.hid (fun W => within_any el (n : Int) W he (by omega) (by omega))
      have hw1 := within_lt el n (by omega)
      rw [show ((n : Int) : Int).toNat = n from rfl] at HW1
      generalize within el n = E at *
      go_wp2_with fail
      refine (HW1.out _).mono ?_
      rintro e w3 ⟨rfl, rfl⟩
      go_wp2_with fail
      refine (HW2.out _).mono ?_
      rintro e w3 ⟨rfl, rfl⟩
      replace HLK := Lib.hid (HLK.out (E : Int) (U : Int) (by omega) (by omega) (by omega))
      replace HLR := Lib.hid (HLR.out (E : Int) (U : Int) (by omega) (by omega) (by omega))
      replace HUK := Lib.hid (HUK.out (E : Int) (U : Int) (by omega) (by omega) (by omega))
      replace HUR := Lib.hid (HUR.out (E : Int) (U : Int) (by omega) (by omega) (by omega))
      replace HFK := Lib.hid (HFK.out (E : Int) (U : Int) (by omega) (by omega) (by omega))
      replace HFR := Lib.hid (HFR.out (E : Int) (U : Int) (by omega) (by omega) (by omega))
      replace HLL := Lib.hid (HLL.out (E : Int) (U : Int))
      replace HUL := Lib.hid (HUL.out (E : Int) (U : Int))
      generalize lkV ms hs (E : Int) (U : Int) = ls at *
      generalize ulV ms hs (E : Int) (U : Int) = us at *
      generalize frV ms hs (E : Int) (U : Int) = f at *
      generalize ulB ms hs (E : Int) (U : Int) = u at *
      go_wp2_with fail
      refine (HLK.out _ HBA.out).mono ?_
      rintro e w3 ⟨D3, c3, rfl, hN3, hb3⟩
      have HBN := Lib.hid (below_two HBA.out hb3)
      have HT3 := Lib.hid hN3.v.r
      clear hN3
      clear hb3 HBA
      have HBA := HBN
      clear HBN
      go_wp2_with fail
      refine (HLR.out _ HBA.out).mono ?_
      rintro e w4 ⟨D4, c4, rfl, hN4, hb4⟩
      have HBN := Lib.hid (below_two HBA.out hb4)
      have HT4 := Lib.hid hN4.v.r
      replace HT3 := Lib.hid (HT3.out.later hb4)
      clear hN4
      clear hb4 HBA
      have HBA := HBN
      clear HBN
      go_wp2_with fail
      refine (HUK.out _ HBA.out).mono ?_
      rintro e w5 ⟨D5, c5, rfl, hN5, hb5⟩
      have HBN := Lib.hid (below_two HBA.out hb5)
      have HT5 := Lib.hid hN5.v.r
      replace HT3 := Lib.hid (HT3.out.later hb5)
      replace HT4 := Lib.hid (HT4.out.later hb5)
      clear hN5
      clear hb5 HBA
      have HBA := HBN
      clear HBN
      go_wp2_with fail
      refine (HUR.out _ HBA.out).mono ?_
      rintro e w6 ⟨D6, c6, rfl, hN6, hb6⟩
      have HBN := Lib.hid (below_two HBA.out hb6)
      have HT6 := Lib.hid hN6.v.r
      replace HT3 := Lib.hid (HT3.out.later hb6)
      replace HT4 := Lib.hid (HT4.out.later hb6)
      replace HT5 := Lib.hid (HT5.out.later hb6)
      clear hN6
      clear hb6 HBA
      have HBA := HBN
      clear HBN
      go_wp2_with fail
      have HS1 := Lib.hid (same_any w6 D3 D4 ls c3 c4 n n HT3.out HT4.out HLL.out.symm HLL.out.symm (by have := HLL.out; omega))
      refine HS1.out.mono ?_
      rintro e w7 ⟨rfl, hb7⟩
      have HBN := Lib.hid (below_two HBA.out hb7)
      have HS2 := Lib.hid (same_any w7 D5 D6 us c5 c6 n n (HT5.out.later hb7) (HT6.out.later hb7) HUL.out.symm HUL.out.symm (by have := HUL.out; omega))
      clear HBA hb7 HS1 HT3 HT4 HT5 HT6
      have HBA := HBN
      clear HBN
      go_wp2_with fail
      refine HS2.out.mono ?_
      rintro e w8 ⟨rfl, hb8⟩
      have HBN := Lib.hid (below_two HBA.out hb8)
      clear HBA hb8 HS2
      have HBA := HBN
      clear HBN
      go_wp2_with fail
      refine (HFK.out _ HBA.out).mono ?_
      rintro e w9 ⟨rfl, hb9⟩
      have HBN := Lib.hid (below_two HBA.out hb9)
      clear hb9 HBA
      have HBA := HBN
      clear HBN
      go_wp2_with fail
      refine (HFR.out _ HBA.out).mono ?_
      rintro e w10 ⟨rfl, hb10⟩
      have HBN := Lib.hid (below_two HBA.out hb10)
      clear hb10 HBA
      have HBA := HBN
      clear HBN
      go_wp2_with fail
      refine (HFK.out _ HBA.out).mono ?_
      rintro e w11 ⟨rfl, hb11⟩
      have HBN := Lib.hid (below_two HBA.out hb11)
      clear hb11 HBA
      have HBA := HBN
      clear HBN
      go_wp2_with fail
      refine (awake8_any _).mono ?_
      rintro e wz ⟨rfl, hbz⟩
      have HBZ := Lib.hid (below_two HB2.out (below_two HBA.out hbz))
      clear hbz HBA
      go_wp2_with fail
      go_ret
      exact ⟨rfl, HBZ.out⟩
    ·
      have HW1 := Lib.hid (fun W => within_any el 1 W he (by omega) (by omega))
      have hw1 := within_lt el 1 (by omega)
      rw [show (1 : Int).toNat = 1 from rfl] at HW1
      generalize within el 1 = E at *
      go_wp2_with fail
      refine (HW1.out _).mono ?_
      rintro e w3 ⟨rfl, rfl⟩
      go_wp2_with fail
      refine (HW2.out _).mono ?_
      rintro e w3 ⟨rfl, rfl⟩
      replace HLK := Lib.hid (HLK.out (E : Int) (U : Int) (by omega) (by omega) (by omega))
      replace HLR := Lib.hid (HLR.out (E : Int) (U : Int) (by omega) (by omega) (by omega))
      replace HUK := Lib.hid (HUK.out (E : Int) (U : Int) (by omega) (by omega) (by omega))
      replace HUR := Lib.hid (HUR.out (E : Int) (U : Int) (by omega) (by omega) (by omega))
      replace HFK := Lib.hid (HFK.out (E : Int) (U : Int) (by omega) (by omega) (by omega))
      replace HFR := Lib.hid (HFR.out (E : Int) (U : Int) (by omega) (by omega) (by omega))
      replace HLL := Lib.hid (HLL.out (E : Int) (U : Int))
      replace HUL := Lib.hid (HUL.out (E : Int) (U : Int))
      generalize lkV ms hs (E : Int) (U : Int) = ls at *
      generalize ulV ms hs (E : Int) (U : Int) = us at *
      generalize frV ms hs (E : Int) (U : Int) = f at *
      generalize ulB ms hs (E : Int) (U : Int) = u at *
      go_wp2_with fail
      refine (HLK.out _ HBA.out).mono ?_
      rintro e w3 ⟨D3, c3, rfl, hN3, hb3⟩
      have HBN := Lib.hid (below_two HBA.out hb3)
      have HT3 := Lib.hid hN3.v.r
      clear hN3
      clear hb3 HBA
      have HBA := HBN
      clear HBN
      go_wp2_with fail
      refine (HLR.out _ HBA.out).mono ?_
      rintro e w4 ⟨D4, c4, rfl, hN4, hb4⟩
      have HBN := Lib.hid (below_two HBA.out hb4)
      have HT4 := Lib.hid hN4.v.r
      replace HT3 := Lib.hid (HT3.out.later hb4)
      clear hN4
      clear hb4 HBA
      have HBA := HBN
      clear HBN
      go_wp2_with fail
      refine (HUK.out _ HBA.out).mono ?_
      rintro e w5 ⟨D5, c5, rfl, hN5, hb5⟩
      have HBN := Lib.hid (below_two HBA.out hb5)
      have HT5 := Lib.hid hN5.v.r
      replace HT3 := Lib.hid (HT3.out.later hb5)
      replace HT4 := Lib.hid (HT4.out.later hb5)
      clear hN5
      clear hb5 HBA
      have HBA := HBN
      clear HBN
      go_wp2_with fail
      refine (HUR.out _ HBA.out).mono ?_
      rintro e w6 ⟨D6, c6, rfl, hN6, hb6⟩
      have HBN := Lib.hid (below_two HBA.out hb6)
      have HT6 := Lib.hid hN6.v.r
      replace HT3 := Lib.hid (HT3.out.later hb6)
      replace HT4 := Lib.hid (HT4.out.later hb6)
      replace HT5 := Lib.hid (HT5.out.later hb6)
      clear hN6
      clear hb6 HBA
      have HBA := HBN
      clear HBN
      go_wp2_with fail
      have HS1 := Lib.hid (same_any w6 D3 D4 ls c3 c4 n n HT3.out HT4.out HLL.out.symm HLL.out.symm (by have := HLL.out; omega))
      refine HS1.out.mono ?_
      rintro e w7 ⟨rfl, hb7⟩
      have HBN := Lib.hid (below_two HBA.out hb7)
      have HS2 := Lib.hid (same_any w7 D5 D6 us c5 c6 n n (HT5.out.later hb7) (HT6.out.later hb7) HUL.out.symm HUL.out.symm (by have := HUL.out; omega))
      clear HBA hb7 HS1 HT3 HT4 HT5 HT6
      have HBA := HBN
      clear HBN
      go_wp2_with fail
      refine HS2.out.mono ?_
      rintro e w8 ⟨rfl, hb8⟩
      have HBN := Lib.hid (below_two HBA.out hb8)
      clear HBA hb8 HS2
      have HBA := HBN
      clear HBN
      go_wp2_with fail
      refine (HFK.out _ HBA.out).mono ?_
      rintro e w9 ⟨rfl, hb9⟩
      have HBN := Lib.hid (below_two HBA.out hb9)
      clear hb9 HBA
      have HBA := HBN
      clear HBN
      go_wp2_with fail
      refine (HFR.out _ HBA.out).mono ?_
      rintro e w10 ⟨rfl, hb10⟩
      have HBN := Lib.hid (below_two HBA.out hb10)
      clear hb10 HBA
      have HBA := HBN
      clear HBN
      go_wp2_with fail
      refine (HFK.out _ HBA.out).mono ?_
      rintro e w11 ⟨rfl, hb11⟩
      have HBN := Lib.hid (below_two HBA.out hb11)
      clear hb11 HBA
      have HBA := HBN
      clear HBN
      go_wp2_with fail
      refine (awake8_any _).mono ?_
      rintro e wz ⟨rfl, hbz⟩
      have HBZ := Lib.hid (below_two HB2.out (below_two HBA.out hbz))
      clear hbz HBA
      go_wp2_with fail
      go_ret
      exact ⟨rfl, HBZ.out⟩
  | true =>
    by_cases h62 : t ≤ 4611686018427387904
    ·
      have tm2 : min t 4611686018427387904 = t := by omega
      replace HLK := Lib.hid (HLK.out el t (by omega) (by omega) (by omega))
      replace HLR := Lib.hid (HLR.out el t (by omega) (by omega) (by omega))
      replace HUK := Lib.hid (HUK.out el t (by omega) (by omega) (by omega))
      replace HUR := Lib.hid (HUR.out el t (by omega) (by omega) (by omega))
      replace HFK := Lib.hid (HFK.out el t (by omega) (by omega) (by omega))
      replace HFR := Lib.hid (HFR.out el t (by omega) (by omega) (by omega))
      replace HLL := Lib.hid (HLL.out el t)
      replace HUL := Lib.hid (HUL.out el t)
      generalize lkV ms hs el t = ls at *
      generalize ulV ms hs el t = us at *
      generalize frV ms hs el t = f at *
      generalize ulB ms hs el t = u at *
      go_wp2_with fail
      refine (HLK.out _ HBA.out).mono ?_
      rintro e w3 ⟨D3, c3, rfl, hN3, hb3⟩
      have HBN := Lib.hid (below_two HBA.out hb3)
      have HT3 := Lib.hid hN3.v.r
      clear hN3
      clear hb3 HBA
      have HBA := HBN
      clear HBN
      go_wp2_with fail
      refine (HLR.out _ HBA.out).mono ?_
      rintro e w4 ⟨D4, c4, rfl, hN4, hb4⟩
      have HBN := Lib.hid (below_two HBA.out hb4)
      have HT4 := Lib.hid hN4.v.r
      replace HT3 := Lib.hid (HT3.out.later hb4)
      clear hN4
      clear hb4 HBA
      have HBA := HBN
      clear HBN
      go_wp2_with fail
      refine (HUK.out _ HBA.out).mono ?_
      rintro e w5 ⟨D5, c5, rfl, hN5, hb5⟩
      have HBN := Lib.hid (below_two HBA.out hb5)
      have HT5 := Lib.hid hN5.v.r
      replace HT3 := Lib.hid (HT3.out.later hb5)
      replace HT4 := Lib.hid (HT4.out.later hb5)
      clear hN5
      clear hb5 HBA
      have HBA := HBN
      clear HBN
      go_wp2_with fail
      refine (HUR.out _ HBA.out).mono ?_
      rintro e w6 ⟨D6, c6, rfl, hN6, hb6⟩
      have HBN := Lib.hid (below_two HBA.out hb6)
      have HT6 := Lib.hid hN6.v.r
      replace HT3 := Lib.hid (HT3.out.later hb6)
      replace HT4 := Lib.hid (HT4.out.later hb6)
      replace HT5 := Lib.hid (HT5.out.later hb6)
      clear hN6
      clear hb6 HBA
      have HBA := HBN
      clear HBN
      go_wp2_with fail
      have HS1 := Lib.hid (same_any w6 D3 D4 ls c3 c4 n n HT3.out HT4.out HLL.out.symm HLL.out.symm (by have := HLL.out; omega))
      refine HS1.out.mono ?_
      rintro e w7 ⟨rfl, hb7⟩
      have HBN := Lib.hid (below_two HBA.out hb7)
      have HS2 := Lib.hid (same_any w7 D5 D6 us c5 c6 n n (HT5.out.later hb7) (HT6.out.later hb7) HUL.out.symm HUL.out.symm (by have := HUL.out; omega))
      clear HBA hb7 HS1 HT3 HT4 HT5 HT6
      have HBA := HBN
      clear HBN
      go_wp2_with fail
      refine HS2.out.mono ?_
      rintro e w8 ⟨rfl, hb8⟩
      have HBN := Lib.hid (below_two HBA.out hb8)
      clear HBA hb8 HS2
      have HBA := HBN
      clear HBN
      go_wp2_with fail
      refine (HFK.out _ HBA.out).mono ?_
      rintro e w9 ⟨rfl, hb9⟩
      have HBN := Lib.hid (below_two HBA.out hb9)
      clear hb9 HBA
      have HBA := HBN
      clear HBN
      go_wp2_with fail
      refine (HFR.out _ HBA.out).mono ?_
      rintro e w10 ⟨rfl, hb10⟩
      have HBN := Lib.hid (below_two HBA.out hb10)
      clear hb10 HBA
      have HBA := HBN
      clear HBN
      go_wp2_with fail
      refine (HFK.out _ HBA.out).mono ?_
      rintro e w11 ⟨rfl, hb11⟩
      have HBN := Lib.hid (below_two HBA.out hb11)
      clear hb11 HBA
      have HBA := HBN
      clear HBN
      go_wp2_with fail
      refine (awake8_any _).mono ?_
      rintro e wz ⟨rfl, hbz⟩
      have HBZ := Lib.hid (below_two HB2.out (below_two HBA.out hbz))
      clear hbz HBA
      go_wp2_with fail
      go_ret
      exact ⟨rfl, HBZ.out⟩
    ·
      have tm2 : min t 4611686018427387904 = 4611686018427387904 := by omega
      replace HLK := Lib.hid (HLK.out el 4611686018427387904 (by omega) (by omega) (by omega))
      replace HLR := Lib.hid (HLR.out el 4611686018427387904 (by omega) (by omega) (by omega))
      replace HUK := Lib.hid (HUK.out el 4611686018427387904 (by omega) (by omega) (by omega))
      replace HUR := Lib.hid (HUR.out el 4611686018427387904 (by omega) (by omega) (by omega))
      replace HFK := Lib.hid (HFK.out el 4611686018427387904 (by omega) (by omega) (by omega))
      replace HFR := Lib.hid (HFR.out el 4611686018427387904 (by omega) (by omega) (by omega))
      replace HLL := Lib.hid (HLL.out el 4611686018427387904)
      replace HUL := Lib.hid (HUL.out el 4611686018427387904)
      generalize lkV ms hs el 4611686018427387904 = ls at *
      generalize ulV ms hs el 4611686018427387904 = us at *
      generalize frV ms hs el 4611686018427387904 = f at *
      generalize ulB ms hs el 4611686018427387904 = u at *
      go_wp2_with fail
      refine (HLK.out _ HBA.out).mono ?_
      rintro e w3 ⟨D3, c3, rfl, hN3, hb3⟩
      have HBN := Lib.hid (below_two HBA.out hb3)
      have HT3 := Lib.hid hN3.v.r
      clear hN3
      clear hb3 HBA
      have HBA := HBN
      clear HBN
      go_wp2_with fail
      refine (HLR.out _ HBA.out).mono ?_
      rintro e w4 ⟨D4, c4, rfl, hN4, hb4⟩
      have HBN := Lib.hid (below_two HBA.out hb4)
      have HT4 := Lib.hid hN4.v.r
      replace HT3 := Lib.hid (HT3.out.later hb4)
      clear hN4
      clear hb4 HBA
      have HBA := HBN
      clear HBN
      go_wp2_with fail
      refine (HUK.out _ HBA.out).mono ?_
      rintro e w5 ⟨D5, c5, rfl, hN5, hb5⟩
      have HBN := Lib.hid (below_two HBA.out hb5)
      have HT5 := Lib.hid hN5.v.r
      replace HT3 := Lib.hid (HT3.out.later hb5)
      replace HT4 := Lib.hid (HT4.out.later hb5)
      clear hN5
      clear hb5 HBA
      have HBA := HBN
      clear HBN
      go_wp2_with fail
      refine (HUR.out _ HBA.out).mono ?_
      rintro e w6 ⟨D6, c6, rfl, hN6, hb6⟩
      have HBN := Lib.hid (below_two HBA.out hb6)
      have HT6 := Lib.hid hN6.v.r
      replace HT3 := Lib.hid (HT3.out.later hb6)
      replace HT4 := Lib.hid (HT4.out.later hb6)
      replace HT5 := Lib.hid (HT5.out.later hb6)
      clear hN6
      clear hb6 HBA
      have HBA := HBN
      clear HBN
      go_wp2_with fail
      have HS1 := Lib.hid (same_any w6 D3 D4 ls c3 c4 n n HT3.out HT4.out HLL.out.symm HLL.out.symm (by have := HLL.out; omega))
      refine HS1.out.mono ?_
      rintro e w7 ⟨rfl, hb7⟩
      have HBN := Lib.hid (below_two HBA.out hb7)
      have HS2 := Lib.hid (same_any w7 D5 D6 us c5 c6 n n (HT5.out.later hb7) (HT6.out.later hb7) HUL.out.symm HUL.out.symm (by have := HUL.out; omega))
      clear HBA hb7 HS1 HT3 HT4 HT5 HT6
      have HBA := HBN
      clear HBN
      go_wp2_with fail
      refine HS2.out.mono ?_
      rintro e w8 ⟨rfl, hb8⟩
      have HBN := Lib.hid (below_two HBA.out hb8)
      clear HBA hb8 HS2
      have HBA := HBN
      clear HBN
      go_wp2_with fail
      refine (HFK.out _ HBA.out).mono ?_
      rintro e w9 ⟨rfl, hb9⟩
      have HBN := Lib.hid (below_two HBA.out hb9)
      clear hb9 HBA
      have HBA := HBN
      clear HBN
      go_wp2_with fail
      refine (HFR.out _ HBA.out).mono ?_
      rintro e w10 ⟨rfl, hb10⟩
      have HBN := Lib.hid (below_two HBA.out hb10)
      clear hb10 HBA
      have HBA := HBN
      clear HBN
      go_wp2_with fail
      refine (HFK.out _ HBA.out).mono ?_
      rintro e w11 ⟨rfl, hb11⟩
      have HBN := Lib.hid (below_two HBA.out hb11)
      clear hb11 HBA
      have HBA := HBN
      clear HBN
      go_wp2_with fail
      refine (awake8_any _).mono ?_
      rintro e wz ⟨rfl, hbz⟩
      have HBZ := Lib.hid (below_two HB2.out (below_two HBA.out hbz))
      clear hbz HBA
      go_wp2_with fail
      go_ret
      exact ⟨rfl, HBZ.out⟩
end Go.Proofs.Ytobpnpkcafacjaa
