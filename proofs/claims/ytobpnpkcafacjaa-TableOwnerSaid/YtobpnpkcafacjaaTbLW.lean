/- The walk of TableOwner. -/
import Derived.Test.YtobpnpkcafacjaaTbMk1
namespace Go.Proofs.Ytobpnpkcafacjaa
open Go.RowKit
set_option maxRecDepth 100000

set_option maxHeartbeats 8000000 in
theorem tableOwner_any (xs : List Int) (A : Option Addr) (capA : Nat) (ys : List Int) (B : Option Addr) (capB : Nat) (el a b : Int) (w : World) (hR : IntR w A xs) (hmA : xs.length ≤ 9223372036854775807) (hS : IntR w B ys) (hmB : ys.length ≤ 9223372036854775807) (he : I64' el) (ha : I64' a) (hb : I64' b) :
    Calls Try.prog 8 #[.slice A xs.length capA, .slice B ys.length capB, .int .i64 el, .int .i64 a, .int .i64 b] w fun e w' => e = .returned (.bool true) ∧ Below w.heap.size w w' := by
  have HMX := Lib.hid (mutexes_any xs A capA w hR hmA)
  unfold I64' at he ha hb
  go_enter Try.func8, Try.ntmps8
  go_wp2_with fail
  refine HMX.out.mono ?_
  rintro e w1 ⟨X, ms, cx, rfl, hM, hok, hcx, hb1⟩
  have HMD := Lib.hid (made_any ys B X capB cx ms w1 (hS.later hb1) hmB hM hok)
  have HB1 := Lib.hid hb1
  have HM1 := Lib.hid hM
  clear hb1 hM HMX
  go_wp2_with fail
  refine HMD.out.mono ?_
  rintro e w2 ⟨D, c, hs, rfl, hN, hG, hb2⟩
  have HB2 := Lib.hid (below_two HB1.out hb2)
  have hM2 := HM1.out.later hb2
  have HM := Lib.hid (fun W (h : Below w2.heap.size w2 W) => hM2.later h)
  have HT := Lib.hid (fun W (h : Below w2.heap.size w2 W) => hN.v.later h)
  have hn := hG.1.symm
  have hE := hok.tE
  have HBA : Hid (Below w2.heap.size w2 w2) := Below.refl _ _
  clear hb2 hM2 hN HB1 HM1 HMD
  generalize hnn : tE ms = n at hn hE ⊢
  by_cases h0 : n = 0
  ·
    subst h0
    go_wp2_with fail
    refine (awake8_any _).mono ?_
    rintro e wz ⟨rfl, hbz⟩
    have HBZ := Lib.hid (below_two HB2.out (below_two HBA.out hbz))
    clear hbz HBA
    go_wp2_with fail
    go_ret
    exact ⟨rfl, HBZ.out⟩
  ·
    have t0 := bF (show (n : Int) ≠ 0 by omega)
    have HWE := Lib.hid (fun W => within_any el (n : Int) W he (by omega) (by omega))
    have hwE := within_lt el n (by omega)
    rw [Int.toNat_natCast] at HWE
    generalize within el n = E at *
    have HWU := Lib.hid (fun W => within_any a 4 W ha (by omega) (by omega))
    have hwU := within_lt a 4 (by omega)
    rw [show (4 : Int).toNat = 4 from rfl] at HWU
    generalize within a 4 = U at *
    have HWV := Lib.hid (fun W => within_any b 4 W hb (by omega) (by omega))
    have hwV := within_lt b 4 (by omega)
    rw [show (4 : Int).toNat = 4 from rfl] at HWV
    generalize within b 4 = V at *
    have hl : hs.length = tE ms := hG.1
    have hGL := hG.lk (E : Int) (U : Int) (by omega)
    have hll := hGL.1
    have HLK := Lib.hid (fun W (h : Below w2.heap.size w2 W) => lock_any W X D ms hs cx c n (E : Int) (U : Int) (HM.out W h) hok (HT.out W h) hn hl (by unfold I64'; omega) (by omega) (by omega) (hG.th (by omega)))
    have HL2 := Lib.hid (fun D' c' W (h : Below w2.heap.size w2 W) hv => lock_any W X D' ms (lkV ms hs (E : Int) (U : Int)) cx c' n (E : Int) (V : Int) (HM.out W h) hok hv (by omega) hll (by unfold I64'; omega) (by omega) (by omega) (hGL.th (by omega)))
    have HU2 := Lib.hid (fun D' c' W (h : Below w2.heap.size w2 W) hv => unlock_any W X D' ms (lkV ms hs (E : Int) (U : Int)) cx c' n (E : Int) (V : Int) (HM.out W h) hok hv (by omega) hll (by unfold I64'; omega) (by omega) (by omega) (hGL.th (by omega)))
    have HF2 := Lib.hid (fun D' c' W (h : Below w2.heap.size w2 W) hv => free_any W X D' ms (lkV ms hs (E : Int) (U : Int)) cx c' n (E : Int) (V : Int) (HM.out W h) hok hv (by omega) hll (by unfold I64'; omega) (by omega) (by omega))
    have HO := Lib.hid (fun hf hab => lk_other hG (e := (E : Int)) (a := (U : Int)) (b := (V : Int)) hf hab)
    unfold LkPost at HLK HL2 HU2
    generalize lkV ms (lkV ms hs (E : Int) (U : Int)) (E : Int) (V : Int) = ls2 at *
    generalize ulV ms (lkV ms hs (E : Int) (U : Int)) (E : Int) (V : Int) = us2 at *
    generalize frV ms (lkV ms hs (E : Int) (U : Int)) (E : Int) (V : Int) = f2 at *
    generalize ulB ms (lkV ms hs (E : Int) (U : Int)) (E : Int) (V : Int) = u2 at *
    generalize lkV ms hs (E : Int) (U : Int) = ls at *
    generalize frV ms hs (E : Int) (U : Int) = f at *
    clear hGL hll hl hnn HM HT hok hG hn
    go_wp2_with fail
    refine (HWE.out _).mono ?_
    rintro e wv ⟨rfl, rfl⟩
    go_wp2_with fail
    refine (HWU.out _).mono ?_
    rintro e wv ⟨rfl, rfl⟩
    go_wp2_with fail
    refine (HWV.out _).mono ?_
    rintro e wv ⟨rfl, rfl⟩
    go_wp2_with fail
    refine (HLK.out _ HBA.out).mono ?_
    rintro e w3 ⟨D3, c3, rfl, hN3, hb3⟩
    have HBN := Lib.hid (below_two HBA.out hb3)
    have HV3 := Lib.hid hN3.v
    clear hN3
    clear hb3 HBA
    have HBA := HBN
    clear HBN
    cases f with
    | false =>
      go_wp2_with fail
      refine (awake8_any _).mono ?_
      rintro e wz ⟨rfl, hbz⟩
      have HBZ := Lib.hid (below_two HB2.out (below_two HBA.out hbz))
      clear hbz HBA
      go_wp2_with fail
      go_ret
      exact ⟨rfl, HBZ.out⟩
    | true =>
      by_cases huv : (U : Int) = (V : Int)
      ·
        have tuv := bT huv
        clear huv
        go_wp2_with fail
        refine (awake8_any _).mono ?_
        rintro e wz ⟨rfl, hbz⟩
        have HBZ := Lib.hid (below_two HB2.out (below_two HBA.out hbz))
        clear hbz HBA
        go_wp2_with fail
        go_ret
        exact ⟨rfl, HBZ.out⟩
      ·
        have tuv := bF huv
        obtain ⟨rfl, rfl⟩ := HO.out rfl huv
        clear huv HO
        go_wp2_with fail
        replace HL2 := Lib.hid (fun W h => HL2.out D3 c3 W h)
        refine (HL2.out _ HBA.out HV3.out).mono ?_
        rintro e w4 ⟨D4, c4, rfl, -, hb4⟩
        have HBN := Lib.hid (below_two HBA.out hb4)
        replace HV3 := Lib.hid (HV3.out.later hb4)
        clear HBA hb4 HL2
        have HBA := HBN
        clear HBN
        go_wp2_with fail
        refine (HU2.out D3 c3 _ HBA.out HV3.out).mono ?_
        rintro e w5 ⟨D5, c5, rfl, -, hb5⟩
        have HBN := Lib.hid (below_two HBA.out hb5)
        replace HV3 := Lib.hid (HV3.out.later hb5)
        clear HBA hb5 HU2
        have HBA := HBN
        clear HBN
        go_wp2_with fail
        refine (HF2.out D3 c3 _ HBA.out HV3.out).mono ?_
        rintro e w6 ⟨rfl, hb6⟩
        have HBN := Lib.hid (below_two HBA.out hb6)
        clear HBA hb6 HF2 HV3
        have HBA := HBN
        clear HBN
        go_wp2_with fail
        refine (awake8_any _).mono ?_
        rintro e wz ⟨rfl, hbz⟩
        have HBZ := Lib.hid (below_two HB2.out (below_two HBA.out hbz))
        clear hbz HBA
        go_wp2_with fail
        go_ret
        exact ⟨rfl, HBZ.out⟩
end Go.Proofs.Ytobpnpkcafacjaa
