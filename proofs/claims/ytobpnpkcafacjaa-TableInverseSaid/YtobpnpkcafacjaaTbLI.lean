/- The walk of TableInverse. -/
import Derived.Test.YtobpnpkcafacjaaTbMk1
namespace Go.Proofs.Ytobpnpkcafacjaa
open Go.RowKit
set_option maxRecDepth 100000

set_option maxHeartbeats 8000000 in
theorem tableInverse_any (xs : List Int) (A : Option Addr) (capA : Nat) (ys : List Int) (B : Option Addr) (capB : Nat) (el t : Int) (w : World) (hR : IntR w A xs) (hmA : xs.length ≤ 9223372036854775807) (hS : IntR w B ys) (hmB : ys.length ≤ 9223372036854775807) (he : I64' el) (ht : I64' t) :
    Calls Try.prog 7 #[.slice A xs.length capA, .slice B ys.length capB, .int .i64 el, .int .i64 t] w fun e w' => e = .returned (.bool true) ∧ Below w.heap.size w w' := by
  have HMX := Lib.hid (mutexes_any xs A capA w hR hmA)
  unfold I64' at he ht
  go_enter Try.func7, Try.ntmps7
  go_wp2_with fail
  refine HMX.out.mono ?_
  rintro e w1 ⟨X, ms, cx, rfl, hM, hok, hcx, hb1⟩
  have HMD := Lib.hid (made_any ys B X capB cx ms w1 (hS.later hb1) hmB hM hok)
  have HB1 := Lib.hid hb1
  have HM1 := Lib.hid hM
  clear hb1 hM HMX
  go_wp2_with fail
  refine HMD.out.mono ?_
  rintro e w2 ⟨D, c, hs, rfl, hN, hG, hb2⟩
  have HB2 := Lib.hid (below_two HB1.out hb2)
  have hM2 := HM1.out.later hb2
  have HM := Lib.hid (fun W (h : Below w2.heap.size w2 W) => hM2.later h)
  have HT := Lib.hid (fun W (h : Below w2.heap.size w2 W) => hN.v.later h)
  have hn := hG.1.symm
  have hE := hok.tE
  have HBA : Hid (Below w2.heap.size w2 w2) := Below.refl _ _
  clear hb2 hM2 hN HB1 HM1 HMD
  generalize hnn : tE ms = n at hn hE ⊢
  by_cases h0 : n = 0
  ·
    subst h0
    go_wp2_with fail
    refine (awake8_any _).mono ?_
    rintro e wz ⟨rfl, hbz⟩
    have HBZ := Lib.hid (below_two HB2.out (below_two HBA.out hbz))
    clear hbz HBA
    go_wp2_with fail
    go_ret
    exact ⟨rfl, HBZ.out⟩
  ·
    have t0 := bF (show (n : Int) ≠ 0 by omega)
    have HWE := Lib.hid (fun W => within_any el (n : Int) W he (by omega) (by omega))
    have hwE := within_lt el n (by omega)
    rw [Int.toNat_natCast] at HWE
    generalize within el n = E at *
    have HWU := Lib.hid (fun W => within_any t 4 W ht (by omega) (by omega))
    have hwU := within_lt t 4 (by omega)
    rw [show (4 : Int).toNat = 4 from rfl] at HWU
    generalize within t 4 = U at *
    have hl : hs.length = tE ms := hG.1
    have hGL := hG.lk (E : Int) (U : Int) (by omega)
    have hll := hGL.1
    have HLK := Lib.hid (fun W (h : Below w2.heap.size w2 W) => lock_any W X D ms hs cx c n (E : Int) (U : Int) (HM.out W h) hok (HT.out W h) hn hl (by unfold I64'; omega) (by omega) (by omega) (hG.th (by omega)))
    have HU2 := Lib.hid (fun D' c' W (h : Below w2.heap.size w2 W) hv => unlock_any W X D' ms (lkV ms hs (E : Int) (U : Int)) cx c' n (E : Int) (U : Int) (HM.out W h) hok hv (by omega) hll (by unfold I64'; omega) (by omega) (by omega) (hGL.th (by omega)))
    have HVD := Lib.hid (fun D' c' W (h : Below w2.heap.size w2 W) hv => valid_any W X D' ms (lkV ms hs (E : Int) (U : Int)) cx c' n 4 (HM.out W h) hok hv (by omega))
    rw [hGL.vd] at HVD
    have HO := Lib.hid (fun hf => lk_ul hG (e := (E : Int)) (t := (U : Int)) hf)
    have HNF : Hid (frV ms hs (E : Int) (U : Int) = false → lkV ms hs (E : Int) (U : Int) = hs) := fun hf => by unfold lkV; rw [hf]; rfl
    have HRS := Lib.hid (fun i hi h1 h2 => lk_rest (ms := ms) (hs := hs) (e := (E : Int)) (t := (U : Int)) i (by omega) hi h1 h2)
    have HSM := Lib.hid (fun W A' B' c1 c2 hA hB => same_any W A' B' hs c1 c2 n n hA hB hn hn (by omega))
    have HLN : Hid ((lkV ms hs (E : Int) (U : Int)).length = n) := hll.trans hnn
    have HNN := Lib.hid hn
    unfold LkPost at HLK HU2
    generalize ulV ms (lkV ms hs (E : Int) (U : Int)) (E : Int) (U : Int) = us2 at *
    generalize ulB ms (lkV ms hs (E : Int) (U : Int)) (E : Int) (U : Int) = u2 at *
    generalize lkV ms hs (E : Int) (U : Int) = ls at *
    generalize frV ms hs (E : Int) (U : Int) = f at *
    clear hGL hll hl hnn HM hok hG hn
    go_wp2_with fail
    refine (HWE.out _).mono ?_
    rintro e wv ⟨rfl, rfl⟩
    go_wp2_with fail
    refine (HWU.out _).mono ?_
    rintro e wv ⟨rfl, rfl⟩
    go_wp2_with fail
    refine (HLK.out _ HBA.out).mono ?_
    rintro e w3 ⟨D3, c3, rfl, hN3, hb3⟩
    have HBN := Lib.hid (below_two HBA.out hb3)
    have HV3 := Lib.hid (fun W (h : Below w3.heap.size w3 W) => hN3.v.later h)
    clear hN3
    clear hb3 HBA
    have HBA := HBN
    clear HBN
    cases f with
    | false =>
      obtain rfl := HNF.out rfl
      go_wp2_with fail
      refine (HSM.out _ _ _ _ _ (HV3.out _ (Below.refl _ _)).r (HT.out _ HBA.out).r).mono ?_
      rintro e w4 ⟨rfl, hb4⟩
      have HBN := Lib.hid (below_two HBA.out hb4)
      clear HBA hb4
      have HBA := HBN
      clear HBN
      go_wp2_with fail
      refine (awake8_any _).mono ?_
      rintro e wz ⟨rfl, hbz⟩
      have HBZ := Lib.hid (below_two HB2.out (below_two HBA.out hbz))
      clear hbz HBA
      go_wp2_with fail
      go_ret
      exact ⟨rfl, HBZ.out⟩
    | true =>
      obtain ⟨hu2, hus⟩ := HO.out rfl
      subst hu2
      rw [hus] at HU2
      clear hus
      have HBW := HBA
      clear HBA
      go_wp2_with fail
      go_loopw [13] (fun i wr => ∃ k : Nat, k ≤ n ∧ i = .int .i64 (k : Int) ∧ Hid (Below w3.heap.size w3 wr)) (fun i _ => n - (intOf i).toNat)
      case atStart => exact ⟨0, Nat.zero_le _, rfl, Below.refl _ _⟩
      case round =>
        obtain ⟨k, hk, rfl, HBR⟩ := hrel
        have HBA := Lib.hid (below_two HBW.out HBR.out)
        by_cases hlt : k < n
        ·
          have i0 : (0 : Int) ≤ (k : Int) := by omega
          have i1 : (k : Int) < (n : Int) := by omega
          by_cases hke : (k : Int) = (E : Int)
          ·
            have tk := nF hke
            obtain rfl : k = E := by omega
            clear hke
            go_wp2_with fail
            go_quiet (fail)
            go_wp2_with fail
            go_roundw
            case rel => exact ⟨k + 1, by omega, by go_num, below_drewN HBR.out _⟩
            case measure => simp [intOf]; omega
          ·
            have tk := nT hke
            have hk1 : k < hs.length := by have := HNN.out; omega
            have hk2 : k < ls.length := by have := HLN.out; omega
            have he3 := HRS.out k hke hk2 hk1
            obtain ⟨b1, off1, rfl, c0, c1⟩ := (HV3.out wr HBR.out).r k hk2
            obtain ⟨b2, off2, rfl, d0, d1⟩ := (HT.out wr HBA.out).r k hk1
            rw [he3] at c0 c1
            generalize hs[k] = y at *
            obtain ⟨o, d⟩ := y
            dsimp only at *
            clear hke he3 hk1 hk2
            go_wp2_with fail
            go_quiet (fail)
            go_wp2_with fail
            go_roundw
            case rel => exact ⟨k + 1, by omega, by go_num, below_drewN HBR.out _⟩
            case measure => simp [intOf]; omega
        ·
          obtain rfl : k = n := by omega
          have i1 : ¬ (k : Int) < (k : Int) := by omega
          go_wp2_with fail
          refine (HU2.out D3 c3 _ HBA.out (HV3.out _ HBR.out)).mono ?_
          rintro e w5 ⟨D5, c5, rfl, hN5, hb5⟩
          have HBN := Lib.hid (below_two HBA.out hb5)
          have HBQ := Lib.hid (below_two HBR.out hb5)
          have HV5 := Lib.hid hN5.v.r
          clear HBA HBR hb5 HU2 hN5
          have HBA := HBN
          clear HBN
          go_wp2_with fail
          refine (HSM.out _ _ _ _ _ HV5.out (HT.out _ HBA.out).r).mono ?_
          rintro e w6 ⟨rfl, hb6⟩
          have HBN := Lib.hid (below_two HBA.out hb6)
          have HBP := Lib.hid (below_two HBQ.out hb6)
          clear HBA HBQ hb6 HV5 HSM
          have HBA := HBN
          clear HBN
          go_wp2_with fail
          refine (HVD.out D3 c3 _ HBA.out (HV3.out _ HBP.out).r).mono ?_
          rintro e w7 ⟨rfl, hb7⟩
          have HBN := Lib.hid (below_two HBA.out hb7)
          clear HBA hb7 HVD HV3
          have HBA := HBN
          clear HBN
          go_wp2_with fail
          refine (awake8_any _).mono ?_
          rintro e wz ⟨rfl, hbz⟩
          have HBZ := Lib.hid (below_two HB2.out (below_two HBA.out hbz))
          clear hbz HBA
          go_wp2_with fail
          go_ret
          exact ⟨rfl, HBZ.out⟩
end Go.Proofs.Ytobpnpkcafacjaa
