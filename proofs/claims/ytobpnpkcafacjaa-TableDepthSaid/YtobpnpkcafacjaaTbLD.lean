/- The walk of TableDepth. -/
import Derived.Test.YtobpnpkcafacjaaTbMk1
namespace Go.Proofs.Ytobpnpkcafacjaa
open Go.RowKit
set_option maxRecDepth 100000

theorem TG.lkth {ms : List TM} {k : Int} {hs : List TH} (h : TG ms k hs) (e t : Int) (ht : t ≤ 4611686018427387904) (hk : k ≤ 60) : ThOk 1000000 (lkV ms hs e t) := by
  unfold lkV
  split
  · rename_i hf
    obtain ⟨f0, f1, f2⟩ := fr_facts hf
    obtain ⟨h1, h2, h3, h4, h5⟩ := h.at f1
    obtain ⟨o0, o1, o2, -⟩ := ok_facts h3
    intro x hx
    rcases mem_set_of hx with hx | rfl
    · exact h.th (d := 1000000) (by omega) x hx
    · dsimp only; omega
  · exact h.th (by omega)
theorem dpV_bd {ms : List TM} {hs : List TH} (hok : TmOk ms) (h : ThOk 1000000 hs) (m t : Int) : 0 ≤ dpV ms hs m t ∧ dpV ms hs m t ≤ 1000000000 := by
  unfold dpV
  split
  · rename_i hm
    have h1 := pS_bd h t (tB ms m.toNat) (tB ms (m.toNat + 1)) (tB_mono ms _ _ (by omega) (by omega))
    have h2 := tB_mono ms (m.toNat + 1) ms.length (by omega) (Nat.le_refl _)
    have h3 := hok.tE
    unfold tE at h3
    omega
  · omega

set_option maxHeartbeats 8000000 in
theorem tableDepth_any (xs : List Int) (A : Option Addr) (capA : Nat) (ys : List Int) (B : Option Addr) (capB : Nat) (m t el : Int) (w : World) (hR : IntR w A xs) (hmA : xs.length ≤ 9223372036854775807) (hS : IntR w B ys) (hmB : ys.length ≤ 9223372036854775807) (hm : I64' m) (ht : I64' t) (he : I64' el) :
    Calls Try.prog 5 #[.slice A xs.length capA, .slice B ys.length capB, .int .i64 m, .int .i64 t, .int .i64 el] w fun e w' => e = .returned (.bool true) ∧ Below w.heap.size w w' := by
  have HMX := Lib.hid (mutexes_any xs A capA w hR hmA)
  unfold I64' at hm ht he
  go_enter Try.func5, Try.ntmps5
  go_wp2_with fail
  refine HMX.out.mono ?_
  rintro e w1 ⟨X, ms, cx, rfl, hM, hok, hcx, hb1⟩
  have HMD := Lib.hid (made_any ys B X capB cx ms w1 (hS.later hb1) hmB hM hok)
  have HB1 := Lib.hid hb1
  have HM1 := Lib.hid hM
  clear hb1 hM HMX
  go_wp2_with fail
  refine HMD.out.mono ?_
  rintro e w2 ⟨D, c, hs, rfl, hN, hG, hb2⟩
  have HB2 := Lib.hid (below_two HB1.out hb2)
  have hM2 := HM1.out.later hb2
  have HM := Lib.hid (fun W (h : Below w2.heap.size w2 W) => hM2.later h)
  have HT := Lib.hid (fun W (h : Below w2.heap.size w2 W) => hN.v.later h)
  have hn := hG.1.symm
  have hE := hok.tE
  have HBA : Hid (Below w2.heap.size w2 w2) := Below.refl _ _
  clear hb2 hM2 hN HB1 HM1 HMD
  generalize hnn : tE ms = n at hn hE ⊢
  have HWM := Lib.hid (fun W => within_any m 14 W hm (by omega) (by omega))
  have hwM := within_lt m 14 (by omega)
  rw [show (14 : Int).toNat = 14 from rfl] at HWM
  generalize within m 14 = M at *
  have HWU := Lib.hid (fun W => within_any t 6 W ht (by omega) (by omega))
  have hwU := within_lt t 6 (by omega)
  rw [show (6 : Int).toNat = 6 from rfl] at HWU
  generalize within t 6 = U at *
  have hl : hs.length = tE ms := hG.1
  have HLE := Lib.hid (fun el => (lkV_len ms hs el ((U : Int) - 1)).trans hl)
  have HDK := Lib.hid (fun W (h : Below w2.heap.size w2 W) => depth_any W X D ms hs cx c n ((M : Int) - 1) ((U : Int) - 1) (HM.out W h) hok hcx (HT.out W h) hn hl (by unfold I64'; omega) (by omega) (by omega) (hG.th (by omega)))
  have HDR := Lib.hid (fun W (h : Below w2.heap.size w2 W) => refDepth_any W X D ms hs cx c n ((M : Int) - 1) ((U : Int) - 1) (HM.out W h) hok (HT.out W h) hn hl (by omega) (by omega) (hG.th (by omega)))
  have HLK := Lib.hid (fun el (he : I64' el) W (h : Below w2.heap.size w2 W) => lock_any W X D ms hs cx c n el ((U : Int) - 1) (HM.out W h) hok (HT.out W h) hn hl he (by omega) (by omega) (hG.th (by omega)))
  have HMO := Lib.hid (fun el (he : I64' el) W (h : Below w2.heap.size w2 W) => mutexOf_any W X ms cx el (HM.out W h) hok he)
  have HDU := Lib.hid (fun el D' c' W (h : Below w2.heap.size w2 W) hv => depth_any W X D' ms (lkV ms hs el ((U : Int) - 1)) cx c' n ((M : Int) - 1) ((U : Int) - 1) (HM.out W h) hok hcx hv (by have := HLE.out el; omega) (HLE.out el) (by unfold I64'; omega) (by omega) (by omega) (hG.lkth el _ (by omega) (by omega)))
  have HDL := Lib.hid (fun el => dp_lk hG el ((U : Int) - 1) ((M : Int) - 1))
  have hdb := dpV_bd hok (hG.th (d := 1000000) (by omega)) ((M : Int) - 1) ((U : Int) - 1)
  unfold moreV at HDL
  unfold LkPost at HLK
  unfold I64' at HLK HMO
  generalize dpV ms hs ((M : Int) - 1) ((U : Int) - 1) = d at *
  clear hl HLE hnn HM HT hok hG hn hcx
  by_cases h1n : 1 < (n : Int)
  ·
    have HWE := Lib.hid (fun W => within_any el (n : Int) W he (by omega) (by omega))
    have hwE := within_lt el n (by omega)
    rw [Int.toNat_natCast] at HWE
    generalize within el n = E at *
    replace HLK := Lib.hid (HLK.out (E : Int) (by omega))
    replace HMO := Lib.hid (HMO.out (E : Int) (by omega))
    replace HDU := Lib.hid (HDU.out (E : Int))
    replace HDL := Lib.hid (HDL.out (E : Int))
    generalize mOf ms (E : Int) = mo at *
    generalize frV ms hs (E : Int) ((U : Int) - 1) = f at *
    rw [HDL.out] at HDU
    generalize lkV ms hs (E : Int) ((U : Int) - 1) = ls at *
    clear HDL
    go_wp2_with fail
    refine (HWM.out _).mono ?_
    rintro e wv ⟨rfl, rfl⟩
    go_wp2_with fail
    refine (HWU.out _).mono ?_
    rintro e wv ⟨rfl, rfl⟩
    go_wp2_with fail
    refine (HWE.out _).mono ?_
    rintro e wv ⟨rfl, rfl⟩
    go_wp2_with fail
    refine (HDK.out _ HBA.out).mono ?_
    rintro e w3 ⟨rfl, hb3⟩
    have HBN := Lib.hid (below_two HBA.out hb3)
    clear hb3 HBA
    have HBA := HBN
    clear HBN
    go_wp2_with fail
    refine (HDR.out _ HBA.out).mono ?_
    rintro e w4 ⟨rfl, hb4⟩
    have HBN := Lib.hid (below_two HBA.out hb4)
    clear hb4 HBA
    have HBA := HBN
    clear HBN
    go_wp2_with fail
    refine (HLK.out _ HBA.out).mono ?_
    rintro e w5 ⟨D3, c3, rfl, hN5, hb5⟩
    have HBN := Lib.hid (below_two HBA.out hb5)
    have HV5 := Lib.hid (fun W (h : Below w5.heap.size w5 W) => hN5.v.later h)
    clear hN5
    clear hb5 HBA
    have HBA := HBN
    clear HBN
    have HBW := HBA
    have HBR : Hid (Below w5.heap.size w5 w5) := Below.refl _ _
    cases f with
    | false =>
      rw [if_neg (fun h => by cases h.1)] at HDU
      go_wp2_with fail
      refine (HDU.out D3 c3 _ HBA.out (HV5.out _ HBR.out)).mono ?_
      rintro e wa ⟨rfl, hba⟩
      have HBN := Lib.hid (below_two HBA.out hba)
      clear HBA hba
      have HBA := HBN
      clear HBN
      go_wp2_with fail
      refine (HDK.out _ HBA.out).mono ?_
      rintro e wb ⟨rfl, hbb⟩
      have HBN := Lib.hid (below_two HBA.out hbb)
      clear HBA hbb
      have HBA := HBN
      clear HBN
      go_wp2_with fail
      refine (awake8_any _).mono ?_
      rintro e wz ⟨rfl, hbz⟩
      have HBZ := Lib.hid (below_two HB2.out (below_two HBA.out hbz))
      clear hbz HBA
      go_wp2_with fail
      go_ret
      exact ⟨rfl, HBZ.out⟩
    | true =>
      by_cases hm0 : 0 ≤ (M : Int) - 1
      ·
        go_wp2_with fail
        refine (HMO.out _ HBA.out).mono ?_
        rintro e w6 ⟨rfl, hb6⟩
        have HBN := Lib.hid (below_two HBA.out hb6)
        have HBQ := Lib.hid (below_two HBR.out hb6)
        clear HBA HBR hb6 HMO
        have HBA := HBN
        clear HBN
        by_cases hq : mo = (M : Int) - 1
        ·
          rw [if_pos ⟨by trivial, hm0, hq⟩] at HDU
          have tq := bT hq
          clear hq
          go_wp2_with fail
          refine (HDU.out D3 c3 _ HBA.out (HV5.out _ HBQ.out)).mono ?_
          rintro e wa ⟨rfl, hba⟩
          have HBN := Lib.hid (below_two HBA.out hba)
          clear HBA hba
          have HBA := HBN
          clear HBN
          go_wp2_with fail
          refine (HDK.out _ HBA.out).mono ?_
          rintro e wb ⟨rfl, hbb⟩
          have HBN := Lib.hid (below_two HBA.out hbb)
          clear HBA hbb
          have HBA := HBN
          clear HBN
          go_wp2_with fail
          refine (awake8_any _).mono ?_
          rintro e wz ⟨rfl, hbz⟩
          have HBZ := Lib.hid (below_two HB2.out (below_two HBA.out hbz))
          clear hbz HBA
          go_wp2_with fail
          go_ret
          exact ⟨rfl, HBZ.out⟩
        ·
          rw [if_neg (fun h => hq h.2.2)] at HDU
          have tq := bF hq
          clear hq
          go_wp2_with fail
          refine (HDU.out D3 c3 _ HBA.out (HV5.out _ HBQ.out)).mono ?_
          rintro e wa ⟨rfl, hba⟩
          have HBN := Lib.hid (below_two HBA.out hba)
          clear HBA hba
          have HBA := HBN
          clear HBN
          go_wp2_with fail
          refine (HDK.out _ HBA.out).mono ?_
          rintro e wb ⟨rfl, hbb⟩
          have HBN := Lib.hid (below_two HBA.out hbb)
          clear HBA hbb
          have HBA := HBN
          clear HBN
          go_wp2_with fail
          refine (awake8_any _).mono ?_
          rintro e wz ⟨rfl, hbz⟩
          have HBZ := Lib.hid (below_two HB2.out (below_two HBA.out hbz))
          clear hbz HBA
          go_wp2_with fail
          go_ret
          exact ⟨rfl, HBZ.out⟩
      ·
        rw [if_neg (fun h => hm0 h.2.1)] at HDU
        go_wp2_with fail
        refine (HDU.out D3 c3 _ HBA.out (HV5.out _ HBR.out)).mono ?_
        rintro e wa ⟨rfl, hba⟩
        have HBN := Lib.hid (below_two HBA.out hba)
        clear HBA hba
        have HBA := HBN
        clear HBN
        go_wp2_with fail
        refine (HDK.out _ HBA.out).mono ?_
        rintro e wb ⟨rfl, hbb⟩
        have HBN := Lib.hid (below_two HBA.out hbb)
        clear HBA hbb
        have HBA := HBN
        clear HBN
        go_wp2_with fail
        refine (awake8_any _).mono ?_
        rintro e wz ⟨rfl, hbz⟩
        have HBZ := Lib.hid (below_two HB2.out (below_two HBA.out hbz))
        clear hbz HBA
        go_wp2_with fail
        go_ret
        exact ⟨rfl, HBZ.out⟩
  ·
    have HWE := Lib.hid (fun W => within_any el 1 W he (by omega) (by omega))
    have hwE := within_lt el 1 (by omega)
    rw [show (1 : Int).toNat = 1 from rfl] at HWE
    generalize within el 1 = E at *
    replace HLK := Lib.hid (HLK.out (E : Int) (by omega))
    replace HMO := Lib.hid (HMO.out (E : Int) (by omega))
    replace HDU := Lib.hid (HDU.out (E : Int))
    replace HDL := Lib.hid (HDL.out (E : Int))
    generalize mOf ms (E : Int) = mo at *
    generalize frV ms hs (E : Int) ((U : Int) - 1) = f at *
    rw [HDL.out] at HDU
    generalize lkV ms hs (E : Int) ((U : Int) - 1) = ls at *
    clear HDL
    go_wp2_with fail
    refine (HWM.out _).mono ?_
    rintro e wv ⟨rfl, rfl⟩
    go_wp2_with fail
    refine (HWU.out _).mono ?_
    rintro e wv ⟨rfl, rfl⟩
    go_wp2_with fail
    refine (HWE.out _).mono ?_
    rintro e wv ⟨rfl, rfl⟩
    go_wp2_with fail
    refine (HDK.out _ HBA.out).mono ?_
    rintro e w3 ⟨rfl, hb3⟩
    have HBN := Lib.hid (below_two HBA.out hb3)
    clear hb3 HBA
    have HBA := HBN
    clear HBN
    go_wp2_with fail
    refine (HDR.out _ HBA.out).mono ?_
    rintro e w4 ⟨rfl, hb4⟩
    have HBN := Lib.hid (below_two HBA.out hb4)
    clear hb4 HBA
    have HBA := HBN
    clear HBN
    go_wp2_with fail
    refine (HLK.out _ HBA.out).mono ?_
    rintro e w5 ⟨D3, c3, rfl, hN5, hb5⟩
    have HBN := Lib.hid (below_two HBA.out hb5)
    have HV5 := Lib.hid (fun W (h : Below w5.heap.size w5 W) => hN5.v.later h)
    clear hN5
    clear hb5 HBA
    have HBA := HBN
    clear HBN
    have HBW := HBA
    have HBR : Hid (Below w5.heap.size w5 w5) := Below.refl _ _
    cases f with
    | false =>
      rw [if_neg (fun h => by cases h.1)] at HDU
      go_wp2_with fail
      refine (HDU.out D3 c3 _ HBA.out (HV5.out _ HBR.out)).mono ?_
      rintro e wa ⟨rfl, hba⟩
      have HBN := Lib.hid (below_two HBA.out hba)
      clear HBA hba
      have HBA := HBN
      clear HBN
      go_wp2_with fail
      refine (HDK.out _ HBA.out).mono ?_
      rintro e wb ⟨rfl, hbb⟩
      have HBN := Lib.hid (below_two HBA.out hbb)
      clear HBA hbb
      have HBA := HBN
      clear HBN
      go_wp2_with fail
      refine (awake8_any _).mono ?_
      rintro e wz ⟨rfl, hbz⟩
      have HBZ := Lib.hid (below_two HB2.out (below_two HBA.out hbz))
      clear hbz HBA
      go_wp2_with fail
      go_ret
      exact ⟨rfl, HBZ.out⟩
    | true =>
      by_cases hm0 : 0 ≤ (M : Int) - 1
      ·
        go_wp2_with fail
        refine (HMO.out _ HBA.out).mono ?_
        rintro e w6 ⟨rfl, hb6⟩
        have HBN := Lib.hid (below_two HBA.out hb6)
        have HBQ := Lib.hid (below_two HBR.out hb6)
        clear HBA HBR hb6 HMO
        have HBA := HBN
        clear HBN
        by_cases hq : mo = (M : Int) - 1
        ·
          rw [if_pos ⟨by trivial, hm0, hq⟩] at HDU
          have tq := bT hq
          clear hq
          go_wp2_with fail
          refine (HDU.out D3 c3 _ HBA.out (HV5.out _ HBQ.out)).mono ?_
          rintro e wa ⟨rfl, hba⟩
          have HBN := Lib.hid (below_two HBA.out hba)
          clear HBA hba
          have HBA := HBN
          clear HBN
          go_wp2_with fail
          refine (HDK.out _ HBA.out).mono ?_
          rintro e wb ⟨rfl, hbb⟩
          have HBN := Lib.hid (below_two HBA.out hbb)
          clear HBA hbb
          have HBA := HBN
          clear HBN
          go_wp2_with fail
          refine (awake8_any _).mono ?_
          rintro e wz ⟨rfl, hbz⟩
          have HBZ := Lib.hid (below_two HB2.out (below_two HBA.out hbz))
          clear hbz HBA
          go_wp2_with fail
          go_ret
          exact ⟨rfl, HBZ.out⟩
        ·
          rw [if_neg (fun h => hq h.2.2)] at HDU
          have tq := bF hq
          clear hq
          go_wp2_with fail
          refine (HDU.out D3 c3 _ HBA.out (HV5.out _ HBQ.out)).mono ?_
          rintro e wa ⟨rfl, hba⟩
          have HBN := Lib.hid (below_two HBA.out hba)
          clear HBA hba
          have HBA := HBN
          clear HBN
          go_wp2_with fail
          refine (HDK.out _ HBA.out).mono ?_
          rintro e wb ⟨rfl, hbb⟩
          have HBN := Lib.hid (below_two HBA.out hbb)
          clear HBA hbb
          have HBA := HBN
          clear HBN
          go_wp2_with fail
          refine (awake8_any _).mono ?_
          rintro e wz ⟨rfl, hbz⟩
          have HBZ := Lib.hid (below_two HB2.out (below_two HBA.out hbz))
          clear hbz HBA
          go_wp2_with fail
          go_ret
          exact ⟨rfl, HBZ.out⟩
      ·
        rw [if_neg (fun h => hm0 h.2.1)] at HDU
        go_wp2_with fail
        refine (HDU.out D3 c3 _ HBA.out (HV5.out _ HBR.out)).mono ?_
        rintro e wa ⟨rfl, hba⟩
        have HBN := Lib.hid (below_two HBA.out hba)
        clear HBA hba
        have HBA := HBN
        clear HBN
        go_wp2_with fail
        refine (HDK.out _ HBA.out).mono ?_
        rintro e wb ⟨rfl, hbb⟩
        have HBN := Lib.hid (below_two HBA.out hbb)
        clear HBA hbb
        have HBA := HBN
        clear HBN
        go_wp2_with fail
        refine (awake8_any _).mono ?_
        rintro e wz ⟨rfl, hbz⟩
        have HBZ := Lib.hid (below_two HB2.out (below_two HBA.out hbz))
        clear hbz HBA
        go_wp2_with fail
        go_ret
        exact ⟨rfl, HBZ.out⟩
end Go.Proofs.Ytobpnpkcafacjaa
