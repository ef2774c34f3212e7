/- What Depth of package table and of the reference do. -/
import Derived.Test.YtobpnpkcafacjaaTbRef2
namespace Go.Proofs.Ytobpnpkcafacjaa
open Go.RowKit
set_option maxRecDepth 100000

theorem tAt_nat (hs : List TH) (k : Nat) (hk : k < hs.length) : tAt hs (k : Int) = hs[k] := (tAt_mem (hs := hs) (e := (k : Int)) (by simpa using hk)).2
theorem bOf_at {ms : List TM} {j : Nat} (hj : j < ms.length) : bOf ms (j : Int) = (tB ms j : Int) := by
  unfold bOf
  rw [if_pos (by omega), Int.toNat_natCast]
set_option maxHeartbeats 2000000 in
theorem depth_any (w : World) (A D : Option Addr) (ms : List TM) (hs : List TH) (cap c n : Nat) (m t : Int) (hM : MxR w A ms) (hok : TmOk ms) (hc : ms.length ≤ cap) (hR : TbV w D c hs) (hn : n = hs.length) (hl : hs.length = tE ms) (hm : I64' m) (ht0 : -9223372036854775808 ≤ t) (ht : t ≤ 4611686018427387904) (hd : ThOk 1000000 hs) :
    Calls Try.prog 27 #[.slice A ms.length cap, .slice D n c, .int .i64 m, .int .i64 t] w fun e w' => e = .returned (.int .i64 (dpV ms hs m t)) ∧ Below w.heap.size w w' := by
  have HBA := Lib.hid (base_any w A ms cap m hM hok hc hm)
  by_cases hin : 0 ≤ m ∧ m < (ms.length : Int)
  · obtain ⟨j, rfl⟩ : ∃ j : Nat, m = (j : Int) := ⟨m.toNat, by omega⟩
    have hj : j < ms.length := by omega
    have HV : Hid (dpV ms hs (j : Int) t = pS hs t (tB ms (j + 1)) - pS hs t (tB ms j)) := by show _ = _; unfold dpV; rw [if_pos hin, Int.toNat_natCast]
    rw [bOf_at hj] at HBA
    have hB2 := tB_succ ms j hj
    have hBE := tB_mono ms (j + 1) ms.length hj (Nat.le_refl _)
    have hE : tE ms ≤ 768 := hok.tE
    have hnE : n = tE ms := hn.trans hl
    have hsz := hok.2 j hj
    have HW := Lib.hid (fun s W => width_any s ms[j].re ms[j].sz W hsz)
    have HMX := Lib.hid (fun W (h : Below w.heap.size w W) => (hM.later h) j hj)
    have HT := Lib.hid (fun W (h : Below w.heap.size w W) => (hR.later h).r)
    have HP := Lib.hid (fun a b h => pS_bd hd t a b h)
    have HTA := Lib.hid (fun (k : Nat) (hk : k < hs.length) => tAt_nat hs k hk)
    have HH := Lib.hid (fun (k : Nat) (hk : k < hs.length) W => holds_any hs[k] t W ht ht0)
    have HBD := Lib.hid (fun (k : Nat) (hk : k < hs.length) => hd hs[k] (List.getElem_mem hk))
    have hq : tB ms (j + 1) = tB ms j + ms[j].w := hB2
    have hnl : tB ms j + ms[j].w ≤ n := by unfold tE at hnE; omega
    have hw64 : ms[j].w ≤ 64 := by unfold TM.w; omega
    have hn768 : n ≤ 768 := by omega
    rw [hq] at HV
    have HN := Lib.hid hn
    have i0 : (0 : Int) ≤ (j : Int) := by omega
    have i1 : (j : Int) < (ms.length : Int) := by omega
    have hw : TM.w ⟨ms[j].sz, ms[j].re⟩ = ms[j].w := rfl
    rw [hw] at HW
    clear hM hok hR hn hl hd hin hB2 hBE hE hnE hq hw hsz
    generalize ms[j].w = q at *
    generalize ms[j].sz = z at *
    generalize ms[j].re = re at *
    generalize tB ms j = B at *
    go_enter Try.func27, Try.ntmps27
    go_wp2_with fail
    refine HBA.out.mono ?_
    rintro e w1 ⟨rfl, hb1⟩
    have HB1 := Lib.hid hb1
    have hB0 : ¬ ((B : Int) < 0) := by omega
    clear hb1
    go_wp2_with fail
    go_loopw [10, 11] (fun v i wr => ∃ k : Nat, B ≤ k ∧ k ≤ B + q ∧ i = .int .i64 (k : Int) ∧ Hid (v = .int .i64 (pS hs t k - pS hs t B)) ∧ Hid (Below w.heap.size w wr)) (fun _ i _ => B + q - (intOf i).toNat)
    case atStart => exact ⟨B, Nat.le_refl _, by omega, rfl, by show _ = _; rw [Int.sub_self], HB1⟩
    case round =>
      obtain ⟨k, hk0, hk1, rfl, hv, HB⟩ := hrel
      have hv' := hv.out
      subst hv'
      obtain ⟨b, off, s, rfl, c0, c1, c2⟩ := HMX.out wr HB.out
      have hpb := HP.out B k hk0
      have hx : (B : Int) + (q : Int) ≤ (n : Int) := by omega
      clear hv
      go_wp2_with fail
      refine (HW.out s _).mono ?_
      rintro e w2 ⟨rfl, hb2⟩
      have HB2 := Lib.hid (below_two HB.out hb2)
      clear hb2 c0 c1 c2
      by_cases hlt : k < B + q
      · have hkh : k < hs.length := by have := HN.out; omega
        obtain ⟨b2, off2, rfl, d0, d1⟩ := HT.out w2 HB2.out k hkh
        have hta := HTA.out k hkh
        have HHK := Lib.hid (HH.out k hkh)
        have hbd := HBD.out k hkh
        have HPS : Hid (pS hs t (k + 1) - pS hs t B = (pS hs t k - pS hs t B) + vlV hs[k] t) := by
          show _ = _
          rw [pS_succ, hta]
          omega
        have HVL : Hid (vlV hs[k] t = if hlV hs[k] t = true then hs[k].2 else 0) := rfl
        have k0 : (0 : Int) ≤ (k : Int) := by omega
        have k1 : (k : Int) < (n : Int) := by omega
        have k2 : (k : Int) < (B : Int) + (q : Int) := by omega
        generalize pS hs t k - pS hs t B = S at *
        clear hta
        generalize vlV hs[k] t = vl at *
        generalize hlV hs[k] t = r at *
        generalize hs[k] = h at *
        obtain ⟨o, d⟩ := h
        dsimp only at *
        cases r with
        | true =>
          have hvl := HVL.out
          rw [if_pos rfl] at hvl
          subst hvl
          go_wp2_with fail
          refine (HHK.out _).mono ?_
          rintro e w3 ⟨rfl, hb3⟩
          have HB3 := Lib.hid (below_two HB2.out hb3)
          have d1' := cell_later hb3 d1
          clear hb3 d0 d1 HHK
          go_wp2_with fail
          go_roundw
          case rel => exact ⟨k + 1, by omega, by omega, by go_num, by show _ = _; rw [HPS.out], HB3.out⟩
          case measure => simp [intOf]; omega
        | false =>
          have hvl := HVL.out
          rw [if_neg (by simp)] at hvl
          subst hvl
          go_wp2_with fail
          refine (HHK.out _).mono ?_
          rintro e w3 ⟨rfl, hb3⟩
          have HB3 := Lib.hid (below_two HB2.out hb3)
          clear hb3 d0 d1 HHK
          go_wp2_with fail
          go_roundw
          case rel => exact ⟨k + 1, by omega, by omega, by go_num, by show _ = _; rw [HPS.out, Int.add_zero], HB3.out⟩
          case measure => simp [intOf]; omega
      · obtain rfl : k = B + q := by omega
        generalize pS hs t (B + q) - pS hs t B = S at *
        have k2 : ¬ (((B + q : Nat) : Int) < (B : Int) + (q : Int)) := by omega
        go_wp2_with fail
        go_ret
        exact ⟨by rw [HV.out]; rfl, HB2.out⟩
  · have HV : Hid (dpV ms hs m t = 0) := by show _ = _; unfold dpV; rw [if_neg hin]
    have hb : bOf ms m = -1 := by unfold bOf; rw [if_neg hin]
    rw [hb] at HBA
    clear hM hok hR hn hl hd hin hb
    go_enter Try.func27, Try.ntmps27
    go_wp2_with fail
    refine HBA.out.mono ?_
    rintro e w1 ⟨rfl, hb1⟩
    have HB1 := Lib.hid hb1
    clear hb1
    go_wp2_with fail
    go_ret
    exact ⟨by rw [HV.out]; rfl, HB1.out⟩

set_option maxHeartbeats 2000000 in
theorem refDepth_any (w : World) (A D : Option Addr) (ms : List TM) (hs : List TH) (cap c n : Nat) (m t : Int) (hM : MxR w A ms) (hok : TmOk ms) (hR : TbV w D c hs) (hn : n = hs.length) (hl : hs.length = tE ms) (ht0 : -9223372036854775808 ≤ t) (ht : t ≤ 4611686018427387904) (hd : ThOk 1000000 hs) :
    Calls Try.prog 28 #[.slice A ms.length cap, .slice D n c, .int .i64 m, .int .i64 t] w fun e w' => e = .returned (.int .i64 (dpV ms hs m t)) ∧ Below w.heap.size w w' := by
  have HO := Lib.hid (owners_any w A ms cap hM hok)
  have HV := Lib.hid (qS_eq ms hs m t)
  have hE : tE ms ≤ 768 := hok.tE
  have HT := Lib.hid (fun W (h : Below w.heap.size w W) => (hR.later h).r)
  have HP := Lib.hid (fun a => qS_bd hd ms m t a)
  have HTA := Lib.hid (fun (k : Nat) (hk : k < hs.length) => tAt_nat hs k hk)
  have HBD := Lib.hid (fun (k : Nat) (hk : k < hs.length) => hd hs[k] (List.getElem_mem hk))
  have HL := Lib.hid (tO_len ms ms.length (Nat.le_refl _))
  have HMO := Lib.hid (fun (k : Nat) (hk : k < (tO ms ms.length).length) => mOf_own ms k hk)
  have HLL : Hid ((tO ms ms.length).length = tE ms) := HL.out
  have hnE : n = tE ms := hn.trans hl
  have HN := Lib.hid hn
  generalize tO ms ms.length = O at *
  generalize dpV ms hs m t = R at *
  have HNE := Lib.hid hnE
  clear hM hok hR hn hl hd HL
  generalize tE ms = E at *
  clear hnE
  go_enter Try.func28, Try.ntmps28
  go_wp2_with fail
  refine HO.out.mono ?_
  rintro e w1 ⟨OA, oc, rfl, hr1, hb1⟩
  have HOR := Lib.hid hr1
  have HB := Lib.hid hb1
  have HTR := Lib.hid (HT.out w1 hb1)
  clear hr1 hb1 HO HT
  go_wp2_with fail
  go_loop [9, 11] (fun v i => ∃ k : Nat, k ≤ E ∧ i = .int .i64 (k : Int) ∧ Hid (v = .int .i64 (qS ms hs m t k))) (fun _ i => E - (intOf i).toNat)
  case atStart => exact ⟨0, Nat.zero_le _, rfl, rfl⟩
  case round =>
    obtain ⟨k, hk1, rfl, hv⟩ := hrel
    have hv' := hv.out
    subst hv'
    have hpb := HP.out k
    clear hv
    by_cases hlt : k < E
    · have hkh : k < hs.length := by have := HN.out; have := HNE.out; omega
      have hko : k < O.length := by have := HLL.out; omega
      obtain ⟨b2, off2, rfl, d0, d1⟩ := HTR.out k hkh
      obtain ⟨b3, rfl, o0⟩ := HOR.out k hko
      have hbd := HBD.out k hkh
      have HPS : Hid (qS ms hs m t (k + 1) = qS ms hs m t k + if (O[k] : Int) = m then vlV hs[k] t else 0) := by
        show _ = _
        rw [qS_succ, HMO.out k hko, HTA.out k hkh]
      have HVL : Hid (vlV hs[k] t = if (decide (0 ≤ t) && (hs[k].1 == t + 1)) = true then hs[k].2 else 0) := rfl
      have k0 : (0 : Int) ≤ (k : Int) := by omega
      have k1 : (k : Int) < (n : Int) := by have := HNE.out; omega
      have k2 : (k : Int) < (E : Int) := by omega
      generalize qS ms hs m t k = S at *
      generalize vlV hs[k] t = vl at *
      generalize hs[k] = h at *
      obtain ⟨o, d⟩ := h
      dsimp only at *
      by_cases he : (O[k] : Int) = m
      · have t0 := bT he
        by_cases ho : o = t + 1
        · have t1 := bT ho
          by_cases ht1 : 0 ≤ t
          · have hvl : vl = d := by rw [HVL.out, if_pos (by simp [ht1, ho])]
            subst hvl
            have HPS2 : Hid (qS ms hs m t (k + 1) = S + vl) := by show _ = _; rw [HPS.out, if_pos he]
            subst ho
            clear HPS HVL he
            go_wp2_with fail
            go_round
            case rel => exact ⟨k + 1, by omega, by go_num, by show _ = _; rw [HPS2.out]⟩
            case measure => simp [intOf]; omega
          · have hvl : vl = 0 := by rw [HVL.out, if_neg (by simp [ht1])]
            subst hvl
            have HPS2 : Hid (qS ms hs m t (k + 1) = S) := by show _ = _; rw [HPS.out, if_pos he, Int.add_zero]
            subst ho
            clear HPS HVL he
            go_wp2_with fail
            go_round
            case rel => exact ⟨k + 1, by omega, by go_num, by show _ = _; rw [HPS2.out]⟩
            case measure => simp [intOf]; omega
        · have t1 := bF ho
          have hvl : vl = 0 := by rw [HVL.out, if_neg (by simp [ho])]
          subst hvl
          have HPS2 : Hid (qS ms hs m t (k + 1) = S) := by show _ = _; rw [HPS.out, if_pos he, Int.add_zero]
          clear HPS HVL he ho
          go_wp2_with fail
          go_round
          case rel => exact ⟨k + 1, by omega, by go_num, by show _ = _; rw [HPS2.out]⟩
          case measure => simp [intOf]; omega
      · have t0 := bF he
        have HPS2 : Hid (qS ms hs m t (k + 1) = S) := by show _ = _; rw [HPS.out, if_neg he, Int.add_zero]
        clear HPS HVL he
        go_wp2_with fail
        go_round
        case rel => exact ⟨k + 1, by omega, by go_num, by show _ = _; rw [HPS2.out]⟩
        case measure => simp [intOf]; omega
    · obtain rfl : k = E := by omega
      go_wp2_with fail
      go_ret
      exact ⟨by rw [← HV.out]; rfl, HB.out⟩
end Go.Proofs.Ytobpnpkcafacjaa
