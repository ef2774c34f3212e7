/- What the reference's Ways does: the matrix of the paths. -/
import Derived.Test.YtnofcanboaaejaaDoorScPairs
namespace Go.Proofs.YtnofcanboaaejaaDoor
open Go.RowKit
set_option maxRecDepth 100000

set_option maxHeartbeats 1000000 in
theorem ways_any (w : World) (n : Int) (A : Option Addr) (P : List (List Int)) (ca : Nat) (hA : LiR w A P) (hl : P.length ≤ 1000) :
    Calls Tryd.prog 19 #[.int .i64 n, .slice A P.length ca] w fun e w' => e = .returned (.slice (some ⟨w.heap.size, 0, none⟩) (clV n) (clV n)) ∧ MxM w' w.heap.size (clV n) (Sc.rch (clV n) P) ∧ Below w.heap.size w w' ∧ w'.heap.size = w.heap.size + 1 + clV n := by
  have HA := Lib.hid (fun W (h : Below w.heap.size w W) => hA.later h)
  have HN := Lib.hid (fun W => nodes_any n W)
  have hN := clV_le n
  generalize clV n = N at *
  clear hA
  go_enter Tryd.func19, Tryd.ntmps19
  go_wp2_with fail
  refine (HN.out _).mono ?_
  rintro e w1 ⟨rfl, rfl⟩
  clear HN
  generalize hH : w.heap.size = H at *
  have HH := Lib.hid hH
  go_wp2_with (refine wpList_make_one (.slice none 0 0) 24 Tryd.underlying33 Tryd.infoBs (by omega) rfl _ rfl _ _ rfl N rfl rfl (by omega) H hH ?_; intro w2 hO2 hC2 hB2 hs2)
  clear hH hO2
  have HM0 : Hid (MxB w2 H N 0) := ⟨fun i hi => by rw [if_neg (Nat.not_lt_zero _)]; exact hC2 i hi, fun i hi => absurd hi (Nat.not_lt_zero _)⟩
  have HB2 : Hid (Below H w w2) := HH.out ▸ hB2
  have HS2 := Lib.hid hs2
  clear hC2 hB2 hs2
  go_wp2_with fail
  go_loopw [6] (fun i wr => ∃ k : Nat, k ≤ N ∧ i = .int .i64 (k : Int) ∧ Hid (MxB wr H N k) ∧ Hid (Below H w wr) ∧ Hid (wr.heap.size = H + 1 + k)) (fun i _ => N - (intOf i).toNat)
  case atStart => exact ⟨0, Nat.zero_le _, rfl, HM0, HB2, HS2⟩
  case round =>
    obtain ⟨k, hk, rfl, HM, HB, HS⟩ := hrel
    by_cases hlt : k < N
    · have g0 : (k : Int) < (N : Int) := by omega
      have g1 : (0 : Int) ≤ (k : Int) := by omega
      have HSH := HS.out
      have HMO := Lib.hid (fun W (h : Below wr.heap.size wr W) => HM.out.open hlt h)
      go_wp2_with (refine wpList_make_one (.bool false) 1 Tryd.underlying35 Tryd.infoB (by omega) rfl _ rfl _ _ rfl N rfl rfl (by omega) (H + 1 + k) HSH ?_; intro w3 hO3 hC3 hB3 hs3; obtain ⟨c0, f0⟩ := HMO.out w3 hB3)
      have HM3 := Lib.hid (HM.out.next hlt hB3 HSH hC3)
      have HB3 : Hid (Below H w (w3.setCell ⟨H, k, none⟩ (.slice (some ⟨H + 1 + k, 0, none⟩) N N))) := (HB.out.trans (hB3.mono (by omega))).setCell (Nat.le_refl _) _
      have HS3 : Hid ((w3.setCell ⟨H, k, none⟩ (.slice (some ⟨H + 1 + k, 0, none⟩) N N)).heap.size = H + 1 + (k + 1)) := by show _ = _; rw [World.size_setCell]; omega
      clear hO3 hC3 hB3 hs3 c0 f0
      go_wp2_with fail
      go_roundw
      case rel => exact ⟨k + 1, hlt, by go_num, HM3.out, HB3.out, HS3.out⟩
      case measure => simp [intOf]; omega
    · obtain rfl : k = N := by omega
      have g0 : ¬ (k : Int) < (k : Int) := by omega
      have HM2 : Hid (MxM wr H k (Sc.edM k P 0)) := by show MxM _ _ _ _; rw [Sc.edM_zero]; exact HM.out.done
      have HSZ : Hid (wr.heap.size = H + 1 + k) := HS
      clear HM HS hlt hk HM0 HB2 HS2
      generalize wr = wa at *
      go_wp2_with fail
      go_loopw [7] (fun i wr => ∃ j : Nat, j ≤ P.length ∧ i = .int .i64 (j : Int) ∧ Hid (MxM wr H k (Sc.edM k P j)) ∧ Hid (Below H w wr) ∧ Hid (wr.heap.size = H + 1 + k)) (fun i _ => P.length - (intOf i).toNat)
      case atStart => exact ⟨0, Nat.zero_le _, rfl, HM2, HB, HSZ⟩
      case round =>
        clear HM2 HB HSZ
        obtain ⟨j, hj, rfl, HM, HB, HS⟩ := hrel
        by_cases hlt : j < P.length
        · have g0 : (j : Int) < (P.length : Int) := by omega
          have g1 : (0 : Int) ≤ (j : Int) := by omega
          obtain ⟨b, off, Ai, ci, rfl, c0, r0⟩ := HA.out wr (HH.out ▸ HB.out) j hlt
          have HAR := Lib.hid (arrow_any wr k Ai P[j] ci r0)
          cases hv : Sc.arr k P[j] with
          | false =>
            rw [hv] at HAR
            have HMS : Hid (MxM wr H k (Sc.edM k P (j + 1))) := by show MxM _ _ _ _; rw [Sc.edM_skip hlt hv]; exact HM.out
            clear HM hv r0
            go_wp2_with fail
            refine HAR.out.mono ?_
            rintro e w4 ⟨rfl, rfl⟩
            go_wp2_with fail
            go_roundw
            case rel => exact ⟨j + 1, hlt, by go_num, HMS.out, HB.out, HS.out⟩
            case measure => simp [intOf]; omega
          | true =>
            rw [hv] at HAR
            obtain ⟨x, y, hxy, hx, hy⟩ := Sc.arr_some hv
            have HMS : Hid (MxM (wr.drew.setCell ⟨H + 1 + x, y, none⟩ (.bool true)) H k (Sc.edM k P (j + 1))) := by show MxM _ _ _ _; rw [Sc.edM_put hlt hx hy hxy]; exact (HM.out.later (sc_drewN (Below.refl _ _) 1)).put hx hy true
            have HBS : Hid (Below H w (wr.drew.setCell ⟨H + 1 + x, y, none⟩ (.bool true))) := (sc_drewN HB.out 1).setCell (by show H ≤ H + 1 + x; omega) _
            have HSS : Hid ((wr.drew.setCell ⟨H + 1 + x, y, none⟩ (.bool true)).heap.size = H + 1 + k) := by show _ = _; rw [World.size_setCell]; exact HS.out
            clear hv
            generalize P[j] = p at *
            subst hxy
            obtain ⟨b1, off1, e1, d0, -⟩ := r0 0 (by simp)
            obtain ⟨b2, off2, e2, d1, -⟩ := r0 1 (by simp)
            rw [e1] at e2
            injection e2 with e2
            injection e2 with e2 e3
            subst e1 e2 e3
            simp only [List.getElem_cons_zero, List.getElem_cons_succ, Nat.add_zero] at d0 d1
            have m0 := HM.out.row x hx
            obtain ⟨m1, m2⟩ := HM.out.cel x hx y hy
            have g2 : (x : Int) < (k : Int) := by omega
            have g3 : (y : Int) < (k : Int) := by omega
            have g4 : (0 : Int) ≤ (x : Int) := by omega
            have g5 : (0 : Int) ≤ (y : Int) := by omega
            clear HM r0 HB HS
            simp only [List.length_cons, List.length_nil] at c0 HAR
            go_wp2_with fail
            refine HAR.out.mono ?_
            rintro e w4 ⟨rfl, rfl⟩
            go_wp2_with fail
            go_region
            go_wp2_with fail
            go_roundw
            case rel => exact ⟨j + 1, hlt, by go_num, HMS.out, HBS.out, HSS.out⟩
            case measure => simp [intOf]; omega
        · obtain rfl : j = P.length := by omega
          have g0 : ¬ (P.length : Int) < (P.length : Int) := by omega
          have HWR : Hid (Sc.Wr k P 0 0 0 (Sc.edM k P P.length)) := Sc.edM_start k P (Nat.le_refl _)
          have HM2 := HM
          have HB2 := HB
          have HS2 := HS
          clear HM HB HS hlt hj HA
          generalize Sc.edM k P P.length = M0 at *
          generalize wr = wb at *
          go_wp2_with fail
          go_loopw [8] (fun v wr => ∃ (q : Nat) (M : Nat → Nat → Bool), q ≤ k ∧ v = .int .i64 (q : Int) ∧ Hid (MxM wr H k M) ∧ Hid (Sc.Wr k P q 0 0 M) ∧ Hid (Below H w wr) ∧ Hid (wr.heap.size = H + 1 + k)) (fun v _ => k - (intOf v).toNat)
          case atStart => exact ⟨0, M0, Nat.zero_le _, rfl, HM2, HWR, HB2, HS2⟩
          case round =>
            clear HM2 HWR HB2 HS2
            obtain ⟨q, M, hq, rfl, HM, HWR, HB, HS⟩ := hrel
            by_cases hql : q < k
            · have gq : (q : Int) < (k : Int) := by omega
              have gq0 : (0 : Int) ≤ (q : Int) := by omega
              go_wp2_with fail
              go_loopw [9] (fun v wr => ∃ (i : Nat) (M : Nat → Nat → Bool), i ≤ k ∧ v = .int .i64 (i : Int) ∧ Hid (MxM wr H k M) ∧ Hid (Sc.Wr k P q i 0 M) ∧ Hid (Below H w wr) ∧ Hid (wr.heap.size = H + 1 + k)) (fun v _ => k - (intOf v).toNat)
              case atStart => exact ⟨0, M, Nat.zero_le _, rfl, HM, HWR, HB, HS⟩
              case round =>
                clear HM HWR HB HS
                clear M
                obtain ⟨i, M, hi, rfl, HM, HWR, HB, HS⟩ := hrel
                by_cases hil : i < k
                · have gi : (i : Int) < (k : Int) := by omega
                  have gi0 : (0 : Int) ≤ (i : Int) := by omega
                  go_wp2_with fail
                  go_loopw [10] (fun v wr => ∃ (j : Nat) (M : Nat → Nat → Bool), j ≤ k ∧ v = .int .i64 (j : Int) ∧ Hid (MxM wr H k M) ∧ Hid (Sc.Wr k P q i j M) ∧ Hid (Below H w wr) ∧ Hid (wr.heap.size = H + 1 + k)) (fun v _ => k - (intOf v).toNat)
                  case atStart => exact ⟨0, M, Nat.zero_le _, rfl, HM, HWR, HB, HS⟩
                  case round =>
                    clear HM HWR HB HS
                    clear M
                    obtain ⟨j, M, hj0, rfl, HM, HWR, HB, HS⟩ := hrel
                    have hi' := hi
                    clear hi
                    have hi := hil
                    by_cases hj : j < k
                    · have gj : (j : Int) < (k : Int) := by omega
                      have gj0 : (0 : Int) ≤ (j : Int) := by omega
                      have HN := Lib.hid (HWR.out.next hql hi hj)
                      have m0 := HM.out.row i hi
                      have m1 := HM.out.row q hql
                      obtain ⟨n0, nf⟩ := HM.out.cel i hi j hj
                      have n1 := HM.out.cell hi hql
                      have n2 := HM.out.cell hql hj
                      clear HWR
                      cases h1 : M i j with
                      | true =>
                        rw [h1] at n0
                        have HN2 : Hid (Sc.Wr k P q i (j + 1) (Sc.put M i j true)) := by have := HN.out; rw [h1, Bool.true_or] at this; exact this
                        clear HN h1 n1 n2 m1
                        have HMS : Hid (MxM (wr.drew.setCell ⟨H + 1 + i, j, none⟩ (.bool true)) H k (Sc.put M i j true)) := (HM.out.later (sc_drewN (Below.refl _ _) 1)).put hi hj true
                        have HBS : Hid (Below H w (wr.drew.setCell ⟨H + 1 + i, j, none⟩ (.bool true))) := (sc_drewN HB.out 1).setCell (by show H ≤ H + 1 + i; omega) _
                        have HSS : Hid ((wr.drew.setCell ⟨H + 1 + i, j, none⟩ (.bool true)).heap.size = H + 1 + k) := by show _ = _; rw [World.size_setCell]; exact HS.out
                        clear HM HB HS
                        go_wp2_with fail
                        go_region
                        all_goals
                          go_wp2_with fail
                          go_roundw
                          case rel => exact ⟨j + 1, Sc.put M i j true, hj, by go_num, HMS.out, HN2.out, HBS.out, HSS.out⟩
                          case measure => simp [intOf]; omega
                      | false =>
                        rw [h1] at n0
                        cases h2 : M i q with
                        | false =>
                          rw [h2] at n1
                          have HN2 : Hid (Sc.Wr k P q i (j + 1) (Sc.put M i j false)) := by have := HN.out; rw [h1, h2, Bool.false_or, Bool.false_and] at this; exact this
                          clear HN h1 h2 n2 m1
                          have HMS : Hid (MxM (wr.drew.setCell ⟨H + 1 + i, j, none⟩ (.bool false)) H k (Sc.put M i j false)) := (HM.out.later (sc_drewN (Below.refl _ _) 1)).put hi hj false
                          have HBS : Hid (Below H w (wr.drew.setCell ⟨H + 1 + i, j, none⟩ (.bool false))) := (sc_drewN HB.out 1).setCell (by show H ≤ H + 1 + i; omega) _
                          have HSS : Hid ((wr.drew.setCell ⟨H + 1 + i, j, none⟩ (.bool false)).heap.size = H + 1 + k) := by show _ = _; rw [World.size_setCell]; exact HS.out
                          clear HM HB HS
                          go_wp2_with fail
                          go_region
                          all_goals
                            go_wp2_with fail
                            go_roundw
                            case rel => exact ⟨j + 1, Sc.put M i j false, hj, by go_num, HMS.out, HN2.out, HBS.out, HSS.out⟩
                            case measure => simp [intOf]; omega
                        | true =>
                          rw [h2] at n1
                          cases h3 : M q j with
                          | false =>
                            rw [h3] at n2
                            have HN2 : Hid (Sc.Wr k P q i (j + 1) (Sc.put M i j false)) := by have := HN.out; rw [h1, h2, h3, Bool.false_or, Bool.true_and] at this; exact this
                            clear HN h1 h2 h3
                            have HMS : Hid (MxM (wr.drew.setCell ⟨H + 1 + i, j, none⟩ (.bool false)) H k (Sc.put M i j false)) := (HM.out.later (sc_drewN (Below.refl _ _) 1)).put hi hj false
                            have HBS : Hid (Below H w (wr.drew.setCell ⟨H + 1 + i, j, none⟩ (.bool false))) := (sc_drewN HB.out 1).setCell (by show H ≤ H + 1 + i; omega) _
                            have HSS : Hid ((wr.drew.setCell ⟨H + 1 + i, j, none⟩ (.bool false)).heap.size = H + 1 + k) := by show _ = _; rw [World.size_setCell]; exact HS.out
                            clear HM HB HS
                            go_wp2_with fail
                            go_region
                            all_goals
                              go_wp2_with fail
                              go_roundw
                              case rel => exact ⟨j + 1, Sc.put M i j false, hj, by go_num, HMS.out, HN2.out, HBS.out, HSS.out⟩
                              case measure => simp [intOf]; omega
                          | true =>
                            rw [h3] at n2
                            have HN2 : Hid (Sc.Wr k P q i (j + 1) (Sc.put M i j true)) := by have := HN.out; rw [h1, h2, h3, Bool.false_or, Bool.true_and] at this; exact this
                            clear HN h1 h2 h3
                            have HMS : Hid (MxM (wr.drew.setCell ⟨H + 1 + i, j, none⟩ (.bool true)) H k (Sc.put M i j true)) := (HM.out.later (sc_drewN (Below.refl _ _) 1)).put hi hj true
                            have HBS : Hid (Below H w (wr.drew.setCell ⟨H + 1 + i, j, none⟩ (.bool true))) := (sc_drewN HB.out 1).setCell (by show H ≤ H + 1 + i; omega) _
                            have HSS : Hid ((wr.drew.setCell ⟨H + 1 + i, j, none⟩ (.bool true)).heap.size = H + 1 + k) := by show _ = _; rw [World.size_setCell]; exact HS.out
                            clear HM HB HS
                            go_wp2_with fail
                            go_region
                            all_goals
                              go_wp2_with fail
                              go_roundw
                              case rel => exact ⟨j + 1, Sc.put M i j true, hj, by go_num, HMS.out, HN2.out, HBS.out, HSS.out⟩
                              case measure => simp [intOf]; omega
                    · obtain rfl : j = k := by omega
                      have gj : ¬ (j : Int) < (j : Int) := by omega
                      have HN := Lib.hid HWR.out.row
                      go_wp2_with fail
                      go_roundw
                      case rel => exact ⟨i + 1, M, hil, by go_num, HM.out, HN.out, HB.out, HS.out⟩
                      case measure => simp [intOf]; omega
                · obtain rfl : i = k := by omega
                  have gi : ¬ (i : Int) < (i : Int) := by omega
                  have HN := Lib.hid HWR.out.round
                  go_wp2_with fail
                  go_roundw
                  case rel => exact ⟨q + 1, M, hql, by go_num, HM.out, HN.out, HB.out, HS.out⟩
                  case measure => simp [intOf]; omega
            · obtain rfl : q = k := by omega
              have gq : ¬ (q : Int) < (q : Int) := by omega
              have HE : Hid (MxM wr H q (Sc.rch q P)) := HM.out.ext fun a b ha hb => HWR.out.done ha hb
              go_wp2_with fail
              go_ret
              exact ⟨by rw [HH.out]; rfl, by rw [HH.out]; exact HE.out, by rw [HH.out]; exact HB.out, by rw [HH.out]; exact HS.out⟩
end Go.Proofs.YtnofcanboaaejaaDoor
