/- The walk of TableValid. -/
import Derived.Test.YtobpnpkcafacjaaTbMk1
import Derived.StillTailTactics
namespace Go.Proofs.Ytobpnpkcafacjaa
open Go.RowKit
set_option maxRecDepth 100000

set_option maxHeartbeats 8000000 in
theorem tableValid_any (xs : List Int) (A : Option Addr) (capA : Nat) (ys : List Int) (B : Option Addr) (capB : Nat) (R : Option Addr) (capR : Nat) (rs : List TH) (at_ : Int) (o d : Int) (th : Int) (w : World) (hR : IntR w A xs) (hmA : xs.length ≤ 9223372036854775807) (hS : IntR w B ys) (hmB : ys.length ≤ 9223372036854775807) (hQ : TbR w R rs) (ha : I64' at_) (ho : I64' o) (hd : I64' d) (ht : I64' th) :
    Calls Try.prog 6 #[.slice A xs.length capA, .slice B ys.length capB, .slice R rs.length capR, .int .i64 at_, .agg #[.int .i64 o, .int .i64 d], .int .i64 th] w fun e w' => e = .returned (.bool true) ∧ Below w.heap.size w w' := by
  have hb0 : Below w.heap.size w (w.alloc (.cells #[.int .i64 o, .int .i64 d] 30)) := (Below.refl _ _).alloc (Nat.le_refl _) _
  have HMX := Lib.hid (mutexes_any xs A capA _ (hR.later hb0) hmA)
  have HR0 := Lib.hid (hQ.later hb0)
  have hS0 := hS.later hb0
  have hT := heap_alloc_new w (.cells #[.int .i64 o, .int .i64 d] 30)
  have HBX : Hid (∀ W, Below (w.alloc (.cells #[.int .i64 o, .int .i64 d] 30)).heap.size (w.alloc (.cells #[.int .i64 o, .int .i64 d] 30)) W → W.cell? ⟨w.heap.size, 0, none⟩ = some (.int .i64 o) ∧ W.cell? ⟨w.heap.size, 1, none⟩ = some (.int .i64 d)) := fun W h => ⟨cell_later h (cell_of_row _ w.heap.size 0 _ _ _ hT), cell_later h (cell_of_row _ w.heap.size 1 _ _ _ hT)⟩
  have HB0 := Lib.hid hb0
  unfold I64' at ha ho hd ht
  clear hR hS hQ hb0 hT
  go_enter Try.func6, Try.ntmps6
  go_wp2_with fail
  generalize hW0 : w.alloc (.cells #[.int .i64 o, .int .i64 d] 30) = w0 at *
  clear hW0
  refine HMX.out.mono ?_
  rintro e w1 ⟨X, ms, cx, rfl, hM, hok, hcx, hb1⟩
  have HMD := Lib.hid (made_any ys B X capB cx ms w1 (hS0.later hb1) hmB hM hok)
  have HB1 := Lib.hid hb1
  have HM1 := Lib.hid (fun W (h : Below w1.heap.size w1 W) => hM.later h)
  have HR1 := Lib.hid (fun W (h : Below w1.heap.size w1 W) => (HR0.out.later hb1).later h)
  clear hb1 hM HMX hS0 HR0
  go_wp2_with fail
  refine HMD.out.mono ?_
  rintro e w2 ⟨D, c, hs, rfl, hN, hG, hb2⟩
  have HB2 := Lib.hid (below_two HB0.out (below_two HB1.out hb2))
  have HX2 := Lib.hid (fun W (h : Below w2.heap.size w2 W) => HBX.out W (below_two (below_two HB1.out hb2) h))
  have HW1 := Lib.hid hb2
  have HBw := Lib.hid (below_two HB0.out HB1.out)
  have HN2 := Lib.hid (fun W (h : Below w2.heap.size w2 W) => hN.later h)
  have hl : hs.length = tE ms := hG.1
  have hn := hl.symm
  have hE := hok.tE
  generalize hnn : tE ms = n at hn hE ⊢
  have HGV := Lib.hid hG.vd
  have HVA := Lib.hid (fun W (h : Below w1.heap.size w1 W) D' c' n' hs' th' hv hq => valid_any W X D' ms hs' cx c' n' th' (HM1.out W h) hok hv hq)
  have HVR := Lib.hid (fun W (h : Below w1.heap.size w1 W) D' c' n' hs' th' hv hq => refValid_any W X D' ms hs' cx c' n' th' (HM1.out W h) hok hv hq)
  have HBA : Hid (Below w2.heap.size w2 w2) := Below.refl _ _
  clear hb2 hN HB1 HMD hG hl hnn hcx HB0 HBX HM1
  have HWT := Lib.hid (fun W => within_any th 7 W ht (by omega) (by omega))
  have hwT := within_lt th 7 (by omega)
  rw [show (7 : Int).toNat = 7 from rfl] at HWT
  generalize within th 7 = T at *
  have HVK := Lib.hid (fun W (h : Below w2.heap.size w2 W) => HVA.out W (below_two HW1.out h) D c n hs ((T : Int) - 1) ((HN2.out W h).v.r) hn)
  have HVS := Lib.hid (fun W (h : Below w2.heap.size w2 W) => HVR.out W (below_two HW1.out h) D c n hs ((T : Int) - 1) ((HN2.out W h).v.r) hn)
  have HV4 := Lib.hid (fun W (h : Below w2.heap.size w2 W) => HVA.out W (below_two HW1.out h) D c n hs 4 ((HN2.out W h).v.r) hn)
  have HS4 := Lib.hid (fun W (h : Below w2.heap.size w2 W) => HVR.out W (below_two HW1.out h) D c n hs 4 ((HN2.out W h).v.r) hn)
  have HRK := Lib.hid (fun W (h : Below w2.heap.size w2 W) => HVA.out W (below_two HW1.out h) R capR rs.length rs ((T : Int) - 1) (HR1.out W (below_two HW1.out h)) rfl)
  have HRS := Lib.hid (fun W (h : Below w2.heap.size w2 W) => HVR.out W (below_two HW1.out h) R capR rs.length rs ((T : Int) - 1) (HR1.out W (below_two HW1.out h)) rfl)
  rw [HGV.out] at HV4 HS4
  have HVA4 := Lib.hid (fun W h D' c' n' hs' hv hq => HVA.out W h D' c' n' hs' 4 hv hq)
  have HVR4 := Lib.hid (fun W h D' c' n' hs' hv hq => HVR.out W h D' c' n' hs' 4 hv hq)
  have HNN := Lib.hid hn
  clear HGV HVA HVR HR1 hn
  generalize vdV ms hs ((T : Int) - 1) = v1 at *
  generalize vdV ms rs ((T : Int) - 1) = v2 at *
  go_wp2_with fail
  refine (HWT.out _).mono ?_
  rintro e wv ⟨rfl, rfl⟩
  go_wp2_with fail
  refine (HVK.out _ HBA.out).mono ?_
  rintro e wa ⟨rfl, hba⟩
  have HBN := Lib.hid (below_two HBA.out hba)
  clear HBA hba
  have HBA := HBN
  clear HBN
  go_wp2_with fail
  refine (HVS.out _ HBA.out).mono ?_
  rintro e wa ⟨rfl, hba⟩
  have HBN := Lib.hid (below_two HBA.out hba)
  clear HBA hba
  have HBA := HBN
  clear HBN
  go_wp2_with fail
  refine (HV4.out _ HBA.out).mono ?_
  rintro e wa ⟨rfl, hba⟩
  have HBN := Lib.hid (below_two HBA.out hba)
  clear HBA hba
  have HBA := HBN
  clear HBN
  go_wp2_with fail
  refine (HRK.out _ HBA.out).mono ?_
  rintro e wa ⟨rfl, hba⟩
  have HBN := Lib.hid (below_two HBA.out hba)
  clear HBA hba
  have HBA := HBN
  clear HBN
  go_wp2_with fail
  by_cases hn0 : 0 < n
  ·
    have hn1 : (0 : Int) < (n : Int) := by omega
    refine (HRS.out _ HBA.out).mono ?_
    rintro e wa ⟨rfl, hba⟩
    have HBN := Lib.hid (below_two HBA.out hba)
    clear HBA hba
    have HBA := HBN
    clear HBN
    go_wp2_with fail
    have HWQ := Lib.hid (fun W => within_any at_ (n : Int) W ha (by omega) (by omega))
    have hwQ := within_lt at_ n (by omega)
    rw [Int.toNat_natCast] at HWQ
    generalize within at_ n = Q at *
    have HWO := Lib.hid (fun W => within_any o 7 W ho (by omega) (by omega))
    have hwO := within_lt o 7 (by omega)
    rw [show (7 : Int).toNat = 7 from rfl] at HWO
    generalize within o 7 = O at *
    have HWP := Lib.hid (fun W => within_any d 4 W hd (by omega) (by omega))
    have hwP := within_lt d 4 (by omega)
    rw [show (4 : Int).toNat = 4 from rfl] at HWP
    generalize within d 4 = P at *
    obtain ⟨x0, x1⟩ := HX2.out _ HBA.out
    have HQ := Lib.hid (show Q < hs.length by have := HNN.out; omega)
    have HNA := Lib.hid (HN2.out _ HBA.out)
    obtain ⟨g, rfl, -⟩ := HNA.out.o.row Q HQ.out
    have HND := Lib.hid (HNA.out.later (Below.drew (Below.refl wa.heap.size wa)))
    have HBD := Lib.hid (Below.drew (below_two HW1.out HBA.out))
    have q0 : (0 : Int) ≤ (Q : Int) := by omega
    have q1 : (Q : Int) < (n : Int) := by omega
    have j1 : IntKind.i64.wrap ((O : Int) - 1) = (O : Int) - 1 := by rw [IntKind.wrap_i64]; omega
    have j2 : IntKind.i64.wrap ((P : Int) - 1) = (P : Int) - 1 := by rw [IntKind.wrap_i64]; omega
    clear HNA HBA HN2 HX2 HW1 HV4 HS4 HRS HRK HVK HVS HB2
    have HIQ := Lib.hid (fun W => (HWQ.out W).mono (R' := fun e w' => e = .returned (.int .i64 (Q : Int)) ∧ w' = W) (fun _ _ h => ⟨h.1, h.2.symm⟩))
    have HIO := Lib.hid (fun W => (HWO.out W).mono (R' := fun e w' => e = .returned (.int .i64 (O : Int)) ∧ w' = W) (fun _ _ h => ⟨h.1, h.2.symm⟩))
    have HIP := Lib.hid (fun W => (HWP.out W).mono (R' := fun e w' => e = .returned (.int .i64 (P : Int)) ∧ w' = W) (fun _ _ h => ⟨h.1, h.2.symm⟩))
    go_still_tail 15, (by kernel_rfl)
    still_call (HIQ.out _)
    repeat still_step
    still_call (HIO.out _)
    repeat still_step
    still_call (HIP.out _)
    repeat still_step
    try refine wpStill_nil ?_
    change wpList _ _ _ _ _ wa.drew
    generalize wa.drew = wd at *
    obtain ⟨g', e', hg, hgs, g0, g1, gf, -⟩ := HND.out.o.row Q HQ.out
    injection e' with e'
    injection e' with e'
    subst e'
    have f0 := gf (Q * 2)
    have f1 := gf (Q * 2 + 1)
    have HSN := Lib.hid (HND.out.set Q HQ.out ((O : Int) - 1) ((P : Int) - 1))
    have HSB : Hid (Below w1.heap.size w1 ((wd.setCell ⟨g, Q * 2, none⟩ (.int .i64 ((O : Int) - 1))).setCell ⟨g, Q * 2 + 1, none⟩ (.int .i64 ((P : Int) - 1)))) := (HBD.out.setCell hg _).setCell hg _
    have HLN : Hid (n = (hs.set Q ((O : Int) - 1, (P : Int) - 1)).length) := by show _ = _; rw [List.length_set]; exact HNN.out
    clear gf hg hgs x0 x1 HND HBD HNN HWQ HWO HWP HIQ HIO HIP
    go_wp2_with fail
    generalize (wd.setCell _ _).setCell _ _ = wf at *
    have HV5 := Lib.hid (fun W (h : Below wf.heap.size wf W) => HVA4.out W (below_two HSB.out h) _ c _ _ ((HSN.out.later h).v.r) HLN.out)
    have HS5 := Lib.hid (fun W (h : Below wf.heap.size wf W) => HVR4.out W (below_two HSB.out h) _ c _ _ ((HSN.out.later h).v.r) HLN.out)
    generalize vdV ms (hs.set Q ((O : Int) - 1, (P : Int) - 1)) 4 = v3 at *
    have HB2 := Lib.hid (below_two HBw.out HSB.out)
    have HBA : Hid (Below wf.heap.size wf wf) := Below.refl _ _
    clear HSN HSB HVA4 HVR4 HLN j1 j2 g0 g1 f0 f1
    refine (HV5.out _ HBA.out).mono ?_
    rintro e wa ⟨rfl, hba⟩
    have HBN := Lib.hid (below_two HBA.out hba)
    clear HBA hba
    have HBA := HBN
    clear HBN
    go_wp2_with fail
    refine (HS5.out _ HBA.out).mono ?_
    rintro e wa ⟨rfl, hba⟩
    have HBN := Lib.hid (below_two HBA.out hba)
    clear HBA hba
    have HBA := HBN
    clear HBN
    go_wp2_with fail
    refine (awake8_any _).mono ?_
    rintro e wz ⟨rfl, hbz⟩
    have HBZ := Lib.hid (below_two HB2.out (below_two HBA.out hbz))
    clear hbz HBA
    go_wp2_with fail
    go_ret
    exact ⟨rfl, HBZ.out⟩
  ·
    have hn1 : ¬ (0 : Int) < (n : Int) := by omega
    refine (HRS.out _ HBA.out).mono ?_
    rintro e wa ⟨rfl, hba⟩
    have HBN := Lib.hid (below_two HBA.out hba)
    clear HBA hba
    have HBA := HBN
    clear HBN
    go_wp2_with fail
    refine (HV4.out _ HBA.out).mono ?_
    rintro e wa ⟨rfl, hba⟩
    have HBN := Lib.hid (below_two HBA.out hba)
    clear HBA hba
    have HBA := HBN
    clear HBN
    go_wp2_with fail
    refine (HS4.out _ HBA.out).mono ?_
    rintro e wa ⟨rfl, hba⟩
    have HBN := Lib.hid (below_two HBA.out hba)
    clear HBA hba
    have HBA := HBN
    clear HBN
    go_wp2_with fail
    refine (awake8_any _).mono ?_
    rintro e wz ⟨rfl, hbz⟩
    have HBZ := Lib.hid (below_two HB2.out (below_two HBA.out hbz))
    clear hbz HBA
    go_wp2_with fail
    go_ret
    exact ⟨rfl, HBZ.out⟩
end Go.Proofs.Ytobpnpkcafacjaa
