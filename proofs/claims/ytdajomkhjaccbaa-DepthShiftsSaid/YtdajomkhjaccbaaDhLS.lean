/- The walk of DepthShifts. -/
import Derived.Test.YtdajomkhjaccbaaDhK
namespace Go.Proofs.Ytdajomkhjaccbaa
open Go.RowKit
set_option maxRecDepth 100000

set_option maxHeartbeats 8000000 in
theorem depthShifts_any (n : Int) (w : World) (hn : I64' n) :
    Calls Try.prog 4 #[.int .i64 n] w fun e w' => e = .returned (.bool true) ∧ Below w.heap.size w w' := by
  have HL := Lib.hid (fun W => limit_any n W hn)
  have hk : within n 9 ≤ 8 := by have := within_lt n 9 (by omega); omega
  generalize within n 9 = k at *
  obtain ⟨q0, q1, q2, q3⟩ := closedV k hk
  have HQ3 := Lib.hid q3
  have HSH := Lib.hid (fun W => shift_any W k 0 hk (by omega))
  rw [q0] at HSH
  have HS0 := Lib.hid (fun W => shift_k (w := W) hk (c := 0) (by omega) q0 (idV_g k))
  have HS1 := Lib.hid (fun W => shift_k (w := W) hk (c := 1) (by omega) q1 (upV_g hk))
  have HS2 := Lib.hid (fun W => shift_k (w := W) hk (c := -1) (by omega) q2 (dnV_g hk))
  have HGS := Lib.hid (cmV_g (upV_g hk) (dnV_g hk))
  rw [q3] at HGS
  have hk0 : (0 : Int) ≤ (k : Int) := by omega
  have hk1 : (k : Int) < (k : Int) + 1 := by omega
  clear hn q0 q1 q2 q3
  go_enter Try.func4, Try.ntmps4
  go_wp2_with fail
  refine (HL.out _).mono ?_
  rintro e w1 ⟨rfl, rfl⟩
  go_wp2_with fail
  refine (up_k hk).mono ?_
  rintro e w2 ⟨g2, rfl, hx, hb⟩
  have HB := Lib.hid hb
  clear hb
  have HU := Lib.hid hx
  clear hx
  go_wp2_with fail
  refine (down_k hk).mono ?_
  rintro e w3 ⟨g3, rfl, hx, hb⟩
  have HU2 := Lib.hid (HU.out.later hb)
  clear HU
  have HU := HU2
  clear HU2
  have HB2 := Lib.hid (below_two HB.out hb)
  clear HB
  have HB := HB2
  clear HB2
  clear hb
  have HD := Lib.hid hx
  clear hx
  go_wp2_with fail
  refine (compose_k hk _ _ HU.out HD.out).mono ?_
  rintro e w4 ⟨g4, rfl, hx, hb⟩
  have HU2 := Lib.hid (HU.out.later hb)
  clear HU
  have HU := HU2
  clear HU2
  have HD2 := Lib.hid (HD.out.later hb)
  clear HD
  have HD := HD2
  clear HD2
  have HB2 := Lib.hid (below_two HB.out hb)
  clear HB
  have HB := HB2
  clear HB2
  clear hb
  have HC4 := Lib.hid hx
  clear hx
  go_wp2_with fail
  clear HU HD
  refine (HSH.out _).mono ?_
  rintro e w5 ⟨g5, rfl, hx, hb0⟩
  have hxl := hx.at k (by rw [idV_len]; omega)
  obtain ⟨cc, ff⟩ := hxl
  have hx2 := hx.store (by rw [idV_len]) k 0
  have hb : Below w4.heap.size w4 (w5.setCell ⟨g5, k, none⟩ (.int .i64 0)) := hb0.setCell hx.lt.1 (.int .i64 0)
  have HSX : Hid (RlK k (w5.setCell ⟨g5, k, none⟩ (.int .i64 0)) (some ⟨g5, 0, none⟩) ((idV k).set k 0)) := ⟨hx2.read, HGS.out⟩
  clear hx hx2 hb0 HSH
  have HC42 := Lib.hid (HC4.out.later hb)
  clear HC4
  have HC4 := HC42
  clear HC42
  have HB2 := Lib.hid (below_two HB.out hb)
  clear HB
  have HB := HB2
  clear HB2
  clear hb
  go_wp2_with fail
  generalize w5.setCell ⟨g5, k, none⟩ (.int .i64 0) = v5 at *
  clear cc ff
  refine (identity_k hk).mono ?_
  rintro e w6 ⟨g6, rfl, hx, hb⟩
  have HC42 := Lib.hid (HC4.out.later hb)
  clear HC4
  have HC4 := HC42
  clear HC42
  have HSX2 := Lib.hid (HSX.out.later hb)
  clear HSX
  have HSX := HSX2
  clear HSX2
  have HB2 := Lib.hid (below_two HB.out hb)
  clear HB
  have HB := HB2
  clear HB2
  clear hb
  have HI := Lib.hid hx
  clear hx
  go_wp2_with fail
  refine (HS0.out _).mono ?_
  rintro e w7 ⟨g7, rfl, hx, hb⟩
  have HC42 := Lib.hid (HC4.out.later hb)
  clear HC4
  have HC4 := HC42
  clear HC42
  have HSX2 := Lib.hid (HSX.out.later hb)
  clear HSX
  have HSX := HSX2
  clear HSX2
  have HI2 := Lib.hid (HI.out.later hb)
  clear HI
  have HI := HI2
  clear HI2
  have HB2 := Lib.hid (below_two HB.out hb)
  clear HB
  have HB := HB2
  clear HB2
  clear hb
  have HJ := Lib.hid hx
  clear hx
  go_wp2_with fail
  refine (same_k hk _ _ HI.out HJ.out rfl).mono ?_
  rintro e w8 ⟨rfl, hb⟩
  have HC42 := Lib.hid (HC4.out.later hb)
  clear HC4
  have HC4 := HC42
  clear HC42
  have HSX2 := Lib.hid (HSX.out.later hb)
  clear HSX
  have HSX := HSX2
  clear HSX2
  have HI2 := Lib.hid (HI.out.later hb)
  clear HI
  have HI := HI2
  clear HI2
  have HJ2 := Lib.hid (HJ.out.later hb)
  clear HJ
  have HJ := HJ2
  clear HJ2
  have HB2 := Lib.hid (below_two HB.out hb)
  clear HB
  have HB := HB2
  clear HB2
  clear hb
  go_wp2_with fail
  clear HI HJ
  refine (up_k hk).mono ?_
  rintro e w9 ⟨g9, rfl, hx, hb⟩
  have HC42 := Lib.hid (HC4.out.later hb)
  clear HC4
  have HC4 := HC42
  clear HC42
  have HSX2 := Lib.hid (HSX.out.later hb)
  clear HSX
  have HSX := HSX2
  clear HSX2
  have HB2 := Lib.hid (below_two HB.out hb)
  clear HB
  have HB := HB2
  clear HB2
  clear hb
  have HI := Lib.hid hx
  clear hx
  go_wp2_with fail
  refine (HS1.out _).mono ?_
  rintro e w10 ⟨g10, rfl, hx, hb⟩
  have HC42 := Lib.hid (HC4.out.later hb)
  clear HC4
  have HC4 := HC42
  clear HC42
  have HSX2 := Lib.hid (HSX.out.later hb)
  clear HSX
  have HSX := HSX2
  clear HSX2
  have HI2 := Lib.hid (HI.out.later hb)
  clear HI
  have HI := HI2
  clear HI2
  have HB2 := Lib.hid (below_two HB.out hb)
  clear HB
  have HB := HB2
  clear HB2
  clear hb
  have HJ := Lib.hid hx
  clear hx
  go_wp2_with fail
  refine (same_k hk _ _ HI.out HJ.out rfl).mono ?_
  rintro e w11 ⟨rfl, hb⟩
  have HC42 := Lib.hid (HC4.out.later hb)
  clear HC4
  have HC4 := HC42
  clear HC42
  have HSX2 := Lib.hid (HSX.out.later hb)
  clear HSX
  have HSX := HSX2
  clear HSX2
  have HI2 := Lib.hid (HI.out.later hb)
  clear HI
  have HI := HI2
  clear HI2
  have HJ2 := Lib.hid (HJ.out.later hb)
  clear HJ
  have HJ := HJ2
  clear HJ2
  have HB2 := Lib.hid (below_two HB.out hb)
  clear HB
  have HB := HB2
  clear HB2
  clear hb
  go_wp2_with fail
  clear HI HJ
  refine (down_k hk).mono ?_
  rintro e w12 ⟨g12, rfl, hx, hb⟩
  have HC42 := Lib.hid (HC4.out.later hb)
  clear HC4
  have HC4 := HC42
  clear HC42
  have HSX2 := Lib.hid (HSX.out.later hb)
  clear HSX
  have HSX := HSX2
  clear HSX2
  have HB2 := Lib.hid (below_two HB.out hb)
  clear HB
  have HB := HB2
  clear HB2
  clear hb
  have HI := Lib.hid hx
  clear hx
  go_wp2_with fail
  refine (HS2.out _).mono ?_
  rintro e w13 ⟨g13, rfl, hx, hb⟩
  have HC42 := Lib.hid (HC4.out.later hb)
  clear HC4
  have HC4 := HC42
  clear HC42
  have HSX2 := Lib.hid (HSX.out.later hb)
  clear HSX
  have HSX := HSX2
  clear HSX2
  have HI2 := Lib.hid (HI.out.later hb)
  clear HI
  have HI := HI2
  clear HI2
  have HB2 := Lib.hid (below_two HB.out hb)
  clear HB
  have HB := HB2
  clear HB2
  clear hb
  have HJ := Lib.hid hx
  clear hx
  go_wp2_with fail
  refine (same_k hk _ _ HI.out HJ.out rfl).mono ?_
  rintro e w14 ⟨rfl, hb⟩
  have HC42 := Lib.hid (HC4.out.later hb)
  clear HC4
  have HC4 := HC42
  clear HC42
  have HSX2 := Lib.hid (HSX.out.later hb)
  clear HSX
  have HSX := HSX2
  clear HSX2
  have HI2 := Lib.hid (HI.out.later hb)
  clear HI
  have HI := HI2
  clear HI2
  have HJ2 := Lib.hid (HJ.out.later hb)
  clear HJ
  have HJ := HJ2
  clear HJ2
  have HB2 := Lib.hid (below_two HB.out hb)
  clear HB
  have HB := HB2
  clear HB2
  clear hb
  go_wp2_with fail
  clear HI HJ
  refine (same_k hk _ _ HC4.out HSX.out HQ3.out).mono ?_
  rintro e w15 ⟨rfl, hb⟩
  have HC42 := Lib.hid (HC4.out.later hb)
  clear HC4
  have HC4 := HC42
  clear HC42
  have HSX2 := Lib.hid (HSX.out.later hb)
  clear HSX
  have HSX := HSX2
  clear HSX2
  have HB2 := Lib.hid (below_two HB.out hb)
  clear HB
  have HB := HB2
  clear HB2
  clear hb
  go_wp2_with fail
  clear HC4 HSX
  refine (awake14_any _).mono ?_
  rintro e w16 ⟨rfl, hb⟩
  have HB2 := Lib.hid (below_two HB.out hb)
  clear HB
  have HB := HB2
  clear HB2
  clear hb
  go_wp2_with fail
  go_ret
  exact ⟨rfl, HB.out⟩
end Go.Proofs.Ytdajomkhjaccbaa
