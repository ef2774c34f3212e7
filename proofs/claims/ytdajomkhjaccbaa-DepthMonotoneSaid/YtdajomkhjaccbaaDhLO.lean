/- The walk of DepthMonotone. -/
import Derived.Test.YtdajomkhjaccbaaDhK
namespace Go.Proofs.Ytdajomkhjaccbaa
open Go.RowKit
set_option maxRecDepth 100000

set_option maxHeartbeats 8000000 in
theorem depthMonotone_any (xs : List Int) (A : Option Addr) (capA : Nat) (ys : List Int) (B : Option Addr) (capB : Nat) (zs : List Int) (C : Option Addr) (capC : Nat) (n : Int) (w : World) (hA : IrR w A xs) (hmA : xs.length ≤ 9223372036854775807) (hB : IrR w B ys) (hmB : ys.length ≤ 9223372036854775807) (hC : IrR w C zs) (hmC : zs.length ≤ 9223372036854775807) (hn : I64' n) :
    Calls Try.prog 8 #[.slice A xs.length capA, .slice B ys.length capB, .slice C zs.length capC, .int .i64 n] w fun e w' => e = .returned (.bool true) ∧ Below w.heap.size w w' := by
  have HL := Lib.hid (fun W => limit_any n W hn)
  have hk : within n 9 ≤ 8 := by have := within_lt n 9 (by omega); omega
  generalize within n 9 = k at *
  have HRA := Lib.hid (fun W (h : Below w.heap.size w W) => hA.later h)
  have HRB := Lib.hid (fun W (h : Below w.heap.size w W) => hB.later h)
  have HRC := Lib.hid (fun W (h : Below w.heap.size w W) => hC.later h)
  clear hA hB hC
  clear hn
  go_enter Try.func8, Try.ntmps8
  go_wp2_with fail
  refine (HL.out _).mono ?_
  rintro e w1 ⟨rfl, rfl⟩
  go_wp2_with fail
  refine (relation_k hk capA (HRA.out _ (Below.refl _ _)) hmA).mono ?_
  rintro e w2 ⟨g2, rfl, hx, hb⟩
  have HB := Lib.hid hb
  clear hb
  have HX := Lib.hid hx
  clear hx
  go_wp2_with fail
  refine (relation_k hk capC (HRC.out _ HB.out) hmC).mono ?_
  rintro e w3 ⟨g3, rfl, hx, hb⟩
  have HX2 := Lib.hid (HX.out.later hb)
  clear HX
  have HX := HX2
  clear HX2
  have HB2 := Lib.hid (below_two HB.out hb)
  clear HB
  have HB := HB2
  clear HB2
  clear hb
  have HZ := Lib.hid hx
  clear hx
  go_wp2_with fail
  refine (relation_k hk capB (HRB.out _ HB.out) hmB).mono ?_
  rintro e w4 ⟨g4, rfl, hx, hb⟩
  have HX2 := Lib.hid (HX.out.later hb)
  clear HX
  have HX := HX2
  clear HX2
  have HZ2 := Lib.hid (HZ.out.later hb)
  clear HZ
  have HZ := HZ2
  clear HZ2
  have HB2 := Lib.hid (below_two HB.out hb)
  clear HB
  have HB := HB2
  clear HB2
  clear hb
  have HV := Lib.hid hx
  clear hx
  go_wp2_with fail
  generalize relV xs k = x at *
  generalize relV ys k = v at *
  generalize relV zs k = z at *
  have HLE : Hid (x.length = v.length) := by show _ = _; rw [HX.out.g.len, HV.out.g.len]
  have HW1 := Lib.hid (wi_un HLE.out)
  refine (union_k hk _ _ HX.out HV.out).mono ?_
  rintro e w5 ⟨g5, rfl, hx, hb⟩
  have HX2 := Lib.hid (HX.out.later hb)
  clear HX
  have HX := HX2
  clear HX2
  have HZ2 := Lib.hid (HZ.out.later hb)
  clear HZ
  have HZ := HZ2
  clear HZ2
  have HV2 := Lib.hid (HV.out.later hb)
  clear HV
  have HV := HV2
  clear HV2
  have HB2 := Lib.hid (below_two HB.out hb)
  clear HB
  have HB := HB2
  clear HB2
  clear hb
  have HY := Lib.hid hx
  clear hx
  go_wp2_with fail
  clear HV
  generalize unV x v = y at *
  clear HLE
  have HLE : Hid (x.length = y.length) := by show _ = _; rw [HX.out.g.len, HY.out.g.len]
  have HLB := Lib.hid (wi_lub (x := x) (y := y) z HLE.out)
  have HAN := Lib.hid (wi_anti HLE.out HW1.out)
  have HW2 := Lib.hid (wi_cm_l z HW1.out)
  have HW3 := Lib.hid (wi_cm_r z HW1.out)
  refine (depWithin_k hk _ _ HX.out HY.out HW1.out).mono ?_
  rintro e w6 ⟨rfl, rfl⟩
  go_wp2_with fail
  refine (compose_k hk _ _ HX.out HZ.out).mono ?_
  rintro e w7 ⟨g7, rfl, hx, hb⟩
  have HX2 := Lib.hid (HX.out.later hb)
  clear HX
  have HX := HX2
  clear HX2
  have HZ2 := Lib.hid (HZ.out.later hb)
  clear HZ
  have HZ := HZ2
  clear HZ2
  have HY2 := Lib.hid (HY.out.later hb)
  clear HY
  have HY := HY2
  clear HY2
  have HB2 := Lib.hid (below_two HB.out hb)
  clear HB
  have HB := HB2
  clear HB2
  clear hb
  have HA1 := Lib.hid hx
  clear hx
  go_wp2_with fail
  refine (compose_k hk _ _ HY.out HZ.out).mono ?_
  rintro e w8 ⟨g8, rfl, hx, hb⟩
  have HX2 := Lib.hid (HX.out.later hb)
  clear HX
  have HX := HX2
  clear HX2
  have HZ2 := Lib.hid (HZ.out.later hb)
  clear HZ
  have HZ := HZ2
  clear HZ2
  have HY2 := Lib.hid (HY.out.later hb)
  clear HY
  have HY := HY2
  clear HY2
  have HA12 := Lib.hid (HA1.out.later hb)
  clear HA1
  have HA1 := HA12
  clear HA12
  have HB2 := Lib.hid (below_two HB.out hb)
  clear HB
  have HB := HB2
  clear HB2
  clear hb
  have HA2 := Lib.hid hx
  clear hx
  go_wp2_with fail
  refine (depWithin_k hk _ _ HA1.out HA2.out HW2.out).mono ?_
  rintro e w9 ⟨rfl, rfl⟩
  go_wp2_with fail
  clear HA1 HA2
  refine (compose_k hk _ _ HZ.out HX.out).mono ?_
  rintro e w10 ⟨g10, rfl, hx, hb⟩
  have HX2 := Lib.hid (HX.out.later hb)
  clear HX
  have HX := HX2
  clear HX2
  have HZ2 := Lib.hid (HZ.out.later hb)
  clear HZ
  have HZ := HZ2
  clear HZ2
  have HY2 := Lib.hid (HY.out.later hb)
  clear HY
  have HY := HY2
  clear HY2
  have HB2 := Lib.hid (below_two HB.out hb)
  clear HB
  have HB := HB2
  clear HB2
  clear hb
  have HA1 := Lib.hid hx
  clear hx
  go_wp2_with fail
  refine (compose_k hk _ _ HZ.out HY.out).mono ?_
  rintro e w11 ⟨g11, rfl, hx, hb⟩
  have HX2 := Lib.hid (HX.out.later hb)
  clear HX
  have HX := HX2
  clear HX2
  have HZ2 := Lib.hid (HZ.out.later hb)
  clear HZ
  have HZ := HZ2
  clear HZ2
  have HY2 := Lib.hid (HY.out.later hb)
  clear HY
  have HY := HY2
  clear HY2
  have HA12 := Lib.hid (HA1.out.later hb)
  clear HA1
  have HA1 := HA12
  clear HA12
  have HB2 := Lib.hid (below_two HB.out hb)
  clear HB
  have HB := HB2
  clear HB2
  clear hb
  have HA2 := Lib.hid hx
  clear hx
  go_wp2_with fail
  refine (depWithin_k hk _ _ HA1.out HA2.out HW3.out).mono ?_
  rintro e w12 ⟨rfl, rfl⟩
  go_wp2_with fail
  clear HA1 HA2
  clear HW1 HW2 HW3
  cases hv1 : wiV x z <;> cases hv2 : wiV y z <;> cases hv4 : wiV y x
  · have HV1 := Lib.hid hv1
    have HV2 := Lib.hid hv2
    have HV4 := Lib.hid hv4
    have HV3 : Hid (wiV (unV x y) z = false) := by show _ = _; rw [← HLB.out, hv1, hv2]; rfl
    clear hv1 hv2 hv4 HLB HAN
    refine (depWithin_k hk _ _ HX.out HZ.out HV1.out).mono ?_
    rintro e w13 ⟨rfl, rfl⟩
    go_wp2_with fail
    refine (union_k hk _ _ HX.out HY.out).mono ?_
    rintro e w14 ⟨g14, rfl, hx, hb⟩
    have HX2 := Lib.hid (HX.out.later hb)
    clear HX
    have HX := HX2
    clear HX2
    have HZ2 := Lib.hid (HZ.out.later hb)
    clear HZ
    have HZ := HZ2
    clear HZ2
    have HY2 := Lib.hid (HY.out.later hb)
    clear HY
    have HY := HY2
    clear HY2
    have HB2 := Lib.hid (below_two HB.out hb)
    clear HB
    have HB := HB2
    clear HB2
    clear hb
    have HU := Lib.hid hx
    clear hx
    go_wp2_with fail
    refine (depWithin_k hk _ _ HU.out HZ.out HV3.out).mono ?_
    rintro e w15 ⟨rfl, rfl⟩
    go_wp2_with fail
    clear HU HZ
    refine (depWithin_k hk _ _ HY.out HX.out HV4.out).mono ?_
    rintro e w16 ⟨rfl, rfl⟩
    go_wp2_with fail
    clear HX HY
    refine (awake14_any _).mono ?_
    rintro e w17 ⟨rfl, hb⟩
    have HB2 := Lib.hid (below_two HB.out hb)
    clear HB
    have HB := HB2
    clear HB2
    clear hb
    go_wp2_with fail
    go_ret
    exact ⟨rfl, HB.out⟩
  · have HV1 := Lib.hid hv1
    have HV2 := Lib.hid hv2
    have HV4 := Lib.hid hv4
    have HV3 : Hid (wiV (unV x y) z = false) := by show _ = _; rw [← HLB.out, hv1, hv2]; rfl
    have HV5 := Lib.hid (HAN.out hv4)
    clear hv1 hv2 hv4 HLB HAN
    refine (depWithin_k hk _ _ HX.out HZ.out HV1.out).mono ?_
    rintro e w13 ⟨rfl, rfl⟩
    go_wp2_with fail
    refine (union_k hk _ _ HX.out HY.out).mono ?_
    rintro e w14 ⟨g14, rfl, hx, hb⟩
    have HX2 := Lib.hid (HX.out.later hb)
    clear HX
    have HX := HX2
    clear HX2
    have HZ2 := Lib.hid (HZ.out.later hb)
    clear HZ
    have HZ := HZ2
    clear HZ2
    have HY2 := Lib.hid (HY.out.later hb)
    clear HY
    have HY := HY2
    clear HY2
    have HB2 := Lib.hid (below_two HB.out hb)
    clear HB
    have HB := HB2
    clear HB2
    clear hb
    have HU := Lib.hid hx
    clear hx
    go_wp2_with fail
    refine (depWithin_k hk _ _ HU.out HZ.out HV3.out).mono ?_
    rintro e w15 ⟨rfl, rfl⟩
    go_wp2_with fail
    clear HU HZ
    refine (depWithin_k hk _ _ HY.out HX.out HV4.out).mono ?_
    rintro e w16 ⟨rfl, rfl⟩
    go_wp2_with fail
    refine (same_k hk _ _ HX.out HY.out HV5.out).mono ?_
    rintro e w17 ⟨rfl, hb⟩
    have HX2 := Lib.hid (HX.out.later hb)
    clear HX
    have HX := HX2
    clear HX2
    have HY2 := Lib.hid (HY.out.later hb)
    clear HY
    have HY := HY2
    clear HY2
    have HB2 := Lib.hid (below_two HB.out hb)
    clear HB
    have HB := HB2
    clear HB2
    clear hb
    go_wp2_with fail
    clear HX HY
    refine (awake14_any _).mono ?_
    rintro e w18 ⟨rfl, hb⟩
    have HB2 := Lib.hid (below_two HB.out hb)
    clear HB
    have HB := HB2
    clear HB2
    clear hb
    go_wp2_with fail
    go_ret
    exact ⟨rfl, HB.out⟩
  · have HV1 := Lib.hid hv1
    have HV2 := Lib.hid hv2
    have HV4 := Lib.hid hv4
    have HV3 : Hid (wiV (unV x y) z = false) := by show _ = _; rw [← HLB.out, hv1, hv2]; rfl
    clear hv1 hv2 hv4 HLB HAN
    refine (depWithin_k hk _ _ HX.out HZ.out HV1.out).mono ?_
    rintro e w13 ⟨rfl, rfl⟩
    go_wp2_with fail
    refine (union_k hk _ _ HX.out HY.out).mono ?_
    rintro e w14 ⟨g14, rfl, hx, hb⟩
    have HX2 := Lib.hid (HX.out.later hb)
    clear HX
    have HX := HX2
    clear HX2
    have HZ2 := Lib.hid (HZ.out.later hb)
    clear HZ
    have HZ := HZ2
    clear HZ2
    have HY2 := Lib.hid (HY.out.later hb)
    clear HY
    have HY := HY2
    clear HY2
    have HB2 := Lib.hid (below_two HB.out hb)
    clear HB
    have HB := HB2
    clear HB2
    clear hb
    have HU := Lib.hid hx
    clear hx
    go_wp2_with fail
    refine (depWithin_k hk _ _ HU.out HZ.out HV3.out).mono ?_
    rintro e w15 ⟨rfl, rfl⟩
    go_wp2_with fail
    clear HU HZ
    refine (depWithin_k hk _ _ HY.out HX.out HV4.out).mono ?_
    rintro e w16 ⟨rfl, rfl⟩
    go_wp2_with fail
    clear HX HY
    refine (awake14_any _).mono ?_
    rintro e w17 ⟨rfl, hb⟩
    have HB2 := Lib.hid (below_two HB.out hb)
    clear HB
    have HB := HB2
    clear HB2
    clear hb
    go_wp2_with fail
    go_ret
    exact ⟨rfl, HB.out⟩
  · have HV1 := Lib.hid hv1
    have HV2 := Lib.hid hv2
    have HV4 := Lib.hid hv4
    have HV3 : Hid (wiV (unV x y) z = false) := by show _ = _; rw [← HLB.out, hv1, hv2]; rfl
    have HV5 := Lib.hid (HAN.out hv4)
    clear hv1 hv2 hv4 HLB HAN
    refine (depWithin_k hk _ _ HX.out HZ.out HV1.out).mono ?_
    rintro e w13 ⟨rfl, rfl⟩
    go_wp2_with fail
    refine (union_k hk _ _ HX.out HY.out).mono ?_
    rintro e w14 ⟨g14, rfl, hx, hb⟩
    have HX2 := Lib.hid (HX.out.later hb)
    clear HX
    have HX := HX2
    clear HX2
    have HZ2 := Lib.hid (HZ.out.later hb)
    clear HZ
    have HZ := HZ2
    clear HZ2
    have HY2 := Lib.hid (HY.out.later hb)
    clear HY
    have HY := HY2
    clear HY2
    have HB2 := Lib.hid (below_two HB.out hb)
    clear HB
    have HB := HB2
    clear HB2
    clear hb
    have HU := Lib.hid hx
    clear hx
    go_wp2_with fail
    refine (depWithin_k hk _ _ HU.out HZ.out HV3.out).mono ?_
    rintro e w15 ⟨rfl, rfl⟩
    go_wp2_with fail
    clear HU HZ
    refine (depWithin_k hk _ _ HY.out HX.out HV4.out).mono ?_
    rintro e w16 ⟨rfl, rfl⟩
    go_wp2_with fail
    refine (same_k hk _ _ HX.out HY.out HV5.out).mono ?_
    rintro e w17 ⟨rfl, hb⟩
    have HX2 := Lib.hid (HX.out.later hb)
    clear HX
    have HX := HX2
    clear HX2
    have HY2 := Lib.hid (HY.out.later hb)
    clear HY
    have HY := HY2
    clear HY2
    have HB2 := Lib.hid (below_two HB.out hb)
    clear HB
    have HB := HB2
    clear HB2
    clear hb
    go_wp2_with fail
    clear HX HY
    refine (awake14_any _).mono ?_
    rintro e w18 ⟨rfl, hb⟩
    have HB2 := Lib.hid (below_two HB.out hb)
    clear HB
    have HB := HB2
    clear HB2
    clear hb
    go_wp2_with fail
    go_ret
    exact ⟨rfl, HB.out⟩
  · have HV1 := Lib.hid hv1
    have HV2 := Lib.hid hv2
    have HV4 := Lib.hid hv4
    have HV3 : Hid (wiV (unV x y) z = false) := by show _ = _; rw [← HLB.out, hv1, hv2]; rfl
    clear hv1 hv2 hv4 HLB HAN
    refine (depWithin_k hk _ _ HX.out HZ.out HV1.out).mono ?_
    rintro e w13 ⟨rfl, rfl⟩
    go_wp2_with fail
    refine (depWithin_k hk _ _ HY.out HZ.out HV2.out).mono ?_
    rintro e w14 ⟨rfl, rfl⟩
    go_wp2_with fail
    refine (union_k hk _ _ HX.out HY.out).mono ?_
    rintro e w15 ⟨g15, rfl, hx, hb⟩
    have HX2 := Lib.hid (HX.out.later hb)
    clear HX
    have HX := HX2
    clear HX2
    have HZ2 := Lib.hid (HZ.out.later hb)
    clear HZ
    have HZ := HZ2
    clear HZ2
    have HY2 := Lib.hid (HY.out.later hb)
    clear HY
    have HY := HY2
    clear HY2
    have HB2 := Lib.hid (below_two HB.out hb)
    clear HB
    have HB := HB2
    clear HB2
    clear hb
    have HU := Lib.hid hx
    clear hx
    go_wp2_with fail
    refine (depWithin_k hk _ _ HU.out HZ.out HV3.out).mono ?_
    rintro e w16 ⟨rfl, rfl⟩
    go_wp2_with fail
    clear HU HZ
    refine (depWithin_k hk _ _ HY.out HX.out HV4.out).mono ?_
    rintro e w17 ⟨rfl, rfl⟩
    go_wp2_with fail
    clear HX HY
    refine (awake14_any _).mono ?_
    rintro e w18 ⟨rfl, hb⟩
    have HB2 := Lib.hid (below_two HB.out hb)
    clear HB
    have HB := HB2
    clear HB2
    clear hb
    go_wp2_with fail
    go_ret
    exact ⟨rfl, HB.out⟩
  · have HV1 := Lib.hid hv1
    have HV2 := Lib.hid hv2
    have HV4 := Lib.hid hv4
    have HV3 : Hid (wiV (unV x y) z = false) := by show _ = _; rw [← HLB.out, hv1, hv2]; rfl
    have HV5 := Lib.hid (HAN.out hv4)
    clear hv1 hv2 hv4 HLB HAN
    refine (depWithin_k hk _ _ HX.out HZ.out HV1.out).mono ?_
    rintro e w13 ⟨rfl, rfl⟩
    go_wp2_with fail
    refine (depWithin_k hk _ _ HY.out HZ.out HV2.out).mono ?_
    rintro e w14 ⟨rfl, rfl⟩
    go_wp2_with fail
    refine (union_k hk _ _ HX.out HY.out).mono ?_
    rintro e w15 ⟨g15, rfl, hx, hb⟩
    have HX2 := Lib.hid (HX.out.later hb)
    clear HX
    have HX := HX2
    clear HX2
    have HZ2 := Lib.hid (HZ.out.later hb)
    clear HZ
    have HZ := HZ2
    clear HZ2
    have HY2 := Lib.hid (HY.out.later hb)
    clear HY
    have HY := HY2
    clear HY2
    have HB2 := Lib.hid (below_two HB.out hb)
    clear HB
    have HB := HB2
    clear HB2
    clear hb
    have HU := Lib.hid hx
    clear hx
    go_wp2_with fail
    refine (depWithin_k hk _ _ HU.out HZ.out HV3.out).mono ?_
    rintro e w16 ⟨rfl, rfl⟩
    go_wp2_with fail
    clear HU HZ
    refine (depWithin_k hk _ _ HY.out HX.out HV4.out).mono ?_
    rintro e w17 ⟨rfl, rfl⟩
    go_wp2_with fail
    refine (same_k hk _ _ HX.out HY.out HV5.out).mono ?_
    rintro e w18 ⟨rfl, hb⟩
    have HX2 := Lib.hid (HX.out.later hb)
    clear HX
    have HX := HX2
    clear HX2
    have HY2 := Lib.hid (HY.out.later hb)
    clear HY
    have HY := HY2
    clear HY2
    have HB2 := Lib.hid (below_two HB.out hb)
    clear HB
    have HB := HB2
    clear HB2
    clear hb
    go_wp2_with fail
    clear HX HY
    refine (awake14_any _).mono ?_
    rintro e w19 ⟨rfl, hb⟩
    have HB2 := Lib.hid (below_two HB.out hb)
    clear HB
    have HB := HB2
    clear HB2
    clear hb
    go_wp2_with fail
    go_ret
    exact ⟨rfl, HB.out⟩
  · have HV1 := Lib.hid hv1
    have HV2 := Lib.hid hv2
    have HV4 := Lib.hid hv4
    have HV3 : Hid (wiV (unV x y) z = true) := by show _ = _; rw [← HLB.out, hv1, hv2]; rfl
    clear hv1 hv2 hv4 HLB HAN
    refine (depWithin_k hk _ _ HX.out HZ.out HV1.out).mono ?_
    rintro e w13 ⟨rfl, rfl⟩
    go_wp2_with fail
    refine (depWithin_k hk _ _ HY.out HZ.out HV2.out).mono ?_
    rintro e w14 ⟨rfl, rfl⟩
    go_wp2_with fail
    refine (union_k hk _ _ HX.out HY.out).mono ?_
    rintro e w15 ⟨g15, rfl, hx, hb⟩
    have HX2 := Lib.hid (HX.out.later hb)
    clear HX
    have HX := HX2
    clear HX2
    have HZ2 := Lib.hid (HZ.out.later hb)
    clear HZ
    have HZ := HZ2
    clear HZ2
    have HY2 := Lib.hid (HY.out.later hb)
    clear HY
    have HY := HY2
    clear HY2
    have HB2 := Lib.hid (below_two HB.out hb)
    clear HB
    have HB := HB2
    clear HB2
    clear hb
    have HU := Lib.hid hx
    clear hx
    go_wp2_with fail
    refine (depWithin_k hk _ _ HU.out HZ.out HV3.out).mono ?_
    rintro e w16 ⟨rfl, rfl⟩
    go_wp2_with fail
    clear HU HZ
    refine (depWithin_k hk _ _ HY.out HX.out HV4.out).mono ?_
    rintro e w17 ⟨rfl, rfl⟩
    go_wp2_with fail
    clear HX HY
    refine (awake14_any _).mono ?_
    rintro e w18 ⟨rfl, hb⟩
    have HB2 := Lib.hid (below_two HB.out hb)
    clear HB
    have HB := HB2
    clear HB2
    clear hb
    go_wp2_with fail
    go_ret
    exact ⟨rfl, HB.out⟩
  · have HV1 := Lib.hid hv1
    have HV2 := Lib.hid hv2
    have HV4 := Lib.hid hv4
    have HV3 : Hid (wiV (unV x y) z = true) := by show _ = _; rw [← HLB.out, hv1, hv2]; rfl
    have HV5 := Lib.hid (HAN.out hv4)
    clear hv1 hv2 hv4 HLB HAN
    refine (depWithin_k hk _ _ HX.out HZ.out HV1.out).mono ?_
    rintro e w13 ⟨rfl, rfl⟩
    go_wp2_with fail
    refine (depWithin_k hk _ _ HY.out HZ.out HV2.out).mono ?_
    rintro e w14 ⟨rfl, rfl⟩
    go_wp2_with fail
    refine (union_k hk _ _ HX.out HY.out).mono ?_
    rintro e w15 ⟨g15, rfl, hx, hb⟩
    have HX2 := Lib.hid (HX.out.later hb)
    clear HX
    have HX := HX2
    clear HX2
    have HZ2 := Lib.hid (HZ.out.later hb)
    clear HZ
    have HZ := HZ2
    clear HZ2
    have HY2 := Lib.hid (HY.out.later hb)
    clear HY
    have HY := HY2
    clear HY2
    have HB2 := Lib.hid (below_two HB.out hb)
    clear HB
    have HB := HB2
    clear HB2
    clear hb
    have HU := Lib.hid hx
    clear hx
    go_wp2_with fail
    refine (depWithin_k hk _ _ HU.out HZ.out HV3.out).mono ?_
    rintro e w16 ⟨rfl, rfl⟩
    go_wp2_with fail
    clear HU HZ
    refine (depWithin_k hk _ _ HY.out HX.out HV4.out).mono ?_
    rintro e w17 ⟨rfl, rfl⟩
    go_wp2_with fail
    refine (same_k hk _ _ HX.out HY.out HV5.out).mono ?_
    rintro e w18 ⟨rfl, hb⟩
    have HX2 := Lib.hid (HX.out.later hb)
    clear HX
    have HX := HX2
    clear HX2
    have HY2 := Lib.hid (HY.out.later hb)
    clear HY
    have HY := HY2
    clear HY2
    have HB2 := Lib.hid (below_two HB.out hb)
    clear HB
    have HB := HB2
    clear HB2
    clear hb
    go_wp2_with fail
    clear HX HY
    refine (awake14_any _).mono ?_
    rintro e w19 ⟨rfl, hb⟩
    have HB2 := Lib.hid (below_two HB.out hb)
    clear HB
    have HB := HB2
    clear HB2
    clear hb
    go_wp2_with fail
    go_ret
    exact ⟨rfl, HB.out⟩
end Go.Proofs.Ytdajomkhjaccbaa
