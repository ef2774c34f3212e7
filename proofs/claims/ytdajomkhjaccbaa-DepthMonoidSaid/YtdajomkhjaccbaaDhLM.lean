/- The walk of DepthMonoid. -/
import Derived.Test.YtdajomkhjaccbaaDhK
namespace Go.Proofs.Ytdajomkhjaccbaa
open Go.RowKit
set_option maxRecDepth 100000

set_option maxHeartbeats 8000000 in
theorem depthMonoid_any (xs : List Int) (A : Option Addr) (capA : Nat) (ys : List Int) (B : Option Addr) (capB : Nat) (zs : List Int) (C : Option Addr) (capC : Nat) (n s : Int) (w : World) (hA : IrR w A xs) (hmA : xs.length ≤ 9223372036854775807) (hB : IrR w B ys) (hmB : ys.length ≤ 9223372036854775807) (hC : IrR w C zs) (hmC : zs.length ≤ 9223372036854775807) (hn : I64' n) (hs : I64' s) :
    Calls Try.prog 6 #[.slice A xs.length capA, .slice B ys.length capB, .slice C zs.length capC, .int .i64 n, .int .i64 s] w fun e w' => e = .returned (.bool true) ∧ Below w.heap.size w w' := by
  have HL := Lib.hid (fun W => limit_any n W hn)
  have hk : within n 9 ≤ 8 := by have := within_lt n 9 (by omega); omega
  generalize within n 9 = k at *
  have HSS := Lib.hid (fun W => set_any s (k : Int) k W hs rfl hk)
  have hsS : within s (2 ^ (k + 1)) < 512 := by have h1 := within_lt s (2 ^ (k + 1)) (Nat.two_pow_pos _); have h2 := pow_le (k + 1) (by omega); omega
  generalize within s (2 ^ (k + 1)) = S at *
  have HRA := Lib.hid (fun W (h : Below w.heap.size w W) => hA.later h)
  have HRB := Lib.hid (fun W (h : Below w.heap.size w W) => hB.later h)
  have HRC := Lib.hid (fun W (h : Below w.heap.size w W) => hC.later h)
  clear hA hB hC
  clear hn hs
  go_enter Try.func6, Try.ntmps6
  go_wp2_with fail
  refine (HL.out _).mono ?_
  rintro e w1 ⟨rfl, rfl⟩
  go_wp2_with fail
  refine (relation_k hk capA (HRA.out _ (Below.refl _ _)) hmA).mono ?_
  rintro e w2 ⟨g2, rfl, hx, hb⟩
  have HB := Lib.hid hb
  clear hb
  have HX := Lib.hid hx
  clear hx
  go_wp2_with fail
  refine (relation_k hk capB (HRB.out _ HB.out) hmB).mono ?_
  rintro e w3 ⟨g3, rfl, hx, hb⟩
  have HX2 := Lib.hid (HX.out.later hb)
  clear HX
  have HX := HX2
  clear HX2
  have HB2 := Lib.hid (below_two HB.out hb)
  clear HB
  have HB := HB2
  clear HB2
  clear hb
  have HY := Lib.hid hx
  clear hx
  go_wp2_with fail
  refine (relation_k hk capC (HRC.out _ HB.out) hmC).mono ?_
  rintro e w4 ⟨g4, rfl, hx, hb⟩
  have HX2 := Lib.hid (HX.out.later hb)
  clear HX
  have HX := HX2
  clear HX2
  have HY2 := Lib.hid (HY.out.later hb)
  clear HY
  have HY := HY2
  clear HY2
  have HB2 := Lib.hid (below_two HB.out hb)
  clear HB
  have HB := HB2
  clear HB2
  clear hb
  have HZ := Lib.hid hx
  clear hx
  go_wp2_with fail
  generalize relV xs k = x at *
  generalize relV ys k = y at *
  generalize relV zs k = z at *
  refine (HSS.out _).mono ?_
  rintro e w5 ⟨rfl, rfl⟩
  go_wp2_with fail
  refine (compose_k hk _ _ HX.out HY.out).mono ?_
  rintro e w6 ⟨g6, rfl, hx, hb⟩
  have HX2 := Lib.hid (HX.out.later hb)
  clear HX
  have HX := HX2
  clear HX2
  have HY2 := Lib.hid (HY.out.later hb)
  clear HY
  have HY := HY2
  clear HY2
  have HZ2 := Lib.hid (HZ.out.later hb)
  clear HZ
  have HZ := HZ2
  clear HZ2
  have HB2 := Lib.hid (below_two HB.out hb)
  clear HB
  have HB := HB2
  clear HB2
  clear hb
  have HXY := Lib.hid hx
  clear hx
  go_wp2_with fail
  refine (compose_k hk _ _ HXY.out HZ.out).mono ?_
  rintro e w7 ⟨g7, rfl, hx, hb⟩
  have HX2 := Lib.hid (HX.out.later hb)
  clear HX
  have HX := HX2
  clear HX2
  have HY2 := Lib.hid (HY.out.later hb)
  clear HY
  have HY := HY2
  clear HY2
  have HZ2 := Lib.hid (HZ.out.later hb)
  clear HZ
  have HZ := HZ2
  clear HZ2
  have HXY2 := Lib.hid (HXY.out.later hb)
  clear HXY
  have HXY := HXY2
  clear HXY2
  have HB2 := Lib.hid (below_two HB.out hb)
  clear HB
  have HB := HB2
  clear HB2
  clear hb
  have HL1 := Lib.hid hx
  clear hx
  go_wp2_with fail
  clear HXY
  refine (compose_k hk _ _ HY.out HZ.out).mono ?_
  rintro e w8 ⟨g8, rfl, hx, hb⟩
  have HX2 := Lib.hid (HX.out.later hb)
  clear HX
  have HX := HX2
  clear HX2
  have HY2 := Lib.hid (HY.out.later hb)
  clear HY
  have HY := HY2
  clear HY2
  have HZ2 := Lib.hid (HZ.out.later hb)
  clear HZ
  have HZ := HZ2
  clear HZ2
  have HL12 := Lib.hid (HL1.out.later hb)
  clear HL1
  have HL1 := HL12
  clear HL12
  have HB2 := Lib.hid (below_two HB.out hb)
  clear HB
  have HB := HB2
  clear HB2
  clear hb
  have HYZ := Lib.hid hx
  clear hx
  go_wp2_with fail
  refine (compose_k hk _ _ HX.out HYZ.out).mono ?_
  rintro e w9 ⟨g9, rfl, hx, hb⟩
  have HX2 := Lib.hid (HX.out.later hb)
  clear HX
  have HX := HX2
  clear HX2
  have HY2 := Lib.hid (HY.out.later hb)
  clear HY
  have HY := HY2
  clear HY2
  have HZ2 := Lib.hid (HZ.out.later hb)
  clear HZ
  have HZ := HZ2
  clear HZ2
  have HL12 := Lib.hid (HL1.out.later hb)
  clear HL1
  have HL1 := HL12
  clear HL12
  have HYZ2 := Lib.hid (HYZ.out.later hb)
  clear HYZ
  have HYZ := HYZ2
  clear HYZ2
  have HB2 := Lib.hid (below_two HB.out hb)
  clear HB
  have HB := HB2
  clear HB2
  clear hb
  have HR1 := Lib.hid hx
  clear hx
  go_wp2_with fail
  clear HYZ HZ
  refine (same_k hk _ _ HL1.out HR1.out (cm_assoc x y z)).mono ?_
  rintro e w10 ⟨rfl, hb⟩
  have HX2 := Lib.hid (HX.out.later hb)
  clear HX
  have HX := HX2
  clear HX2
  have HY2 := Lib.hid (HY.out.later hb)
  clear HY
  have HY := HY2
  clear HY2
  have HL12 := Lib.hid (HL1.out.later hb)
  clear HL1
  have HL1 := HL12
  clear HL12
  have HR12 := Lib.hid (HR1.out.later hb)
  clear HR1
  have HR1 := HR12
  clear HR12
  have HB2 := Lib.hid (below_two HB.out hb)
  clear HB
  have HB := HB2
  clear HB2
  clear hb
  go_wp2_with fail
  clear HL1 HR1
  refine (identity_k hk).mono ?_
  rintro e w11 ⟨g11, rfl, hx, hb⟩
  have HX2 := Lib.hid (HX.out.later hb)
  clear HX
  have HX := HX2
  clear HX2
  have HY2 := Lib.hid (HY.out.later hb)
  clear HY
  have HY := HY2
  clear HY2
  have HB2 := Lib.hid (below_two HB.out hb)
  clear HB
  have HB := HB2
  clear HB2
  clear hb
  have HI := Lib.hid hx
  clear hx
  go_wp2_with fail
  refine (compose_k hk _ _ HX.out HI.out).mono ?_
  rintro e w12 ⟨g12, rfl, hx, hb⟩
  have HX2 := Lib.hid (HX.out.later hb)
  clear HX
  have HX := HX2
  clear HX2
  have HY2 := Lib.hid (HY.out.later hb)
  clear HY
  have HY := HY2
  clear HY2
  have HI2 := Lib.hid (HI.out.later hb)
  clear HI
  have HI := HI2
  clear HI2
  have HB2 := Lib.hid (below_two HB.out hb)
  clear HB
  have HB := HB2
  clear HB2
  clear hb
  have HXI := Lib.hid hx
  clear hx
  go_wp2_with fail
  clear HI
  refine (same_k hk _ _ HXI.out HX.out (cm_id HX.out.g hk)).mono ?_
  rintro e w13 ⟨rfl, hb⟩
  have HX2 := Lib.hid (HX.out.later hb)
  clear HX
  have HX := HX2
  clear HX2
  have HY2 := Lib.hid (HY.out.later hb)
  clear HY
  have HY := HY2
  clear HY2
  have HXI2 := Lib.hid (HXI.out.later hb)
  clear HXI
  have HXI := HXI2
  clear HXI2
  have HB2 := Lib.hid (below_two HB.out hb)
  clear HB
  have HB := HB2
  clear HB2
  clear hb
  go_wp2_with fail
  clear HXI
  refine (identity_k hk).mono ?_
  rintro e w14 ⟨g14, rfl, hx, hb⟩
  have HX2 := Lib.hid (HX.out.later hb)
  clear HX
  have HX := HX2
  clear HX2
  have HY2 := Lib.hid (HY.out.later hb)
  clear HY
  have HY := HY2
  clear HY2
  have HB2 := Lib.hid (below_two HB.out hb)
  clear HB
  have HB := HB2
  clear HB2
  clear hb
  have HI := Lib.hid hx
  clear hx
  go_wp2_with fail
  refine (compose_k hk _ _ HI.out HX.out).mono ?_
  rintro e w15 ⟨g15, rfl, hx, hb⟩
  have HX2 := Lib.hid (HX.out.later hb)
  clear HX
  have HX := HX2
  clear HX2
  have HY2 := Lib.hid (HY.out.later hb)
  clear HY
  have HY := HY2
  clear HY2
  have HI2 := Lib.hid (HI.out.later hb)
  clear HI
  have HI := HI2
  clear HI2
  have HB2 := Lib.hid (below_two HB.out hb)
  clear HB
  have HB := HB2
  clear HB2
  clear hb
  have HXI := Lib.hid hx
  clear hx
  go_wp2_with fail
  clear HI
  refine (same_k hk _ _ HXI.out HX.out (id_cm HX.out.g hk)).mono ?_
  rintro e w16 ⟨rfl, hb⟩
  have HX2 := Lib.hid (HX.out.later hb)
  clear HX
  have HX := HX2
  clear HX2
  have HY2 := Lib.hid (HY.out.later hb)
  clear HY
  have HY := HY2
  clear HY2
  have HXI2 := Lib.hid (HXI.out.later hb)
  clear HXI
  have HXI := HXI2
  clear HXI2
  have HB2 := Lib.hid (below_two HB.out hb)
  clear HB
  have HB := HB2
  clear HB2
  clear hb
  go_wp2_with fail
  clear HXI
  refine (compose_k hk _ _ HX.out HY.out).mono ?_
  rintro e w17 ⟨g17, rfl, hx, hb⟩
  have HX2 := Lib.hid (HX.out.later hb)
  clear HX
  have HX := HX2
  clear HX2
  have HY2 := Lib.hid (HY.out.later hb)
  clear HY
  have HY := HY2
  clear HY2
  have HB2 := Lib.hid (below_two HB.out hb)
  clear HB
  have HB := HB2
  clear HB2
  clear hb
  have HXY := Lib.hid hx
  clear hx
  go_wp2_with fail
  have hsx : apV x S < 512 := apV_lt (HX.out.g.bd hk) S
  have HE := Lib.hid (ap_ap x y S)
  have HP1 := Lib.hid (fun W A (h : RlK k W A (cmV x y)) => apply_k (w := W) (A := A) hk (k + 1) h hsS)
  rw [HE.out] at HP1
  have HP2 := Lib.hid (fun W A (h : RlK k W A y) => apply_k (w := W) (A := A) hk (k + 1) h hsx)
  clear HE
  generalize apV y (apV x S) = q at *
  have t1 := bT (rfl : (q : Int) = (q : Int))
  refine (HP1.out _ _ HXY.out).mono ?_
  rintro e w18 ⟨rfl, hb⟩
  have HX2 := Lib.hid (HX.out.later hb)
  clear HX
  have HX := HX2
  clear HX2
  have HY2 := Lib.hid (HY.out.later hb)
  clear HY
  have HY := HY2
  clear HY2
  have HXY2 := Lib.hid (HXY.out.later hb)
  clear HXY
  have HXY := HXY2
  clear HXY2
  have HB2 := Lib.hid (below_two HB.out hb)
  clear HB
  have HB := HB2
  clear HB2
  clear hb
  go_wp2_with fail
  refine (apply_k hk _ HX.out hsS).mono ?_
  rintro e w19 ⟨rfl, hb⟩
  have HX2 := Lib.hid (HX.out.later hb)
  clear HX
  have HX := HX2
  clear HX2
  have HY2 := Lib.hid (HY.out.later hb)
  clear HY
  have HY := HY2
  clear HY2
  have HXY2 := Lib.hid (HXY.out.later hb)
  clear HXY
  have HXY := HXY2
  clear HXY2
  have HB2 := Lib.hid (below_two HB.out hb)
  clear HB
  have HB := HB2
  clear HB2
  clear hb
  go_wp2_with fail
  refine (HP2.out _ _ HY.out).mono ?_
  rintro e w20 ⟨rfl, hb⟩
  have HX2 := Lib.hid (HX.out.later hb)
  clear HX
  have HX := HX2
  clear HX2
  have HY2 := Lib.hid (HY.out.later hb)
  clear HY
  have HY := HY2
  clear HY2
  have HXY2 := Lib.hid (HXY.out.later hb)
  clear HXY
  have HXY := HXY2
  clear HXY2
  have HB2 := Lib.hid (below_two HB.out hb)
  clear HB
  have HB := HB2
  clear HB2
  clear hb
  go_wp2_with fail
  clear HX HY HXY
  refine (awake14_any _).mono ?_
  rintro e w21 ⟨rfl, hb⟩
  have HB2 := Lib.hid (below_two HB.out hb)
  clear HB
  have HB := HB2
  clear HB2
  clear hb
  go_wp2_with fail
  go_ret
  exact ⟨rfl, HB.out⟩
end Go.Proofs.Ytdajomkhjaccbaa
