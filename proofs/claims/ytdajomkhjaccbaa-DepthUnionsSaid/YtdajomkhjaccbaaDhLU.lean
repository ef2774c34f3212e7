/- The walk of DepthUnions. -/
import Derived.Test.YtdajomkhjaccbaaDhK
namespace Go.Proofs.Ytdajomkhjaccbaa
open Go.RowKit
set_option maxRecDepth 100000

set_option maxHeartbeats 8000000 in
theorem depthUnions_any (xs : List Int) (A : Option Addr) (capA : Nat) (ys : List Int) (B : Option Addr) (capB : Nat) (zs : List Int) (C : Option Addr) (capC : Nat) (n s t : Int) (w : World) (hA : IrR w A xs) (hmA : xs.length ≤ 9223372036854775807) (hB : IrR w B ys) (hmB : ys.length ≤ 9223372036854775807) (hC : IrR w C zs) (hmC : zs.length ≤ 9223372036854775807) (hn : I64' n) (hs : I64' s) (ht : I64' t) :
    Calls Try.prog 7 #[.slice A xs.length capA, .slice B ys.length capB, .slice C zs.length capC, .int .i64 n, .int .i64 s, .int .i64 t] w fun e w' => e = .returned (.bool true) ∧ Below w.heap.size w w' := by
  have HL := Lib.hid (fun W => limit_any n W hn)
  have hk : within n 9 ≤ 8 := by have := within_lt n 9 (by omega); omega
  generalize within n 9 = k at *
  have HSS := Lib.hid (fun W => set_any s (k : Int) k W hs rfl hk)
  have hsS : within s (2 ^ (k + 1)) < 512 := by have h1 := within_lt s (2 ^ (k + 1)) (Nat.two_pow_pos _); have h2 := pow_le (k + 1) (by omega); omega
  generalize within s (2 ^ (k + 1)) = S at *
  have HST := Lib.hid (fun W => set_any t (k : Int) k W ht rfl hk)
  have hsT : within t (2 ^ (k + 1)) < 512 := by have h1 := within_lt t (2 ^ (k + 1)) (Nat.two_pow_pos _); have h2 := pow_le (k + 1) (by omega); omega
  generalize within t (2 ^ (k + 1)) = T at *
  have HRA := Lib.hid (fun W (h : Below w.heap.size w W) => hA.later h)
  have HRB := Lib.hid (fun W (h : Below w.heap.size w W) => hB.later h)
  have HRC := Lib.hid (fun W (h : Below w.heap.size w W) => hC.later h)
  clear hA hB hC
  clear hn hs ht
  go_enter Try.func7, Try.ntmps7
  go_wp2_with fail
  refine (HL.out _).mono ?_
  rintro e w1 ⟨rfl, rfl⟩
  go_wp2_with fail
  refine (relation_k hk capA (HRA.out _ (Below.refl _ _)) hmA).mono ?_
  rintro e w2 ⟨g2, rfl, hx, hb⟩
  have HB := Lib.hid hb
  clear hb
  have HX := Lib.hid hx
  clear hx
  go_wp2_with fail
  refine (relation_k hk capB (HRB.out _ HB.out) hmB).mono ?_
  rintro e w3 ⟨g3, rfl, hx, hb⟩
  have HX2 := Lib.hid (HX.out.later hb)
  clear HX
  have HX := HX2
  clear HX2
  have HB2 := Lib.hid (below_two HB.out hb)
  clear HB
  have HB := HB2
  clear HB2
  clear hb
  have HY := Lib.hid hx
  clear hx
  go_wp2_with fail
  refine (relation_k hk capC (HRC.out _ HB.out) hmC).mono ?_
  rintro e w4 ⟨g4, rfl, hx, hb⟩
  have HX2 := Lib.hid (HX.out.later hb)
  clear HX
  have HX := HX2
  clear HX2
  have HY2 := Lib.hid (HY.out.later hb)
  clear HY
  have HY := HY2
  clear HY2
  have HB2 := Lib.hid (below_two HB.out hb)
  clear HB
  have HB := HB2
  clear HB2
  clear hb
  have HZ := Lib.hid hx
  clear hx
  go_wp2_with fail
  generalize relV xs k = x at *
  generalize relV ys k = y at *
  generalize relV zs k = z at *
  have HLE : Hid (x.length = y.length) := by show _ = _; rw [HX.out.g.len, HY.out.g.len]
  refine (HSS.out _).mono ?_
  rintro e w5 ⟨rfl, rfl⟩
  go_wp2_with fail
  refine (HST.out _).mono ?_
  rintro e w6 ⟨rfl, rfl⟩
  go_wp2_with fail
  refine (union_k hk _ _ HX.out HY.out).mono ?_
  rintro e w7 ⟨g7, rfl, hx, hb⟩
  have HX2 := Lib.hid (HX.out.later hb)
  clear HX
  have HX := HX2
  clear HX2
  have HY2 := Lib.hid (HY.out.later hb)
  clear HY
  have HY := HY2
  clear HY2
  have HZ2 := Lib.hid (HZ.out.later hb)
  clear HZ
  have HZ := HZ2
  clear HZ2
  have HB2 := Lib.hid (below_two HB.out hb)
  clear HB
  have HB := HB2
  clear HB2
  clear hb
  have HXY := Lib.hid hx
  clear hx
  go_wp2_with fail
  refine (compose_k hk _ _ HXY.out HZ.out).mono ?_
  rintro e w8 ⟨g8, rfl, hx, hb⟩
  have HX2 := Lib.hid (HX.out.later hb)
  clear HX
  have HX := HX2
  clear HX2
  have HY2 := Lib.hid (HY.out.later hb)
  clear HY
  have HY := HY2
  clear HY2
  have HZ2 := Lib.hid (HZ.out.later hb)
  clear HZ
  have HZ := HZ2
  clear HZ2
  have HXY2 := Lib.hid (HXY.out.later hb)
  clear HXY
  have HXY := HXY2
  clear HXY2
  have HB2 := Lib.hid (below_two HB.out hb)
  clear HB
  have HB := HB2
  clear HB2
  clear hb
  have HL1 := Lib.hid hx
  clear hx
  go_wp2_with fail
  clear HXY
  refine (compose_k hk _ _ HX.out HZ.out).mono ?_
  rintro e w9 ⟨g9, rfl, hx, hb⟩
  have HX2 := Lib.hid (HX.out.later hb)
  clear HX
  have HX := HX2
  clear HX2
  have HY2 := Lib.hid (HY.out.later hb)
  clear HY
  have HY := HY2
  clear HY2
  have HZ2 := Lib.hid (HZ.out.later hb)
  clear HZ
  have HZ := HZ2
  clear HZ2
  have HL12 := Lib.hid (HL1.out.later hb)
  clear HL1
  have HL1 := HL12
  clear HL12
  have HB2 := Lib.hid (below_two HB.out hb)
  clear HB
  have HB := HB2
  clear HB2
  clear hb
  have HXZ := Lib.hid hx
  clear hx
  go_wp2_with fail
  refine (compose_k hk _ _ HY.out HZ.out).mono ?_
  rintro e w10 ⟨g10, rfl, hx, hb⟩
  have HX2 := Lib.hid (HX.out.later hb)
  clear HX
  have HX := HX2
  clear HX2
  have HY2 := Lib.hid (HY.out.later hb)
  clear HY
  have HY := HY2
  clear HY2
  have HZ2 := Lib.hid (HZ.out.later hb)
  clear HZ
  have HZ := HZ2
  clear HZ2
  have HL12 := Lib.hid (HL1.out.later hb)
  clear HL1
  have HL1 := HL12
  clear HL12
  have HXZ2 := Lib.hid (HXZ.out.later hb)
  clear HXZ
  have HXZ := HXZ2
  clear HXZ2
  have HB2 := Lib.hid (below_two HB.out hb)
  clear HB
  have HB := HB2
  clear HB2
  clear hb
  have HYZ := Lib.hid hx
  clear hx
  go_wp2_with fail
  refine (union_k hk _ _ HXZ.out HYZ.out).mono ?_
  rintro e w11 ⟨g11, rfl, hx, hb⟩
  have HX2 := Lib.hid (HX.out.later hb)
  clear HX
  have HX := HX2
  clear HX2
  have HY2 := Lib.hid (HY.out.later hb)
  clear HY
  have HY := HY2
  clear HY2
  have HZ2 := Lib.hid (HZ.out.later hb)
  clear HZ
  have HZ := HZ2
  clear HZ2
  have HL12 := Lib.hid (HL1.out.later hb)
  clear HL1
  have HL1 := HL12
  clear HL12
  have HXZ2 := Lib.hid (HXZ.out.later hb)
  clear HXZ
  have HXZ := HXZ2
  clear HXZ2
  have HYZ2 := Lib.hid (HYZ.out.later hb)
  clear HYZ
  have HYZ := HYZ2
  clear HYZ2
  have HB2 := Lib.hid (below_two HB.out hb)
  clear HB
  have HB := HB2
  clear HB2
  clear hb
  have HR1 := Lib.hid hx
  clear hx
  go_wp2_with fail
  clear HYZ HXZ
  refine (same_k hk _ _ HL1.out HR1.out (un_cm z HLE.out)).mono ?_
  rintro e w12 ⟨rfl, hb⟩
  have HX2 := Lib.hid (HX.out.later hb)
  clear HX
  have HX := HX2
  clear HX2
  have HY2 := Lib.hid (HY.out.later hb)
  clear HY
  have HY := HY2
  clear HY2
  have HZ2 := Lib.hid (HZ.out.later hb)
  clear HZ
  have HZ := HZ2
  clear HZ2
  have HL12 := Lib.hid (HL1.out.later hb)
  clear HL1
  have HL1 := HL12
  clear HL12
  have HR12 := Lib.hid (HR1.out.later hb)
  clear HR1
  have HR1 := HR12
  clear HR12
  have HB2 := Lib.hid (below_two HB.out hb)
  clear HB
  have HB := HB2
  clear HB2
  clear hb
  go_wp2_with fail
  clear HL1 HR1
  refine (union_k hk _ _ HX.out HY.out).mono ?_
  rintro e w13 ⟨g13, rfl, hx, hb⟩
  have HX2 := Lib.hid (HX.out.later hb)
  clear HX
  have HX := HX2
  clear HX2
  have HY2 := Lib.hid (HY.out.later hb)
  clear HY
  have HY := HY2
  clear HY2
  have HZ2 := Lib.hid (HZ.out.later hb)
  clear HZ
  have HZ := HZ2
  clear HZ2
  have HB2 := Lib.hid (below_two HB.out hb)
  clear HB
  have HB := HB2
  clear HB2
  clear hb
  have HXY := Lib.hid hx
  clear hx
  go_wp2_with fail
  refine (compose_k hk _ _ HZ.out HXY.out).mono ?_
  rintro e w14 ⟨g14, rfl, hx, hb⟩
  have HX2 := Lib.hid (HX.out.later hb)
  clear HX
  have HX := HX2
  clear HX2
  have HY2 := Lib.hid (HY.out.later hb)
  clear HY
  have HY := HY2
  clear HY2
  have HZ2 := Lib.hid (HZ.out.later hb)
  clear HZ
  have HZ := HZ2
  clear HZ2
  have HXY2 := Lib.hid (HXY.out.later hb)
  clear HXY
  have HXY := HXY2
  clear HXY2
  have HB2 := Lib.hid (below_two HB.out hb)
  clear HB
  have HB := HB2
  clear HB2
  clear hb
  have HL1 := Lib.hid hx
  clear hx
  go_wp2_with fail
  clear HXY
  refine (compose_k hk _ _ HZ.out HX.out).mono ?_
  rintro e w15 ⟨g15, rfl, hx, hb⟩
  have HX2 := Lib.hid (HX.out.later hb)
  clear HX
  have HX := HX2
  clear HX2
  have HY2 := Lib.hid (HY.out.later hb)
  clear HY
  have HY := HY2
  clear HY2
  have HZ2 := Lib.hid (HZ.out.later hb)
  clear HZ
  have HZ := HZ2
  clear HZ2
  have HL12 := Lib.hid (HL1.out.later hb)
  clear HL1
  have HL1 := HL12
  clear HL12
  have HB2 := Lib.hid (below_two HB.out hb)
  clear HB
  have HB := HB2
  clear HB2
  clear hb
  have HXZ := Lib.hid hx
  clear hx
  go_wp2_with fail
  refine (compose_k hk _ _ HZ.out HY.out).mono ?_
  rintro e w16 ⟨g16, rfl, hx, hb⟩
  have HX2 := Lib.hid (HX.out.later hb)
  clear HX
  have HX := HX2
  clear HX2
  have HY2 := Lib.hid (HY.out.later hb)
  clear HY
  have HY := HY2
  clear HY2
  have HZ2 := Lib.hid (HZ.out.later hb)
  clear HZ
  have HZ := HZ2
  clear HZ2
  have HL12 := Lib.hid (HL1.out.later hb)
  clear HL1
  have HL1 := HL12
  clear HL12
  have HXZ2 := Lib.hid (HXZ.out.later hb)
  clear HXZ
  have HXZ := HXZ2
  clear HXZ2
  have HB2 := Lib.hid (below_two HB.out hb)
  clear HB
  have HB := HB2
  clear HB2
  clear hb
  have HYZ := Lib.hid hx
  clear hx
  go_wp2_with fail
  refine (union_k hk _ _ HXZ.out HYZ.out).mono ?_
  rintro e w17 ⟨g17, rfl, hx, hb⟩
  have HX2 := Lib.hid (HX.out.later hb)
  clear HX
  have HX := HX2
  clear HX2
  have HY2 := Lib.hid (HY.out.later hb)
  clear HY
  have HY := HY2
  clear HY2
  have HZ2 := Lib.hid (HZ.out.later hb)
  clear HZ
  have HZ := HZ2
  clear HZ2
  have HL12 := Lib.hid (HL1.out.later hb)
  clear HL1
  have HL1 := HL12
  clear HL12
  have HXZ2 := Lib.hid (HXZ.out.later hb)
  clear HXZ
  have HXZ := HXZ2
  clear HXZ2
  have HYZ2 := Lib.hid (HYZ.out.later hb)
  clear HYZ
  have HYZ := HYZ2
  clear HYZ2
  have HB2 := Lib.hid (below_two HB.out hb)
  clear HB
  have HB := HB2
  clear HB2
  clear hb
  have HR1 := Lib.hid hx
  clear hx
  go_wp2_with fail
  clear HYZ HXZ HZ
  have HJ := Lib.hid (or_nat S T (by omega) (by omega))
  have hST : S ||| T < 512 := or_lt hsS hsT
  have h1 : apV x S < 512 := apV_lt (HX.out.g.bd hk) S
  have h2 : apV x T < 512 := apV_lt (HX.out.g.bd hk) T
  have h3 : apV y S < 512 := apV_lt (HY.out.g.bd hk) S
  have HP1 := Lib.hid (fun W A (h : RlK k W A x) => apply_k (w := W) (A := A) hk (k + 1) h hST)
  rw [ap_or, ← HJ.out] at HP1
  have HP2 := Lib.hid (fun W A (h : RlK k W A x) => apply_k (w := W) (A := A) hk (k + 1) h hsS)
  have HP3 := Lib.hid (fun W A (h : RlK k W A x) => apply_k (w := W) (A := A) hk (k + 1) h hsT)
  have HP4 := Lib.hid (fun W A (h : RlK k W A (unV x y)) => apply_k (w := W) (A := A) hk (k + 1) h hsS)
  rw [un_ap HLE.out] at HP4
  have HP5 := Lib.hid (fun W A (h : RlK k W A y) => apply_k (w := W) (A := A) hk (k + 1) h hsS)
  have HQ := Lib.hid (cm_un (x := x) (y := y) z HLE.out)
  have j1 := or_nat (apV x S) (apV x T) (by omega) (by omega)
  have j2 := or_nat (apV x S) (apV y S) (by omega) (by omega)
  clear HJ
  generalize apV x S = p1 at *
  generalize apV x T = p2 at *
  generalize apV y S = p3 at *
  generalize p1 ||| p2 = q1 at *
  generalize p1 ||| p3 = q2 at *
  have t1 := bT (rfl : (q1 : Int) = (q1 : Int))
  have t2 := bT (rfl : (q2 : Int) = (q2 : Int))
  refine (same_k hk _ _ HL1.out HR1.out HQ.out).mono ?_
  rintro e w18 ⟨rfl, hb⟩
  have HX2 := Lib.hid (HX.out.later hb)
  clear HX
  have HX := HX2
  clear HX2
  have HY2 := Lib.hid (HY.out.later hb)
  clear HY
  have HY := HY2
  clear HY2
  have HL12 := Lib.hid (HL1.out.later hb)
  clear HL1
  have HL1 := HL12
  clear HL12
  have HR12 := Lib.hid (HR1.out.later hb)
  clear HR1
  have HR1 := HR12
  clear HR12
  have HB2 := Lib.hid (below_two HB.out hb)
  clear HB
  have HB := HB2
  clear HB2
  clear hb
  go_wp2_with fail
  clear HL1 HR1
  refine (HP1.out _ _ HX.out).mono ?_
  rintro e w19 ⟨rfl, hb⟩
  have HX2 := Lib.hid (HX.out.later hb)
  clear HX
  have HX := HX2
  clear HX2
  have HY2 := Lib.hid (HY.out.later hb)
  clear HY
  have HY := HY2
  clear HY2
  have HB2 := Lib.hid (below_two HB.out hb)
  clear HB
  have HB := HB2
  clear HB2
  clear hb
  go_wp2_with fail
  refine (HP2.out _ _ HX.out).mono ?_
  rintro e w20 ⟨rfl, hb⟩
  have HX2 := Lib.hid (HX.out.later hb)
  clear HX
  have HX := HX2
  clear HX2
  have HY2 := Lib.hid (HY.out.later hb)
  clear HY
  have HY := HY2
  clear HY2
  have HB2 := Lib.hid (below_two HB.out hb)
  clear HB
  have HB := HB2
  clear HB2
  clear hb
  go_wp2_with fail
  refine (HP3.out _ _ HX.out).mono ?_
  rintro e w21 ⟨rfl, hb⟩
  have HX2 := Lib.hid (HX.out.later hb)
  clear HX
  have HX := HX2
  clear HX2
  have HY2 := Lib.hid (HY.out.later hb)
  clear HY
  have HY := HY2
  clear HY2
  have HB2 := Lib.hid (below_two HB.out hb)
  clear HB
  have HB := HB2
  clear HB2
  clear hb
  go_wp2_with fail
  refine (union_k hk _ _ HX.out HY.out).mono ?_
  rintro e w22 ⟨g22, rfl, hx, hb⟩
  have HX2 := Lib.hid (HX.out.later hb)
  clear HX
  have HX := HX2
  clear HX2
  have HY2 := Lib.hid (HY.out.later hb)
  clear HY
  have HY := HY2
  clear HY2
  have HB2 := Lib.hid (below_two HB.out hb)
  clear HB
  have HB := HB2
  clear HB2
  clear hb
  have HXY := Lib.hid hx
  clear hx
  go_wp2_with fail
  refine (HP4.out _ _ HXY.out).mono ?_
  rintro e w23 ⟨rfl, hb⟩
  have HX2 := Lib.hid (HX.out.later hb)
  clear HX
  have HX := HX2
  clear HX2
  have HY2 := Lib.hid (HY.out.later hb)
  clear HY
  have HY := HY2
  clear HY2
  have HXY2 := Lib.hid (HXY.out.later hb)
  clear HXY
  have HXY := HXY2
  clear HXY2
  have HB2 := Lib.hid (below_two HB.out hb)
  clear HB
  have HB := HB2
  clear HB2
  clear hb
  go_wp2_with fail
  refine (HP2.out _ _ HX.out).mono ?_
  rintro e w24 ⟨rfl, hb⟩
  have HX2 := Lib.hid (HX.out.later hb)
  clear HX
  have HX := HX2
  clear HX2
  have HY2 := Lib.hid (HY.out.later hb)
  clear HY
  have HY := HY2
  clear HY2
  have HXY2 := Lib.hid (HXY.out.later hb)
  clear HXY
  have HXY := HXY2
  clear HXY2
  have HB2 := Lib.hid (below_two HB.out hb)
  clear HB
  have HB := HB2
  clear HB2
  clear hb
  go_wp2_with fail
  refine (HP5.out _ _ HY.out).mono ?_
  rintro e w25 ⟨rfl, hb⟩
  have HX2 := Lib.hid (HX.out.later hb)
  clear HX
  have HX := HX2
  clear HX2
  have HY2 := Lib.hid (HY.out.later hb)
  clear HY
  have HY := HY2
  clear HY2
  have HXY2 := Lib.hid (HXY.out.later hb)
  clear HXY
  have HXY := HXY2
  clear HXY2
  have HB2 := Lib.hid (below_two HB.out hb)
  clear HB
  have HB := HB2
  clear HB2
  clear hb
  go_wp2_with fail
  clear HX HY HXY
  refine (awake14_any _).mono ?_
  rintro e w26 ⟨rfl, hb⟩
  have HB2 := Lib.hid (below_two HB.out hb)
  clear HB
  have HB := HB2
  clear HB2
  clear hb
  go_wp2_with fail
  go_ret
  exact ⟨rfl, HB.out⟩
end Go.Proofs.Ytdajomkhjaccbaa
