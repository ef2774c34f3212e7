/- What value of package value's step does. -/
import Derived.Test.YtiaonhpiiibkdaaVlVal1
import Derived.Test.YtiaonhpiiibkdaaVlVal2
import Derived.Test.YtiaonhpiiibkdaaVlVal3
namespace Go.Proofs.Ytiaonhpiiibkdaa
open Go.RowKit
set_option maxRecDepth 100000

/-- what is returned for an expression that is decided, told by its operator and number -/
def valB (gs ls : List Int) (op num a b : Int) : Int × Int :=
  if op = 1 then (num, 0) else if op = 18 then (varV ls num, 0) else if op = 19 then (varV gs num, 0) else
  if (op = 6 ∨ op = 7) ∧ b = 0 then (0, 1) else (opV op a b, 0)
theorem valV_eq (gs ls : List Int) (E : Ex) (a b : Int) : valV gs ls E a b = valB gs ls E.op E.numOf a b := rfl

set_option maxHeartbeats 4000000 in
theorem value_any (w : World) (g o b p k : Nat) (x y : Int) (f : EF) (gs ls : List Int) (ga la : Option Addr) (gc lc : Nat) (hs : StpAt w g o b p k x y) (he : EFat w b p f) (ho : f.op = 1 ∨ f.op = 18 ∨ f.op = 19 ∨ 3 ≤ f.op ∧ f.op ≤ 17) (hn : I64 f.num) (hG : IntR w ga gs) (hL : IntR w la ls) :
    Calls Try.prog 24 #[.pointer (some ⟨g, o, none⟩), .slice ga gs.length gc, .slice la ls.length lc] w fun e w' => e = .returned (.tuple #[.int .i64 (valB gs ls f.op f.num x y).1, .int .i64 (valB gs ls f.op f.num x y).2]) ∧ Below w.heap.size w w' := by
  obtain ⟨s0, s1, s2, s3⟩ := hs
  obtain ⟨e0, e1, e2, e3⟩ := he
  obtain ⟨op, num, name, A, n, c⟩ := f
  dsimp only at *
  have HLV := Lib.hid (fun W (h : Below w.heap.size w W) => variable_any ls la lc num W (hL.later h) hn)
  have HGV := Lib.hid (fun W (h : Below w.heap.size w W) => variable_any gs ga gc num W (hG.later h) hn)
  clear hG hL
  have HV : Hid (valB gs ls op num x y = if op = 1 then (num, 0) else if op = 18 then (varV ls num, 0) else if op = 19 then (varV gs num, 0) else if (op = 6 ∨ op = 7) ∧ y = 0 then (0, 1) else (opV op x y, 0)) := rfl
  rcases ho with rfl | rfl | rfl | ho
  · have HV1 : Hid (valB gs ls 1 num x y = (num, 0)) := HV.out
    clear HV
    go_enter Try.func24, Try.ntmps24
    go_wp2
    go_ret2
    rw [HV1.out]
    exact ⟨rfl, Below.refl _ _⟩
  · have HV1 : Hid (valB gs ls 18 num x y = (varV ls num, 0)) := HV.out
    clear HV
    go_enter Try.func24, Try.ntmps24
    go_wp2_with fail
    refine (HLV.out _ (Below.refl _ _)).mono ?_
    rintro e w1 ⟨rfl, rfl⟩
    go_wp2
    go_ret2
    rw [HV1.out]
    exact ⟨rfl, Below.refl _ _⟩
  · have HV1 : Hid (valB gs ls 19 num x y = (varV gs num, 0)) := HV.out
    clear HV
    go_enter Try.func24, Try.ntmps24
    go_wp2_with fail
    refine (HGV.out _ (Below.refl _ _)).mono ?_
    rintro e w1 ⟨rfl, rfl⟩
    go_wp2
    go_ret2
    rw [HV1.out]
    exact ⟨rfl, Below.refl _ _⟩
  · clear HLV HGV
    have t1 := bF (show op ≠ 1 by omega)
    have t18 := bF (show op ≠ 18 by omega)
    have t19 := bF (show op ≠ 19 by omega)
    have HV0 : Hid (valB gs ls op num x y = if (op = 6 ∨ op = 7) ∧ y = 0 then (0, 1) else (opV op x y, 0)) := by
      show _ = _
      rw [HV.out, if_neg (by omega), if_neg (by omega), if_neg (by omega)]
    clear HV
    by_cases h67 : (op = 6 ∨ op = 7) ∧ y = 0
    · obtain ⟨h67, hy⟩ := h67
      have HV1 : Hid (valB gs ls op num x y = (0, 1)) := by show _ = _; rw [HV0.out, if_pos ⟨h67, hy⟩]
      have ty := bT hy
      clear HV0 hy
      rcases h67 with rfl | rfl
      all_goals
        go_enter Try.func24, Try.ntmps24
        go_wp2
        go_ret2
        rw [HV1.out]
        exact ⟨rfl, Below.refl _ _⟩
    · rw [HV0.out, if_neg h67]
      have hc : op = 3 ∨ op = 4 ∨ op = 5 ∨ op = 6 ∨ op = 7 ∨ op = 8 ∨ op = 9 ∨ op = 10 ∨ op = 11 ∨ op = 12 ∨ op = 13 ∨ op = 14 ∨ op = 15 ∨ op = 16 ∨ op = 17 := by omega
      rcases hc with rfl | rfl | rfl | rfl | rfl | rfl | rfl | rfl | rfl | rfl | rfl | rfl | rfl | rfl | rfl
      · exact val3_any w g o b p x y _ _ s0 s2 s3 e0
      · exact val4_any w g o b p x y _ _ s0 s2 s3 e0
      · exact val5_any w g o b p x y _ _ s0 s2 s3 e0
      · exact val6_any w g o b p x y _ _ s0 s2 s3 e0 (fun h => h67 ⟨by omega, h⟩)
      · exact val7_any w g o b p x y _ _ s0 s2 s3 e0 (fun h => h67 ⟨by omega, h⟩)
      · exact val8_any w g o b p x y _ _ s0 s2 s3 e0
      · exact val9_any w g o b p x y _ _ s0 s2 s3 e0
      · exact val10_any w g o b p x y _ _ s0 s2 s3 e0
      · exact val11_any w g o b p x y _ _ s0 s2 s3 e0
      · exact val12_any w g o b p x y _ _ s0 s2 s3 e0
      · exact val13_any w g o b p x y _ _ s0 s2 s3 e0
      · exact val14_any w g o b p x y _ _ s0 s2 s3 e0
      · exact val15_any w g o b p x y _ _ s0 s2 s3 e0
      · exact val16_any w g o b p x y _ _ s0 s2 s3 e0
      · exact val17_any w g o b p x y _ _ s0 s2 s3 e0
end Go.Proofs.Ytiaonhpiiibkdaa
