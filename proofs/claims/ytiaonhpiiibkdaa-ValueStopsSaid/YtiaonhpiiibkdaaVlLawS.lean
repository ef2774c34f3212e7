/- The walk of ValueStops. -/
import Derived.Test.YtiaonhpiiibkdaaVlMade
namespace Go.Proofs.Ytiaonhpiiibkdaa
open Go.RowKit
set_option maxRecDepth 100000

/-- number(a) && 5 % 0, number(a) || 5 % 0 -/
def stE (op a : Int) : Ex := .mk op 0 [] [numE a, twoE 7 5 0]
theorem stE_ok (op a : Int) (ho : 5 ≤ op ∧ op ≤ 17) (ha : I64 a) : RsOk 0 0 (stE op a) ∧ exCnt (stE op a) ≤ 14 := by
  obtain ⟨a1, a2⟩ := numE_ok 0 0 a ha
  obtain ⟨b1, b2⟩ := twoE_ok 0 0 7 5 0 (by omega) (i64_of (by omega)) (i64_of (by omega))
  unfold stE
  refine ⟨.mk _ _ _ _ (by omega) (by simp) (.inr (.inr ⟨ho.1, ho.2, rfl⟩)) (fun j hj => ?_), ?_⟩
  · have : j = 0 ∨ j = 1 := by simp at hj; omega
    rcases this with rfl | rfl
    · exact a1
    · exact b1
  · rw [exCnt, exCnts, exCnts, exCnts]; omega
theorem stE_ev (op a : Int) (ho : 5 ≤ op ∧ op ≤ 17) (ha : I64 a) : evV [] [] (stE op a) = if op = 16 ∧ a = 0 then (0, 0) else if op = 17 ∧ a ≠ 0 then (1, 0) else (0, 1) := by
  unfold stE
  rw [evV_mk, evVs_cons, evVs_cons, evVs_nil, numE_ev [] [] a ha, twoE_ev [] [] 7 5 0 (by omega) (i64_of (by omega)) (i64_of (by omega))]
  unfold finV twoV
  rw [if_neg (by omega), if_neg (by omega), if_neg (by omega)]
  simp

set_option maxHeartbeats 8000000 in
theorem valueStops_any (a : Int) (or : Bool) (w : World) (ha : I64 a) :
    Calls Try.prog 7 #[.int .i64 a, .bool or] w fun e w' => e = .returned (.bool true) ∧ Below w.heap.size w w' := by
  have HN := Lib.hid (fun W => number_any a W ha)
  have HT := Lib.hid (fun W => two_any 7 5 0 W (i64_of (by omega)) (i64_of (by omega)))
  go_enter Try.func7, Try.ntmps7
  go_wp2_with fail
  refine (HN.out w).mono ?_
  rintro e w1 ⟨f1, rfl, hf1, hb1⟩
  have HB1 := Lib.hid hb1
  have HF1 := Lib.hid hf1
  unfold EF.val
  clear hf1 hb1 HN
  go_wp2_with fail
  refine (HT.out w1).mono ?_
  rintro e w2 ⟨f2, rfl, hf2, hb2⟩
  have HB2 := Lib.hid (below_two HB1.out hb2)
  have HP := fun op => Lib.hid (pair_mem op ((HF1.out.more (S' := fun _ => True) fun _ _ => trivial).later hb2) (hf2.more (S' := fun _ => True) fun _ _ => trivial))
  have HB3 := Lib.hid (HB2.out.alloc HB2.out.size (.cells #[.int .i64 f1.op, .int .i64 f1.num, .string ⟨f1.name.toArray⟩, .slice f1.A f1.n f1.c, .int .i64 f2.op, .int .i64 f2.num, .string ⟨f2.name.toArray⟩, .slice f2.A f2.n f2.c] 25))
  unfold EF.val
  clear hf2 hb2 HF1 HB1 HB2 HT
  have HSO := Lib.hid (stE_ok)
  have HSE := Lib.hid (stE_ev)
  have HNV : Hid (∀ (op x z : Int) (f : EF) (W : World), 5 ≤ op ∧ op ≤ 17 → ExM W (fun _ => True) (stE op a) f → evV [] [] (stE op a) = (x, z) → Calls Try.prog 12 #[f.val, .slice none 0 0, .slice none 0 0] W fun e w' => e = .returned (.tuple #[.int .i64 x, .int .i64 z]) ∧ Below W.heap.size W w') := fun op x z f W ho hM hx =>
    evalN_any W (stE op a) f x z hM (HSO.out op a ho ha).1 (by have := (HSO.out op a ho ha).2; omega) hx
  clear HSO
  cases or with
  | true =>
    by_cases h0 : a = 0
    · have t0 := bT h0
      go_wp2_with fail
      refine (HNV.out 17 0 1 ⟨17, 0, [], some ⟨w2.heap.size, 0, none⟩, 2, 2⟩ _ (by omega) ((HP 17).out.later ((Below.refl _ _).alloc (Nat.le_refl _) _)) (by rw [HSE.out 17 a (by omega) ha]; simp [h0])).mono ?_
      rintro e w4 ⟨rfl, hb4⟩
      have HB4 := Lib.hid (below_two (HB3.out.alloc HB3.out.size _) hb4)
      clear hb4 HB3 HP HNV HSE
      go_wp2_with fail
      refine (awake7_any w4).mono ?_
      rintro e w5 ⟨rfl, hb5⟩
      have HB5 := Lib.hid (below_two HB4.out hb5)
      clear hb5 HB4
      go_wp2_with fail
      go_ret
      exact ⟨rfl, HB5.out⟩
    · have t0 := bF h0
      go_wp2_with fail
      refine (HNV.out 17 1 0 ⟨17, 0, [], some ⟨w2.heap.size, 0, none⟩, 2, 2⟩ _ (by omega) ((HP 17).out.later ((Below.refl _ _).alloc (Nat.le_refl _) _)) (by rw [HSE.out 17 a (by omega) ha]; simp [h0])).mono ?_
      rintro e w4 ⟨rfl, hb4⟩
      have HB4 := Lib.hid (below_two (HB3.out.alloc HB3.out.size _) hb4)
      clear hb4 HB3 HP HNV HSE
      go_wp2_with fail
      refine (awake7_any w4).mono ?_
      rintro e w5 ⟨rfl, hb5⟩
      have HB5 := Lib.hid (below_two HB4.out hb5)
      clear hb5 HB4
      go_wp2_with fail
      go_ret
      exact ⟨rfl, HB5.out⟩
  | false =>
    by_cases h0 : a = 0
    · have t0 := bT h0
      go_wp2_with fail
      refine (HNV.out 16 0 0 ⟨16, 0, [], some ⟨w2.heap.size, 0, none⟩, 2, 2⟩ _ (by omega) ((HP 16).out.later ((Below.refl _ _).alloc (Nat.le_refl _) _)) (by rw [HSE.out 16 a (by omega) ha]; simp [h0])).mono ?_
      rintro e w4 ⟨rfl, hb4⟩
      have HB4 := Lib.hid (below_two (HB3.out.alloc HB3.out.size _) hb4)
      clear hb4 HB3 HP HNV HSE
      go_wp2_with fail
      refine (awake7_any w4).mono ?_
      rintro e w5 ⟨rfl, hb5⟩
      have HB5 := Lib.hid (below_two HB4.out hb5)
      clear hb5 HB4
      go_wp2_with fail
      go_ret
      exact ⟨rfl, HB5.out⟩
    · have t0 := bF h0
      have t1 : (a != 0) = true := bne_iff_ne.2 h0
      have t2 : (!(a != 0)) = false := by rw [t1]; rfl
      go_wp2_with fail
      refine (HNV.out 16 0 1 ⟨16, 0, [], some ⟨w2.heap.size, 0, none⟩, 2, 2⟩ _ (by omega) ((HP 16).out.later ((Below.refl _ _).alloc (Nat.le_refl _) _)) (by rw [HSE.out 16 a (by omega) ha]; simp [h0])).mono ?_
      rintro e w4 ⟨rfl, hb4⟩
      have HB4 := Lib.hid (below_two (HB3.out.alloc HB3.out.size _) hb4)
      clear hb4 HB3 HP HNV HSE
      go_wp2_with fail
      refine (awake7_any w4).mono ?_
      rintro e w5 ⟨rfl, hb5⟩
      have HB5 := Lib.hid (below_two HB4.out hb5)
      clear hb5 HB4
      go_wp2_with fail
      go_ret
      exact ⟨rfl, HB5.out⟩
end Go.Proofs.Ytiaonhpiiibkdaa
