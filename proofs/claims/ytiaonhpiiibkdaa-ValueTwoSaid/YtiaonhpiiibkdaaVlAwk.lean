/- What awake of the laws of package value returns. -/
import Derived.Test.YtiaonhpiiibkdaaVlEval
import Derived.Test.YtiaonhpiiibkdaaVlRef
import Derived.Test.YtiaonhpiiibkdaaVlNum
namespace Go.Proofs.Ytiaonhpiiibkdaa
open Go.RowKit
set_option maxRecDepth 100000

theorem evalF_any (w : World) (E : Ex) (f : EF) (gs ls : List Int) (ga la : Option Addr) (gc lc : Nat) (hM : ExM w (fun _ => True) E f) (hR : RsOk gs.length ls.length E) (hC : exCnt E ≤ 10000000000) (hG : IntR w ga gs) (hL : IntR w la ls) (hag : AllI gs) (hal : AllI ls) :
    Calls Try.prog 12 #[f.val, .slice ga gs.length gc, .slice la ls.length lc] w fun e w' => e = .returned (.tuple #[.int .i64 (evV gs ls E).1, .int .i64 (evV gs ls E).2]) ∧ Below w.heap.size w w' :=
  eval_any w E f.op f.num f.name f.A f.n f.c gs ls ga la gc lc hM hR hC hG hL hag hal
theorem intR_nil (w : World) (A : Option Addr) : IntR w A [] := fun i hi => absurd hi (by simp)
theorem allI_nil : AllI [] := fun i hi => absurd hi (by simp)
/-- without variables -/
theorem evalN_any (w : World) (E : Ex) (f : EF) (x z : Int) (hM : ExM w (fun _ => True) E f) (hR : RsOk 0 0 E) (hC : exCnt E ≤ 10000000000) (hx : evV [] [] E = (x, z)) :
    Calls Try.prog 12 #[f.val, .slice none 0 0, .slice none 0 0] w fun e w' => e = .returned (.tuple #[.int .i64 x, .int .i64 z]) ∧ Below w.heap.size w w' := by
  have h := evalF_any w E f [] [] none none 0 0 hM hR hC (intR_nil _ _) (intR_nil _ _) allI_nil allI_nil
  rw [hx] at h
  exact h
theorem evalTwo_any (w : World) (op a b : Int) (f : EF) (x z : Int) (ho : 5 ≤ op ∧ op ≤ 17) (ha : I64 a) (hb : I64 b) (hM : ExM w (w.heap.size ≤ ·) (twoE op a b) f ∨ ExM w (fun _ => True) (twoE op a b) f) (hx : twoV op a b = (x, z)) :
    Calls Try.prog 12 #[f.val, .slice none 0 0, .slice none 0 0] w fun e w' => e = .returned (.tuple #[.int .i64 x, .int .i64 z]) ∧ Below w.heap.size w w' := by
  obtain ⟨h1, h2⟩ := twoE_ok 0 0 op a b ho ha hb
  refine evalN_any w _ f x z ?_ h1 (by omega) (by rw [twoE_ev [] [] op a b ho ha hb, hx])
  rcases hM with h | h
  · exact h.more fun _ _ => trivial
  · exact h
/-- 1 || 1 / 0 -/
def orE : Ex := .mk 17 0 [] [numE 1, twoE 6 1 0]
theorem i64_of {x : Int} (h : -9223372036854775808 ≤ x ∧ x ≤ 9223372036854775807) : I64 x := h
theorem orE_ok : RsOk 0 0 orE ∧ exCnt orE ≤ 14 ∧ evV [] [] orE = (1, 0) := by
  obtain ⟨a1, a2⟩ := numE_ok 0 0 1 (i64_of (by omega))
  obtain ⟨b1, b2⟩ := twoE_ok 0 0 6 1 0 (by omega) (i64_of (by omega)) (i64_of (by omega))
  unfold orE
  refine ⟨.mk _ _ _ _ (by omega) (by simp) (.inr (.inr ⟨by omega, by omega, rfl⟩)) (fun j hj => ?_), ?_, ?_⟩
  · have : j = 0 ∨ j = 1 := by simp at hj; omega
    rcases this with rfl | rfl
    · exact a1
    · exact b1
  · rw [exCnt, exCnts, exCnts, exCnts]; omega
  · rw [evV_mk, evVs_cons, evVs_cons, evVs_nil, numE_ev [] [] 1 (i64_of (by omega))]
    unfold finV
    rw [if_neg (by omega), if_neg (by omega), if_neg (by omega)]
    simp

/-- a node over two new elements -/
theorem pair_mem {w : World} {E E' : Ex} {f f' : EF} (op : Int) (h : ExM w (fun _ => True) E f) (h' : ExM w (fun _ => True) E' f') :
    ExM (w.alloc (.cells #[.int .i64 f.op, .int .i64 f.num, .string ⟨f.name.toArray⟩, .slice f.A f.n f.c, .int .i64 f'.op, .int .i64 f'.num, .string ⟨f'.name.toArray⟩, .slice f'.A f'.n f'.c] 25)) (fun _ => True) (.mk op 0 [] [E, E']) ⟨op, 0, [], some ⟨w.heap.size, 0, none⟩, 2, 2⟩ := by
  have q : ∀ j, (w.alloc (.cells #[.int .i64 f.op, .int .i64 f.num, .string ⟨f.name.toArray⟩, .slice f.A f.n f.c, .int .i64 f'.op, .int .i64 f'.num, .string ⟨f'.name.toArray⟩, .slice f'.A f'.n f'.c] 25)).cell? ⟨w.heap.size, j, none⟩ = _ := fun j => cell_of_row _ w.heap.size j _ _ _ (heap_alloc_new w _)
  have hb := (Below.refl w.heap.size w).alloc (Nat.le_refl _) (.cells #[.int .i64 f.op, .int .i64 f.num, .string ⟨f.name.toArray⟩, .slice f.A f.n f.c, .int .i64 f'.op, .int .i64 f'.num, .string ⟨f'.name.toArray⟩, .slice f'.A f'.n f'.c] 25)
  exact ExM.two op 0 [] w.heap.size 0 2 trivial ⟨q 0, q 1, q 2, q 3⟩ ⟨q 4, q 5, q 6, q 7⟩ (h.later hb) (h'.later hb)

set_option maxHeartbeats 8000000 in
theorem awake7_any (w : World) : Calls Try.prog 14 #[] w fun e w' => e = .returned (.bool true) ∧ Below w.heap.size w w' := by
  have HT := Lib.hid (fun op a b W (ha : I64 a) (hb : I64 b) => two_any op a b W ha hb)
  have HN := Lib.hid (fun W => number_any 1 W (i64_of (by omega)))
  go_enter Try.func14, Try.ntmps14
  go_wp2_with fail
  refine (HT.out 6 7 (-2) w (i64_of (by omega)) (i64_of (by omega))).mono ?_
  rintro e w1 ⟨f1, rfl, hf1, hb1⟩
  have HB1 := Lib.hid hb1
  have HE1 := Lib.hid (evalTwo_any w1 6 7 (-2) f1 (-3) 0 (by omega) (i64_of (by omega)) (i64_of (by omega)) (.inr (hf1.more fun _ _ => trivial)) (by decide +kernel))
  clear hf1 hb1
  go_wp2_with fail
  refine HE1.out.mono ?_
  rintro e w2 ⟨rfl, hb2⟩
  have HB2 := Lib.hid (below_two HB1.out hb2)
  clear hb2 HB1 HE1
  go_wp2_with fail
  refine (HT.out 7 7 (-2) w2 (i64_of (by omega)) (i64_of (by omega))).mono ?_
  rintro e w3 ⟨f3, rfl, hf3, hb3⟩
  have HB3 := Lib.hid (below_two HB2.out hb3)
  have HE3 := Lib.hid (evalTwo_any w3 7 7 (-2) f3 1 0 (by omega) (i64_of (by omega)) (i64_of (by omega)) (.inr (hf3.more fun _ _ => trivial)) (by decide +kernel))
  clear hf3 hb3 HB2
  go_wp2_with fail
  refine HE3.out.mono ?_
  rintro e w4 ⟨rfl, hb4⟩
  have HB4 := Lib.hid (below_two HB3.out hb4)
  clear hb4 HB3 HE3
  go_wp2_with fail
  refine (HN.out w4).mono ?_
  rintro e w5 ⟨f5, rfl, hf5, hb5⟩
  have HB5 := Lib.hid (below_two HB4.out hb5)
  have HF5 := Lib.hid hf5
  clear hf5 hb5 HB4
  go_wp2_with fail
  refine (HT.out 6 1 0 w5 (i64_of (by omega)) (i64_of (by omega))).mono ?_
  rintro e w6 ⟨f6, rfl, hf6, hb6⟩
  have HB6 := Lib.hid (below_two HB5.out hb6)
  have HF6 := Lib.hid hf6
  have HF5' := Lib.hid (HF5.out.later hb6)
  unfold EF.val
  clear hf6 hb6 HB5 HF5
  go_wp2_with fail
  have HB7 := Lib.hid (HB6.out.alloc HB6.out.size (.cells #[.int .i64 f5.op, .int .i64 f5.num, .string ⟨f5.name.toArray⟩, .slice f5.A f5.n f5.c, .int .i64 f6.op, .int .i64 f6.num, .string ⟨f6.name.toArray⟩, .slice f6.A f6.n f6.c] 25))
  refine (evalN_any _ orE ⟨17, 0, [], some ⟨w6.heap.size, 0, none⟩, 2, 2⟩ 1 0 (pair_mem 17 (HF5'.out.more fun _ _ => trivial) (HF6.out.more fun _ _ => trivial)) orE_ok.1 (by have := orE_ok.2.1; omega) orE_ok.2.2).mono ?_
  rintro e w7 ⟨rfl, hb7⟩
  have HB8 := Lib.hid (below_two HB7.out hb7)
  clear hb7 HB7 HF5' HF6 HB6
  go_wp2_with fail
  refine (HT.out 6 1 0 w7 (i64_of (by omega)) (i64_of (by omega))).mono ?_
  rintro e w8 ⟨f8, rfl, hf8, hb8⟩
  have HB9 := Lib.hid (below_two HB8.out hb8)
  have HE8 := Lib.hid (evalTwo_any w8 6 1 0 f8 0 1 (by omega) (i64_of (by omega)) (i64_of (by omega)) (.inr (hf8.more fun _ _ => trivial)) (by decide +kernel))
  clear hf8 hb8 HB8
  go_wp2_with fail
  refine HE8.out.mono ?_
  rintro e w9 ⟨rfl, hb9⟩
  have HBA := Lib.hid (below_two HB9.out hb9)
  clear hb9 HB9 HE8
  go_wp2_with fail
  go_ret
  exact ⟨rfl, HBA.out⟩
end Go.Proofs.Ytiaonhpiiibkdaa
