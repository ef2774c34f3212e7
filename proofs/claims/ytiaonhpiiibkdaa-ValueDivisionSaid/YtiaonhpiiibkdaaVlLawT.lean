/- The walks of ValueTwo, ValueDivision and ValueStops. -/
import Derived.Test.YtiaonhpiiibkdaaVlMade
namespace Go.Proofs.Ytiaonhpiiibkdaa
open Go.RowKit
set_option maxRecDepth 100000

/-- the reference's Eval without variables -/
theorem refTwo_any (w : World) (op a b : Int) (f : EF) (x z : Int) (ho : 5 ≤ op ∧ op ≤ 17) (ha : I64 a) (hb : I64 b) (hM : ExM w (fun _ => True) (twoE op a b) f) (hx : twoV op a b = (x, z)) :
    Calls Try.prog 13 #[f.val, .slice none 0 0, .slice none 0 0] w fun e w' => e = .returned (.tuple #[.int .i64 x, .int .i64 z]) ∧ Below w.heap.size w w' := by
  obtain ⟨h1, h2⟩ := twoE_ok 0 0 op a b ho ha hb
  have h := refEval_any w (twoE op a b) f [] [] none none 0 0 hM h1 (intR_nil _ _) (intR_nil _ _) allI_nil allI_nil
  rw [twoE_ev [] [] op a b ho ha hb, hx] at h
  exact h
/-- an expression of two numbers is made and evaluated -/
theorem twoEval_any (op a b x z : Int) (ho : 5 ≤ op ∧ op ≤ 17) (ha : I64 a) (hb : I64 b) (hx : twoV op a b = (x, z)) (w : World) :
    Calls Try.prog 16 #[.int .i64 op, .int .i64 a, .int .i64 b] w fun e w' => ∃ f : EF, e = .returned f.val ∧ Below w.heap.size w w' ∧
      (∀ W, Below w'.heap.size w' W → Calls Try.prog 12 #[f.val, .slice none 0 0, .slice none 0 0] W fun e w' => e = .returned (.tuple #[.int .i64 x, .int .i64 z]) ∧ Below W.heap.size W w') ∧
      (∀ W, Below w'.heap.size w' W → Calls Try.prog 13 #[f.val, .slice none 0 0, .slice none 0 0] W fun e w' => e = .returned (.tuple #[.int .i64 x, .int .i64 z]) ∧ Below W.heap.size W w') := by
  refine (two_any op a b w ha hb).mono ?_
  rintro e w1 ⟨f, rfl, hf, hb1⟩
  have hM : ExM w1 (fun _ => True) (twoE op a b) f := hf.more fun _ _ => trivial
  exact ⟨f, rfl, hb1, fun W h => evalTwo_any W op a b f x z ho ha hb (.inr (hM.later h)) hx, fun W h => refTwo_any W op a b f x z ho ha hb (hM.later h) hx⟩

theorem within_i64 (x : Int) (n : Nat) (h : 0 < n) : (0 : Int) ≤ (within x n : Int) ∧ (within x n : Int) < n := by
  have := within_lt x n h
  omega
set_option maxHeartbeats 8000000 in
theorem valueTwo_any (op a b : Int) (small : Bool) (w : World) (ho : I64 op) (ha : I64 a) (hb : I64 b) :
    Calls Try.prog 4 #[.int .i64 op, .int .i64 a, .int .i64 b, .bool small] w fun e w' => e = .returned (.bool true) ∧ Below w.heap.size w w' := by
  have HW := Lib.hid (fun x (n : Int) W (hx : I64 x) (h0 : 0 < n) (h1 : n ≤ 4611686018427387904) => within_big x n W hx h0 h1)
  go_enter Try.func4, Try.ntmps4
  go_wp2_with fail
  refine (HW.out op 13 w ho (by omega) (by omega)).mono ?_
  rintro e w0 ⟨rfl, rfl⟩
  have hq := within_i64 op 13 (by omega)
  rw [show (13 : Int).toNat = 13 from rfl]
  clear ho
  generalize ((within op 13 : Nat) : Int) = q at *
  cases small with
  | true =>
    go_wp2_with fail
    refine (HW.out a 7 w ha (by omega) (by omega)).mono ?_
    rintro e w0 ⟨rfl, rfl⟩
    rw [show (7 : Int).toNat = 7 from rfl]
    have hqa := within_i64 a 7 (by omega)
    generalize ((within a 7 : Nat) : Int) = qa at *
    obtain ⟨hqa0, hqa1⟩ := hqa
    go_wp2_with fail
    refine (HW.out b 7 w hb (by omega) (by omega)).mono ?_
    rintro e w0 ⟨rfl, rfl⟩
    rw [show (7 : Int).toNat = 7 from rfl]
    have hqb := within_i64 b 7 (by omega)
    generalize ((within b 7 : Nat) : Int) = qb at *
    obtain ⟨hqb0, hqb1⟩ := hqb
    clear ha hb
    have ho : 5 ≤ 5 + q ∧ 5 + q ≤ 17 := by omega
    have ha : I64 (qa - 3) := by unfold I64; omega
    have hb : I64 (qb - 3) := by unfold I64; omega
    go_wp2_with fail
    generalize 5 + q = o at *
    generalize qa - 3 = a at *
    generalize qb - 3 = b at *
    clear hq hqa0 hqa1 hqb0 hqb1 HW
    obtain ⟨x, z, hx⟩ : ∃ x z, twoV o a b = (x, z) := by generalize twoV o a b = r; exact ⟨r.1, r.2, rfl⟩
    have HT := Lib.hid (fun W => twoEval_any o a b x z ho ha hb hx W)
    have HN := Lib.hid (fun W => number_any a W ha)
    have HNE : Hid (RsOk 0 0 (numE a) ∧ exCnt (numE a) ≤ 4 ∧ evV [] [] (numE a) = (a, 0)) := ⟨(numE_ok 0 0 a ha).1, (numE_ok 0 0 a ha).2, numE_ev [] [] a ha⟩
    clear ho ha hb hx
    refine (HT.out w).mono ?_
    rintro e w1 ⟨f1, rfl, hb1, he1, -⟩
    have HB1 := Lib.hid hb1
    have HE1 := Lib.hid (he1 w1 (Below.refl _ _))
    clear hb1 he1
    go_wp2_with fail
    refine HE1.out.mono ?_
    rintro e w2 ⟨rfl, hb2⟩
    have HB2 := Lib.hid (below_two HB1.out hb2)
    clear hb2 HB1 HE1
    go_wp2_with fail
    refine (HT.out w2).mono ?_
    rintro e w3 ⟨f3, rfl, hb3, -, he3⟩
    have HB3 := Lib.hid (below_two HB2.out hb3)
    have HE3 := Lib.hid (he3 w3 (Below.refl _ _))
    clear hb3 he3 HB2
    go_wp2_with fail
    refine HE3.out.mono ?_
    rintro e w4 ⟨rfl, hb4⟩
    have HB4 := Lib.hid (below_two HB3.out hb4)
    clear hb4 HB3 HE3
    go_wp2_with fail
    refine (HN.out w4).mono ?_
    rintro e w5 ⟨f5, rfl, hf5, hb5⟩
    have HB5 := Lib.hid (below_two HB4.out hb5)
    have HE5 := Lib.hid (evalN_any w5 (numE a) f5 a 0 (hf5.more fun _ _ => trivial) HNE.out.1 (by have := HNE.out.2.1; omega) HNE.out.2.2)
    clear hf5 hb5 HB4
    go_wp2_with fail
    refine HE5.out.mono ?_
    rintro e w6 ⟨rfl, hb6⟩
    have HB6 := Lib.hid (below_two HB5.out hb6)
    clear hb6 HB5 HE5
    go_wp2_with fail
    refine (awake7_any w6).mono ?_
    rintro e w7 ⟨rfl, hb7⟩
    have HB7 := Lib.hid (below_two HB6.out hb7)
    clear hb7 HB6
    go_wp2_with fail
    go_ret
    exact ⟨rfl, HB7.out⟩
  | false =>
    have ho : 5 ≤ 5 + q ∧ 5 + q ≤ 17 := by omega
    go_wp2_with fail
    generalize 5 + q = o at *
    clear hq HW
    obtain ⟨x, z, hx⟩ : ∃ x z, twoV o a b = (x, z) := by generalize twoV o a b = r; exact ⟨r.1, r.2, rfl⟩
    have HT := Lib.hid (fun W => twoEval_any o a b x z ho ha hb hx W)
    have HN := Lib.hid (fun W => number_any a W ha)
    have HNE : Hid (RsOk 0 0 (numE a) ∧ exCnt (numE a) ≤ 4 ∧ evV [] [] (numE a) = (a, 0)) := ⟨(numE_ok 0 0 a ha).1, (numE_ok 0 0 a ha).2, numE_ev [] [] a ha⟩
    clear ho ha hb hx
    refine (HT.out w).mono ?_
    rintro e w1 ⟨f1, rfl, hb1, he1, -⟩
    have HB1 := Lib.hid hb1
    have HE1 := Lib.hid (he1 w1 (Below.refl _ _))
    clear hb1 he1
    go_wp2_with fail
    refine HE1.out.mono ?_
    rintro e w2 ⟨rfl, hb2⟩
    have HB2 := Lib.hid (below_two HB1.out hb2)
    clear hb2 HB1 HE1
    go_wp2_with fail
    refine (HT.out w2).mono ?_
    rintro e w3 ⟨f3, rfl, hb3, -, he3⟩
    have HB3 := Lib.hid (below_two HB2.out hb3)
    have HE3 := Lib.hid (he3 w3 (Below.refl _ _))
    clear hb3 he3 HB2
    go_wp2_with fail
    refine HE3.out.mono ?_
    rintro e w4 ⟨rfl, hb4⟩
    have HB4 := Lib.hid (below_two HB3.out hb4)
    clear hb4 HB3 HE3
    go_wp2_with fail
    refine (HN.out w4).mono ?_
    rintro e w5 ⟨f5, rfl, hf5, hb5⟩
    have HB5 := Lib.hid (below_two HB4.out hb5)
    have HE5 := Lib.hid (evalN_any w5 (numE a) f5 a 0 (hf5.more fun _ _ => trivial) HNE.out.1 (by have := HNE.out.2.1; omega) HNE.out.2.2)
    clear hf5 hb5 HB4
    go_wp2_with fail
    refine HE5.out.mono ?_
    rintro e w6 ⟨rfl, hb6⟩
    have HB6 := Lib.hid (below_two HB5.out hb6)
    clear hb6 HB5 HE5
    go_wp2_with fail
    refine (awake7_any w6).mono ?_
    rintro e w7 ⟨rfl, hb7⟩
    have HB7 := Lib.hid (below_two HB6.out hb7)
    clear hb7 HB6
    go_wp2_with fail
    go_ret
    exact ⟨rfl, HB7.out⟩
end Go.Proofs.Ytiaonhpiiibkdaa
