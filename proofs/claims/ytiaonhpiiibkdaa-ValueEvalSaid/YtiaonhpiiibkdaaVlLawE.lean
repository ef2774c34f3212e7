/- The walk of ValueEval. -/
import Derived.Test.YtiaonhpiiibkdaaVlMade
import Derived.Deep.DeepCutAuto
namespace Go.Proofs.Ytiaonhpiiibkdaa
open Go.RowKit
set_option maxRecDepth 100000

set_option maxHeartbeats 8000000 in
theorem valueEval_any (xs : List Int) (A : Option Addr) (cap : Nat) (a b c : Int) (w : World) (hR : IntR w A xs) (hc : xs.length ≤ cap) (hm : xs.length ≤ 9223372036854775807) (ha : I64 a) (hb : I64 b) (hcc : I64 c) :
    Calls Try.prog 3 #[.slice A xs.length cap, .int .i64 a, .int .i64 b, .int .i64 c] w fun e w' => e = .returned (.bool true) ∧ Below w.heap.size w w' := by
  have HEX := Lib.hid (madeExpr_any xs A cap w hR hc hm)
  obtain ⟨m1, m2, m3⟩ := madeG_ok xs
  clear hR hc hm
  go_enter Try.func3, Try.ntmps3
  go_wp2_with fail
  refine HEX.out.mono ?_
  rintro e w1 ⟨num, name, A1, n1, c1, rfl, hM1, hb1⟩
  have HR1 := Lib.hid (resolved_any w1 (madeG xs) ⟨(madeG xs).op, num, name, A1, n1, c1⟩ m2 (hM1.more fun _ _ => trivial))
  have HB1 := Lib.hid hb1
  clear hM1 hb1 HEX m1 m2 m3
  go_wp2_with fail
  refine HR1.out.mono ?_
  rintro e w2 ⟨f, rfl, hf, hb2⟩
  have hbx := (Below.refl w2.heap.size w2).alloc (Nat.le_refl _) (.cells #[.int .i64 f.op, .int .i64 f.num, .string ⟨f.name.toArray⟩, .slice f.A f.n f.c] 25)
  have HX2 := Lib.hid (heap_alloc_new w2 (.cells #[.int .i64 f.op, .int .i64 f.num, .string ⟨f.name.toArray⟩, .slice f.A f.n f.c] 25))
  have HF2 : Hid (ExM (w2.alloc (.cells #[.int .i64 f.op, .int .i64 f.num, .string ⟨f.name.toArray⟩, .slice f.A f.n f.c] 25)) (fun _ => True) (vmE xs) f) := (hf.more fun _ _ => trivial).later hbx
  have HB2 := Lib.hid (below_two (below_two HB1.out hb2) hbx)
  unfold EF.val
  clear hf hb2 hbx HB1 HR1
  obtain ⟨v1, v2⟩ := vmE_ok (ng := 2) (nl := 1) (Nat.le_refl _) (Nat.le_refl _) xs
  generalize vmE xs = X at *
  have hs2 : (w2.alloc (.cells #[.int .i64 f.op, .int .i64 f.num, .string ⟨f.name.toArray⟩, .slice f.A f.n f.c] 25)).heap.size = w2.heap.size + 1 := by simp
  have HE := Lib.hid (lawEval_any _ _ hs2 X f a b c HF2.out v1 (by omega) ha hb hcc)
  have HF := Lib.hid (fun W hb' N (hN : W.heap.size = N) => lawRef_any W N hN X f a b c (HF2.out.later hb') v1 ha hb hcc)
  have HX3 := Lib.hid (fun W (hb' : Below (w2.alloc (.cells #[.int .i64 f.op, .int .i64 f.num, .string ⟨f.name.toArray⟩, .slice f.A f.n f.c] 25)).heap.size (w2.alloc (.cells #[.int .i64 f.op, .int .i64 f.num, .string ⟨f.name.toArray⟩, .slice f.A f.n f.c] 25)) W) => blk4 ((hb'.block w2.heap.size (by omega)).trans HX2.out))
  generalize evV [b, c] [a] X = R at *
  clear HX2 hs2
  go_wp2_with fail
  generalize hW : w2.alloc (.cells #[.int .i64 f.op, .int .i64 f.num, .string ⟨f.name.toArray⟩, .slice f.A f.n f.c] 25) = wx at *
  refine HE.out.mono ?_
  rintro e w3 ⟨rfl, hb3⟩
  obtain ⟨y0, y1, y2, y3, -⟩ := HX3.out w3 hb3
  have HB3 := Lib.hid (below_two HB2.out hb3)
  have HF3 := Lib.hid (HF.out w3 hb3 _ rfl)
  clear hW HE HX3 hb3 HB2 HF
  go_wp2_with fail
  refine HF3.out.mono ?_
  rintro e w4 ⟨rfl, hb4⟩
  have HB4 := Lib.hid (below_two HB3.out hb4)
  clear y0 y1 y2 y3 HB3 HF3 hb4
  go_wp2_with fail
  refine (awake7_any w4).mono ?_
  rintro e w5 ⟨rfl, hb5⟩
  have HB5 := Lib.hid (below_two HB4.out hb5)
  clear hb5 HB4
  go_wp2_with fail
  go_ret
  exact ⟨rfl, HB5.out⟩
end Go.Proofs.Ytiaonhpiiibkdaa
