/- What index and ref of the writer of the made programs return. -/
import Derived.Test.YtlnbmmgbfgmboaaMdKG
namespace Go.Proofs.Ytlnbmmgbfgmboaa
open Go.RowKit

set_option maxRecDepth 100000 in
set_option maxHeartbeats 4000000 in
theorem windex_any (w : World) (W : WP) (i left : Nat) (vs : List Nm) (A : Option Addr) (c : Nat) (size : Nat) (hz0 : 1 ≤ size) (hz3 : size ≤ 3) (hW : WrM w W i left) (hV : StrN w W.q A vs) (hn : vs.length ≤ 1000) :
    Calls Try.prog 60 #[.pointer (some ⟨W.g, 0, none⟩), .slice A vs.length c, .int .i64 (size : Int)] w (WxP w W left 1 vs) := by
  have HW0 := Lib.hid hW
  have HW := Lib.hid (hW.alloc (.cells #[.int .i64 0, .int .i64 0, .string ⟨#[]⟩, .slice none 0 0] 89))
  have HV := Lib.hid (hV.alloc (.cells #[.int .i64 0, .int .i64 0, .string ⟨#[]⟩, .slice none 0 0] 89))
  have hqw := hW.src.lt
  obtain ⟨q0, -, -, -, q5, -, hgl⟩ := hW.cells
  have hgR : W.g ≠ w.heap.size := by omega
  have hgR' : w.heap.size ≠ W.g := by omega
  clear hW hV
  cases ha : W.ar with
  | false =>
    rw [ha] at q5
    clear ha
    go_enter Try.func60, Try.ntmps60
    go_wp2_with fail
    refine (next_any _ W.q W.xs i _ HW.out.src (by omega) (by omega)).mono ?_
    rintro e w1 ⟨rfl, hS, hG⟩
    rw [Int.toNat_natCast]
    obtain ⟨p0, p1, p2, p3, f0, f1, f2, f3, hz⟩ := four_grown hqw hG
    have hlt := nextV_lt W.xs i size (by omega)
    have HS := Lib.hid hS
    have HG := Lib.hid hG
    clear hS hG
    generalize nextV W.xs i size = k at *
    go_wp2_with fail
    refine bodyPost_ret (v := .agg #[.int .i64 1, .int .i64 (k : Int), .string ⟨#[]⟩, .slice none 0 0]) (by simp [results, Try.results60, go_sem, p0, p1, p2, p3]) rfl (wx_end (f := ⟨1, (k : Int), [], none, 0, 0⟩) HW0.out (.inl ⟨k, by omega, rfl⟩) (ExM.leaf _ _ _ _ _ _ _) HS.out HG.out _ _ _ _)
  | true =>
    rw [ha] at q5
    clear ha
    go_enter Try.func60, Try.ntmps60
    go_wp2_with fail
    refine (next_any _ W.q W.xs i 3 HW.out.src (by omega) (by omega)).mono ?_
    rintro e w1 ⟨rfl, hS, hG⟩
    rw [show (3 : Int).toNat = 3 from rfl]
    have k0 := (HW.out.next hS hG).cells.1
    have HS1 := Lib.hid hS
    have HG1 := Lib.hid hG
    have HV1 := Lib.hid (HV.out.grown hG)
    have hz1 : w.heap.size + 1 ≤ w1.heap.size := by have := hG.size; simp at this; omega
    clear hS hG
    by_cases h1 : nextV W.xs i 3 = 1
    · have t1 := bT (show ((nextV W.xs i 3 : Nat) : Int) = 1 by omega)
      clear h1
      go_wp2_with fail
      refine (srcExpr_at vs W.xs W.q A c (by omega) 1 1 rfl _ w1 (by omega) HS1.out HV1.out).mono ?_
      rintro e w2 ⟨f, rfl, hM, hS, hG⟩
      obtain ⟨p0, p1, p2, p3, f0, f1, f2, f3, hz⟩ := four_grown hqw (grown_trans HG1.out hG)
      have HM := Lib.hid (hM.more (S' := (w.heap.size + 1 ≤ ·)) fun b hb => Nat.le_trans hz1 hb)
      have HS := Lib.hid hS
      have HG := Lib.hid (grown_trans HG1.out hG)
      clear hM hS hG
      obtain ⟨fo, fn, fname, fA, fl, fc⟩ := f
      unfold EF.val
      go_wp2_with fail
      refine bodyPost_ret (v := .agg #[.int .i64 fo, .int .i64 fn, .string ⟨fname.toArray⟩, .slice fA fl fc]) (by simp [results, Try.results60, go_sem, p0, p1, p2, p3]) rfl (wx_end (f := ⟨fo, fn, fname, fA, fl, fc⟩) HW0.out (.inr ⟨W.xs, 1, _, by omega, rfl⟩) HM.out HS.out HG.out _ _ _ _)
    · have t1 := bF (show ((nextV W.xs i 3 : Nat) : Int) ≠ 1 by omega)
      clear h1
      go_wp2_with fail
      refine (next_any w1 W.q W.xs _ _ HS1.out (by omega) (by omega)).mono ?_
      rintro e w2 ⟨rfl, hS, hG⟩
      rw [Int.toNat_natCast]
      obtain ⟨p0, p1, p2, p3, f0, f1, f2, f3, hz⟩ := four_grown hqw (grown_trans HG1.out hG)
      have hlt := nextV_lt W.xs (nextI W.xs i) size (by omega)
      have HS := Lib.hid hS
      have HG := Lib.hid (grown_trans HG1.out hG)
      clear hS hG
      generalize nextV W.xs (nextI W.xs i) size = k at *
      go_wp2_with fail
      refine bodyPost_ret (v := .agg #[.int .i64 1, .int .i64 (k : Int), .string ⟨#[]⟩, .slice none 0 0]) (by simp [results, Try.results60, go_sem, p0, p1, p2, p3]) rfl (wx_end (f := ⟨1, (k : Int), [], none, 0, 0⟩) HW0.out (.inl ⟨k, by omega, rfl⟩) (ExM.leaf _ _ _ _ _ _ _) HS.out HG.out _ _ _ _)
end Go.Proofs.Ytlnbmmgbfgmboaa
