/- What list of a set of package scc returns: the nodes in ascending order. -/
import Derived.Test.YtnofcanboaaejaaDoorScPrA
namespace Go.Proofs.YtnofcanboaaejaaDoor
open Go.RowKit
set_option maxRecDepth 100000

namespace Sc
theorem dif_less {t : Nat} (h0 : t ≠ 0) (ht : t < 18446744073709551616) : dif t (2 ^ Lib.ctz 64 t) < t := by
  obtain ⟨h1, h2, _⟩ := ctz_spec h0 ht
  refine Nat.lt_of_le_of_ne Nat.and_le_left fun e => ?_
  have h3 := dif_bit ht (pow_64 h1) (Lib.ctz 64 t)
  rw [e, h2, Nat.testBit_two_pow] at h3
  simp at h3
end Sc
theorem IntO.nil (w : World) (B : Nat) : IntO w B (.slice none 0 0) [] := ⟨rfl, .inl ⟨rfl, rfl⟩⟩
set_option maxHeartbeats 1000000 in
theorem scList_any (s : Nat) (hs : s < 18446744073709551616) (w : World) (hT : TzT w) :
    Calls Tryd.prog 33 #[.int .u64 (s : Int)] w fun e w' => ∃ A c, e = .returned (.slice A (Sc.bl s).length c) ∧ IntO w' w.heap.size (.slice A (Sc.bl s).length c) (toL (Sc.bl s)) ∧ Below w.heap.size w w' := by
  have HT := Lib.hid hT
  clear hT
  obtain ⟨i1, hj, hzy⟩ := Option.map_eq_some_iff.1 Tryd.infoN
  simp only [Prod.mk.injEq] at hzy
  obtain ⟨hy0, hy1, hy2⟩ := hzy
  have HH : Hid (w.heap.size = w.heap.size) := rfl
  generalize hB : w.heap.size = B at *
  have HBe : Hid (w.heap.size = B) := hB
  clear hB HH
  have HLB := Lib.hid (Sc.bl_len s)
  go_enter Tryd.func33, Tryd.ntmps33
  go_wp2_with fail
  go_loopw [0, 3] (fun u v wr => ∃ (t : Nat) (xs : List Nat), t < 18446744073709551616 ∧ u = .int .u64 (t : Int) ∧ Hid (xs ++ Sc.bl t = Sc.bl s) ∧ Hid (IntO wr B v (toL xs)) ∧ Hid (Below B w wr)) (fun u _ _ => (intOf u).toNat)
  case atStart => exact ⟨s, [], hs, rfl, rfl, IntO.nil _ _, Below.refl _ _⟩
  case round =>
    obtain ⟨t, xs, ht, rfl, HX, HI, HW⟩ := hrel
    by_cases h0 : t = 0
    · have HE : Hid (xs = Sc.bl s) := by have h := HX.out; rw [h0, Sc.bl_zero, List.append_nil] at h; exact h
      have t0 := nF (show (t : Int) = 0 by omega)
      clear h0
      obtain ⟨A9, c9, rfl⟩ := HI.out.form
      have hlen : Hid ((toL xs).length = xs.length) := List.length_map _
      clear HX
      go_wp2_with fail
      go_ret
      exact ⟨A9, c9, by rw [hlen.out, HE.out]; rfl, by have h := HI.out; rw [hlen.out, HE.out] at h; exact h, HW.out⟩
    · have hne : (t : Int) ≠ 0 := by omega
      have HTr := Lib.hid (HT.out.later (HBe.out ▸ HW.out))
      have HF := Lib.hid (fun W (h : TzT W) => scFirst_any t ht h0 W h)
      have HST := Lib.hid (Sc.bl_step h0 ht)
      have hc := (Sc.ctz_spec h0 ht).1
      have HD := Lib.hid (u64_andNot_nat t (2 ^ Lib.ctz 64 t) ht (Sc.pow_64 hc))
      have HDL := Lib.hid (Sc.dif_less h0 ht)
      have HDT := Lib.hid (Sc.dif_lt (2 ^ Lib.ctz 64 t) ht)
      have HO := Lib.hid (fun W => scOnly_any (Lib.ctz 64 t : Nat) (Lib.ctz 64 t) W rfl hc)
      have HDE : Hid (t &&& (18446744073709551615 - 2 ^ Lib.ctz 64 t) = Sc.dif t (2 ^ Lib.ctz 64 t)) := rfl
      generalize Sc.dif t (2 ^ Lib.ctz 64 t) = t2 at *
      generalize 2 ^ Lib.ctz 64 t = p at *
      generalize Lib.ctz 64 t = c at *
      obtain ⟨A9, c9, rfl⟩ := HI.out.form
      have hlen : (toL xs).length = xs.length := List.length_map _
      have hx64 : xs.length ≤ 64 := by have h1 := congrArg List.length HX.out; have h2 := HLB.out; rw [List.length_append] at h1; omega
      have HBr : Hid (B ≤ wr.heap.size) := by have := HW.out.size; have h2 := HBe.out; show _ ≤ _; omega
      generalize hxs : toL xs = ys at *
      have HXS := Lib.hid hxs
      have hy64 : ys.length ≤ 64 := by omega
      clear hxs hlen hx64
      go_wp2_with fail
      refine (HF.out _ HTr.out).mono ?_
      rintro e w1 ⟨rfl, rfl⟩
      go_wp2_with (at_builtin; refine wpList_append_lies _ rfl (.tmp 11) (.tmp 14) 22 rfl B 3 i1 _ 1 8 Tryd.underlying22 hj hy0 hy1 hy2 rfl (by decide) _ ys.length (iCs ys) rfl (HI.out.alloc _) ⟨wr.heap.size, 0, none⟩ 1 1 [.int .i64 (c : Int)] rfl rfl (sc_news wr _ rfl _ _) (iCs_one [(c : Int)]) (by omega) (by unfold maxLen; omega) (by omega) (by have := HBr.out; simp; omega) _ rfl ?_; intro gb cap w5 hown hgrow hlies hgl)
      have HI5 : Hid (IntO w5 B (.slice (some ⟨gb, 0, none⟩) (ys.length + 1) cap) (toL (xs ++ [c]))) := by
        have e : toL (xs ++ [c]) = ys ++ [(c : Int)] := by rw [← HXS.out]; unfold toL; rw [List.map_append]; rfl
        show IntO _ _ _ _
        rw [e]
        unfold IntO iCs
        rw [List.length_append, List.map_append]
        exact hown
      have HW5 : Hid (Below B w w5) := below_grown (HW.out.trans ((Below.refl _ wr).alloc HBr.out (.cells #[.int .i64 (c : Int)] 3))) hgrow (fun b e => (HI.out.lt b e).1) (by have := HBr.out; simp; omega)
      have HT5 := Lib.hid (HT.out.later (HBe.out ▸ HW5.out))
      have HX5 : Hid ((xs ++ [c]) ++ Sc.bl t2 = Sc.bl s) := by have h := HX.out; rw [HST.out] at h; show _ = _; rw [List.append_assoc]; exact h
      clear HI HW hown hgrow hlies hgl HX
      go_wp2_with fail
      refine (HF.out _ HT5.out).mono ?_
      rintro e w1 ⟨rfl, rfl⟩
      go_wp2_with fail
      refine (HO.out _).mono ?_
      rintro e w1 ⟨rfl, rfl⟩
      go_wp2_with fail
      go_roundw
      case rel => exact ⟨t2, xs ++ [c], HDT.out, by rw [HD.out, HDE.out], HX5.out, HI5.out, HW5.out⟩
      case measure => have h1 := HDL.out; have h2 := HD.out; have h3 := HDE.out; simp [intOf]; omega
end Go.Proofs.YtnofcanboaaejaaDoor
