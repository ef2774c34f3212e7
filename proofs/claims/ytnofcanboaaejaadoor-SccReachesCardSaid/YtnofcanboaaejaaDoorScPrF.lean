/- What components of a graph of package scc returns: all components in the order of their first elements. -/
import Derived.Test.YtnofcanboaaejaaDoorScPrE
namespace Go.Proofs.YtnofcanboaaejaaDoor
open Go.RowKit
set_option maxRecDepth 100000

set_option maxHeartbeats 1000000 in
theorem components_any (w : World) (n g c : Nat) (R : Nat → Nat → Bool) (hn : n ≤ 64) (hR : ∀ a b, R a b = true → b < n) (hG : UlR w g n (fun a => Sc.nb (R a))) (hT : TzT w) :
    Calls Tryd.prog 24 #[.slice (some ⟨g, 0, none⟩) n c] w (LiP w (toI (Sc.compV R n))) := by
  have HCM := Lib.hid (fun i (hi : i < n) W (h : Below w.heap.size w W) => component_any W n g c i R hn hi hR (hG.later h) (hT.later h))
  have HT := Lib.hid (fun W (h : Below w.heap.size w W) => hT.later h)
  have HLD := Lib.hid (fun i (hi : i < n) => Sc.cpV_lead (R := R) hn hi)
  have HCL := Lib.hid (fun i (hi : i < n) => Sc.cpV_cls (R := R) hn hi hR)
  have HNE := Lib.hid (fun i (hi : i < n) => Sc.cpV_ne (R := R) (i := i) (by omega))
  clear hG hT
  obtain ⟨i0, hi, hzz⟩ := Option.map_eq_some_iff.1 Tryd.infoNs
  simp only [Prod.mk.injEq] at hzz
  obtain ⟨hz0, hz1, hz2⟩ := hzz
  generalize hB : w.heap.size = B at *
  have HBe := Lib.hid hB
  clear hB
  go_enter Tryd.func24, Tryd.ntmps24
  go_wp2_with fail
  go_loopw [3, 8] (fun v u wr => ∃ (i : Nat) (L : List LiE), i ≤ n ∧ u = .int .i64 (i : Int) ∧ Hid (L.map (·.1) = toI (Sc.cmp R n i)) ∧ Hid (OwnR liK 22 wr B v L) ∧ Hid (Below B w wr)) (fun _ u _ => n - (intOf u).toNat)
  case atStart => exact ⟨0, [], Nat.zero_le _, rfl, rfl, OwnR.nil _ _ _ _, Below.refl _ _⟩
  case round =>
    obtain ⟨i, L, hiN, rfl, HL, HO, HW⟩ := hrel
    by_cases hil : i < n
    · have gi : (i : Int) < (n : Int) := by omega
      have gi0 : (0 : Int) ≤ (i : Int) := by omega
      have HC1 := Lib.hid (HCM.out i hil wr HW.out)
      have HNE1 := Lib.hid (HNE.out i hil)
      have HV64 : Hid (Sc.cpV R i < 18446744073709551616) := Sc.nb_lt _
      have HFI := Lib.hid (fun W (h : TzT W) => scFirst_any (Sc.cpV R i) HV64.out HNE1.out W h)
      have HLI := Lib.hid (fun W (h : TzT W) => scList_any (Sc.cpV R i) HV64.out W h)
      have HLD1 := Lib.hid (HLD.out i hil)
      have HCL1 := Lib.hid (HCL.out i hil)
      have HBr : Hid (B ≤ wr.heap.size) := by have h1 := HBe.out; have h2 := HW.out.size; show _ ≤ _; omega
      generalize Sc.cpV R i = s at *
      go_wp2_with fail
      refine HC1.out.mono ?_
      rintro e w1 ⟨rfl, hB1⟩
      have HW1 : Hid (Below B w w1) := HW.out.trans (hB1.mono HBr.out)
      have HO1 : Hid (OwnR liK 22 w1 B u3 L) := HO.out.keep hB1.size fun b _ hl => hB1.block b hl
      have HB1 : Hid (B ≤ w1.heap.size) := by have h1 := HBr.out; have h2 := hB1.size; show _ ≤ _; omega
      have HT1 := Lib.hid (HT.out w1 HW1.out)
      clear HO HW hB1 HC1 HBr
      cases hle : Sc.lead R i with
      | false =>
        have HL2 : Hid (L.map (·.1) = toI (Sc.cmp R n (i + 1))) := by show _ = _; rw [Sc.cmp_skip hle]; exact HL.out
        have hk : Lib.ctz 64 s ≠ i := fun e => by rw [HLD1.out, hle] at e; cases e
        clear HL hle
        generalize Lib.ctz 64 s = k at *
        have t0 := bF (show (k : Int) ≠ (i : Int) by omega)
        clear hk
        go_wp2_with fail
        refine (HFI.out _ HT1.out).mono ?_
        rintro e w3 ⟨rfl, rfl⟩
        go_wp2_with fail
        go_roundw
        case rel => exact ⟨i + 1, L, hil, by go_num, HL2.out, HO1.out, HW1.out⟩
        case measure => simp [intOf]; omega
      | true =>
        have hk : Lib.ctz 64 s = i := HLD1.out.2 hle
        rw [hk] at HFI
        rw [HCL1.out hle] at HLI
        have HLn := Lib.hid (Sc.cmp_take (n := n) hle)
        have hlt : ∀ x ∈ Sc.cls R i n, x < n := cls_lt hil (Nat.le_refl _)
        have HX64 : Hid (I64s (toL (Sc.cls R i n))) := toL_ok fun x hx => by have := hlt x hx; omega
        have HXN : Hid ((toL (Sc.cls R i n)).length = (Sc.cls R i n).length) := List.length_map _
        clear hk hle hlt HLD1 HCL1
        obtain ⟨A7, c7, rfl⟩ := HO1.out.form
        have hlen : L.length ≤ 65 := by
          have h1 := congrArg List.length HL.out
          have h2 := cmp_len R n i
          unfold toI at h1
          rw [List.length_map, List.length_map] at h1
          omega
        go_wp2_with fail
        refine (HFI.out _ HT1.out).mono ?_
        rintro e w3 ⟨rfl, rfl⟩
        go_wp2_with fail
        refine (HLI.out _ HT1.out).mono ?_
        rintro e w4 ⟨A9, c9, rfl, hI4, hB4⟩
        rw [← HXN.out] at hI4
        have HIN := Lib.hid (hI4.inn (S := (w1.heap.size ≤ ·)) HX64.out fun b h1 _ => h1)
        have HW4 : Hid (Below B w w4) := HW1.out.trans (hB4.mono HB1.out)
        have HO4 : Hid (OwnR liK 22 w4 B (.slice A7 L.length c7) L) := HO1.out.keep hB4.size fun b _ hl => hB4.block b hl
        have HB4 : Hid (B ≤ w4.heap.size) := by have h1 := HB1.out; have h2 := hB4.size; show _ ≤ _; omega
        clear hI4 hB4
        rw [← HXN.out]
        generalize hxs : toL (Sc.cls R i n) = xs at *
        have HXS := Lib.hid hxs
        clear hxs HXN HX64
        go_wp2_with (at_builtin; refine wpList_append_lies _ rfl (.tmp 18) (.tmp 21) 24 rfl B 22 i0 _ 1 24 Tryd.underlying24 hi hz0 hz1 hz2 rfl (by decide) _ L.length (liK.cs L) rfl (HO4.out.alloc _).1 ⟨w4.heap.size, 0, none⟩ 1 1 [.slice A9 xs.length c9] rfl rfl (sc_news w4 _ rfl _ _) (liK.one (xs, A9, c9)) (by omega) (by unfold maxLen; omega) (by omega) (by have := HB4.out; simp; omega) _ rfl ?_; intro gb cap w5 hown hgrow hlies hgl)
        have HO5 : Hid (OwnR liK 22 w5 B (.slice (some ⟨gb, 0, none⟩) (L.length + 1) cap) (L ++ [(xs, A9, c9)])) :=
          (HO4.out.alloc (.cells #[.slice A9 xs.length c9] 22)).snoc (liK.fresh (liK.keep HIN.out fun b _ hl => Below.heap_alloc w4 _ b hl) HO1.out (Nat.le_refl _) HB1.out) hown hgrow (sc_lies hlies (by simp))
        have HW5 : Hid (Below B w w5) := below_grown (HW4.out.trans ((Below.refl _ w4).alloc HB4.out (.cells #[.slice A9 xs.length c9] 22))) hgrow (fun b e => (HO4.out.1.lt b e).1) (by have := HB4.out; simp; omega)
        have HL5 : Hid ((L ++ [(xs, A9, c9)]).map (·.1) = toI (Sc.cmp R n (i + 1))) := by
          show _ = _
          rw [HLn.out, List.map_append, HL.out]
          unfold toI
          rw [List.map_append, ← HXS.out]
          rfl
        clear HO1 HO4 HW1 HW4 hown hgrow hlies hgl HL HLn HXS HIN
        go_roundw
        case rel => exact ⟨i + 1, L ++ [(xs, A9, c9)], hil, by go_num, HL5.out, HO5.out, HW5.out⟩
        case measure => simp [intOf]; omega
    · obtain rfl : i = n := by omega
      have gi : ¬ (i : Int) < (i : Int) := by omega
      obtain ⟨A7, c7, rfl⟩ := HO.out.form
      have e : L.map (·.1) = toI (Sc.compV R i) := HL.out
      have HE := Lib.hid e
      have HRD : Hid (LiR wr A7 (toI (Sc.compV R i))) := by have := li_own HO.out; rw [e] at this; exact this
      have HLN : Hid (L.length = (toI (Sc.compV R i)).length) := by show _ = _; rw [← e, List.length_map]
      clear e HL HO
      go_wp2_with fail
      go_ret
      exact ⟨A7, c7, by rw [← HLN.out]; rfl, HRD.out, by rw [HBe.out]; exact HW.out⟩
end Go.Proofs.YtnofcanboaaejaaDoor
