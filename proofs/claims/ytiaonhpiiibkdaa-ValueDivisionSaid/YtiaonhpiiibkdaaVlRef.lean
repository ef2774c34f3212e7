/- What the reference's Eval does: the plain function evV. -/
import Derived.Test.YtiaonhpiiibkdaaVlValue
namespace Go.Proofs.Ytiaonhpiiibkdaa
open Go.RowKit
set_option maxRecDepth 100000

theorem rtruth_any (b : Bool) (w : World) : Calls Try.prog 26 #[.bool b] w fun e w' => e = .returned (.int .i64 (trV b)) ∧ w = w' := by
  go_enter Try.func26, Try.ntmps26
  cases b
  · go_wp2
    go_ret
    exact ⟨rfl, rfl⟩
  · go_wp2
    go_ret
    exact ⟨rfl, rfl⟩
theorem quotient_any (a b : Int) (w : World) (hb : b ≠ 0) : Calls Try.prog 27 #[.int .i64 a, .int .i64 b] w fun e w' => e = .returned (.int .i64 (wrap64 (a.tdiv b))) ∧ w = w' := by
  by_cases h1 : b = -1
  · subst h1
    have HV : Hid (wrap64 (a.tdiv (-1)) = wrap64 (-a)) := by show _ = _; rw [Int.tdiv_neg, Int.tdiv_one]
    go_enter Try.func27, Try.ntmps27
    go_wp2
    go_ret
    exact ⟨ret_int HV.out.symm, rfl⟩
  · have t1 := bF h1
    have t0 := bF hb
    go_enter Try.func27, Try.ntmps27
    go_wp2
    go_ret
    exact ⟨rfl, rfl⟩
theorem wrap64_form (x : Int) : ∃ k, wrap64 x = x + 18446744073709551616 * k := ⟨-((x + 9223372036854775808) / 18446744073709551616), by unfold wrap64; omega⟩
theorem wrap64_back (r k : Int) (h : I64 r) : wrap64 (r + 18446744073709551616 * k) = r := by unfold I64 at h; unfold wrap64; omega
theorem rem_back (a b : Int) (ha : I64 a) : wrap64 (a - wrap64 (wrap64 (a.tdiv b) * b)) = a.tmod b := by
  obtain ⟨k1, h1⟩ := wrap64_form (a.tdiv b)
  obtain ⟨k2, h2⟩ := wrap64_form (wrap64 (a.tdiv b) * b)
  have h3 : a - wrap64 (wrap64 (a.tdiv b) * b) = a.tmod b + 18446744073709551616 * (-(k1 * b) - k2) := by
    rw [h2, h1, Int.add_mul]
    have h4 := Int.tmod_add_mul_tdiv a b
    have h5 : 18446744073709551616 * k1 * b = 18446744073709551616 * (k1 * b) := by rw [Int.mul_assoc]
    rw [h5, Int.mul_comm (a.tdiv b) b, Int.mul_sub, Int.mul_neg]
    omega
  rw [h3, wrap64_back _ _ (tmod_i64 ha)]

theorem int_at {w : World} {A : Option Addr} {l : List Int} (h : IntR w A l) (n : Int) (h0 : 0 ≤ n) (h1 : n < l.length) : ∃ (k : Nat) (b off : Nat) (x : Int), n = (k : Int) ∧ k < l.length ∧ A = some ⟨b, off, none⟩ ∧ w.cell? ⟨b, off + k, none⟩ = some (.int .i64 x) ∧ varV l n = x := by
  obtain ⟨k, rfl⟩ : ∃ k : Nat, n = (k : Int) := ⟨n.toNat, by omega⟩
  have hk : k < l.length := by omega
  obtain ⟨b, off, e, hc, -⟩ := h k hk
  refine ⟨k, b, off, l[k], rfl, hk, e, hc, ?_⟩
  unfold varV
  rw [if_neg (by omega), Int.toNat_natCast, List.getD_eq_getElem?_getD, List.getElem?_eq_getElem hk]
  rfl
theorem IntR.alloc {w : World} {A : Option Addr} {l : List Int} (h : IntR w A l) (o : Obj) : IntR (w.alloc o) A l := h.later ((Below.refl _ _).alloc (Nat.le_refl _) _)

set_option maxHeartbeats 8000000 in
theorem refEval_fuel (gs ls : List Int) (ga la : Option Addr) (gc lc : Nat) (hag : AllI gs) (hal : AllI ls) (N : Nat) : ∀ (E : Ex) (op num : Int) (name : List UInt8) (A : Option Addr) (n c : Nat) (w : World), SizeOf.sizeOf E < N → RsOk gs.length ls.length E → ExM w (fun _ => True) E ⟨op, num, name, A, n, c⟩ → IntR w ga gs → IntR w la ls →
    Calls Try.prog 13 #[.agg #[.int .i64 op, .int .i64 num, .string ⟨name.toArray⟩, .slice A n c], .slice ga gs.length gc, .slice la ls.length lc] w fun e w' => e = .returned (.tuple #[.int .i64 (evV gs ls E).1, .int .i64 (evV gs ls E).2]) ∧ Below w.heap.size w w' := by
  induction N with
  | zero => intro E op num name A n c w h; omega
  | succ N ih =>
    intro E op num name A n c w hN hok hM hG hL
    have IH := Lib.hid ih
    clear ih
    cases hM with
    | mk _ _ _ args _ _ F hc hs =>
    have hsz := fun i h => size_arg op num name args i h
    have HVX := Lib.hid (evV_mk gs ls op num name args)
    have HRS := Lib.hid (evV_ok hag hal _ hok)
    cases hok with
    | mk _ _ _ _ hn hl ha hss =>
    have hb0 : ∀ L, Below w.heap.size w (w.alloc (.cells #[.int .i64 op, .int .i64 num, .string ⟨name.toArray⟩, .slice A L c] 25)) := fun L => (Below.refl _ _).alloc (Nat.le_refl _) _
    have HB0 := Lib.hid hb0
    rcases ha with ⟨ho, h0⟩ | ⟨ho, h1⟩ | ⟨o1, o2, h2⟩
    · obtain rfl : args = [] := List.length_eq_zero_iff.1 h0
      have hG0 := hG.later (hb0 0)
      have hL0 := hL.later (hb0 0)
      have HB := Lib.hid (hb0 0)
      clear hb0 HB0 IH hc hs hsz hss h0 hG hL
      show Calls Try.prog 13 #[.agg #[.int .i64 op, .int .i64 num, .string ⟨name.toArray⟩, .slice A 0 c], .slice ga gs.length gc, .slice la ls.length lc] w _
      rcases ho with rfl | ⟨rfl, hn0, hn1⟩ | ⟨rfl, hn0, hn1⟩
      · have HV : Hid (evV gs ls (.mk 1 num name []) = (num, 0)) := by show _ = _; rw [HVX.out]; unfold finV; rw [if_pos rfl]
        clear HVX
        go_enter Try.func13, Try.ntmps13
        go_wp2
        go_ret2
        rw [HV.out]
        exact ⟨rfl, HB.out⟩
      · have HV : Hid (evV gs ls (.mk 18 num name []) = (varV ls num, 0)) := by show _ = _; rw [HVX.out]; unfold finV; rw [if_neg (by omega), if_pos rfl]
        obtain ⟨k, b, off, x, rfl, hk, hA, hcell, hx⟩ := int_at hL0 num hn0 hn1
        rw [hx] at HV
        have i1 : (0 : Int) ≤ (k : Int) := by omega
        clear HVX hx hn0 hG0 hL0
        subst hA
        go_enter Try.func13, Try.ntmps13
        go_wp2
        go_ret2
        rw [HV.out]
        exact ⟨rfl, HB.out⟩
      · have HV : Hid (evV gs ls (.mk 19 num name []) = (varV gs num, 0)) := by show _ = _; rw [HVX.out]; unfold finV; rw [if_neg (by omega), if_neg (by omega), if_pos rfl]
        obtain ⟨k, b, off, x, rfl, hk, hA, hcell, hx⟩ := int_at hG0 num hn0 hn1
        rw [hx] at HV
        have i1 : (0 : Int) ≤ (k : Int) := by omega
        clear HVX hx hn0 hG0 hL0
        subst hA
        go_enter Try.func13, Try.ntmps13
        go_wp2
        go_ret2
        rw [HV.out]
        exact ⟨rfl, HB.out⟩
    · have t1 := bF (show op ≠ 1 by omega)
      have t18 := bF (show op ≠ 18 by omega)
      have t19 := bF (show op ≠ 19 by omega)
      obtain ⟨x, rfl⟩ : ∃ x, args = [x] := List.length_eq_one_iff.1 h1
      have hxo := hss 0 (by simp)
      obtain ⟨b, off, rfl, -, hat⟩ := hc 0 (by simp)
      have hxs := hsz 0 (by simp)
      simp only [List.getElem_cons_zero, Nat.zero_mul, Nat.add_zero] at hxo hat hxs
      have hxm := (hs 0 (by simp)).later (hb0 1)
      simp only [List.getElem_cons_zero] at hxm
      have HG := Lib.hid (hG.later (hb0 1))
      have HL := Lib.hid (hL.later (hb0 1))
      have hat1 := hat.keep ((hb0 1).block b hat.lt)
      obtain ⟨a0, a1, a2, a3⟩ := hat1
      have HB := Lib.hid (hb0 1)
      show Calls Try.prog 13 #[.agg #[.int .i64 op, .int .i64 num, .string ⟨name.toArray⟩, .slice (some ⟨b, off, none⟩) 1 c], .slice ga gs.length gc, .slice la ls.length lc] w _
      have HXR := evV_ok hag hal x hxo
      have HE := Lib.hid (IH.out x (F 0).op (F 0).num (F 0).name (F 0).A (F 0).n (F 0).c _ (by omega) hxo hxm HG.out HL.out)
      have HV : Hid (evV gs ls (.mk op num name [x]) = if (evV gs ls x).2 ≠ 0 then (0, (evV gs ls x).2) else (opV op (evV gs ls x).1 0, 0)) := by
        show _ = _
        rw [HVX.out, evVs_cons, evVs_nil]
        unfold finV
        rw [if_neg (by omega), if_neg (by omega), if_neg (by omega)]
      generalize evV gs ls x = R at *
      clear IH HVX hc hs hsz hss hxo hxm hxs hat HRS HG HL hb0 HB0 hG hL
      go_enter Try.func13, Try.ntmps13
      go_wp2_with fail
      refine HE.out.mono ?_
      rintro e w2 ⟨rfl, hb2⟩
      obtain ⟨q0, q1, q2, q3, f0, f1, f2, f3, hz⟩ := four_later hb2
      have HB2 := Lib.hid (below_two HB.out hb2)
      clear hb2 a0 a1 a2 a3 HE f0 f1 f2 f3 HB
      obtain ⟨r1, r2⟩ := R
      dsimp only at *
      by_cases hf : r2 = 0
      · subst hf
        have HV2 : Hid (evV gs ls (.mk op num name [x]) = (opV op r1 0, 0)) := by show _ = _; rw [HV.out, if_neg (by simp)]
        clear HV
        rcases ho with rfl | rfl
        · have HV3 : Hid (evV gs ls (.mk 3 num name [x]) = (wrap64 (-r1), 0)) := HV2.out
          clear HV2
          go_wp2
          go_ret2
          rw [HV3.out]
          exact ⟨rfl, HB2.out⟩
        · have HV3 : Hid (evV gs ls (.mk 4 num name [x]) = (trV (r1 == 0), 0)) := HV2.out
          clear HV2
          go_wp2_with (first | (go_at_call 26; refine (rtruth_any _ _).mono ?_; rintro e w' ⟨rfl, rfl⟩))
          go_ret2
          rw [HV3.out]
          exact ⟨rfl, HB2.out⟩
      · have tf := bF hf
        have HV2 : Hid (evV gs ls (.mk op num name [x]) = (0, r2)) := by show _ = _; rw [HV.out, if_pos hf]
        clear HV hf
        go_wp2
        go_ret2
        rw [HV2.out]
        exact ⟨rfl, HB2.out⟩
    · have t1 := bF (show op ≠ 1 by omega)
      have t18 := bF (show op ≠ 18 by omega)
      have t19 := bF (show op ≠ 19 by omega)
      have t3 := bF (show op ≠ 3 by omega)
      have t4 := bF (show op ≠ 4 by omega)
      obtain ⟨x, y, rfl⟩ : ∃ x y, args = [x, y] := by
        match args, h2 with
        | [x, y], _ => exact ⟨x, y, rfl⟩
      have hxo := hss 0 (by simp)
      have hyo := hss 1 (by simp)
      obtain ⟨b, off, rfl, -, hat⟩ := hc 0 (by simp)
      obtain ⟨b', off', hA, -, hat'⟩ := hc 1 (by simp)
      simp only [Option.some.injEq, Addr.mk.injEq, and_true] at hA
      obtain ⟨rfl, rfl⟩ := hA
      have hxs := hsz 0 (by simp)
      have hys := hsz 1 (by simp)
      simp only [List.getElem_cons_zero, List.getElem_cons_succ, Nat.zero_mul, Nat.add_zero, Nat.one_mul] at hxo hyo hat hat' hxs hys
      have hxm := (hs 0 (by simp)).later (hb0 2)
      have hym := (hs 1 (by simp)).later (hb0 2)
      simp only [List.getElem_cons_zero, List.getElem_cons_succ] at hxm hym
      have hG2 := hG.later (hb0 2)
      have hL2 := hL.later (hb0 2)
      have hat1 := hat.keep ((hb0 2).block b hat.lt)
      obtain ⟨a0, a1, a2, a3⟩ := hat1
      have HAT := Lib.hid (hat'.keep ((hb0 2).block b hat'.lt))
      have HB := Lib.hid (hb0 2)
      show Calls Try.prog 13 #[.agg #[.int .i64 op, .int .i64 num, .string ⟨name.toArray⟩, .slice (some ⟨b, off, none⟩) 2 c], .slice ga gs.length gc, .slice la ls.length lc] w _
      have HXR := evV_ok hag hal x hxo
      have HE := Lib.hid (IH.out x (F 0).op (F 0).num (F 0).name (F 0).A (F 0).n (F 0).c _ (by omega) hxo hxm hG2 hL2)
      have HE' := Lib.hid (fun W (h : Below _ _ W) => IH.out y (F 1).op (F 1).num (F 1).name (F 1).A (F 1).n (F 1).c W (by omega) hyo (hym.later h) (hG2.later h) (hL2.later h))
      have HV : Hid (evV gs ls (.mk op num name [x, y]) = if (evV gs ls x).2 ≠ 0 then (0, (evV gs ls x).2) else if op = 16 ∧ (evV gs ls x).1 = 0 then (0, 0) else if op = 17 ∧ (evV gs ls x).1 ≠ 0 then (1, 0) else if (evV gs ls y).2 ≠ 0 then (0, (evV gs ls y).2) else if (op = 6 ∨ op = 7) ∧ (evV gs ls y).1 = 0 then (0, 1) else (opV op (evV gs ls x).1 (evV gs ls y).1, 0)) := by
        show _ = _
        rw [HVX.out, evVs_cons, evVs_cons, evVs_nil]
        unfold finV
        rw [if_neg (by omega), if_neg (by omega), if_neg (by omega)]
      generalize evV gs ls x = R at *
      generalize evV gs ls y = S at *
      clear IH HVX hc hs hsz hss hxo hxm hxs hat HRS hG hL hb0 HB0 hG2 hL2 hyo hym hys hat'
      go_enter Try.func13, Try.ntmps13
      go_wp2_with fail
      refine HE.out.mono ?_
      rintro e w2 ⟨rfl, hb2⟩
      obtain ⟨q0, q1, q2, q3, f0, f1, f2, f3, hz⟩ := four_later hb2
      have HB2 := Lib.hid (below_two HB.out hb2)
      have HE2 := Lib.hid (HE'.out w2 hb2)
      obtain ⟨y0, y1, y2, y3⟩ := HAT.out.keep (hb2.block b HAT.out.lt)
      clear hb2 a0 a1 a2 a3 HE HE' f0 f1 f2 f3 HB HAT
      obtain ⟨r1, r2⟩ := R
      obtain ⟨s1, s2⟩ := S
      dsimp only at *
      by_cases hf : r2 = 0
      · subst hf
        have HV1 : Hid (evV gs ls (.mk op num name [x, y]) = if op = 16 ∧ r1 = 0 then (0, 0) else if op = 17 ∧ r1 ≠ 0 then (1, 0) else if s2 ≠ 0 then (0, s2) else if (op = 6 ∨ op = 7) ∧ s1 = 0 then (0, 1) else (opV op r1 s1, 0)) := by show _ = _; rw [HV.out, if_neg (by simp)]
        clear HV
        by_cases h16 : op = 16 ∧ r1 = 0
        · obtain ⟨rfl, rfl⟩ := h16
          have HV2 : Hid (evV gs ls (.mk 16 num name [x, y]) = (0, 0)) := HV1.out
          clear HV1 HE2
          go_wp2
          go_ret2
          rw [HV2.out]
          exact ⟨rfl, HB2.out⟩
        · by_cases h17 : op = 17 ∧ r1 ≠ 0
          · obtain ⟨rfl, h⟩ := h17
            have HV2 : Hid (evV gs ls (.mk 17 num name [x, y]) = (1, 0)) := by show _ = _; rw [HV1.out, if_neg h16, if_pos ⟨rfl, h⟩]
            have tr := bF h
            clear HV1 HE2 h16 h
            go_wp2
            go_ret2
            rw [HV2.out]
            exact ⟨rfl, HB2.out⟩
          · have HV2 : Hid (evV gs ls (.mk op num name [x, y]) = if s2 ≠ 0 then (0, s2) else if (op = 6 ∨ op = 7) ∧ s1 = 0 then (0, 1) else (opV op r1 s1, 0)) := by show _ = _; rw [HV1.out, if_neg h16, if_neg h17]
            clear HV1
            have hpre : (op == 16) = false ∧ (op == 17) = false ∨ (op == 16) = true ∧ (op == 17) = false ∧ (r1 == 0) = false ∨ (op == 17) = true ∧ (op == 16) = false ∧ (r1 == 0) = true := by
              simp
              omega
            rcases hpre with ⟨p1, p2⟩ | ⟨p1, p2, p3⟩ | ⟨p1, p2, p3⟩
            · go_wp2_with fail
              refine HE2.out.mono ?_
              rintro e w3 ⟨rfl, hb3⟩
              have q0' := cell_later hb3 q0
              have HB3 := Lib.hid (below_two HB2.out hb3)
              clear hb3 q0 q1 q2 q3 y0 y1 y2 y3 HE2 HB2
              by_cases hf2 : s2 = 0
              · subst hf2
                have HV3a : Hid (evV gs ls (.mk op num name [x, y]) = if (op = 6 ∨ op = 7) ∧ s1 = 0 then (0, 1) else (opV op r1 s1, 0)) := by show _ = _; rw [HV2.out, if_neg (by simp)]
                clear HV2
                by_cases h67 : (op = 6 ∨ op = 7) ∧ s1 = 0
                · obtain ⟨h67, rfl⟩ := h67
                  have HV3 : Hid (evV gs ls (.mk op num name [x, y]) = (0, 1)) := by show _ = _; rw [HV3a.out, if_pos ⟨h67, rfl⟩]
                  clear HV3a
                  rcases h67 with rfl | rfl
                  all_goals
                    go_wp2
                    go_ret2
                    rw [HV3.out]
                    exact ⟨rfl, HB3.out⟩
                · have HV3 : Hid (evV gs ls (.mk op num name [x, y]) = (opV op r1 s1, 0)) := by show _ = _; rw [HV3a.out, if_neg h67]
                  clear HV3a
                  have hc : op = 5 ∨ op = 6 ∨ op = 7 ∨ op = 8 ∨ op = 9 ∨ op = 10 ∨ op = 11 ∨ op = 12 ∨ op = 13 ∨ op = 14 ∨ op = 15 := by
                    simp at p1 p2
                    omega
                  rcases hc with rfl | rfl | rfl | rfl | rfl | rfl | rfl | rfl | rfl | rfl | rfl
                  · have HV4 : Hid (evV gs ls (.mk 5 num name [x, y]) = (wrap64 (r1 * s1), 0)) := by show _ = _; rw [HV3.out]; rfl
                    clear HV3
                    go_wp2
                    go_ret2
                    rw [HV4.out]
                    exact ⟨rfl, HB3.out⟩
                  · have HV4 : Hid (evV gs ls (.mk 6 num name [x, y]) = (wrap64 (r1.tdiv s1), 0)) := by show _ = _; rw [HV3.out]; rfl
                    have hs0 : s1 ≠ 0 := fun h => h67 ⟨by omega, h⟩
                    have ts := bF hs0
                    clear HV3
                    go_wp2_with (first | (go_at_call 27; refine (quotient_any _ _ _ hs0).mono ?_; rintro e w' ⟨rfl, rfl⟩))
                    go_ret2
                    rw [HV4.out]
                    exact ⟨rfl, HB3.out⟩
                  · have HV4 : Hid (evV gs ls (.mk 7 num name [x, y]) = (r1.tmod s1, 0)) := by show _ = _; rw [HV3.out]; rfl
                    have hs0 : s1 ≠ 0 := fun h => h67 ⟨by omega, h⟩
                    have ts := bF hs0
                    clear HV3
                    go_wp2_with (first | (go_at_call 27; refine (quotient_any _ _ _ hs0).mono ?_; rintro e w' ⟨rfl, rfl⟩))
                    go_ret2
                    rw [HV4.out]
                    exact ⟨(by rw [rem_back r1 s1 HXR.1] : Ending.returned (.tuple #[.int .i64 (wrap64 (r1 - wrap64 (wrap64 (r1.tdiv s1) * s1))), .int .i64 0]) = Ending.returned (.tuple #[.int .i64 (r1.tmod s1), .int .i64 0])), HB3.out⟩
                  · have HV4 : Hid (evV gs ls (.mk 8 num name [x, y]) = (wrap64 (r1 + s1), 0)) := by show _ = _; rw [HV3.out]; rfl
                    clear HV3
                    go_wp2
                    go_ret2
                    rw [HV4.out]
                    exact ⟨rfl, HB3.out⟩
                  · have HV4 : Hid (evV gs ls (.mk 9 num name [x, y]) = (wrap64 (r1 - s1), 0)) := by show _ = _; rw [HV3.out]; rfl
                    clear HV3
                    go_wp2
                    go_ret2
                    rw [HV4.out]
                    exact ⟨rfl, HB3.out⟩
                  · have HV4 : Hid (evV gs ls (.mk 10 num name [x, y]) = (trV (decide (r1 < s1)), 0)) := by show _ = _; rw [HV3.out]; rfl
                    clear HV3
                    go_wp2_with (first | (go_at_call 26; refine (rtruth_any _ _).mono ?_; rintro e w' ⟨rfl, rfl⟩))
                    go_ret2
                    rw [HV4.out]
                    exact ⟨rfl, HB3.out⟩
                  · have HV4 : Hid (evV gs ls (.mk 11 num name [x, y]) = (trV (decide (r1 ≤ s1)), 0)) := by show _ = _; rw [HV3.out]; rfl
                    clear HV3
                    go_wp2_with (first | (go_at_call 26; refine (rtruth_any _ _).mono ?_; rintro e w' ⟨rfl, rfl⟩))
                    go_ret2
                    rw [HV4.out]
                    exact ⟨rfl, HB3.out⟩
                  · have HV4 : Hid (evV gs ls (.mk 12 num name [x, y]) = (trV (decide (s1 < r1)), 0)) := by show _ = _; rw [HV3.out]; rfl
                    clear HV3
                    go_wp2_with (first | (go_at_call 26; refine (rtruth_any _ _).mono ?_; rintro e w' ⟨rfl, rfl⟩))
                    go_ret2
                    rw [HV4.out]
                    exact ⟨rfl, HB3.out⟩
                  · have HV4 : Hid (evV gs ls (.mk 13 num name [x, y]) = (trV (decide (s1 ≤ r1)), 0)) := by show _ = _; rw [HV3.out]; rfl
                    clear HV3
                    go_wp2_with (first | (go_at_call 26; refine (rtruth_any _ _).mono ?_; rintro e w' ⟨rfl, rfl⟩))
                    go_ret2
                    rw [HV4.out]
                    exact ⟨rfl, HB3.out⟩
                  · have HV4 : Hid (evV gs ls (.mk 14 num name [x, y]) = (trV (r1 == s1), 0)) := by show _ = _; rw [HV3.out]; rfl
                    clear HV3
                    go_wp2_with (first | (go_at_call 26; refine (rtruth_any _ _).mono ?_; rintro e w' ⟨rfl, rfl⟩))
                    go_ret2
                    rw [HV4.out]
                    exact ⟨rfl, HB3.out⟩
                  · have HV4 : Hid (evV gs ls (.mk 15 num name [x, y]) = (trV (!(r1 == s1)), 0)) := by show _ = _; rw [HV3.out]; rfl
                    clear HV3
                    go_wp2_with (first | (go_at_call 26; refine (rtruth_any _ _).mono ?_; rintro e w' ⟨rfl, rfl⟩))
                    go_ret2
                    rw [HV4.out]
                    exact ⟨rfl, HB3.out⟩
              · have tf2 := bF hf2
                have HV3 : Hid (evV gs ls (.mk op num name [x, y]) = (0, s2)) := by show _ = _; rw [HV2.out, if_pos hf2]
                clear HV2 hf2
                go_wp2
                go_ret2
                rw [HV3.out]
                exact ⟨rfl, HB3.out⟩
            · obtain rfl : op = 16 := by simpa using p1
              go_wp2_with fail
              refine HE2.out.mono ?_
              rintro e w3 ⟨rfl, hb3⟩
              have q0' := cell_later hb3 q0
              have HB3 := Lib.hid (below_two HB2.out hb3)
              clear hb3 q0 q1 q2 q3 y0 y1 y2 y3 HE2 HB2
              by_cases hf2 : s2 = 0
              · subst hf2
                have HV3 : Hid (evV gs ls (.mk 16 num name [x, y]) = (opV 16 r1 s1, 0)) := by show _ = _; rw [HV2.out, if_neg (by simp), if_neg (by omega)]
                clear HV2
                have HV4 : Hid (evV gs ls (.mk 16 num name [x, y]) = (trV (!(s1 == 0)), 0)) := by show _ = _; rw [HV3.out]; simp [opV, p3]
                clear HV3
                go_wp2_with (first | (go_at_call 26; refine (rtruth_any _ _).mono ?_; rintro e w' ⟨rfl, rfl⟩))
                go_ret2
                rw [HV4.out]
                exact ⟨rfl, HB3.out⟩
              · have tf2 := bF hf2
                have HV3 : Hid (evV gs ls (.mk 16 num name [x, y]) = (0, s2)) := by show _ = _; rw [HV2.out, if_pos hf2]
                clear HV2 hf2
                go_wp2
                go_ret2
                rw [HV3.out]
                exact ⟨rfl, HB3.out⟩
            · obtain rfl : op = 17 := by simpa using p1
              go_wp2_with fail
              refine HE2.out.mono ?_
              rintro e w3 ⟨rfl, hb3⟩
              have q0' := cell_later hb3 q0
              have HB3 := Lib.hid (below_two HB2.out hb3)
              clear hb3 q0 q1 q2 q3 y0 y1 y2 y3 HE2 HB2
              by_cases hf2 : s2 = 0
              · subst hf2
                have HV3 : Hid (evV gs ls (.mk 17 num name [x, y]) = (opV 17 r1 s1, 0)) := by show _ = _; rw [HV2.out, if_neg (by simp), if_neg (by omega)]
                clear HV2
                have HV4 : Hid (evV gs ls (.mk 17 num name [x, y]) = (trV (!(s1 == 0)), 0)) := by show _ = _; rw [HV3.out]; simp [opV, p3]
                clear HV3
                go_wp2_with (first | (go_at_call 26; refine (rtruth_any _ _).mono ?_; rintro e w' ⟨rfl, rfl⟩))
                go_ret2
                rw [HV4.out]
                exact ⟨rfl, HB3.out⟩
              · have tf2 := bF hf2
                have HV3 : Hid (evV gs ls (.mk 17 num name [x, y]) = (0, s2)) := by show _ = _; rw [HV2.out, if_pos hf2]
                clear HV2 hf2
                go_wp2
                go_ret2
                rw [HV3.out]
                exact ⟨rfl, HB3.out⟩
      · have tf := bF hf
        have HV2 : Hid (evV gs ls (.mk op num name [x, y]) = (0, r2)) := by show _ = _; rw [HV.out, if_pos hf]
        clear HV hf HE2
        go_wp2
        go_ret2
        rw [HV2.out]
        exact ⟨rfl, HB2.out⟩

theorem refEval_any (w : World) (E : Ex) (f : EF) (gs ls : List Int) (ga la : Option Addr) (gc lc : Nat) (hM : ExM w (fun _ => True) E f) (hR : RsOk gs.length ls.length E) (hG : IntR w ga gs) (hL : IntR w la ls) (hag : AllI gs) (hal : AllI ls) :
    Calls Try.prog 13 #[f.val, .slice ga gs.length gc, .slice la ls.length lc] w fun e w' => e = .returned (.tuple #[.int .i64 (evV gs ls E).1, .int .i64 (evV gs ls E).2]) ∧ Below w.heap.size w w' :=
  refEval_fuel gs ls ga la gc lc hag hal (SizeOf.sizeOf E + 1) E f.op f.num f.name f.A f.n f.c w (by omega) hR hM hG hL
end Go.Proofs.Ytiaonhpiiibkdaa
