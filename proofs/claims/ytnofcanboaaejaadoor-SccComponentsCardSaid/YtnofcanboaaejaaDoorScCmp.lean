/- What the reference's Components does. -/
import Derived.Test.YtnofcanboaaejaaDoorScWays
namespace Go.Proofs.YtnofcanboaaejaaDoor
open Go.RowKit
set_option maxRecDepth 100000

def toL (l : List Nat) : List Int := l.map fun (k : Nat) => (k : Int)
def toI (L : List (List Nat)) : List (List Int) := L.map toL
theorem IntO.form {w : World} {B : Nat} {v : Value} {xs : List Int} (h : IntO w B v xs) : ∃ A c, v = .slice A xs.length c := by
  rcases h.2 with ⟨e, e0⟩ | ⟨g, cap, cur, e, _⟩
  · exact ⟨none, 0, by rw [e, e0]⟩
  · exact ⟨_, _, e⟩
theorem IntO.inn {w : World} {B n c : Nat} {A : Option Addr} {xs : List Int} {S : Nat → Prop} (h : IntO w B (.slice A n c) xs) (hx : I64s xs) (hS : ∀ b, B ≤ b → b < w.heap.size → S b) : LiIn w S (xs, A, c) := by
  refine LiIn.of (h.read hx) fun b off e hb => hS b ?_ hb
  subst e
  rcases h.2 with ⟨e, _⟩ | ⟨g, cap, cur, e, hg, _⟩
  · cases e
  · injection e with e1
    injection e1 with e1
    injection e1 with e1
    omega
theorem IntO.keep {w w' : World} {B : Nat} {v : Value} {xs : List Int} (h : IntO w B v xs) (hk : ∀ b, B ≤ b → b < w.heap.size → w'.heap[b]? = w.heap[b]?) : IntO w' B v xs := by
  refine ⟨h.1, ?_⟩
  rcases h.2 with h0 | ⟨g, cap, cur, e, hg, hb, r⟩
  · exact .inl h0
  · exact .inr ⟨g, cap, cur, e, hg, (hk g hg (sc_lt hb)).trans hb, r⟩
theorem IntO.alloc {w : World} {B : Nat} {v : Value} {xs : List Int} (h : IntO w B v xs) (o : Obj) : IntO (w.alloc o) B v xs := h.keep fun b _ hl => Below.heap_alloc w o b hl
theorem IntO.new (w : World) (x : Int) (g : Nat) (hg : g = w.heap.size) : IntO (w.alloc (.cells #[.int .i64 x] 3)) g (.slice (some ⟨g, 0, none⟩) 1 1) [x] := by
  subst hg
  exact ⟨rfl, .inr ⟨w.heap.size, 1, #[.int .i64 x], rfl, Nat.le_refl _, heap_alloc_new w _, by simp, by unfold maxLen; omega, rfl, rfl⟩⟩
theorem cls_lt {R : Nat → Nat → Bool} {i k n : Nat} (hi : i < n) (hk : k ≤ n) : ∀ x ∈ Sc.cls R i k, x < n := by
  intro x hx
  rcases List.mem_cons.1 hx with rfl | hx
  · exact hi
  · have := List.mem_range.1 (List.mem_filter.1 hx).1
    omega
theorem toL_ok {l : List Nat} (h : ∀ x ∈ l, x < 1000) : I64s (toL l) := by
  intro x hx
  obtain ⟨k, hk, rfl⟩ := List.mem_map.1 hx
  have := h k hk
  omega
theorem filter_len (p : Nat → Bool) (k : Nat) : ((List.range k).filter p).length ≤ k := by
  have := List.length_filter_le p (List.range k)
  simpa using this
theorem cls_len (R : Nat → Nat → Bool) (i k : Nat) : (Sc.cls R i k).length ≤ k + 1 := by
  unfold Sc.cls
  have := filter_len (fun j => decide (i < j) && Sc.eqv R i j) k
  simp only [List.length_cons]
  omega
theorem cmp_len (R : Nat → Nat → Bool) (n i : Nat) : (Sc.cmp R n i).length ≤ i := by
  unfold Sc.cmp
  rw [List.length_map]
  exact filter_len _ _
theorem grown_alc' {w w' : World} {r : Option Nat} (h : w.grownBy w' r) (o : Obj) : w.grownBy (w'.alloc o) r :=
  ⟨h.os, h.tape, h.output, Nat.le_trans h.size (by simp), fun b hb hn => (Below.heap_alloc w' o b (Nat.lt_of_lt_of_le hb h.size)).trans (h.block b hb hn)⟩
theorem grown_own {w w1 w2 : World} {r r2 : Option Nat} (h : w.grownBy w1 r) (k : w1.grownBy w2 r2) (hr : ∀ b, r2 = some b → w.heap.size ≤ b) : w.grownBy w2 r :=
  ⟨k.os.trans h.os, k.tape.trans h.tape, k.output.trans h.output, Nat.le_trans h.size k.size, fun b hb hn => (k.block b (Nat.lt_of_lt_of_le hb h.size) (fun e => by have := hr b e.symm; omega)).trans (h.block b hb hn)⟩
theorem grown_put {w w1 : World} {D j : Nat} (h : w.grownBy w1 (some D)) (u : Value) : w.grownBy (w1.setCell ⟨D, j, none⟩ u) (some D) :=
  ⟨h.os, h.tape, h.output, by rw [World.size_setCell]; exact h.size, fun b hb hn => (heap_setCell_other _ _ _ _ (fun e => hn (by rw [e]))).trans (h.block b hb hn)⟩
theorem grown_trans' {a b c : World} {r : Option Nat} (h : a.grownBy b r) (k : b.grownBy c r) : a.grownBy c r :=
  ⟨k.os.trans h.os, k.tape.trans h.tape, k.output.trans h.output, Nat.le_trans h.size k.size, fun x hx hn => (k.block x (Nat.lt_of_lt_of_le hx h.size) hn).trans (h.block x hx hn)⟩
theorem grown_refl' (w : World) (r : Option Nat) : w.grownBy w r := ⟨rfl, rfl, rfl, Nat.le_refl _, fun _ _ _ => rfl⟩
theorem below_of_grown {B D : Nat} {w w1 w2 : World} (h : Below B w w1) (k : w1.grownBy w2 (some D)) (hD : B ≤ D) (hB : B ≤ w1.heap.size) : Below B w w2 :=
  below_grown h k (fun b e => by injection e with e; omega) hB

set_option maxHeartbeats 1000000 in
theorem refComponents_any (w : World) (n : Int) (A : Option Addr) (P : List (List Int)) (ca : Nat) (hA : LiR w A P) (hl : P.length ≤ 1000) :
    Calls Tryd.prog 13 #[.int .i64 n, .slice A P.length ca] w (LiP w (toI (Sc.compV (Sc.rch (clV n) P) (clV n)))) := by
  have HWA := Lib.hid (ways_any w n A P ca hA hl)
  have hN := clV_le n
  have HR := Lib.hid (Sc.rch_eqv (clV n) P)
  generalize clV n = N at *
  generalize Sc.rch N P = R at *
  clear hA
  obtain ⟨i0, hi, hzz⟩ := Option.map_eq_some_iff.1 Tryd.infoNs
  simp only [Prod.mk.injEq] at hzz
  obtain ⟨hz0, hz1, hz2⟩ := hzz
  obtain ⟨i1, hj, hzy⟩ := Option.map_eq_some_iff.1 Tryd.infoN
  simp only [Prod.mk.injEq] at hzy
  obtain ⟨hy0, hy1, hy2⟩ := hzy
  go_enter Tryd.func13, Tryd.ntmps13
  go_wp2_with fail
  refine HWA.out.mono ?_
  rintro e w1 ⟨rfl, hM1, hB1, hs1⟩
  have HM1 := Lib.hid hM1
  have HB1 := Lib.hid hB1
  have HG : Hid (w.heap.size + 1 + N = w1.heap.size) := hs1.symm
  clear HWA hM1 hB1 hs1
  go_wp2_with (refine wpList_make_one (.bool false) 1 Tryd.underlying35 Tryd.infoB (by omega) rfl _ rfl _ _ rfl N rfl rfl (by omega) _ rfl ?_; intro w2 hO2 hC2 hB2 hs2)
  generalize hD : w1.heap.size = D at *
  have HM2 := Lib.hid (HM1.out.later (hD ▸ hB2))
  have hwD : w.heap.size ≤ D := by have := HG.out; omega
  have HB2 : Hid (Below w.heap.size w w2) := HB1.out.trans (hB2.mono hwD)
  have HD2 : Hid (BlR w2 D N (Sc.mk R 0)) := by show BlR _ _ _ _; rw [Sc.mk_zero]; exact hC2
  have HS2 : Hid (w2.heap.size = D + 1) := hs2
  clear HM1 HB1 hO2 hC2 hB2 hs2 hD
  generalize hGw : w.heap.size = G at *
  have HGW := Lib.hid hGw
  clear hGw
  go_wp2_with fail
  go_loopw [7, 8] (fun v u wr => ∃ (i : Nat) (L : List LiE), i ≤ N ∧ u = .int .i64 (i : Int) ∧ Hid (L.map (·.1) = toI (Sc.cmp R N i)) ∧ Hid (OwnR liK 22 wr (D + 1) v L) ∧ Hid (BlR wr D N (Sc.mk R i)) ∧ Hid (w2.grownBy wr (some D))) (fun _ u _ => N - (intOf u).toNat)
  case atStart => exact ⟨0, [], Nat.zero_le _, rfl, rfl, OwnR.nil _ _ _ _, HD2, grown_refl' _ _⟩
  case round =>
    clear HD2
    obtain ⟨i, L, hiN, rfl, HL, HO, HDi, HGr⟩ := hrel
    by_cases hil : i < N
    · have gi : (i : Int) < (N : Int) := by omega
      have gi0 : (0 : Int) ≤ (i : Int) := by omega
      obtain ⟨d0, -⟩ := HDi.out i hil
      cases hle : Sc.lead R i with
      | false =>
        rw [Sc.mk_lead, hle, Bool.not_false] at d0
        have HL2 : Hid (L.map (·.1) = toI (Sc.cmp R N (i + 1))) := by show _ = _; rw [Sc.cmp_skip hle]; exact HL.out
        have HD3 : Hid (BlR wr D N (Sc.mk R (i + 1))) := fun j hj => by rw [Sc.mk_skip HR.out hle]; exact HDi.out j hj
        clear HL HDi hle
        go_wp2_with fail
        go_roundw
        case rel => exact ⟨i + 1, L, hil, by go_num, HL2.out, HO.out, HD3.out, HGr.out⟩
        case measure => simp [intOf]; omega
      | true =>
        rw [Sc.mk_lead, hle, Bool.not_true] at d0
        have HI0 : Hid (IntO (wr.alloc (.cells #[.int .i64 (i : Int)] 3)) wr.heap.size (.slice (some ⟨wr.heap.size, 0, none⟩) 1 1) (toL (Sc.cls R i (i + 1)))) := by show IntO _ _ _ _; rw [Sc.cls_zero]; exact IntO.new wr _ _ rfl
        have HB0 : Hid (BlR (wr.alloc (.cells #[.int .i64 (i : Int)] 3)) D N (Sc.mk2 R i (i + 1))) := by show BlR _ _ _ _; rw [Sc.mk2_start]; exact HDi.out.later ((Below.refl _ _).alloc (Nat.le_refl _) _)
        have HG0 : Hid (wr.grownBy (wr.alloc (.cells #[.int .i64 (i : Int)] 3)) (some D)) := grown_alc' (grown_refl' _ _) _
        have hDr : D < wr.heap.size := by have h1 := HGr.out.size; have h2 := HS2.out; omega
        have HM3 : Hid (MxM wr G N R) := HM2.out.keep fun b h1 h2 => HGr.out.block b (by have h3 := HG.out; have h4 := HS2.out; omega) (fun e => by injection e with e; have h3 := HG.out; omega)
        go_wp2_with fail
        clear d0
        generalize wr = wo at *
        go_loopw [9, 10] (fun v u wi => ∃ j : Nat, i < j ∧ j ≤ N ∧ u = .int .i64 (j : Int) ∧ Hid (IntO wi wo.heap.size v (toL (Sc.cls R i j))) ∧ Hid (BlR wi D N (Sc.mk2 R i j)) ∧ Hid (wo.grownBy wi (some D))) (fun _ u _ => N - (intOf u).toNat)
        case atStart => exact ⟨i + 1, Nat.lt_succ_self _, hil, by go_num, HI0.out, HB0.out, HG0.out⟩
        case round =>
          clear HI0 HB0 HG0
          obtain ⟨j, hij, hjN, rfl, HI, HBj, HGi⟩ := hrel
          by_cases hjl : j < N
          · have gj : (j : Int) < (N : Int) := by omega
            have gj0 : (0 : Int) ≤ (j : Int) := by omega
            have HM4 := Lib.hid (HM3.out.keep fun b h1 h2 => HGi.out.block b (by have h3 := HG.out; omega) (fun e => by injection e with e; have h3 := HG.out; omega))
            have m0 := HM4.out.row i hil
            have m1 := HM4.out.row j hjl
            have m2 := HM4.out.cell hil hjl
            have m3 := HM4.out.cell hjl hil
            clear HM4
            have HLE := Lib.hid hle
            clear hle
            cases hv : Sc.eqv R i j with
            | false =>
              have HI2 := Lib.hid HI.out
              rw [← Sc.cls_skip hv] at HI2
              have HB3 := Lib.hid HBj.out
              rw [← Sc.mk2_skip hv] at HB3
              clear HI HBj
              cases h1 : R i j with
              | false =>
                rw [h1] at m2
                clear hv h1 m3
                go_wp2_with fail
                go_roundw
                case rel => exact ⟨j + 1, by omega, hjl, by go_num, HI2.out, HB3.out, HGi.out⟩
                case measure => simp [intOf]; omega
              | true =>
                have h2 : R j i = false := by
                  unfold Sc.eqv at hv
                  rw [h1, Bool.true_and] at hv
                  exact hv
                rw [h1] at m2
                rw [h2] at m3
                clear hv h1 h2
                go_wp2_with fail
                go_roundw
                case rel => exact ⟨j + 1, by omega, hjl, by go_num, HI2.out, HB3.out, HGi.out⟩
                case measure => simp [intOf]; omega
            | true =>
              obtain ⟨h1, h2⟩ := Sc.eqv_iff.1 hv
              rw [h1] at m2
              rw [h2] at m3
              clear h1 h2
              have HCL := Lib.hid (Sc.cls_take hij hv)
              have HMK := Lib.hid (fun x => Sc.mk2_take hij hv x)
              have hcl := cls_len R i j
              have HDC := Lib.hid (HBj.out j hjl)
              clear hv
              obtain ⟨A9, c9, rfl⟩ := HI.out.form
              have hlen : (toL (Sc.cls R i j)).length = (Sc.cls R i j).length := List.length_map _
              have hsz : wo.heap.size ≤ wr.heap.size := HGi.out.size
              generalize hxs : toL (Sc.cls R i j) = xs at *
              have HXS := Lib.hid hxs
              have hx64 : xs.length ≤ 65 := by omega
              have hbD : some D ≠ (Value.slice A9 xs.length c9).ownBlock := fun e => by have := (HI.out.lt D e.symm).1; omega
              have HDF := Lib.hid (fun (W : World) (h : (wr.alloc (.cells #[.int .i64 (j : Int)] 3)).grownBy W (Value.slice A9 xs.length c9).ownBlock) => (⟨(h.cell_far ⟨D, j, none⟩ (by simp; omega) hbD).trans ((World.cell?_alloc_lt _ _ _ (by show D < _; omega)).trans HDC.out.1), (h.frozen_far ⟨D, j, none⟩ (by simp; omega) hbD).trans ((World.frozen?_of_block (Below.heap_alloc wr _ D (by omega))).trans HDC.out.2)⟩ : W.cell? ⟨D, j, none⟩ = some (.bool (Sc.mk2 R i j j)) ∧ W.frozen? ⟨D, j, none⟩ = false))
              clear hxs hlen hcl HDC
              generalize Sc.mk2 R i j j = dj at *
              go_wp2_with (at_builtin; refine wpList_append_lies _ rfl (.tmp 55) (.tmp 57) 22 rfl wo.heap.size 3 i1 _ 1 8 Tryd.underlying22 hj hy0 hy1 hy2 rfl (by decide) _ xs.length (iCs xs) rfl (HI.out.alloc _) ⟨wr.heap.size, 0, none⟩ 1 1 [.int .i64 (j : Int)] rfl rfl (sc_news wr _ rfl _ _) (iCs_one [(j : Int)]) (by omega) (by unfold maxLen; omega) (by omega) (by simp; omega) _ rfl ?_; intro gb cap w5 hown hgrow hlies hgl; obtain ⟨q0, q1⟩ := HDF.out w5 hgrow)
              have HBk : Hid (w5.heap[D]? = wr.heap[D]?) := (hgrow.block D (by simp; omega) hbD).trans (Below.heap_alloc wr _ D (by omega))
              have HI5 : Hid (IntO (w5.setCell ⟨D, j, none⟩ (.bool true)) wo.heap.size (.slice (some ⟨gb, 0, none⟩) (xs.length + 1) cap) (toL (Sc.cls R i (j + 1)))) := by
                have e : toL (Sc.cls R i (j + 1)) = xs ++ [(j : Int)] := by rw [HCL.out, ← HXS.out]; unfold toL; rw [List.map_append]; rfl
                show IntO _ _ _ _
                rw [e]
                unfold IntO iCs
                rw [List.length_append, List.map_append]
                exact ownsRow_setCell_below hown hDr _
              have HB5 : Hid (BlR (w5.setCell ⟨D, j, none⟩ (.bool true)) D N (Sc.mk2 R i (j + 1))) := (HBj.out.keep HBk.out).put true hjl fun x _ => HMK.out x
              have HG5 : Hid (wo.grownBy (w5.setCell ⟨D, j, none⟩ (.bool true)) (some D)) := grown_put (grown_own (grown_alc' HGi.out _) hgrow fun b e => (HI.out.lt b e).1) _
              clear HI HBj HGi hown hgrow hlies hgl q0 q1 HBk HDF hbD HXS HCL HMK m0 m1 m2 m3
              go_roundw
              case rel => exact ⟨j + 1, by omega, hjl, by go_num, HI5.out, HB5.out, HG5.out⟩
              case measure => simp [intOf]; omega
          · obtain rfl : j = N := by omega
            have gj : ¬ (j : Int) < (j : Int) := by omega
            have HDn : Hid (BlR wr D j (Sc.mk R (i + 1))) := fun x hx => by rw [← Sc.mk2_end hx]; exact HBj.out x hx
            obtain ⟨A9, c9, rfl⟩ := HI.out.form
            have HIN := Lib.hid (HI.out.inn (S := (wo.heap.size ≤ ·)) (toL_ok fun x hx => by have := cls_lt hil (Nat.le_refl _) x hx; omega) fun b h1 _ => h1)
            have HO4 := Lib.hid (HO.out.grown HGi.out (Nat.lt_succ_self D))
            obtain ⟨A7, c7, rfl⟩ := HO.out.form
            have HLn := Lib.hid (Sc.cmp_take (n := j) hle)
            have hlen : L.length ≤ 65 := by
              have h1 := congrArg List.length HL.out
              have h2 := cmp_len R j i
              unfold toI at h1
              rw [List.length_map, List.length_map] at h1
              omega
            have hsz : wo.heap.size ≤ wr.heap.size := HGi.out.size
            clear HDi HBj hle
            generalize hxs : toL (Sc.cls R i j) = xs at *
            have HXS := Lib.hid hxs
            clear hxs
            have hbD : some D ≠ (Value.slice A7 L.length c7).ownBlock := fun e => by have := (HO4.out.1.lt D e.symm).1; omega
            go_wp2_with (at_builtin; refine wpList_append_lies _ rfl (.tmp 60) (.tmp 62) 24 rfl (D + 1) 22 i0 _ 1 24 Tryd.underlying24 hi hz0 hz1 hz2 rfl (by decide) _ L.length (liK.cs L) rfl (HO4.out.alloc _).1 ⟨wr.heap.size, 0, none⟩ 1 1 [.slice A9 xs.length c9] rfl rfl (sc_news wr _ rfl _ _) (liK.one (xs, A9, c9)) (by omega) (by unfold maxLen; omega) (by omega) (by simp; omega) _ rfl ?_; intro gb cap w5 hown hgrow hlies hgl)
            have HO5 : Hid (OwnR liK 22 w5 (D + 1) (.slice (some ⟨gb, 0, none⟩) (L.length + 1) cap) (L ++ [(xs, A9, c9)])) :=
              (HO4.out.alloc (.cells #[.slice A9 xs.length c9] 22)).snoc (liK.fresh (liK.keep HIN.out fun b _ hl => Below.heap_alloc wr _ b hl) HO.out (Nat.le_refl _) hDr) hown hgrow (sc_lies hlies (by simp))
            have HD5 : Hid (BlR w5 D j (Sc.mk R (i + 1))) := HDn.out.keep ((hgrow.block D (by simp; omega) hbD).trans (Below.heap_alloc wr _ D (by omega)))
            have HG5 : Hid (w2.grownBy w5 (some D)) := grown_own (grown_alc' (grown_trans' HGr.out HGi.out) _) hgrow fun b e => by rw [HS2.out]; exact (HO4.out.1.lt b e).1
            have HL5 : Hid ((L ++ [(xs, A9, c9)]).map (·.1) = toI (Sc.cmp R j (i + 1))) := by
              show _ = _
              rw [HLn.out, List.map_append, HL.out]
              unfold toI
              rw [List.map_append, ← HXS.out]
              rfl
            clear HO HO4 HDn HGr HGi hown hgrow hlies hgl HL HLn HXS HI HIN hbD
            go_roundw
            case rel => exact ⟨i + 1, L ++ [(xs, A9, c9)], hil, by go_num, HL5.out, HO5.out, HD5.out, HG5.out⟩
            case measure => simp [intOf]; omega
    · obtain rfl : i = N := by omega
      have gi : ¬ (i : Int) < (i : Int) := by omega
      obtain ⟨A7, c7, rfl⟩ := HO.out.form
      have e : L.map (·.1) = toI (Sc.compV R i) := HL.out
      have HE := Lib.hid e
      have HRD : Hid (LiR wr A7 (toI (Sc.compV R i))) := by have := li_own HO.out; rw [e] at this; exact this
      have HBW : Hid (Below G w wr) := below_of_grown HB2.out HGr.out hwD (by have := HS2.out; omega)
      have HLN : Hid (L.length = (toI (Sc.compV R i)).length) := by show _ = _; rw [← e, List.length_map]
      clear e HL HO
      go_wp2_with fail
      go_ret
      exact ⟨A7, c7, by rw [← HLN.out]; rfl, HRD.out, by rw [HGW.out]; exact HBW.out⟩
end Go.Proofs.YtnofcanboaaejaaDoor
