/- What package scc's three functions return: the components, the cyclic ones, and whether a node reaches another one. Condition: the table of math/bits lies in its variable. -/
import Derived.Test.YtnofcanboaaejaaDoorScPrF
namespace Go.Proofs.YtnofcanboaaejaaDoor
open Go.RowKit
set_option maxRecDepth 100000

theorem rch_lt' {n : Nat} {P : List (List Int)} : ∀ a b, Sc.rch n P a b = true → b < n := fun _ _ h => (Sc.rch_iff.1 h).lt.2
theorem sccComponents_any (w : World) (n : Int) (A : Option Addr) (P : List (List Int)) (ca : Nat) (hT : TzT w) (hA : LiR w A P) (hl : P.length ≤ 1000) :
    Calls Tryd.prog 12 #[.int .i64 n, .slice A P.length ca] w (LiP w (toI (Sc.compV (Sc.rch (clV n) P) (clV n)))) := by
  have HG := Lib.hid (graphOf_any w n A P ca hA hl)
  have hN := clV_le n
  have HP := Lib.hid (fun W g c h (k : Below w.heap.size w W) => paths_any W (clV n) g c P hN h (hT.later k))
  have HC := Lib.hid (fun W g c h (k : Below w.heap.size w W) => components_any W (clV n) g c (Sc.rch (clV n) P) hN rch_lt' h (hT.later k))
  clear hA hT
  generalize clV n = N at *
  go_enter Tryd.func12, Tryd.ntmps12
  go_wp2_with fail
  refine HG.out.mono ?_
  rintro e w1 ⟨g1, rfl, hU1, hB1⟩
  have HU1 := Lib.hid hU1
  have HB1 := Lib.hid hB1
  clear hU1 hB1
  go_wp2_with fail
  refine (HP.out w1 _ _ HU1.out HB1.out).mono ?_
  rintro e w2 ⟨g2, rfl, hU2, hB2⟩
  have HU2 := Lib.hid hU2
  have HB2 := Lib.hid (sc_two HB1.out hB2)
  clear hU2 hB2 HU1 HB1
  go_wp2_with fail
  refine (HC.out w2 _ _ HU2.out HB2.out).mono ?_
  rintro e w3 ⟨A3, c3, rfl, hL3, hB3⟩
  have HL3 := Lib.hid hL3
  have HB3 := Lib.hid (sc_two HB2.out hB3)
  clear hL3 hB3
  go_wp2_with fail
  go_ret
  exact ⟨A3, c3, rfl, HL3.out, HB3.out⟩

theorem sccReaches_any (w : World) (n x y : Int) (A : Option Addr) (P : List (List Int)) (ca : Nat) (hT : TzT w) (hA : LiR w A P) (hl : P.length ≤ 1000) :
    Calls Tryd.prog 20 #[.int .i64 n, .slice A P.length ca, .int .i64 x, .int .i64 y] w fun e w' => e = .returned (.bool (reV n P x y)) ∧ Below w.heap.size w w' := by
  have HG := Lib.hid (graphOf_any w n A P ca hA hl)
  have hN := clV_le n
  have HT := Lib.hid (fun W (k : Below w.heap.size w W) => hT.later k)
  have HV : Hid (reV n P x y = (decide (0 ≤ x) && decide (x < (clV n : Int)) && decide (0 ≤ y) && decide (y < (clV n : Int)) && Sc.rch (clV n) P x.toNat y.toNat)) := rfl
  generalize reV n P x y = V at *
  clear hA hT
  generalize clV n = N at *
  go_enter Tryd.func20, Tryd.ntmps20
  go_wp2_with fail
  refine HG.out.mono ?_
  rintro e w1 ⟨g1, rfl, hU1, hB1⟩
  have HU1 := Lib.hid hU1
  have HB1 := Lib.hid hB1
  have HNX := Lib.hid (fun W => isNode_any (some ⟨g1, 0, none⟩) N N x W)
  have HNY := Lib.hid (fun W => isNode_any (some ⟨g1, 0, none⟩) N N y W)
  clear hU1 hB1
  have HQ1 : Hid ((decide (0 ≤ x) && decide (x < (N : Int))) = true → 0 ≤ x ∧ x < (N : Int)) := fun h => by simpa using h
  have HQ2 : Hid ((decide (0 ≤ y) && decide (y < (N : Int))) = true → 0 ≤ y ∧ y < (N : Int)) := fun h => by simpa using h
  have HV2 : Hid (V = ((decide (0 ≤ x) && decide (x < (N : Int))) && (decide (0 ≤ y) && decide (y < (N : Int))) && Sc.rch N P x.toNat y.toNat)) := by
    show _ = _
    rw [HV.out]
    simp only [Bool.and_assoc]
  clear HV
  generalize (decide (0 ≤ x) && decide (x < (N : Int))) = q1 at *
  generalize (decide (0 ≤ y) && decide (y < (N : Int))) = q2 at *
  cases q1 with
  | false =>
    have HV3 : Hid (V = false) := by show _ = _; rw [HV2.out, Bool.false_and, Bool.false_and]
    clear HV2
    go_wp2_with fail
    refine (HNX.out _).mono ?_
    rintro e w2 ⟨rfl, rfl⟩
    go_wp2_with fail
    go_ret
    exact ⟨by rw [HV3.out]; rfl, HB1.out⟩
  | true =>
    cases q2 with
    | false =>
      have HV3 : Hid (V = false) := by show _ = _; rw [HV2.out, Bool.and_false, Bool.false_and]
      clear HV2
      go_wp2_with fail
      refine (HNX.out _).mono ?_
      rintro e w2 ⟨rfl, rfl⟩
      go_wp2_with fail
      refine (HNY.out _).mono ?_
      rintro e w2 ⟨rfl, rfl⟩
      go_wp2_with fail
      go_ret
      exact ⟨by rw [HV3.out]; rfl, HB1.out⟩
    | true =>
      obtain ⟨hx0, hx1⟩ := HQ1.out rfl
      obtain ⟨hy0, hy1⟩ := HQ2.out rfl
      obtain ⟨a, rfl⟩ : ∃ a : Nat, x = (a : Int) := ⟨x.toNat, by omega⟩
      obtain ⟨d, rfl⟩ : ∃ d : Nat, y = (d : Int) := ⟨y.toNat, by omega⟩
      have HV3 : Hid (V = Sc.rch N P a d) := by show _ = _; rw [HV2.out, Int.toNat_natCast, Int.toNat_natCast, Bool.true_and, Bool.true_and]
      have HRE := Lib.hid (reached_any N a P g1 N w1 hN (by omega) HU1.out (HT.out _ HB1.out))
      have HH := Lib.hid (fun W => scHas_any (Sc.nb (Sc.rch N P a)) d W (Sc.nb_lt _) (by omega))
      rw [Sc.nb_bit, decide_eq_true (show d < 64 by omega), Bool.true_and, ← HV3.out] at HH
      generalize Sc.nb (Sc.rch N P a) = s at *
      clear HV2 HV3 HQ1 HQ2 HU1
      go_wp2_with fail
      refine (HNX.out _).mono ?_
      rintro e w2 ⟨rfl, rfl⟩
      go_wp2_with fail
      refine (HNY.out _).mono ?_
      rintro e w2 ⟨rfl, rfl⟩
      go_wp2_with fail
      refine HRE.out.mono ?_
      rintro e w2 ⟨rfl, rfl⟩
      go_wp2_with fail
      refine (HH.out _).mono ?_
      rintro e w2 ⟨rfl, rfl⟩
      go_wp2_with fail
      go_ret
      exact ⟨rfl, HB1.out⟩

set_option maxHeartbeats 1000000 in
theorem sccCyclic_any (w : World) (n : Int) (A : Option Addr) (P : List (List Int)) (ca : Nat) (hT : TzT w) (hA : LiR w A P) (hl : P.length ≤ 1000) :
    Calls Tryd.prog 14 #[.int .i64 n, .slice A P.length ca] w (LiP w (toI (Sc.cycV (Sc.rch (clV n) P) (clV n)))) := by
  have HG := Lib.hid (graphOf_any w n A P ca hA hl)
  have hN := clV_le n
  have HP := Lib.hid (fun W g c h (k : Below w.heap.size w W) => paths_any W (clV n) g c P hN h (hT.later k))
  have HCO := Lib.hid (fun W g c h (k : Below w.heap.size w W) => components_any W (clV n) g c (Sc.rch (clV n) P) hN rch_lt' h (hT.later k))
  clear hA hT
  generalize clV n = N at *
  generalize Sc.rch N P = R at *
  obtain ⟨i0, hi, hzz⟩ := Option.map_eq_some_iff.1 Tryd.infoNs
  simp only [Prod.mk.injEq] at hzz
  obtain ⟨hz0, hz1, hz2⟩ := hzz
  go_enter Tryd.func14, Tryd.ntmps14
  go_wp2_with fail
  refine HG.out.mono ?_
  rintro e w0 ⟨g0, rfl, hU0, hB0⟩
  have HU0 := Lib.hid hU0
  have HB0 := Lib.hid hB0
  clear hU0 hB0
  go_wp2_with fail
  refine (HP.out w0 _ _ HU0.out HB0.out).mono ?_
  rintro e w1 ⟨g1, rfl, hU1, hB1⟩
  have HU1 := Lib.hid hU1
  have HB1 := Lib.hid (sc_two HB0.out hB1)
  clear hU1 hB1 HU0 HB0
  go_wp2_with fail
  refine (HCO.out w1 _ _ HU1.out HB1.out).mono ?_
  rintro e w2 ⟨A2, c2, rfl, hR2, hB2⟩
  have HM2 := Lib.hid (fun W (h : Below w2.heap.size w2 W) => HU1.out.later (sc_two hB2 h))
  have HB2 := Lib.hid (sc_two HB1.out hB2)
  have HR2 := Lib.hid hR2
  have hlen : (toI (Sc.compV R N)).length = (Sc.compV R N).length := List.length_map _
  have hle := comp_len R N
  generalize hC : Sc.compV R N = C at *
  have HC := Lib.hid hC
  rw [hlen]
  clear HU1 HB1 HCO HP HG hR2 hB2 hC hlen
  go_wp2_with fail
  go_loopw [6, 17] (fun v u wr => ∃ (i : Nat) (L : List LiE), i ≤ C.length ∧ u = .int .i64 (i : Int) ∧ Hid (L.map (·.1) = toI ((C.take i).filter (cyp R))) ∧ Hid (wr.ownsRow w2.heap.size 22 1 v L.length (liK.cs L)) ∧ Hid (∀ p ∈ L, IntR w2 p.2.1 p.1) ∧ Hid (Below w2.heap.size w2 wr)) (fun _ u _ => C.length - (intOf u).toNat)
  case atStart => exact ⟨0, [], Nat.zero_le _, rfl, rfl, World.ownsRow_nil _ _ _ _, fun p hp => absurd hp (by simp), Below.refl _ _⟩
  case round =>
    obtain ⟨i, L, hiN, rfl, HL, HO, HE, HB⟩ := hrel
    by_cases hil : i < C.length
    · have gi : (i : Int) < (C.length : Int) := by omega
      have gi0 : (0 : Int) ≤ (i : Int) := by omega
      obtain ⟨a, ha, hca⟩ : ∃ a, a < N ∧ C[i] = Sc.cls R a N := by
        have h := HC.out
        subst h
        obtain ⟨a, h1, -, h2⟩ := comp_at hil
        exact ⟨a, h1, h2⟩
      obtain ⟨b, off, Ai, ci, rfl, c0, r0⟩ := HR2.out i (by unfold toI; rw [List.length_map]; exact hil)
      have eP : (toI C)[i]'(by unfold toI; rw [List.length_map]; exact hil) = toL C[i] := List.getElem_map _
      rw [eP] at c0 r0
      have HT : Hid ((C.take (i + 1)).filter (cyp R) = (C.take i).filter (cyp R) ++ (if R a a = true then [C[i]] else [])) := by
        have h := HC.out
        show _ = _
        have e2 : cyp R C[i] = R a a := by rw [hca]; rfl
        rw [← e2]
        subst h
        exact cyc_take hil
      rw [hca] at c0 r0 HT
      have hcl : 0 < (toL (Sc.cls R a N)).length := by unfold toL Sc.cls; simp
      have hc65 := cls_len R a N
      have hle2 : (toL (Sc.cls R a N)).length = (Sc.cls R a N).length := List.length_map _
      have r0' := r0 0 hcl
      have e0 : (toL (Sc.cls R a N))[0] = (a : Int) := rfl
      rw [e0] at r0'
      obtain ⟨b1, off1, rfl, d0, -⟩ := r0'
      have HRd := Lib.hid r0
      have c0' := cell_later HB.out c0
      have d0' := cell_later HB.out d0
      rw [Nat.add_zero] at d0'
      have m1 := (HM2.out wr HB.out a ha).1
      dsimp only at m1
      have HH := Lib.hid (fun W => scHas_any (Sc.nb (R a)) a W (Sc.nb_lt _) (by omega))
      rw [Sc.nb_bit, decide_eq_true (show a < 64 by omega), Bool.true_and] at HH
      generalize Sc.nb (R a) = sa at *
      have ga : (a : Int) < (N : Int) := by omega
      have ga0 : (0 : Int) ≤ (a : Int) := by omega
      clear c0 d0 r0 eP e0
      generalize hxs : toL (Sc.cls R a N) = xs at *
      have HXS := Lib.hid hxs
      have gx : (0 : Int) < (xs.length : Int) := by omega
      have HCA := Lib.hid hca
      clear hxs hle2 hcl hca
      have hl65 : L.length ≤ 65 := by
        have h1 := congrArg List.length HL.out
        unfold toI at h1
        rw [List.length_map, List.length_map] at h1
        have h2 := List.length_filter_le (cyp R) (C.take i)
        rw [List.length_take] at h2
        omega
      cases hv : R a a with
      | false =>
        rw [hv] at HH
        have HL2 : Hid (L.map (·.1) = toI ((C.take (i + 1)).filter (cyp R))) := by show _ = _; rw [HT.out, hv]; simp only [Bool.false_eq_true, if_false, List.append_nil]; exact HL.out
        clear HL HT hv
        go_wp2_with fail
        refine (HH.out _).mono ?_
        rintro e w3 ⟨rfl, rfl⟩
        go_wp2_with fail
        go_roundw
        case rel => exact ⟨i + 1, L, hil, by go_num, HL2.out, HO.out, HE.out, HB.out⟩
        case measure => simp [intOf]; omega
      | true =>
        rw [hv] at HH
        have HL2 : Hid ((L ++ [((xs, some (⟨b1, off1, none⟩ : Addr), ci) : LiE)]).map (·.1) = toI ((C.take (i + 1)).filter (cyp R))) := by
          show _ = _
          rw [HT.out, hv, if_pos rfl, List.map_append, HL.out]
          unfold toI
          rw [List.map_append, ← HXS.out]
          rfl
        have HE2 : Hid (∀ p ∈ L ++ [((xs, some (⟨b1, off1, none⟩ : Addr), ci) : LiE)], IntR w2 p.2.1 p.1) := fun p hp => by
          rcases List.mem_append.1 hp with hp | hp
          · exact HE.out p hp
          · rw [List.mem_singleton.1 hp]; exact HRd.out
        have hsz : w2.heap.size ≤ wr.heap.size := HB.out.size
        clear HL HT hv HE
        go_wp2_with fail
        refine (HH.out _).mono ?_
        rintro e w3 ⟨rfl, rfl⟩
        go_wp2_with (at_builtin; refine wpList_append_lies _ rfl (.tmp 30) (.tmp 32) 24 rfl w2.heap.size 22 i0 _ 1 24 Tryd.underlying24 hi hz0 hz1 hz2 rfl (by decide) _ L.length (liK.cs L) rfl (IntO_alloc HO.out _) ⟨wr.heap.size, 0, none⟩ 1 1 [.slice (some ⟨b1, off1, none⟩) xs.length ci] rfl rfl (sc_news wr _ rfl _ _) (liK.one (xs, some ⟨b1, off1, none⟩, ci)) (by omega) (by unfold maxLen; omega) (by omega) (by simp; omega) _ rfl ?_; intro gb cap w5 hown hgrow hlies hgl)
        have HO5 : Hid (w5.ownsRow w2.heap.size 22 1 (.slice (some ⟨gb, 0, none⟩) (L.length + 1) cap) (L ++ [((xs, some (⟨b1, off1, none⟩ : Addr), ci) : LiE)]).length (liK.cs (L ++ [((xs, some (⟨b1, off1, none⟩ : Addr), ci) : LiE)]))) := by
          show World.ownsRow _ _ _ _ _ _ _
          rw [List.length_append, liK.cs_snoc]
          exact hown
        have HB5 : Hid (Below w2.heap.size w2 w5) := below_grown (HB.out.alloc hsz _) hgrow (fun b e => (HO.out.lt b e).1) (by simp; omega)
        clear HO HB hown hgrow hlies hgl
        go_roundw
        case rel => exact ⟨i + 1, L ++ [((xs, some (⟨b1, off1, none⟩ : Addr), ci) : LiE)], hil, by go_num, HL2.out, HO5.out, HE2.out, HB5.out⟩
        case measure => simp [intOf]; omega
    · obtain rfl : i = C.length := by omega
      have gi : ¬ (C.length : Int) < (C.length : Int) := by omega
      rw [List.take_length] at HL
      have HV : Hid (C.filter (cyp R) = Sc.cycV R N) := by
        have h := HC.out
        show _ = _
        subst h
        rfl
      rw [HV.out] at HL
      obtain ⟨A7, c7, rfl⟩ : ∃ A c, u6 = .slice A L.length c := by
        rcases HO.out.2 with ⟨e, e0⟩ | ⟨g, cap, cur, e, _⟩
        · exact ⟨none, 0, by rw [e, e0]⟩
        · exact ⟨_, _, e⟩
      have HRD : Hid (LiR wr A7 (toI (Sc.cycV R N))) := by have := li_read HO.out (fun p hp => (HE.out p hp).later HB.out); rw [HL.out] at this; exact this
      have HLN : Hid (L.length = (toI (Sc.cycV R N)).length) := by show _ = _; rw [← HL.out, List.length_map]
      have HBW := Lib.hid (sc_two HB2.out HB.out)
      clear HL HO HE HB
      go_wp2_with fail
      go_ret
      exact ⟨A7, c7, by rw [← HLN.out]; rfl, HRD.out, HBW.out⟩
end Go.Proofs.YtnofcanboaaejaaDoor
