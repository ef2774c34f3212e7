/- What the reference's Cyclic does. -/
import Derived.Test.YtnofcanboaaejaaDoorScCmp
namespace Go.Proofs.YtnofcanboaaejaaDoor
open Go.RowKit
set_option maxRecDepth 100000

theorem owns_drew {w : World} {base : Nat} {e : TypeId} {size n : Nat} {v : Value} {xs : List Value} (h : w.ownsRow base e size v n xs) : w.drew.ownsRow base e size v n xs := h
theorem IntO_alloc {w : World} {base : Nat} {e : TypeId} {size n : Nat} {v : Value} {xs : List Value} (h : w.ownsRow base e size v n xs) (o : Obj) : (w.alloc o).ownsRow base e size v n xs := by
  refine ⟨h.1, ?_⟩
  rcases h.2 with h0 | ⟨g, cap, cur, e, hg, hb, r⟩
  · exact .inl h0
  · exact .inr ⟨g, cap, cur, e, hg, (Below.heap_alloc w o g (sc_lt hb)).trans hb, r⟩
theorem comp_at {R : Nat → Nat → Bool} {n i : Nat} (h : i < (Sc.compV R n).length) : ∃ a, a < n ∧ Sc.lead R a = true ∧ (Sc.compV R n)[i] = Sc.cls R a n := by
  have hm := List.getElem_mem h
  unfold Sc.compV Sc.cmp at hm
  obtain ⟨a, ha, e⟩ := List.mem_map.1 hm
  obtain ⟨h1, h2⟩ := List.mem_filter.1 ha
  exact ⟨a, List.mem_range.1 h1, h2, e.symm⟩
def cyp (R : Nat → Nat → Bool) (x : List Nat) : Bool := R (x.headD 0) (x.headD 0)
theorem cyc_take {R : Nat → Nat → Bool} {n i : Nat} (h : i < (Sc.compV R n).length) : ((Sc.compV R n).take (i + 1)).filter (cyp R) = ((Sc.compV R n).take i).filter (cyp R) ++ (if cyp R (Sc.compV R n)[i] = true then [(Sc.compV R n)[i]] else []) := by
  rw [List.take_succ_eq_append_getElem h, List.filter_append]
  congr 1
  rw [List.filter_cons, List.filter_nil]
theorem comp_len (R : Nat → Nat → Bool) (n : Nat) : (Sc.compV R n).length ≤ n := cmp_len R n n

set_option maxHeartbeats 1000000 in
theorem refCyclic_any (w : World) (n : Int) (A : Option Addr) (P : List (List Int)) (ca : Nat) (hA : LiR w A P) (hl : P.length ≤ 1000) :
    Calls Tryd.prog 15 #[.int .i64 n, .slice A P.length ca] w (LiP w (toI (Sc.cycV (Sc.rch (clV n) P) (clV n)))) := by
  have HWA := Lib.hid (ways_any w n A P ca hA hl)
  have HCO := Lib.hid (fun W (h : Below w.heap.size w W) => refComponents_any W n A P ca (hA.later h) hl)
  have hN := clV_le n
  generalize clV n = N at *
  generalize Sc.rch N P = R at *
  clear hA
  obtain ⟨i0, hi, hzz⟩ := Option.map_eq_some_iff.1 Tryd.infoNs
  simp only [Prod.mk.injEq] at hzz
  obtain ⟨hz0, hz1, hz2⟩ := hzz
  go_enter Tryd.func15, Tryd.ntmps15
  go_wp2_with fail
  refine HWA.out.mono ?_
  rintro e w1 ⟨rfl, hM1, hB1, hs1⟩
  have HM1 := Lib.hid hM1
  have HB1 := Lib.hid hB1
  clear HWA hM1 hB1 hs1
  go_wp2_with fail
  refine (HCO.out w1 HB1.out).mono ?_
  rintro e w2 ⟨A2, c2, rfl, hR2, hB2⟩
  have HM2 := Lib.hid (fun W (h : Below w2.heap.size w2 W) => HM1.out.later (sc_two hB2 h))
  have HB2 := Lib.hid (sc_two HB1.out hB2)
  have HR2 := Lib.hid hR2
  have hlen : (toI (Sc.compV R N)).length = (Sc.compV R N).length := List.length_map _
  have hle := comp_len R N
  generalize hC : Sc.compV R N = C at *
  have HC := Lib.hid hC
  rw [hlen]
  clear HM1 HB1 HCO hR2 hB2 hC hlen
  go_wp2_with fail
  go_loopw [7, 8] (fun v u wr => ∃ (i : Nat) (L : List LiE), i ≤ C.length ∧ u = .int .i64 (i : Int) ∧ Hid (L.map (·.1) = toI ((C.take i).filter (cyp R))) ∧ Hid (wr.ownsRow w2.heap.size 22 1 v L.length (liK.cs L)) ∧ Hid (∀ p ∈ L, IntR w2 p.2.1 p.1) ∧ Hid (Below w2.heap.size w2 wr)) (fun _ u _ => C.length - (intOf u).toNat)
  case atStart => exact ⟨0, [], Nat.zero_le _, rfl, rfl, World.ownsRow_nil _ _ _ _, fun p hp => absurd hp (by simp), Below.refl _ _⟩
  case round =>
    obtain ⟨i, L, hiN, rfl, HL, HO, HE, HB⟩ := hrel
    by_cases hil : i < C.length
    · have gi : (i : Int) < (C.length : Int) := by omega
      have gi0 : (0 : Int) ≤ (i : Int) := by omega
      obtain ⟨a, ha, hca⟩ : ∃ a, a < N ∧ C[i] = Sc.cls R a N := by
        have h := HC.out
        subst h
        obtain ⟨a, h1, -, h2⟩ := comp_at hil
        exact ⟨a, h1, h2⟩
      obtain ⟨b, off, Ai, ci, rfl, c0, r0⟩ := HR2.out i (by unfold toI; rw [List.length_map]; exact hil)
      have eP : (toI C)[i]'(by unfold toI; rw [List.length_map]; exact hil) = toL C[i] := List.getElem_map _
      rw [eP] at c0 r0
      have HT : Hid ((C.take (i + 1)).filter (cyp R) = (C.take i).filter (cyp R) ++ (if R a a = true then [C[i]] else [])) := by
        have h := HC.out
        show _ = _
        have e2 : cyp R C[i] = R a a := by rw [hca]; rfl
        rw [← e2]
        subst h
        exact cyc_take hil
      rw [hca] at c0 r0 HT
      have hcl : 0 < (toL (Sc.cls R a N)).length := by unfold toL Sc.cls; simp
      have hc65 := cls_len R a N
      have hle2 : (toL (Sc.cls R a N)).length = (Sc.cls R a N).length := List.length_map _
      have r0' := r0 0 hcl
      have e0 : (toL (Sc.cls R a N))[0] = (a : Int) := rfl
      rw [e0] at r0'
      obtain ⟨b1, off1, rfl, d0, -⟩ := r0'
      have HRd := Lib.hid r0
      have c0' := cell_later HB.out c0
      have d0' := cell_later HB.out d0
      rw [Nat.add_zero] at d0'
      have hM := HM2.out wr HB.out
      have m0 := hM.row a ha
      have m1 := hM.cell ha ha
      have ga : (a : Int) < (N : Int) := by omega
      have ga0 : (0 : Int) ≤ (a : Int) := by omega
      clear hM c0 d0 r0 eP e0
      generalize hxs : toL (Sc.cls R a N) = xs at *
      have HXS := Lib.hid hxs
      have gx : (0 : Int) < (xs.length : Int) := by omega
      have HCA := Lib.hid hca
      clear hxs hle2 hcl hca
      have hl65 : L.length ≤ 65 := by
        have h1 := congrArg List.length HL.out
        unfold toI at h1
        rw [List.length_map, List.length_map] at h1
        have h2 := List.length_filter_le (cyp R) (C.take i)
        rw [List.length_take] at h2
        omega
      cases hv : R a a with
      | false =>
        rw [hv] at m1
        have HL2 : Hid (L.map (·.1) = toI ((C.take (i + 1)).filter (cyp R))) := by show _ = _; rw [HT.out, hv]; simp only [Bool.false_eq_true, if_false, List.append_nil]; exact HL.out
        clear HL HT hv
        go_wp2_with fail
        go_region
        all_goals
          go_wp2_with fail
          go_roundw
          case rel => exact ⟨i + 1, L, hil, by go_num, HL2.out, (owns_drew HO.out), HE.out, sc_drewN HB.out 1⟩
          case measure => simp [intOf]; omega
      | true =>
        rw [hv] at m1
        have HL2 : Hid ((L ++ [((xs, some (⟨b1, off1, none⟩ : Addr), ci) : LiE)]).map (·.1) = toI ((C.take (i + 1)).filter (cyp R))) := by
          show _ = _
          rw [HT.out, hv, if_pos rfl, List.map_append, HL.out]
          unfold toI
          rw [List.map_append, ← HXS.out]
          rfl
        have HE2 : Hid (∀ p ∈ L ++ [((xs, some (⟨b1, off1, none⟩ : Addr), ci) : LiE)], IntR w2 p.2.1 p.1) := fun p hp => by
          rcases List.mem_append.1 hp with hp | hp
          · exact HE.out p hp
          · rw [List.mem_singleton.1 hp]; exact HRd.out
        have hsz : w2.heap.size ≤ wr.heap.size := HB.out.size
        have HB3 : Hid (Below w2.heap.size w2 wr.drew) := sc_drewN HB.out 1
        have HO3 : Hid (wr.drew.ownsRow w2.heap.size 22 1 u7 L.length (liK.cs L)) := owns_drew HO.out
        clear HL HT hv HE HO HB
        go_wp2_with fail
        go_region
        all_goals
          clear m0 m1 d0'
          replace c0' : wr.drew.cell? ⟨b, off + i, none⟩ = some (.slice (some ⟨b1, off1, none⟩) xs.length ci) := c0'
          have hsz' : w2.heap.size ≤ wr.drew.heap.size := hsz
          clear hsz
          generalize wr.drew = wd at *
          go_wp2_with (at_builtin; refine wpList_append_lies _ rfl (.tmp 38) (.tmp 43) 24 rfl w2.heap.size 22 i0 _ 1 24 Tryd.underlying24 hi hz0 hz1 hz2 rfl (by decide) _ L.length (liK.cs L) rfl (IntO_alloc HO3.out _) ⟨wd.heap.size, 0, none⟩ 1 1 [.slice (some ⟨b1, off1, none⟩) xs.length ci] rfl rfl (sc_news wd _ rfl _ _) (liK.one (xs, some ⟨b1, off1, none⟩, ci)) (by omega) (by unfold maxLen; omega) (by omega) (by simp; omega) _ rfl ?_; intro gb cap w5 hown hgrow hlies hgl)
          have HO5 : Hid (w5.ownsRow w2.heap.size 22 1 (.slice (some ⟨gb, 0, none⟩) (L.length + 1) cap) (L ++ [((xs, some (⟨b1, off1, none⟩ : Addr), ci) : LiE)]).length (liK.cs (L ++ [((xs, some (⟨b1, off1, none⟩ : Addr), ci) : LiE)]))) := by
            show World.ownsRow _ _ _ _ _ _ _
            rw [List.length_append, liK.cs_snoc]
            exact hown
          have HB5 : Hid (Below w2.heap.size w2 w5) := below_grown (HB3.out.alloc hsz' _) hgrow (fun b e => (HO3.out.lt b e).1) (by simp; omega)
          clear HO3 HB3 hown hgrow hlies hgl
          go_roundw
          case rel => exact ⟨i + 1, L ++ [((xs, some (⟨b1, off1, none⟩ : Addr), ci) : LiE)], hil, by go_num, HL2.out, HO5.out, HE2.out, HB5.out⟩
          case measure => simp [intOf]; omega
    · obtain rfl : i = C.length := by omega
      have gi : ¬ (C.length : Int) < (C.length : Int) := by omega
      rw [List.take_length] at HL
      have HV : Hid (C.filter (cyp R) = Sc.cycV R N) := by
        have h := HC.out
        show _ = _
        subst h
        rfl
      rw [HV.out] at HL
      obtain ⟨A7, c7, rfl⟩ : ∃ A c, u7 = .slice A L.length c := by
        rcases HO.out.2 with ⟨e, e0⟩ | ⟨g, cap, cur, e, _⟩
        · exact ⟨none, 0, by rw [e, e0]⟩
        · exact ⟨_, _, e⟩
      have HRD : Hid (LiR wr A7 (toI (Sc.cycV R N))) := by have := li_read HO.out (fun p hp => (HE.out p hp).later HB.out); rw [HL.out] at this; exact this
      have HLN : Hid (L.length = (toI (Sc.cycV R N)).length) := by show _ = _; rw [← HL.out, List.length_map]
      have HBW := Lib.hid (sc_two HB2.out HB.out)
      clear HL HO HE HB
      go_wp2_with fail
      go_ret
      exact ⟨A7, c7, by rw [← HLN.out]; rfl, HRD.out, HBW.out⟩
end Go.Proofs.YtnofcanboaaejaaDoor
