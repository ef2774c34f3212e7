/- The walk of SccComponents. -/
import Derived.Test.YtnofcanboaaejaaDoorScAwk
namespace Go.Proofs.YtnofcanboaaejaaDoor
open Go.RowKit
set_option maxRecDepth 100000

theorem comp_ok (R : Nat → Nat → Bool) {n : Nat} (h : n ≤ 64) : LiOk (toI (Sc.compV R n)) := by
  refine ⟨?_, fun p hp => ?_⟩
  · unfold toI
    rw [List.length_map]
    have := comp_len R n
    omega
  · unfold toI at hp
    obtain ⟨l, hl, rfl⟩ := List.mem_map.1 hp
    obtain ⟨i, hi, rfl⟩ := List.getElem_of_mem hl
    obtain ⟨a, -, -, e⟩ := comp_at hi
    rw [e]
    unfold toL
    rw [List.length_map]
    have := cls_len R a n
    omega
theorem cyc_ok (R : Nat → Nat → Bool) {n : Nat} (h : n ≤ 64) : LiOk (toI (Sc.cycV R n)) := by
  have hc := comp_ok R h
  refine ⟨?_, fun p hp => hc.each p ?_⟩
  · have h1 := hc.len
    unfold toI at h1 ⊢
    rw [List.length_map] at h1 ⊢
    exact Nat.le_trans (List.length_filter_le _ _) h1
  · unfold toI at hp ⊢
    obtain ⟨l, hl, rfl⟩ := List.mem_map.1 hp
    exact List.mem_map_of_mem (List.mem_filter.1 hl).1
set_option maxHeartbeats 2000000 in
theorem lawComponents_any (n : Int) (xs : List Int) (A : Option Addr) (ca : Nat) (w : World) (hn : -9223372036854775808 ≤ n ∧ n ≤ 9223372036854775807) (hA : IntR w A xs) (hm : xs.length ≤ 9223372036854775807) (hT : TzT w) :
    Calls Tryd.prog 3 #[.int .i64 n, .slice A xs.length ca] w fun e w' => e = .returned (.bool true) ∧ Below w.heap.size w w' := by
  have HT := Lib.hid hT
  clear hT
  have HS := Lib.hid (fun W => size21_any n W hn)
  have hk := within_lt n 13 (by omega)
  generalize within n 13 = k at *
  have hp := pairs_any w A xs ca (max k 1) hA hm (by omega) (by omega)
  have hlP := prV_len xs (max k 1)
  generalize prV xs (max k 1) = P at *
  have HP : Hid (∀ m : Int, m = ((max k 1 : Nat) : Int) → Calls Tryd.prog 10 #[.slice A xs.length ca, .int .i64 m] w (LiP w P)) := by
    intro m hm
    subst hm
    exact hp
  clear hn hA hp
  go_enter Tryd.func3, Tryd.ntmps3
  go_wp2_with fail
  refine (HS.out _).mono ?_
  rintro e w1 ⟨rfl, rfl⟩
  go_wp2_with fail
  all_goals
    refine (HP.out _ (by omega)).mono ?_
    rintro e w2 ⟨A2, c2, rfl, hx, hb⟩
    have HPW := Lib.hid (fun W (h : Below w2.heap.size w2 W) => hx.later h)
    have HTZ := Lib.hid (fun W (h : Below w2.heap.size w2 W) => (HT.out.later hb).later h)
    have HC1 := Lib.hid (fun W (h : Below w2.heap.size w2 W) => sccComponents_any W (k : Int) A2 P c2 (HTZ.out W h) (HPW.out W h) (by omega))
    have HC2 := Lib.hid (fun W (h : Below w2.heap.size w2 W) => refComponents_any W (k : Int) A2 P c2 (HPW.out W h) (by omega))
    have HY1 := Lib.hid (fun W (h : Below w2.heap.size w2 W) => sccCyclic_any W (k : Int) A2 P c2 (HTZ.out W h) (HPW.out W h) (by omega))
    have HY2 := Lib.hid (fun W (h : Below w2.heap.size w2 W) => refCyclic_any W (k : Int) A2 P c2 (HPW.out W h) (by omega))
    have HOC := Lib.hid (comp_ok (Sc.rch (clV (k : Int)) P) (clV_le (k : Int)))
    have HOY := Lib.hid (cyc_ok (Sc.rch (clV (k : Int)) P) (clV_le (k : Int)))
    generalize toI (Sc.compV (Sc.rch (clV (k : Int)) P) (clV (k : Int))) = C at *
    generalize toI (Sc.cycV (Sc.rch (clV (k : Int)) P) (clV (k : Int))) = Y at *
    have HB0 := Lib.hid hb
    clear HPW hx hb
    go_wp2_with fail
    refine (HC1.out _ (Below.refl _ _)).mono ?_
    rintro e w3 ⟨A3, c3, rfl, hx, hb⟩
    have HX := Lib.hid hx
    have HB := Lib.hid hb
    clear hx hb
    go_wp2_with fail
    refine (HC2.out _ HB.out).mono ?_
    rintro e w4 ⟨A4, c4, rfl, hx, hb⟩
    have HX2 := Lib.hid (HX.out.later hb)
    have HY := Lib.hid hx
    have HB2 := Lib.hid (sc_two HB.out hb)
    clear HX HB hx hb
    go_wp2_with fail
    refine (sameLists_any _ _ _ C C _ _ HX2.out HY.out HOC.out HOC.out).mono ?_
    rintro e w5 ⟨rfl, hd⟩
    have HB3 := Lib.hid (sc_two HB2.out hd.below)
    clear HX2 HY HB2 hd
    rw [beq_self_eq_true]
    go_wp2_with fail
    refine (HY1.out _ HB3.out).mono ?_
    rintro e w6 ⟨A6, c6, rfl, hx, hb⟩
    have HX := Lib.hid hx
    have HB := Lib.hid (sc_two HB3.out hb)
    clear HB3 hx hb
    go_wp2_with fail
    refine (HY2.out _ HB.out).mono ?_
    rintro e w7 ⟨A7, c7, rfl, hx, hb⟩
    have HX2 := Lib.hid (HX.out.later hb)
    have HY := Lib.hid hx
    have HB2 := Lib.hid (sc_two HB.out hb)
    clear HX HB hx hb
    go_wp2_with fail
    refine (sameLists_any _ _ _ Y Y _ _ HX2.out HY.out HOY.out HOY.out).mono ?_
    rintro e w8 ⟨rfl, hd⟩
    have HB3 := Lib.hid (sc_two HB2.out hd.below)
    clear HX2 HY HB2 hd HC1 HC2 HY1 HY2
    rw [beq_self_eq_true]
    go_wp2_with fail
    refine (awake21_any _ (HTZ.out _ HB3.out)).mono ?_
    rintro e w9 ⟨rfl, hb⟩
    have HB4 := Lib.hid (sc_two HB0.out (sc_two HB3.out hb))
    clear HB3 HB0 hb
    go_wp2_with fail
    go_ret
    exact ⟨rfl, HB4.out⟩
end Go.Proofs.YtnofcanboaaejaaDoor
