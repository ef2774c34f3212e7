/- The walk of SccReaches. -/
import Derived.Test.YtnofcanboaaejaaDoorScLC
namespace Go.Proofs.YtnofcanboaaejaaDoor
open Go.RowKit
set_option maxRecDepth 100000

theorem reV_no {n : Int} {P : List (List Int)} {x y : Int} (h : ¬ (0 ≤ x ∧ x < (clV n : Int) ∧ 0 ≤ y ∧ y < (clV n : Int))) : reV n P x y = false := by
  unfold reV
  rw [Bool.eq_false_iff]
  intro e
  simp only [Bool.and_eq_true, decide_eq_true_eq] at e
  exact h ⟨e.1.1.1.1, e.1.1.1.2, e.1.1.2, e.1.2⟩
theorem reV_yes {k x y : Nat} {P : List (List Int)} (hk : k ≤ 64) (hx : x < k) (hy : y < k) : reV (k : Int) P (x : Int) (y : Int) = Sc.rch k P x y := by
  unfold reV
  rw [clV_in hk, Int.toNat_natCast, Int.toNat_natCast, decide_eq_true (show (0 : Int) ≤ (x : Int) by omega), decide_eq_true (show (x : Int) < (k : Int) by omega), decide_eq_true (show (0 : Int) ≤ (y : Int) by omega), decide_eq_true (show (y : Int) < (k : Int) by omega)]
  rfl
set_option maxHeartbeats 4000000 in
theorem lawReaches_any (n : Int) (xs : List Int) (A : Option Addr) (ca : Nat) (x y : Int) (rough : Bool) (w : World) (hn : -9223372036854775808 ≤ n ∧ n ≤ 9223372036854775807) (hA : IntR w A xs) (hm : xs.length ≤ 9223372036854775807) (hx : -9223372036854775808 ≤ x ∧ x ≤ 9223372036854775807) (hy : -9223372036854775808 ≤ y ∧ y ≤ 9223372036854775807) (hT : TzT w) :
    Calls Tryd.prog 5 #[.int .i64 n, .slice A xs.length ca, .int .i64 x, .int .i64 y, .bool rough] w fun e w' => e = .returned (.bool true) ∧ Below w.heap.size w w' := by
  have HT := Lib.hid hT
  clear hT
  have HS := Lib.hid (fun W => size21_any n W hn)
  have hk := within_lt n 13 (by omega)
  generalize within n 13 = k at *
  have hp := pairs_any w A xs ca (max k 1) hA hm (by omega) (by omega)
  have hlP := prV_len xs (max k 1)
  generalize prV xs (max k 1) = P at *
  have HP : Hid (∀ m : Int, m = ((max k 1 : Nat) : Int) → Calls Tryd.prog 10 #[.slice A xs.length ca, .int .i64 m] w (LiP w P)) := by
    intro m hm
    subst hm
    exact hp
  have HX := Lib.hid (fun W => within_any x 15 W hx (by omega) (by omega))
  have HY := Lib.hid (fun W => within_any y 15 W hy (by omega) (by omega))
  rw [show (15 : Int).toNat = 15 from rfl] at HX HY
  have hbx := within_lt x 15 (by omega)
  have hby := within_lt y 15 (by omega)
  generalize within x 15 = bx at *
  generalize within y 15 = by' at *
  clear hn hA hp
  cases rough with
  | true =>
    clear HX HY hbx hby
    go_enter Tryd.func5, Tryd.ntmps5
    go_wp2_with fail
    refine (HS.out _).mono ?_
    rintro e w1 ⟨rfl, rfl⟩
    go_wp2_with fail
    all_goals
      refine (HP.out _ (by omega)).mono ?_
      rintro e w2 ⟨A2, c2, rfl, hx, hb⟩
      go_wp2_with fail
      have HB0 := Lib.hid hb
      have HPW := Lib.hid (fun W (h : Below w2.heap.size w2 W) => hx.later h)
      have HTZ := Lib.hid (fun W (h : Below w2.heap.size w2 W) => (HT.out.later hb).later h)
      have HWA := Lib.hid (ways_any w2 (k : Int) A2 P c2 hx (by omega))
      have HR := Lib.hid (fun W (h : Below w2.heap.size w2 W) => sccReaches_any W (k : Int) x y A2 P c2 (HTZ.out W h) (HPW.out W h) (by omega))
      rw [clV_in (by omega)] at HWA
      clear hb hx
      refine HWA.out.mono ?_
      rintro e w3 ⟨rfl, hM, hb3, -⟩
      have HM := Lib.hid hM
      have HB3 := Lib.hid hb3
      clear HWA HPW hM hb3
      by_cases d0 : (0 : Int) ≤ x
      · by_cases d1 : x < (k : Int)
        · by_cases d2 : (0 : Int) ≤ y
          · by_cases d3 : y < (k : Int)
            · by_cases zx : x = 0
              · rw [zx] at HR d0 d1 ⊢
                have hxk : 0 < k := by omega
                by_cases zy : y = 0
                · rw [zy] at HR d2 d3 ⊢
                  have hyk : 0 < k := by omega
                  have HVE : Hid (reV (k : Int) P 0 0 = Sc.rch k P 0 0) := reV_yes (x := 0) (y := 0) (by omega) hxk hyk
                  rw [HVE.out] at HR
                  have m0 : w3.cell? ⟨w2.heap.size, 0, none⟩ = some (.slice (some ⟨w2.heap.size + 1, 0, none⟩) k k) := HM.out.row 0 hxk
                  have m1 : w3.cell? ⟨w2.heap.size + 1, 0, none⟩ = some (.bool (Sc.rch k P 0 0)) := HM.out.cell (i := 0) (j := 0) hxk hyk
                  have j0 : IntKind.i64.wrap ((k : Int) - 1) = (k : Int) - 1 := by rw [IntKind.wrap_i64]; omega
                  have j1 : 0 ≤ (k : Int) - 1 := by omega
                  have j2 : 0 ≤ (k : Int) - 1 := by omega
                  have j3 : ¬ (k : Int) - 1 < 0 := by omega
                  have j4 : ¬ (k : Int) - 1 < 0 := by omega
                  clear HM HVE
                  generalize Sc.rch k P 0 0 = v at *
                  cases v <;>
                    · go_wp2_with fail
                      all_goals
                        refine (HR.out _ HB3.out).mono ?_
                        rintro e w4 ⟨rfl, hb4⟩
                        have HB4 := Lib.hid (sc_two HB3.out hb4)
                        clear hb4 HB3 HR
                        go_wp2_with fail
                        refine (awake21_any _ (HTZ.out _ HB4.out)).mono ?_
                        rintro e w5 ⟨rfl, hb5⟩
                        have HB5 := Lib.hid (sc_two HB0.out (sc_two HB4.out hb5))
                        clear hb5 HB4 HB0
                        go_wp2_with fail
                        go_ret
                        exact ⟨rfl, HB5.out⟩
                · obtain ⟨y0, hy0⟩ : ∃ y0 : Nat, y = (y0 : Int) := ⟨(y).toNat, by omega⟩
                  rw [hy0] at HR d2 d3 ⊢
                  have hyk : y0 < k := by omega
                  have hy1 : 0 < y0 := by omega
                  have HVE : Hid (reV (k : Int) P 0 (y0 : Int) = Sc.rch k P 0 y0) := reV_yes (x := 0) (y := y0) (by omega) hxk hyk
                  rw [HVE.out] at HR
                  have m0 : w3.cell? ⟨w2.heap.size, 0, none⟩ = some (.slice (some ⟨w2.heap.size + 1, 0, none⟩) k k) := HM.out.row 0 hxk
                  have m1 : w3.cell? ⟨w2.heap.size + 1, y0, none⟩ = some (.bool (Sc.rch k P 0 y0)) := HM.out.cell (i := 0) (j := y0) hxk hyk
                  have j0 : IntKind.i64.wrap ((k : Int) - 1) = (k : Int) - 1 := by rw [IntKind.wrap_i64]; omega
                  have j1 : 0 ≤ (k : Int) - 1 := by omega
                  have j2 : (y0 : Int) ≤ (k : Int) - 1 := by omega
                  have j3 : ¬ (k : Int) - 1 < 0 := by omega
                  have j4 : ¬ (k : Int) - 1 < (y0 : Int) := by omega
                  clear HM HVE
                  generalize Sc.rch k P 0 y0 = v at *
                  cases v <;>
                    · go_wp2_with fail
                      all_goals
                        refine (HR.out _ HB3.out).mono ?_
                        rintro e w4 ⟨rfl, hb4⟩
                        have HB4 := Lib.hid (sc_two HB3.out hb4)
                        clear hb4 HB3 HR
                        go_wp2_with fail
                        refine (awake21_any _ (HTZ.out _ HB4.out)).mono ?_
                        rintro e w5 ⟨rfl, hb5⟩
                        have HB5 := Lib.hid (sc_two HB0.out (sc_two HB4.out hb5))
                        clear hb5 HB4 HB0
                        go_wp2_with fail
                        go_ret
                        exact ⟨rfl, HB5.out⟩
              · obtain ⟨x0, hx0⟩ : ∃ x0 : Nat, x = (x0 : Int) := ⟨(x).toNat, by omega⟩
                rw [hx0] at HR d0 d1 ⊢
                have hxk : x0 < k := by omega
                have hx1 : 0 < x0 := by omega
                by_cases zy : y = 0
                · rw [zy] at HR d2 d3 ⊢
                  have hyk : 0 < k := by omega
                  have HVE : Hid (reV (k : Int) P (x0 : Int) 0 = Sc.rch k P x0 0) := reV_yes (x := x0) (y := 0) (by omega) hxk hyk
                  rw [HVE.out] at HR
                  have m0 : w3.cell? ⟨w2.heap.size, x0, none⟩ = some (.slice (some ⟨w2.heap.size + 1 + x0, 0, none⟩) k k) := HM.out.row x0 hxk
                  have m1 : w3.cell? ⟨w2.heap.size + 1 + x0, 0, none⟩ = some (.bool (Sc.rch k P x0 0)) := HM.out.cell (i := x0) (j := 0) hxk hyk
                  have j0 : IntKind.i64.wrap ((k : Int) - 1) = (k : Int) - 1 := by rw [IntKind.wrap_i64]; omega
                  have j1 : (x0 : Int) ≤ (k : Int) - 1 := by omega
                  have j2 : 0 ≤ (k : Int) - 1 := by omega
                  have j3 : ¬ (k : Int) - 1 < (x0 : Int) := by omega
                  have j4 : ¬ (k : Int) - 1 < 0 := by omega
                  clear HM HVE
                  generalize Sc.rch k P x0 0 = v at *
                  cases v <;>
                    · go_wp2_with fail
                      all_goals
                        refine (HR.out _ HB3.out).mono ?_
                        rintro e w4 ⟨rfl, hb4⟩
                        have HB4 := Lib.hid (sc_two HB3.out hb4)
                        clear hb4 HB3 HR
                        go_wp2_with fail
                        refine (awake21_any _ (HTZ.out _ HB4.out)).mono ?_
                        rintro e w5 ⟨rfl, hb5⟩
                        have HB5 := Lib.hid (sc_two HB0.out (sc_two HB4.out hb5))
                        clear hb5 HB4 HB0
                        go_wp2_with fail
                        go_ret
                        exact ⟨rfl, HB5.out⟩
                · obtain ⟨y0, hy0⟩ : ∃ y0 : Nat, y = (y0 : Int) := ⟨(y).toNat, by omega⟩
                  rw [hy0] at HR d2 d3 ⊢
                  have hyk : y0 < k := by omega
                  have hy1 : 0 < y0 := by omega
                  have HVE : Hid (reV (k : Int) P (x0 : Int) (y0 : Int) = Sc.rch k P x0 y0) := reV_yes (x := x0) (y := y0) (by omega) hxk hyk
                  rw [HVE.out] at HR
                  have m0 : w3.cell? ⟨w2.heap.size, x0, none⟩ = some (.slice (some ⟨w2.heap.size + 1 + x0, 0, none⟩) k k) := HM.out.row x0 hxk
                  have m1 : w3.cell? ⟨w2.heap.size + 1 + x0, y0, none⟩ = some (.bool (Sc.rch k P x0 y0)) := HM.out.cell (i := x0) (j := y0) hxk hyk
                  have j0 : IntKind.i64.wrap ((k : Int) - 1) = (k : Int) - 1 := by rw [IntKind.wrap_i64]; omega
                  have j1 : (x0 : Int) ≤ (k : Int) - 1 := by omega
                  have j2 : (y0 : Int) ≤ (k : Int) - 1 := by omega
                  have j3 : ¬ (k : Int) - 1 < (x0 : Int) := by omega
                  have j4 : ¬ (k : Int) - 1 < (y0 : Int) := by omega
                  clear HM HVE
                  generalize Sc.rch k P x0 y0 = v at *
                  cases v <;>
                    · go_wp2_with fail
                      all_goals
                        refine (HR.out _ HB3.out).mono ?_
                        rintro e w4 ⟨rfl, hb4⟩
                        have HB4 := Lib.hid (sc_two HB3.out hb4)
                        clear hb4 HB3 HR
                        go_wp2_with fail
                        refine (awake21_any _ (HTZ.out _ HB4.out)).mono ?_
                        rintro e w5 ⟨rfl, hb5⟩
                        have HB5 := Lib.hid (sc_two HB0.out (sc_two HB4.out hb5))
                        clear hb5 HB4 HB0
                        go_wp2_with fail
                        go_ret
                        exact ⟨rfl, HB5.out⟩
            · rw [reV_no (by rw [clV_in (by omega)]; omega)] at HR
              clear HM
              go_wp2_with fail
              all_goals
                refine (HR.out _ HB3.out).mono ?_
                rintro e w4 ⟨rfl, hb4⟩
                have HB4 := Lib.hid (sc_two HB3.out hb4)
                clear hb4 HB3 HR
                go_wp2_with fail
                refine (awake21_any _ (HTZ.out _ HB4.out)).mono ?_
                rintro e w5 ⟨rfl, hb5⟩
                have HB5 := Lib.hid (sc_two HB0.out (sc_two HB4.out hb5))
                clear hb5 HB4 HB0
                go_wp2_with fail
                go_ret
                exact ⟨rfl, HB5.out⟩
          · rw [reV_no (by rw [clV_in (by omega)]; omega)] at HR
            clear HM
            go_wp2_with fail
            all_goals
              refine (HR.out _ HB3.out).mono ?_
              rintro e w4 ⟨rfl, hb4⟩
              have HB4 := Lib.hid (sc_two HB3.out hb4)
              clear hb4 HB3 HR
              go_wp2_with fail
              refine (awake21_any _ (HTZ.out _ HB4.out)).mono ?_
              rintro e w5 ⟨rfl, hb5⟩
              have HB5 := Lib.hid (sc_two HB0.out (sc_two HB4.out hb5))
              clear hb5 HB4 HB0
              go_wp2_with fail
              go_ret
              exact ⟨rfl, HB5.out⟩
        · rw [reV_no (by rw [clV_in (by omega)]; omega)] at HR
          clear HM
          go_wp2_with fail
          all_goals
            refine (HR.out _ HB3.out).mono ?_
            rintro e w4 ⟨rfl, hb4⟩
            have HB4 := Lib.hid (sc_two HB3.out hb4)
            clear hb4 HB3 HR
            go_wp2_with fail
            refine (awake21_any _ (HTZ.out _ HB4.out)).mono ?_
            rintro e w5 ⟨rfl, hb5⟩
            have HB5 := Lib.hid (sc_two HB0.out (sc_two HB4.out hb5))
            clear hb5 HB4 HB0
            go_wp2_with fail
            go_ret
            exact ⟨rfl, HB5.out⟩
      · rw [reV_no (by rw [clV_in (by omega)]; omega)] at HR
        clear HM
        go_wp2_with fail
        all_goals
          refine (HR.out _ HB3.out).mono ?_
          rintro e w4 ⟨rfl, hb4⟩
          have HB4 := Lib.hid (sc_two HB3.out hb4)
          clear hb4 HB3 HR
          go_wp2_with fail
          refine (awake21_any _ (HTZ.out _ HB4.out)).mono ?_
          rintro e w5 ⟨rfl, hb5⟩
          have HB5 := Lib.hid (sc_two HB0.out (sc_two HB4.out hb5))
          clear hb5 HB4 HB0
          go_wp2_with fail
          go_ret
          exact ⟨rfl, HB5.out⟩
  | false =>
    have q0 : IntKind.i64.wrap ((bx : Int) - 1) = (bx : Int) - 1 := by rw [IntKind.wrap_i64]; omega
    have q1 : IntKind.i64.wrap ((by' : Int) - 1) = (by' : Int) - 1 := by rw [IntKind.wrap_i64]; omega
    clear hx hy
    go_enter Tryd.func5, Tryd.ntmps5
    go_wp2_with fail
    refine (HS.out _).mono ?_
    rintro e w1 ⟨rfl, rfl⟩
    go_wp2_with fail
    all_goals
      refine (HP.out _ (by omega)).mono ?_
      rintro e w2 ⟨A2, c2, rfl, hx, hb⟩
      go_wp2_with fail
      refine (HX.out _).mono ?_
      rintro e w2' ⟨rfl, rfl⟩
      go_wp2_with fail
      refine (HY.out _).mono ?_
      rintro e w2' ⟨rfl, rfl⟩
      go_wp2_with fail
      generalize hX0 : ((bx : Int) - 1) = X at *
      generalize hY0 : ((by' : Int) - 1) = Y at *
      have HB0 := Lib.hid hb
      have HPW := Lib.hid (fun W (h : Below w2.heap.size w2 W) => hx.later h)
      have HTZ := Lib.hid (fun W (h : Below w2.heap.size w2 W) => (HT.out.later hb).later h)
      have HWA := Lib.hid (ways_any w2 (k : Int) A2 P c2 hx (by omega))
      have HR := Lib.hid (fun W (h : Below w2.heap.size w2 W) => sccReaches_any W (k : Int) X Y A2 P c2 (HTZ.out W h) (HPW.out W h) (by omega))
      rw [clV_in (by omega)] at HWA
      clear hb hx
      refine HWA.out.mono ?_
      rintro e w3 ⟨rfl, hM, hb3, -⟩
      have HM := Lib.hid hM
      have HB3 := Lib.hid hb3
      clear HWA HPW hM hb3
      by_cases d0 : (0 : Int) ≤ X
      · by_cases d1 : X < (k : Int)
        · by_cases d2 : (0 : Int) ≤ Y
          · by_cases d3 : Y < (k : Int)
            · by_cases zx : X = 0
              · rw [zx] at HR d0 d1 ⊢
                have hxk : 0 < k := by omega
                by_cases zy : Y = 0
                · rw [zy] at HR d2 d3 ⊢
                  have hyk : 0 < k := by omega
                  have HVE : Hid (reV (k : Int) P 0 0 = Sc.rch k P 0 0) := reV_yes (x := 0) (y := 0) (by omega) hxk hyk
                  rw [HVE.out] at HR
                  have m0 : w3.cell? ⟨w2.heap.size, 0, none⟩ = some (.slice (some ⟨w2.heap.size + 1, 0, none⟩) k k) := HM.out.row 0 hxk
                  have m1 : w3.cell? ⟨w2.heap.size + 1, 0, none⟩ = some (.bool (Sc.rch k P 0 0)) := HM.out.cell (i := 0) (j := 0) hxk hyk
                  have j0 : IntKind.i64.wrap ((k : Int) - 1) = (k : Int) - 1 := by rw [IntKind.wrap_i64]; omega
                  have j1 : 0 ≤ (k : Int) - 1 := by omega
                  have j2 : 0 ≤ (k : Int) - 1 := by omega
                  have j3 : ¬ (k : Int) - 1 < 0 := by omega
                  have j4 : ¬ (k : Int) - 1 < 0 := by omega
                  clear HM HVE
                  generalize Sc.rch k P 0 0 = v at *
                  cases v <;>
                    · go_wp2_with fail
                      all_goals
                        refine (HR.out _ HB3.out).mono ?_
                        rintro e w4 ⟨rfl, hb4⟩
                        have HB4 := Lib.hid (sc_two HB3.out hb4)
                        clear hb4 HB3 HR
                        go_wp2_with fail
                        refine (awake21_any _ (HTZ.out _ HB4.out)).mono ?_
                        rintro e w5 ⟨rfl, hb5⟩
                        have HB5 := Lib.hid (sc_two HB0.out (sc_two HB4.out hb5))
                        clear hb5 HB4 HB0
                        go_wp2_with fail
                        go_ret
                        exact ⟨rfl, HB5.out⟩
                · obtain ⟨y0, hy0⟩ : ∃ y0 : Nat, Y = (y0 : Int) := ⟨(Y).toNat, by omega⟩
                  rw [hy0] at HR d2 d3 ⊢
                  have hyk : y0 < k := by omega
                  have hy1 : 0 < y0 := by omega
                  have HVE : Hid (reV (k : Int) P 0 (y0 : Int) = Sc.rch k P 0 y0) := reV_yes (x := 0) (y := y0) (by omega) hxk hyk
                  rw [HVE.out] at HR
                  have m0 : w3.cell? ⟨w2.heap.size, 0, none⟩ = some (.slice (some ⟨w2.heap.size + 1, 0, none⟩) k k) := HM.out.row 0 hxk
                  have m1 : w3.cell? ⟨w2.heap.size + 1, y0, none⟩ = some (.bool (Sc.rch k P 0 y0)) := HM.out.cell (i := 0) (j := y0) hxk hyk
                  have j0 : IntKind.i64.wrap ((k : Int) - 1) = (k : Int) - 1 := by rw [IntKind.wrap_i64]; omega
                  have j1 : 0 ≤ (k : Int) - 1 := by omega
                  have j2 : (y0 : Int) ≤ (k : Int) - 1 := by omega
                  have j3 : ¬ (k : Int) - 1 < 0 := by omega
                  have j4 : ¬ (k : Int) - 1 < (y0 : Int) := by omega
                  clear HM HVE
                  generalize Sc.rch k P 0 y0 = v at *
                  cases v <;>
                    · go_wp2_with fail
                      all_goals
                        refine (HR.out _ HB3.out).mono ?_
                        rintro e w4 ⟨rfl, hb4⟩
                        have HB4 := Lib.hid (sc_two HB3.out hb4)
                        clear hb4 HB3 HR
                        go_wp2_with fail
                        refine (awake21_any _ (HTZ.out _ HB4.out)).mono ?_
                        rintro e w5 ⟨rfl, hb5⟩
                        have HB5 := Lib.hid (sc_two HB0.out (sc_two HB4.out hb5))
                        clear hb5 HB4 HB0
                        go_wp2_with fail
                        go_ret
                        exact ⟨rfl, HB5.out⟩
              · obtain ⟨x0, hx0⟩ : ∃ x0 : Nat, X = (x0 : Int) := ⟨(X).toNat, by omega⟩
                rw [hx0] at HR d0 d1 ⊢
                have hxk : x0 < k := by omega
                have hx1 : 0 < x0 := by omega
                by_cases zy : Y = 0
                · rw [zy] at HR d2 d3 ⊢
                  have hyk : 0 < k := by omega
                  have HVE : Hid (reV (k : Int) P (x0 : Int) 0 = Sc.rch k P x0 0) := reV_yes (x := x0) (y := 0) (by omega) hxk hyk
                  rw [HVE.out] at HR
                  have m0 : w3.cell? ⟨w2.heap.size, x0, none⟩ = some (.slice (some ⟨w2.heap.size + 1 + x0, 0, none⟩) k k) := HM.out.row x0 hxk
                  have m1 : w3.cell? ⟨w2.heap.size + 1 + x0, 0, none⟩ = some (.bool (Sc.rch k P x0 0)) := HM.out.cell (i := x0) (j := 0) hxk hyk
                  have j0 : IntKind.i64.wrap ((k : Int) - 1) = (k : Int) - 1 := by rw [IntKind.wrap_i64]; omega
                  have j1 : (x0 : Int) ≤ (k : Int) - 1 := by omega
                  have j2 : 0 ≤ (k : Int) - 1 := by omega
                  have j3 : ¬ (k : Int) - 1 < (x0 : Int) := by omega
                  have j4 : ¬ (k : Int) - 1 < 0 := by omega
                  clear HM HVE
                  generalize Sc.rch k P x0 0 = v at *
                  cases v <;>
                    · go_wp2_with fail
                      all_goals
                        refine (HR.out _ HB3.out).mono ?_
                        rintro e w4 ⟨rfl, hb4⟩
                        have HB4 := Lib.hid (sc_two HB3.out hb4)
                        clear hb4 HB3 HR
                        go_wp2_with fail
                        refine (awake21_any _ (HTZ.out _ HB4.out)).mono ?_
                        rintro e w5 ⟨rfl, hb5⟩
                        have HB5 := Lib.hid (sc_two HB0.out (sc_two HB4.out hb5))
                        clear hb5 HB4 HB0
                        go_wp2_with fail
                        go_ret
                        exact ⟨rfl, HB5.out⟩
                · obtain ⟨y0, hy0⟩ : ∃ y0 : Nat, Y = (y0 : Int) := ⟨(Y).toNat, by omega⟩
                  rw [hy0] at HR d2 d3 ⊢
                  have hyk : y0 < k := by omega
                  have hy1 : 0 < y0 := by omega
                  have HVE : Hid (reV (k : Int) P (x0 : Int) (y0 : Int) = Sc.rch k P x0 y0) := reV_yes (x := x0) (y := y0) (by omega) hxk hyk
                  rw [HVE.out] at HR
                  have m0 : w3.cell? ⟨w2.heap.size, x0, none⟩ = some (.slice (some ⟨w2.heap.size + 1 + x0, 0, none⟩) k k) := HM.out.row x0 hxk
                  have m1 : w3.cell? ⟨w2.heap.size + 1 + x0, y0, none⟩ = some (.bool (Sc.rch k P x0 y0)) := HM.out.cell (i := x0) (j := y0) hxk hyk
                  have j0 : IntKind.i64.wrap ((k : Int) - 1) = (k : Int) - 1 := by rw [IntKind.wrap_i64]; omega
                  have j1 : (x0 : Int) ≤ (k : Int) - 1 := by omega
                  have j2 : (y0 : Int) ≤ (k : Int) - 1 := by omega
                  have j3 : ¬ (k : Int) - 1 < (x0 : Int) := by omega
                  have j4 : ¬ (k : Int) - 1 < (y0 : Int) := by omega
                  clear HM HVE
                  generalize Sc.rch k P x0 y0 = v at *
                  cases v <;>
                    · go_wp2_with fail
                      all_goals
                        refine (HR.out _ HB3.out).mono ?_
                        rintro e w4 ⟨rfl, hb4⟩
                        have HB4 := Lib.hid (sc_two HB3.out hb4)
                        clear hb4 HB3 HR
                        go_wp2_with fail
                        refine (awake21_any _ (HTZ.out _ HB4.out)).mono ?_
                        rintro e w5 ⟨rfl, hb5⟩
                        have HB5 := Lib.hid (sc_two HB0.out (sc_two HB4.out hb5))
                        clear hb5 HB4 HB0
                        go_wp2_with fail
                        go_ret
                        exact ⟨rfl, HB5.out⟩
            · rw [reV_no (by rw [clV_in (by omega)]; omega)] at HR
              clear HM
              go_wp2_with fail
              all_goals
                refine (HR.out _ HB3.out).mono ?_
                rintro e w4 ⟨rfl, hb4⟩
                have HB4 := Lib.hid (sc_two HB3.out hb4)
                clear hb4 HB3 HR
                go_wp2_with fail
                refine (awake21_any _ (HTZ.out _ HB4.out)).mono ?_
                rintro e w5 ⟨rfl, hb5⟩
                have HB5 := Lib.hid (sc_two HB0.out (sc_two HB4.out hb5))
                clear hb5 HB4 HB0
                go_wp2_with fail
                go_ret
                exact ⟨rfl, HB5.out⟩
          · rw [reV_no (by rw [clV_in (by omega)]; omega)] at HR
            clear HM
            go_wp2_with fail
            all_goals
              refine (HR.out _ HB3.out).mono ?_
              rintro e w4 ⟨rfl, hb4⟩
              have HB4 := Lib.hid (sc_two HB3.out hb4)
              clear hb4 HB3 HR
              go_wp2_with fail
              refine (awake21_any _ (HTZ.out _ HB4.out)).mono ?_
              rintro e w5 ⟨rfl, hb5⟩
              have HB5 := Lib.hid (sc_two HB0.out (sc_two HB4.out hb5))
              clear hb5 HB4 HB0
              go_wp2_with fail
              go_ret
              exact ⟨rfl, HB5.out⟩
        · rw [reV_no (by rw [clV_in (by omega)]; omega)] at HR
          clear HM
          go_wp2_with fail
          all_goals
            refine (HR.out _ HB3.out).mono ?_
            rintro e w4 ⟨rfl, hb4⟩
            have HB4 := Lib.hid (sc_two HB3.out hb4)
            clear hb4 HB3 HR
            go_wp2_with fail
            refine (awake21_any _ (HTZ.out _ HB4.out)).mono ?_
            rintro e w5 ⟨rfl, hb5⟩
            have HB5 := Lib.hid (sc_two HB0.out (sc_two HB4.out hb5))
            clear hb5 HB4 HB0
            go_wp2_with fail
            go_ret
            exact ⟨rfl, HB5.out⟩
      · rw [reV_no (by rw [clV_in (by omega)]; omega)] at HR
        clear HM
        go_wp2_with fail
        all_goals
          refine (HR.out _ HB3.out).mono ?_
          rintro e w4 ⟨rfl, hb4⟩
          have HB4 := Lib.hid (sc_two HB3.out hb4)
          clear hb4 HB3 HR
          go_wp2_with fail
          refine (awake21_any _ (HTZ.out _ HB4.out)).mono ?_
          rintro e w5 ⟨rfl, hb5⟩
          have HB5 := Lib.hid (sc_two HB0.out (sc_two HB4.out hb5))
          clear hb5 HB4 HB0
          go_wp2_with fail
          go_ret
          exact ⟨rfl, HB5.out⟩
end Go.Proofs.YtnofcanboaaejaaDoor
