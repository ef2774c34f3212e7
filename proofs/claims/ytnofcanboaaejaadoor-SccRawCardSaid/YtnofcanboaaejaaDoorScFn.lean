/- What the reference's small functions on graphs do: nodes, arrow, SameInts, SameLists; the law's size. -/
import Derived.Test.YtnofcanboaaejaaDoorScMem
namespace Go.Proofs.YtnofcanboaaejaaDoor
open Go.RowKit
set_option maxRecDepth 100000

def clV (n : Int) : Nat := (max 0 (min n 64)).toNat
theorem clV_le (n : Int) : clV n ≤ 64 := by unfold clV; omega
theorem clV_in {n : Nat} (h : n ≤ 64) : clV (n : Int) = n := by unfold clV; omega
theorem nodes_any (n : Int) (w : World) :
    Calls Tryd.prog 26 #[.int .i64 n] w fun e w' => e = .returned (.int .i64 (clV n : Int)) ∧ w = w' := by
  go_enter Tryd.func26, Tryd.ntmps26
  go_wp2
  all_goals
    go_ret
    exact ⟨ret_int (by unfold clV; omega), rfl⟩
theorem size21_any (n : Int) (w : World) (hn : -9223372036854775808 ≤ n ∧ n ≤ 9223372036854775807) :
    Calls Tryd.prog 9 #[.int .i64 n] w fun e w' => e = .returned (.int .i64 (within n 13 : Int)) ∧ w = w' := by
  have HW := Lib.hid (fun W => within_any n 13 W hn (by omega) (by omega))
  clear hn
  go_enter Tryd.func9, Tryd.ntmps9
  go_wp2_with fail
  refine (HW.out _).mono ?_
  rintro e w1 ⟨rfl, rfl⟩
  go_wp2_with fail
  go_ret
  exact ⟨rfl, rfl⟩

set_option maxHeartbeats 400000 in
theorem arrow_any (w : World) (n : Nat) (A : Option Addr) (p : List Int) (c : Nat) (hA : IntR w A p) :
    Calls Tryd.prog 27 #[.int .i64 (n : Int), .slice A p.length c] w fun e w' => e = .returned (.bool (Sc.arr n p)) ∧ w = w' := by
  by_cases h2 : p.length = 2
  · obtain ⟨x, y, rfl⟩ : ∃ x y, p = [x, y] := by
      match p, h2 with
      | [x, y], _ => exact ⟨x, y, rfl⟩
    obtain ⟨b, off, rfl, c0, -⟩ := hA 0 (by simp)
    obtain ⟨b1, off1, e1, c1, -⟩ := hA 1 (by simp)
    injection e1 with e1
    injection e1 with e1 e2
    subst e1 e2
    simp only [List.getElem_cons_zero, List.getElem_cons_succ, Nat.add_zero] at c0 c1
    have HV : Hid (Sc.arr n [x, y] = (decide (0 ≤ x) && decide (x < (n : Int)) && decide (0 ≤ y) && decide (y < (n : Int)))) := rfl
    clear hA h2
    simp only [List.length_cons, List.length_nil]
    go_enter Tryd.func27, Tryd.ntmps27
    by_cases hx0 : 0 ≤ x
    · by_cases hx1 : x < (n : Int)
      · by_cases hy0 : 0 ≤ y
        · by_cases hy1 : y < (n : Int)
          · have HV2 : Hid (Sc.arr n [x, y] = true) := by show _ = _; rw [HV.out]; simp [hx0, hx1, hy0, hy1]
            clear HV
            go_wp2_with fail
            go_ret
            exact ⟨by rw [HV2.out]; rfl, rfl⟩
          · have HV2 : Hid (Sc.arr n [x, y] = false) := by show _ = _; rw [HV.out]; simp [hx0, hx1, hy0, hy1]
            clear HV
            go_wp2_with fail
            go_ret
            exact ⟨by rw [HV2.out]; rfl, rfl⟩
        · have HV2 : Hid (Sc.arr n [x, y] = false) := by show _ = _; rw [HV.out]; simp [hx0, hx1, hy0]
          clear HV
          go_wp2_with fail
          go_ret
          exact ⟨by rw [HV2.out]; rfl, rfl⟩
      · have HV2 : Hid (Sc.arr n [x, y] = false) := by show _ = _; rw [HV.out]; simp [hx0, hx1]
        clear HV
        go_wp2_with fail
        go_ret
        exact ⟨by rw [HV2.out]; rfl, rfl⟩
    · have HV2 : Hid (Sc.arr n [x, y] = false) := by show _ = _; rw [HV.out]; simp [hx0]
      clear HV
      go_wp2_with fail
      go_ret
      exact ⟨by rw [HV2.out]; rfl, rfl⟩
  · have HV2 : Hid (Sc.arr n p = false) := by
      show _ = _
      match p, h2 with
      | [], _ => rfl
      | [_], _ => rfl
      | [_, _], h => exact absurd rfl h
      | _ :: _ :: _ :: _, _ => rfl
    have t0 := bF (show (p.length : Int) ≠ 2 by omega)
    clear h2 hA
    go_enter Tryd.func27, Tryd.ntmps27
    go_wp2_with fail
    go_ret
    exact ⟨by rw [HV2.out]; rfl, rfl⟩

/-- only drawn numbers have been used -/
def Dr (w w' : World) : Prop := ∃ m, w' = w.drewN m
theorem Dr.refl (w : World) : Dr w w := ⟨0, rfl⟩
theorem Dr.more {w w' : World} (h : Dr w w') (n : Nat) : Dr w (w'.drewN n) := by
  obtain ⟨m, rfl⟩ := h
  exact ⟨m + n, World.drewN_drewN _ _ _⟩
theorem Dr.trans {w w' w'' : World} (h : Dr w w') (k : Dr w' w'') : Dr w w'' := by
  obtain ⟨m, rfl⟩ := k
  exact h.more m
theorem Dr.below {w w' : World} (h : Dr w w') : Below w.heap.size w w' := by
  obtain ⟨m, rfl⟩ := h
  exact sc_drewN (Below.refl _ _) m
theorem quiet_dr {P : Program} {f : FuncId} {args : Array Value} {w : World} {n : Nat} {v : Value}
    (h : Calls P f args (w.drewN n) fun e w' => e = .returned v ∧ Dr (w.drewN n) w') : Calls P f args (w.drewN n) fun e w'' => e = .returned v ∧ ∃ m, w'' = w.drewN m :=
  h.mono fun _ _ ⟨he, hm⟩ => ⟨he, (show Dr w _ from (Dr.more (Dr.refl w) n).trans hm)⟩

theorem quiet_dr0 {P : Program} {f : FuncId} {args : Array Value} {w : World} {n : Nat} {v : Value}
    (h : Calls P f args (w.drewN n) fun e w' => e = .returned v ∧ w.drewN n = w') : Calls P f args (w.drewN n) fun e w'' => e = .returned v ∧ ∃ m, w'' = w.drewN m :=
  h.mono fun _ _ ⟨he, hm⟩ => ⟨he, n, hm.symm⟩
set_option maxHeartbeats 400000 in
theorem sameI_any (w : World) (A B : Option Addr) (a b : List Int) (ca cb : Nat) (hA : IntR w A a) (hB : IntR w B b) (hl : a.length ≤ 1000) (hl' : b.length ≤ 1000) :
    Calls Tryd.prog 21 #[.slice A a.length ca, .slice B b.length cb] w fun e w' => e = .returned (.bool (a == b)) ∧ Dr w w' := by
  have HA := Lib.hid (fun W (h : Below w.heap.size w W) => hA.later h)
  have HB := Lib.hid (fun W (h : Below w.heap.size w W) => hB.later h)
  clear hA hB
  by_cases hlen : a.length = b.length
  · have HLN := Lib.hid hlen
    have t0 := nF (show (a.length : Int) = (b.length : Int) by omega)
    have hlb : b.length ≤ a.length := by omega
    clear hlen
    go_enter Tryd.func21, Tryd.ntmps21
    go_wp2_with fail
    go_loopw [5] (fun i wr => ∃ k : Nat, k ≤ a.length ∧ i = .int .i64 (k : Int) ∧ Hid (a.take k = b.take k) ∧ Hid (Dr w wr)) (fun i _ => a.length - (intOf i).toNat)
    case atStart => exact ⟨0, Nat.zero_le _, rfl, rfl, Dr.refl _⟩
    case round =>
      obtain ⟨k, hk, rfl, HE, HW⟩ := hrel
      by_cases hlt : k < a.length
      · have hltb : k < b.length := by have := HLN.out; omega
        have hk0 : (0 : Int) ≤ (k : Int) := by omega
        have hk1 : (k : Int) < (a.length : Int) := by omega
        have hk2 : (k : Int) < (b.length : Int) := by omega
        obtain ⟨b0, o0, rfl, c0, -⟩ := HA.out wr HW.out.below k hlt
        obtain ⟨b1, o1, rfl, c1, -⟩ := HB.out wr HW.out.below k hltb
        have HT : Hid (a[k] = b[k] → a.take (k + 1) = b.take (k + 1)) := fun h => by
          rw [List.take_succ_eq_append_getElem hlt, List.take_succ_eq_append_getElem hltb, HE.out, h]
        have HN : Hid (a[k] ≠ b[k] → (a == b) = false) := fun h => beq_eq_false_iff_ne.2 fun e => h (by subst e; rfl)
        generalize a[k] = x at *
        generalize b[k] = y at *
        by_cases hxy : x = y
        · have t1 := nF hxy
          have HT1 := Lib.hid (HT.out hxy)
          clear hxy HT HN
          go_wp2_with fail
          go_quiet (fail)
          go_wp2_with fail
          go_roundw
          case rel => exact ⟨k + 1, hlt, by go_num, HT1.out, HW.out.more _⟩
          case measure => simp [intOf]; omega
        · have t1 := nT hxy
          have HT1 := Lib.hid (HN.out hxy)
          clear hxy HT HN
          go_wp2_with fail
          go_quiet (fail)
          go_wp2_with fail
          go_ret
          exact ⟨by rw [HT1.out]; rfl, HW.out.more _⟩
      · have HV : Hid ((a == b) = true) := by
          show _ = _
          have e := HE.out
          rw [show k = a.length by omega, List.take_length, List.take_of_length_le hlb] at e
          exact beq_iff_eq.2 e
        have hk1 : ¬ (k : Int) < (a.length : Int) := by omega
        go_wp2_with fail
        go_ret
        exact ⟨by rw [HV.out]; rfl, HW.out⟩
  · have HV : Hid ((a == b) = false) := beq_eq_false_iff_ne.2 fun e => hlen (by rw [e])
    have t0 := nT (show (a.length : Int) ≠ (b.length : Int) by omega)
    clear hlen
    go_enter Tryd.func21, Tryd.ntmps21
    go_wp2_with fail
    go_ret
    exact ⟨by rw [HV.out]; rfl, Dr.refl _⟩

/-- lists that are not too long -/
structure LiOk (P : List (List Int)) : Prop where
  len : P.length ≤ 1000
  each : ∀ p ∈ P, p.length ≤ 1000
set_option maxHeartbeats 400000 in
theorem sameLists_any (w : World) (A B : Option Addr) (P Q : List (List Int)) (ca cb : Nat) (hA : LiR w A P) (hB : LiR w B Q) (hP : LiOk P) (hQ : LiOk Q) :
    Calls Tryd.prog 11 #[.slice A P.length ca, .slice B Q.length cb] w fun e w' => e = .returned (.bool (P == Q)) ∧ Dr w w' := by
  have HA := Lib.hid (fun W (h : Below w.heap.size w W) => hA.later h)
  have HB := Lib.hid (fun W (h : Below w.heap.size w W) => hB.later h)
  have hPl := hP.len
  have hQl := hQ.len
  have HPE := Lib.hid hP.each
  have HQE := Lib.hid hQ.each
  clear hA hB hP hQ
  by_cases hlen : P.length = Q.length
  · have HLN := Lib.hid hlen
    have t0 := nF (show (P.length : Int) = (Q.length : Int) by omega)
    have hlb : Q.length ≤ P.length := by omega
    clear hlen
    go_enter Tryd.func11, Tryd.ntmps11
    go_wp2_with fail
    go_loopw [5] (fun i wr => ∃ k : Nat, k ≤ P.length ∧ i = .int .i64 (k : Int) ∧ Hid (P.take k = Q.take k) ∧ Hid (Dr w wr)) (fun i _ => P.length - (intOf i).toNat)
    case atStart => exact ⟨0, Nat.zero_le _, rfl, rfl, Dr.refl _⟩
    case round =>
      obtain ⟨k, hk, rfl, HE, HW⟩ := hrel
      by_cases hlt : k < P.length
      · have hltb : k < Q.length := by have := HLN.out; omega
        have hk0 : (0 : Int) ≤ (k : Int) := by omega
        have hk1 : (k : Int) < (P.length : Int) := by omega
        have hk2 : (k : Int) < (Q.length : Int) := by omega
        obtain ⟨b0, o0, A0, d0, rfl, c0, r0⟩ := HA.out wr HW.out.below k hlt
        obtain ⟨b1, o1, A1, d1, rfl, c1, r1⟩ := HB.out wr HW.out.below k hltb
        have HT : Hid (P[k] = Q[k] → P.take (k + 1) = Q.take (k + 1)) := fun h => by
          rw [List.take_succ_eq_append_getElem hlt, List.take_succ_eq_append_getElem hltb, HE.out, h]
        have HN : Hid (P[k] ≠ Q[k] → (P == Q) = false) := fun h => beq_eq_false_iff_ne.2 fun e => h (by subst e; rfl)
        have HLX := Lib.hid (HPE.out _ (List.getElem_mem hlt))
        have HLY := Lib.hid (HQE.out _ (List.getElem_mem hltb))
        generalize P[k] = x at *
        generalize Q[k] = y at *
        have HC := Lib.hid (fun n => sameI_any (wr.drewN n) A0 A1 x y d0 d1 (r0.later (sc_drewN (Below.refl _ _) n)) (r1.later (sc_drewN (Below.refl _ _) n)) HLX.out HLY.out)
        clear r0 r1 HLX HLY
        by_cases hxy : x = y
        · have HT1 := Lib.hid (HT.out hxy)
          rw [beq_iff_eq.2 hxy] at HC
          clear hxy HT HN
          go_wp2_with fail
          go_quiet ((go_at_call 21; exact quiet_dr (HC.out _)))
          go_wp2_with fail
          go_roundw
          case rel => exact ⟨k + 1, hlt, by go_num, HT1.out, HW.out.more _⟩
          case measure => simp [intOf]; omega
        · have HT1 := Lib.hid (HN.out hxy)
          rw [beq_eq_false_iff_ne.2 hxy] at HC
          clear hxy HT HN
          go_wp2_with fail
          go_quiet ((go_at_call 21; exact quiet_dr (HC.out _)))
          go_wp2_with fail
          go_ret
          exact ⟨by rw [HT1.out]; rfl, HW.out.more _⟩
      · have HV : Hid ((P == Q) = true) := by
          show _ = _
          have e := HE.out
          rw [show k = P.length by omega, List.take_length, List.take_of_length_le hlb] at e
          exact beq_iff_eq.2 e
        have hk1 : ¬ (k : Int) < (P.length : Int) := by omega
        go_wp2_with fail
        go_ret
        exact ⟨by rw [HV.out]; rfl, HW.out⟩
  · have HV : Hid ((P == Q) = false) := beq_eq_false_iff_ne.2 fun e => hlen (by rw [e])
    have t0 := nT (show (P.length : Int) ≠ (Q.length : Int) by omega)
    clear hlen
    go_enter Tryd.func11, Tryd.ntmps11
    go_wp2_with fail
    go_ret
    exact ⟨by rw [HV.out]; rfl, Dr.refl _⟩
end Go.Proofs.YtnofcanboaaejaaDoor
