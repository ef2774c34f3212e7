/- What graphOf of package scc returns: the edges that lead from each node. -/
import Derived.Test.YtnofcanboaaejaaDoorScPrC
namespace Go.Proofs.YtnofcanboaaejaaDoor
open Go.RowKit
set_option maxRecDepth 100000

theorem Tryd.infoSet : (Tryd.prog.info? 48).map (fun i => (i.zero, i.size, i.bytes)) = some (some (.int .u64 0), 1, 8) := by kernel_rfl
namespace Sc
/-- the sets of edges among the first k pairs -/
def edS (n : Nat) (P : List (List Int)) (k a : Nat) : Nat := nb (edM n P k a)
theorem edS_zero (n : Nat) (P : List (List Int)) (a : Nat) : edS n P 0 a = 0 := by unfold edS; rw [edM_zero]; exact nb_zero
theorem edS_skip {n k : Nat} {P : List (List Int)} (hk : k < P.length) (h : arr n P[k] = false) : edS n P (k + 1) = edS n P k := by
  funext a; unfold edS; rw [edM_skip hk h]
theorem edS_put {n k a b : Nat} {P : List (List Int)} (hn : n ≤ 64) (hk : k < P.length) (ha : a < n) (hb : b < n) (h : P[k] = [(a : Int), (b : Int)]) (j : Nat) :
    edS n P (k + 1) j = if j = a then edS n P k a ||| 2 ^ b else edS n P k j := by
  unfold edS
  rw [edM_put hk ha hb h]
  by_cases e : j = a
  · subst e
    rw [if_pos rfl, nb_put _ (by omega)]
    congr 1
    funext x
    unfold put
    by_cases e : b = x
    · subst e; simp
    · have e2 : ¬ x = b := fun h => e h.symm
      simp [e, e2]
  · rw [if_neg e]
    congr 1
    funext x
    exact put_far _ _ _ _ fun h => e h.1
theorem edS_lt (n : Nat) (P : List (List Int)) (k a : Nat) : edS n P k a < 18446744073709551616 := nb_lt _
theorem arr_two (n : Nat) (x y : Int) : arr n [x, y] = ((decide (0 ≤ x) && decide (x < (n : Int))) && (decide (0 ≤ y) && decide (y < (n : Int)))) := by
  unfold arr
  simp only [Bool.and_assoc]
theorem arr_len {n : Nat} {p : List Int} (h : p.length ≠ 2) : arr n p = false := by
  cases e : arr n p with
  | false => rfl
  | true =>
    obtain ⟨a, b, rfl, _⟩ := arr_some e
    exact absurd rfl h
end Sc
set_option maxHeartbeats 4000000 in
theorem graphOf_any (w : World) (n : Int) (A : Option Addr) (P : List (List Int)) (ca : Nat) (hA : LiR w A P) (hl : P.length ≤ 1000) :
    Calls Tryd.prog 22 #[.int .i64 n, .slice A P.length ca] w fun e w' => ∃ g, e = .returned (.slice (some ⟨g, 0, none⟩) (clV n) (clV n)) ∧ UlR w' g (clV n) (Sc.edS (clV n) P P.length) ∧ Below w.heap.size w w' := by
  have HA := Lib.hid hA
  have hN := clV_le n
  have hv : Hid (max 0 (min n 64) = (clV n : Int)) := by show _ = _; unfold clV; omega
  generalize clV n = N at *
  have HB0 : Hid (w.heap.size = w.heap.size) := rfl
  clear hA
  go_enter Tryd.func22, Tryd.ntmps22
  go_wp2_with (refine wpList_make_one (.int .u64 0) 8 Tryd.underlying43 Tryd.infoSet (by omega) rfl _ rfl _ _ rfl N (congrArg (Value.int .i64) (by have := hv.out; omega)) (congrArg (Value.int .i64) (by have := hv.out; omega)) (by omega) _ rfl ?_; intro w2 hO2 hC2 hB2 hs2)
  all_goals
    have hU2 : Hid (UlR w2 w.heap.size N (Sc.edS N P 0)) := fun i hi => by rw [Sc.edS_zero]; exact hC2 i hi
    have HB2 := Lib.hid hB2
    have HS2 : Hid (w2.heap.size = w.heap.size + 1) := hs2
    clear hO2 hC2 hB2 hs2 HB0
    generalize hH : w.heap.size = H at *
    have HHe := Lib.hid hH
    clear hH
    go_wp2_with fail
    go_loopw [14] (fun i wr => ∃ k : Nat, k ≤ P.length ∧ i = .int .i64 (k : Int) ∧ Hid (UlR wr H N (Sc.edS N P k)) ∧ Hid (Below H w wr)) (fun i _ => P.length - (intOf i).toNat)
    case atStart => exact ⟨0, Nat.zero_le _, rfl, hU2.out, HB2.out⟩
    case round =>
      clear hU2
      obtain ⟨k, hk, rfl, HU, HW⟩ := hrel
      by_cases hlt : k < P.length
      · have gk : (k : Int) < (P.length : Int) := by omega
        have gk0 : (0 : Int) ≤ (k : Int) := by omega
        obtain ⟨b, off, Ai, ci, hAe, hc, hr⟩ := HA.out.later (HHe.out ▸ HW.out) k hlt
        subst hAe
        have HR := Lib.hid hr
        clear hr
        have HSK := Lib.hid (fun h => Sc.edS_skip (n := N) hlt h)
        have HPU := Lib.hid (fun a b ha hb h j => Sc.edS_put (n := N) (a := a) (b := b) hN hlt ha hb h j)
        generalize P[k] = p at *
        by_cases h2 : p.length = 2
        · obtain ⟨x, y, rfl⟩ : ∃ x y, p = [x, y] := by
            match p, h2 with
            | [x, y], _ => exact ⟨x, y, rfl⟩
          obtain ⟨b1, o1, hAe, c0, -⟩ := HR.out 0 (by simp)
          obtain ⟨b2, o2, hAe2, c1, -⟩ := HR.out 1 (by simp)
          subst hAe
          injection hAe2 with e1
          injection e1 with e1 e2
          subst e1 e2
          simp only [List.getElem_cons_zero, List.getElem_cons_succ, Nat.add_zero] at c0 c1
          have HAT := Lib.hid (Sc.arr_two N x y)
          have HNX := Lib.hid (fun W => isNode_any (some ⟨H, 0, none⟩) N N x W)
          have HNY := Lib.hid (fun W => isNode_any (some ⟨H, 0, none⟩) N N y W)
          have HQ1 : Hid ((decide (0 ≤ x) && decide (x < (N : Int))) = true → 0 ≤ x ∧ x < (N : Int)) := fun h => by simpa using h
          have HQ2 : Hid ((decide (0 ≤ y) && decide (y < (N : Int))) = true → 0 ≤ y ∧ y < (N : Int)) := fun h => by simpa using h
          clear h2 HR
          simp only [List.length_cons, List.length_nil] at hc
          generalize (decide (0 ≤ x) && decide (x < (N : Int))) = q1 at *
          generalize (decide (0 ≤ y) && decide (y < (N : Int))) = q2 at *
          cases q1 with
          | false =>
            have HU2 : Hid (UlR wr H N (Sc.edS N P (k + 1))) := by have h := HU.out; rw [← HSK.out (by rw [HAT.out]; rfl)] at h; exact h
            clear HU HPU HSK HAT HNY HQ1 HQ2
            go_wp2_with fail
            refine (HNX.out _).mono ?_
            rintro e w1 ⟨rfl, rfl⟩
            go_wp2_with fail
            go_roundw
            case rel => exact ⟨k + 1, hlt, by go_num, HU2.out, HW.out⟩
            case measure => simp [intOf]; omega
          | true =>
            cases q2 with
            | false =>
              have HU2 : Hid (UlR wr H N (Sc.edS N P (k + 1))) := by have h := HU.out; rw [← HSK.out (by rw [HAT.out]; rfl)] at h; exact h
              clear HU HPU HSK HAT HQ1 HQ2
              go_wp2_with fail
              refine (HNX.out _).mono ?_
              rintro e w1 ⟨rfl, rfl⟩
              go_wp2_with fail
              refine (HNY.out _).mono ?_
              rintro e w1 ⟨rfl, rfl⟩
              go_wp2_with fail
              go_roundw
              case rel => exact ⟨k + 1, hlt, by go_num, HU2.out, HW.out⟩
              case measure => simp [intOf]; omega
            | true =>
              obtain ⟨hx0, hx1⟩ := HQ1.out rfl
              obtain ⟨hy0, hy1⟩ := HQ2.out rfl
              obtain ⟨a, rfl⟩ : ∃ a : Nat, x = (a : Int) := ⟨x.toNat, by omega⟩
              obtain ⟨d, rfl⟩ : ∃ d : Nat, y = (d : Int) := ⟨y.toNat, by omega⟩
              have hdN : d < 64 := by omega
              have haN : a < N := by omega
              obtain ⟨cc, ff⟩ := HU.out a haN
              have HIO := Lib.hid (fun W => (scOnly_any (d : Int) d W rfl hdN).mono (R' := fun e w' => e = .returned (.int .u64 ((2 ^ d : Nat) : Int)) ∧ w' = W) (fun _ _ h => ⟨h.1, h.2.symm⟩))
              have HOR := Lib.hid (u64_or_nat (Sc.edS N P k a) (2 ^ d) (Sc.edS_lt _ _ _ _) (Sc.pow_64 hdN))
              have HHw : Hid (H < wr.heap.size) := World.block_lt_of_cell? _ _ cc
              have HUD : Hid (UlR wr.drew H N (Sc.edS N P k)) := HU.out
              have HST := Lib.hid (HUD.out.put (Sc.edS N P k a ||| 2 ^ d) haN (fun j _ => HPU.out a d haN (by omega) rfl j))
              have HBS : Hid (∀ u, Below H w (wr.drew.setCell ⟨H, a, none⟩ u)) := fun u => HW.out.drew.setCell (Nat.le_refl _) u
              have cc' : wr.drew.cell? ⟨H, a, none⟩ = some (.int .u64 (Sc.edS N P k a : Int)) := cc
              have ff' : wr.drew.frozen? ⟨H, a, none⟩ = false := ff
              clear HU HUD HW HPU HSK HAT HQ1 HQ2
              generalize Sc.edS N P k a = ea at *
              generalize 2 ^ d = q at *
              have hor : bits .or .u64 (ea : Int) (q : Int) = ((ea ||| q : Nat) : Int) := HOR.out
              generalize ea ||| q = v at *
              clear HOR
              go_wp2_with fail
              refine (HNX.out _).mono ?_
              rintro e w1 ⟨rfl, rfl⟩
              go_wp2_with fail
              refine (HNY.out _).mono ?_
              rintro e w1 ⟨rfl, rfl⟩
              go_wp2_with fail
              go_still_tail 12, (by kernel_rfl)
              still_call (HIO.out _)
              repeat still_step
              try refine wpStill_nil ?_
              change wpList _ _ _ _ _ wr.drew
              generalize wr.drew = wd at *
              go_wp2_with fail
              go_roundw
              case rel => exact ⟨k + 1, hlt, by go_num, HST.out, HBS.out _⟩
              case measure => simp [intOf]; omega
        · have h2' := bF (show (p.length : Int) ≠ 2 by omega)
          have HU2 : Hid (UlR wr H N (Sc.edS N P (k + 1))) := by have h := HU.out; rw [← HSK.out (Sc.arr_len h2)] at h; exact h
          clear h2 HU HPU HSK
          go_wp2_with fail
          go_roundw
          case rel => exact ⟨k + 1, hlt, by go_num, HU2.out, HW.out⟩
          case measure => simp [intOf]; omega
      · obtain rfl : k = P.length := by omega
        go_wp2_with fail
        go_ret
        exact ⟨H, rfl, HU.out, by rw [HHe.out]; exact HW.out⟩
end Go.Proofs.YtnofcanboaaejaaDoor
