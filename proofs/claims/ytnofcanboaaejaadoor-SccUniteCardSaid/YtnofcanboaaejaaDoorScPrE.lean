/- What paths, component and components of package scc return. -/
import Derived.Test.YtnofcanboaaejaaDoorScPrD
namespace Go.Proofs.YtnofcanboaaejaaDoor
open Go.RowKit
set_option maxRecDepth 100000

/-- the first k sets are given by f -/
def upK (f : Nat → Nat) (k a : Nat) : Nat := if a < k then f a else 0
theorem upK_zero (f : Nat → Nat) (a : Nat) : upK f 0 a = 0 := if_neg (Nat.not_lt_zero a)
theorem upK_next (f : Nat → Nat) (k j : Nat) : upK f (k + 1) j = if j = k then f k else upK f k j := by
  unfold upK
  by_cases e : j = k
  · subst e; rw [if_pos (Nat.lt_succ_self _), if_pos rfl]
  · rw [if_neg e]
    by_cases h : j < k
    · rw [if_pos h, if_pos (by omega)]
    · rw [if_neg h, if_neg (by omega)]
theorem upK_end (f : Nat → Nat) {n a : Nat} (h : a < n) : upK f n a = f a := if_pos h
set_option maxHeartbeats 1000000 in
theorem paths_any (w : World) (n g c : Nat) (P : List (List Int)) (hn : n ≤ 64) (hG : UlR w g n (Sc.edS n P P.length)) (hT : TzT w) :
    Calls Tryd.prog 23 #[.slice (some ⟨g, 0, none⟩) n c] w fun e w' => ∃ g', e = .returned (.slice (some ⟨g', 0, none⟩) n n) ∧ UlR w' g' n (fun a => Sc.nb (Sc.rch n P a)) ∧ Below w.heap.size w w' := by
  have HRE := Lib.hid (fun k (hk : k < n) W (h : Below w.heap.size w W) => reached_any n k P g c W hn hk (hG.later h) (hT.later h))
  have HE : Hid (∀ a, a < n → upK (fun a => Sc.nb (Sc.rch n P a)) n a = Sc.nb (Sc.rch n P a)) := fun a h => upK_end _ h
  have HZ : Hid (∀ a, upK (fun a => Sc.nb (Sc.rch n P a)) 0 a = 0) := upK_zero _
  have HNX : Hid (∀ k j, upK (fun a => Sc.nb (Sc.rch n P a)) (k + 1) j = if j = k then Sc.nb (Sc.rch n P k) else upK (fun a => Sc.nb (Sc.rch n P a)) k j) := fun k j => upK_next _ k j
  generalize upK (fun a => Sc.nb (Sc.rch n P a)) = U at *
  clear hG hT
  go_enter Tryd.func23, Tryd.ntmps23
  go_wp2_with (refine wpList_make_one (.int .u64 0) 8 Tryd.underlying43 Tryd.infoSet (by omega) rfl _ rfl _ _ rfl n rfl rfl (by omega) _ rfl ?_; intro w2 hO2 hC2 hB2 hs2)
  have hU2 : Hid (UlR w2 w.heap.size n (U 0)) := fun i hi => by rw [HZ.out]; exact hC2 i hi
  have HB2 := Lib.hid hB2
  have HS2 : Hid (w2.heap.size = w.heap.size + 1) := hs2
  clear hO2 hC2 hB2 hs2 HZ
  generalize hH : w.heap.size = H at *
  have HHe := Lib.hid hH
  clear hH
  go_wp2_with fail
  go_loopw [10] (fun i wr => ∃ k : Nat, k ≤ n ∧ i = .int .i64 (k : Int) ∧ Hid (UlR wr H n (U k)) ∧ Hid (Below H w wr)) (fun i _ => n - (intOf i).toNat)
  case atStart => exact ⟨0, Nat.zero_le _, rfl, hU2.out, HB2.out⟩
  case round =>
    clear hU2
    obtain ⟨k, hk, rfl, HU, HW⟩ := hrel
    by_cases hlt : k < n
    · have gk : (k : Int) < (n : Int) := by omega
      have gk0 : (0 : Int) ≤ (k : Int) := by omega
      have HC := Lib.hid (HRE.out k hlt wr HW.out)
      obtain ⟨cc, ff⟩ := HU.out k hlt
      have HHw : Hid (H < wr.heap.size) := World.block_lt_of_cell? _ _ cc
      have HST := Lib.hid (HU.out.put (Sc.nb (Sc.rch n P k)) hlt (fun j _ => HNX.out k j))
      have HBS : Hid (∀ u, Below H w (wr.setCell ⟨H, k, none⟩ u)) := fun u => HW.out.setCell (Nat.le_refl _) u
      clear HU HW
      generalize Sc.nb (Sc.rch n P k) = v at *
      go_wp2_with fail
      refine HC.out.mono ?_
      rintro e w1 ⟨rfl, rfl⟩
      go_wp2_with fail
      go_roundw
      case rel => exact ⟨k + 1, hlt, by go_num, HST.out, HBS.out _⟩
      case measure => simp [intOf]; omega
    · obtain rfl : k = n := by omega
      have HV : Hid (UlR wr H k (fun a => Sc.nb (Sc.rch k P a))) := fun i hi => by
        have h := HU.out i hi
        rw [HE.out i hi] at h
        exact h
      clear HU
      go_wp2_with fail
      go_ret
      exact ⟨H, rfl, HV.out, by rw [HHe.out]; exact HW.out⟩

set_option maxHeartbeats 1000000 in
theorem component_any (w : World) (n g c i : Nat) (R : Nat → Nat → Bool) (hn : n ≤ 64) (hi : i < n) (hR : ∀ a b, R a b = true → b < n) (hG : UlR w g n (fun a => Sc.nb (R a))) (hT : TzT w) :
    Calls Tryd.prog 31 #[.slice (some ⟨g, 0, none⟩) n c, .int .i64 (i : Int)] w fun e w' => e = .returned (.int .u64 (Sc.cpV R i : Int)) ∧ Below w.heap.size w w' := by
  have HO : Hid (∀ W, Calls Tryd.prog 30 #[.int .i64 (i : Int)] W fun e w' => e = .returned (.int .u64 (Sc.cpk R i 0 : Int)) ∧ W = w') := fun W => by
    rw [Sc.cpk_zero R (show i < 64 by omega)]
    exact scOnly_any (i : Int) i W rfl (by omega)
  have HL := Lib.hid (scList_any (Sc.nb (R i)) (Sc.nb_lt _) w hT)
  have HG := Lib.hid hG
  have c0 := (hG i hi).1
  dsimp only at c0
  have gi0 : (0 : Int) ≤ (i : Int) := by omega
  have gi : (i : Int) < (n : Int) := by omega
  have HE := Lib.hid (Sc.cpk_end R i)
  have HSK := Lib.hid (fun k hk h => Sc.cpk_skip (R := R) (i := i) (k := k) hk h)
  have HTK := Lib.hid (fun k hk h => Sc.cpk_take (R := R) (i := i) (k := k) hk h)
  have HLT := Lib.hid (fun k => Sc.nb_lt fun j => decide (i = j) || (((Sc.bl (Sc.nb (R i))).take k).contains j && R j i))
  have HLT2 : Hid (∀ k, Sc.cpk R i k < 18446744073709551616) := HLT.out
  have HMN : Hid (∀ x, x ∈ Sc.bl (Sc.nb (R i)) → x < n) := fun x hx => by
    have h := (List.mem_filter.1 hx).2
    rw [Sc.nb_bit, Bool.and_eq_true] at h
    exact hR _ _ h.2
  have HBL := Lib.hid (Sc.bl_len (Sc.nb (R i)))
  clear HLT hG hT
  generalize Sc.bl (Sc.nb (R i)) = xs at *
  generalize Sc.nb (R i) = s at *
  go_enter Tryd.func31, Tryd.ntmps31
  go_wp2_with fail
  refine (HO.out _).mono ?_
  rintro e w1 ⟨rfl, rfl⟩
  go_wp2_with fail
  refine HL.out.mono ?_
  rintro e w2 ⟨A2, c2, rfl, hI2, hB2⟩
  have hlx : (toL xs).length = xs.length := List.length_map _
  have HI := Lib.hid (hI2.read (toL_ok fun x hx => by have := HMN.out x hx; omega))
  have HG2 := Lib.hid (HG.out.later hB2)
  have HB2 := Lib.hid hB2
  have HLX := Lib.hid hlx
  clear hI2 hB2 hlx HG c0 HL
  go_wp2_with fail
  go_loopw [5, 16] (fun v u wr => ∃ k : Nat, k ≤ xs.length ∧ u = .int .i64 (k : Int) ∧ v = .int .u64 (Sc.cpk R i k : Int) ∧ w2 = wr) (fun _ u _ => xs.length - (intOf u).toNat)
  case atStart => exact ⟨0, Nat.zero_le _, rfl, rfl, rfl⟩
  case round =>
    obtain ⟨k, hk, rfl, rfl, rfl⟩ := hrel
    have h64 : xs.length ≤ 64 := HBL.out
    by_cases hlt : k < xs.length
    · have gk : (k : Int) < (xs.length : Int) := by omega
      have gk0 : (0 : Int) ≤ (k : Int) := by omega
      obtain ⟨b, off, hAe, d0, -⟩ := HI.out k (by rw [HLX.out]; exact hlt)
      subst hAe
      have e0 : (toL xs)[k]'(by rw [HLX.out]; exact hlt) = ((xs[k] : Nat) : Int) := List.getElem_map _
      rw [e0] at d0
      have HXN := HMN.out _ (List.getElem_mem hlt)
      have HS1 := Lib.hid (HSK.out k hlt)
      have HT1 := Lib.hid (HTK.out k hlt)
      clear e0
      generalize xs[k] = x at *
      have gx0 : (0 : Int) ≤ (x : Int) := by omega
      have gx : (x : Int) < (n : Int) := by omega
      have d1 := (HG2.out x HXN).1
      dsimp only at d1
      have HH := Lib.hid (fun W => scHas_any (Sc.nb (R x)) i W (Sc.nb_lt _) (by omega))
      rw [Sc.nb_bit, decide_eq_true (show i < 64 by omega), Bool.true_and] at HH
      generalize Sc.nb (R x) = y at *
      cases hv : R x i with
      | false =>
        rw [hv] at HH
        have HS2 := Lib.hid (HS1.out hv)
        clear hv HS1 HT1
        go_wp2_with fail
        refine (HH.out _).mono ?_
        rintro e w1 ⟨rfl, rfl⟩
        go_wp2_with fail
        go_roundw
        case rel => exact ⟨k + 1, hlt, by go_num, by rw [HS2.out], trivial⟩
        case measure => simp [intOf]; omega
      | true =>
        rw [hv] at HH
        have HS2 := Lib.hid (HT1.out hv)
        have HON := Lib.hid (fun W => scOnly_any (x : Int) x W rfl (by omega))
        have HOR := Lib.hid (u64_or_nat (Sc.cpk R i k) (2 ^ x) (HLT2.out k) (Sc.pow_64 (by omega)))
        clear hv HS1 HT1
        generalize 2 ^ x = q at *
        go_wp2_with fail
        refine (HH.out _).mono ?_
        rintro e w1 ⟨rfl, rfl⟩
        go_wp2_with fail
        refine (HON.out _).mono ?_
        rintro e w1 ⟨rfl, rfl⟩
        go_wp2_with fail
        go_roundw
        case rel => exact ⟨k + 1, hlt, by go_num, by rw [HS2.out, HOR.out], trivial⟩
        case measure => simp [intOf]; omega
    · obtain rfl : k = xs.length := by omega
      go_wp2_with fail
      go_ret
      exact ⟨by rw [HE.out]; rfl, HB2.out⟩
end Go.Proofs.YtnofcanboaaejaaDoor
