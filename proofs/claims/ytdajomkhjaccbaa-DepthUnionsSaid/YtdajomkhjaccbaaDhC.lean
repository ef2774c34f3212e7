/- What relation does, for each function that it is given. -/
import Derived.Test.YtdajomkhjaccbaaDhB
namespace Go.Proofs.Ytdajomkhjaccbaa
open Go.RowKit
set_option maxRecDepth 100000

/-- a relation of the call's own, as a call returns it -/
def RlP (w : World) (n : Nat) (r : List Nat) (e : Ending) (w' : World) : Prop :=
  ∃ g, e = .returned (.slice (some ⟨g, 0, none⟩) n n) ∧ RlO w' w.heap.size (.slice (some ⟨g, 0, none⟩) n n) r ∧ Below w.heap.size w w'
theorem RlO.base {w : World} {B B' : Nat} {v : Value} {r : List Nat} (h : RlO w B v r) (hB : B' ≤ B) : RlO w B' v r := World.ownsRow.mono h hB

set_option maxHeartbeats 400000 in
theorem relId_any (w : World) (n : Nat) (f : Nat → Nat) (hn : n ≤ 9) (HC : ∀ W d, Below w.heap.size w W → d < n → Calls Try.prog 35 #[.int .i64 (d : Int)] W fun e w' => e = .returned (.int .i64 (f d : Int)) ∧ Below W.heap.size W w') :
    Calls Try.prog 36 #[.int .i64 (n : Int), .func (.func 35) #[] #[]] w (RlP w n ((List.range n).map f)) := by
  have HCH := Lib.hid HC
  have HRE := Lib.hid (rowF_end f n)
  have HRZ := Lib.hid (rowF_zero f n)
  clear HC
  go_enter Try.func36, Try.ntmps36
  go_wp2_with (refine wpList_make_rl _ rfl _ _ rfl n rfl rfl (by omega) _ rfl ?_; intro w0 hO0 hB0 hs0)
  have hO0' : Hid (RlO w0 w.heap.size (.slice (some ⟨w.heap.size, 0, none⟩) n n) (rowF f n 0)) := by show RlO _ _ _ _; rw [HRZ.out]; exact hO0
  clear hO0
  generalize hg : w.heap.size = H at *
  have HG := Lib.hid hg
  clear hg
  go_wp2_with fail
  go_loopw [11] (fun i wr => ∃ k : Nat, k ≤ n ∧ i = .int .i64 (k : Int) ∧ Hid (RlO wr H (.slice (some ⟨H, 0, none⟩) n n) (rowF f n k)) ∧ Hid (Below H w wr)) (fun i _ => n - (intOf i).toNat)
  case atStart => exact ⟨0, Nat.zero_le _, rfl, hO0', hB0⟩
  case round =>
    obtain ⟨k, hk, rfl, HO, HB⟩ := hrel
    by_cases hlt : k < n
    · have hlt' : (k : Int) < (n : Int) := by omega
      have hk0 : (0 : Int) ≤ (k : Int) := by omega
      have HCK := Lib.hid (HCH.out wr k HB.out hlt)
      go_wp2_with fail
      refine HCK.out.mono ?_
      rintro e w1 ⟨rfl, hb1⟩
      have hO1 := HO.out.later hb1
      obtain ⟨c0, f0⟩ := hO1.at k (by rw [rowF_len]; exact hlt)
      have HS := Lib.hid (hO1.store (by rw [rowF_len]) k (f k))
      rw [rowF_set] at HS
      have hHw : H < w1.heap.size := hO1.lt.2
      have HBS : Hid (∀ u, Below H w (w1.setCell ⟨H, k, none⟩ u)) := fun u => (HB.out.trans (hb1.mono (Nat.le_of_lt HO.out.lt.2))).setCell (Nat.le_refl _) u
      clear hb1 hO1 HCK HO HB
      generalize f k = v at *
      go_wp2_with fail
      go_roundw
      case rel => exact ⟨k + 1, hlt, by go_num, HS.out, HBS.out _⟩
      case measure => simp [intOf]; omega
    · obtain rfl : k = n := by omega
      rw [HRE.out] at HO
      go_wp2_with fail
      go_ret
      exact ⟨H, rfl, by rw [HG.out]; exact HO.out, by rw [HG.out]; exact HB.out⟩

set_option maxHeartbeats 400000 in
theorem relDn_any (w : World) (n : Nat) (f : Nat → Nat) (hn : n ≤ 9) (HC : ∀ W d, Below w.heap.size w W → d < n → Calls Try.prog 39 #[.int .i64 (d : Int)] W fun e w' => e = .returned (.int .i64 (f d : Int)) ∧ Below W.heap.size W w') :
    Calls Try.prog 36 #[.int .i64 (n : Int), .func (.func 39) #[] #[]] w (RlP w n ((List.range n).map f)) := by
  have HCH := Lib.hid HC
  have HRE := Lib.hid (rowF_end f n)
  have HRZ := Lib.hid (rowF_zero f n)
  clear HC
  go_enter Try.func36, Try.ntmps36
  go_wp2_with (refine wpList_make_rl _ rfl _ _ rfl n rfl rfl (by omega) _ rfl ?_; intro w0 hO0 hB0 hs0)
  have hO0' : Hid (RlO w0 w.heap.size (.slice (some ⟨w.heap.size, 0, none⟩) n n) (rowF f n 0)) := by show RlO _ _ _ _; rw [HRZ.out]; exact hO0
  clear hO0
  generalize hg : w.heap.size = H at *
  have HG := Lib.hid hg
  clear hg
  go_wp2_with fail
  go_loopw [11] (fun i wr => ∃ k : Nat, k ≤ n ∧ i = .int .i64 (k : Int) ∧ Hid (RlO wr H (.slice (some ⟨H, 0, none⟩) n n) (rowF f n k)) ∧ Hid (Below H w wr)) (fun i _ => n - (intOf i).toNat)
  case atStart => exact ⟨0, Nat.zero_le _, rfl, hO0', hB0⟩
  case round =>
    obtain ⟨k, hk, rfl, HO, HB⟩ := hrel
    by_cases hlt : k < n
    · have hlt' : (k : Int) < (n : Int) := by omega
      have hk0 : (0 : Int) ≤ (k : Int) := by omega
      have HCK := Lib.hid (HCH.out wr k HB.out hlt)
      go_wp2_with fail
      refine HCK.out.mono ?_
      rintro e w1 ⟨rfl, hb1⟩
      have hO1 := HO.out.later hb1
      obtain ⟨c0, f0⟩ := hO1.at k (by rw [rowF_len]; exact hlt)
      have HS := Lib.hid (hO1.store (by rw [rowF_len]) k (f k))
      rw [rowF_set] at HS
      have hHw : H < w1.heap.size := hO1.lt.2
      have HBS : Hid (∀ u, Below H w (w1.setCell ⟨H, k, none⟩ u)) := fun u => (HB.out.trans (hb1.mono (Nat.le_of_lt HO.out.lt.2))).setCell (Nat.le_refl _) u
      clear hb1 hO1 HCK HO HB
      generalize f k = v at *
      go_wp2_with fail
      go_roundw
      case rel => exact ⟨k + 1, hlt, by go_num, HS.out, HBS.out _⟩
      case measure => simp [intOf]; omega
    · obtain rfl : k = n := by omega
      rw [HRE.out] at HO
      go_wp2_with fail
      go_ret
      exact ⟨H, rfl, by rw [HG.out]; exact HO.out, by rw [HG.out]; exact HB.out⟩

set_option maxHeartbeats 400000 in
theorem relUp_any (w : World) (n : Nat) (f : Nat → Nat) (p : Value) (hn : n ≤ 9) (HC : ∀ W d, Below w.heap.size w W → d < n → Calls Try.prog 38 #[.int .i64 (d : Int), p] W fun e w' => e = .returned (.int .i64 (f d : Int)) ∧ Below W.heap.size W w') :
    Calls Try.prog 36 #[.int .i64 (n : Int), .func (.func 38) #[] #[p]] w (RlP w n ((List.range n).map f)) := by
  have HCH := Lib.hid HC
  have HRE := Lib.hid (rowF_end f n)
  have HRZ := Lib.hid (rowF_zero f n)
  clear HC
  go_enter Try.func36, Try.ntmps36
  go_wp2_with (refine wpList_make_rl _ rfl _ _ rfl n rfl rfl (by omega) _ rfl ?_; intro w0 hO0 hB0 hs0)
  have hO0' : Hid (RlO w0 w.heap.size (.slice (some ⟨w.heap.size, 0, none⟩) n n) (rowF f n 0)) := by show RlO _ _ _ _; rw [HRZ.out]; exact hO0
  clear hO0
  generalize hg : w.heap.size = H at *
  have HG := Lib.hid hg
  clear hg
  go_wp2_with fail
  go_loopw [11] (fun i wr => ∃ k : Nat, k ≤ n ∧ i = .int .i64 (k : Int) ∧ Hid (RlO wr H (.slice (some ⟨H, 0, none⟩) n n) (rowF f n k)) ∧ Hid (Below H w wr)) (fun i _ => n - (intOf i).toNat)
  case atStart => exact ⟨0, Nat.zero_le _, rfl, hO0', hB0⟩
  case round =>
    obtain ⟨k, hk, rfl, HO, HB⟩ := hrel
    by_cases hlt : k < n
    · have hlt' : (k : Int) < (n : Int) := by omega
      have hk0 : (0 : Int) ≤ (k : Int) := by omega
      have HCK := Lib.hid (HCH.out wr k HB.out hlt)
      go_wp2_with fail
      refine HCK.out.mono ?_
      rintro e w1 ⟨rfl, hb1⟩
      have hO1 := HO.out.later hb1
      obtain ⟨c0, f0⟩ := hO1.at k (by rw [rowF_len]; exact hlt)
      have HS := Lib.hid (hO1.store (by rw [rowF_len]) k (f k))
      rw [rowF_set] at HS
      have hHw : H < w1.heap.size := hO1.lt.2
      have HBS : Hid (∀ u, Below H w (w1.setCell ⟨H, k, none⟩ u)) := fun u => (HB.out.trans (hb1.mono (Nat.le_of_lt HO.out.lt.2))).setCell (Nat.le_refl _) u
      clear hb1 hO1 HCK HO HB
      generalize f k = v at *
      go_wp2_with fail
      go_roundw
      case rel => exact ⟨k + 1, hlt, by go_num, HS.out, HBS.out _⟩
      case measure => simp [intOf]; omega
    · obtain rfl : k = n := by omega
      rw [HRE.out] at HO
      go_wp2_with fail
      go_ret
      exact ⟨H, rfl, by rw [HG.out]; exact HO.out, by rw [HG.out]; exact HB.out⟩

set_option maxHeartbeats 400000 in
theorem relCm_any (w : World) (n : Nat) (f : Nat → Nat) (p q : Value) (hn : n ≤ 9) (HC : ∀ W d, Below w.heap.size w W → d < n → Calls Try.prog 37 #[.int .i64 (d : Int), p, q] W fun e w' => e = .returned (.int .i64 (f d : Int)) ∧ Below W.heap.size W w') :
    Calls Try.prog 36 #[.int .i64 (n : Int), .func (.func 37) #[] #[p, q]] w (RlP w n ((List.range n).map f)) := by
  have HCH := Lib.hid HC
  have HRE := Lib.hid (rowF_end f n)
  have HRZ := Lib.hid (rowF_zero f n)
  clear HC
  go_enter Try.func36, Try.ntmps36
  go_wp2_with (refine wpList_make_rl _ rfl _ _ rfl n rfl rfl (by omega) _ rfl ?_; intro w0 hO0 hB0 hs0)
  have hO0' : Hid (RlO w0 w.heap.size (.slice (some ⟨w.heap.size, 0, none⟩) n n) (rowF f n 0)) := by show RlO _ _ _ _; rw [HRZ.out]; exact hO0
  clear hO0
  generalize hg : w.heap.size = H at *
  have HG := Lib.hid hg
  clear hg
  go_wp2_with fail
  go_loopw [11] (fun i wr => ∃ k : Nat, k ≤ n ∧ i = .int .i64 (k : Int) ∧ Hid (RlO wr H (.slice (some ⟨H, 0, none⟩) n n) (rowF f n k)) ∧ Hid (Below H w wr)) (fun i _ => n - (intOf i).toNat)
  case atStart => exact ⟨0, Nat.zero_le _, rfl, hO0', hB0⟩
  case round =>
    obtain ⟨k, hk, rfl, HO, HB⟩ := hrel
    by_cases hlt : k < n
    · have hlt' : (k : Int) < (n : Int) := by omega
      have hk0 : (0 : Int) ≤ (k : Int) := by omega
      have HCK := Lib.hid (HCH.out wr k HB.out hlt)
      go_wp2_with fail
      refine HCK.out.mono ?_
      rintro e w1 ⟨rfl, hb1⟩
      have hO1 := HO.out.later hb1
      obtain ⟨c0, f0⟩ := hO1.at k (by rw [rowF_len]; exact hlt)
      have HS := Lib.hid (hO1.store (by rw [rowF_len]) k (f k))
      rw [rowF_set] at HS
      have hHw : H < w1.heap.size := hO1.lt.2
      have HBS : Hid (∀ u, Below H w (w1.setCell ⟨H, k, none⟩ u)) := fun u => (HB.out.trans (hb1.mono (Nat.le_of_lt HO.out.lt.2))).setCell (Nat.le_refl _) u
      clear hb1 hO1 HCK HO HB
      generalize f k = v at *
      go_wp2_with fail
      go_roundw
      case rel => exact ⟨k + 1, hlt, by go_num, HS.out, HBS.out _⟩
      case measure => simp [intOf]; omega
    · obtain rfl : k = n := by omega
      rw [HRE.out] at HO
      go_wp2_with fail
      go_ret
      exact ⟨H, rfl, by rw [HG.out]; exact HO.out, by rw [HG.out]; exact HB.out⟩

set_option maxHeartbeats 400000 in
theorem relUn_any (w : World) (n : Nat) (f : Nat → Nat) (p q : Value) (hn : n ≤ 9) (HC : ∀ W d, Below w.heap.size w W → d < n → Calls Try.prog 43 #[.int .i64 (d : Int), p, q] W fun e w' => e = .returned (.int .i64 (f d : Int)) ∧ Below W.heap.size W w') :
    Calls Try.prog 36 #[.int .i64 (n : Int), .func (.func 43) #[] #[p, q]] w (RlP w n ((List.range n).map f)) := by
  have HCH := Lib.hid HC
  have HRE := Lib.hid (rowF_end f n)
  have HRZ := Lib.hid (rowF_zero f n)
  clear HC
  go_enter Try.func36, Try.ntmps36
  go_wp2_with (refine wpList_make_rl _ rfl _ _ rfl n rfl rfl (by omega) _ rfl ?_; intro w0 hO0 hB0 hs0)
  have hO0' : Hid (RlO w0 w.heap.size (.slice (some ⟨w.heap.size, 0, none⟩) n n) (rowF f n 0)) := by show RlO _ _ _ _; rw [HRZ.out]; exact hO0
  clear hO0
  generalize hg : w.heap.size = H at *
  have HG := Lib.hid hg
  clear hg
  go_wp2_with fail
  go_loopw [11] (fun i wr => ∃ k : Nat, k ≤ n ∧ i = .int .i64 (k : Int) ∧ Hid (RlO wr H (.slice (some ⟨H, 0, none⟩) n n) (rowF f n k)) ∧ Hid (Below H w wr)) (fun i _ => n - (intOf i).toNat)
  case atStart => exact ⟨0, Nat.zero_le _, rfl, hO0', hB0⟩
  case round =>
    obtain ⟨k, hk, rfl, HO, HB⟩ := hrel
    by_cases hlt : k < n
    · have hlt' : (k : Int) < (n : Int) := by omega
      have hk0 : (0 : Int) ≤ (k : Int) := by omega
      have HCK := Lib.hid (HCH.out wr k HB.out hlt)
      go_wp2_with fail
      refine HCK.out.mono ?_
      rintro e w1 ⟨rfl, hb1⟩
      have hO1 := HO.out.later hb1
      obtain ⟨c0, f0⟩ := hO1.at k (by rw [rowF_len]; exact hlt)
      have HS := Lib.hid (hO1.store (by rw [rowF_len]) k (f k))
      rw [rowF_set] at HS
      have hHw : H < w1.heap.size := hO1.lt.2
      have HBS : Hid (∀ u, Below H w (w1.setCell ⟨H, k, none⟩ u)) := fun u => (HB.out.trans (hb1.mono (Nat.le_of_lt HO.out.lt.2))).setCell (Nat.le_refl _) u
      clear hb1 hO1 HCK HO HB
      generalize f k = v at *
      go_wp2_with fail
      go_roundw
      case rel => exact ⟨k + 1, hlt, by go_num, HS.out, HBS.out _⟩
      case measure => simp [intOf]; omega
    · obtain rfl : k = n := by omega
      rw [HRE.out] at HO
      go_wp2_with fail
      go_ret
      exact ⟨H, rfl, by rw [HG.out]; exact HO.out, by rw [HG.out]; exact HB.out⟩

end Go.Proofs.Ytdajomkhjaccbaa
