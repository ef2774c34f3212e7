/- What follow and the functions of one depth do. -/
import Derived.Test.YtdajomkhjaccbaaDhMem
namespace Go.Proofs.Ytdajomkhjaccbaa
open Go.RowKit
set_option maxRecDepth 100000

theorem follow_any (w : World) (A : Option Addr) (cap : Nat) (r : List Nat) (d : Nat) (hr : RlR w A r) (_hd : d ≤ 9) :
    Calls Try.prog 41 #[.slice A r.length cap, .int .i64 (d : Int)] w fun e w' => e = .returned (.int .i64 ((r.getD d 0 : Nat) : Int)) ∧ w = w' := by
  by_cases h : d < r.length
  · obtain ⟨b, rfl, hc⟩ := hr d h
    have HV := Lib.hid (getD_in r d h)
    generalize r[d] = v at *
    have hi : (d : Int) < (r.length : Int) := by omega
    clear h
    go_enter Try.func41, Try.ntmps41
    go_wp2
    go_ret
    exact ⟨by rw [HV.out]; rfl, rfl⟩
  · have HV := Lib.hid (getD_out r d (by omega))
    have hi : (r.length : Int) ≤ (d : Int) := by omega
    clear h
    go_enter Try.func41, Try.ntmps41
    go_wp2
    go_ret
    exact ⟨by rw [HV.out]; rfl, rfl⟩

/-- block g holds the slice of relation r -/
def Box (w : World) (g : Nat) (A : Option Addr) (r : List Nat) (cap : Nat) : Prop := w.cell? ⟨g, 0, none⟩ = some (.slice A r.length cap) ∧ RlR w A r
theorem Box.later {w w' : World} {g cap : Nat} {A : Option Addr} {r : List Nat} (h : Box w g A r cap) (hb : Below w.heap.size w w') : Box w' g A r cap := ⟨cell_later hb h.1, h.2.later hb⟩
theorem applyC_any (w : World) (g cap : Nat) (A : Option Addr) (r : List Nat) (acc d : Nat) (hB : Box w g A r cap) (hr : BdR r) (hd : d ≤ 9) (ha : acc < 512) :
    Calls Try.prog 40 #[.int .i64 (acc : Int), .int .i64 (d : Int), .pointer (some ⟨g, 0, none⟩)] w fun e w' => e = .returned (.int .i64 ((acc ||| r.getD d 0 : Nat) : Int)) ∧ w = w' := by
  have c0 := hB.1
  have HF := Lib.hid (follow_any w A cap r d hB.2 hd)
  have HO := Lib.hid (or_nat acc (r.getD d 0) (by omega) (by have := hr.getD d; omega))
  generalize r.getD d 0 = v at *
  clear hB
  go_enter Try.func40, Try.ntmps40
  go_wp2_with fail
  refine HF.out.mono ?_
  rintro e w1 ⟨rfl, rfl⟩
  go_wp2_with fail
  go_ret
  exact ⟨ret_int HO.out, rfl⟩

set_option maxHeartbeats 400000 in
theorem allInt_any (w : World) (g cap : Nat) (A : Option Addr) (r : List Nat) (s : Nat) (hB : Box w g A r cap) (hr : BdR r) (hs : s < 512) :
    Calls Try.prog 42 #[.func (.func 40) #[] #[.pointer (some ⟨g, 0, none⟩)], .int .i64 (s : Int)] w fun e w' => e = .returned (.int .i64 (apV r s : Int)) ∧ w = w' := by
  have HB0 := Lib.hid hB
  have HR := Lib.hid hr
  clear hB hr
  go_enter Try.func42, Try.ntmps42
  go_wp2_with fail
  go_loopw [5, 6, 7] (fun v _ i wr => ∃ k : Nat, k ≤ 9 ∧ i = .int .i64 (k : Int) ∧ v = .int .i64 (apS r s k : Int) ∧ w = wr) (fun _ _ i _ => 9 - (intOf i).toNat)
  case atStart => exact ⟨0, Nat.zero_le _, rfl, rfl, rfl⟩
  case round =>
    obtain ⟨k, hk, rfl, rfl, rfl⟩ := hrel
    by_cases hlt : k < 9
    · have HD := Lib.hid (fun W => hasD_any s (k : Int) W hs)
      rw [inS_nat s k (by omega)] at HD
      have hlt' : (k : Int) < 9 := by omega
      have HS : Hid (apS r s (k + 1) = if s.testBit k then apS r s k ||| r.getD k 0 else apS r s k) := rfl
      cases hbit : s.testBit k with
      | true =>
        rw [hbit] at HD HS
        have HC := Lib.hid (applyC_any w g cap A r (apS r s k) k HB0.out HR.out (by omega) (apS_lt HR.out s k))
        go_wp2_with fail
        refine (HD.out _).mono ?_
        rintro e w1 ⟨rfl, rfl⟩
        go_wp2_with fail
        refine HC.out.mono ?_
        rintro e w1 ⟨rfl, rfl⟩
        go_wp2_with fail
        go_roundw
        case rel => exact ⟨k + 1, hlt, by go_num, by rw [HS.out]; rfl, trivial⟩
        case measure => simp [intOf]; omega
      | false =>
        rw [hbit] at HD HS
        go_wp2_with fail
        refine (HD.out _).mono ?_
        rintro e w1 ⟨rfl, rfl⟩
        go_wp2_with fail
        go_roundw
        case rel => exact ⟨k + 1, hlt, by go_num, by rw [HS.out]; rfl, trivial⟩
        case measure => simp [intOf]; omega
    · obtain rfl : k = 9 := by omega
      go_wp2_with fail
      go_ret
      exact ⟨rfl, rfl⟩

theorem apply_any (w : World) (A : Option Addr) (cap : Nat) (r : List Nat) (s : Nat) (hR : RlR w A r) (hr : BdR r) (hs : s < 512) :
    Calls Try.prog 26 #[.slice A r.length cap, .int .i64 (s : Int)] w fun e w' => e = .returned (.int .i64 (apV r s : Int)) ∧ Below w.heap.size w w' := by
  have hb : Below w.heap.size w (w.alloc (.cells #[.slice A r.length cap] 24)) := (Below.refl _ _).alloc (Nat.le_refl _) _
  have HA := Lib.hid (allInt_any (w.alloc (.cells #[.slice A r.length cap] 24)) w.heap.size cap A r s ⟨cell_of_row _ _ 0 _ _ _ (heap_alloc_new w _), hR.later hb⟩ hr hs)
  have HB := Lib.hid hb
  clear hb
  go_enter Try.func26, Try.ntmps26
  go_wp2_with fail
  refine HA.out.mono ?_
  rintro e w1 ⟨rfl, rfl⟩
  go_wp2_with fail
  go_ret
  exact ⟨rfl, HB.out⟩

set_option maxHeartbeats 400000 in
theorem refApply_any (w : World) (A : Option Addr) (cap : Nat) (r : List Nat) (s : Nat) (hR : RlR w A r) (hr : BdR r) (hs : s < 512) (hl : r.length ≤ 9) :
    Calls Try.prog 27 #[.slice A r.length cap, .int .i64 (s : Int)] w fun e w' => e = .returned (.int .i64 (apV r s : Int)) ∧ w = w' := by
  have HR0 := Lib.hid hR
  have HR := Lib.hid hr
  have HE : Hid (apS r s r.length = apV r s) := by
    have h : ∀ n, r.length ≤ n → apS r s n = apS r s r.length := fun n hn => by
      induction n with
      | zero => rw [show r.length = 0 by omega]
      | succ n ih =>
        rcases Nat.lt_or_ge n r.length with h | h
        · rw [show r.length = n + 1 by omega]
        · have e : apS r s (n + 1) = if s.testBit n then apS r s n ||| r.getD n 0 else apS r s n := rfl
          rw [e, getD_out r n h, Nat.or_zero, ih h]
          split <;> rfl
    exact (h 9 hl).symm
  clear hR hr
  go_enter Try.func27, Try.ntmps27
  go_wp2_with fail
  go_loopw [5, 6] (fun v i wr => ∃ k : Nat, k ≤ r.length ∧ i = .int .i64 (k : Int) ∧ v = .int .i64 (apS r s k : Int) ∧ w = wr) (fun _ i _ => r.length - (intOf i).toNat)
  case atStart => exact ⟨0, Nat.zero_le _, rfl, rfl, rfl⟩
  case round =>
    obtain ⟨k, hk, rfl, rfl, rfl⟩ := hrel
    by_cases hlt : k < r.length
    · have HD := Lib.hid (fun W => in_any s (k : Int) W hs)
      rw [inS_nat s k (by omega)] at HD
      have hlt' : (k : Int) < (r.length : Int) := by omega
      have hk0 : (0 : Int) ≤ (k : Int) := by omega
      have HS : Hid (apS r s (k + 1) = if s.testBit k then apS r s k ||| r.getD k 0 else apS r s k) := rfl
      rw [getD_in r k hlt] at HS
      obtain ⟨b, rfl, hc⟩ := HR0.out k hlt
      have HO := Lib.hid (or_nat (apS r s k) r[k] (by have := apS_lt HR.out s k; omega) (by have := HR.out.at k hlt; omega))
      generalize r[k] = v at *
      cases hbit : s.testBit k with
      | true =>
        rw [hbit] at HD HS
        go_wp2_with fail
        refine (HD.out _).mono ?_
        rintro e w1 ⟨rfl, rfl⟩
        go_wp2_with fail
        go_roundw
        case rel => exact ⟨k + 1, hlt, by go_num, by rw [HS.out, HO.out]; rfl, trivial⟩
        case measure => simp [intOf]; omega
      | false =>
        rw [hbit] at HD HS
        go_wp2_with fail
        refine (HD.out _).mono ?_
        rintro e w1 ⟨rfl, rfl⟩
        go_wp2_with fail
        go_roundw
        case rel => exact ⟨k + 1, hlt, by go_num, by rw [HS.out]; rfl, trivial⟩
        case measure => simp [intOf]; omega
    · obtain rfl : k = r.length := by omega
      go_wp2_with fail
      go_ret
      exact ⟨by rw [HE.out]; rfl, rfl⟩
end Go.Proofs.Ytdajomkhjaccbaa
