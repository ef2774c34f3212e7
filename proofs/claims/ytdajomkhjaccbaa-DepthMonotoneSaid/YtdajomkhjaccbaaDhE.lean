/- What the reference's Shift, Compose, Union and SameInts do, the maker of relations, and Within. -/
import Derived.Test.YtdajomkhjaccbaaDhD
namespace Go.Proofs.Ytdajomkhjaccbaa
open Go.RowKit
set_option maxRecDepth 100000

set_option maxHeartbeats 400000 in
theorem sameInts_any (w : World) (A B : Option Addr) (a b : List Nat) (ca cb : Nat) (hA : RlR w A a) (hB : RlR w B b) (hl : a.length ≤ 1000) (hl' : b.length ≤ 1000) :
    Calls Try.prog 23 #[.slice A a.length ca, .slice B b.length cb] w fun e w' => e = .returned (.bool (a == b)) ∧ Below w.heap.size w w' := by
  have HA := Lib.hid (fun W (h : Below w.heap.size w W) => hA.later h)
  have HB := Lib.hid (fun W (h : Below w.heap.size w W) => hB.later h)
  clear hA hB
  by_cases hlen : a.length = b.length
  · have HLN := Lib.hid hlen
    have t0 := nF (show (a.length : Int) = (b.length : Int) by omega)
    have hlb : b.length ≤ a.length := by omega
    clear hlen
    go_enter Try.func23, Try.ntmps23
    go_wp2_with fail
    go_loopw [5] (fun i wr => ∃ k : Nat, k ≤ a.length ∧ i = .int .i64 (k : Int) ∧ Hid (a.take k = b.take k) ∧ Hid (Below w.heap.size w wr)) (fun i _ => a.length - (intOf i).toNat)
    case atStart => exact ⟨0, Nat.zero_le _, rfl, rfl, Below.refl _ _⟩
    case round =>
      obtain ⟨k, hk, rfl, HE, HW⟩ := hrel
      by_cases hlt : k < a.length
      · have hltb : k < b.length := by have := HLN.out; omega
        have hk0 : (0 : Int) ≤ (k : Int) := by omega
        have hk1 : (k : Int) < (a.length : Int) := by omega
        have hk2 : (k : Int) < (b.length : Int) := by omega
        obtain ⟨b0, rfl, c0⟩ := HA.out wr HW.out k hlt
        obtain ⟨b1, rfl, c1⟩ := HB.out wr HW.out k hltb
        have HT : Hid (a[k] = b[k] → a.take (k + 1) = b.take (k + 1)) := fun h => by
          rw [List.take_succ_eq_append_getElem hlt, List.take_succ_eq_append_getElem hltb, HE.out, h]
        have HN : Hid (a[k] ≠ b[k] → (a == b) = false) := fun h => beq_eq_false_iff_ne.2 fun e => h (by subst e; rfl)
        generalize a[k] = x at *
        generalize b[k] = y at *
        by_cases hxy : x = y
        · have t1 := nF (show (x : Int) = (y : Int) by omega)
          have HT1 := Lib.hid (HT.out hxy)
          clear hxy HT HN
          go_wp2_with fail
          go_quiet (fail)
          go_wp2_with fail
          go_roundw
          case rel => exact ⟨k + 1, hlt, by go_num, HT1.out, below_drewN HW.out _⟩
          case measure => simp [intOf]; omega
        · have t1 := nT (show (x : Int) ≠ (y : Int) by omega)
          have HT1 := Lib.hid (HN.out hxy)
          clear hxy HT HN
          go_wp2_with fail
          go_quiet (fail)
          go_wp2_with fail
          go_ret
          exact ⟨by rw [HT1.out]; rfl, below_drewN HW.out _⟩
      · have HV : Hid ((a == b) = true) := by
          show _ = _
          have e := HE.out
          rw [show k = a.length by omega, List.take_length, List.take_of_length_le hlb] at e
          exact beq_iff_eq.2 e
        have hk1 : ¬ (k : Int) < (a.length : Int) := by omega
        go_wp2_with fail
        go_ret
        exact ⟨by rw [HV.out]; rfl, HW.out⟩
  · have HV : Hid ((a == b) = false) := beq_eq_false_iff_ne.2 fun e => hlen (by rw [e])
    have t0 := nT (show (a.length : Int) ≠ (b.length : Int) by omega)
    clear hlen
    go_enter Try.func23, Try.ntmps23
    go_wp2_with fail
    go_ret
    exact ⟨by rw [HV.out]; rfl, Below.refl _ _⟩

set_option maxHeartbeats 400000 in
theorem refCompose_any (w : World) (A B : Option Addr) (a b : List Nat) (ca cb : Nat) (hA : RlV w A a) (hB : RlV w B b) :
    Calls Try.prog 28 #[.slice A a.length ca, .slice B b.length cb] w (RlP w a.length (cmV a b)) := by
  have HA := Lib.hid (fun W (h : Below w.heap.size w W) => hA.later h)
  have HB := Lib.hid (fun W (h : Below w.heap.size w W) => hB.later h)
  have HRE := Lib.hid (rowF_end (fun d => apV b (a.getD d 0)) a.length)
  rw [← cmV_range] at HRE
  have HRZ := Lib.hid (rowF_zero (fun d => apV b (a.getD d 0)) a.length)
  have HRL := Lib.hid (rowF_len (fun d => apV b (a.getD d 0)) a.length)
  have HRS := Lib.hid (rowF_set (fun d => apV b (a.getD d 0)) a.length)
  generalize (fun d => apV b (a.getD d 0)) = f at *
  have hll := hA.len
  clear hA hB
  go_enter Try.func28, Try.ntmps28
  go_wp2_with (refine wpList_make_rl _ rfl _ _ rfl a.length rfl rfl (by omega) _ rfl ?_; intro w0 hO0 hB0 hs0)
  have hO0' : Hid (RlO w0 w.heap.size (.slice (some ⟨w.heap.size, 0, none⟩) a.length a.length) (rowF f a.length 0)) := by show RlO _ _ _ _; rw [HRZ.out]; exact hO0
  clear hO0 HRZ
  generalize hg : w.heap.size = H at *
  have HG := Lib.hid hg
  clear hg
  go_wp2_with fail
  go_loopw [6] (fun i wr => ∃ k : Nat, k ≤ a.length ∧ i = .int .i64 (k : Int) ∧ Hid (RlO wr H (.slice (some ⟨H, 0, none⟩) a.length a.length) (rowF f a.length k)) ∧ Hid (Below H w wr)) (fun i _ => a.length - (intOf i).toNat)
  case atStart => exact ⟨0, Nat.zero_le _, rfl, hO0', hB0⟩
  case round =>
    obtain ⟨k, hk, rfl, HO, HW⟩ := hrel
    by_cases hlt : k < a.length
    · have hlt' : (k : Int) < (a.length : Int) := by omega
      have hk0 : (0 : Int) ≤ (k : Int) := by omega
      have hVA := HA.out wr HW.out
      have hVB := HB.out wr HW.out
      obtain ⟨b0, rfl, c0⟩ := hVA.rd k hlt
      have hx := hVA.bd.at k hlt
      have HSK := Lib.hid (HRS.out k)
      rw [getD_in a k hlt] at HSK
      generalize a[k] = x at *
      have HCK := Lib.hid (refApply_any wr B cb b x hVB.rd hVB.bd hx hVB.len)
      obtain ⟨cc, ff⟩ := HO.out.at k (by rw [HRL.out]; exact hlt)
      have HST := Lib.hid (HO.out.store (HRL.out k).symm k (apV b x))
      rw [HSK.out] at HST
      have HBS : Hid (∀ u, Below H w (wr.setCell ⟨H, k, none⟩ u)) := fun u => HW.out.setCell (Nat.le_refl _) u
      clear hVA hVB HO HW
      generalize apV b x = v at *
      go_wp2_with fail
      refine HCK.out.mono ?_
      rintro e w1 ⟨rfl, rfl⟩
      go_wp2_with fail
      go_roundw
      case rel => exact ⟨k + 1, hlt, by go_num, HST.out, HBS.out _⟩
      case measure => simp [intOf]; omega
    · obtain rfl : k = a.length := by omega
      rw [HRE.out] at HO
      go_wp2_with fail
      go_ret
      exact ⟨H, rfl, by rw [HG.out]; exact HO.out, by rw [HG.out]; exact HW.out⟩

set_option maxHeartbeats 400000 in
theorem refUnion_any (w : World) (A B : Option Addr) (a b : List Nat) (ca cb : Nat) (hA : RlV w A a) (hB : RlV w B b) (hlen : a.length = b.length) :
    Calls Try.prog 30 #[.slice A a.length ca, .slice B b.length cb] w (RlP w a.length (unV a b)) := by
  have HA := Lib.hid (fun W (h : Below w.heap.size w W) => hA.later h)
  have HB := Lib.hid (fun W (h : Below w.heap.size w W) => hB.later h)
  have HRE := Lib.hid (rowF_end (fun d => a.getD d 0 ||| b.getD d 0) a.length)
  have HRZ := Lib.hid (rowF_zero (fun d => a.getD d 0 ||| b.getD d 0) a.length)
  have HRL := Lib.hid (rowF_len (fun d => a.getD d 0 ||| b.getD d 0) a.length)
  have HRS := Lib.hid (rowF_set (fun d => a.getD d 0 ||| b.getD d 0) a.length)
  have HU : Hid (unV a b = (List.range a.length).map (fun d => a.getD d 0 ||| b.getD d 0)) := rfl
  generalize (fun d => a.getD d 0 ||| b.getD d 0) = f at *
  have hll := hA.len
  have HLN := Lib.hid hlen
  clear hA hB hlen
  go_enter Try.func30, Try.ntmps30
  go_wp2_with (refine wpList_make_rl _ rfl _ _ rfl a.length rfl rfl (by omega) _ rfl ?_; intro w0 hO0 hB0 hs0)
  have hO0' : Hid (RlO w0 w.heap.size (.slice (some ⟨w.heap.size, 0, none⟩) a.length a.length) (rowF f a.length 0)) := by show RlO _ _ _ _; rw [HRZ.out]; exact hO0
  clear hO0 HRZ
  generalize hg : w.heap.size = H at *
  have HG := Lib.hid hg
  clear hg
  go_wp2_with fail
  go_loopw [6] (fun i wr => ∃ k : Nat, k ≤ a.length ∧ i = .int .i64 (k : Int) ∧ Hid (RlO wr H (.slice (some ⟨H, 0, none⟩) a.length a.length) (rowF f a.length k)) ∧ Hid (Below H w wr)) (fun i _ => a.length - (intOf i).toNat)
  case atStart => exact ⟨0, Nat.zero_le _, rfl, hO0', hB0⟩
  case round =>
    obtain ⟨k, hk, rfl, HO, HW⟩ := hrel
    by_cases hlt : k < a.length
    · have hltb : k < b.length := by have := HLN.out; omega
      have hlt' : (k : Int) < (a.length : Int) := by omega
      have hlt2 : (k : Int) < (b.length : Int) := by omega
      have hk0 : (0 : Int) ≤ (k : Int) := by omega
      have hVA := HA.out wr HW.out
      have hVB := HB.out wr HW.out
      obtain ⟨b0, rfl, c0⟩ := hVA.rd k hlt
      obtain ⟨b1, rfl, c1⟩ := hVB.rd k hltb
      have hx := hVA.bd.at k hlt
      have hy := hVB.bd.at k hltb
      have HSK := Lib.hid (HRS.out k)
      rw [getD_in a k hlt, getD_in b k hltb] at HSK
      generalize a[k] = x at *
      generalize b[k] = y at *
      have j1 := or_nat x y (by omega) (by omega)
      obtain ⟨cc, ff⟩ := HO.out.at k (by rw [HRL.out]; exact hlt)
      have hOd : RlO wr.drew H (.slice (some ⟨H, 0, none⟩) a.length a.length) (rowF f a.length k) := World.ownsRow.drew HO.out
      have HST := Lib.hid (RlO.store hOd (HRL.out k).symm k (x ||| y))
      rw [HSK.out] at HST
      have HBS : Hid (∀ u, Below H w (wr.drew.setCell ⟨H, k, none⟩ u)) := fun u => HW.out.drew.setCell (Nat.le_refl _) u
      have cc' : wr.drew.cell? ⟨H, k, none⟩ = some (.int .i64 ((rowF f a.length k)[k]'(by rw [HRL.out]; exact hlt) : Int)) := cc
      have ff' : wr.drew.frozen? ⟨H, k, none⟩ = false := ff
      clear hVA hVB HO HW hOd
      generalize x ||| y = v at *
      go_wp2_with fail
      go_still_tail 12, (by kernel_rfl)
      change wpList _ _ _ _ _ wr.drew
      generalize wr.drew = wd at *
      go_wp2_with fail
      go_roundw
      case rel => exact ⟨k + 1, hlt, by go_num, HST.out, HBS.out _⟩
      case measure => simp [intOf]; omega
    · obtain rfl : k = a.length := by omega
      rw [HRE.out] at HO
      go_wp2_with fail
      go_ret
      exact ⟨H, rfl, by rw [HU.out, HG.out]; exact HO.out, by rw [HG.out]; exact HW.out⟩
end Go.Proofs.Ytdajomkhjaccbaa
