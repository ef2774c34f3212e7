/- What ValidExpr of the reference returns. What noExpr, noRef and okRef of the reference return for made statements. -/
import Derived.Test.YtlnbmmgbfgmboaaQ3
namespace Go.Proofs.Ytlnbmmgbfgmboaa
open Go.RowKit

/-- is an expression valid -/
def refVB (E : Ex) : Bool := exShape E && decide (exHt E ≤ 24)

set_option maxRecDepth 100000 in
set_option maxHeartbeats 2000000 in
theorem refValid_any (w : World) (E : Ex) (op num : Int) (name : List UInt8) (A : Option Addr) (n c : Nat) (hM : ExM w (fun _ => True) E ⟨op, num, name, A, n, c⟩) (hB : ExB E) (hH : exHt E ≤ 1000000000) :
    Calls Try.prog 52 #[.agg #[.int .i64 op, .int .i64 num, .string ⟨name.toArray⟩, .slice A n c]] w fun e w' => e = .returned (.bool (refVB E)) ∧ Below w.heap.size w w' := by
  have HB0 : Hid (Below w.heap.size w (w.alloc (.cells #[.int .i64 op, .int .i64 num, .string ⟨name.toArray⟩, .slice A n c] 89))) := (Below.refl _ _).alloc (Nat.le_refl _) _
  have HM := Lib.hid (hM.later HB0.out)
  have HBB := Lib.hid hB
  have HH := Lib.hid hH
  have HV : Hid (refVB E = (exShape E && decide (exHt E ≤ 24))) := rfl
  clear hM hB hH
  go_enter Try.func52, Try.ntmps52
  go_wp2_with fail
  refine (shape_fuel (SizeOf.sizeOf E + 1) E op num name A n c _ (Nat.lt_succ_self _) HBB.out HM.out).mono ?_
  rintro e w1 ⟨rfl, hb1⟩
  obtain ⟨q0, q1, q2, q3, f0, f1, f2, f3, hz⟩ := four_later hb1
  have HB1 := Lib.hid (below_two HB0.out hb1)
  have HM1 := Lib.hid (HM.out.later hb1)
  clear hb1 f0 f1 f2 f3
  cases hs : exShape E with
  | false =>
    have HR : Hid (refVB E = false) := by rw [HV.out, hs]; rfl
    go_wp2_with fail
    go_ret
    exact ⟨ret_bool HR.out.symm, HB1.out⟩
  | true =>
    have HR : Hid (refVB E = decide (exHt E ≤ 24)) := by rw [HV.out, hs]; rfl
    clear hs
    go_wp2_with fail
    refine (height_fuel (SizeOf.sizeOf E + 1) E op num name A n c _ (Nat.lt_succ_self _) HBB.out HH.out HM1.out).mono ?_
    rintro e w2 ⟨rfl, hb2⟩
    have HB2 := Lib.hid (below_two HB1.out hb2)
    clear hb2
    by_cases h24 : exHt E ≤ 24
    · have d24 : decide ((exHt E : Int) ≤ 24) = true := decide_eq_true (by omega)
      have HR2 : Hid (refVB E = true) := by rw [HR.out]; exact decide_eq_true h24
      clear h24
      go_wp2_with fail
      go_ret
      exact ⟨ret_bool HR2.out.symm, HB2.out⟩
    · have d24 : decide ((exHt E : Int) ≤ 24) = false := decide_eq_false (by omega)
      have HR2 : Hid (refVB E = false) := by rw [HR.out]; exact decide_eq_false h24
      clear h24
      go_wp2_with fail
      go_ret
      exact ⟨ret_bool HR2.out.symm, HB2.out⟩

end Go.Proofs.Ytlnbmmgbfgmboaa

namespace Go.Proofs.Ytlnbmmgbfgmboaa
open Go.RowKit

theorem noEx_f {w : World} {S : Nat → Prop} {fo fx : Int} {fname : List UInt8} {fA : Option Addr} {fl fc : Nat} (h : ExM w S noEx ⟨fo, fx, fname, fA, fl, fc⟩) : fo = 0 ∧ fx = 0 ∧ fname = [] ∧ fl = 0 := by
  cases h
  exact ⟨rfl, rfl, rfl, rfl⟩
theorem MdE.valid {d : Nat} {E : Ex} (h : MdE d E) (hd : d ≤ 12) : refVB E = true := by
  have := h.ht
  unfold refVB
  rw [h.sh, decide_eq_true (by omega)]
  rfl

set_option maxRecDepth 100000 in
set_option maxHeartbeats 2000000 in
theorem noExpr_any (w : World) (A : Option Addr) (c : Nat) :
    Calls Try.prog 53 #[.agg #[.int .i64 0, .int .i64 0, .string ⟨#[]⟩, .slice A 0 c]] w fun e w' => e = .returned (.bool true) ∧ Below w.heap.size w w' := by
  have HB0 : Hid (Below w.heap.size w (w.alloc (.cells #[.int .i64 0, .int .i64 0, .string ⟨#[]⟩, .slice A 0 c] 89))) := (Below.refl _ _).alloc (Nat.le_refl _) _
  go_enter Try.func53, Try.ntmps53
  go_wp2_with fail
  go_ret
  exact ⟨rfl, HB0.out⟩

set_option maxRecDepth 100000 in
set_option maxHeartbeats 2000000 in
theorem noRef_any (w : World) (A : Option Addr) (c : Nat) :
    Calls Try.prog 55 #[.agg #[.string ⟨#[]⟩, .slice A 0 c]] w fun e w' => e = .returned (.bool true) ∧ Below w.heap.size w w' := by
  have HB0 : Hid (Below w.heap.size w (w.alloc (.cells #[.string ⟨#[]⟩, .slice A 0 c] 91))) := (Below.refl _ _).alloc (Nat.le_refl _) _
  go_enter Try.func55, Try.ntmps55
  go_wp2_with fail
  go_ret
  exact ⟨rfl, HB0.out⟩

set_option maxRecDepth 100000 in
set_option maxHeartbeats 2000000 in
theorem okRef_any (w : World) (r : Rf) (A : Option Addr) (n c : Nat) (hR : MdR r) (hM : IdxM w (fun _ => True) r.idx A n) :
    Calls Try.prog 54 #[.agg #[.string ⟨r.name.toArray⟩, .slice A n c]] w fun e w' => e = .returned (.bool true) ∧ Below w.heap.size w w' := by
  have HB0 : Hid (Below w.heap.size w (w.alloc (.cells #[.string ⟨r.name.toArray⟩, .slice A n c] 91))) := (Below.refl _ _).alloc (Nat.le_refl _) _
  have HMW := Lib.hid (hM.keep (w' := w.alloc (.cells #[.string ⟨r.name.toArray⟩, .slice A n c] 91)) fun b _ hl => Below.heap_alloc w _ b hl)
  have HR := Lib.hid hR
  have hnl := (nameB_len hR.1).2
  have HT := Lib.hid (heap_alloc_new w (.cells #[.string ⟨r.name.toArray⟩, .slice A n c] 91))
  clear hM hR
  go_enter Try.func54, Try.ntmps54
  go_wp2_with fail
  generalize w.alloc (.cells #[.string ⟨r.name.toArray⟩, .slice A n c] 91) = W at *
  refine (name_any r.name _ (by omega)).mono ?_
  rintro e w1 ⟨rfl, hb1⟩
  rw [HR.out.1]
  have hT1 := (hb1.block _ (lt_of_block HT.out)).trans HT.out
  have x0 := cell_of_row w1 w.heap.size 0 _ _ _ hT1
  have x1 : w1.cell? ⟨w.heap.size, 1, none⟩ = some (.slice A n c) := by rw [cell_of_row w1 w.heap.size 1 _ _ _ hT1]; rfl
  have HB1 := Lib.hid (below_two HB0.out hb1)
  have HM1 := Lib.hid (HMW.out.keep (w' := w1) fun b _ hl => hb1.block b hl)
  clear hT1 hb1 x0 HMW
  cases hi : r.idx with
  | none =>
    have hn : n = 0 := by have h := HM1.out; rw [hi] at h; exact h
    subst hn
    clear hi
    go_wp2_with fail
    go_ret
    exact ⟨rfl, HB1.out⟩
  | some E =>
    obtain ⟨rfl, b, off, ⟨fo, fx, fname, fA, fl, fc⟩, rfl, -, ⟨a0, a1, a2, a3⟩, hE⟩ := (by have h := HM1.out; rw [hi] at h; exact h : n = 1 ∧ ∃ b off f, A = some ⟨b, off, none⟩ ∧ True ∧ EFat w1 b off f ∧ ExM w1 (fun _ => True) E f)
    have HE := Lib.hid hE
    have HD := Lib.hid (HR.out.2 E hi)
    clear hi hE
    dsimp only at a0 a1 a2 a3
    go_wp2_with fail
    refine (refValid_any _ E fo fx fname fA fl fc HE.out HD.out.b (by have := HD.out.ht; omega)).mono ?_
    rintro e w2 ⟨rfl, hb2⟩
    rw [HD.out.valid (by decide)]
    have HB2 := Lib.hid (below_two HB1.out hb2)
    clear hb2
    go_wp2_with fail
    go_ret
    exact ⟨rfl, HB2.out⟩
end Go.Proofs.Ytlnbmmgbfgmboaa
