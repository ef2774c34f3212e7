/- Format of package expr and FormatExpr of the reference return the same text for any tree that is not too great. No statement of the program is proved in this file. -/
import Derived.Test.YtbaenhcmkigfcaaDoorJnN3G
import Derived.Test.YtbaenhcmkigfcaaDoorVdBothG
import Derived.Test.YtbaenhcmkigfcaaDoorGFmt
namespace Go.Proofs.YtbaenhcmkigfcaaDoor
open Go.RowKit

theorem shape_short (E : Ex) (hI : ExI E) : exShape E = true → ExNm E := by
  induction hI with
  | mk op num name args hn hs ih =>
    intro h
    rw [exShape_mk, Bool.and_eq_true] at h
    have hk := (exShapes_all args).1 h.2
    refine .mk op num name args ?_ (fun i hi => ih i hi (hk i hi))
    have hh := h.1
    unfold shapeHead at hh
    split at hh
    · simp only [Bool.and_eq_true, Bool.or_eq_true, beq_iff_eq] at hh
      rcases hh.1 with h | h
      · rw [h.2.2]; simp
      · have := h.2.2
        unfold nameB at this
        simp only [Bool.and_eq_true, decide_eq_true_eq] at this
        exact this.2.1.2
    · simp only [Bool.and_eq_true, beq_iff_eq] at hh
      rw [hh.2.2]; simp
theorem valid_parts {E : Ex} (hI : ExI E) (h : refVB E = true) : ExOk E ∧ exV E 0 = true ∧ (exText E).length ≤ 40 * exCnt E := by
  have h' := h
  unfold refVB at h'
  rw [Bool.and_eq_true] at h'
  have hO := shape_ok E hI h'.1
  exact ⟨hO, (valid_same E hI).trans h, text_len E hO (shape_short E hI h'.1)⟩

set_option maxRecDepth 100000 in
set_option maxHeartbeats 1000000 in
theorem format_bad (w : World) (E : Ex) (op num : Int) (name : List UInt8) (A : Option Addr) (n c : Nat) (hM : ExM w (fun _ => True) E ⟨op, num, name, A, n, c⟩) (hB : ExB E) (hV : exV E 0 = false) (hC : exCnt E ≤ 1000000000) :
    Calls Tryd.prog 18 #[.agg #[.int .i64 op, .int .i64 num, .string ⟨name.toArray⟩, .slice A n c]] w fun e w' => e = .returned (.string ⟨#[]⟩) ∧ Below w.heap.size w w' := by
  have hb0 : Below w.heap.size w (w.alloc (.cells #[.int .i64 op, .int .i64 num, .string ⟨name.toArray⟩, .slice A n c] 38)) := (Below.refl _ _).alloc (Nat.le_refl _) _
  have HV := Lib.hid (valid_any _ E op num name A n c (hM.later hb0) hB (by omega))
  have HB0 := Lib.hid hb0
  have HVV := Lib.hid hV
  clear hM hB hC hb0 hV
  go_enter Tryd.func18, Tryd.ntmps18
  go_wp2_with fail
  refine HV.out.mono ?_
  rintro e w1 ⟨rfl, hb1⟩
  rw [HVV.out]
  have HB1 := Lib.hid (below_rev' hb1 HB0.out)
  clear hb1
  go_wp2_with fail
  go_ret
  exact ⟨rfl, HB1.out⟩

set_option maxRecDepth 100000 in
set_option maxHeartbeats 1000000 in
theorem refFormat_bad (w : World) (E : Ex) (op num : Int) (name : List UInt8) (A : Option Addr) (n c : Nat) (hM : ExM w (fun _ => True) E ⟨op, num, name, A, n, c⟩) (hB : ExB E) (hH : exHt E ≤ 1000000000) (hv : refVB E = false) :
    Calls Tryd.prog 19 #[.agg #[.int .i64 op, .int .i64 num, .string ⟨name.toArray⟩, .slice A n c]] w fun e w' => e = .returned (.string ⟨#[]⟩) ∧ Below w.heap.size w w' := by
  have hb0 : Below w.heap.size w (w.alloc (.cells #[.int .i64 op, .int .i64 num, .string ⟨name.toArray⟩, .slice A n c] 38)) := (Below.refl _ _).alloc (Nat.le_refl _) _
  have HV := Lib.hid (refValid_any _ E op num name A n c (hM.later hb0) hB hH)
  have HB0 := Lib.hid hb0
  have HVV := Lib.hid hv
  clear hM hB hH hb0 hv
  go_enter Tryd.func19, Tryd.ntmps19
  go_wp2_with fail
  refine HV.out.mono ?_
  rintro e w1 ⟨rfl, hb1⟩
  rw [HVV.out]
  have HB1 := Lib.hid (below_rev' hb1 HB0.out)
  clear hb1
  go_wp2_with fail
  go_ret
  exact ⟨rfl, HB1.out⟩

/-- Format of package expr -/
theorem format_l (w : World) (K : Nat) (hK : K ≤ 20000000) (E : Ex) (op num : Int) (name : List UInt8) (A : Option Addr) (n c : Nat) (h : VdOk w K E ⟨op, num, name, A, n, c⟩) (hS : SgT w) (hP : PwT w) :
    Calls Tryd.prog 18 #[.agg #[.int .i64 op, .int .i64 num, .string ⟨name.toArray⟩, .slice A n c]] w fun e w' => e = .returned (.string ⟨(refFT E).toArray⟩) ∧ Below w.heap.size w w' := by
  have hc := h.c
  unfold refFT
  cases hv : refVB E with
  | true =>
    obtain ⟨h1, h2, h3⟩ := valid_parts h.i hv
    exact format_anyN w E op num name A n c h.m h.b (.of_ok h1) h2 (by omega) (by omega) hS hP
  | false => exact format_bad w E op num name A n c h.m h.b ((valid_same E h.i).trans hv) (by omega)
/-- FormatExpr of the reference -/
theorem format_r (w : World) (K : Nat) (hK : K ≤ 20000000) (E : Ex) (op num : Int) (name : List UInt8) (A : Option Addr) (n c : Nat) (h : VdOk w K E ⟨op, num, name, A, n, c⟩) :
    Calls Tryd.prog 19 #[.agg #[.int .i64 op, .int .i64 num, .string ⟨name.toArray⟩, .slice A n c]] w fun e w' => e = .returned (.string ⟨(refFT E).toArray⟩) ∧ Below w.heap.size w w' := by
  have hc := h.c
  have hh := ht_cnt E
  cases hv : refVB E with
  | true =>
    obtain ⟨h1, h2, h3⟩ := valid_parts h.i hv
    exact refFormat_any w E op num name A n c h.m h.b (by omega) h1 (by omega)
  | false =>
    unfold refFT
    rw [hv]
    exact refFormat_bad w E op num name A n c h.m h.b (by omega) hv

end Go.Proofs.YtbaenhcmkigfcaaDoor
