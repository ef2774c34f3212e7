/- What pieces of package expr returns, for expressions with numbers too. -/
import Derived.Test.YtbaenhcmkigfcaaDoorGJoin
import Derived.Test.YtbaenhcmkigfcaaDoorLaidPowG
namespace Go.Proofs.YtbaenhcmkigfcaaDoor
open Go.RowKit

/-- expressions that are printed, numbers too -/
inductive ExN : Ex → Prop
  | mk (op num : Int) (name : List UInt8) (args : List Ex) (hn : -9223372036854775808 ≤ num ∧ num ≤ 9223372036854775807)
      (ha : (op = 1 ∨ op = 2) ∧ args.length = 0 ∨ (op = 3 ∨ op = 4) ∧ args.length = 1 ∨ 5 ≤ op ∧ op ≤ 17 ∧ args.length = 2) (hs : ∀ i (h : i < args.length), ExN args[i]) : ExN (.mk op num name args)
theorem ExN.op {x : Ex} (h : ExN x) : 1 ≤ x.op ∧ x.op ≤ 17 := by
  cases h with
  | mk op num name args hn ha hs =>
    show 1 ≤ op ∧ op ≤ 17
    omega
theorem ExN.of_ok {x : Ex} (h : ExOk x) : ExN x := by
  induction h with
  | mk op num name args hn ha _ ih => exact .mk op num name args hn ha ih
def PcOkN (w : World) (i : Pc) : Prop := (i.x.op = 0 ∧ i.f.op = 0) ∨ (ExM w (fun _ => True) i.x i.f ∧ ExN i.x)
theorem pcStr_okN (w : World) (s : List UInt8) : PcOkN w (pcStr s) := .inl ⟨rfl, rfl⟩
/-- the pieces of a node -/
def pcsN (op num : Int) (name : List UInt8) (args : List Ex) (F : Nat → EF) : List Pc := if op = 1 then [pcStr (numText num)] else pcsOf op name args F
theorem pcsN_of (op num : Int) (name : List UInt8) (args : List Ex) (F : Nat → EF) (h : op ≠ 1) : pcsN op num name args F = pcsOf op name args F := if_neg h
theorem argPc_okN (w : World) (op : Int) (k : Nat) (x : Ex) (f : EF) (h : ExM w (fun _ => True) x f) (hg : ExN x) : ∀ i ∈ argPc op k x f, PcOkN w i := by
  intro i hi
  unfold argPc at hi
  split at hi
  · simp at hi
    rcases hi with rfl | rfl | rfl
    · exact pcStr_okN w _
    · exact .inr ⟨h, hg⟩
    · exact pcStr_okN w _
  · simp at hi
    subst hi
    exact .inr ⟨h, hg⟩

theorem pcs_allN (w : World) (op num : Int) (name : List UInt8) (args : List Ex) (F : Nat → EF) (hg : ExN (.mk op num name args)) (hs : ∀ i (h : i < args.length), ExM w (fun _ => True) args[i] (F i)) :
    pcsT (pcsN op num name args F) = exText (.mk op num name args) ∧ pcsM (pcsN op num name args F) < 8 * exCnt (.mk op num name args) ∧ (∀ i ∈ pcsN op num name args F, PcOkN w i) ∧ (pcsN op num name args F).length ≤ 7 := by
  cases hg with
  | mk _ _ _ _ hn ha hgs =>
    rw [exText_mk, exCnt_mk]
    rcases ha with ⟨rfl | rfl, h0⟩ | ⟨ho, h1⟩ | ⟨o1, o2, h2⟩
    · obtain rfl : args = [] := List.length_eq_zero_iff.1 h0
      refine ⟨?_, ?_, ?_, by simp [pcsN]⟩
      · simp [pcsN, pcsT, pcStr_T, finText]
      · simp [pcsN, pcsM, pcStr_M]
        omega
      · intro i hi
        simp [pcsN] at hi
        subst hi
        exact pcStr_okN w _
    · rw [pcsN_of _ _ _ _ _ (by decide)]
      obtain rfl : args = [] := List.length_eq_zero_iff.1 h0
      refine ⟨?_, ?_, ?_, by simp [pcsOf]⟩
      · simp [pcsOf, pcsT, pcStr_T, finText]
      · simp [pcsOf, pcsM, pcStr_M]
        omega
      · intro i hi
        simp [pcsOf] at hi
        subst hi
        exact pcStr_okN w _
    · rw [pcsN_of _ _ _ _ _ (by omega)]
      obtain ⟨a, rfl⟩ : ∃ a, args = [a] := List.length_eq_one_iff.1 h1
      have hga := hgs 0 (by simp)
      have hao : 1 ≤ a.op ∧ a.op ≤ 17 := hga.op
      have hal := argPc_len op 0 a (F 0)
      refine ⟨?_, ?_, ?_, by simp [pcsOf]; omega⟩
      · show pcsT ([pcStr _] ++ argPc op 0 a (F 0)) = _
        rw [pcsT_app, argPc_T op 0 a (F 0) (by omega) (by omega)]
        simp only [exParts_cons, exParts_nil]
        unfold finText
        rw [if_neg (by omega), if_neg (by omega)]
        rcases ho with rfl | rfl <;> rfl
      · show pcsM ([pcStr _] ++ argPc op 0 a (F 0)) < _
        have := argPc_M op 0 a (F 0) (by omega)
        rw [pcsM_app]
        simp only [pcsM, pcStr_M, exCnts]
        omega
      · intro i hi
        rcases List.mem_append.1 (show i ∈ [pcStr _] ++ argPc op 0 a (F 0) from hi) with h | h
        · rw [List.mem_singleton.1 h]
          exact pcStr_okN w _
        · exact argPc_okN w op 0 a (F 0) (hs 0 (by simp)) hga i h
    · rw [pcsN_of _ _ _ _ _ (by omega)]
      obtain ⟨a, b, rfl⟩ : ∃ a b, args = [a, b] := by
        match args, h2 with
        | [a, b], _ => exact ⟨a, b, rfl⟩
      have hga := hgs 0 (by simp)
      have hgb := hgs 1 (by simp)
      have hao : 1 ≤ a.op ∧ a.op ≤ 17 := hga.op
      have hbo : 1 ≤ b.op ∧ b.op ≤ 17 := hgb.op
      have hal := argPc_len op 0 a (F 0)
      have hbl := argPc_len op 1 b (F 1)
      refine ⟨?_, ?_, ?_, by simp [pcsOf]; omega⟩
      · show pcsT ((argPc op 0 a (F 0) ++ [pcStr _]) ++ argPc op 1 b (F 1)) = _
        rw [pcsT_app, pcsT_app, argPc_T op 0 a (F 0) (by omega) (by omega), argPc_T op 1 b (F 1) (by omega) (by omega)]
        simp only [exParts_cons, exParts_nil]
        unfold finText
        rw [if_neg (by omega), if_neg (by omega), if_neg (by omega), if_neg (by omega), sign_tab op ⟨o1, o2⟩]
        simp [pcsT, pcStr_T]
      · show pcsM ((argPc op 0 a (F 0) ++ [pcStr _]) ++ argPc op 1 b (F 1)) < _
        have h3 := argPc_M op 0 a (F 0) (by omega)
        have h4 := argPc_M op 1 b (F 1) (by omega)
        rw [pcsM_app, pcsM_app]
        simp only [pcsM, pcStr_M, exCnts]
        omega
      · intro i hi
        rcases List.mem_append.1 (show i ∈ (argPc op 0 a (F 0) ++ [pcStr _]) ++ argPc op 1 b (F 1) from hi) with h | h
        · rcases List.mem_append.1 h with h | h
          · exact argPc_okN w op 0 a (F 0) (hs 0 (by simp)) hga i h
          · rw [List.mem_singleton.1 h]
            exact pcStr_okN w _
        · exact argPc_okN w op 1 b (F 1) (hs 1 (by simp)) hgb i h

set_option maxRecDepth 100000 in
set_option maxHeartbeats 1000000 in
theorem pieces1_any (w : World) (num : Int) (hn : -9223372036854775808 ≤ num ∧ num ≤ 9223372036854775807) (name : List UInt8) (A : Option Addr) (n c : Nat) (hP : PwT w) :
    Calls Tryd.prog 54 #[.agg #[.int .i64 1, .int .i64 num, .string ⟨name.toArray⟩, .slice A n c]] w (PcPost w [pcStr (numText num)]) := by
  have hb0 : Below w.heap.size w (w.alloc (.cells #[.int .i64 1, .int .i64 num, .string ⟨name.toArray⟩, .slice A n c] 38)) := (Below.refl _ _).alloc (Nat.le_refl _) _
  have HB0 := Lib.hid hb0
  have HI := Lib.hid (fun W (hb : Below w.heap.size w W) => itoa_any num hn.1 hn.2 W (hP.later hb))
  clear hb0 hP hn
  generalize numText num = T at *
  go_enter Tryd.func54, Tryd.ntmps54
  go_wp2_with fail
  refine (HI.out _ HB0.out).mono ?_
  rintro e w1 ⟨rfl, hb1⟩
  have HB1 := Lib.hid (below_rev' hb1 HB0.out)
  clear hb1 HI
  go_wp2_with fail
  go_ret
  exact pc_lit HB1.out [pcStr T] (by simp) #[.string ⟨T.toArray⟩, .int .i64 0, .int .i64 0, .string ⟨#[]⟩, .slice none 0 0] rfl 1 rfl
theorem pieces_anyN (w : World) (op num : Int) (name : List UInt8) (args : List Ex) (A : Option Addr) (c : Nat) (F : Nat → EF) (hg : ExN (.mk op num name args)) (hal : args.length ≤ 1000000)
    (hc : ∀ i, i < args.length → ∃ b off, A = some ⟨b, off, none⟩ ∧ True ∧ EFat w b (off + i * 4) (F i)) (hs : ∀ i (h : i < args.length), ExM w (fun _ => True) args[i] (F i)) (hS : SgT w) (hP : PwT w) :
    Calls Tryd.prog 54 #[.agg #[.int .i64 op, .int .i64 num, .string ⟨name.toArray⟩, .slice A args.length c]] w (PcPost w (pcsN op num name args F)) := by
  cases hg with
  | mk _ _ _ _ hn ha hgs =>
    rcases ha with ⟨rfl | rfl, h0⟩ | ⟨ho, h1⟩ | ⟨o1, o2, h2⟩
    · obtain rfl : args = [] := List.length_eq_zero_iff.1 h0
      exact pieces1_any w num hn name A 0 c hP
    · rw [pcsN_of _ _ _ _ _ (by decide)]
      obtain rfl : args = [] := List.length_eq_zero_iff.1 h0
      exact piecesN_any w num name A 0 c
    · rw [pcsN_of _ _ _ _ _ (by omega)]
      obtain ⟨a, rfl⟩ : ∃ a, args = [a] := List.length_eq_one_iff.1 h1
      obtain ⟨k, rfl⟩ := Int.eq_ofNat_of_zero_le (show 0 ≤ op by omega)
      obtain ⟨b, off, rfl, -, hat⟩ := hc 0 (by simp)
      rw [Nat.zero_mul, Nat.add_zero] at hat
      exact piecesU_any w k num name b off 1 c a (F 0) (by omega) (by omega) (by omega) hat (hs 0 (by simp)).op_eq hS
    · rw [pcsN_of _ _ _ _ _ (by omega)]
      obtain ⟨a, b', rfl⟩ : ∃ a b, args = [a, b] := by
        match args, h2 with
        | [a, b], _ => exact ⟨a, b, rfl⟩
      obtain ⟨k, rfl⟩ := Int.eq_ofNat_of_zero_le (show 0 ≤ op by omega)
      obtain ⟨b, off, rfl, -, hat⟩ := hc 0 (by simp)
      obtain ⟨b1, off1, e1, -, hat1⟩ := hc 1 (by simp)
      injection e1 with e1
      injection e1 with e2 e3
      subst e2 e3
      rw [Nat.zero_mul, Nat.add_zero] at hat
      rw [Nat.one_mul] at hat1
      exact piecesB_any w k num name b off 2 c a b' (F 0) (F 1) (by omega) (by omega) (by omega) hat hat1 (hs 0 (by simp)).op_eq (hs 1 (by simp)).op_eq hS

end Go.Proofs.YtbaenhcmkigfcaaDoor
