/- What pieces of package expr returns, and that its pieces make up the text. -/
import Derived.Test.YtfhpihpdijighaaDoorExJoin1
namespace Go.Proofs.YtfhpihpdijighaaDoor
open Go.RowKit

theorem inPar_inner (op aop : Int) (k : Nat) (h : 1 ≤ op ∧ op ≤ 17) (h' : 1 ≤ aop ∧ aop ≤ 17) : innerV op aop k = inPar op aop k := by
  have e1 : Ps.strD op = strV op + 1 := if_pos h
  have e2 : Ps.strD aop = strV aop + 1 := if_pos h'
  unfold innerV inPar
  rw [e1, e2, Bool.eq_iff_iff]
  simp
theorem argPc_T (op : Int) (k : Nat) (x : Ex) (f : EF) (h : 1 ≤ op ∧ op ≤ 17) (h' : 1 ≤ x.op ∧ x.op ≤ 17) : pcsT (argPc op k x f) = partText op k x := by
  have hx : ∀ t, pcT ⟨t, x, f⟩ = exText x := fun t => if_neg (by show ¬ x.op = 0; omega)
  unfold argPc partText
  rw [inPar_inner op x.op k h h']
  split
  · show pcT (pcStr [40]) ++ (pcT ⟨[], x, f⟩ ++ (pcT (pcStr [41]) ++ [])) = _
    rw [hx]
    simp [pcStr_T]
  · show pcT ⟨[], x, f⟩ ++ [] = _
    rw [hx]
    simp
theorem argPc_M (op : Int) (k : Nat) (x : Ex) (f : EF) (h' : 1 ≤ x.op) : pcsM (argPc op k x f) ≤ 8 * exCnt x + 2 := by
  have hx : ∀ t, pcM ⟨t, x, f⟩ = 8 * exCnt x := fun t => if_neg (by show ¬ x.op = 0; omega)
  unfold argPc
  split
  · show pcM (pcStr [40]) + (pcM ⟨[], x, f⟩ + (pcM (pcStr [41]) + 0)) ≤ _
    rw [hx, pcStr_M, pcStr_M]
    omega
  · show pcM ⟨[], x, f⟩ + 0 ≤ _
    rw [hx]
    omega
theorem argPc_ok (w : World) (op : Int) (k : Nat) (x : Ex) (f : EF) (h : ExM w (fun _ => True) x f) (hg : ExG x) : ∀ i ∈ argPc op k x f, PcOk w i := by
  intro i hi
  unfold argPc at hi
  split at hi
  · simp at hi
    rcases hi with rfl | rfl | rfl
    · exact pcStr_ok w _
    · exact .inr ⟨h, hg⟩
    · exact pcStr_ok w _
  · simp at hi
    subst hi
    exact .inr ⟨h, hg⟩
theorem sign_tab (op : Int) (h : 5 ≤ op ∧ op ≤ 17) : signOf op = some (Ps.sgTab.getD op.toNat []) := by
  have hc : op = 5 ∨ op = 6 ∨ op = 7 ∨ op = 8 ∨ op = 9 ∨ op = 10 ∨ op = 11 ∨ op = 12 ∨ op = 13 ∨ op = 14 ∨ op = 15 ∨ op = 16 ∨ op = 17 := by omega
  rcases hc with rfl | rfl | rfl | rfl | rfl | rfl | rfl | rfl | rfl | rfl | rfl | rfl | rfl <;> rfl

/-- the pieces make up the text, are fewer than the expression, and can be printed -/
theorem pcs_all (w : World) (op num : Int) (name : List UInt8) (args : List Ex) (F : Nat → EF) (hg : ExG (.mk op num name args)) (hs : ∀ i (h : i < args.length), ExM w (fun _ => True) args[i] (F i)) :
    pcsT (pcsOf op name args F) = exText (.mk op num name args) ∧ pcsM (pcsOf op name args F) < 8 * exCnt (.mk op num name args) ∧ (∀ i ∈ pcsOf op name args F, PcOk w i) ∧ (pcsOf op name args F).length ≤ 7 := by
  cases hg with
  | mk _ _ _ _ hn ha hgs =>
    rw [exText_mk, exCnt_mk]
    rcases ha with ⟨rfl, h0⟩ | ⟨ho, h1⟩ | ⟨o1, o2, h2⟩
    · obtain rfl : args = [] := List.length_eq_zero_iff.1 h0
      refine ⟨?_, ?_, ?_, by simp [pcsOf]⟩
      · simp [pcsOf, pcsT, pcStr_T, finText]
      · simp [pcsOf, pcsM, pcStr_M]
        omega
      · intro i hi
        simp [pcsOf] at hi
        subst hi
        exact pcStr_ok w _
    · obtain ⟨a, rfl⟩ : ∃ a, args = [a] := List.length_eq_one_iff.1 h1
      have hga := hgs 0 (by simp)
      have hao : 2 ≤ a.op ∧ a.op ≤ 17 := hga.op
      have hal := argPc_len op 0 a (F 0)
      refine ⟨?_, ?_, ?_, by simp [pcsOf]; omega⟩
      · show pcsT ([pcStr _] ++ argPc op 0 a (F 0)) = _
        rw [pcsT_app, argPc_T op 0 a (F 0) (by omega) (by omega)]
        simp only [exParts_cons, exParts_nil]
        unfold finText
        rw [if_neg (by omega), if_neg (by omega)]
        rcases ho with rfl | rfl <;> rfl
      · show pcsM ([pcStr _] ++ argPc op 0 a (F 0)) < _
        have := argPc_M op 0 a (F 0) (by omega)
        rw [pcsM_app]
        simp only [pcsM, pcStr_M, exCnts]
        omega
      · intro i hi
        rcases List.mem_append.1 (show i ∈ [pcStr _] ++ argPc op 0 a (F 0) from hi) with h | h
        · rw [List.mem_singleton.1 h]
          exact pcStr_ok w _
        · exact argPc_ok w op 0 a (F 0) (hs 0 (by simp)) hga i h
    · obtain ⟨a, b, rfl⟩ : ∃ a b, args = [a, b] := by
        match args, h2 with
        | [a, b], _ => exact ⟨a, b, rfl⟩
      have hga := hgs 0 (by simp)
      have hgb := hgs 1 (by simp)
      have hao : 2 ≤ a.op ∧ a.op ≤ 17 := hga.op
      have hbo : 2 ≤ b.op ∧ b.op ≤ 17 := hgb.op
      have hal := argPc_len op 0 a (F 0)
      have hbl := argPc_len op 1 b (F 1)
      refine ⟨?_, ?_, ?_, by simp [pcsOf]; omega⟩
      · show pcsT ((argPc op 0 a (F 0) ++ [pcStr _]) ++ argPc op 1 b (F 1)) = _
        rw [pcsT_app, pcsT_app, argPc_T op 0 a (F 0) (by omega) (by omega), argPc_T op 1 b (F 1) (by omega) (by omega)]
        simp only [exParts_cons, exParts_nil]
        unfold finText
        rw [if_neg (by omega), if_neg (by omega), if_neg (by omega), if_neg (by omega), sign_tab op ⟨o1, o2⟩]
        simp [pcsT, pcStr_T]
      · show pcsM ((argPc op 0 a (F 0) ++ [pcStr _]) ++ argPc op 1 b (F 1)) < _
        have h3 := argPc_M op 0 a (F 0) (by omega)
        have h4 := argPc_M op 1 b (F 1) (by omega)
        rw [pcsM_app, pcsM_app]
        simp only [pcsM, pcStr_M, exCnts]
        omega
      · intro i hi
        rcases List.mem_append.1 (show i ∈ (argPc op 0 a (F 0) ++ [pcStr _]) ++ argPc op 1 b (F 1) from hi) with h | h
        · rcases List.mem_append.1 h with h | h
          · exact argPc_ok w op 0 a (F 0) (hs 0 (by simp)) hga i h
          · rw [List.mem_singleton.1 h]
            exact pcStr_ok w _
        · exact argPc_ok w op 1 b (F 1) (hs 1 (by simp)) hgb i h

set_option maxRecDepth 100000 in
set_option maxHeartbeats 1000000 in
theorem piecesN_any (w : World) (num : Int) (name : List UInt8) (A : Option Addr) (n c : Nat) :
    Calls Tryd.prog 51 #[.agg #[.int .i64 2, .int .i64 num, .string ⟨name.toArray⟩, .slice A n c]] w (PcPost w [pcStr name]) := by
  have hb0 : Below w.heap.size w (w.alloc (.cells #[.int .i64 2, .int .i64 num, .string ⟨name.toArray⟩, .slice A n c] 38)) := (Below.refl _ _).alloc (Nat.le_refl _) _
  have HB0 := Lib.hid hb0
  clear hb0
  go_enter Tryd.func51, Tryd.ntmps51
  go_wp2_with fail
  go_ret
  have h := pc_lit HB0.out [pcStr name] (by simp) #[.string ⟨name.toArray⟩, .int .i64 0, .int .i64 0, .string ⟨#[]⟩, .slice none 0 0] rfl 1 rfl
  rw [show (w.alloc (.cells #[.int .i64 2, .int .i64 num, .string ⟨name.toArray⟩, .slice A n c] 38)).heap.size = w.heap.size + 1 by simp] at h
  exact h
theorem pieces_any (w : World) (op num : Int) (name : List UInt8) (args : List Ex) (A : Option Addr) (c : Nat) (F : Nat → EF) (hg : ExG (.mk op num name args)) (hal : args.length ≤ 1000000)
    (hc : ∀ i, i < args.length → ∃ b off, A = some ⟨b, off, none⟩ ∧ True ∧ EFat w b (off + i * 4) (F i)) (hs : ∀ i (h : i < args.length), ExM w (fun _ => True) args[i] (F i)) (hS : SgT w) :
    Calls Tryd.prog 51 #[.agg #[.int .i64 op, .int .i64 num, .string ⟨name.toArray⟩, .slice A args.length c]] w (PcPost w (pcsOf op name args F)) := by
  cases hg with
  | mk _ _ _ _ hn ha hgs =>
    rcases ha with ⟨rfl, h0⟩ | ⟨ho, h1⟩ | ⟨o1, o2, h2⟩
    · obtain rfl : args = [] := List.length_eq_zero_iff.1 h0
      exact piecesN_any w num name A 0 c
    · obtain ⟨a, rfl⟩ : ∃ a, args = [a] := List.length_eq_one_iff.1 h1
      obtain ⟨k, rfl⟩ := Int.eq_ofNat_of_zero_le (show 0 ≤ op by omega)
      obtain ⟨b, off, rfl, -, hat⟩ := hc 0 (by simp)
      rw [Nat.zero_mul, Nat.add_zero] at hat
      exact piecesU_any w k num name b off 1 c a (F 0) (by omega) (by omega) (by omega) hat (hs 0 (by simp)).op_eq hS
    · obtain ⟨a, b', rfl⟩ : ∃ a b, args = [a, b] := by
        match args, h2 with
        | [a, b], _ => exact ⟨a, b, rfl⟩
      obtain ⟨k, rfl⟩ := Int.eq_ofNat_of_zero_le (show 0 ≤ op by omega)
      obtain ⟨b, off, rfl, -, hat⟩ := hc 0 (by simp)
      obtain ⟨b1, off1, e1, -, hat1⟩ := hc 1 (by simp)
      injection e1 with e1
      injection e1 with e2 e3
      subst e2 e3
      rw [Nat.zero_mul, Nat.add_zero] at hat
      rw [Nat.one_mul] at hat1
      exact piecesB_any w k num name b off 2 c a b' (F 0) (F 1) (by omega) (by omega) (by omega) hat hat1 (hs 0 (by simp)).op_eq (hs 1 (by simp)).op_eq hS

end Go.Proofs.YtfhpihpdijighaaDoor
