/- Valid of package expr and ValidExpr of the reference answer the same for a tree that is not too great. No statement of the program is proved in this file. -/
import Derived.Test.YtbnbmibfjobacaaDoorHtLeG
import Derived.Test.YtbnbmibfjobacaaDoorGWalk
namespace Go.Proofs.YtbnbmibfjobacaaDoor
open Go.RowKit

/-- a tree that both sides may be asked about -/
structure VdOk (w : World) (K : Nat) (E : Ex) (f : EF) : Prop where
  m : ExM w (fun _ => True) E f
  i : ExI E
  b : ExB E
  c : exCnt E ≤ K
theorem VdOk.later {w w' : World} {K : Nat} {E : Ex} {f : EF} (h : VdOk w K E f) (hb : Below w.heap.size w w') : VdOk w' K E f := ⟨h.m.later hb, h.i, h.b, h.c⟩
theorem vd_of {H : Type} {w : World} {cs : List Value} {d : DataW H} {E : Ex} {f : EF} (h : OpP w cs d E f) (hk : Rows.uptoBulk d ≤ 1048576) : VdOk w 1048576 E f :=
  ⟨h.2.1, h.2.2.1, h.2.2.2.2 hk, by have := h.2.2.2.1; omega⟩
theorem valid_l (w : World) (K : Nat) (hK : K ≤ 400000000) (E : Ex) (op num : Int) (name : List UInt8) (A : Option Addr) (n c : Nat) (h : VdOk w K E ⟨op, num, name, A, n, c⟩) :
    Calls Tryd.prog 9 #[.agg #[.int .i64 op, .int .i64 num, .string ⟨name.toArray⟩, .slice A n c]] w fun e w' => e = .returned (.bool (refVB E)) ∧ Below w.heap.size w w' := by
  rw [← valid_same E h.i]
  exact valid_any w E op num name A n c h.m h.b (by have := h.c; omega)
theorem valid_r (w : World) (K : Nat) (hK : K ≤ 400000000) (E : Ex) (op num : Int) (name : List UInt8) (A : Option Addr) (n c : Nat) (h : VdOk w K E ⟨op, num, name, A, n, c⟩) :
    Calls Tryd.prog 10 #[.agg #[.int .i64 op, .int .i64 num, .string ⟨name.toArray⟩, .slice A n c]] w fun e w' => e = .returned (.bool (refVB E)) ∧ Below w.heap.size w w' :=
  refValid_any w E op num name A n c h.m h.b (by have := h.c; have := ht_cnt E; omega)

theorem cnts_bd (K : Nat) (args : List Ex) (h : ∀ i (hi : i < args.length), exCnt args[i] ≤ K) : exCnts args ≤ args.length * K := by
  induction args with
  | nil => rw [exCnts]; exact Nat.zero_le _
  | cons x r ih =>
    have h0 := h 0 (by simp)
    have h1 := ih (fun i hi => h (i + 1) (Nat.succ_lt_succ hi))
    simp only [List.getElem_cons_zero] at h0
    rw [exCnts, List.length_cons, Nat.succ_mul]
    omega
/-- a node over arguments that lie in one block -/
theorem VdOk.row {w : World} {K : Nat} (op num : Int) (name : List UInt8) (hn : -9223372036854775808 ≤ num ∧ num ≤ 9223372036854775807) (hl : name.length ≤ 9223372036854775807) (args : List Ex) (ha : args.length ≤ 3) (A : Option Addr) (c : Nat) (F : Nat → EF)
    (hat : ∀ i, i < args.length → ∃ b off, A = some ⟨b, off, none⟩ ∧ EFat w b (off + i * 4) (F i)) (h : ∀ i (hi : i < args.length), VdOk w K args[i] (F i)) : VdOk w (3 * K + 1) (.mk op num name args) ⟨op, num, name, A, args.length, c⟩ := by
  refine ⟨.mk op num name args A c F (fun i hi => ?_) (fun i hi => (h i hi).m), .mk op num name args hn (fun i hi => (h i hi).i), .mk op num name args (by omega) hl (fun i hi => (h i hi).b), ?_⟩
  · obtain ⟨b, off, e, hb⟩ := hat i hi
    exact ⟨b, off, e, trivial, hb⟩
  · have h1 := cnts_bd K args (fun i hi => (h i hi).c)
    have h2 := Nat.mul_le_mul_right K ha
    rw [exCnt_mk]
    omega
/-- one operator around an expression -/
theorem VdOk.around {w : World} {K : Nat} {E : Ex} {f : EF} (op : Int) (b off c : Nat) (hat : EFat w b off f) (h : VdOk w K E f) : VdOk w (K + 1) (.mk op 0 [] [E]) ⟨op, 0, [], some ⟨b, off, none⟩, 1, c⟩ := by
  refine ⟨.one op 0 [] b off c trivial hat h.m, .mk op 0 [] [E] (by omega) (fun i hi => ?_), .mk op 0 [] [E] (by simp) (by simp) (fun i hi => ?_), ?_⟩
  · obtain rfl : i = 0 := by simpa using hi
    exact h.i
  · obtain rfl : i = 0 := by simpa using hi
    exact h.b
  · have := h.c
    rw [exCnt_mk, exCnts, exCnts]
    omega
/-- another number, another operator or another name in the head -/
theorem VdOk.head {w : World} {K : Nat} {op num : Int} {name : List UInt8} {args : List Ex} {f : EF} (h : VdOk w K (.mk op num name args) f) (op' num' : Int) (name' : List UInt8) (hn : -9223372036854775808 ≤ num' ∧ num' ≤ 9223372036854775807) (hl : name'.length ≤ 9223372036854775807) : VdOk w K (.mk op' num' name' args) ⟨op', num', name', f.A, f.n, f.c⟩ := by
  obtain ⟨hm, hi, hb, hc⟩ := h
  cases hm with
  | mk _ _ _ _ A c F h1 h2 =>
    cases hi with
    | mk _ _ _ _ i1 i2 =>
      cases hb with
      | mk _ _ _ _ b1 b2 b3 =>
        rw [exCnt_mk] at hc
        exact ⟨.mk op' num' name' args A c F h1 h2, .mk op' num' name' args hn i2, .mk op' num' name' args b1 hl b3, by rw [exCnt_mk]; exact hc⟩

end Go.Proofs.YtbnbmibfjobacaaDoor
