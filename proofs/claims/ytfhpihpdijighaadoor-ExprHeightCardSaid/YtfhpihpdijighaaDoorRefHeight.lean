/- What Height of the reference returns: the plain function exHt. -/
import Derived.Test.YtfhpihpdijighaaDoorRefText
namespace Go.Proofs.YtfhpihpdijighaaDoor
open Go.RowKit

mutual
def exHt : Ex → Nat
  | .mk op _ _ args => exHts op 0 args 0 + (if strV op = 5 then 1 else 0)
def exHts (op : Int) : Nat → List Ex → Nat → Nat
  | _, [], h => h
  | k, e :: r, h => exHts op (k + 1) r (max h (exHt e + (if innerV op e.op k then 1 else 0)))
end
def htPart (op : Int) (k : Nat) (e : Ex) : Nat := exHt e + (if innerV op e.op k then 1 else 0)
theorem exHt_mk (op num : Int) (name : List UInt8) (args : List Ex) : exHt (.mk op num name args) = exHts op 0 args 0 + (if strV op = 5 then 1 else 0) := by rw [exHt]
theorem exHts_cons (op : Int) (k : Nat) (e : Ex) (r : List Ex) (h : Nat) : exHts op k (e :: r) h = exHts op (k + 1) r (max h (htPart op k e)) := by rw [exHts, htPart]
theorem exHts_nil (op : Int) (k h : Nat) : exHts op k [] h = h := by rw [exHts]
theorem exHts_snoc (op : Int) (k : Nat) (args : List Ex) (m h : Nat) (hm : m < args.length) : exHts op k (args.take (m + 1)) h = max (exHts op k (args.take m) h) (htPart op (k + m) args[m]) := by
  induction args generalizing k m h with
  | nil => simp at hm
  | cons e r ih =>
    cases m with
    | zero => simp [exHts_cons, exHts_nil]
    | succ m =>
      have := ih (k + 1) m (max h (htPart op k e)) (by simpa using hm)
      rw [List.take_succ_cons, List.take_succ_cons, exHts_cons, exHts_cons, this]
      congr 2
      omega
theorem exHts_ge (op : Int) (k : Nat) (args : List Ex) (h : Nat) : h ≤ exHts op k args h := by
  induction args generalizing k h with
  | nil => rw [exHts_nil]; exact Nat.le_refl _
  | cons e r ih =>
    rw [exHts_cons]
    exact Nat.le_trans (Nat.le_max_left _ _) (ih _ _)
theorem exHts_take (op : Int) (k : Nat) (args : List Ex) (m h : Nat) : exHts op k (args.take m) h ≤ exHts op k args h := by
  induction args generalizing k m h with
  | nil => simp
  | cons e r ih =>
    cases m with
    | zero => rw [List.take_zero, exHts_nil]; exact exHts_ge _ _ _ _
    | succ m => rw [List.take_succ_cons, exHts_cons, exHts_cons]; exact ih _ _ _
theorem exHts_part (op : Int) (args : List Ex) (m : Nat) (hm : m < args.length) : htPart op m args[m] ≤ exHts op 0 args 0 := by
  have h1 := exHts_snoc op 0 args m 0 hm
  have h2 := exHts_take op 0 args (m + 1) 0
  rw [Nat.zero_add] at h1
  omega

/-- expressions with lists of Args that can be counted -/
inductive ExB : Ex → Prop
  | mk (op num : Int) (name : List UInt8) (args : List Ex) (hl : args.length ≤ 1000000) (hn : name.length ≤ 9223372036854775807) (hs : ∀ i (h : i < args.length), ExB args[i]) : ExB (.mk op num name args)

set_option maxRecDepth 100000 in
set_option maxHeartbeats 4000000 in
theorem height_fuel (N : Nat) : ∀ (E : Ex) (op num : Int) (name : List UInt8) (A : Option Addr) (n c : Nat) (w : World), SizeOf.sizeOf E < N → ExB E → exHt E ≤ 1000000000 → ExM w (fun _ => True) E ⟨op, num, name, A, n, c⟩ →
    Calls Tryd.prog 24 #[.agg #[.int .i64 op, .int .i64 num, .string ⟨name.toArray⟩, .slice A n c]] w fun e w' => e = .returned (.int .i64 (exHt E : Int)) ∧ Below w.heap.size w w' := by
  induction N with
  | zero => intro E op num name A n c w h; omega
  | succ N ih =>
    intro E op num name A n c w hN hok hlen hM
    have IH := Lib.hid ih
    clear ih
    cases hM with
    | mk _ _ _ args _ _ F hc hs =>
    have HC := Lib.hid hc
    have HS := Lib.hid hs
    have hsz := fun i h => size_arg op num name args i h
    have HSZ := Lib.hid hsz
    have HTX := Lib.hid (exHt_mk op num name args)
    have HLEN : Hid (exHts op 0 args 0 ≤ 1000000000) := by rw [exHt_mk] at hlen; show _ ≤ _; omega
    have hal : args.length ≤ 1000000 := by
      cases hok with
      | mk _ _ _ _ hl hn hs => exact hl
    have HIO : Hid (∀ i (h : i < args.length), ExB args[i]) := by
      cases hok with
      | mk _ _ _ _ hl hn hs => exact hs
    clear hok hlen hc hs hsz
    have hb0 : Below w.heap.size w (w.alloc (.cells #[.int .i64 op, .int .i64 num, .string ⟨name.toArray⟩, .slice A args.length c] 38)) := (Below.refl _ _).alloc (Nat.le_refl _) _
    have HB0 := Lib.hid hb0
    clear hb0
    go_enter Tryd.func24, Tryd.ntmps24
    go_wp2_with fail
    go_loopw [3, 4, 5] (fun v i _ wr => ∃ k h : Nat, k ≤ args.length ∧ i = .int .i64 k ∧ v = .int .i64 h ∧ h ≤ 1000000000 ∧ Hid (h = exHts op 0 (args.take k) 0) ∧ Below (w.alloc (.cells #[.int .i64 op, .int .i64 num, .string ⟨name.toArray⟩, .slice A args.length c] 38)).heap.size (w.alloc (.cells #[.int .i64 op, .int .i64 num, .string ⟨name.toArray⟩, .slice A args.length c] 38)) wr)
      (fun _ i _ _ => args.length - (intOf i).toNat)
    case atStart => exact ⟨0, 0, Nat.zero_le _, rfl, rfl, by omega, by rw [List.take_zero, exHts_nil]; rfl, Below.refl _ _⟩
    case round =>
      obtain ⟨k, h, hk, rfl, rfl, hh, hrel, hbel⟩ := hrel
      obtain ⟨q0, q1, q2, q3, f0, f1, f2, f3, hz⟩ := four_later hbel
      have HBE := Lib.hid hbel
      have HBW := Lib.hid (below_two HB0.out hbel)
      clear hbel f0 f1 f2 f3
      by_cases hlt : k < args.length
      · obtain ⟨b, off, rfl, -, hat⟩ := HC.out k hlt
        have hat1 := hat.keep (HBW.out.block b hat.lt)
        obtain ⟨a0, a1, a2, a3⟩ := hat1
        have HCH := Lib.hid ((HS.out k hlt).later HBW.out)
        have hopq : Hid ((F k).op = args[k].op) := (HS.out k hlt).op_eq
        have hpt : htPart op k args[k] = exHt args[k] + (if innerV op args[k].op k then 1 else 0) := rfl
        have hpl := exHts_part op args k hlt
        have hTl : exHt args[k] ≤ 1000000000 := by have := HLEN.out; omega
        have hpl2 : htPart op k args[k] ≤ 1000000000 := by have := HLEN.out; omega
        have HSN := Lib.hid (exHts_snoc op 0 args k 0 hlt)
        rw [← hopq.out] at hpt
        have HPT0 := Lib.hid hpt
        clear hpt hpl
        go_wp2_with fail
        refine (IH.out args[k] (F k).op (F k).num (F k).name (F k).A (F k).n (F k).c wr (by have := HSZ.out k hlt; omega) (HIO.out k hlt) hTl HCH.out).mono ?_
        rintro e w1 ⟨rfl, hb1⟩
        have q0' := cell_later hb1 q0
        have q1' := cell_later hb1 q1
        have q2' := cell_later hb1 q2
        have q3' := cell_later hb1 q3
        have a0' := cell_later hb1 a0
        have HB1 := Lib.hid hb1
        clear hb1 q0 q1 q2 q3 a0 a1 a2 a3
        generalize exHt args[k] = T at *
        go_wp2_with fail
        refine (inner_agg w1 op num name _ args.length c b off k (F k).op rfl hlt (by omega) a0').mono ?_
        rintro e w2 ⟨rfl, hb2⟩
        have HBX := Lib.hid (below_two HB1.out hb2)
        have HBN : Hid (Below (w.alloc (.cells #[.int .i64 op, .int .i64 num, .string ⟨name.toArray⟩, .slice (some ⟨b, off, none⟩) args.length c] 38)).heap.size (w.alloc (.cells #[.int .i64 op, .int .i64 num, .string ⟨name.toArray⟩, .slice (some ⟨b, off, none⟩) args.length c] 38)) w2) := below_two HBE.out HBX.out
        clear hb2 q0' q1' q2' q3' a0'
        by_cases hin : innerV op (F k).op k = true
        · have HPT : Hid (htPart op k args[k] = T + 1) := by rw [HPT0.out, if_pos hin]; rfl
          have hTT : T + 1 ≤ 1000000000 := by have := HPT.out; omega
          clear HPT0
          go_wp2_with fail
          go_roundw
          case rel =>
            refine ⟨k + 1, max h (T + 1), by omega, by go_num, ?_, by omega, ?_, HBN.out⟩
            · congr 1
              omega
            · show _ = _
              rw [HSN.out, Nat.zero_add, HPT.out, ← hrel.out]
          case measure => simp [intOf]; omega
        · have hin' : innerV op (F k).op k = false := by simpa using hin
          have HPT : Hid (htPart op k args[k] = T) := by rw [HPT0.out, if_neg hin]; rfl
          clear HPT0 hin
          go_wp2_with fail
          go_roundw
          case rel =>
            refine ⟨k + 1, max h (T), by omega, by go_num, ?_, by omega, ?_, HBN.out⟩
            · congr 1
              omega
            · show _ = _
              rw [HSN.out, Nat.zero_add, HPT.out, ← hrel.out]
          case measure => simp [intOf]; omega
      · have hke : Hid (args.take k = args) := List.take_of_length_le (by omega)
        go_wp2_with fail
        refine (strength_any op wr).mono ?_
        rintro e w1 ⟨rfl, hb1⟩
        have HB1 := Lib.hid (below_two HBW.out hb1)
        clear hb1 q1 q2 q3 q0
        by_cases h5 : strV op = 5
        · have t5 := bT (show ((strV op : Nat) : Int) = 5 by omega)
          have HF : Hid (exHt (.mk op num name args) = h + 1) := by rw [HTX.out, if_pos h5, hrel.out, hke.out]; rfl
          clear h5
          go_wp2_with fail
          go_ret
          exact ⟨ret_int (by rw [HF.out]; omega), HB1.out⟩
        · have t5 := bF (show ((strV op : Nat) : Int) ≠ 5 by omega)
          have HF : Hid (exHt (.mk op num name args) = h) := by rw [HTX.out, if_neg h5, hrel.out, hke.out]; rfl
          clear h5
          go_wp2_with fail
          go_ret
          exact ⟨ret_int (by rw [HF.out]), HB1.out⟩

end Go.Proofs.YtfhpihpdijighaaDoor
