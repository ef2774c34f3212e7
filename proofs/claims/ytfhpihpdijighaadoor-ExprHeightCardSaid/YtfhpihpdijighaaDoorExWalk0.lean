/- What inParentheses, added, isName, wellFormed of package expr and the functions handed to its walk return. -/
import Derived.Test.YtfhpihpdijighaaDoorExParse
import Derived.Test.YtfhpihpdijighaaDoorRefName
import Derived.Test.YtfhpihpdijighaaDoorDec
namespace Go.Proofs.YtfhpihpdijighaaDoor
open Go.RowKit

/-- is Arg number k printed in parentheses -/
def inPar (op aop : Int) (k : Nat) : Bool := decide (Ps.strD aop < Ps.strD op) || (Ps.strD aop == Ps.strD op && k == 1)
theorem below_rev' {w w1 w2 : World} (h2 : Below w1.heap.size w1 w2) (h1 : Below w.heap.size w w1) : Below w.heap.size w w2 := h1.trans (h2.mono h1.size)
theorem strengthD_below (op : Int) (w : World) : Calls Tryd.prog 49 #[.int .i64 op] w fun e w' => e = .returned (.int .i64 (Ps.strD op : Int)) ∧ Below w.heap.size w w' :=
  (strengthD_any op w).mono fun _ _ ⟨he, hw⟩ => ⟨he, hw ▸ Below.refl _ _⟩

set_option maxRecDepth 100000 in
set_option maxHeartbeats 1000000 in
theorem inPar_any (w : World) (op num : Int) (name : List UInt8) (A : Option Addr) (n c b off k : Nat) (aop : Int) (hA : A = some ⟨b, off, none⟩) (hk : k < n) (_hn : n ≤ 1000000000000) (hc : w.cell? ⟨b, off + k * 4, none⟩ = some (.int .i64 aop)) :
    Calls Tryd.prog 74 #[.agg #[.int .i64 op, .int .i64 num, .string ⟨name.toArray⟩, .slice A n c], .int .i64 (k : Int)] w fun e w' => e = .returned (.bool (inPar op aop k)) ∧ Below w.heap.size w w' := by
  subst hA
  have hbl : b < w.heap.size := World.block_lt_of_cell? _ _ hc
  have hcc : (w.alloc (.cells #[.int .i64 op, .int .i64 num, .string ⟨name.toArray⟩, .slice (some ⟨b, off, none⟩) n c] 38)).cell? ⟨b, off + k * 4, none⟩ = some (.int .i64 aop) := (World.cell?_alloc_lt _ _ _ hbl).trans hc
  have i0 : (0 : Int) ≤ (k : Int) := by omega
  have i1 : (k : Int) < (n : Int) := by omega
  go_enter Tryd.func74, Tryd.ntmps74
  go_wp2
  have hb0 : Below w.heap.size w (w.alloc (.cells #[.int .i64 op, .int .i64 num, .string ⟨name.toArray⟩, .slice (some ⟨b, off, none⟩) n c] 38)) := (Below.refl _ _).alloc (Nat.le_refl _) _
  go_region_held3 (fun w' => w'.cell? ⟨w.heap.size, 0, none⟩ = some (.int .i64 op) ∧ w'.cell? ⟨w.heap.size, 3, none⟩ = some (.slice (some ⟨b, off, none⟩) n c) ∧ w'.cell? ⟨b, off + k * 4, none⟩ = some (.int .i64 aop) ∧ Below w.heap.size w w')
    (refine ⟨?_, ?_, ?_, ?_⟩ <;> first | assumption | (simp [*]; done) | (refine Below.drew ?_; assumption))
    (first | (go_at_call 49; refine (strengthD_below _ _).mono ?_; rintro e w' ⟨rfl, hb⟩; obtain ⟨k0, k3, kc, hbw⟩ := ‹_ ∧ _ ∧ _ ∧ Below w.heap.size w _›; have r0 := cell_later hb k0; have r3 := cell_later hb k3; have rc := cell_later hb kc; have rb := below_rev' hb hbw; clear k0 k3 kc hbw hb))
  clear r0 r3 rc
  have HB := Lib.hid rb
  clear rb
  go_wp2
  all_goals
    go_ret
    refine ⟨ret_bool ?_, HB.out⟩
    rw [Bool.eq_iff_iff]
    simp [inPar]
    omega

/-- what an expression puts around its Arg number k -/
def addV (op aop : Int) (k : Nat) : Nat := (if unB op then 1 else 0) + (if inPar op aop k then 1 else 0)
set_option maxRecDepth 100000 in
set_option maxHeartbeats 1000000 in
theorem added_any (w : World) (op num : Int) (name : List UInt8) (A : Option Addr) (n c b off k : Nat) (aop : Int) (hA : A = some ⟨b, off, none⟩) (hk : k < n) (hn : n ≤ 1000000000000) (hc : w.cell? ⟨b, off + k * 4, none⟩ = some (.int .i64 aop)) :
    Calls Tryd.prog 56 #[.agg #[.int .i64 op, .int .i64 num, .string ⟨name.toArray⟩, .slice A n c], .int .i64 (k : Int)] w fun e w' => e = .returned (.int .i64 (addV op aop k : Int)) ∧ Below w.heap.size w w' := by
  have HI := Lib.hid (fun W (hb : Below w.heap.size w W) => inPar_any W op num name A n c b off k aop hA hk hn (cell_later hb hc))
  have hb0 : Below w.heap.size w (w.alloc (.cells #[.int .i64 op, .int .i64 num, .string ⟨name.toArray⟩, .slice A n c] 38)) := (Below.refl _ _).alloc (Nat.le_refl _) _
  have HB0 := Lib.hid hb0
  have HV : Hid (addV op aop k = (if unB op then 1 else 0) + (if inPar op aop k then 1 else 0)) := rfl
  clear hc hb0 hA hk hn
  go_enter Tryd.func56, Tryd.ntmps56
  go_wp2_with fail
  refine (isUnary_any op _).mono ?_
  rintro e w1 ⟨rfl, rfl⟩
  cases hu : unB op with
  | true =>
    rw [hu] at HV
    go_wp2_with fail
    refine (HI.out _ HB0.out).mono ?_
    rintro e w1 ⟨rfl, hb1⟩
    have HB1 := Lib.hid (below_rev' hb1 HB0.out)
    clear hb1
    cases hi : inPar op aop k with
    | true =>
      rw [hi] at HV
      go_wp2_with fail
      go_ret
      exact ⟨ret_int (by rw [HV.out]; rfl), HB1.out⟩
    | false =>
      rw [hi] at HV
      go_wp2_with fail
      go_ret
      exact ⟨ret_int (by rw [HV.out]; rfl), HB1.out⟩
  | false =>
    rw [hu] at HV
    go_wp2_with fail
    refine (HI.out _ HB0.out).mono ?_
    rintro e w1 ⟨rfl, hb1⟩
    have HB1 := Lib.hid (below_rev' hb1 HB0.out)
    clear hb1
    cases hi : inPar op aop k with
    | true =>
      rw [hi] at HV
      go_wp2_with fail
      go_ret
      exact ⟨ret_int (by rw [HV.out]; rfl), HB1.out⟩
    | false =>
      rw [hi] at HV
      go_wp2_with fail
      go_ret
      exact ⟨ret_int (by rw [HV.out]; rfl), HB1.out⟩

/-- is a text one name -/
def nmD (s : List UInt8) : Bool := (Tk.lex s).2.2 == 0 && (Ps.kindAt (Tk.lex s).1 0 == 1 && Ps.textAt (Tk.lex s).1 0 == s)

theorem lexLong_any (l : List UInt8) (ao : Option Addr) (cap : Nat) (w : World) (hl : 262144 < l.length) (hl2 : l.length ≤ 9223372036854775807) :
    Calls Tryd.prog 75 #[.slice ao l.length cap] w (LexPost w (Tk.lex l)) := by
  have HV : Hid (Tk.lex l = ([], 262144, 3)) := if_pos hl
  have hb0 : decide (262144 < l.length) = true := by simp; omega
  have hb1 : decide (262144 < (l.length : Int)) = true := by simp; omega
  go_enter Tryd.func75, Tryd.ntmps75
  go_wp2
  go_ret3
  rw [HV.out]
  exact ⟨_, rfl, World.ownsRow_nil _ _ _ _, Below.refl _ _⟩
theorem lexAll_any (l : List UInt8) (ao : Option Addr) (cap : Nat) (w : World) (hB : Byt w ao l) (hl : l.length ≤ 9223372036854775807) (hcap : l.length ≤ cap) :
    Calls Tryd.prog 75 #[.slice ao l.length cap] w (LexPost w (Tk.lex l)) := by
  by_cases h : l.length ≤ 262144
  · exact lex_any l ao cap w hB h hcap
  · exact lexLong_any l ao cap w (by omega) hl

theorem lexGo_ne (f : Nat) (l : List UInt8) (k : Nat) (acc : List Tk.Tok) (hf : 0 < f) (h : l.length - k < f) : (Tk.lexGo f l k acc).2.2 = 0 → (Tk.lexGo f l k acc).1 ≠ [] := by
  induction f generalizing k acc with
  | zero => omega
  | succ f ih =>
    rw [Tk.lexGo]
    split
    · intro _; simp
    · rename_i hk
      split
      · rename_i e he
        intro h0
        have := tok_err l k e he
        simp at h0
        omega
      · rename_i t ht
        split
        · intro h0; simp at h0
        · have h1 := tok_ok l k t (by omega) ht
          have h2 : k + t.text.length ≤ Tk.skipTo l (k + t.text.length) := by unfold Tk.skipTo; omega
          exact ih _ _ (by omega) (by omega)
theorem lex_ne (l : List UInt8) (h : (Tk.lex l).2.2 = 0) : 0 < (Tk.lex l).1.length := by
  unfold Tk.lex at h ⊢
  split at h
  · simp at h
  · rename_i hl
    rw [if_neg hl]
    have h1 : Tk.skipTo l 0 ≤ l.length := Tk.skipTo_le l 0 (Nat.zero_le _)
    have := lexGo_ne (l.length + 1) l (Tk.skipTo l 0) [] (by omega) (by omega) h
    exact List.length_pos_iff.2 this

set_option maxRecDepth 100000 in
set_option maxHeartbeats 1000000 in
theorem isName_any (s : List UInt8) (w : World) (hl : s.length ≤ 9223372036854775807) :
    Calls Tryd.prog 57 #[.string ⟨s.toArray⟩] w fun e w' => e = .returned (.bool (nmD s)) ∧ Below w.heap.size w w' := by
  obtain ⟨c, W1, hrun, hB, hcap, hb1⟩ := conv_bytes s w
  have HX := Lib.hid (lexAll_any s (some ⟨w.heap.size, 0, none⟩) c W1 hB hl hcap)
  have HB1 := Lib.hid hb1
  clear hB hb1
  have HN := Lib.hid (lex_ne s)
  have HV : Hid (nmD s = ((Tk.lex s).2.2 == 0 && (Ps.kindAt (Tk.lex s).1 0 == 1 && Ps.textAt (Tk.lex s).1 0 == s))) := rfl
  go_enter Tryd.func57, Tryd.ntmps57
  go_wp2_with fail
  refine HX.out.mono ?_
  rintro e w2 hpost
  obtain ⟨A, c2, rfl, hT, hb2⟩ := lexPost_open hpost
  clear hpost hrun
  have HT := Lib.hid hT
  have HB2 := Lib.hid (below_rev' hb2 HB1.out)
  clear hT hb2
  generalize Tk.lex s = L at *
  by_cases h0 : L.2.2 = 0
  · have hpos : 0 < L.1.length := HN.out h0
    obtain ⟨b, rfl, q0, q1, -, -⟩ := HT.out 0 hpos
    have ek : Ps.kindAt L.1 0 = L.1[0].kind := by unfold Ps.kindAt; rw [List.getElem?_eq_getElem hpos]
    have et : Ps.textAt L.1 0 = L.1[0].text := by unfold Ps.textAt; rw [List.getElem?_eq_getElem hpos]
    rw [Nat.zero_mul, ← ek] at q0
    rw [Nat.zero_mul, Nat.zero_add, ← et] at q1
    have t0 := bT (show ((L.2.2 : Nat) : Int) = 0 by omega)
    have HV2 : Hid (nmD s = (Ps.kindAt L.1 0 == 1 && Ps.textAt L.1 0 == s)) := by rw [HV.out, h0]; rfl
    have hp1 : (0 : Int) < (L.1.length : Int) := by omega
    clear h0 ek et HV
    generalize Ps.kindAt L.1 0 = K at *
    generalize Ps.textAt L.1 0 = T at *
    by_cases h1 : K = 1
    · have t1 := bT (show ((K : Nat) : Int) = 1 by omega)
      have HV3 : Hid (nmD s = (T == s)) := by rw [HV2.out, h1]; rfl
      clear h1
      go_wp2_with fail
      all_goals
        go_ret
        exact ⟨ret_bool HV3.out.symm, HB2.out⟩
    · have t1 := bF (show ((K : Nat) : Int) ≠ 1 by omega)
      have HV3 : Hid (nmD s = false) := by rw [HV2.out, beq_eq_false_iff_ne.2 h1]; rfl
      clear h1
      go_wp2_with fail
      go_ret
      exact ⟨ret_bool HV3.out.symm, HB2.out⟩
  · have t0 := bF (show ((L.2.2 : Nat) : Int) ≠ 0 by omega)
    have HV2 : Hid (nmD s = false) := by rw [HV.out, beq_eq_false_iff_ne.2 h0]; rfl
    clear h0
    go_wp2_with fail
    go_ret
    exact ⟨ret_bool HV2.out.symm, HB2.out⟩

end Go.Proofs.YtfhpihpdijighaaDoor
