/- What inParentheses, added, isName, wellFormed of package expr and the functions handed to its walk return. What wellFormed of package expr and the functions handed to its walk return. Plain functions on expressions: what Valid and Height of package expr answer, and lists of parts that are still to be visited. No statement of the program is proved in this file. What walk of package expr returns for the function that Valid hands to it. What walk of package expr returns for the function that Height hands to it, and what Height and Valid return. -/
import Derived.Test.YtbnbmibfjobacaaDoorGPar
import Derived.Test.YtbnbmibfjobacaaDoorGTxt
import Derived.Test.YtbnbmibfjobacaaDoorGNum
import Derived.Deep.LoopGhost
import Derived.Deep.AppendLies
import Derived.IntWalk
namespace Go.Proofs.YtbnbmibfjobacaaDoor
open Go.RowKit

/-- is Arg number k printed in parentheses -/
def inPar (op aop : Int) (k : Nat) : Bool := decide (Ps.strD aop < Ps.strD op) || (Ps.strD aop == Ps.strD op && k == 1)
theorem below_rev' {w w1 w2 : World} (h2 : Below w1.heap.size w1 w2) (h1 : Below w.heap.size w w1) : Below w.heap.size w w2 := h1.trans (h2.mono h1.size)
theorem strengthD_below (op : Int) (w : World) : Calls Tryd.prog 73 #[.int .i64 op] w fun e w' => e = .returned (.int .i64 (Ps.strD op : Int)) ∧ Below w.heap.size w w' :=
  (strengthD_any op w).mono fun _ _ ⟨he, hw⟩ => ⟨he, hw ▸ Below.refl _ _⟩

set_option maxRecDepth 100000 in
set_option maxHeartbeats 1000000 in
theorem inPar_any (w : World) (op num : Int) (name : List UInt8) (A : Option Addr) (n c b off k : Nat) (aop : Int) (hA : A = some ⟨b, off, none⟩) (hk : k < n) (_hn : n ≤ 1000000000000) (hc : w.cell? ⟨b, off + k * 4, none⟩ = some (.int .i64 aop)) :
    Calls Tryd.prog 65 #[.agg #[.int .i64 op, .int .i64 num, .string ⟨name.toArray⟩, .slice A n c], .int .i64 (k : Int)] w fun e w' => e = .returned (.bool (inPar op aop k)) ∧ Below w.heap.size w w' := by
  subst hA
  have hbl : b < w.heap.size := World.block_lt_of_cell? _ _ hc
  have hcc : (w.alloc (.cells #[.int .i64 op, .int .i64 num, .string ⟨name.toArray⟩, .slice (some ⟨b, off, none⟩) n c] 25)).cell? ⟨b, off + k * 4, none⟩ = some (.int .i64 aop) := (World.cell?_alloc_lt _ _ _ hbl).trans hc
  have i0 : (0 : Int) ≤ (k : Int) := by omega
  have i1 : (k : Int) < (n : Int) := by omega
  go_enter Tryd.func65, Tryd.ntmps65
  go_wp2
  have hb0 : Below w.heap.size w (w.alloc (.cells #[.int .i64 op, .int .i64 num, .string ⟨name.toArray⟩, .slice (some ⟨b, off, none⟩) n c] 25)) := (Below.refl _ _).alloc (Nat.le_refl _) _
  go_region_held3 (fun w' => w'.cell? ⟨w.heap.size, 0, none⟩ = some (.int .i64 op) ∧ w'.cell? ⟨w.heap.size, 3, none⟩ = some (.slice (some ⟨b, off, none⟩) n c) ∧ w'.cell? ⟨b, off + k * 4, none⟩ = some (.int .i64 aop) ∧ Below w.heap.size w w')
    (refine ⟨?_, ?_, ?_, ?_⟩ <;> first | assumption | (simp [*]; done) | (refine Below.drew ?_; assumption))
    (first | (go_at_call 73; refine (strengthD_below _ _).mono ?_; rintro e w' ⟨rfl, hb⟩; obtain ⟨k0, k3, kc, hbw⟩ := ‹_ ∧ _ ∧ _ ∧ Below w.heap.size w _›; have r0 := cell_later hb k0; have r3 := cell_later hb k3; have rc := cell_later hb kc; have rb := below_rev' hb hbw; clear k0 k3 kc hbw hb))
  clear r0 r3 rc
  have HB := Lib.hid rb
  clear rb
  go_wp2
  all_goals
    go_ret
    refine ⟨ret_bool ?_, HB.out⟩
    rw [Bool.eq_iff_iff]
    simp [inPar]
    omega

/-- what an expression puts around its Arg number k -/
def addV (op aop : Int) (k : Nat) : Nat := (if unB op then 1 else 0) + (if inPar op aop k then 1 else 0)
set_option maxRecDepth 100000 in
set_option maxHeartbeats 1000000 in
theorem added_any (w : World) (op num : Int) (name : List UInt8) (A : Option Addr) (n c b off k : Nat) (aop : Int) (hA : A = some ⟨b, off, none⟩) (hk : k < n) (hn : n ≤ 1000000000000) (hc : w.cell? ⟨b, off + k * 4, none⟩ = some (.int .i64 aop)) :
    Calls Tryd.prog 35 #[.agg #[.int .i64 op, .int .i64 num, .string ⟨name.toArray⟩, .slice A n c], .int .i64 (k : Int)] w fun e w' => e = .returned (.int .i64 (addV op aop k : Int)) ∧ Below w.heap.size w w' := by
  have HI := Lib.hid (fun W (hb : Below w.heap.size w W) => inPar_any W op num name A n c b off k aop hA hk hn (cell_later hb hc))
  have hb0 : Below w.heap.size w (w.alloc (.cells #[.int .i64 op, .int .i64 num, .string ⟨name.toArray⟩, .slice A n c] 25)) := (Below.refl _ _).alloc (Nat.le_refl _) _
  have HB0 := Lib.hid hb0
  have HV : Hid (addV op aop k = (if unB op then 1 else 0) + (if inPar op aop k then 1 else 0)) := rfl
  clear hc hb0 hA hk hn
  go_enter Tryd.func35, Tryd.ntmps35
  go_wp2_with fail
  refine (isUnary_any op _).mono ?_
  rintro e w1 ⟨rfl, rfl⟩
  cases hu : unB op with
  | true =>
    rw [hu] at HV
    go_wp2_with fail
    refine (HI.out _ HB0.out).mono ?_
    rintro e w1 ⟨rfl, hb1⟩
    have HB1 := Lib.hid (below_rev' hb1 HB0.out)
    clear hb1
    cases hi : inPar op aop k with
    | true =>
      rw [hi] at HV
      go_wp2_with fail
      go_ret
      exact ⟨ret_int (by rw [HV.out]; rfl), HB1.out⟩
    | false =>
      rw [hi] at HV
      go_wp2_with fail
      go_ret
      exact ⟨ret_int (by rw [HV.out]; rfl), HB1.out⟩
  | false =>
    rw [hu] at HV
    go_wp2_with fail
    refine (HI.out _ HB0.out).mono ?_
    rintro e w1 ⟨rfl, hb1⟩
    have HB1 := Lib.hid (below_rev' hb1 HB0.out)
    clear hb1
    cases hi : inPar op aop k with
    | true =>
      rw [hi] at HV
      go_wp2_with fail
      go_ret
      exact ⟨ret_int (by rw [HV.out]; rfl), HB1.out⟩
    | false =>
      rw [hi] at HV
      go_wp2_with fail
      go_ret
      exact ⟨ret_int (by rw [HV.out]; rfl), HB1.out⟩

/-- is a text one name -/
def nmD (s : List UInt8) : Bool := (Tk.lex s).2.2 == 0 && (Ps.kindAt (Tk.lex s).1 0 == 1 && Ps.textAt (Tk.lex s).1 0 == s)

theorem lexLong_any (l : List UInt8) (ao : Option Addr) (cap : Nat) (w : World) (hl : 262144 < l.length) (hl2 : l.length ≤ 9223372036854775807) :
    Calls Tryd.prog 31 #[.slice ao l.length cap] w (LexPost w (Tk.lex l)) := by
  have HV : Hid (Tk.lex l = ([], 262144, 3)) := if_pos hl
  have hb0 : decide (262144 < l.length) = true := by simp; omega
  have hb1 : decide (262144 < (l.length : Int)) = true := by simp; omega
  go_enter Tryd.func31, Tryd.ntmps31
  go_wp2
  go_ret3
  rw [HV.out]
  exact ⟨_, rfl, World.ownsRow_nil _ _ _ _, Below.refl _ _⟩
theorem lexAll_any (l : List UInt8) (ao : Option Addr) (cap : Nat) (w : World) (hB : Byt w ao l) (hl : l.length ≤ 9223372036854775807) (hcap : l.length ≤ cap) :
    Calls Tryd.prog 31 #[.slice ao l.length cap] w (LexPost w (Tk.lex l)) := by
  by_cases h : l.length ≤ 262144
  · exact lex_any l ao cap w hB h hcap
  · exact lexLong_any l ao cap w (by omega) hl

theorem lexGo_ne (f : Nat) (l : List UInt8) (k : Nat) (acc : List Tk.Tok) (hf : 0 < f) (h : l.length - k < f) : (Tk.lexGo f l k acc).2.2 = 0 → (Tk.lexGo f l k acc).1 ≠ [] := by
  induction f generalizing k acc with
  | zero => omega
  | succ f ih =>
    rw [Tk.lexGo]
    split
    · intro _; simp
    · rename_i hk
      split
      · rename_i e he
        intro h0
        have := tok_err l k e he
        simp at h0
        omega
      · rename_i t ht
        split
        · intro h0; simp at h0
        · have h1 := tok_ok l k t (by omega) ht
          have h2 : k + t.text.length ≤ Tk.skipTo l (k + t.text.length) := by unfold Tk.skipTo; omega
          exact ih _ _ (by omega) (by omega)
theorem lex_ne (l : List UInt8) (h : (Tk.lex l).2.2 = 0) : 0 < (Tk.lex l).1.length := by
  unfold Tk.lex at h ⊢
  split at h
  · simp at h
  · rename_i hl
    rw [if_neg hl]
    have h1 : Tk.skipTo l 0 ≤ l.length := Tk.skipTo_le l 0 (Nat.zero_le _)
    have := lexGo_ne (l.length + 1) l (Tk.skipTo l 0) [] (by omega) (by omega) h
    exact List.length_pos_iff.2 this

set_option maxRecDepth 100000 in
set_option maxHeartbeats 1000000 in
theorem isName_any (s : List UInt8) (w : World) (hl : s.length ≤ 9223372036854775807) :
    Calls Tryd.prog 36 #[.string ⟨s.toArray⟩] w fun e w' => e = .returned (.bool (nmD s)) ∧ Below w.heap.size w w' := by
  obtain ⟨c, W1, hrun, hB, hcap, hb1⟩ := conv_bytes s w
  have HX := Lib.hid (lexAll_any s (some ⟨w.heap.size, 0, none⟩) c W1 hB hl hcap)
  have HB1 := Lib.hid hb1
  clear hB hb1
  have HN := Lib.hid (lex_ne s)
  have HV : Hid (nmD s = ((Tk.lex s).2.2 == 0 && (Ps.kindAt (Tk.lex s).1 0 == 1 && Ps.textAt (Tk.lex s).1 0 == s))) := rfl
  go_enter Tryd.func36, Tryd.ntmps36
  go_wp2_with fail
  refine HX.out.mono ?_
  rintro e w2 hpost
  obtain ⟨A, c2, rfl, hT, hb2⟩ := lexPost_open hpost
  clear hpost hrun
  have HT := Lib.hid hT
  have HB2 := Lib.hid (below_rev' hb2 HB1.out)
  clear hT hb2
  generalize Tk.lex s = L at *
  by_cases h0 : L.2.2 = 0
  · have hpos : 0 < L.1.length := HN.out h0
    obtain ⟨b, rfl, q0, q1, -, -⟩ := HT.out 0 hpos
    have ek : Ps.kindAt L.1 0 = L.1[0].kind := by unfold Ps.kindAt; rw [List.getElem?_eq_getElem hpos]
    have et : Ps.textAt L.1 0 = L.1[0].text := by unfold Ps.textAt; rw [List.getElem?_eq_getElem hpos]
    rw [Nat.zero_mul, ← ek] at q0
    rw [Nat.zero_mul, Nat.zero_add, ← et] at q1
    have t0 := bT (show ((L.2.2 : Nat) : Int) = 0 by omega)
    have HV2 : Hid (nmD s = (Ps.kindAt L.1 0 == 1 && Ps.textAt L.1 0 == s)) := by rw [HV.out, h0]; rfl
    have hp1 : (0 : Int) < (L.1.length : Int) := by omega
    clear h0 ek et HV
    generalize Ps.kindAt L.1 0 = K at *
    generalize Ps.textAt L.1 0 = T at *
    by_cases h1 : K = 1
    · have t1 := bT (show ((K : Nat) : Int) = 1 by omega)
      have HV3 : Hid (nmD s = (T == s)) := by rw [HV2.out, h1]; rfl
      clear h1
      go_wp2_with fail
      all_goals
        go_ret
        exact ⟨ret_bool HV3.out.symm, HB2.out⟩
    · have t1 := bF (show ((K : Nat) : Int) ≠ 1 by omega)
      have HV3 : Hid (nmD s = false) := by rw [HV2.out, beq_eq_false_iff_ne.2 h1]; rfl
      clear h1
      go_wp2_with fail
      go_ret
      exact ⟨ret_bool HV3.out.symm, HB2.out⟩
  · have t0 := bF (show ((L.2.2 : Nat) : Int) ≠ 0 by omega)
    have HV2 : Hid (nmD s = false) := by rw [HV.out, beq_eq_false_iff_ne.2 h0]; rfl
    clear h0
    go_wp2_with fail
    go_ret
    exact ⟨ret_bool HV2.out.symm, HB2.out⟩

end Go.Proofs.YtbnbmibfjobacaaDoor

namespace Go.Proofs.YtbnbmibfjobacaaDoor
open Go.RowKit

/-- is the head of an expression with n Args as it should be -/
def nodeV (op num : Int) (name : List UInt8) (n : Nat) : Bool :=
  if op = 1 then decide (0 ≤ num) && (name == [] && n == 0)
  else if op = 2 then num == 0 && (nmD name && n == 0)
  else if unB op then num == 0 && (name == [] && n == 1)
  else if biB op then num == 0 && (name == [] && n == 2)
  else false

set_option maxRecDepth 100000 in
set_option maxHeartbeats 4000000 in
theorem wellFormed_any (w : World) (op num : Int) (name : List UInt8) (A : Option Addr) (n c : Nat) (hl : name.length ≤ 9223372036854775807) :
    Calls Tryd.prog 22 #[.agg #[.int .i64 op, .int .i64 num, .string ⟨name.toArray⟩, .slice A n c]] w fun e w' => e = .returned (.bool (nodeV op num name n)) ∧ Below w.heap.size w w' := by
  have hb0 : Below w.heap.size w (w.alloc (.cells #[.int .i64 op, .int .i64 num, .string ⟨name.toArray⟩, .slice A n c] 25)) := (Below.refl _ _).alloc (Nat.le_refl _) _
  have HB0 := Lib.hid hb0
  clear hb0
  by_cases h1 : op = 1
  · have HV : Hid (nodeV op num name n = (decide (0 ≤ num) && (name == [] && n == 0))) := if_pos h1
    have t1 := bT h1
    clear h1
    go_enter Tryd.func22, Tryd.ntmps22
    go_wp2
    all_goals
      go_ret
      refine ⟨ret_bool ?_, (Below.refl _ _).alloc (Nat.le_refl _) _⟩
      rw [HV.out, Bool.eq_iff_iff]
      simp [*]
      try omega
  · have t1 := bF h1
    by_cases h2 : op = 2
    · have HV : Hid (nodeV op num name n = (num == 0 && (nmD name && n == 0))) := by unfold nodeV; rw [if_neg h1, if_pos h2]; rfl
      have t2 := bT h2
      clear h1 h2
      by_cases hn0 : num = 0
      · have tn := bT hn0
        have HV2 : Hid (nodeV op num name n = (nmD name && n == 0)) := by rw [HV.out, hn0]; rfl
        clear hn0
        go_enter Tryd.func22, Tryd.ntmps22
        go_wp2_with fail
        refine (isName_any name _ hl).mono ?_
        rintro e w1 ⟨rfl, hb1⟩
        obtain ⟨q0, q1, q2, q3, -, -, -, -, -⟩ := blk4 ((hb1.block _ (by simp)).trans (heap_alloc_new w _))
        have HB1 := Lib.hid (below_rev' hb1 HB0.out)
        clear hb1
        cases hnm : nmD name with
        | true =>
          have HV3 : Hid (nodeV op num name n = (n == 0)) := by rw [HV2.out, hnm]; rfl
          go_wp2_with fail
          go_ret
          refine ⟨ret_bool ?_, HB1.out⟩
          rw [HV3.out, Bool.eq_iff_iff]
          simp
          try omega
        | false =>
          have HV3 : Hid (nodeV op num name n = false) := by rw [HV2.out, hnm]; rfl
          go_wp2_with fail
          go_ret
          exact ⟨ret_bool HV3.out.symm, HB1.out⟩
      · have tn := bF hn0
        have HV2 : Hid (nodeV op num name n = false) := by rw [HV.out, beq_eq_false_iff_ne.2 hn0]; rfl
        clear hn0
        go_enter Tryd.func22, Tryd.ntmps22
        go_wp2_with fail
        go_ret
        exact ⟨ret_bool HV2.out.symm, HB0.out⟩
    · have t2 := bF h2
      cases hu : unB op with
      | true =>
        have HV : Hid (nodeV op num name n = (num == 0 && (name == [] && n == 1))) := by unfold nodeV; rw [if_neg h1, if_neg h2, if_pos hu]; rfl
        have HU := Lib.hid hu
        clear h1 h2 hu
        go_enter Tryd.func22, Tryd.ntmps22
        go_wp2_with fail
        refine (isUnary_any op _).mono ?_
        rintro e w1 ⟨rfl, rfl⟩
        rw [HU.out]
        go_wp2_with fail
        all_goals
          go_ret
          refine ⟨ret_bool ?_, (Below.refl _ _).alloc (Nat.le_refl _) _⟩
          rw [HV.out, Bool.eq_iff_iff]
          simp [*]
          try omega
      | false =>
        cases hbi : biB op with
        | true =>
          have HV : Hid (nodeV op num name n = (num == 0 && (name == [] && n == 2))) := by unfold nodeV; rw [if_neg h1, if_neg h2, if_neg (by rw [hu]; decide), if_pos hbi]; rfl
          have HU := Lib.hid hu
          have HBI := Lib.hid hbi
          clear h1 h2 hu hbi
          go_enter Tryd.func22, Tryd.ntmps22
          go_wp2_with fail
          refine (isUnary_any op _).mono ?_
          rintro e w1 ⟨rfl, rfl⟩
          rw [HU.out]
          go_wp2_with fail
          refine (isBinary_any op _).mono ?_
          rintro e w1 ⟨rfl, rfl⟩
          rw [HBI.out]
          go_wp2_with fail
          all_goals
            go_ret
            refine ⟨ret_bool ?_, (Below.refl _ _).alloc (Nat.le_refl _) _⟩
            rw [HV.out, Bool.eq_iff_iff]
            simp [*]
            try omega
        | false =>
          have HV : Hid (nodeV op num name n = false) := by unfold nodeV; rw [if_neg h1, if_neg h2, if_neg (by rw [hu]; decide), if_neg (by rw [hbi]; decide)]; rfl
          have HU := Lib.hid hu
          have HBI := Lib.hid hbi
          clear h1 h2 hu hbi
          go_enter Tryd.func22, Tryd.ntmps22
          go_wp2_with fail
          refine (isUnary_any op _).mono ?_
          rintro e w1 ⟨rfl, rfl⟩
          rw [HU.out]
          go_wp2_with fail
          refine (isBinary_any op _).mono ?_
          rintro e w1 ⟨rfl, rfl⟩
          rw [HBI.out]
          go_wp2_with fail
          go_ret
          exact ⟨ret_bool HV.out.symm, HB0.out⟩

/-- what Valid asks of each part, with so much around it -/
def visV (op num : Int) (name : List UInt8) (n a : Nat) : Bool := decide (a ≤ 24) && nodeV op num name n
set_option maxRecDepth 100000 in
set_option maxHeartbeats 1000000 in
theorem visit_any (w : World) (op num : Int) (name : List UInt8) (A : Option Addr) (n c a : Nat) (hl : name.length ≤ 9223372036854775807) :
    Calls Tryd.prog 21 #[.agg #[.int .i64 op, .int .i64 num, .string ⟨name.toArray⟩, .slice A n c], .int .i64 (a : Int)] w fun e w' => e = .returned (.bool (visV op num name n a)) ∧ Below w.heap.size w w' := by
  have hb0 : Below w.heap.size w (w.alloc (.cells #[.int .i64 op, .int .i64 num, .string ⟨name.toArray⟩, .slice A n c] 25)) := (Below.refl _ _).alloc (Nat.le_refl _) _
  have HB0 := Lib.hid hb0
  clear hb0
  by_cases h : a ≤ 24
  · have HV : Hid (visV op num name n a = nodeV op num name n) := by unfold visV; rw [decide_eq_true h]; rfl
    go_enter Tryd.func21, Tryd.ntmps21
    go_wp2_with fail
    refine (wellFormed_any _ op num name A n c hl).mono ?_
    rintro e w1 ⟨rfl, hb1⟩
    have HB1 := Lib.hid (below_rev' hb1 HB0.out)
    clear hb1
    go_wp2_with fail
    go_ret
    exact ⟨ret_bool HV.out.symm, HB1.out⟩
  · have HV : Hid (visV op num name n a = false) := by unfold visV; rw [decide_eq_false h]; rfl
    go_enter Tryd.func21, Tryd.ntmps21
    go_wp2_with fail
    go_ret
    exact ⟨ret_bool HV.out.symm, HB0.out⟩

theorem hv_end {w : World} {hb : Nat} {h v : Int} (m : Int) (hh : w.heap[hb]? = some (.cells #[.int .i64 h] 3 (0, 0))) (hv : v = m) (o : Obj) :
    ((w.setCell ⟨hb, 0, none⟩ (.int .i64 v)).alloc o).heap[hb]? = some (.cells #[.int .i64 m] 3 (0, 0)) ∧ w.grownBy ((w.setCell ⟨hb, 0, none⟩ (.int .i64 v)).alloc o) (some hb) := by
  subst hv
  have hlt : hb < w.heap.size := lt_of_block hh
  constructor
  · rw [Below.heap_alloc _ _ hb (by rw [setCell_size]; exact hlt)]
    simp [World.setCell, Array.getElem?_modify, hh]
  · refine ⟨rfl, rfl, rfl, by simp [World.setCell], fun b hb' hne => ?_⟩
    rw [Below.heap_alloc _ _ b (by rw [setCell_size]; exact hb'), Below.heap_setCell _ _ _ b (by simp; exact fun e => hne (by rw [e]))]

set_option maxRecDepth 100000 in
set_option maxHeartbeats 1000000 in
theorem hvisit_any (w : World) (h op num : Int) (name : List UInt8) (A : Option Addr) (n c a hb : Nat) (hh : w.heap[hb]? = some (.cells #[.int .i64 h] 3 (0, 0))) :
    Calls Tryd.prog 45 #[.agg #[.int .i64 op, .int .i64 num, .string ⟨name.toArray⟩, .slice A n c], .int .i64 (a : Int), .pointer (some ⟨hb, 0, none⟩)] w fun e w' => e = .returned (.bool true) ∧ w'.heap[hb]? = some (.cells #[.int .i64 (max h (a : Int))] 3 (0, 0)) ∧ w.grownBy w' (some hb) := by
  have hlt : hb < w.heap.size := lt_of_block hh
  have q0 : w.cell? ⟨hb, 0, none⟩ = some (.int .i64 h) := by rw [cell_of_row w hb 0 _ _ _ hh]; rfl
  have f0 : w.frozen? ⟨hb, 0, none⟩ = false := by simp [World.frozen?, hh]
  have HH := Lib.hid hh
  clear hh
  go_enter Tryd.func45, Tryd.ntmps45
  go_wp2_with fail
  all_goals
    go_ret
    exact ⟨rfl, hv_end _ HH.out (by omega) _⟩

end Go.Proofs.YtbnbmibfjobacaaDoor

namespace Go.Proofs.YtbnbmibfjobacaaDoor
open Go.RowKit

mutual
def exCnt : Ex → Nat
  | .mk _ _ _ args => exCnts args + 1
def exCnts : List Ex → Nat
  | [] => 0
  | e :: r => exCnt e + exCnts r
end
mutual
def exV : Ex → Nat → Bool
  | .mk op num name args, a => visV op num name args.length a && exVs op a 0 args
def exVs (op : Int) (a : Nat) : Nat → List Ex → Bool
  | _, [] => true
  | k, e :: r => exV e (a + addV op e.op k) && exVs op a (k + 1) r
end
mutual
def exDm : Ex → Nat → Nat
  | .mk op _ _ args, a => max a (exDms op a 0 args)
def exDms (op : Int) (a : Nat) : Nat → List Ex → Nat
  | _, [] => 0
  | k, e :: r => max (exDm e (a + addV op e.op k)) (exDms op a (k + 1) r)
end
theorem exCnt_mk (op num : Int) (name : List UInt8) (args : List Ex) : exCnt (.mk op num name args) = exCnts args + 1 := by rw [exCnt]
theorem exV_mk (op num : Int) (name : List UInt8) (args : List Ex) (a : Nat) : exV (.mk op num name args) a = (visV op num name args.length a && exVs op a 0 args) := by rw [exV]
theorem exDm_mk (op num : Int) (name : List UInt8) (args : List Ex) (a : Nat) : exDm (.mk op num name args) a = max a (exDms op a 0 args) := by rw [exDm]

/-- a part that is to be visited: the expression, its fields, what is around it -/
structure It where
  x : Ex
  f : EF
  a : Nat
def itCells (l : List It) : List Value := l.flatMap fun i => [.int .i64 i.f.op, .int .i64 i.f.num, .string ⟨i.f.name.toArray⟩, .slice i.f.A i.f.n i.f.c, .int .i64 (i.a : Int)]
theorem itCells_snoc (l : List It) (i : It) : itCells (l ++ [i]) = itCells l ++ [.int .i64 i.f.op, .int .i64 i.f.num, .string ⟨i.f.name.toArray⟩, .slice i.f.A i.f.n i.f.c, .int .i64 (i.a : Int)] := by simp [itCells]
theorem itCells_len (l : List It) : (itCells l).length = l.length * 5 := by
  induction l with
  | nil => rfl
  | cons i r ih =>
    have : itCells (i :: r) = [.int .i64 i.f.op, .int .i64 i.f.num, .string ⟨i.f.name.toArray⟩, .slice i.f.A i.f.n i.f.c, .int .i64 (i.a : Int)] ++ itCells r := by simp [itCells]
    rw [this, List.length_append, ih]
    simp
    omega
def kidsI (op : Int) (a : Nat) (F : Nat → EF) : Nat → List Ex → List It
  | _, [] => []
  | k, e :: r => ⟨e, F k, a + addV op e.op k⟩ :: kidsI op a F (k + 1) r
theorem kidsI_len (op : Int) (a : Nat) (F : Nat → EF) (k : Nat) (args : List Ex) : (kidsI op a F k args).length = args.length := by
  induction args generalizing k with
  | nil => rfl
  | cons e r ih => rw [kidsI, List.length_cons, ih, List.length_cons]
theorem kidsI_snoc (op : Int) (a : Nat) (F : Nat → EF) (k : Nat) (args : List Ex) (m : Nat) (h : m < args.length) : kidsI op a F k (args.take (m + 1)) = kidsI op a F k (args.take m) ++ [⟨args[m], F (k + m), a + addV op args[m].op (k + m)⟩] := by
  induction args generalizing k m with
  | nil => simp at h
  | cons e r ih =>
    cases m with
    | zero => simp [kidsI]
    | succ m =>
      have := ih (k + 1) m (by simpa using h)
      rw [List.take_succ_cons, List.take_succ_cons, kidsI, kidsI, this]
      have e1 : k + 1 + m = k + (m + 1) := by omega
      rw [e1]
      simp
theorem kidsI_at (op : Int) (a : Nat) (F : Nat → EF) (k : Nat) (args : List Ex) (it : It) (h : it ∈ kidsI op a F k args) : ∃ i, ∃ hi : i < args.length, it = ⟨args[i], F (k + i), a + addV op args[i].op (k + i)⟩ := by
  induction args generalizing k with
  | nil => simp [kidsI] at h
  | cons e r ih =>
    rw [kidsI] at h
    rcases List.mem_cons.1 h with rfl | h
    · exact ⟨0, by simp, by simp⟩
    · obtain ⟨i, hi, he⟩ := ih (k + 1) h
      refine ⟨i + 1, by simpa using hi, ?_⟩
      rw [he]
      have e1 : k + 1 + i = k + (i + 1) := by omega
      rw [e1]
      simp

def vAll (l : List It) : Bool := l.all fun i => exV i.x i.a
def dMax : List It → Nat
  | [] => 0
  | i :: r => max (exDm i.x i.a) (dMax r)
def cSum : List It → Nat
  | [] => 0
  | i :: r => exCnt i.x + cSum r
theorem vAll_app (l m : List It) : vAll (l ++ m) = (vAll l && vAll m) := by simp [vAll]
theorem dMax_app (l m : List It) : dMax (l ++ m) = max (dMax l) (dMax m) := by
  induction l with
  | nil => simp [dMax]
  | cons i r ih => rw [List.cons_append, dMax, dMax, ih]; omega
theorem cSum_app (l m : List It) : cSum (l ++ m) = cSum l + cSum m := by
  induction l with
  | nil => simp [cSum]
  | cons i r ih => rw [List.cons_append, cSum, cSum, ih]; omega
theorem exVs_kids (op : Int) (a : Nat) (F : Nat → EF) (k : Nat) (args : List Ex) : exVs op a k args = vAll (kidsI op a F k args) := by
  induction args generalizing k with
  | nil => rw [exVs]; rfl
  | cons e r ih =>
    rw [exVs, kidsI, ih]
    rfl
theorem exDms_kids (op : Int) (a : Nat) (F : Nat → EF) (k : Nat) (args : List Ex) : exDms op a k args = dMax (kidsI op a F k args) := by
  induction args generalizing k with
  | nil => rw [exDms]; rfl
  | cons e r ih =>
    rw [exDms, kidsI, ih]
    rfl
theorem exCnts_kids (op : Int) (a : Nat) (F : Nat → EF) (k : Nat) (args : List Ex) : exCnts args = cSum (kidsI op a F k args) := by
  induction args generalizing k with
  | nil => rw [exCnts]; rfl
  | cons e r ih =>
    rw [exCnts, kidsI, ih (k + 1)]
    rfl
theorem exCnt_pos (x : Ex) : 0 < exCnt x := by
  cases x
  rw [exCnt]
  omega
theorem exCnts_at (args : List Ex) (i : Nat) (h : i < args.length) : exCnt args[i] ≤ exCnts args := by
  induction args generalizing i with
  | nil => simp at h
  | cons e r ih =>
    rw [exCnts]
    cases i with
    | zero => simp
    | succ i =>
      have := ih i (by simpa using h)
      simp
      omega
theorem exCnts_len (args : List Ex) : args.length ≤ exCnts args := by
  induction args with
  | nil => simp
  | cons e r ih =>
    rw [exCnts]
    have := exCnt_pos e
    simp
    omega
theorem cSum_len (l : List It) : l.length ≤ cSum l := by
  induction l with
  | nil => simp
  | cons i r ih =>
    rw [cSum]
    have := exCnt_pos i.x
    simp
    omega
theorem inPar_le (op aop : Int) (k : Nat) : addV op aop k ≤ 2 := by
  unfold addV
  split <;> split <;> omega

/-- a part that may be visited -/
def ItOk (w : World) (S : Nat → Prop) (C : Nat) (i : It) : Prop := ExM w S i.x i.f ∧ ExB i.x ∧ i.a + 2 * exCnt i.x ≤ 2 * C
theorem ItOk.kids {w : World} {S : Nat → Prop} {C : Nat} {op num : Int} {name : List UInt8} {args : List Ex} {f : EF} {a : Nat} (F : Nat → EF) (h : ItOk w S C ⟨.mk op num name args, f, a⟩) (hF : ∀ i (h : i < args.length), ExM w S args[i] (F i)) :
    ∀ it ∈ kidsI op a F 0 args, ItOk w S C it := by
  intro it hit
  obtain ⟨i, hi, rfl⟩ := kidsI_at op a F 0 args it hit
  obtain ⟨-, hB, hC⟩ := h
  dsimp only at hB hC
  have h1 := exCnts_at args i hi
  have h2 := inPar_le op args[i].op (0 + i)
  rw [exCnt_mk] at hC
  rw [Nat.zero_add] at h2
  refine ⟨by rw [Nat.zero_add]; exact hF i hi, ?_, by dsimp only; rw [Nat.zero_add]; omega⟩
  cases hB with
  | mk _ _ _ _ hl hn hs => exact hs i hi

end Go.Proofs.YtbnbmibfjobacaaDoor

namespace Go.Proofs.YtbnbmibfjobacaaDoor
open Go.RowKit

theorem Tryd.infoNst : (Tryd.prog.info? 76).map (fun i => (i.zero, i.size, i.bytes)) = some (some (.agg #[.int .i64 0, .int .i64 0, .string ⟨#[]⟩, .slice none 0 0, .int .i64 0]), 5, 64) := by kernel_rfl

/-- the list of parts lies in memory of the call's own -/
def WkRel (w : World) (C : Nat) (g : Nat) (l : List It) (v : Value) (wr : World) : Prop :=
  g = cSum l ∧ cSum l ≤ C ∧ wr.ownsRow (w.heap.size + 1) 76 5 v l.length (itCells l) ∧ (∀ i ∈ l, ItOk w (fun _ => True) C i) ∧ Below w.heap.size w wr

theorem item_cells (l : List It) (i : It) (j : Nat) (hj : j < 5) : (itCells (l ++ [i]))[l.length * 5 + j]? = [Value.int .i64 i.f.op, .int .i64 i.f.num, .string ⟨i.f.name.toArray⟩, .slice i.f.A i.f.n i.f.c, .int .i64 (i.a : Int)][j]? := by
  rw [itCells_snoc, List.getElem?_append_right (by rw [itCells_len]; omega), itCells_len]
  congr 1
  omega

theorem blk5 {w : World} {b : Nat} {c0 c1 c2 c3 c4 : Value} {t : TypeId} (h : w.heap[b]? = some (.cells #[c0, c1, c2, c3, c4] t (0, 0))) :
    w.cell? ⟨b, 0, none⟩ = some c0 ∧ w.cell? ⟨b, 1, none⟩ = some c1 ∧ w.cell? ⟨b, 2, none⟩ = some c2 ∧ w.cell? ⟨b, 3, none⟩ = some c3 ∧ w.cell? ⟨b, 4, none⟩ = some c4 := by
  refine ⟨?_, ?_, ?_, ?_, ?_⟩
  · rw [cell_of_row w b 0 _ _ _ h]; rfl
  · rw [cell_of_row w b 1 _ _ _ h]; rfl
  · rw [cell_of_row w b 2 _ _ _ h]; rfl
  · rw [cell_of_row w b 3 _ _ _ h]; rfl
  · rw [cell_of_row w b 4 _ _ _ h]; rfl
/-- what holds while the Args of a part are put on the list -/
def WkIn (w : World) (lb : Nat) (l : List It) (op num : Int) (name : List UInt8) (A : Option Addr) (args : List Ex) (c a : Nat) (F : Nat → EF) (j : Nat) (v : Value) (wx : World) : Prop :=
  j ≤ args.length ∧ wx.ownsRow (w.heap.size + 1) 76 5 v (l.length + j) (itCells (l ++ kidsI op a F 0 (args.take j))) ∧ v.ownBlock ≠ some lb ∧
    wx.heap[lb]? = some (.cells #[.int .i64 op, .int .i64 num, .string ⟨name.toArray⟩, .slice A args.length c, .int .i64 (a : Int)] 76 (0, 0)) ∧ Below w.heap.size w wx

theorem wk_step {w wr w3 w5 : World} {lb n gg : Nat} {v : Value} {o o2 L : Obj} {xs : List Value} {t : TypeId} {sz : Nat} (hL : wr.heap[lb]? = some L) (hB : Below w.heap.size w wr) (hO : wr.ownsRow (w.heap.size + 1) t sz v n xs) (h3 : Below (wr.alloc o).drew.heap.size (wr.alloc o).drew w3)
    (hg : (w3.alloc o2).grownBy w5 v.ownBlock) (hne : v.ownBlock ≠ some lb) (hat : v.ownBlock = some gg ∨ gg = w3.heap.size + 1) : some gg ≠ some lb ∧ w5.heap[lb]? = some L ∧ Below w.heap.size w w5 := by
  have hlt : lb < wr.heap.size := lt_of_block hL
  have hs : (wr.alloc o).drew.heap.size = wr.heap.size + 1 := by simp
  have h3s := h3.size
  have hbs := hB.size
  refine ⟨?_, ?_, ?_⟩
  · rcases hat with h | h
    · rw [← h]; exact hne
    · intro e
      injection e with e
      omega
  · refine (hg.block lb (by simp; omega) (fun e => hne e.symm)).trans ?_
    refine (Below.heap_alloc w3 o2 lb (by omega)).trans ?_
    refine (h3.block lb (by omega)).trans ?_
    exact (Below.heap_alloc wr o lb hlt).trans hL
  · have h4 : Below w.heap.size w w3 := below_rev' h3 ((hB.alloc hbs o).drew)
    exact (h4.alloc (by omega) o2).grown hg (by simp; omega) (fun k hk => by have := (owns_block hO k hk).1; omega)

set_option maxRecDepth 100000 in
set_option maxHeartbeats 8000000 in
theorem walkV_any (w : World) (E : Ex) (op num : Int) (name : List UInt8) (A : Option Addr) (n c : Nat) (hM : ExM w (fun _ => True) E ⟨op, num, name, A, n, c⟩) (hB : ExB E) (hC : exCnt E ≤ 100000000000) :
    Calls Tryd.prog 20 #[.agg #[.int .i64 op, .int .i64 num, .string ⟨name.toArray⟩, .slice A n c], .func (.func 21) #[] #[]] w fun e w' => e = .returned (.bool (exV E 0)) ∧ Below w.heap.size w w' := by
  obtain ⟨i0, hi, hz0, hz1, hz2⟩ := info_parts Tryd.infoNst
  have HR0 : Hid (∃ l, WkRel w (exCnt E) (exCnt E) l (.slice (some ⟨w.heap.size + 1, 0, none⟩) 1 1) ((w.alloc (.cells #[.int .i64 op, .int .i64 num, .string ⟨name.toArray⟩, .slice A n c] 25)).alloc (.cells #[.int .i64 op, .int .i64 num, .string ⟨name.toArray⟩, .slice A n c, .int .i64 0] 76)) ∧ vAll l = exV E 0) := by
    refine ⟨[⟨E, ⟨op, num, name, A, n, c⟩, 0⟩], ⟨by simp [cSum], by simp [cSum], ?_, ?_, ((Below.refl _ _).alloc (Nat.le_refl _) _).alloc (by simp) _⟩, by simp [vAll]⟩
    · have := World.ownsRow_lit (base := w.heap.size + 1) (e := 76) (size := 5) (w.alloc (.cells #[.int .i64 op, .int .i64 num, .string ⟨name.toArray⟩, .slice A n c] 25)) #[.int .i64 op, .int .i64 num, .string ⟨name.toArray⟩, .slice A n c, .int .i64 0] 1 (by simp) (by unfold maxLen; omega) (by simp)
      rw [show (w.alloc (.cells #[.int .i64 op, .int .i64 num, .string ⟨name.toArray⟩, .slice A n c] 25)).heap.size = w.heap.size + 1 by simp] at this
      exact this
    · intro i hi
      simp at hi
      subst hi
      exact ⟨hM, hB, by dsimp only; omega⟩
  have HC := Lib.hid hC
  generalize hV0 : exV E 0 = V0 at *
  generalize exCnt E = C at *
  clear hM hB hC hV0
  go_enter Tryd.func20, Tryd.ntmps20
  go_wp2_with fail
  go_loopg [5] C (fun g v wr => Hid (∃ l, WkRel w C g l v wr ∧ vAll l = V0))
  case atStart => exact HR0
  case round =>
    clear HR0
    obtain ⟨l, ⟨hg, hsum, hown, hok, hbel⟩, hvl⟩ := hrel.out
    clear hrel
    rcases List.eq_nil_or_concat l with rfl | ⟨l, it, rfl⟩
    · obtain ⟨sa, sc, rfl⟩ := owns_form hown
      have HBE := Lib.hid hbel
      have HV : Hid (true = V0) := hvl
      clear hown hok hbel hvl hsum hg
      dsimp only [List.length_nil]
      go_wp2_with fail
      go_ret
      exact ⟨ret_bool HV.out, HBE.out⟩
    · rw [List.concat_eq_append] at *
      obtain ⟨x, fi, a⟩ := it
      have hlen : (l ++ [(⟨x, fi, a⟩ : It)]).length = l.length + 1 := by simp
      rw [hlen] at hown
      obtain ⟨sa, cap, rfl⟩ := owns_form hown
      obtain ⟨gb, rfl⟩ := owns_some hown (by omega)
      have hcl := cSum_len (l ++ [(⟨x, fi, a⟩ : It)])
      rw [hlen] at hcl
      have hC := HC.out
      have q : ∀ j, j < 5 → wr.cell? ⟨gb, l.length * 5 + j, none⟩ = [Value.int .i64 fi.op, .int .i64 fi.num, .string ⟨fi.name.toArray⟩, .slice fi.A fi.n fi.c, .int .i64 (a : Int)][j]? := fun j hj => (World.ownsRow.cellAt hown _ (by omega)).trans (item_cells l ⟨x, fi, a⟩ j hj)
      have q0 : wr.cell? ⟨gb, l.length * 5, none⟩ = some (.int .i64 fi.op) := q 0 (by omega)
      have q1 : wr.cell? ⟨gb, l.length * 5 + 1, none⟩ = some (.int .i64 fi.num) := q 1 (by omega)
      have q2 : wr.cell? ⟨gb, l.length * 5 + 2, none⟩ = some (.string ⟨fi.name.toArray⟩) := q 2 (by omega)
      have q3 : wr.cell? ⟨gb, l.length * 5 + 3, none⟩ = some (.slice fi.A fi.n fi.c) := q 3 (by omega)
      have q4 : wr.cell? ⟨gb, l.length * 5 + 4, none⟩ = some (.int .i64 (a : Int)) := q 4 (by omega)
      have hown2 : wr.ownsRow (w.heap.size + 1) 76 5 (.slice (some ⟨gb, 0, none⟩) l.length cap) l.length (itCells l) := by
        refine ownsRow_pop (last := [.int .i64 fi.op, .int .i64 fi.num, .string ⟨fi.name.toArray⟩, .slice fi.A fi.n fi.c, .int .i64 (a : Int)]) (itCells_len l) ?_
        rw [← itCells_snoc l ⟨x, fi, a⟩]
        exact hown
      have hcap : l.length + 1 ≤ cap := by
        rcases hown.2 with ⟨h0, _⟩ | ⟨g', cap', cur, e', _, _, hle, _⟩
        · cases h0
        · injection e' with _ _ e3
          omega
      have hgbl := (owns_block hown gb rfl)
      have hll : l.length + 1 ≤ 100000000000 := by omega
      have hit : ItOk w (fun _ => True) C ⟨x, fi, a⟩ := hok _ (by simp)
      have HOK : Hid (∀ i ∈ l, ItOk w (fun _ => True) C i) := fun i hi => hok i (by simp [hi])
      have HS : Hid (cSum l + exCnt x ≤ C ∧ gk = cSum l + exCnt x) := by
        rw [cSum_app] at hsum hg
        simp only [cSum] at hsum hg
        exact ⟨by omega, by omega⟩
      have HVL : Hid ((vAll l && exV x a) = V0) := by
        rw [vAll_app] at hvl
        show (vAll l && exV x a) = V0
        simpa [vAll] using hvl
      have HO := Lib.hid hown2
      have HBE := Lib.hid hbel
      obtain ⟨hMx, hBx, hCx⟩ := hit
      dsimp only at hMx hBx hCx
      clear hown hown2 hok hbel hvl hsum hg q hlen hcl
      cases hMx with
      | mk op' num' name' args A' c' F hcc hss =>
      dsimp only at q0 q1 q2 q3 q4
      have HCC := Lib.hid hcc
      have HSS := Lib.hid hss
      have HNL : Hid (name'.length ≤ 9223372036854775807) := by
        cases hBx with
        | mk _ _ _ _ hl hn hs => exact hn
      have hal : args.length ≤ 1000000 := by
        cases hBx with
        | mk _ _ _ _ hl hn hs => exact hl
      have HKI : Hid (∀ it ∈ kidsI op' a F 0 args, ItOk w (fun _ => True) C it) := ItOk.kids F (f := ⟨op', num', name', A', args.length, c'⟩) ⟨.mk op' num' name' args A' c' F hcc hss, hBx, hCx⟩ hss
      have HVX : Hid (exV (.mk op' num' name' args) a = (visV op' num' name' args.length a && vAll (kidsI op' a F 0 args))) := by rw [exV_mk, exVs_kids op' a F 0 args]; rfl
      have HCX : Hid (exCnt (.mk op' num' name' args) = cSum (kidsI op' a F 0 args) + 1) := by rw [exCnt_mk, exCnts_kids op' a F 0 args]; rfl
      have haC : a ≤ 2 * C := by omega
      clear hcc hss hBx hCx
      have i1 : (0 : Int) ≤ (l.length : Int) := by omega
      go_wp2_with fail
      refine (visit_any _ op' num' name' A' args.length c' a HNL.out).mono ?_
      rintro e w2 ⟨rfl, hb2⟩
      have hs1 : (wr.alloc (.cells #[.int .i64 op', .int .i64 num', .string ⟨name'.toArray⟩, .slice A' args.length c', .int .i64 (a : Int)] 76)).heap.size = wr.heap.size + 1 := by simp
      have hL2 : w2.heap[wr.heap.size]? = some (.cells #[.int .i64 op', .int .i64 num', .string ⟨name'.toArray⟩, .slice A' args.length c', .int .i64 (a : Int)] 76 (0, 0)) := (hb2.block _ (by omega)).trans (heap_alloc_new wr _)
      have HO2 := Lib.hid (owns_later (HO.out.alloc _) hb2)
      have HBE2 : Hid (Below w.heap.size w w2) := below_rev' hb2 (HBE.out.alloc HBE.out.size _)
      have hws : w.heap.size ≤ wr.heap.size := HBE.out.size
      have hlw : wr.heap.size < w2.heap.size := lt_of_block hL2
      clear hb2 hs1 q0 q1 q2 q3 q4
      obtain ⟨c0, c1, c2, c3, c4⟩ := blk5 hL2
      have HL2 := Lib.hid hL2
      clear hL2
      cases hvis : visV op' num' name' args.length a with
      | false =>
        have HV : Hid (false = V0) := by
          have := HVL.out
          rw [HVX.out, hvis] at this
          show false = V0
          simpa using this
        go_wp2_with fail
        go_ret
        exact ⟨ret_bool HV.out, HBE2.out⟩
      | true =>
        have HV : Hid ((vAll l && vAll (kidsI op' a F 0 args)) = V0) := by
          have := HVL.out
          rw [HVX.out, hvis, Bool.true_and] at this
          exact this
        have HRI : Hid (WkIn w wr.heap.size l op' num' name' A' args c' a F 0 (.slice (some ⟨gb, 0, none⟩) l.length cap) w2) := by
          refine ⟨by omega, ?_, ?_, HL2.out, HBE2.out⟩
          · rw [List.take_zero]
            show w2.ownsRow (w.heap.size + 1) 76 5 _ (l.length + 0) (itCells (l ++ []))
            rw [Nat.add_zero, List.append_nil]
            exact HO2.out
          · show some gb ≠ some wr.heap.size
            intro e
            injection e with e
            omega
        clear hvis HVL HVX HO2 HBE2 HL2 c0 c1 c2 c4 HO HBE
        generalize wr.heap.size = lb at *
        go_wp2_with fail
        go_loopw [5, 37] (fun v i wr => ∃ j : Nat, j ≤ args.length ∧ i = .int .i64 (j : Int) ∧ Hid (WkIn w lb l op' num' name' A' args c' a F j v wr)) (fun _ i _ => args.length - (intOf i).toNat)
        case atStart => exact ⟨0, by omega, rfl, HRI⟩
        case round =>
          obtain ⟨j, hj, rfl, hrel⟩ := hrel
          clear HRI
          obtain ⟨-, hown, hne, hL, hbel⟩ := hrel.out
          clear hrel
          obtain ⟨c0', c1', c2', c3', c4'⟩ := blk5 hL
          have hlx : lb < wr.heap.size := lt_of_block hL
          by_cases hlt : j < args.length
          · obtain ⟨b, off, rfl, -, hat⟩ := HCC.out j hlt
            have hat1 := hat.keep (hbel.block b hat.lt)
            have hbl : b < w.heap.size := hat.lt
            have hbx : b < wr.heap.size := hat1.lt
            obtain ⟨a0, a1, a2, a3⟩ := hat1
            have hopq : (F j).op = args[j].op := (HSS.out j hlt).op_eq
            have HSN : Hid (itCells (l ++ kidsI op' a F 0 (args.take (j + 1))) = itCells (l ++ kidsI op' a F 0 (args.take j)) ++ [.int .i64 (F j).op, .int .i64 (F j).num, .string ⟨(F j).name.toArray⟩, .slice (F j).A (F j).n (F j).c, .int .i64 ((a : Int) + (addV op' (F j).op j : Int))]) := by
              rw [kidsI_snoc op' a F 0 args j hlt, ← List.append_assoc, itCells_snoc, Nat.zero_add, hopq]
              show _ = _
              simp
            obtain ⟨sa, sc, rfl⟩ := owns_form hown
            have hnea : (Value.slice sa (l.length + j) sc).ownBlock ≠ some wr.heap.size := fun e => by have := (owns_block hown _ e).2; omega
            have hneb : (Value.slice sa (l.length + j) sc).ownBlock ≠ some b := fun e => by have := (owns_block hown _ e).1; omega
            have HOx := Lib.hid hown
            have HBx := Lib.hid hbel
            have HLx := Lib.hid hL
            have hav := inPar_le op' (F j).op j
            have hjl : l.length + j + 1 ≤ 200000000000 := by omega
            have i2 : (0 : Int) ≤ (j : Int) := by omega
            have i3 : (j : Int) < (args.length : Int) := by omega
            clear hown hbel hL hat hopq
            obtain ⟨cs, hcs⟩ : ∃ cs, cs = itCells (l ++ kidsI op' a F 0 (args.take j)) := ⟨_, rfl⟩
            rw [← hcs] at HOx HSN
            clear hcs
            have HAD := Lib.hid (fun W (kc : W.cell? ⟨b, off + j * 4, none⟩ = some (.int .i64 (F j).op)) => added_any W op' num' name' (some ⟨b, off, none⟩) args.length c' b off j (F j).op rfl hlt (by omega) kc)
            generalize addV op' (F j).op j = AV at *
            have hwr : IntKind.i64.wrap ((a : Int) + (AV : Int)) = (a : Int) + (AV : Int) := IntWalk.i64_in _ (by have := HC.out; omega)
            go_wp2_with fail
            go_region_held3 (fun w' => w'.cell? ⟨wr.heap.size, 0, none⟩ = some (.int .i64 (F j).op) ∧ w'.cell? ⟨wr.heap.size, 1, none⟩ = some (.int .i64 (F j).num) ∧ w'.cell? ⟨wr.heap.size, 2, none⟩ = some (.string ⟨(F j).name.toArray⟩) ∧ w'.cell? ⟨wr.heap.size, 3, none⟩ = some (.slice (F j).A (F j).n (F j).c) ∧
                w'.cell? ⟨lb, 0, none⟩ = some (.int .i64 op') ∧ w'.cell? ⟨lb, 1, none⟩ = some (.int .i64 num') ∧ w'.cell? ⟨lb, 2, none⟩ = some (.string ⟨name'.toArray⟩) ∧ w'.cell? ⟨lb, 3, none⟩ = some (.slice (some ⟨b, off, none⟩) args.length c') ∧ w'.cell? ⟨lb, 4, none⟩ = some (.int .i64 (a : Int)) ∧ w'.cell? ⟨b, off + j * 4, none⟩ = some (.int .i64 (F j).op))
              (first
                | go_keep
                | (go_split_ands; refine ⟨?_, ?_, ?_, ?_, ?_, ?_, ?_, ?_, ?_, ?_⟩ <;> first | (rw [hgrow.cell_far _ (by simp; omega) (Ne.symm hnea)]; simp [*]; done) | (rw [hgrow.cell_far _ (by simp; omega) (Ne.symm hne)]; simp [*]; done) | (rw [hgrow.cell_far _ (by simp; omega) (Ne.symm hneb)]; simp [*]; done)))
              (first
                | (go_at_call 35; obtain ⟨k0, k1, k2, k3, k4, k5, k6, k7, k8, kc⟩ := ‹_ ∧ _ ∧ _ ∧ _ ∧ _ ∧ _ ∧ _ ∧ _ ∧ _ ∧ World.cell? _ ⟨b, off + j * 4, none⟩ = _›; refine (HAD.out _ kc).mono ?_; rintro e w3 ⟨rfl, hb3⟩; have r0 := cell_later hb3 k0; have r1 := cell_later hb3 k1; have r2 := cell_later hb3 k2; have r3 := cell_later hb3 k3; have r4 := cell_later hb3 k4; have r5 := cell_later hb3 k5; have r6 := cell_later hb3 k6; have r7 := cell_later hb3 k7; have r8 := cell_later hb3 k8; have rc := cell_later hb3 kc; have hz3 : wr.heap.size + 1 ≤ w3.heap.size := (by have := hb3.size; simp at this; omega); have HB3 := Lib.hid hb3; clear k0 k1 k2 k3 k4 k5 k6 k7 k8 kc hb3)
                | (refine step_append_lies _ (by rfl) _ _ _ (by rfl) (w.heap.size + 1) 76 i0 _ 5 64 Tryd.underlying77 hi hz0 hz1 hz2 rfl (by omega) (.slice sa (l.length + j) sc) (l.length + j) cs (by rfl) ((owns_later ((HOx.out.alloc _).drew) HB3.out).alloc _) ⟨w3.heap.size, 0, none⟩ 1 1 [.int .i64 (F j).op, .int .i64 (F j).num, .string ⟨(F j).name.toArray⟩, .slice (F j).A (F j).n (F j).c, .int .i64 ((a : Int) + (AV : Int))] (by rfl) (by rfl) (World.news_of_block (heap_alloc_new w3 _)) (by simp [Value.oneCell']) (by omega) (by unfold maxLen; omega) (by omega) (by simp; omega) (w3.heap.size + 1) (by simp) ?_; intro gg cap' w5 hown5 hgrow hat5 hlt5))
            clear r0 r1 r2 r3 r4 r5 r6 r7 r8 rc c0' c1' c2' c3' c4' a0 a1 a2 a3 hwr
            have HST := Lib.hid (wk_step HLx.out HBx.out HOx.out HB3.out hgrow hne hat5)
            have HO5 := Lib.hid hown5
            clear hown5 hgrow hat5 hlt5
            go_wp2_with fail
            go_roundw
            case rel =>
              obtain ⟨s1, s2, s3⟩ := HST.out
              refine ⟨j + 1, by omega, by go_num, ?_⟩
              refine ⟨by omega, ?_, s1, s2, s3⟩
              rw [HSN.out]
              exact HO5.out
            case measure => simp [intOf]; omega
          · have hke : args.take j = args := List.take_of_length_le (by omega)
            have hje : j = args.length := by omega
            rw [hke] at hown
            have HO5 := Lib.hid hown
            have HB5 := Lib.hid hbel
            have HJ := Lib.hid hje
            clear hown hbel hL hne hke hje c0' c1' c2' c3' c4' c3
            go_wp2_with fail
            go_roundg (cSum (l ++ kidsI op' a F 0 args))
            case rel =>
              refine ⟨l ++ kidsI op' a F 0 args, ⟨rfl, ?_, ?_, ?_, HB5.out⟩, ?_⟩
              · have h1 := HS.out
                have h2 := HCX.out
                rw [cSum_app]
                omega
              · have := HO5.out
                rw [HJ.out] at this
                rw [List.length_append, kidsI_len]
                exact this
              · intro i hi
                rcases List.mem_append.1 hi with h | h
                · exact HOK.out i h
                · exact HKI.out i h
              · rw [vAll_app]
                exact HV.out
            case measure =>
              have h1 := HS.out
              have h2 := HCX.out
              rw [cSum_app]
              omega

end Go.Proofs.YtbnbmibfjobacaaDoor

namespace Go.Proofs.YtbnbmibfjobacaaDoor
open Go.RowKit

/-- the list of parts lies in memory of the call's own -/
def HkRel (w : World) (hb C : Nat) (g : Nat) (l : List It) (v : Value) (wr : World) : Prop :=
  g = cSum l ∧ cSum l ≤ C ∧ wr.ownsRow (w.heap.size + 1) 76 5 v l.length (itCells l) ∧ (∀ i ∈ l, ItOk w (· ≠ hb) C i) ∧ w.grownBy wr (some hb)

/-- what holds while the Args of a part are put on the list -/
def HkIn (w : World) (hb : Nat) (h : Nat) (lb : Nat) (l : List It) (op num : Int) (name : List UInt8) (A : Option Addr) (args : List Ex) (c a : Nat) (F : Nat → EF) (j : Nat) (v : Value) (wx : World) : Prop :=
  j ≤ args.length ∧ wx.ownsRow (w.heap.size + 1) 76 5 v (l.length + j) (itCells (l ++ kidsI op a F 0 (args.take j))) ∧ v.ownBlock ≠ some lb ∧
    wx.heap[lb]? = some (.cells #[.int .i64 op, .int .i64 num, .string ⟨name.toArray⟩, .slice A args.length c, .int .i64 (a : Int)] 76 (0, 0)) ∧ w.grownBy wx (some hb) ∧ wx.heap[hb]? = some (.cells #[.int .i64 (h : Int)] 3 (0, 0))

theorem hk_step {w wr w3 w5 : World} {hb lb n gg : Nat} {v : Value} {o o2 L H : Obj} {xs : List Value} {t : TypeId} {sz : Nat} (hbw : hb < w.heap.size) (hL : wr.heap[lb]? = some L) (hH : wr.heap[hb]? = some H) (hB : w.grownBy wr (some hb)) (hO : wr.ownsRow (w.heap.size + 1) t sz v n xs) (h3 : Below (wr.alloc o).drew.heap.size (wr.alloc o).drew w3)
    (hg : (w3.alloc o2).grownBy w5 v.ownBlock) (hne : v.ownBlock ≠ some lb) (hat : v.ownBlock = some gg ∨ gg = w3.heap.size + 1) : some gg ≠ some lb ∧ w5.heap[lb]? = some L ∧ w.grownBy w5 (some hb) ∧ w5.heap[hb]? = some H := by
  have hlt : lb < wr.heap.size := lt_of_block hL
  have hs : (wr.alloc o).drew.heap.size = wr.heap.size + 1 := by simp
  have h3s := h3.size
  have hbs := hB.size
  have hk : ∀ b, b < wr.heap.size → some b ≠ v.ownBlock → w5.heap[b]? = wr.heap[b]? := fun b hb hne =>
    (hg.block b (by simp; omega) hne).trans ((Below.heap_alloc w3 o2 b (by omega)).trans ((h3.block b (by omega)).trans (Below.heap_alloc wr o b hb)))
  refine ⟨?_, (hk lb hlt (fun e => hne e.symm)).trans hL, ⟨hg.os.trans (h3.os.trans hB.os), hg.tape.trans (h3.tape.trans hB.tape), hg.output.trans (h3.output.trans hB.output), ?_, fun b hbb hnb => ?_⟩, ?_⟩
  · rcases hat with h | h
    · rw [← h]; exact hne
    · intro e
      injection e with e
      omega
  · have := hg.size
    simp at this
    omega
  · exact (hk b (by omega) (fun e => by have := (owns_block hO b e.symm).1; omega)).trans (hB.block b hbb hnb)
  · exact (hk hb (by omega) (fun e => by have := (owns_block hO hb e.symm).1; omega)).trans hH

set_option maxRecDepth 100000 in
set_option maxHeartbeats 8000000 in
theorem walkH_any (w : World) (E : Ex) (op num : Int) (name : List UInt8) (A : Option Addr) (n c hb h0 : Nat) (hM : ExM w (· ≠ hb) E ⟨op, num, name, A, n, c⟩) (hB : ExB E) (hC : exCnt E ≤ 100000000000) (hH : w.heap[hb]? = some (.cells #[.int .i64 (h0 : Int)] 3 (0, 0))) :
    Calls Tryd.prog 20 #[.agg #[.int .i64 op, .int .i64 num, .string ⟨name.toArray⟩, .slice A n c], .func (.func 45) #[] #[.pointer (some ⟨hb, 0, none⟩)]] w fun e w' => e = .returned (.bool true) ∧ w'.heap[hb]? = some (.cells #[.int .i64 ((max h0 (exDm E 0) : Nat) : Int)] 3 (0, 0)) ∧ w.grownBy w' (some hb) := by
  obtain ⟨i0, hi, hz0, hz1, hz2⟩ := info_parts Tryd.infoNst
  have hbw : hb < w.heap.size := lt_of_block hH
  have HR0 : Hid (∃ l h, HkRel w hb (exCnt E) (exCnt E) l (.slice (some ⟨w.heap.size + 1, 0, none⟩) 1 1) ((w.alloc (.cells #[.int .i64 op, .int .i64 num, .string ⟨name.toArray⟩, .slice A n c] 25)).alloc (.cells #[.int .i64 op, .int .i64 num, .string ⟨name.toArray⟩, .slice A n c, .int .i64 0] 76)) ∧ ((w.alloc (.cells #[.int .i64 op, .int .i64 num, .string ⟨name.toArray⟩, .slice A n c] 25)).alloc (.cells #[.int .i64 op, .int .i64 num, .string ⟨name.toArray⟩, .slice A n c, .int .i64 0] 76)).heap[hb]? = some (.cells #[.int .i64 ((h : Nat) : Int)] 3 (0, 0)) ∧ max h (dMax l) = max h0 (exDm E 0)) := by
    refine ⟨[⟨E, ⟨op, num, name, A, n, c⟩, 0⟩], h0, ⟨by simp [cSum], by simp [cSum], ?_, ?_, ⟨rfl, rfl, rfl, by simp; omega, fun b hb' _ => (Below.heap_alloc _ _ b (by simp; omega)).trans (Below.heap_alloc w _ b hb')⟩⟩, (Below.heap_alloc _ _ hb (by simp; omega)).trans ((Below.heap_alloc w _ hb hbw).trans hH), by simp [dMax]⟩
    · have := World.ownsRow_lit (base := w.heap.size + 1) (e := 76) (size := 5) (w.alloc (.cells #[.int .i64 op, .int .i64 num, .string ⟨name.toArray⟩, .slice A n c] 25)) #[.int .i64 op, .int .i64 num, .string ⟨name.toArray⟩, .slice A n c, .int .i64 0] 1 (by simp) (by unfold maxLen; omega) (by simp)
      rw [show (w.alloc (.cells #[.int .i64 op, .int .i64 num, .string ⟨name.toArray⟩, .slice A n c] 25)).heap.size = w.heap.size + 1 by simp] at this
      exact this
    · intro i hi
      simp at hi
      subst hi
      exact ⟨hM, hB, by dsimp only; omega⟩
  have HC := Lib.hid hC
  generalize hV0 : max h0 (exDm E 0) = V0 at *
  generalize exCnt E = C at *
  clear hM hB hC hV0 hH
  go_enter Tryd.func20, Tryd.ntmps20
  go_wp2_with fail
  go_loopg [5] C (fun g v wr => Hid (∃ l h, HkRel w hb C g l v wr ∧ wr.heap[hb]? = some (.cells #[.int .i64 ((h : Nat) : Int)] 3 (0, 0)) ∧ max h (dMax l) = V0))
  case atStart => exact HR0
  case round =>
    clear HR0
    obtain ⟨l, h, ⟨hg, hsum, hown, hok, hbel⟩, hH, hvl⟩ := hrel.out
    have HH := Lib.hid hH
    clear hH
    clear hrel
    rcases List.eq_nil_or_concat l with rfl | ⟨l, it, rfl⟩
    · obtain ⟨sa, sc, rfl⟩ := owns_form hown
      have HBE := Lib.hid hbel
      have HV : Hid (h = V0) := by
        show h = V0
        simpa [dMax] using hvl
      clear hown hok hbel hvl hsum hg
      dsimp only [List.length_nil]
      go_wp2_with fail
      go_ret
      rw [← HV.out]
      exact ⟨rfl, HH.out, HBE.out⟩
    · rw [List.concat_eq_append] at *
      obtain ⟨x, fi, a⟩ := it
      have hlen : (l ++ [(⟨x, fi, a⟩ : It)]).length = l.length + 1 := by simp
      rw [hlen] at hown
      obtain ⟨sa, cap, rfl⟩ := owns_form hown
      obtain ⟨gb, rfl⟩ := owns_some hown (by omega)
      have hcl := cSum_len (l ++ [(⟨x, fi, a⟩ : It)])
      rw [hlen] at hcl
      have hC := HC.out
      have q : ∀ j, j < 5 → wr.cell? ⟨gb, l.length * 5 + j, none⟩ = [Value.int .i64 fi.op, .int .i64 fi.num, .string ⟨fi.name.toArray⟩, .slice fi.A fi.n fi.c, .int .i64 (a : Int)][j]? := fun j hj => (World.ownsRow.cellAt hown _ (by omega)).trans (item_cells l ⟨x, fi, a⟩ j hj)
      have q0 : wr.cell? ⟨gb, l.length * 5, none⟩ = some (.int .i64 fi.op) := q 0 (by omega)
      have q1 : wr.cell? ⟨gb, l.length * 5 + 1, none⟩ = some (.int .i64 fi.num) := q 1 (by omega)
      have q2 : wr.cell? ⟨gb, l.length * 5 + 2, none⟩ = some (.string ⟨fi.name.toArray⟩) := q 2 (by omega)
      have q3 : wr.cell? ⟨gb, l.length * 5 + 3, none⟩ = some (.slice fi.A fi.n fi.c) := q 3 (by omega)
      have q4 : wr.cell? ⟨gb, l.length * 5 + 4, none⟩ = some (.int .i64 (a : Int)) := q 4 (by omega)
      have hown2 : wr.ownsRow (w.heap.size + 1) 76 5 (.slice (some ⟨gb, 0, none⟩) l.length cap) l.length (itCells l) := by
        refine ownsRow_pop (last := [.int .i64 fi.op, .int .i64 fi.num, .string ⟨fi.name.toArray⟩, .slice fi.A fi.n fi.c, .int .i64 (a : Int)]) (itCells_len l) ?_
        rw [← itCells_snoc l ⟨x, fi, a⟩]
        exact hown
      have hcap : l.length + 1 ≤ cap := by
        rcases hown.2 with ⟨h0, _⟩ | ⟨g', cap', cur, e', _, _, hle, _⟩
        · cases h0
        · injection e' with _ _ e3
          omega
      have hgbl := (owns_block hown gb rfl)
      have hll : l.length + 1 ≤ 100000000000 := by omega
      have hit : ItOk w (· ≠ hb) C ⟨x, fi, a⟩ := hok _ (by simp)
      have HOK : Hid (∀ i ∈ l, ItOk w (· ≠ hb) C i) := fun i hi => hok i (by simp [hi])
      have HS : Hid (cSum l + exCnt x ≤ C ∧ gk = cSum l + exCnt x) := by
        rw [cSum_app] at hsum hg
        simp only [cSum] at hsum hg
        exact ⟨by omega, by omega⟩
      have HVL : Hid (max h (max (dMax l) (exDm x a)) = V0) := by
        rw [dMax_app] at hvl
        show max h (max (dMax l) (exDm x a)) = V0
        simpa [dMax] using hvl
      have HO := Lib.hid hown2
      have HBE := Lib.hid hbel
      obtain ⟨hMx, hBx, hCx⟩ := hit
      dsimp only at hMx hBx hCx
      clear hown hown2 hok hbel hvl hsum hg q hlen hcl
      cases hMx with
      | mk op' num' name' args A' c' F hcc hss =>
      dsimp only at q0 q1 q2 q3 q4
      have HCC := Lib.hid hcc
      have HSS := Lib.hid hss
      have HNL : Hid (name'.length ≤ 9223372036854775807) := by
        cases hBx with
        | mk _ _ _ _ hl hn hs => exact hn
      have hal : args.length ≤ 1000000 := by
        cases hBx with
        | mk _ _ _ _ hl hn hs => exact hl
      have HKI : Hid (∀ it ∈ kidsI op' a F 0 args, ItOk w (· ≠ hb) C it) := ItOk.kids F (f := ⟨op', num', name', A', args.length, c'⟩) ⟨.mk op' num' name' args A' c' F hcc hss, hBx, hCx⟩ hss
      have HVX : Hid (exDm (.mk op' num' name' args) a = max a (dMax (kidsI op' a F 0 args))) := by rw [exDm_mk, exDms_kids op' a F 0 args]; rfl
      have HCX : Hid (exCnt (.mk op' num' name' args) = cSum (kidsI op' a F 0 args) + 1) := by rw [exCnt_mk, exCnts_kids op' a F 0 args]; rfl
      have haC : a ≤ 2 * C := by omega
      clear hcc hss hBx hCx
      have i1 : (0 : Int) ≤ (l.length : Int) := by omega
      go_wp2_with fail
      have hwsz : w.heap.size ≤ wr.heap.size := HBE.out.size
      have hH1 : (wr.alloc (.cells #[.int .i64 op', .int .i64 num', .string ⟨name'.toArray⟩, .slice A' args.length c', .int .i64 (a : Int)] 76)).heap[hb]? = some (.cells #[.int .i64 ((h : Nat) : Int)] 3 (0, 0)) := (Below.heap_alloc wr _ hb (by omega)).trans HH.out
      have HH1 := Lib.hid hH1
      clear hH1
      refine (hvisit_any _ (h : Int) op' num' name' A' args.length c' a hb HH1.out).mono ?_
      rintro e w2 ⟨rfl, hH2, hb2⟩
      have hs1 : (wr.alloc (.cells #[.int .i64 op', .int .i64 num', .string ⟨name'.toArray⟩, .slice A' args.length c', .int .i64 (a : Int)] 76)).heap.size = wr.heap.size + 1 := by simp
      have hL2 : w2.heap[wr.heap.size]? = some (.cells #[.int .i64 op', .int .i64 num', .string ⟨name'.toArray⟩, .slice A' args.length c', .int .i64 (a : Int)] 76 (0, 0)) := (hb2.block _ (by omega) (fun e => by injection e with e; omega)).trans (heap_alloc_new wr _)
      have HO2 := Lib.hid ((HO.out.alloc (.cells #[.int .i64 op', .int .i64 num', .string ⟨name'.toArray⟩, .slice A' args.length c', .int .i64 (a : Int)] 76)).kept hb2 (.inr (fun e => by have h1 : some gb = some hb := e; injection h1 with h1; omega)))
      have HBE2 : Hid (w.grownBy w2 (some hb)) := grown_trans HBE.out (grown_of_alloc hb2)
      have HH2 : Hid (w2.heap[hb]? = some (.cells #[.int .i64 ((max h a : Nat) : Int)] 3 (0, 0))) := by
        rw [show ((max h a : Nat) : Int) = max (h : Int) (a : Int) by omega]
        exact hH2
      clear hH2
      have hws : w.heap.size ≤ wr.heap.size := HBE.out.size
      have hlw : wr.heap.size < w2.heap.size := lt_of_block hL2
      clear hb2 hs1 q0 q1 q2 q3 q4
      obtain ⟨c0, c1, c2, c3, c4⟩ := blk5 hL2
      have HL2 := Lib.hid hL2
      clear hL2
      have HV : Hid (max (max h a) (max (dMax l) (dMax (kidsI op' a F 0 args))) = V0) := by
        have := HVL.out
        rw [HVX.out] at this
        show _ = V0
        omega
      have HRI : Hid (HkIn w hb (max h a) wr.heap.size l op' num' name' A' args c' a F 0 (.slice (some ⟨gb, 0, none⟩) l.length cap) w2) := by
        refine ⟨by omega, ?_, ?_, HL2.out, HBE2.out, HH2.out⟩
        · rw [List.take_zero]
          show w2.ownsRow (w.heap.size + 1) 76 5 _ (l.length + 0) (itCells (l ++ []))
          rw [Nat.add_zero, List.append_nil]
          exact HO2.out
        · show some gb ≠ some wr.heap.size
          intro e
          injection e with e
          omega
      clear HVL HVX HO2 HBE2 HL2 c0 c1 c2 c4 HO HBE HH HH1 HH2
      generalize wr.heap.size = lb at *
      go_wp2_with fail
      go_loopw [5, 37] (fun v i wr => ∃ j : Nat, j ≤ args.length ∧ i = .int .i64 (j : Int) ∧ Hid (HkIn w hb (max h a) lb l op' num' name' A' args c' a F j v wr)) (fun _ i _ => args.length - (intOf i).toNat)
      case atStart => exact ⟨0, by omega, rfl, HRI⟩
      case round =>
        obtain ⟨j, hj, rfl, hrel⟩ := hrel
        clear HRI
        obtain ⟨-, hown, hne, hL, hbel, hH⟩ := hrel.out
        have HHx := Lib.hid hH
        clear hH
        clear hrel
        obtain ⟨c0', c1', c2', c3', c4'⟩ := blk5 hL
        have hlx : lb < wr.heap.size := lt_of_block hL
        by_cases hlt : j < args.length
        · obtain ⟨b, off, rfl, hbh, hat⟩ := HCC.out j hlt
          have hat1 := hat.keep (hbel.block b hat.lt (fun e => by injection e with e; exact hbh e))
          have hbl : b < w.heap.size := hat.lt
          have hbx : b < wr.heap.size := hat1.lt
          obtain ⟨a0, a1, a2, a3⟩ := hat1
          have hopq : (F j).op = args[j].op := (HSS.out j hlt).op_eq
          have HSN : Hid (itCells (l ++ kidsI op' a F 0 (args.take (j + 1))) = itCells (l ++ kidsI op' a F 0 (args.take j)) ++ [.int .i64 (F j).op, .int .i64 (F j).num, .string ⟨(F j).name.toArray⟩, .slice (F j).A (F j).n (F j).c, .int .i64 ((a : Int) + (addV op' (F j).op j : Int))]) := by
            rw [kidsI_snoc op' a F 0 args j hlt, ← List.append_assoc, itCells_snoc, Nat.zero_add, hopq]
            show _ = _
            simp
          obtain ⟨sa, sc, rfl⟩ := owns_form hown
          have hnea : (Value.slice sa (l.length + j) sc).ownBlock ≠ some wr.heap.size := fun e => by have := (owns_block hown _ e).2; omega
          have hneb : (Value.slice sa (l.length + j) sc).ownBlock ≠ some b := fun e => by have := (owns_block hown _ e).1; omega
          have HOx := Lib.hid hown
          have HBx := Lib.hid hbel
          have HLx := Lib.hid hL
          have hav := inPar_le op' (F j).op j
          have hjl : l.length + j + 1 ≤ 200000000000 := by omega
          have i2 : (0 : Int) ≤ (j : Int) := by omega
          have i3 : (j : Int) < (args.length : Int) := by omega
          clear hown hbel hL hat hopq
          obtain ⟨cs, hcs⟩ : ∃ cs, cs = itCells (l ++ kidsI op' a F 0 (args.take j)) := ⟨_, rfl⟩
          rw [← hcs] at HOx HSN
          clear hcs
          have HAD := Lib.hid (fun W (kc : W.cell? ⟨b, off + j * 4, none⟩ = some (.int .i64 (F j).op)) => added_any W op' num' name' (some ⟨b, off, none⟩) args.length c' b off j (F j).op rfl hlt (by omega) kc)
          generalize addV op' (F j).op j = AV at *
          have hwr : IntKind.i64.wrap ((a : Int) + (AV : Int)) = (a : Int) + (AV : Int) := IntWalk.i64_in _ (by have := HC.out; omega)
          go_wp2_with fail
          go_region_held3 (fun w' => w'.cell? ⟨wr.heap.size, 0, none⟩ = some (.int .i64 (F j).op) ∧ w'.cell? ⟨wr.heap.size, 1, none⟩ = some (.int .i64 (F j).num) ∧ w'.cell? ⟨wr.heap.size, 2, none⟩ = some (.string ⟨(F j).name.toArray⟩) ∧ w'.cell? ⟨wr.heap.size, 3, none⟩ = some (.slice (F j).A (F j).n (F j).c) ∧
              w'.cell? ⟨lb, 0, none⟩ = some (.int .i64 op') ∧ w'.cell? ⟨lb, 1, none⟩ = some (.int .i64 num') ∧ w'.cell? ⟨lb, 2, none⟩ = some (.string ⟨name'.toArray⟩) ∧ w'.cell? ⟨lb, 3, none⟩ = some (.slice (some ⟨b, off, none⟩) args.length c') ∧ w'.cell? ⟨lb, 4, none⟩ = some (.int .i64 (a : Int)) ∧ w'.cell? ⟨b, off + j * 4, none⟩ = some (.int .i64 (F j).op))
            (first
              | go_keep
              | (go_split_ands; refine ⟨?_, ?_, ?_, ?_, ?_, ?_, ?_, ?_, ?_, ?_⟩ <;> first | (rw [hgrow.cell_far _ (by simp; omega) (Ne.symm hnea)]; simp [*]; done) | (rw [hgrow.cell_far _ (by simp; omega) (Ne.symm hne)]; simp [*]; done) | (rw [hgrow.cell_far _ (by simp; omega) (Ne.symm hneb)]; simp [*]; done)))
            (first
              | (go_at_call 35; obtain ⟨k0, k1, k2, k3, k4, k5, k6, k7, k8, kc⟩ := ‹_ ∧ _ ∧ _ ∧ _ ∧ _ ∧ _ ∧ _ ∧ _ ∧ _ ∧ World.cell? _ ⟨b, off + j * 4, none⟩ = _›; refine (HAD.out _ kc).mono ?_; rintro e w3 ⟨rfl, hb3⟩; have r0 := cell_later hb3 k0; have r1 := cell_later hb3 k1; have r2 := cell_later hb3 k2; have r3 := cell_later hb3 k3; have r4 := cell_later hb3 k4; have r5 := cell_later hb3 k5; have r6 := cell_later hb3 k6; have r7 := cell_later hb3 k7; have r8 := cell_later hb3 k8; have rc := cell_later hb3 kc; have hz3 : wr.heap.size + 1 ≤ w3.heap.size := (by have := hb3.size; simp at this; omega); have HB3 := Lib.hid hb3; clear k0 k1 k2 k3 k4 k5 k6 k7 k8 kc hb3)
              | (refine step_append_lies _ (by rfl) _ _ _ (by rfl) (w.heap.size + 1) 76 i0 _ 5 64 Tryd.underlying77 hi hz0 hz1 hz2 rfl (by omega) (.slice sa (l.length + j) sc) (l.length + j) cs (by rfl) ((owns_later ((HOx.out.alloc _).drew) HB3.out).alloc _) ⟨w3.heap.size, 0, none⟩ 1 1 [.int .i64 (F j).op, .int .i64 (F j).num, .string ⟨(F j).name.toArray⟩, .slice (F j).A (F j).n (F j).c, .int .i64 ((a : Int) + (AV : Int))] (by rfl) (by rfl) (World.news_of_block (heap_alloc_new w3 _)) (by simp [Value.oneCell']) (by omega) (by unfold maxLen; omega) (by omega) (by simp; omega) (w3.heap.size + 1) (by simp) ?_; intro gg cap' w5 hown5 hgrow hat5 hlt5))
          clear r0 r1 r2 r3 r4 r5 r6 r7 r8 rc c0' c1' c2' c3' c4' a0 a1 a2 a3 hwr
          have HST := Lib.hid (hk_step hbw HLx.out HHx.out HBx.out HOx.out HB3.out hgrow hne hat5)
          have HO5 := Lib.hid hown5
          clear hown5 hgrow hat5 hlt5
          go_wp2_with fail
          go_roundw
          case rel =>
            obtain ⟨s1, s2, s3, s4⟩ := HST.out
            refine ⟨j + 1, by omega, by go_num, ?_⟩
            refine ⟨by omega, ?_, s1, s2, s3, s4⟩
            rw [HSN.out]
            exact HO5.out
          case measure => simp [intOf]; omega
        · have hke : args.take j = args := List.take_of_length_le (by omega)
          have hje : j = args.length := by omega
          rw [hke] at hown
          have HO5 := Lib.hid hown
          have HB5 := Lib.hid hbel
          have HJ := Lib.hid hje
          clear hown hbel hL hne hke hje c0' c1' c2' c3' c4' c3
          go_wp2_with fail
          go_roundg (cSum (l ++ kidsI op' a F 0 args))
          case rel =>
            refine ⟨l ++ kidsI op' a F 0 args, max h a, ⟨rfl, ?_, ?_, ?_, HB5.out⟩, HHx.out, ?_⟩
            · have h1 := HS.out
              have h2 := HCX.out
              rw [cSum_app]
              omega
            · have := HO5.out
              rw [HJ.out] at this
              rw [List.length_append, kidsI_len]
              exact this
            · intro i hi
              rcases List.mem_append.1 hi with h | h
              · exact HOK.out i h
              · exact HKI.out i h
            · rw [dMax_app]
              exact HV.out
          case measure =>
            have h1 := HS.out
            have h2 := HCX.out
            rw [cSum_app]
            omega

set_option maxRecDepth 100000 in
set_option maxHeartbeats 1000000 in
/-- Valid -/
theorem valid_any (w : World) (E : Ex) (op num : Int) (name : List UInt8) (A : Option Addr) (n c : Nat) (hM : ExM w (fun _ => True) E ⟨op, num, name, A, n, c⟩) (hB : ExB E) (hC : exCnt E ≤ 100000000000) :
    Calls Tryd.prog 9 #[.agg #[.int .i64 op, .int .i64 num, .string ⟨name.toArray⟩, .slice A n c]] w fun e w' => e = .returned (.bool (exV E 0)) ∧ Below w.heap.size w w' := by
  have hmf : ∀ (fn : Fn) (first cap : Array Value) (w : World), (Instr.makeFunc fn first cap).run Tryd.prog w = .ok (.func fn first cap) w := fun _ _ _ _ => rfl
  have hb0 : Below w.heap.size w (w.alloc (.cells #[.int .i64 op, .int .i64 num, .string ⟨name.toArray⟩, .slice A n c] 25)) := (Below.refl _ _).alloc (Nat.le_refl _) _
  have HM := Lib.hid (hM.later hb0)
  have HB0 := Lib.hid hb0
  have HB := Lib.hid hB
  have HC := Lib.hid hC
  clear hM hB hC hb0
  go_enter Tryd.func9, Tryd.ntmps9
  go_wp2_with fail
  refine (walkV_any _ E op num name A n c HM.out HB.out HC.out).mono ?_
  rintro e w1 ⟨rfl, hb1⟩
  have HB1 := Lib.hid (below_rev' hb1 HB0.out)
  clear hb1
  go_wp2_with fail
  go_ret
  exact ⟨rfl, HB1.out⟩

set_option maxRecDepth 100000 in
set_option maxHeartbeats 1000000 in
/-- Height -/
theorem heightD_any (w : World) (E : Ex) (op num : Int) (name : List UInt8) (A : Option Addr) (n c : Nat) (hM : ExM w (fun _ => True) E ⟨op, num, name, A, n, c⟩) (hB : ExB E) (hC : exCnt E ≤ 100000000000) :
    Calls Tryd.prog 28 #[.agg #[.int .i64 op, .int .i64 num, .string ⟨name.toArray⟩, .slice A n c]] w fun e w' => e = .returned (.int .i64 (exDm E 0 : Int)) ∧ Below w.heap.size w w' := by
  have hmf : ∀ (fn : Fn) (first cap : Array Value) (w : World), (Instr.makeFunc fn first cap).run Tryd.prog w = .ok (.func fn first cap) w := fun _ _ _ _ => rfl
  have HM : Hid (∀ W hb, Below w.heap.size w W → w.heap.size ≤ hb → ExM W (· ≠ hb) E ⟨op, num, name, A, n, c⟩) := fun W hb hb0 hle => ((hM.inside.later hb0).more fun b hb' => by have := hb'.2; omega)
  have HB := Lib.hid hB
  have HC := Lib.hid hC
  clear hM hB hC
  go_enter Tryd.func28, Tryd.ntmps28
  go_wp2_with fail
  have hb2 : Below w.heap.size w ((w.alloc (.cells #[.int .i64 op, .int .i64 num, .string ⟨name.toArray⟩, .slice A n c] 25)).alloc (.cells #[.int .i64 0] 3)) := ((Below.refl _ _).alloc (Nat.le_refl _) _).alloc (by simp) _
  have hH : ((w.alloc (.cells #[.int .i64 op, .int .i64 num, .string ⟨name.toArray⟩, .slice A n c] 25)).alloc (.cells #[.int .i64 0] 3)).heap[w.heap.size + 1]? = some (.cells #[.int .i64 ((0 : Nat) : Int)] 3 (0, 0)) := by
    have := heap_alloc_new (w.alloc (.cells #[.int .i64 op, .int .i64 num, .string ⟨name.toArray⟩, .slice A n c] 25)) (.cells #[.int .i64 0] 3)
    simpa using this
  refine (walkH_any _ E op num name A n c (w.heap.size + 1) 0 (HM.out _ _ hb2 (by omega)) HB.out HC.out hH).mono ?_
  rintro e w1 ⟨rfl, hH1, hG⟩
  have q0 : w1.cell? ⟨w.heap.size + 1, 0, none⟩ = some (.int .i64 ((max 0 (exDm E 0) : Nat) : Int)) := by rw [cell_of_row w1 _ 0 _ _ _ hH1]; rfl
  rw [Nat.zero_max] at q0
  have HB1 : Hid (Below w.heap.size w w1) := (below_new hG).1
  clear hb2 hH hH1 hG
  go_wp2_with fail
  go_ret
  exact ⟨rfl, HB1.out⟩

end Go.Proofs.YtbnbmibfjobacaaDoor
