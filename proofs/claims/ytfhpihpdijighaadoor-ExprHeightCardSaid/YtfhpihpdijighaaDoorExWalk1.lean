/- What wellFormed of package expr and the functions handed to its walk return. -/
import Derived.Test.YtfhpihpdijighaaDoorExWalk0
namespace Go.Proofs.YtfhpihpdijighaaDoor
open Go.RowKit

/-- is the head of an expression with n Args as it should be -/
def nodeV (op num : Int) (name : List UInt8) (n : Nat) : Bool :=
  if op = 1 then decide (0 ≤ num) && (name == [] && n == 0)
  else if op = 2 then num == 0 && (nmD name && n == 0)
  else if unB op then num == 0 && (name == [] && n == 1)
  else if biB op then num == 0 && (name == [] && n == 2)
  else false

set_option maxRecDepth 100000 in
set_option maxHeartbeats 4000000 in
theorem wellFormed_any (w : World) (op num : Int) (name : List UInt8) (A : Option Addr) (n c : Nat) (hl : name.length ≤ 9223372036854775807) :
    Calls Tryd.prog 33 #[.agg #[.int .i64 op, .int .i64 num, .string ⟨name.toArray⟩, .slice A n c]] w fun e w' => e = .returned (.bool (nodeV op num name n)) ∧ Below w.heap.size w w' := by
  have hb0 : Below w.heap.size w (w.alloc (.cells #[.int .i64 op, .int .i64 num, .string ⟨name.toArray⟩, .slice A n c] 38)) := (Below.refl _ _).alloc (Nat.le_refl _) _
  have HB0 := Lib.hid hb0
  clear hb0
  by_cases h1 : op = 1
  · have HV : Hid (nodeV op num name n = (decide (0 ≤ num) && (name == [] && n == 0))) := if_pos h1
    have t1 := bT h1
    clear h1
    go_enter Tryd.func33, Tryd.ntmps33
    go_wp2
    all_goals
      go_ret
      refine ⟨ret_bool ?_, (Below.refl _ _).alloc (Nat.le_refl _) _⟩
      rw [HV.out, Bool.eq_iff_iff]
      simp [*]
      try omega
  · have t1 := bF h1
    by_cases h2 : op = 2
    · have HV : Hid (nodeV op num name n = (num == 0 && (nmD name && n == 0))) := by unfold nodeV; rw [if_neg h1, if_pos h2]; rfl
      have t2 := bT h2
      clear h1 h2
      by_cases hn0 : num = 0
      · have tn := bT hn0
        have HV2 : Hid (nodeV op num name n = (nmD name && n == 0)) := by rw [HV.out, hn0]; rfl
        clear hn0
        go_enter Tryd.func33, Tryd.ntmps33
        go_wp2_with fail
        refine (isName_any name _ hl).mono ?_
        rintro e w1 ⟨rfl, hb1⟩
        obtain ⟨q0, q1, q2, q3, -, -, -, -, -⟩ := blk4 ((hb1.block _ (by simp)).trans (heap_alloc_new w _))
        have HB1 := Lib.hid (below_rev' hb1 HB0.out)
        clear hb1
        cases hnm : nmD name with
        | true =>
          have HV3 : Hid (nodeV op num name n = (n == 0)) := by rw [HV2.out, hnm]; rfl
          go_wp2_with fail
          go_ret
          refine ⟨ret_bool ?_, HB1.out⟩
          rw [HV3.out, Bool.eq_iff_iff]
          simp
          try omega
        | false =>
          have HV3 : Hid (nodeV op num name n = false) := by rw [HV2.out, hnm]; rfl
          go_wp2_with fail
          go_ret
          exact ⟨ret_bool HV3.out.symm, HB1.out⟩
      · have tn := bF hn0
        have HV2 : Hid (nodeV op num name n = false) := by rw [HV.out, beq_eq_false_iff_ne.2 hn0]; rfl
        clear hn0
        go_enter Tryd.func33, Tryd.ntmps33
        go_wp2_with fail
        go_ret
        exact ⟨ret_bool HV2.out.symm, HB0.out⟩
    · have t2 := bF h2
      cases hu : unB op with
      | true =>
        have HV : Hid (nodeV op num name n = (num == 0 && (name == [] && n == 1))) := by unfold nodeV; rw [if_neg h1, if_neg h2, if_pos hu]; rfl
        have HU := Lib.hid hu
        clear h1 h2 hu
        go_enter Tryd.func33, Tryd.ntmps33
        go_wp2_with fail
        refine (isUnary_any op _).mono ?_
        rintro e w1 ⟨rfl, rfl⟩
        rw [HU.out]
        go_wp2_with fail
        all_goals
          go_ret
          refine ⟨ret_bool ?_, (Below.refl _ _).alloc (Nat.le_refl _) _⟩
          rw [HV.out, Bool.eq_iff_iff]
          simp [*]
          try omega
      | false =>
        cases hbi : biB op with
        | true =>
          have HV : Hid (nodeV op num name n = (num == 0 && (name == [] && n == 2))) := by unfold nodeV; rw [if_neg h1, if_neg h2, if_neg (by rw [hu]; decide), if_pos hbi]; rfl
          have HU := Lib.hid hu
          have HBI := Lib.hid hbi
          clear h1 h2 hu hbi
          go_enter Tryd.func33, Tryd.ntmps33
          go_wp2_with fail
          refine (isUnary_any op _).mono ?_
          rintro e w1 ⟨rfl, rfl⟩
          rw [HU.out]
          go_wp2_with fail
          refine (isBinary_any op _).mono ?_
          rintro e w1 ⟨rfl, rfl⟩
          rw [HBI.out]
          go_wp2_with fail
          all_goals
            go_ret
            refine ⟨ret_bool ?_, (Below.refl _ _).alloc (Nat.le_refl _) _⟩
            rw [HV.out, Bool.eq_iff_iff]
            simp [*]
            try omega
        | false =>
          have HV : Hid (nodeV op num name n = false) := by unfold nodeV; rw [if_neg h1, if_neg h2, if_neg (by rw [hu]; decide), if_neg (by rw [hbi]; decide)]; rfl
          have HU := Lib.hid hu
          have HBI := Lib.hid hbi
          clear h1 h2 hu hbi
          go_enter Tryd.func33, Tryd.ntmps33
          go_wp2_with fail
          refine (isUnary_any op _).mono ?_
          rintro e w1 ⟨rfl, rfl⟩
          rw [HU.out]
          go_wp2_with fail
          refine (isBinary_any op _).mono ?_
          rintro e w1 ⟨rfl, rfl⟩
          rw [HBI.out]
          go_wp2_with fail
          go_ret
          exact ⟨ret_bool HV.out.symm, HB0.out⟩

/-- what Valid asks of each part, with so much around it -/
def visV (op num : Int) (name : List UInt8) (n a : Nat) : Bool := decide (a ≤ 24) && nodeV op num name n
set_option maxRecDepth 100000 in
set_option maxHeartbeats 1000000 in
theorem visit_any (w : World) (op num : Int) (name : List UInt8) (A : Option Addr) (n c a : Nat) (hl : name.length ≤ 9223372036854775807) :
    Calls Tryd.prog 32 #[.agg #[.int .i64 op, .int .i64 num, .string ⟨name.toArray⟩, .slice A n c], .int .i64 (a : Int)] w fun e w' => e = .returned (.bool (visV op num name n a)) ∧ Below w.heap.size w w' := by
  have hb0 : Below w.heap.size w (w.alloc (.cells #[.int .i64 op, .int .i64 num, .string ⟨name.toArray⟩, .slice A n c] 38)) := (Below.refl _ _).alloc (Nat.le_refl _) _
  have HB0 := Lib.hid hb0
  clear hb0
  by_cases h : a ≤ 24
  · have HV : Hid (visV op num name n a = nodeV op num name n) := by unfold visV; rw [decide_eq_true h]; rfl
    go_enter Tryd.func32, Tryd.ntmps32
    go_wp2_with fail
    refine (wellFormed_any _ op num name A n c hl).mono ?_
    rintro e w1 ⟨rfl, hb1⟩
    have HB1 := Lib.hid (below_rev' hb1 HB0.out)
    clear hb1
    go_wp2_with fail
    go_ret
    exact ⟨ret_bool HV.out.symm, HB1.out⟩
  · have HV : Hid (visV op num name n a = false) := by unfold visV; rw [decide_eq_false h]; rfl
    go_enter Tryd.func32, Tryd.ntmps32
    go_wp2_with fail
    go_ret
    exact ⟨ret_bool HV.out.symm, HB0.out⟩

theorem hv_end {w : World} {hb : Nat} {h v : Int} (m : Int) (hh : w.heap[hb]? = some (.cells #[.int .i64 h] 3 (0, 0))) (hv : v = m) (o : Obj) :
    ((w.setCell ⟨hb, 0, none⟩ (.int .i64 v)).alloc o).heap[hb]? = some (.cells #[.int .i64 m] 3 (0, 0)) ∧ w.grownBy ((w.setCell ⟨hb, 0, none⟩ (.int .i64 v)).alloc o) (some hb) := by
  subst hv
  have hlt : hb < w.heap.size := lt_of_block hh
  constructor
  · rw [Below.heap_alloc _ _ hb (by rw [setCell_size]; exact hlt)]
    simp [World.setCell, Array.getElem?_modify, hh]
  · refine ⟨rfl, rfl, rfl, by simp [World.setCell], fun b hb' hne => ?_⟩
    rw [Below.heap_alloc _ _ b (by rw [setCell_size]; exact hb'), Below.heap_setCell _ _ _ b (by simp; exact fun e => hne (by rw [e]))]

set_option maxRecDepth 100000 in
set_option maxHeartbeats 1000000 in
theorem hvisit_any (w : World) (h op num : Int) (name : List UInt8) (A : Option Addr) (n c a hb : Nat) (hh : w.heap[hb]? = some (.cells #[.int .i64 h] 3 (0, 0))) :
    Calls Tryd.prog 35 #[.agg #[.int .i64 op, .int .i64 num, .string ⟨name.toArray⟩, .slice A n c], .int .i64 (a : Int), .pointer (some ⟨hb, 0, none⟩)] w fun e w' => e = .returned (.bool true) ∧ w'.heap[hb]? = some (.cells #[.int .i64 (max h (a : Int))] 3 (0, 0)) ∧ w.grownBy w' (some hb) := by
  have hlt : hb < w.heap.size := lt_of_block hh
  have q0 : w.cell? ⟨hb, 0, none⟩ = some (.int .i64 h) := by rw [cell_of_row w hb 0 _ _ _ hh]; rfl
  have f0 : w.frozen? ⟨hb, 0, none⟩ = false := by simp [World.frozen?, hh]
  have HH := Lib.hid hh
  clear hh
  go_enter Tryd.func35, Tryd.ntmps35
  go_wp2_with fail
  all_goals
    go_ret
    exact ⟨rfl, hv_end _ HH.out (by omega) _⟩

end Go.Proofs.YtfhpihpdijighaaDoor
