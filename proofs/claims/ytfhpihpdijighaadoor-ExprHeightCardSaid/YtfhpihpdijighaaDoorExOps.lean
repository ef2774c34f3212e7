/- What the small functions on operators of package expr return. -/
import Derived.Test.YtfhpihpdijighaaDoorPsSpec
import Derived.Test.YtfhpihpdijighaaDoorSrcExpr
import Derived.Deep.QuietTactic
import Derived.BigQuiet
namespace Go.Proofs.YtfhpihpdijighaaDoor
open Go.RowKit

theorem strD_out (op : Int) (h : ¬ (1 ≤ op ∧ op ≤ 17)) : Ps.strD op = 0 := if_neg h

set_option maxRecDepth 100000 in
set_option maxHeartbeats 4000000 in
theorem strengthD_any (op : Int) (w : World) : Calls Tryd.prog 49 #[.int .i64 op] w fun e w' => e = .returned (.int .i64 (Ps.strD op : Int)) ∧ w = w' := by
  by_cases h : 1 ≤ op ∧ op ≤ 17
  · have hc : op = 1 ∨ op = 2 ∨ op = 3 ∨ op = 4 ∨ op = 5 ∨ op = 6 ∨ op = 7 ∨ op = 8 ∨ op = 9 ∨ op = 10 ∨ op = 11 ∨ op = 12 ∨ op = 13 ∨ op = 14 ∨ op = 15 ∨ op = 16 ∨ op = 17 := by omega
    clear h
    rcases hc with rfl | rfl | rfl | rfl | rfl | rfl | rfl | rfl | rfl | rfl | rfl | rfl | rfl | rfl | rfl | rfl | rfl
    all_goals
      go_enter Tryd.func49, Tryd.ntmps49
      go_wp2
      go_ret
      exact ⟨ret_int (by decide), rfl⟩
  · have HZ := Lib.hid (strD_out op h)
    have b1 := bF (show op ≠ 1 by omega)
    have b2 := bF (show op ≠ 2 by omega)
    have b3 := bF (show op ≠ 3 by omega)
    have b4 := bF (show op ≠ 4 by omega)
    have b5 := bF (show op ≠ 5 by omega)
    have b6 := bF (show op ≠ 6 by omega)
    have b7 := bF (show op ≠ 7 by omega)
    have b8 := bF (show op ≠ 8 by omega)
    have b9 := bF (show op ≠ 9 by omega)
    have b10 := bF (show op ≠ 10 by omega)
    have b11 := bF (show op ≠ 11 by omega)
    have b12 := bF (show op ≠ 12 by omega)
    have b13 := bF (show op ≠ 13 by omega)
    have b14 := bF (show op ≠ 14 by omega)
    have b15 := bF (show op ≠ 15 by omega)
    have b16 := bF (show op ≠ 16 by omega)
    have b17 := bF (show op ≠ 17 by omega)
    clear h
    go_enter Tryd.func49, Tryd.ntmps49
    go_wp2
    go_ret
    exact ⟨ret_int (by rw [HZ.out]; rfl), rfl⟩

def unB (op : Int) : Bool := op == 3 || op == 4
def biB (op : Int) : Bool := decide (5 ≤ op) && decide (op ≤ 17)
set_option maxHeartbeats 1000000 in
theorem isUnary_any (op : Int) (w : World) : Calls Tryd.prog 58 #[.int .i64 op] w fun e w' => e = .returned (.bool (unB op)) ∧ w = w' := by
  go_enter Tryd.func58, Tryd.ntmps58
  go_wp2
  all_goals
    go_ret
    refine ⟨ret_bool ?_, rfl⟩
    rw [Bool.eq_iff_iff]
    simp [unB]
    try omega
set_option maxHeartbeats 1000000 in
theorem isBinary_any (op : Int) (w : World) : Calls Tryd.prog 59 #[.int .i64 op] w fun e w' => e = .returned (.bool (biB op)) ∧ w = w' := by
  go_enter Tryd.func59, Tryd.ntmps59
  go_wp2
  all_goals
    go_ret
    refine ⟨ret_bool ?_, rfl⟩
    rw [Bool.eq_iff_iff]
    simp [biB]
    omega

/-- the package's table of signs lies in memory -/
def SgT (w : World) : Prop := ∀ i (h : i < Ps.sgTab.length), w.cell? ⟨0, i, none⟩ = some (.string ⟨Ps.sgTab[i].toArray⟩)
theorem SgT.later {w w' : World} (h : SgT w) (hb : Below w.heap.size w w') : SgT w' := fun i hi => cell_later hb (h i hi)
theorem SgT.lt {w : World} (h : SgT w) : 0 < w.heap.size := World.block_lt_of_cell? _ _ (h 0 (by decide))
theorem SgT.keep {w w' : World} (h : SgT w) (hb : w'.heap[(0 : Nat)]? = w.heap[(0 : Nat)]?) : SgT w' := fun i hi => (World.cell?_of_block hb).trans (h i hi)

theorem str_eq_T {a b : List UInt8} (h : a = b) : (a == b) = true := beq_iff_eq.2 h
theorem str_eq_F {a b : List UInt8} (h : a ≠ b) : (a == b) = false := beq_eq_false_iff_ne.2 h
theorem str_ne_T {a b : List UInt8} (h : a ≠ b) : (a != b) = true := bne_iff_ne.2 h
theorem str_ne_F {a b : List UInt8} (h : a = b) : (a != b) = false := by simp [h]
theorem opFind_hit (s : List UInt8) (n op : Nat) (h : op < Ps.sgTab.length) (he : Ps.sgTab[op] = s) : Ps.opFind s (n + 1) op = op := by
  have : Ps.sgTab.getD op [] = s := by rw [← he]; simp [List.getD, List.getElem?_eq_getElem h]
  rw [Ps.opFind, if_pos this]
theorem opFind_miss (s : List UInt8) (n op : Nat) (h : op < Ps.sgTab.length) (he : Ps.sgTab[op] ≠ s) : Ps.opFind s (n + 1) op = Ps.opFind s n (op + 1) := by
  have : Ps.sgTab.getD op [] ≠ s := by simpa [List.getD, List.getElem?_eq_getElem h] using he
  rw [Ps.opFind, if_neg this]

set_option maxRecDepth 100000 in
set_option maxHeartbeats 2000000 in
theorem find_any (s : List UInt8) (first n : Nat) (last : Int) (hlast : last + 1 = first + n) (hn : first + n ≤ 18) (w : World) (hT : SgT w) :
    Calls Tryd.prog 67 #[.string ⟨s.toArray⟩, .int .i64 (first : Int), .int .i64 last] w fun e w' => e = .returned (.int .i64 (Ps.opFind s n first : Int)) ∧ w = w' := by
  have HT := Lib.hid hT
  clear hT
  have hlen : Ps.sgTab.length = 18 := rfl
  obtain ⟨N, hN⟩ : ∃ N, N = Ps.sgTab.length := ⟨_, rfl⟩
  have HN := Lib.hid hN
  rw [hlen] at hN
  have hl1 : last ≤ 17 := by omega
  have hl0 : -1 ≤ last := by omega
  have HLA := Lib.hid hlast
  clear hlast hlen hN
  go_enter Tryd.func67, Tryd.ntmps67
  go_wp2
  go_loop [7] (fun i => ∃ op m : Nat, op ≤ 18 ∧ i = .int .i64 (op : Int) ∧ Hid ((op : Int) + m = last + 1) ∧ Hid (Ps.opFind s m op = Ps.opFind s n first)) (fun i => (last + 1 - intOf i).toNat)
  case atStart => exact ⟨first, n, by omega, rfl, HLA.out.symm, rfl⟩
  case round =>
    obtain ⟨op, m, hop, rfl, hm, hrel⟩ := hrel
    by_cases hlt : (op : Int) ≤ last
    · have hol : op < Ps.sgTab.length := by rw [← HN.out]; have := HN.out; simp [Ps.sgTab] at this; omega
      have hc := HT.out op hol
      obtain ⟨m', rfl⟩ : ∃ m', m = m' + 1 := ⟨m - 1, by have := hm.out; omega⟩
      have i0 : (0 : Int) ≤ (op : Int) := by omega
      have i1 : (op : Int) < 18 := by omega
      have i2 : op < 18 := by omega
      have HH := Lib.hid (opFind_hit s m' op hol)
      have HM := Lib.hid (opFind_miss s m' op hol)
      generalize Ps.sgTab[op] = x at *
      clear hol
      by_cases he : x = s
      · have HE := Lib.hid ((HH.out he).symm.trans hrel.out)
        have t1 := str_eq_T he
        clear he
        go_wp2
        go_ret
        exact ⟨ret_int (by rw [← HE.out]), rfl⟩
      · have HE := Lib.hid ((HM.out he).symm.trans hrel.out)
        have t1 := str_eq_F he
        clear he
        go_wp2
        go_round
        case rel => exact ⟨op + 1, m', by omega, by go_num, by have := hm.out; show _ = _; omega, HE⟩
        case measure => simp [intOf]; omega
    · obtain rfl : m = 0 := by have := hm.out; omega
      go_wp2
      go_ret
      exact ⟨ret_int (by rw [← hrel.out]; rfl), rfl⟩

set_option maxHeartbeats 1000000 in
theorem unaryOp_any (s : List UInt8) (w : World) (hT : SgT w) : Calls Tryd.prog 64 #[.string ⟨s.toArray⟩] w fun e w' => e = .returned (.int .i64 (Ps.uop s : Int)) ∧ w = w' := by
  have HT := Lib.hid hT
  clear hT
  go_enter Tryd.func64, Tryd.ntmps64
  go_wp2_with fail
  refine (find_any s 3 2 4 (by omega) (by omega) w HT.out).mono ?_
  rintro e w' ⟨rfl, rfl⟩
  go_wp2
  go_ret
  exact ⟨rfl, rfl⟩
set_option maxHeartbeats 1000000 in
theorem binaryOp_any (s : List UInt8) (w : World) (hT : SgT w) : Calls Tryd.prog 47 #[.string ⟨s.toArray⟩] w fun e w' => e = .returned (.int .i64 (Ps.bop s : Int)) ∧ w = w' := by
  have HT := Lib.hid hT
  clear hT
  go_enter Tryd.func47, Tryd.ntmps47
  go_wp2_with fail
  refine (find_any s 5 13 17 (by omega) (by omega) w HT.out).mono ?_
  rintro e w' ⟨rfl, rfl⟩
  go_wp2
  go_ret
  exact ⟨rfl, rfl⟩

end Go.Proofs.YtfhpihpdijighaaDoor
