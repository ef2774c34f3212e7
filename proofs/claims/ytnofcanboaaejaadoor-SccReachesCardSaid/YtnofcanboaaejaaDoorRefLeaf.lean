/- What the small functions of the reference do: has, Reserved, letter, digit, and Within of the made inputs. -/
import Derived.Test.YtnofcanboaaejaaDoorTokSkip
namespace Go.Proofs.YtnofcanboaaejaaDoor
open Go.RowKit

/-- the slice at A holds the strings xs -/
def StrS (w : World) (A : Option Addr) (xs : List (List UInt8)) : Prop :=
  ∀ i (h : i < xs.length), ∃ b off, A = some ⟨b, off, none⟩ ∧ w.cell? ⟨b, off + i, none⟩ = some (.string ⟨xs[i].toArray⟩)

def hasB (xs : List (List UInt8)) (s : List UInt8) : Bool := xs.contains s

theorem not_in_take (xs : List (List UInt8)) (s : List UInt8) (m : Nat) (h : m < xs.length) (h0 : hasB (xs.take m) s = false) (h1 : (xs[m] == s) = false) : hasB (xs.take (m + 1)) s = false := by
  unfold hasB at *
  rw [List.take_succ_eq_append_getElem h, List.contains_eq_mem] 
  rw [List.contains_eq_mem] at h0
  simp only [decide_eq_false_iff_not, List.mem_append, List.mem_singleton, not_or] at h0 ⊢
  exact ⟨h0, fun e => by simp [e] at h1⟩
theorem in_at (xs : List (List UInt8)) (s : List UInt8) (m : Nat) (h : m < xs.length) (h1 : (xs[m] == s) = true) : hasB xs s = true := by
  unfold hasB
  simp at h1 ⊢
  rw [← h1]
  exact List.getElem_mem h

def strVals (xs : List (List UInt8)) : Array Value := (xs.map fun s => Value.string ⟨s.toArray⟩).toArray
theorem str_lit (w : World) (xs : List (List UInt8)) (t : TypeId) : StrS (w.alloc (.cells (strVals xs) t)) (some ⟨w.heap.size, 0, none⟩) xs := by
  intro i hi
  refine ⟨_, _, rfl, ?_⟩
  rw [Nat.zero_add, World.cell?_alloc_mark]
  simp [strVals, List.getElem?_eq_getElem hi]

/-- a number from 0 to n - 1 -/
def within (x : Int) (n : Nat) : Nat := (x % (n : Int)).toNat
theorem within_lt (x : Int) (n : Nat) (h : 0 < n) : within x n < n := by
  unfold within
  have h1 := Int.emod_lt_of_pos x (show (0 : Int) < n by omega)
  omega
theorem within_eq (x n : Int) (h : 0 < n) : (x.tmod n + n) % n = (within x n.toNat : Int) := by
  unfold within
  have h1 := Int.emod_nonneg x (show n ≠ 0 by omega)
  have h2 : x = x.tmod n + n * x.tdiv n := by have := Int.mul_tdiv_add_tmod x n; omega
  have h3 : (n.toNat : Int) = n := by omega
  rw [h3, Int.toNat_of_nonneg h1, Int.add_emod_right]
  conv => rhs; rw [h2]
  rw [Int.add_mul_emod_self_left]
set_option maxHeartbeats 400000 in
theorem within_any (x n : Int) (w : World) (_hx : -9223372036854775808 ≤ x ∧ x ≤ 9223372036854775807) (h0 : 0 < n) (h1 : n ≤ 1000000) :
    Calls Tryd.prog 18 #[.int .i64 x, .int .i64 n] w fun e w' => e = .returned (.int .i64 (within x n.toNat)) ∧ w = w' := by
  have q1 : x.tmod n < n := Int.tmod_lt_of_pos x h0
  have q2 : -n < x.tmod n := Int.lt_tmod_of_pos x h0
  have t0 := bF (show n ≠ 0 by omega)
  go_enter Tryd.func18, Tryd.ntmps18
  go_wp2
  go_ret
  exact ⟨ret_int (within_eq x n h0), rfl⟩

end Go.Proofs.YtnofcanboaaejaaDoor
