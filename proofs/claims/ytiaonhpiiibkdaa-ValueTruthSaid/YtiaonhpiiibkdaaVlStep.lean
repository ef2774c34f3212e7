/- What the methods of package value's step do. -/
import Derived.Test.YtiaonhpiiibkdaaVlLeaf
import Derived.RegionTactic
import Derived.Deep.RegionHeld3
namespace Go.Proofs.Ytiaonhpiiibkdaa
open Go.RowKit
set_option maxRecDepth 100000

/-- is no further Arg to be evaluated, told by the operator and the number of its Args -/
def decB (op : Int) (n k : Nat) (x : Int) : Bool := (k == 1 && (op == 16 && x == 0 || op == 17 && !(x == 0))) || k == n
theorem decV_eq (E : Ex) (k : Nat) (x : Int) : decV E k x = decB E.op E.argsOf.length k x := rfl
/-- the four cells of a step -/
def StpAt (w : World) (g o b p k : Nat) (x y : Int) : Prop :=
  w.cell? ⟨g, o, none⟩ = some (.pointer (some ⟨b, p, none⟩)) ∧ w.cell? ⟨g, o + 1, none⟩ = some (.int .i64 (k : Int)) ∧ w.cell? ⟨g, o + 2, none⟩ = some (.int .i64 x) ∧ w.cell? ⟨g, o + 3, none⟩ = some (.int .i64 y)

set_option maxHeartbeats 1000000 in
theorem decided_any (w : World) (g o b p k : Nat) (x y : Int) (f : EF) (hs : StpAt w g o b p k x y) (he : EFat w b p f) :
    Calls Try.prog 23 #[.pointer (some ⟨g, o, none⟩)] w fun e w' => e = .returned (.bool (decB f.op f.n k x)) ∧ Below w.heap.size w w' := by
  obtain ⟨s0, s1, s2, s3⟩ := hs
  obtain ⟨e0, e1, e2, e3⟩ := he
  have HV : Hid (decB f.op f.n k x = ((k == 1 && (f.op == 16 && x == 0 || f.op == 17 && !(x == 0))) || k == f.n)) := rfl
  obtain ⟨op, num, name, A, n, c⟩ := f
  dsimp only at *
  have HL : Hid ((k == n) = ((k : Int) == (n : Int))) := by
    show _ = _
    rw [Bool.eq_iff_iff]
    simp
    omega
  by_cases hk : k = 1
  · have tk := bT (show (k : Int) = 1 by omega)
    have HV1 : Hid (decB op n k x = ((op == 16 && x == 0 || op == 17 && !(x == 0)) || k == n)) := by show _ = _; rw [HV.out, hk]; rfl
    clear HV
    by_cases h16 : op = 16 <;> by_cases h17 : op = 17 <;> by_cases hx : x = 0
    all_goals
      first | have t16 := bT h16 | have t16 := bF h16
      first | have t17 := bT h17 | have t17 := bF h17
      first | have tx := bT hx | have tx := bF hx
      rw [t16, t17, tx] at HV1
      clear h16 h17 hx hk
    all_goals
      go_enter Try.func23, Try.ntmps23
      go_wp2
      try (go_region; go_wp2)
    all_goals
      go_ret
      refine ⟨ret_bool ?_, ?_⟩
      · rw [HV1.out]
        simp [HL.out]
      · first | exact Below.refl _ _ | exact (Below.refl _ _).drew
  · have tk := bF (show (k : Int) ≠ 1 by omega)
    have HV1 : Hid (decB op n k x = (k == n)) := by show _ = _; rw [HV.out, beq_eq_false_iff_ne.2 hk]; rfl
    clear HV hk
    go_enter Try.func23, Try.ntmps23
    go_wp2
    go_region
    go_wp2
    go_ret
    refine ⟨ret_bool ?_, (Below.refl _ _).drew⟩
    rw [HV1.out, HL.out]

set_option maxHeartbeats 1000000 in
theorem add_any (w : World) (g o b p k : Nat) (x y v : Int) (hs : StpAt w g o b p k x y) (hk : k ≤ 1) (hf : ∀ j, w.frozen? ⟨g, j, none⟩ = false) :
    Calls Try.prog 25 #[.pointer (some ⟨g, o, none⟩), .int .i64 v] w fun e w' => e = .returned (.tuple #[]) ∧ w' = (w.setCell ⟨g, o + 2 + k, none⟩ (.int .i64 v)).setCell ⟨g, o + 1, none⟩ (.int .i64 ((k + 1 : Nat) : Int)) := by
  obtain ⟨s0, s1, s2, s3⟩ := hs
  have f1 := hf (o + 1)
  have f2 := hf (o + 2)
  have f3 := hf (o + 3)
  have hc : k = 0 ∨ k = 1 := by omega
  rcases hc with rfl | rfl
  · go_enter Try.func25, Try.ntmps25
    go_wp2
    refine bodyPost_end (results_none rfl _ _ _) rfl ?_
    exact ⟨rfl, rfl⟩
  · go_enter Try.func25, Try.ntmps25
    go_wp2
    refine bodyPost_end (results_none rfl _ _ _) rfl ?_
    exact ⟨rfl, rfl⟩
end Go.Proofs.Ytiaonhpiiibkdaa
