/- What the functions do that relation is given: Compose, Up, Down, Union. -/
import Derived.Test.YtdajomkhjaccbaaDhA
namespace Go.Proofs.Ytdajomkhjaccbaa
open Go.RowKit
set_option maxRecDepth 100000

theorem quiet_same {P : Program} {f : FuncId} {args : Array Value} {w : World} {n : Nat} {v : Value}
    (h : Calls P f args (w.drewN n) fun e w' => e = .returned v ∧ w.drewN n = w') : Calls P f args (w.drewN n) fun e w'' => e = .returned v ∧ ∃ m, w'' = w.drewN m :=
  h.mono fun _ _ ⟨he, hm⟩ => ⟨he, n, hm.symm⟩
theorem composeC_any (w : World) (ga gb ca cb : Nat) (A B : Option Addr) (a b : List Nat) (d : Nat) (hA : Box w ga A a ca) (hB : Box w gb B b cb) (ha : BdR a) (hb : BdR b) (hd : d < a.length) :
    Calls Try.prog 37 #[.int .i64 (d : Int), .pointer (some ⟨gb, 0, none⟩), .pointer (some ⟨ga, 0, none⟩)] w fun e w' => e = .returned (.int .i64 ((apV b (a.getD d 0) : Nat) : Int)) ∧ Below w.heap.size w w' := by
  have c0 := hA.1
  have c1 := hB.1
  obtain ⟨b0, rfl, c2⟩ := hA.2 d hd
  have hv := ha.at d hd
  rw [getD_in a d hd]
  generalize a[d] = v at *
  have HP := Lib.hid (apply_any w.drew B cb b v (hB.2.later (Below.drew (Below.refl _ _))) hb hv)
  have HD : Hid (∀ W', Below w.drew.heap.size w.drew W' → Below w.heap.size w W') := fun W' h => below_two (Below.drew (Below.refl _ _)) h
  have hd0 : (0 : Int) ≤ (d : Int) := by omega
  have hd1 : (d : Int) < (a.length : Int) := by omega
  clear hA hB ha hb
  go_enter Try.func37, Try.ntmps37
  go_wp2_with fail
  go_still_tail 5, (by kernel_rfl)
  change wpList _ _ _ _ _ w.drew
  generalize w.drew = wd at *
  go_wp2_with fail
  refine HP.out.mono ?_
  rintro e w1 ⟨rfl, hb1⟩
  have HB1 := Lib.hid (HD.out _ hb1)
  clear hb1 HD
  go_wp2_with fail
  go_ret
  exact ⟨rfl, HB1.out⟩
theorem upC_any (w : World) (g k : Nat) (d : Nat) (h : w.cell? ⟨g, 0, none⟩ = some (.int .i64 (k : Int))) (hk : k ≤ 8) (hd : d ≤ 8) :
    Calls Try.prog 38 #[.int .i64 (d : Int), .pointer (some ⟨g, 0, none⟩)] w fun e w' => e = .returned (.int .i64 ((2 ^ (d + 1) &&& (2 ^ (k + 1) - 1) : Nat) : Int)) ∧ Below w.heap.size w w' := by
  have HN := Lib.hid (fun W => only_any ((d : Int) + 1) (d + 1) W (by omega) (by omega))
  have HF := Lib.hid (fun W => full_any (k : Int) k W rfl hk)
  have HA := Lib.hid (and_nat (2 ^ (d + 1)) (2 ^ (k + 1) - 1) (by have := pow_le (d + 1) (by omega); omega) (by have := pow_le (k + 1) (by omega); omega))
  have j1 : IntKind.i64.wrap ((d : Int) + 1) = (d : Int) + 1 := by rw [IntKind.wrap_i64]; omega
  generalize 2 ^ (d + 1) = p at *
  generalize 2 ^ (k + 1) - 1 = q at *
  go_enter Try.func38, Try.ntmps38
  go_wp2_with fail
  go_quiet (first | (go_at_call 35; exact quiet_same (HN.out _)) | (go_at_call 15; exact quiet_same (HF.out _)))
  go_wp2
  go_ret
  exact ⟨ret_int HA.out, below_drewN (Below.refl _ _) _⟩
theorem downC_any (w : World) (d : Nat) (hd : d ≤ 8) :
    Calls Try.prog 39 #[.int .i64 (d : Int)] w fun e w' => e = .returned (.int .i64 (((if d = 0 then 0 else 2 ^ (d - 1)) : Nat) : Int)) ∧ Below w.heap.size w w' := by
  cases d with
  | zero =>
    have HN := Lib.hid (fun W => only_neg (-1) W (by omega))
    show Calls Try.prog 39 #[.int .i64 0] w fun e w' => e = .returned (.int .i64 0) ∧ Below w.heap.size w w'
    go_enter Try.func39, Try.ntmps39
    go_wp2_with fail
    refine (HN.out _).mono ?_
    rintro e w1 ⟨rfl, rfl⟩
    go_wp2_with fail
    go_ret
    exact ⟨rfl, Below.refl _ _⟩
  | succ m =>
    have HN := Lib.hid (fun W => only_any (m : Int) m W rfl (by omega))
    rw [if_neg (by omega), Nat.add_sub_cancel]
    generalize 2 ^ m = p at *
    go_enter Try.func39, Try.ntmps39
    go_wp2_with fail
    refine (HN.out _).mono ?_
    rintro e w1 ⟨rfl, rfl⟩
    go_wp2_with fail
    go_ret
    exact ⟨rfl, Below.refl _ _⟩
theorem unionC_any (w : World) (ga gb ca cb : Nat) (A B : Option Addr) (a b : List Nat) (d : Nat) (hA : Box w ga A a ca) (hB : Box w gb B b cb) (ha : BdR a) (hb : BdR b) (hd : d < a.length) (hl : a.length ≤ 9) :
    Calls Try.prog 43 #[.int .i64 (d : Int), .pointer (some ⟨ga, 0, none⟩), .pointer (some ⟨gb, 0, none⟩)] w fun e w' => e = .returned (.int .i64 ((a.getD d 0 ||| b.getD d 0 : Nat) : Int)) ∧ Below w.heap.size w w' := by
  have c0 := hA.1
  have c1 := hB.1
  obtain ⟨b0, rfl, c2⟩ := hA.2 d hd
  have hv := ha.at d hd
  have hu := hb.getD d
  rw [getD_in a d hd]
  generalize a[d] = v at *
  have HF := Lib.hid (fun n => follow_any (w.drewN n) B cb b d (hB.2.later (below_drewN (Below.refl _ _) n)) (by omega))
  have HO := Lib.hid (or_nat v (b.getD d 0) (by omega) (by omega))
  generalize b.getD d 0 = u at *
  have hd0 : (0 : Int) ≤ (d : Int) := by omega
  have hd1 : (d : Int) < (a.length : Int) := by omega
  clear hA hB ha hb
  go_enter Try.func43, Try.ntmps43
  go_wp2_with fail
  go_quiet ((go_at_call 41; exact quiet_same (HF.out _)))
  go_wp2
  go_ret
  exact ⟨ret_int HO.out, below_drewN (Below.refl _ _) _⟩
end Go.Proofs.Ytdajomkhjaccbaa
