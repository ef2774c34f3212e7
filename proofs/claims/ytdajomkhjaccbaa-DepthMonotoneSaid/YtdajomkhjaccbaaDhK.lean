/- The contracts of relations with one limit, for the walks of the laws. -/
import Derived.Test.YtdajomkhjaccbaaDhG
namespace Go.Proofs.Ytdajomkhjaccbaa
open Go.RowKit
set_option maxRecDepth 100000

structure RlK (k : Nat) (w : World) (A : Option Addr) (r : List Nat) : Prop where
  rd : RlR w A r
  g : RlG k r
theorem RlK.later {k : Nat} {w w' : World} {A : Option Addr} {r : List Nat} (h : RlK k w A r) (hb : Below w.heap.size w w') : RlK k w' A r := ⟨h.rd.later hb, h.g⟩
theorem RlK.v {k : Nat} {w : World} {A : Option Addr} {r : List Nat} (h : RlK k w A r) (hk : k ≤ 8) : RlV w A r := ⟨h.rd, h.g.bd hk, by rw [h.g.len]; omega⟩
/-- what a call returns: a relation with the limit k -/
def RqP (k : Nat) (w : World) (r : List Nat) (e : Ending) (w' : World) : Prop :=
  ∃ g, e = .returned (.slice (some ⟨g, 0, none⟩) (k + 1) (k + 1)) ∧ RlK k w' (some ⟨g, 0, none⟩) r ∧ Below w.heap.size w w'
theorem RqP.of {k n : Nat} {w w' : World} {r : List Nat} {e : Ending} (hg : RlG k r) (hn : n = k + 1) (h : RlP w n r e w') : RqP k w r e w' := by
  subst hn
  obtain ⟨g, he, ho, hb⟩ := h
  exact ⟨g, he, ⟨ho.read, hg⟩, hb⟩
section
variable {k : Nat} (hk : k ≤ 8) {w : World} {A B : Option Addr} {a b : List Nat}
include hk
theorem relation_k {xs : List Int} (ca : Nat) (hA : IrR w A xs) (hl : xs.length ≤ 9223372036854775807) : Calls Try.prog 25 #[.slice A xs.length ca, .int .i64 (k : Int)] w (RqP k w (relV xs k)) :=
  (relation_any w A xs ca k hA hk hl).mono fun _ _ h => RqP.of (relV_g xs k) rfl h
theorem compose_k (ca cb : Nat) (hA : RlK k w A a) (hB : RlK k w B b) : Calls Try.prog 19 #[.slice A (k + 1) ca, .slice B (k + 1) cb] w (RqP k w (cmV a b)) := by
  have h := compose_any w A B a b ca cb (hA.v hk) (hB.v hk)
  have e := hA.g.len
  rw [hA.g.len, hB.g.len] at h
  exact h.mono fun _ _ h => RqP.of (cmV_g hA.g hB.g) rfl h
theorem refCompose_k (ca cb : Nat) (hA : RlK k w A a) (hB : RlK k w B b) : Calls Try.prog 28 #[.slice A (k + 1) ca, .slice B (k + 1) cb] w (RqP k w (cmV a b)) := by
  have h := refCompose_any w A B a b ca cb (hA.v hk) (hB.v hk)
  rw [hA.g.len, hB.g.len] at h
  exact h.mono fun _ _ h => RqP.of (cmV_g hA.g hB.g) rfl h
theorem union_k (ca cb : Nat) (hA : RlK k w A a) (hB : RlK k w B b) : Calls Try.prog 29 #[.slice A (k + 1) ca, .slice B (k + 1) cb] w (RqP k w (unV a b)) := by
  have h := union_any w A B a b ca cb (hA.v hk) (hB.v hk)
  rw [hA.g.len, hB.g.len] at h
  exact h.mono fun _ _ h => RqP.of (unV_g hA.g hB.g) rfl h
theorem refUnion_k (ca cb : Nat) (hA : RlK k w A a) (hB : RlK k w B b) : Calls Try.prog 30 #[.slice A (k + 1) ca, .slice B (k + 1) cb] w (RqP k w (unV a b)) := by
  have h := refUnion_any w A B a b ca cb (hA.v hk) (hB.v hk) (by rw [hA.g.len, hB.g.len])
  rw [hA.g.len, hB.g.len] at h
  exact h.mono fun _ _ h => RqP.of (unV_g hA.g hB.g) rfl h
theorem apply_k {s : Nat} (ca : Nat) (hA : RlK k w A a) (hs : s < 512) : Calls Try.prog 26 #[.slice A (k + 1) ca, .int .i64 (s : Int)] w fun e w' => e = .returned (.int .i64 (apV a s : Int)) ∧ Below w.heap.size w w' := by
  have h := apply_any w A ca a s hA.rd (hA.g.bd hk) hs
  rw [hA.g.len] at h
  exact h
theorem refApply_k {s : Nat} (ca : Nat) (hA : RlK k w A a) (hs : s < 512) : Calls Try.prog 27 #[.slice A (k + 1) ca, .int .i64 (s : Int)] w fun e w' => e = .returned (.int .i64 (apV a s : Int)) ∧ w = w' := by
  have h := refApply_any w A ca a s hA.rd (hA.g.bd hk) hs (by rw [hA.g.len]; omega)
  rw [hA.g.len] at h
  exact h
theorem same_k (ca cb : Nat) (hA : RlK k w A a) (hB : RlK k w B b) (hab : a = b) : Calls Try.prog 23 #[.slice A (k + 1) ca, .slice B (k + 1) cb] w fun e w' => e = .returned (.bool true) ∧ Below w.heap.size w w' := by
  have h := sameInts_any w A B a b ca cb hA.rd hB.rd (by rw [hA.g.len]; omega) (by rw [hB.g.len]; omega)
  rw [hA.g.len, hB.g.len, beq_iff_eq.2 hab] at h
  exact h
theorem depWithin_k (ca cb : Nat) (hA : RlK k w A a) (hB : RlK k w B b) {v : Bool} (hv : wiV a b = v) : Calls Try.prog 31 #[.slice A (k + 1) ca, .slice B (k + 1) cb] w fun e w' => e = .returned (.bool v) ∧ w = w' := by
  have h := depWithin_any w A B a b ca cb (hA.v hk) (hB.v hk)
  rw [hA.g.len, hB.g.len, hv] at h
  exact h
theorem identity_k : Calls Try.prog 24 #[.int .i64 (k : Int)] w (RqP k w (idV k)) :=
  (identity_any w (k : Int) k rfl hk).mono fun _ _ h => RqP.of (idV_g k) rfl h
end
theorem closedV (k : Nat) (hk : k ≤ 8) : shV k 0 = idV k ∧ shV k 1 = upV k ∧ shV k (-1) = dnV k ∧ cmV (upV k) (dnV k) = (idV k).set k 0 := by
  rcases (show k = 0 ∨ k = 1 ∨ k = 2 ∨ k = 3 ∨ k = 4 ∨ k = 5 ∨ k = 6 ∨ k = 7 ∨ k = 8 by omega) with rfl | rfl | rfl | rfl | rfl | rfl | rfl | rfl | rfl <;> exact ⟨by decide +kernel, by decide +kernel, by decide +kernel, by decide +kernel⟩
theorem upV_g {k : Nat} (hk : k ≤ 8) : RlG k (upV k) := ⟨upV_len k, by
  rcases (show k = 0 ∨ k = 1 ∨ k = 2 ∨ k = 3 ∨ k = 4 ∨ k = 5 ∨ k = 6 ∨ k = 7 ∨ k = 8 by omega) with rfl | rfl | rfl | rfl | rfl | rfl | rfl | rfl | rfl <;> decide +kernel⟩
theorem dnV_g {k : Nat} (hk : k ≤ 8) : RlG k (dnV k) := ⟨dnV_len k, by
  rcases (show k = 0 ∨ k = 1 ∨ k = 2 ∨ k = 3 ∨ k = 4 ∨ k = 5 ∨ k = 6 ∨ k = 7 ∨ k = 8 by omega) with rfl | rfl | rfl | rfl | rfl | rfl | rfl | rfl | rfl <;> decide +kernel⟩
section
variable {k : Nat} (hk : k ≤ 8) {w : World}
include hk
theorem up_k : Calls Try.prog 20 #[.int .i64 (k : Int)] w (RqP k w (upV k)) :=
  (up_any w (k : Int) k rfl hk).mono fun _ _ h => RqP.of (upV_g hk) rfl h
theorem down_k : Calls Try.prog 21 #[.int .i64 (k : Int)] w (RqP k w (dnV k)) :=
  (down_any w (k : Int) k rfl hk).mono fun _ _ h => RqP.of (dnV_g hk) rfl h
theorem shift_k {c : Int} {r : List Nat} (hc : -1 ≤ c ∧ c ≤ 1) (hr : shV k c = r) (hg : RlG k r) : Calls Try.prog 22 #[.int .i64 (k : Int), .int .i64 c] w (RqP k w r) :=
  (shift_any w k c hk hc).mono fun _ _ h => RqP.of hg rfl (hr ▸ h)
end
end Go.Proofs.Ytdajomkhjaccbaa
