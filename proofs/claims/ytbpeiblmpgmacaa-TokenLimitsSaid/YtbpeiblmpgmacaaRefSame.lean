/- What SameTokens of the reference returns for lists with the same Kinds, Texts and Nums, and, if places count, the same Pos: true. -/
import Derived.Test.YtbpeiblmpgmacaaTokText
import Derived.Deep.QuietTactic
import Derived.BigQuiet
namespace Go.Proofs.Ytbpeiblmpgmacaa
open Go.RowKit

def SameT (p : Bool) (ts us : List Tk.Tok) : Prop :=
  us.length = ts.length ∧ ∀ i (h : i < ts.length) (h' : i < us.length), us[i].kind = ts[i].kind ∧ us[i].text = ts[i].text ∧ us[i].num = ts[i].num ∧ (p = true → us[i].pos = ts[i].pos)
theorem SameT.refl (p : Bool) (ts : List Tk.Tok) : SameT p ts ts := ⟨rfl, fun _ _ _ => ⟨rfl, rfl, rfl, fun _ => rfl⟩⟩

theorem below_drewN {B : Nat} {a w : World} (h : Below B a w) (n : Nat) : Below B a (w.drewN n) := ⟨h.os, h.tape, h.output, h.size, h.block⟩

set_option maxRecDepth 100000 in
set_option maxHeartbeats 1000000 in
theorem same_any (p : Bool) (ts us : List Tk.Tok) (A B : Option Addr) (ca cb : Nat) (w : World) (hT : TokS w A ts) (hU : TokS w B us) (hs : SameT p ts us) (hn : ts.length ≤ 1000000) :
    Calls Try.prog 17 #[.slice A ts.length ca, .slice B us.length cb, .bool p] w fun e w' => e = .returned (.bool true) ∧ Below w.heap.size w w' := by
  obtain ⟨hl, hs⟩ := hs
  have HT := Lib.hid hT
  have HU := Lib.hid hU
  have HS := Lib.hid hs
  clear hT hU hs
  have HL := Lib.hid hl
  rw [hl]
  clear hl
  have t0 := nF (show ((ts.length : Nat) : Int) = ts.length from rfl)
  go_enter Try.func17, Try.ntmps17
  go_wp2
  clear t0
  go_loopw [7] (fun i wr => ∃ k n : Nat, k ≤ ts.length ∧ i = .int .i64 k ∧ w.drewN n = wr) (fun i _ => ts.length - (intOf i).toNat)
  case atStart => exact ⟨0, 0, Nat.zero_le _, rfl, rfl⟩
  case round =>
    obtain ⟨k, n, hk, rfl, rfl⟩ := hrel
    by_cases hlt : k < ts.length
    · have hlu : k < us.length := by rw [HL.out]; exact hlt
      obtain ⟨b, rfl, a0, a1, a2, a3⟩ := HT.out k hlt
      obtain ⟨b', rfl, c0, c1, c2, c3⟩ := HU.out k hlu
      obtain ⟨s0, s1, s2, s3⟩ := HS.out k hlt hlu
      rw [s0] at c0
      rw [s1] at c1
      rw [s2] at c2
      clear s0 s1 s2
      have i0 : (0 : Int) ≤ (k : Int) := by omega
      have i1 : (k : Int) < (ts.length : Int) := by omega
      have n0 := nF (show ((ts[k].kind : Nat) : Int) = ts[k].kind from rfl)
      have n2 := nF (show ((ts[k].num : Nat) : Int) = ts[k].num from rfl)
      cases p with
      | true =>
        rw [s3 rfl] at c3
        have n3 := nF (show ((ts[k].pos : Nat) : Int) = ts[k].pos from rfl)
        clear s3
        go_wp2
        go_quiet (fail)
        go_wp2
        go_roundw
        case rel => exact ⟨k + 1, _, by omega, by go_num, rfl⟩
        case measure => simp [intOf]; omega
      | false =>
        clear s3 a3 c3
        go_wp2
        go_quiet (fail)
        go_wp2
        go_roundw
        case rel => exact ⟨k + 1, _, by omega, by go_num, rfl⟩
        case measure => simp [intOf]; omega
    · go_wp2
      go_ret
      exact ⟨rfl, below_drewN (Below.refl _ _) _⟩

end Go.Proofs.Ytbpeiblmpgmacaa
