/- What Text of the made inputs returns, given what Program of the made inputs returns. -/
import Derived.Test.YtlnbmmgbfgmboaaQ8
import Derived.Test.YtlnbmmgbfgmboaaRefVlpG
namespace Go.Proofs.Ytlnbmmgbfgmboaa
open Go.RowKit

/-- what Program does with a list of numbers -/
def ProgC (xs : List Int) : Prop := ∀ (A : Option Addr) (cap : Nat) (w : World), IntR w A xs → xs.length ≤ cap → xs.length ≤ 9223372036854775807 → Calls Try.prog 18 #[.slice A xs.length cap] w (MpP w)

set_option maxRecDepth 100000 in
set_option maxHeartbeats 4000000 in
theorem mtext_of (xs : List Int) (hC : ProgC xs) (A : Option Addr) (cap : Nat) (w : World) (hR : IntR w A xs) (hc : xs.length ≤ cap) (hm : xs.length ≤ 9223372036854775807) :
    Calls Try.prog 6 #[.slice A xs.length cap] w fun e w' => ∃ P, PgW P ∧ e = .returned (.string ⟨(fmtT P).toArray⟩) ∧ Below w.heap.size w w' := by
  have HC := Lib.hid (hC A cap w hR hc hm)
  clear hC hR hc hm
  go_enter Try.func6, Try.ntmps6
  go_wp2_with fail
  refine HC.out.mono ?_
  rintro e w1 ⟨P, AG, AM, AF, cG, cM, cF, H, rfl, hP, hM, hb⟩
  have HP := Lib.hid hP
  have HB := Lib.hid hb
  have HF := Lib.hid (refFormatP_any P hP.md AG AM AF cG cM cF H w1 hM)
  clear hP hM hb
  go_wp2_with fail
  refine HF.out.mono ?_
  rintro e w2 ⟨rfl, hb2⟩
  have HB2 := Lib.hid (below_two HB.out hb2)
  clear hb2
  go_wp2_with fail
  go_ret
  exact ⟨P, HP.out, rfl, HB2.out⟩
theorem fmtT_len {P : Pg} (h : PgW P) : (fmtT P).length ≤ 101000 := by
  have := h.md.text
  unfold fmtT
  split
  · exact this
  · simp
theorem fmtT_lex {P : Pg} : (Tk.lex (fmtT P)).2.2 = 0 := by
  unfold fmtT
  split
  · assumption
  · rfl
end Go.Proofs.Ytlnbmmgbfgmboaa
