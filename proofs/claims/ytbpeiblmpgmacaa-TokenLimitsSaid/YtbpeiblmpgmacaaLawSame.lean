/- What the comparison of both Lex functions answers for every slice of at most 262144 bytes: true. -/
import Derived.Test.YtbpeiblmpgmacaaRefLex
import Derived.Test.YtbpeiblmpgmacaaRefSame
import Derived.Test.YtbpeiblmpgmacaaTokAwake
namespace Go.Proofs.Ytbpeiblmpgmacaa
open Go.RowKit

/-- what Lex leaves, with the slice written out -/
theorem lexPost_open {w w' : World} {R : List Tk.Tok × Nat × Nat} {e : Ending} (h : LexPost w R e w') : ∃ A c, e = .returned (.tuple #[.slice A R.1.length c, .int .i64 (R.2.1 : Int), .int .i64 (R.2.2 : Int)]) ∧ TokS w' A R.1 ∧ Below w.heap.size w w' := by
  obtain ⟨v, rfl, hown, hb⟩ := h
  obtain ⟨A, c, rfl⟩ := owns_form hown
  exact ⟨A, c, rfl, TokS.of_own rfl hown, hb⟩

theorem lexGo_len (f : Nat) (l : List UInt8) (k : Nat) (acc : List Tk.Tok) (h : acc.length ≤ 4000) : (Tk.lexGo f l k acc).1.length ≤ 4001 := by
  induction f generalizing k acc with
  | zero => simp [Tk.lexGo]
  | succ f ih =>
    rw [Tk.lexGo]
    split
    · simp; omega
    · split
      · simp
      · split
        · simp
        · exact ih _ _ (by simp; omega)
theorem lex_len (l : List UInt8) : (Tk.lex l).1.length ≤ 4001 := by
  unfold Tk.lex
  split
  · simp
  · exact lexGo_len _ _ _ _ (by simp)

set_option maxRecDepth 100000 in
set_option maxHeartbeats 1000000 in
theorem sameB_any (l : List UInt8) (ao : Option Addr) (cap : Nat) (w : World) (hB : Byt w ao l) (hl : l.length ≤ 262144) (hcap : l.length ≤ cap) :
    Calls Try.prog 10 #[.slice ao l.length cap] w fun e w' => e = .returned (.bool true) ∧ Below w.heap.size w w' := by
  have hlen := lex_len l
  have HX := Lib.hid (lex_any l ao cap w hB hl hcap)
  have HY := fun w1 (h1 : Below w.heap.size w w1) => refLex_any l ao cap w1 (hB.later h1) hl hcap
  have HYY := Lib.hid HY
  clear HY
  obtain ⟨ts, n, e0, hR⟩ : ∃ ts n e0, Tk.lex l = (ts, n, e0) := ⟨_, _, _, rfl⟩
  rw [hR] at HX HYY hlen
  dsimp only at hlen
  clear hR hB
  have t1 := bT (show ((n : Nat) : Int) = n from rfl)
  have t2 := bT (show ((e0 : Nat) : Int) = e0 from rfl)
  go_enter Try.func10, Try.ntmps10
  go_wp2_with fail
  refine HX.out.mono ?_
  intro e w1 hp
  obtain ⟨A, c, rfl, hT, hb1⟩ := lexPost_open hp
  have HT := Lib.hid hT
  have HB1 := Lib.hid hb1
  clear hp hT hb1
  go_wp2_with fail
  refine (HYY.out w1 HB1.out).mono ?_
  intro e w2 hp
  obtain ⟨A2, c2, rfl, hU, hb2⟩ := lexPost_open hp
  have HU := Lib.hid hU
  have HB2 := Lib.hid hb2
  clear hp hU hb2
  go_wp2_with fail
  refine (same_any true ts ts A A2 c c2 w2 (HT.out.later HB2.out) HU.out (SameT.refl _ _) (by omega)).mono ?_
  rintro e w3 ⟨rfl, hb3⟩
  have HB3 := Lib.hid hb3
  clear hb3
  go_wp2
  go_ret
  refine ⟨rfl, ?_⟩
  have h1 := HB1.out
  have h2 := HB2.out
  have h3 := HB3.out
  exact (h1.trans (h2.mono h1.size)).trans (h3.mono (Nat.le_trans h1.size h2.size))

set_option maxRecDepth 100000 in
set_option maxHeartbeats 1000000 in
theorem tokenLex_any (l : List UInt8) (ao : Option Addr) (cap : Nat) (w : World) (hB : Byt w ao l) (hl : l.length ≤ 9223372036854775807) (hcap : l.length ≤ cap) :
    Calls Try.prog 3 #[.slice ao l.length cap] w fun e w' => e = .returned (.bool true) ∧ Below w.heap.size w w' := by
  have hT : Byt w ao (l.take 4000) := by
    intro i hi
    have hi' : i < l.length := by simp at hi; omega
    obtain ⟨b, off, e, hc⟩ := hB i hi'
    exact ⟨b, off, e, by rw [hc]; simp⟩
  by_cases h4 : l.length ≤ 4000
  · have HS := Lib.hid (sameB_any l ao cap w hB (by omega) hcap)
    have m4 : min (l.length : Int) 4000 = (l.length : Int) := by omega
    clear hT hB
    go_enter Try.func3, Try.ntmps3
    go_wp2_with fail
    refine HS.out.mono ?_
    rintro e w1 ⟨rfl, hb1⟩
    go_wp2_with fail
    refine (awake_any _).mono ?_
    rintro e w2 ⟨rfl, hb2⟩
    go_wp2
    go_ret
    exact ⟨rfl, hb1.trans (hb2.mono hb1.size)⟩
  · have hlen : (l.take 4000).length = 4000 := by simp; omega
    have hs := sameB_any (l.take 4000) ao cap w hT (by omega) (by omega)
    rw [hlen] at hs
    have HS := Lib.hid hs
    have m4 : min (l.length : Int) 4000 = 4000 := by omega
    have hcap4 : 4000 ≤ cap := by omega
    clear hT hB hs hlen
    go_enter Try.func3, Try.ntmps3
    go_wp2_with fail
    refine HS.out.mono ?_
    rintro e w1 ⟨rfl, hb1⟩
    go_wp2_with fail
    refine (awake_any _).mono ?_
    rintro e w2 ⟨rfl, hb2⟩
    go_wp2
    go_ret
    exact ⟨rfl, hb1.trans (hb2.mono hb1.size)⟩

end Go.Proofs.Ytbpeiblmpgmacaa
