/- What the fixed example of the statements about tokens answers: true. -/
import Derived.Test.YtbpeiblmpgmacaaTokText
import Derived.Lib.SlBytesConst
namespace Go.Proofs.Ytbpeiblmpgmacaa
open Go.RowKit

def txt1 : List UInt8 := [108, 111, 99, 107, 32, 97, 91, 49, 93, 59, 32, 47, 47, 32, 98]
def txt2 : List UInt8 := [97, 32, 38, 32, 98]
def toks1 : List Tk.Tok := [⟨3, [108, 111, 99, 107], 0, 0⟩, ⟨1, [97], 0, 5⟩, ⟨4, [91], 0, 6⟩, ⟨2, [49], 1, 7⟩, ⟨4, [93], 0, 8⟩, ⟨4, [59], 0, 9⟩, ⟨5, [], 0, 15⟩]
theorem lex1 : Tk.lex txt1 = (toks1, 15, 0) := by decide +kernel
theorem lex2 : Tk.lex txt2 = ([], 2, 1) := by decide +kernel
theorem textOf1 : textOf toks1 = [108, 111, 99, 107, 32, 97, 32, 91, 32, 49, 32, 93, 32, 59] := by decide +kernel

def byteVals (l : List UInt8) : Array Value := (l.map fun c => Value.int .u8 (c.toNat : Int)).toArray
theorem byt_lit (w : World) (l : List UInt8) (t : TypeId) (fr : Nat × Nat) : Byt (w.alloc (.cells (byteVals l) t fr)) (some ⟨w.heap.size, 0, none⟩) l := by
  intro i hi
  refine ⟨_, _, rfl, ?_⟩
  rw [Nat.zero_add, World.cell?_alloc_mark]
  simp [byteVals, List.getElem?_eq_getElem hi]

/-- what the first call leaves -/
def Lex1Post (w : World) (e : Ending) (w' : World) : Prop :=
  ∃ g c, e = .returned (.tuple #[.slice (some ⟨g, 0, none⟩) 7 c, .int .i64 15, .int .i64 0]) ∧ TokS w' (some ⟨g, 0, none⟩) toks1 ∧ g < w'.heap.size ∧ Below w.heap.size w w'
theorem lexA_any (w : World) : Calls Try.prog 14 #[.slice (some ⟨w.heap.size, 0, none⟩) 15 15] (w.alloc (.cells #[.int .u8 108, .int .u8 111, .int .u8 99, .int .u8 107, .int .u8 32, .int .u8 97, .int .u8 91, .int .u8 49, .int .u8 93, .int .u8 59, .int .u8 32, .int .u8 47, .int .u8 47, .int .u8 32, .int .u8 98] 5 (15, 16))) (Lex1Post w) := by
  have hB : Byt (w.alloc (.cells #[.int .u8 108, .int .u8 111, .int .u8 99, .int .u8 107, .int .u8 32, .int .u8 97, .int .u8 91, .int .u8 49, .int .u8 93, .int .u8 59, .int .u8 32, .int .u8 47, .int .u8 47, .int .u8 32, .int .u8 98] 5 (15, 16))) (some ⟨w.heap.size, 0, none⟩) txt1 := byt_lit w txt1 5 (15, 16)
  refine (lex_any txt1 (some ⟨w.heap.size, 0, none⟩) 15 _ hB (by decide) (by decide)).mono ?_
  rintro e w' ⟨v, rfl, hown, hbel⟩
  rw [lex1] at hown ⊢
  have hT := fun A c (hv : v = .slice A toks1.length c) => TokS.of_own (ts := toks1) rfl (hv ▸ hown)
  obtain ⟨A, c, rfl⟩ := owns_form hown
  obtain ⟨g, hA, h0, _⟩ := hT A c rfl 0 (by decide)
  subst hA
  refine ⟨g, c, rfl, hT _ c rfl, World.block_lt_of_cell? _ _ h0, ?_⟩
  exact ((Below.refl _ _).alloc (Nat.le_refl _) _).trans (hbel.mono (by simp))
theorem lexB_any (w : World) : Calls Try.prog 14 #[.slice (some ⟨w.heap.size, 0, none⟩) 5 5] (w.alloc (.cells #[.int .u8 97, .int .u8 32, .int .u8 38, .int .u8 32, .int .u8 98] 5 (5, 6))) fun e w' => (∃ v, e = .returned (.tuple #[v, .int .i64 2, .int .i64 1])) ∧ Below w.heap.size w w' := by
  have hB : Byt (w.alloc (.cells #[.int .u8 97, .int .u8 32, .int .u8 38, .int .u8 32, .int .u8 98] 5 (5, 6))) (some ⟨w.heap.size, 0, none⟩) txt2 := byt_lit w txt2 5 (5, 6)
  refine (lex_any txt2 (some ⟨w.heap.size, 0, none⟩) 5 _ hB (by decide) (by decide)).mono ?_
  rintro e w' ⟨v, rfl, hown, hbel⟩
  rw [lex2]
  refine ⟨⟨v, rfl⟩, ?_⟩
  exact ((Below.refl _ _).alloc (Nat.le_refl _) _).trans (hbel.mono (by simp))
theorem textA_any (w : World) (g c : Nat) (hT : TokS w (some ⟨g, 0, none⟩) toks1) : Calls Try.prog 15 #[.slice (some ⟨g, 0, none⟩) 7 c] w fun e w' => e = .returned (.string ⟨#[108, 111, 99, 107, 32, 97, 32, 91, 32, 49, 32, 93, 32, 59]⟩) ∧ Below w.heap.size w w' := by
  have := text_any toks1 (some ⟨g, 0, none⟩) c w hT (by decide) (by rw [textOf1]; decide)
  rw [textOf1] at this
  exact this

theorem reservedGo (w : World) : Calls Try.prog 21 #[.string ⟨#[103, 111]⟩] w fun e w' => e = .returned (.bool true) ∧ w = w' := by
  refine (reserved_any [103, 111] w).mono ?_
  rintro e w' ⟨rfl, rfl⟩
  exact ⟨ret_bool (by decide), rfl⟩

set_option maxRecDepth 100000 in
set_option maxHeartbeats 1000000 in
theorem awake_any (w : World) : Calls Try.prog 11 #[] w fun e w' => e = .returned (.bool true) ∧ Below w.heap.size w w' := by
  have kc := fun (w : World) (C : Array Value) (n c : Nat) => Lib.run_convert_bytes_const (P := Try.prog) w 22 5 C n c Try.underlying22 Try.underlying5
  go_enter Try.func11, Try.ntmps11
  go_wp2_with fail
  refine (lexA_any w).mono ?_
  rintro e w1 ⟨g, c, rfl, hT, hg, hb1⟩
  have HT := Lib.hid hT
  have HB1 := Lib.hid hb1
  clear hT hb1
  go_wp2_with fail
  refine (lexB_any _).mono ?_
  rintro e w2 ⟨⟨v, rfl⟩, hb2⟩
  have hT2 := HT.out.later hb2
  obtain ⟨b', e1, q0, -, -, -⟩ := hT2 0 (by decide)
  obtain ⟨b'', e2, -, -, q3, -⟩ := hT2 3 (by decide)
  have HT2 := Lib.hid hT2
  have HB2 := Lib.hid hb2
  clear hT2 hb2
  injection e1 with e1
  injection e1 with e1
  injection e2 with e2
  injection e2 with e2
  subst e1 e2
  simp only [toks1] at q0 q3
  go_wp2_with fail
  refine (textA_any _ g c HT2.out).mono ?_
  rintro e w3 ⟨rfl, hb3⟩
  have HB3 := Lib.hid hb3
  clear hb3 q0 q3
  go_wp2_with fail
  refine (reservedGo _).mono ?_
  rintro e w4 ⟨rfl, rfl⟩
  go_wp2
  go_ret
  refine ⟨rfl, ?_⟩
  have h1 := HB1.out
  have h2 := HB2.out
  have h3 := HB3.out
  exact (h1.trans (h2.mono h1.size)).trans (h3.mono (Nat.le_trans h1.size h2.size))

end Go.Proofs.Ytbpeiblmpgmacaa
