/- The sanity check of the laws of package expr answers true. -/
import Derived.Test.YtbnbmibfjobacaaDoorGJoin
import Derived.Test.YtbnbmibfjobacaaDoorGLex
namespace Go.Proofs.YtbnbmibfjobacaaDoor
open Go.RowKit

set_option maxRecDepth 100000 in
set_option maxHeartbeats 1000000 in
theorem tokens_any (s : List UInt8) (w : World) (hl : s.length ≤ 262144) :
    Calls Tryd.prog 26 #[.string ⟨s.toArray⟩] w fun e w' => ∃ A c, e = .returned (.slice A (Tk.lex s).1.length c) ∧ TokS w' A (Tk.lex s).1 ∧ Below w.heap.size w w' := by
  obtain ⟨c, W1, hrun, hB, hcap, hb1⟩ := conv_bytes s w
  have HX := Lib.hid (refLex_any s (some ⟨w.heap.size, 0, none⟩) c W1 hB hl hcap)
  have HB1 := Lib.hid hb1
  clear hB hb1
  go_enter Tryd.func26, Tryd.ntmps26
  go_wp2_with fail
  refine HX.out.mono ?_
  rintro e w2 hpost
  obtain ⟨A, c2, rfl, hT, hb2⟩ := lexPost_open hpost
  clear hpost hrun
  have HT := Lib.hid hT
  have HB2 := Lib.hid (below_rev' hb2 HB1.out)
  clear hT hb2
  go_wp2_with fail
  go_ret
  exact ⟨A, c2, rfl, HT.out, HB2.out⟩

def txtA : List UInt8 := [97, 32, 43, 32, 98, 32, 42, 32, 45, 49, 32, 60, 32, 50]
def txtB : List UInt8 := [97, 32, 45, 32, 40, 98, 32, 45, 32, 99, 41]
def txtC : List UInt8 := [97, 32, 43, 32, 41]
def exA : Ex := .mk 10 0 [] [.mk 8 0 [] [.mk 2 0 [97] [], .mk 5 0 [] [.mk 2 0 [98] [], .mk 3 0 [] [.mk 1 1 [] []]]], .mk 1 2 [] []]
def exB : Ex := .mk 9 0 [] [.mk 2 0 [97] [], .mk 9 0 [] [.mk 2 0 [98] [], .mk 2 0 [99] []]]
theorem parseA : parseV (Tk.lex txtA).1 0 = (exA, 8, 0) := by kernel_rfl
theorem parseB : parseV (Tk.lex txtB).1 0 = (exB, 7, 0) := by kernel_rfl
theorem parseC : parseV (Tk.lex txtC).1 0 = (.mk 0 0 [] [], 2, 4) := by kernel_rfl
theorem lenA : (Tk.lex txtA).1.length = 9 := by kernel_rfl
theorem lenB : (Tk.lex txtB).1.length = 8 := by kernel_rfl
theorem lenC : (Tk.lex txtC).1.length = 4 := by kernel_rfl
theorem heightA : exDm exA 0 = 1 := by kernel_rfl
theorem validA : exV exA 0 = true := by kernel_rfl
theorem validB : exV exB 0 = true := by kernel_rfl
theorem textB : exText exB = txtB := by kernel_rfl
theorem cntA : exCnt exA = 8 := by kernel_rfl
theorem cntB : exCnt exB = 5 := by kernel_rfl

theorem ExB.leaf (op num : Int) (name : List UInt8) (h : name.length ≤ 9223372036854775807) : ExB (.mk op num name []) := .mk _ _ _ _ (by simp) h (fun i hi => absurd hi (by simp))
theorem ExB.one (op num : Int) (name : List UInt8) (a : Ex) (h : name.length ≤ 9223372036854775807) (ha : ExB a) : ExB (.mk op num name [a]) := .mk _ _ _ _ (by simp) h (fun i hi => by
  have : i = 0 := by simpa using hi
  subst this
  exact ha)
theorem ExB.two (op num : Int) (name : List UInt8) (a b : Ex) (h : name.length ≤ 9223372036854775807) (ha : ExB a) (hb : ExB b) : ExB (.mk op num name [a, b]) := .mk _ _ _ _ (by simp) h (fun i hi => by
  have : i = 0 ∨ i = 1 := by simp at hi; omega
  rcases this with rfl | rfl
  · exact ha
  · exact hb)
theorem ExG.name (name : List UInt8) : ExG (.mk 2 0 name []) := .mk _ _ _ _ (by omega) (.inl ⟨rfl, rfl⟩) (fun i hi => absurd hi (by simp))
theorem ExG.two (op : Int) (h : 5 ≤ op ∧ op ≤ 17) (a b : Ex) (ha : ExG a) (hb : ExG b) : ExG (.mk op 0 [] [a, b]) := .mk _ _ _ _ (by omega) (.inr (.inr ⟨h.1, h.2, rfl⟩)) (fun i hi => by
  have : i = 0 ∨ i = 1 := by simp at hi; omega
  rcases this with rfl | rfl
  · exact ha
  · exact hb)
theorem exBA : ExB exA := ExB.two _ _ _ _ _ (by decide) (ExB.two _ _ _ _ _ (by decide) (ExB.leaf _ _ _ (by decide)) (ExB.two _ _ _ _ _ (by decide) (ExB.leaf _ _ _ (by decide)) (ExB.one _ _ _ _ (by decide) (ExB.leaf _ _ _ (by decide))))) (ExB.leaf _ _ _ (by decide))
theorem exBB : ExB exB := ExB.two _ _ _ _ _ (by decide) (ExB.leaf _ _ _ (by decide)) (ExB.two _ _ _ _ _ (by decide) (ExB.leaf _ _ _ (by decide)) (ExB.leaf _ _ _ (by decide)))
theorem exGB : ExG exB := ExG.two 9 (by decide) _ _ (ExG.name _) (ExG.two 9 (by decide) _ _ (ExG.name _) (ExG.name _))

/-- the fields of a parsed expression, written out -/
theorem parsePost_open {w w' : World} {R : Ex × Int × Nat} {e : Ending} (h : ParsePost w R e w') : ∃ num name A n c, e = .returned (.tuple #[.agg #[.int .i64 R.1.op, .int .i64 num, .string ⟨name.toArray⟩, .slice A n c], .int .i64 R.2.1, .int .i64 (R.2.2 : Int)]) ∧ ExM w' (fun _ => True) R.1 ⟨R.1.op, num, name, A, n, c⟩ ∧ Below w.heap.size w w' := by
  obtain ⟨f, rfl, hM, hb⟩ := h
  have := hM.op_eq
  obtain ⟨op, num, name, A, n, c⟩ := f
  dsimp only at this
  subst this
  exact ⟨num, name, A, n, c, rfl, hM.more (fun _ _ => trivial), hb⟩

set_option maxRecDepth 100000 in
set_option maxHeartbeats 4000000 in
theorem awake_any (w : World) (hS : SgT w) : Calls Tryd.prog 12 #[] w fun e w' => e = .returned (.bool true) ∧ Below w.heap.size w w' := by
  have HS := Lib.hid hS
  clear hS
  have hm : -9223372036854775808 ≤ (0 : Int) ∧ (0 : Int) ≤ 9223372036854775807 := by omega
  have HMM := Lib.hid hm
  clear hm
  go_enter Tryd.func12, Tryd.ntmps12
  go_wp2_with fail
  refine (tokens_any txtA w (by decide)).mono ?_
  rintro e w1 ⟨A1, c1, rfl, hT1, hb1⟩
  have HT1 := Lib.hid hT1
  have HB1 := Lib.hid hb1
  clear hT1 hb1
  go_wp2_with fail
  refine (parse_any (Tk.lex txtA).1 A1 c1 0 w1 HT1.out (HS.out.later HB1.out) (by rw [lenA]; omega) HMM.out).mono ?_
  rintro e w2 hpost
  rw [parseA] at hpost
  obtain ⟨num, name, A, n, c, rfl, hMA, hb2⟩ := parsePost_open hpost
  clear hpost
  have HMA : Hid (ExM w2 (fun _ => True) exA ⟨10, num, name, A, n, c⟩) := hMA
  have HB2 := Lib.hid (below_rev' hb2 HB1.out)
  clear hMA hb2 HT1
  dsimp only
  rw [show exA.op = 10 from rfl]
  go_wp2_with fail
  refine (tokens_any txtB _ (by decide)).mono ?_
  rintro e w3 ⟨A3, c3, rfl, hT3, hb3⟩
  have hx3 := (hb3.block w2.heap.size (by simp)).trans (heap_alloc_new w2 _)
  have HT3 := Lib.hid hT3
  have HB3 := Lib.hid (below_rev' hb3 (HB2.out.alloc HB2.out.size _))
  have HMA3 := Lib.hid (HMA.out.keep fun b _ hlt => (hb3.block b (by simp; omega)).trans (Below.heap_alloc w2 _ b hlt))
  have HX3 := Lib.hid hx3
  clear hT3 hb3 hx3 HMA
  go_wp2_with fail
  refine (parse_any (Tk.lex txtB).1 A3 c3 0 w3 HT3.out (HS.out.later HB3.out) (by rw [lenB]; omega) HMM.out).mono ?_
  rintro e w4 hpost
  rw [parseB] at hpost
  obtain ⟨num', name', A', n', c', rfl, hMB, hb4⟩ := parsePost_open hpost
  clear hpost
  have HMB : Hid (ExM w4 (fun _ => True) exB ⟨9, num', name', A', n', c'⟩) := hMB
  have HX4 := Lib.hid ((hb4.block _ (lt_of_block HX3.out)).trans HX3.out)
  have HMA4 := Lib.hid (HMA3.out.later hb4)
  have HB4 := Lib.hid (below_rev' hb4 HB3.out)
  clear hMB hb4 HT3 HX3 HMA3
  dsimp only
  rw [show exB.op = 9 from rfl]
  go_wp2_with fail
  refine (tokens_any txtC _ (by decide)).mono ?_
  rintro e w5 ⟨A5, c5, rfl, hT5, hb5⟩
  have hk5 : ∀ b, b < w4.heap.size → w5.heap[b]? = w4.heap[b]? := fun b hlt => (hb5.block b (by simp; omega)).trans (Below.heap_alloc w4 _ b hlt)
  have HY5 := Lib.hid ((hb5.block w4.heap.size (by simp)).trans (heap_alloc_new w4 _))
  have HT5 := Lib.hid hT5
  have HB5 := Lib.hid (below_rev' hb5 (HB4.out.alloc HB4.out.size _))
  have HMA5 := Lib.hid (HMA4.out.keep fun b _ hlt => hk5 b hlt)
  have HMB5 := Lib.hid (HMB.out.keep fun b _ hlt => hk5 b hlt)
  have HX5 := Lib.hid ((hk5 _ (lt_of_block HX4.out)).trans HX4.out)
  clear hT5 hb5 hk5 HMA4 HMB HX4
  go_wp2_with fail
  refine (parse_any (Tk.lex txtC).1 A5 c5 0 w5 HT5.out (HS.out.later HB5.out) (by rw [lenC]; omega) HMM.out).mono ?_
  rintro e w6 hpost
  rw [parseC] at hpost
  obtain ⟨num'', name'', A'', n'', c'', rfl, -, hb6⟩ := parsePost_open hpost
  clear hpost
  have HX6 := Lib.hid ((hb6.block _ (lt_of_block HX5.out)).trans HX5.out)
  have HY6 := Lib.hid ((hb6.block _ (lt_of_block HY5.out)).trans HY5.out)
  have HMA6 := Lib.hid (HMA5.out.later hb6)
  have HMB6 := Lib.hid (HMB5.out.later hb6)
  have HB6 := Lib.hid (below_rev' hb6 HB5.out)
  clear hb6 HT5 HX5 HY5 HMA5 HMB5
  obtain ⟨x0, x1, x2, x3, -, -, -, -, xl⟩ := blk4 HX6.out
  obtain ⟨y0, y1, y2, y3, -, -, -, -, yl⟩ := blk4 HY6.out
  dsimp only
  have hb7 : ∀ Z : Obj, Below w6.heap.size w6 (w6.alloc Z) := fun Z => (Below.refl _ _).alloc (Nat.le_refl _) _
  have HB7 := Lib.hid hb7
  clear hb7
  go_wp2_with fail
  refine (format_any _ exB 9 num' name' A' n' c' (HMB6.out.later (HB7.out _)) exBB exGB validB (by rw [cntB]; omega) (by rw [textB]; decide) (HS.out.later (HB6.out.alloc HB6.out.size _))).mono ?_
  rintro e w8 ⟨rfl, hb8⟩
  rw [textB]
  have hk8 : Below w6.heap.size w6 w8 := below_rev' hb8 (HB7.out _)
  have x0' := cell_later hk8 x0
  have x1' := cell_later hk8 x1
  have x2' := cell_later hk8 x2
  have x3' := cell_later hk8 x3
  have HMA8 := Lib.hid (HMA6.out.later hk8)
  have HB8 := Lib.hid (below_rev' hk8 HB6.out)
  clear hb8 hk8 x0 x1 x2 x3 y0 y1 y2 y3
  have tB : (txtB == [97, 32, 45, 32, 40, 98, 32, 45, 32, 99, 41]) = true := by decide
  go_wp2_with fail
  refine (heightD_any _ exA 10 num name A n c HMA8.out exBA (by rw [cntA]; omega)).mono ?_
  rintro e w9 ⟨rfl, hb9⟩
  rw [heightA]
  have x0 := cell_later hb9 x0'
  have x1 := cell_later hb9 x1'
  have x2 := cell_later hb9 x2'
  have x3 := cell_later hb9 x3'
  have HMA9 := Lib.hid (HMA8.out.later hb9)
  have HB9 := Lib.hid (below_rev' hb9 HB8.out)
  clear hb9 x0' x1' x2' x3'
  go_wp2_with fail
  refine (valid_any _ exA 10 num name A n c HMA9.out exBA (by rw [cntA]; omega)).mono ?_
  rintro e w10 ⟨rfl, hb10⟩
  rw [validA]
  have HB10 := Lib.hid (below_rev' hb10 HB9.out)
  clear hb10
  go_wp2_with fail
  go_ret
  exact ⟨rfl, HB10.out⟩

end Go.Proofs.YtbnbmibfjobacaaDoor
