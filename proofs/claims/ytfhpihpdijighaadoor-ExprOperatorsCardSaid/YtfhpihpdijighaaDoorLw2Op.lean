/- The walk of ExprOperators: true for all numbers. -/
import Derived.Test.YtfhpihpdijighaaDoorLw2Awake
import Derived.Deep.DeepCutAuto
namespace Go.Proofs.YtfhpihpdijighaaDoor
open Go.RowKit

def opSg : List (List UInt8) := [[124, 124], [38, 38], [61, 61], [33, 61], [60], [60, 61], [62], [62, 61], [43], [45], [42], [47], [37]]
def opSt : List Nat := [0, 1, 2, 2, 2, 2, 2, 2, 3, 3, 4, 4, 4]
def opOp : List Nat := [17, 16, 14, 15, 10, 11, 12, 13, 8, 9, 5, 6, 7]
def opTxt (a b : Nat) : List UInt8 := 120 :: 32 :: (opSg.getD a [] ++ 32 :: 121 :: 32 :: (opSg.getD b [] ++ [32, 122]))
/-- what is asked of the expression of x, y, z with the operators a and b -/
def opOk (a b : Nat) : Bool :=
  (opTxt a b).length ≤ 20 && (Tk.lex (opTxt a b)).1.length ≤ 20 &&
  match parseV (Tk.lex (opTxt a b)).1 0 with
  | (.mk op _ _ [.mk op0 _ nm0 _, .mk op1 _ nm1 _], _, 0) =>
    if opSt.getD b 0 ≤ opSt.getD a 0 then op == (opOp.getD b 0 : Int) && (op0 == (opOp.getD a 0 : Int) && nm1 == [122]) else op == (opOp.getD a 0 : Int) && (op1 == (opOp.getD b 0 : Int) && nm0 == [120])
  | _ => false
theorem opOk_all : ((List.range 13).all fun a => (List.range 13).all fun b => opOk a b) = true := by kernel_rfl
theorem opOk_at (a b : Nat) (ha : a < 13) (hb : b < 13) : opOk a b = true := by
  have h := List.all_eq_true.1 opOk_all a (List.mem_range.2 ha)
  exact List.all_eq_true.1 h b (List.mem_range.2 hb)
/-- the same, taken apart -/
theorem opOk_open (a b : Nat) (ha : a < 13) (hb : b < 13) : (opTxt a b).length ≤ 20 ∧ (Tk.lex (opTxt a b)).1.length ≤ 20 ∧ ∃ (op num : Int) (name : List UInt8) (op0 num0 : Int) (nm0 : List UInt8) (l0 : List Ex) (op1 num1 : Int) (nm1 : List UInt8) (l1 : List Ex) (at_ : Int),
    parseV (Tk.lex (opTxt a b)).1 0 = (.mk op num name [.mk op0 num0 nm0 l0, .mk op1 num1 nm1 l1], at_, 0) ∧
    (if opSt.getD b 0 ≤ opSt.getD a 0 then op = (opOp.getD b 0 : Int) ∧ op0 = (opOp.getD a 0 : Int) ∧ nm1 = [122] else op = (opOp.getD a 0 : Int) ∧ op1 = (opOp.getD b 0 : Int) ∧ nm0 = [120]) := by
  have h := opOk_at a b ha hb
  unfold opOk at h
  rw [Bool.and_eq_true, Bool.and_eq_true] at h
  obtain ⟨⟨h1, h2⟩, h3⟩ := h
  refine ⟨by simpa using h1, by simpa using h2, ?_⟩
  split at h3
  · rename_i op num name op0 num0 nm0 l0 op1 num1 nm1 l1 at_ heq
    refine ⟨op, num, name, op0, num0, nm0, l0, op1, num1, nm1, l1, at_, heq, ?_⟩
    split
    · rename_i hle
      rw [if_pos hle] at h3
      simpa using h3
    · rename_i hle
      rw [if_neg hle] at h3
      simpa using h3
  · cases h3
theorem three_lit {w w1 : World} {c1 c2 c3 : Array Value} {t1 t2 t3 : TypeId} (hb : Below (((w.alloc (.cells c1 t1)).alloc (.cells c2 t2)).alloc (.cells c3 t3)).heap.size (((w.alloc (.cells c1 t1)).alloc (.cells c2 t2)).alloc (.cells c3 t3)) w1) :
    w1.heap[w.heap.size]? = some (.cells c1 t1 (0, 0)) ∧ w1.heap[w.heap.size + 1]? = some (.cells c2 t2 (0, 0)) ∧ w1.heap[w.heap.size + 2]? = some (.cells c3 t3 (0, 0)) ∧ Below w.heap.size w w1 := by
  have hs : (((w.alloc (.cells c1 t1)).alloc (.cells c2 t2)).alloc (.cells c3 t3)).heap.size = w.heap.size + 3 := by simp
  refine ⟨?_, ?_, ?_, below_rev' hb (((((Below.refl _ _).alloc (Nat.le_refl _) _).alloc (by simp) _).alloc (by simp; omega) _))⟩
  · exact (hb.block _ (by omega)).trans ((Below.heap_alloc _ _ _ (by simp; omega)).trans ((Below.heap_alloc _ _ _ (by simp)).trans (heap_alloc_new w _)))
  · refine (hb.block _ (by omega)).trans ((Below.heap_alloc _ _ _ (by simp)).trans ?_)
    have := heap_alloc_new (w.alloc (.cells c1 t1)) (.cells c2 t2)
    rw [show (w.alloc (.cells c1 t1)).heap.size = w.heap.size + 1 by simp] at this
    exact this
  · refine (hb.block _ (by omega)).trans ?_
    have := heap_alloc_new ((w.alloc (.cells c1 t1)).alloc (.cells c2 t2)) (.cells c3 t3)
    rw [show ((w.alloc (.cells c1 t1)).alloc (.cells c2 t2)).heap.size = w.heap.size + 2 by simp] at this
    exact this
theorem within_below (x n : Int) (w : World) (hx : -9223372036854775808 ≤ x ∧ x ≤ 9223372036854775807) (h0 : 0 < n) (h1 : n ≤ 4611686018427387904) :
    Calls Tryd.prog 11 #[.int .i64 x, .int .i64 n] w fun e w' => e = .returned (.int .i64 (within x n.toNat)) ∧ Below w.heap.size w w' := (within_big x n w hx h0 h1).mono fun _ _ ⟨he, hw⟩ => ⟨he, hw ▸ Below.refl _ _⟩
theorem str_cell {w : World} {b : Nat} {t : TypeId} (l : List (List UInt8)) (h : w.heap[b]? = some (.cells (l.map fun s => Value.string ⟨s.toArray⟩).toArray t (0, 0))) (k : Nat) (hk : k < l.length) : w.cell? ⟨b, k, none⟩ = some (.string ⟨(l.getD k []).toArray⟩) := by
  rw [cell_of_row w b k _ _ _ h]
  simp [List.getD, List.getElem?_eq_getElem hk]
theorem int_cell {w : World} {b : Nat} {t : TypeId} (l : List Nat) (h : w.heap[b]? = some (.cells (l.map fun (s : Nat) => Value.int .i64 (s : Int)).toArray t (0, 0))) (k : Nat) (hk : k < l.length) : w.cell? ⟨b, k, none⟩ = some (.int .i64 ((l.getD k 0 : Nat) : Int)) := by
  rw [cell_of_row w b k _ _ _ h]
  simp [List.getD, List.getElem?_eq_getElem hk]

/-- Parse of such a text, with what is asked of the result written out -/
theorem parseOps (ts : List Tk.Tok) (op num : Int) (name : List UInt8) (op0 num0 : Int) (nm0 : List UInt8) (l0 : List Ex) (op1 num1 : Int) (nm1 : List UInt8) (l1 : List Ex) (at_ : Int) (A : Option Addr) (c : Nat) (W : World)
    (hR : parseV ts 0 = (.mk op num name [.mk op0 num0 nm0 l0, .mk op1 num1 nm1 l1], at_, 0)) (hT : TokS W A ts) (hS : SgT W) (hn : ts.length ≤ 1000000) :
    Calls Tryd.prog 16 #[.slice A ts.length c, .int .i64 0] W fun e w' => ∃ B off c', e = .returned (.tuple #[.agg #[.int .i64 op, .int .i64 num, .string ⟨name.toArray⟩, .slice (some ⟨B, off, none⟩) 2 c'], .int .i64 at_, .int .i64 0]) ∧
      w'.cell? ⟨B, off, none⟩ = some (.int .i64 op0) ∧ w'.cell? ⟨B, off + 2, none⟩ = some (.string ⟨nm0.toArray⟩) ∧ w'.cell? ⟨B, off + 4, none⟩ = some (.int .i64 op1) ∧ w'.cell? ⟨B, off + 4 + 2, none⟩ = some (.string ⟨nm1.toArray⟩) ∧ B < w'.heap.size ∧ W.heap.size ≤ B ∧ Below W.heap.size W w' := by
  refine (parse_any ts A c 0 W hT hS hn (by omega)).mono ?_
  rintro e w' ⟨f, rfl, hM, hb⟩
  rw [hR] at hM ⊢
  cases hM with
  | mk _ _ _ _ A' c' F hc hs =>
    obtain ⟨B, off, rfl, hB, e0, -, e2, -⟩ := hc 0 (by simp)
    obtain ⟨B1, off1, ea, -, h0, -, h2, -⟩ := hc 1 (by simp)
    injection ea with ea
    injection ea with ea1 ea2
    subst ea1 ea2
    have f0 := hs 0 (by simp)
    have f1 := hs 1 (by simp)
    have p0 : (F 0).op = op0 ∧ (F 0).name = nm0 := by
      generalize F 0 = G at f0
      cases f0
      exact ⟨rfl, rfl⟩
    have p1 : (F 1).op = op1 ∧ (F 1).name = nm1 := by
      generalize F 1 = G at f1
      cases f1
      exact ⟨rfl, rfl⟩
    rw [p0.1, Nat.zero_mul, Nat.add_zero] at e0
    rw [p0.2, Nat.zero_mul, Nat.add_zero] at e2
    rw [p1.1, Nat.one_mul] at h0
    rw [p1.2, Nat.one_mul] at h2
    exact ⟨B, off, c', rfl, e0, e2, h0, h2, World.block_lt_of_cell? _ _ e0, hB, hb⟩

/-- what is known behind the parse -/
def OpMid (w1 : World) (op num : Int) (name : List UInt8) (op0 op1 : Int) (nm0 nm1 : List UInt8) (s8 s10 : Value) (wc : World) : Prop :=
  ∃ xb B off c', s8 = .pointer (some ⟨xb, 0, none⟩) ∧ s10 = .int .i64 0 ∧ wc.heap[xb]? = some (.cells #[.int .i64 op, .int .i64 num, .string ⟨name.toArray⟩, .slice (some ⟨B, off, none⟩) 2 c'] 38 (0, 0)) ∧
    wc.cell? ⟨B, off, none⟩ = some (.int .i64 op0) ∧ wc.cell? ⟨B, off + 2, none⟩ = some (.string ⟨nm0.toArray⟩) ∧ wc.cell? ⟨B, off + 4, none⟩ = some (.int .i64 op1) ∧ wc.cell? ⟨B, off + 4 + 2, none⟩ = some (.string ⟨nm1.toArray⟩) ∧ Below w1.heap.size w1 wc

theorem keep4 (w3 : World) {b xb : Nat} (hb : b ≠ xb) : ∀ (u0 u1 u2 u3 : Value) (o : Nat), ((((w3.setCell ⟨xb, 0, none⟩ u0).setCell ⟨xb, 1, none⟩ u1).setCell ⟨xb, 2, none⟩ u2).setCell ⟨xb, 3, none⟩ u3).cell? ⟨b, o, none⟩ = w3.cell? ⟨b, o, none⟩ :=
  fun u0 u1 u2 u3 o => World.cell?_of_block (a := ⟨b, o, none⟩) (set4_keep w3 xb u0 u1 u2 u3 b hb)
theorem below_undrew {w w9 : World} {k : Nat} (h : Below (w.drewN k).heap.size (w.drewN k) w9) : Below w.heap.size w w9 := ⟨h.os, h.tape, h.output, h.size, h.block⟩
theorem SgT.drewN {w : World} (h : SgT w) (k : Nat) : SgT (w.drewN k) := h
theorem opMid_1 {w1 w3 : World} {op num : Int} {name : List UInt8} {op0 op1 : Int} {nm0 nm1 : List UInt8} {B off c' : Nat} (hb : Below w1.heap.size w1 w3) (e0 : w3.cell? ⟨B, off, none⟩ = some (.int .i64 op0)) (e2 : w3.cell? ⟨B, off + 2, none⟩ = some (.string ⟨nm0.toArray⟩)) (h0 : w3.cell? ⟨B, off + 4, none⟩ = some (.int .i64 op1)) (h2 : w3.cell? ⟨B, off + 4 + 2, none⟩ = some (.string ⟨nm1.toArray⟩)) :
    OpMid w1 op num name op0 op1 nm0 nm1 (.pointer (some ⟨w3.heap.size, 0, none⟩)) (.int .i64 0) (w3.alloc (.cells #[.int .i64 op, .int .i64 num, .string ⟨name.toArray⟩, .slice (some ⟨B, off, none⟩) 2 c'] 38)) := by
  have hk : Below w3.heap.size w3 (w3.alloc (.cells #[.int .i64 op, .int .i64 num, .string ⟨name.toArray⟩, .slice (some ⟨B, off, none⟩) 2 c'] 38)) := (Below.refl _ _).alloc (Nat.le_refl _) _
  exact ⟨w3.heap.size, B, off, c', rfl, rfl, heap_alloc_new w3 _, cell_later hk e0, cell_later hk e2, cell_later hk h0, cell_later hk h2, hb.alloc hb.size _⟩
theorem opMid_2 {w1 w3 : World} {op num : Int} {name : List UInt8} {op0 op1 : Int} {nm0 nm1 : List UInt8} {B off c' xb : Nat} {z0 z1 z2 z3 : Value} (hb : Below w1.heap.size w1 w3) (hz : w3.heap[xb]? = some (.cells #[z0, z1, z2, z3] 38 (0, 0))) (hx : w1.heap.size ≤ xb) (hB : B ≠ xb) (e0 : w3.cell? ⟨B, off, none⟩ = some (.int .i64 op0)) (e2 : w3.cell? ⟨B, off + 2, none⟩ = some (.string ⟨nm0.toArray⟩)) (h0 : w3.cell? ⟨B, off + 4, none⟩ = some (.int .i64 op1)) (h2 : w3.cell? ⟨B, off + 4 + 2, none⟩ = some (.string ⟨nm1.toArray⟩)) :
    OpMid w1 op num name op0 op1 nm0 nm1 (.pointer (some ⟨xb, 0, none⟩)) (.int .i64 0) (set4 w3 xb (.int .i64 op) (.int .i64 num) (.string ⟨name.toArray⟩) (.slice (some ⟨B, off, none⟩) 2 c')) := by
  have hk : ∀ o', (set4 w3 xb (.int .i64 op) (.int .i64 num) (.string ⟨name.toArray⟩) (.slice (some ⟨B, off, none⟩) 2 c')).cell? ⟨B, o', none⟩ = w3.cell? ⟨B, o', none⟩ := fun o' => World.cell?_of_block (set4_keep w3 xb _ _ _ _ B hB)
  obtain ⟨s1, s2, s3⟩ := set4_os w3 xb (.int .i64 op) (.int .i64 num) (.string ⟨name.toArray⟩) (.slice (some ⟨B, off, none⟩) 2 c')
  refine ⟨xb, B, off, c', rfl, rfl, set4_at hz _ _ _ _, (hk _).trans e0, (hk _).trans e2, (hk _).trans h0, (hk _).trans h2, ⟨s1.trans hb.os, s2.trans hb.tape, s3.trans hb.output, by rw [set4_size]; exact hb.size, fun b hbb => (set4_keep w3 xb _ _ _ _ b (by omega)).trans (hb.block b hbb)⟩⟩

set_option maxRecDepth 100000 in
set_option maxHeartbeats 8000000 in
theorem exprOperators_any (x y : Int) (w : World) (hx : -9223372036854775808 ≤ x ∧ x ≤ 9223372036854775807) (hy : -9223372036854775808 ≤ y ∧ y ≤ 9223372036854775807) (hS : SgT w) :
    Calls Tryd.prog 8 #[.int .i64 x, .int .i64 y] w fun e w' => e = .returned (.bool true) ∧ Below w.heap.size w w' := by
  have HX := Lib.hid hx
  have HY := Lib.hid hy
  have HS := Lib.hid hS
  clear hx hy hS
  go_enter Tryd.func8, Tryd.ntmps8
  go_wp2_with fail
  refine (within_below x 13 _ HX.out (by omega) (by omega)).mono ?_
  rintro e w1 ⟨rfl, hb1⟩
  obtain ⟨hsg, hst, hopp, hbw⟩ := three_lit hb1
  clear hb1
  rw [show (13 : Int).toNat = 13 from rfl]
  have ha := within_lt x 13 (by omega)
  have HSG : Hid (w1.heap[w.heap.size]? = some (.cells (opSg.map fun s => Value.string ⟨s.toArray⟩).toArray 9 (0, 0))) := hsg
  have HST : Hid (w1.heap[w.heap.size + 1]? = some (.cells (opSt.map fun (s : Nat) => Value.int .i64 (s : Int)).toArray 3 (0, 0))) := hst
  have HOP : Hid (w1.heap[w.heap.size + 2]? = some (.cells (opOp.map fun (s : Nat) => Value.int .i64 (s : Int)).toArray 3 (0, 0))) := hopp
  have HBW := Lib.hid hbw
  clear hsg hst hopp hbw
  generalize within x 13 = a at *
  go_wp2_with fail
  refine (within_big y 13 w1 HY.out (by omega) (by omega)).mono ?_
  rintro e w1' ⟨rfl, rfl⟩
  rw [show (13 : Int).toNat = 13 from rfl]
  have hb := within_lt y 13 (by omega)
  generalize within y 13 = b at *
  obtain ⟨htl, htk, op, num, name, op0, num0, nm0, l0, op1, num1, nm1, l1, at_, hPV, hcs⟩ := opOk_open a b ha hb
  have HPV := Lib.hid hPV
  have HCS := Lib.hid hcs
  have HTL := Lib.hid htl
  have HTK := Lib.hid htk
  have HS1 := Lib.hid (HS.out.later HBW.out)
  have k0 := str_cell opSg HSG.out a ha
  have k1 := str_cell opSg HSG.out b hb
  have hwl : w.heap.size < w1.heap.size := lt_of_block HSG.out
  have hlA : (opSg.getD a []).length ≤ 20 := by have := htl; simp [opTxt] at this ⊢; omega
  have hlB : (opSg.getD b []).length ≤ 20 := by have := htl; simp [opTxt] at this ⊢; omega
  have HTX : Hid (opTxt a b = 120 :: 32 :: (opSg.getD a [] ++ 32 :: 121 :: 32 :: (opSg.getD b [] ++ [32, 122]))) := rfl
  clear hPV hcs htl htk
  go_upto_region 5 with fail
  go_cut [8, 10] (fun s8 s10 wc => OpMid w1 op num name op0 op1 nm0 nm1 s8 s10 wc)
  case first =>
    generalize opSg.getD a [] = sa at *
    generalize opSg.getD b [] = sb at *
    have s1 := fun W => run_addP [120, 32] sa (by simp; omega) W
    have s2 := fun W => run_addP (120 :: 32 :: sa) [32, 121, 32] (by simp; omega) W
    have s3 := fun W => run_addP (120 :: 32 :: (sa ++ [32, 121, 32])) sb (by simp; omega) W
    have s4 := fun W => run_addP (120 :: 32 :: (sa ++ 32 :: 121 :: 32 :: sb)) [32, 122] (by simp; omega) W
    simp only [List.cons_append, List.nil_append, List.append_assoc] at s1 s2 s3 s4
    have i0 : (0 : Int) ≤ (a : Int) := by omega
    have i1 : (a : Int) < 13 := by omega
    have i2 : (0 : Int) ≤ (b : Int) := by omega
    have i3 : (b : Int) < 13 := by omega
    rw [HTX.out] at HPV HTL HTK
    generalize hTT : (120 :: 32 :: (sa ++ 32 :: 121 :: 32 :: (sb ++ [32, 122])) : List UInt8) = TT at *
    clear hTT
    have hne1 : w.heap.size ≠ w1.heap.size := by omega
    go_region_held3 (fun w' => w'.cell? ⟨w.heap.size, a, none⟩ = some (.string ⟨sa.toArray⟩) ∧ w'.cell? ⟨w.heap.size, b, none⟩ = some (.string ⟨sb.toArray⟩))
      (go_keep)
      (first
        | (go_at_call 10; obtain ⟨r0, r1⟩ := ‹_ ∧ World.cell? _ ⟨w.heap.size, b, none⟩ = _›; refine (tokens_any TT _ (by have := HTL.out; omega)).mono ?_; rintro e w2 ⟨A2, c2, rfl, hT2, hb2⟩; have r2 := cell_later hb2 r0; have r3 := cell_later hb2 r1; have HT2 := Lib.hid hT2; have HBM := Lib.hid (show Below w1.heap.size w1 w2 from below_rev' hb2 (by first | exact (Below.refl _ _).drew | exact ((Below.refl _ _).alloc (Nat.le_refl _) _).drew)); have HS2 := Lib.hid (HS1.out.later HBM.out); have hl2 : w1.heap.size ≤ w2.heap.size := HBM.out.size; have hne2 : w.heap.size ≠ w2.heap.size := (by omega); (first | have HZ := Lib.hid ((hb2.block w1.heap.size (by simp)).trans (heap_alloc_new w1 _)) | have HZ := Lib.hid True.intro); clear r0 r1 hT2 hb2)
        | (go_at_call 16; obtain ⟨r0, r1⟩ := ‹_ ∧ World.cell? _ ⟨w.heap.size, b, none⟩ = _›; refine (parseOps (Tk.lex TT).1 op num name op0 num0 nm0 l0 op1 num1 nm1 l1 at_ A2 c2 _ HPV.out (by first | exact HT2.out | exact HT2.out.later ((Below.refl _ _).alloc (Nat.le_refl _) _)) (by first | exact HS2.out | exact HS2.out.later ((Below.refl _ _).alloc (Nat.le_refl _) _)) (by have := HTK.out; omega)).mono ?_; rintro e w3 ⟨B, off, c', rfl, e0, e2, h0, h2, hBl, hBg, hb3⟩; have r4 := cell_later hb3 r0; have r5 := cell_later hb3 r1; have HB13 := Lib.hid (show Below w1.heap.size w1 w3 from below_rev' hb3 (by first | exact HBM.out | exact HBM.out.alloc HBM.out.size _)); have hl3 : w2.heap.size ≤ w3.heap.size := (by have := hb3.size; first | omega | (simp at this; omega)); have hne3 : w.heap.size ≠ w3.heap.size := (by omega); (first | (have hz3 := (hb3.block w2.heap.size (by simp)).trans (heap_alloc_new w2 _); have HZ3 := Lib.hid hz3; obtain ⟨z0, z1, z2, z3, y0, y1, y2, y3, zl⟩ := blk4 hz3; have hkp := keep4 w3 hne2; clear hz3) | (have hz3 := (hb3.block w1.heap.size (lt_of_block HZ.out)).trans HZ.out; have HZ3 := Lib.hid hz3; obtain ⟨z0, z1, z2, z3, y0, y1, y2, y3, zl⟩ := blk4 hz3; have hkp := keep4 w3 hne1; have hzl := lt_of_block HZ.out; clear hz3) | skip); have E0 := Lib.hid e0; have E2 := Lib.hid e2; have H0 := Lib.hid h0; have H2 := Lib.hid h2; have HBG := Lib.hid hBg; clear r0 r1 r2 r3 hb3 e0 e2 h0 h2 hBg))
    all_goals
      go_wp2_with fail
      go_meet
      first
        | exact opMid_1 HB13.out E0.out E2.out H0.out H2.out
        | exact (opMid_2 HB13.out HZ3.out (by omega) (by have := HBG.out; first | omega | (simp at this; omega)) E0.out E2.out H0.out H2.out)
  case rest =>
    clear k0 k1 HTX
    obtain ⟨xb, B, off, c', rfl, rfl, hxb, e0, e2, h0, h2, hbc⟩ := hcut
    have hs0 := int_cell opSt ((hbc.block _ (lt_of_block HST.out)).trans HST.out) a ha
    have hs1 := int_cell opSt ((hbc.block _ (lt_of_block HST.out)).trans HST.out) b hb
    have ho0 := int_cell opOp ((hbc.block _ (lt_of_block HOP.out)).trans HOP.out) a ha
    have ho1 := int_cell opOp ((hbc.block _ (lt_of_block HOP.out)).trans HOP.out) b hb
    obtain ⟨q0, q1, q2, q3, -, -, -, -, ql⟩ := blk4 hxb
    have HBC := Lib.hid (below_rev' hbc HBW.out)
    have HSC := Lib.hid (HS.out.later HBC.out)
    clear hbc hxb
    have i0 : (0 : Int) ≤ (a : Int) := by omega
    have i1 : (a : Int) < 13 := by omega
    have i2 : (0 : Int) ≤ (b : Int) := by omega
    have i3 : (b : Int) < 13 := by omega
    by_cases hst : opSt.getD b 0 ≤ opSt.getD a 0
    · have d1 : decide (opSt.getD a 0 ≥ opSt.getD b 0) = true := decide_eq_true hst
      obtain ⟨c1, c2, c3⟩ := (if_pos hst) ▸ HCS.out
      have t1 := bT c1
      have t2 := bT c2
      have t3 : (nm1 == [122]) = true := by rw [c3]; rfl
      clear c1 c2 c3
      generalize opSt.getD a 0 = sa at *
      generalize opSt.getD b 0 = sb at *
      generalize opOp.getD a 0 = oa at *
      generalize opOp.getD b 0 = ob at *
      go_wp2_with fail
      go_quiet (fail)
      go_wp2_with fail
      have HNB : Hid (∀ wx, Below wc.heap.size wc wx → Below w.heap.size w wx) := fun wx h => below_rev' h HBC.out
      go_region_held3 (fun w' => w'.cell? ⟨xb, 0, none⟩ = some (.int .i64 op) ∧ w'.cell? ⟨xb, 3, none⟩ = some (.slice (some ⟨B, off, none⟩) 2 c') ∧ w'.cell? ⟨w.heap.size + 1 + 1, b, none⟩ = some (.int .i64 (ob : Int)) ∧ w'.cell? ⟨w.heap.size + 1 + 1, a, none⟩ = some (.int .i64 (oa : Int)) ∧ w'.cell? ⟨B, off, none⟩ = some (.int .i64 op0) ∧ w'.cell? ⟨B, off + 4 + 2, none⟩ = some (.string ⟨nm1.toArray⟩))
        (go_keep)
        (first
          | (go_at_call 13; obtain ⟨r0, r1, r2, r3, r4, r5⟩ := ‹_ ∧ _ ∧ _ ∧ _ ∧ _ ∧ World.cell? _ ⟨B, off + 4 + 2, none⟩ = _›; refine (awake_any _ (HSC.out.drewN _)).mono ?_; rintro e w9 ⟨rfl, hb9⟩; have u0 := cell_later hb9 r0; have u1 := cell_later hb9 r1; have u2 := cell_later hb9 r2; have u3 := cell_later hb9 r3; have u4 := cell_later hb9 r4; have u5 := cell_later hb9 r5; have HB9 := Lib.hid (HNB.out _ (below_undrew hb9)); clear r0 r1 r2 r3 r4 r5 hb9))
      all_goals
        clear u0 u1 u2 u3 u4 u5
        go_wp2_with fail
        go_ret
        exact ⟨rfl, HB9.out⟩
    · have d1 : decide (opSt.getD a 0 ≥ opSt.getD b 0) = false := decide_eq_false hst
      obtain ⟨c1, c2, c3⟩ := (if_neg hst) ▸ HCS.out
      have t1 := bT c1
      have t2 := bT c2
      have t3 : (nm0 == [120]) = true := by rw [c3]; rfl
      clear c1 c2 c3
      generalize opSt.getD a 0 = sa at *
      generalize opSt.getD b 0 = sb at *
      generalize opOp.getD a 0 = oa at *
      generalize opOp.getD b 0 = ob at *
      go_wp2_with fail
      go_quiet (fail)
      go_wp2_with fail
      have HNB : Hid (∀ wx, Below wc.heap.size wc wx → Below w.heap.size w wx) := fun wx h => below_rev' h HBC.out
      go_region_held3 (fun w' => w'.cell? ⟨xb, 0, none⟩ = some (.int .i64 op) ∧ w'.cell? ⟨xb, 3, none⟩ = some (.slice (some ⟨B, off, none⟩) 2 c') ∧ w'.cell? ⟨w.heap.size + 1 + 1, b, none⟩ = some (.int .i64 (ob : Int)) ∧ w'.cell? ⟨w.heap.size + 1 + 1, a, none⟩ = some (.int .i64 (oa : Int)) ∧ w'.cell? ⟨B, off + 4, none⟩ = some (.int .i64 op1) ∧ w'.cell? ⟨B, off + 2, none⟩ = some (.string ⟨nm0.toArray⟩))
        (go_keep)
        (first
          | (go_at_call 13; obtain ⟨r0, r1, r2, r3, r4, r5⟩ := ‹_ ∧ _ ∧ _ ∧ _ ∧ _ ∧ World.cell? _ ⟨B, off + 2, none⟩ = _›; refine (awake_any _ (HSC.out.drewN _)).mono ?_; rintro e w9 ⟨rfl, hb9⟩; have u0 := cell_later hb9 r0; have u1 := cell_later hb9 r1; have u2 := cell_later hb9 r2; have u3 := cell_later hb9 r3; have u4 := cell_later hb9 r4; have u5 := cell_later hb9 r5; have HB9 := Lib.hid (HNB.out _ (below_undrew hb9)); clear r0 r1 r2 r3 r4 r5 hb9))
      all_goals
        clear u0 u1 u2 u3 u4 u5
        go_wp2_with fail
        go_ret
        exact ⟨rfl, HB9.out⟩

end Go.Proofs.YtfhpihpdijighaaDoor
