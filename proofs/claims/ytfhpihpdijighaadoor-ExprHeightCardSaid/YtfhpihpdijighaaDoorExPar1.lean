/- What afterUnary and afterParenthesis of package expr return, if the functions that they call return what they should. -/
import Derived.Test.YtfhpihpdijighaaDoorExPar0
namespace Go.Proofs.YtfhpihpdijighaaDoor
open Go.RowKit

def Ps.R.err : Ps.R → Nat
  | .bad _ e => e
  | .ok _ _ => 0
def Ps.R.ex : Ps.R → Ex
  | .bad _ _ => .mk 0 0 [] []
  | .ok x _ => x
/-- what a method of the parser leaves -/
def PsPost (w : World) (g : Nat) (ts : List Tk.Tok) (o : Nat) (R : Ps.R) (e : Ending) (w' : World) : Prop :=
  ∃ f : EF, e = .returned (.tuple #[f.val, .int .i64 (R.err : Int)]) ∧ ExM w' (w.heap.size ≤ ·) R.ex f ∧ Psr w' g ts R.at_ o ∧ w.grownBy w' (some g)

theorem Psr.unset {w W : World} {g : Nat} {ts : List Tk.Tok} {k o : Nat} (h : Psr w g ts k o) {r : Nat} (hr : g < r) (hW : ∀ b, b < w.heap.size → b ≠ r → W.heap[b]? = w.heap[b]?) : Psr W g ts k o :=
  h.keep fun b hb => hW b (by have := h.lt; omega) (by omega)
theorem grown_unset {w w1 W : World} {g r : Nat} (h : w.grownBy w1 (some g)) (hr : w.heap.size ≤ r) (hs : w1.heap.size ≤ W.heap.size) (ho : W.os = w1.os) (ht : W.tape = w1.tape) (hu : W.output = w1.output) (hW : ∀ b, b < w1.heap.size → b ≠ r → W.heap[b]? = w1.heap[b]?) : w.grownBy W (some g) :=
  ⟨ho.trans h.os, ht.trans h.tape, hu.trans h.output, Nat.le_trans h.size hs, fun i hi hne => (hW i (by have := h.size; omega) (by omega)).trans (h.block i hi hne)⟩

theorem set4_alloc2_keep (w : World) (r : Nat) (u0 u1 u2 u3 : Value) (o o' : Obj) (b : Nat) (hb : b ≠ r) (hlt : b < w.heap.size) : (((set4 w r u0 u1 u2 u3).alloc o).alloc o').heap[b]? = w.heap[b]? := by
  rw [Below.heap_alloc _ o' b (by have := set4_size w r u0 u1 u2 u3; simp; omega), set4_alloc_keep w r u0 u1 u2 u3 o b hb hlt]
theorem efat_new2 (w : World) (r : Nat) (u0 u1 u2 u3 : Value) (ob : Obj) (l : List Value) (t : TypeId) (o : Nat) (f : EF) (h : l[o]? = some (.int .i64 f.op) ∧ l[o + 1]? = some (.int .i64 f.num) ∧ l[o + 2]? = some (.string ⟨f.name.toArray⟩) ∧ l[o + 3]? = some (.slice f.A f.n f.c)) :
    EFat (((set4 w r u0 u1 u2 u3).alloc ob).alloc (.cells l.toArray t)) (w.heap.size + 1) o f := by
  have hs := set4_size w r u0 u1 u2 u3
  have hs2 : ((set4 w r u0 u1 u2 u3).alloc ob).heap.size = w.heap.size + 1 := by simp [hs]
  have e : ∀ o', (((set4 w r u0 u1 u2 u3).alloc ob).alloc (.cells l.toArray t)).cell? ⟨w.heap.size + 1, o', none⟩ = l[o']? := by
    intro o'
    rw [← hs2, World.cell?_alloc_mark]
    simp
  exact ⟨(e _).trans h.1, (e _).trans h.2.1, (e _).trans h.2.2.1, (e _).trans h.2.2.2⟩
theorem blk4 {w : World} {b : Nat} {c0 c1 c2 c3 : Value} {t : TypeId} (h : w.heap[b]? = some (.cells #[c0, c1, c2, c3] t (0, 0))) :
    w.cell? ⟨b, 0, none⟩ = some c0 ∧ w.cell? ⟨b, 1, none⟩ = some c1 ∧ w.cell? ⟨b, 2, none⟩ = some c2 ∧ w.cell? ⟨b, 3, none⟩ = some c3 ∧
    w.frozen? ⟨b, 0, none⟩ = false ∧ w.frozen? ⟨b, 1, none⟩ = false ∧ w.frozen? ⟨b, 2, none⟩ = false ∧ w.frozen? ⟨b, 3, none⟩ = false ∧ b < w.heap.size := by
  refine ⟨?_, ?_, ?_, ?_, ?_, ?_, ?_, ?_, lt_of_block h⟩
  · rw [cell_of_row w b 0 _ _ _ h]; rfl
  · rw [cell_of_row w b 1 _ _ _ h]; rfl
  · rw [cell_of_row w b 2 _ _ _ h]; rfl
  · rw [cell_of_row w b 3 _ _ _ h]; rfl
  · simp [World.frozen?, h]
  · simp [World.frozen?, h]
  · simp [World.frozen?, h]
  · simp [World.frozen?, h]
theorem set4_at {w : World} {b : Nat} {c0 c1 c2 c3 : Value} {t : TypeId} (h : w.heap[b]? = some (.cells #[c0, c1, c2, c3] t (0, 0))) (u0 u1 u2 u3 : Value) :
    (set4 w b u0 u1 u2 u3).heap[b]? = some (.cells #[u0, u1, u2, u3] t (0, 0)) := by
  unfold set4
  simp [World.setCell, Array.getElem?_modify, h]
/-- what is left of a call that wrote its result to block r -/
theorem ps_end {w w1 W : World} {g r : Nat} {ts : List Tk.Tok} {o : Nat} {R : Ps.R} {f : EF} (hgr : g < r) (hwr : w.heap.size ≤ r) (hP : Psr w1 g ts R.at_ o) (hG : w.grownBy w1 (some g)) (hs : w1.heap.size ≤ W.heap.size) (ho : W.os = w1.os) (ht : W.tape = w1.tape) (hu : W.output = w1.output)
    (hW : ∀ b, b < w1.heap.size → b ≠ r → W.heap[b]? = w1.heap[b]?) (hE : ExM W (w.heap.size ≤ ·) R.ex f) : PsPost w g ts o R (.returned (.tuple #[f.val, .int .i64 (R.err : Int)])) W :=
  ⟨f, rfl, hE, hP.unset hgr hW, grown_unset hG hwr hs ho ht hu hW⟩
/-- an error, with two more blocks or one -/
theorem ps_bad {w w1 : World} {g : Nat} {ts : List Tk.Tok} {o : Nat} {m e0 : Nat} (hgw : g < w.heap.size) (hP : Psr w1 g ts m o) (hG : w.grownBy w1 (some g)) (u0 u1 u2 u3 : Value) (ob : Obj) :
    PsPost w g ts o (.bad m e0) (.returned (.tuple #[.agg #[.int .i64 0, .int .i64 0, .string ⟨#[]⟩, .slice none 0 0], .int .i64 (e0 : Int)])) ((set4 w1 w.heap.size u0 u1 u2 u3).alloc ob) := by
  have hW := fun b (hb : b < w1.heap.size) (hne : b ≠ w.heap.size) => set4_alloc_keep w1 w.heap.size u0 u1 u2 u3 ob b hne hb
  exact ⟨⟨0, 0, [], none, 0, 0⟩, rfl, ExM.leaf _ _ _ _ _ _ _, hP.unset hgw hW, grown_unset hG (Nat.le_refl _) (by have := set4_size w1 w.heap.size u0 u1 u2 u3; simp; omega) rfl rfl rfl hW⟩



set_option maxRecDepth 100000 in
set_option maxHeartbeats 4000000 in
theorem afterUnary_of (w : World) (g : Nat) (ts : List Tk.Tok) (k o : Nat) (op : Nat) (hP : Psr w g ts k o) (hO : ∀ w', Psr w' g ts k o → Calls Tryd.prog 46 #[.pointer (some ⟨g, 0, none⟩)] w' (PsPost w' g ts o (Ps.PO ts o k))) :
    Calls Tryd.prog 66 #[.pointer (some ⟨g, 0, none⟩), .int .i64 (op : Int)] w (PsPost w g ts o ((Ps.PO ts o k).bind fun x k' => .ok (.mk op 0 [] [x]) k')) := by
  have HP := Lib.hid (hP.alloc (.cells #[.int .i64 0, .int .i64 0, .string ⟨#[]⟩, .slice none 0 0] 38))
  have hgw := hP.lt
  have HO := Lib.hid hO
  clear hP hO
  go_enter Tryd.func66, Tryd.ntmps66
  go_wp2_with fail
  refine (HO.out _ HP.out).mono ?_
  rintro e w1 ⟨f, rfl, hE, hP1, hG⟩
  unfold EF.val
  obtain ⟨q0, q1, q2, q3, f0, f1, f2, f3, hz⟩ := four_grown hgw hG
  have HG := Lib.hid (grown_of_alloc hG)
  have HE := Lib.hid hE
  have HP1 := Lib.hid hP1
  clear hG hE hP1
  cases hR : Ps.PO ts o k with
  | bad m e0 =>
    have he := Ps.PO_err hR
    have t0 := nT (show ((e0 : Nat) : Int) ≠ 0 by omega)
    rw [hR] at HE HP1
    have HR := Lib.hid hR
    clear hR
    dsimp only [Ps.R.err]
    go_wp2_with fail
    refine bodyPost_ret (v := .tuple #[.agg #[.int .i64 0, .int .i64 0, .string ⟨#[]⟩, .slice none 0 0], .int .i64 (e0 : Int)]) (by simp [results, Tryd.results66, go_sem, q0, q1, q2, q3, hz]) rfl ?_
    rw [HR.out]
    exact ps_bad hgw HP1.out HG.out _ _ _ _ _
  | ok x m =>
    rw [hR] at HE HP1
    have HR := Lib.hid hR
    clear hR
    dsimp only [Ps.R.err]
    go_wp2_with fail
    refine bodyPost_ret (v := .tuple #[.agg #[.int .i64 (op : Int), .int .i64 0, .string ⟨#[]⟩, .slice (some ⟨w1.heap.size + 1, 0, none⟩) 1 1], .int .i64 0]) (by simp [results, Tryd.results66, go_sem, q0, q1, q2, q3, hz]) rfl ?_
    rw [HR.out]
    have hE : ExM w1 (w.heap.size < ·) x f := HE.out.more fun b hb => by simp at hb; omega
    refine ps_end (R := .ok (.mk op 0 [] [x]) m) (f := ⟨(op : Int), 0, [], some ⟨w1.heap.size + 1, 0, none⟩, 1, 1⟩) hgw (Nat.le_refl _) HP1.out HG.out (by have := set4_size w1 w.heap.size; simp [World.setCell]; omega) rfl rfl rfl (fun b hb hne => set4_alloc2_keep w1 w.heap.size _ _ _ _ _ _ b hne hb) ?_
    exact ExM.one _ _ _ (w1.heap.size + 1) 0 1 (by omega) (efat_new2 w1 w.heap.size _ _ _ _ _ [.int .i64 f.op, .int .i64 f.num, .string ⟨f.name.toArray⟩, .slice f.A f.n f.c] 38 0 f ⟨rfl, rfl, rfl, rfl⟩) ((hE.keep fun b hb hlt => set4_alloc2_keep w1 w.heap.size _ _ _ _ _ _ b (by omega) hlt).more fun b hb => by omega)



set_option maxRecDepth 100000 in
set_option maxHeartbeats 4000000 in
theorem afterParenthesis_of (w : World) (g : Nat) (ts : List Tk.Tok) (k o : Nat) (hlast : Ps.kindAt ts (ts.length - 1) = 5) (hP : Psr w g ts k o) (hO : ∀ w', Psr w' g ts k o → Calls Tryd.prog 27 #[.pointer (some ⟨g, 0, none⟩), .int .i64 1] w' (PsPost w' g ts o (Ps.PE ts 1 o k))) :
    Calls Tryd.prog 65 #[.pointer (some ⟨g, 0, none⟩)] w (PsPost w g ts o ((Ps.PE ts 1 o k).bind fun x k' => if Ps.sgn ts k' = [41] then .ok x (k' + 1) else .bad k' 4)) := by
  have HP := Lib.hid (hP.alloc (.cells #[.int .i64 0, .int .i64 0, .string ⟨#[]⟩, .slice none 0 0] 38))
  have hgw := hP.lt
  have HO := Lib.hid hO
  have HL := Lib.hid hlast
  clear hP hO hlast
  go_enter Tryd.func65, Tryd.ntmps65
  go_wp2_with fail
  refine (HO.out _ HP.out).mono ?_
  rintro e w1 ⟨f, rfl, hE, hP1, hG⟩
  unfold EF.val
  obtain ⟨q0, q1, q2, q3, f0, f1, f2, f3, hz⟩ := four_grown hgw hG
  have HG := Lib.hid (grown_of_alloc hG)
  have HE := Lib.hid hE
  have HP1 := Lib.hid hP1
  clear hG hE hP1
  cases hR : Ps.PE ts 1 o k with
  | bad m e0 =>
    have he := Ps.PE_err (Nat.le_refl 1) hR
    have t0 := nT (show ((e0 : Nat) : Int) ≠ 0 by omega)
    rw [hR] at HE HP1
    have HR := Lib.hid hR
    clear hR
    dsimp only [Ps.R.err]
    go_wp2_with fail
    refine bodyPost_ret (v := .tuple #[.agg #[.int .i64 0, .int .i64 0, .string ⟨#[]⟩, .slice none 0 0], .int .i64 (e0 : Int)]) (by simp [results, Tryd.results65, go_sem, q0, q1, q2, q3, hz]) rfl ?_
    rw [HR.out]
    exact ps_bad hgw HP1.out HG.out _ _ _ _ _
  | ok x m =>
    rw [hR] at HE HP1
    have HR := Lib.hid hR
    have hmT : m < ts.length := HP1.out.inT
    clear hR
    dsimp only [Ps.R.err]
    go_wp2_with fail
    refine (psign_any _ g ts m o (HP1.out.alloc _)).mono ?_
    rintro e w2 ⟨rfl, hb2⟩
    have hS0 : (w1.alloc (.cells #[.int .i64 f.op, .int .i64 f.num, .string ⟨f.name.toArray⟩, .slice f.A f.n f.c] 38)).heap.size = w1.heap.size + 1 := by simp
    have hP2 : Psr w2 g ts m o := (HP1.out.alloc _).later hb2
    have hG2 : w.grownBy w2 (some g) := grown_trans HG.out ⟨hb2.os, hb2.tape, hb2.output, by have := hb2.size; omega, fun b hb _ => (hb2.block b (by omega)).trans (Below.heap_alloc w1 _ b hb)⟩
    have hE2 : ExM w2 (w.heap.size < ·) x f := (HE.out.keep fun b hb hlt => (hb2.block b (by omega)).trans (Below.heap_alloc w1 _ b hlt)).more fun b hb => by simp at hb; omega
    have hL2 : w2.heap[w1.heap.size]? = some (.cells #[.int .i64 f.op, .int .i64 f.num, .string ⟨f.name.toArray⟩, .slice f.A f.n f.c] 38 (0, 0)) := (hb2.block _ (by omega)).trans (heap_alloc_new w1 _)
    have hR2 : w2.heap[w.heap.size]? = w1.heap[w.heap.size]? := (hb2.block _ (by omega)).trans (Below.heap_alloc w1 _ _ hz)
    have r0 : w2.cell? ⟨w.heap.size, 0, none⟩ = some (.int .i64 0) := (World.cell?_of_block hR2).trans q0
    have r1 : w2.cell? ⟨w.heap.size, 1, none⟩ = some (.int .i64 0) := (World.cell?_of_block hR2).trans q1
    have r2 : w2.cell? ⟨w.heap.size, 2, none⟩ = some (.string ⟨#[]⟩) := (World.cell?_of_block hR2).trans q2
    have r3 : w2.cell? ⟨w.heap.size, 3, none⟩ = some (.slice none 0 0) := (World.cell?_of_block hR2).trans q3
    have z0 : w2.frozen? ⟨w.heap.size, 0, none⟩ = false := (World.frozen?_of_block hR2).trans f0
    have z1 : w2.frozen? ⟨w.heap.size, 1, none⟩ = false := (World.frozen?_of_block hR2).trans f1
    have z2 : w2.frozen? ⟨w.heap.size, 2, none⟩ = false := (World.frozen?_of_block hR2).trans f2
    have z3 : w2.frozen? ⟨w.heap.size, 3, none⟩ = false := (World.frozen?_of_block hR2).trans f3
    obtain ⟨l0, l1, l2, l3, -, -, -, -, hl2⟩ := blk4 hL2
    obtain ⟨tb, tc, hne, hbl, p0, p1, p2, g1, g2, -, -, -, -⟩ := hP2.cells
    have hzz : w.heap.size < w2.heap.size := by omega
    have hn1 : w1.heap.size ≠ w.heap.size := by omega
    have hn2 : g ≠ w.heap.size := by omega
    have hn3 : g ≠ w1.heap.size := by omega
    have HP2 := Lib.hid hP2
    have HG2 := Lib.hid hG2
    have HE2 := Lib.hid hE2
    clear hb2 hS0 hP2 hG2 hE2 hL2 hR2 q0 q1 q2 q3 f0 f1 f2 f3 p0 p2 g2 hbl HO
    by_cases h41 : Ps.sgn ts m = [41]
    · have t1 := str_eq_T h41
      have hm1 : m + 1 < ts.length := Ps.next_in HL.out hmT (by rw [Ps.sgn_kind (by rw [h41]; decide)]; decide)
      have hmx : m + 1 ≤ 1000000 := by obtain ⟨A, c, hb, hl, ho, hn, _⟩ := HP2.out; omega
      have H41 := Lib.hid h41
      clear h41
      go_wp2_with fail
      refine bodyPost_ret (v := .tuple #[.agg #[.int .i64 f.op, .int .i64 f.num, .string ⟨f.name.toArray⟩, .slice f.A f.n f.c], .int .i64 0]) (by simp [results, Tryd.results65, go_sem, r0, r1, r2, r3]) rfl ?_
      rw [HR.out]
      show PsPost w g ts o (if Ps.sgn ts m = [41] then Ps.R.ok x (m + 1) else Ps.R.bad m 4) _ _
      rw [if_pos H41.out]
      have hP3 := HP2.out.at (m + 1) hm1
      rw [show (((m + 1 : Nat) : Nat) : Int) = (m : Int) + 1 by omega] at hP3
      have hs1 : (w2.setCell ⟨g, 1, none⟩ (.int .i64 ((m : Int) + 1))).heap.size = w2.heap.size := by simp [World.setCell]
      have hk1 : ∀ b, b ≠ g → (w2.setCell ⟨g, 1, none⟩ (.int .i64 ((m : Int) + 1))).heap[b]? = w2.heap[b]? := fun b hb => Below.heap_setCell w2 _ _ b (by simpa using hb)
      refine ps_end (R := .ok x (m + 1)) (f := f) hgw (Nat.le_refl _) hP3 (grown_trans HG2.out ⟨rfl, rfl, rfl, Nat.le_of_eq hs1.symm, fun b _ hne => hk1 b (fun e => hne (by rw [e]))⟩) (Nat.le_of_eq (set4_size _ w.heap.size _ _ _ _).symm) rfl rfl rfl (fun b _ hne => set4_keep _ w.heap.size _ _ _ _ b hne) ?_
      exact (HE2.out.keep fun b hb hlt => (set4_keep _ w.heap.size _ _ _ _ b (by omega)).trans (hk1 b (by omega))).more fun b hb => by omega
    · have t1 := str_eq_F h41
      have H41 := Lib.hid h41
      clear h41
      go_wp2_with fail
      refine bodyPost_ret (v := .tuple #[.agg #[.int .i64 0, .int .i64 0, .string ⟨#[]⟩, .slice none 0 0], .int .i64 4]) (by simp [results, Tryd.results65, go_sem, r0, r1, r2, r3]) rfl ?_
      rw [HR.out]
      show PsPost w g ts o (if Ps.sgn ts m = [41] then Ps.R.ok x (m + 1) else Ps.R.bad m 4) _ _
      rw [if_neg H41.out]
      exact ps_end (R := .bad m 4) (f := ⟨0, 0, [], none, 0, 0⟩) hgw (Nat.le_refl _) HP2.out HG2.out (Nat.le_of_eq (set4_size w2 w.heap.size _ _ _ _).symm) rfl rfl rfl (fun b _ hne => set4_keep w2 w.heap.size _ _ _ _ b hne) (ExM.leaf _ _ _ _ _ _ _)
end Go.Proofs.YtfhpihpdijighaaDoor
