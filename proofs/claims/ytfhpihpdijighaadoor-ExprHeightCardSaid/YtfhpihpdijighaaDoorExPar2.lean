/- What operand of package expr returns, if the functions that it calls return what they should. -/
import Derived.Test.YtfhpihpdijighaaDoorExPar1
namespace Go.Proofs.YtfhpihpdijighaaDoor
open Go.RowKit

theorem setCell_size (W : World) (p : Addr) (u : Value) : (W.setCell p u).heap.size = W.heap.size := by simp [World.setCell]
theorem Psr.drew {w : World} {g : Nat} {ts : List Tk.Tok} {k o : Nat} (h : Psr w g ts k o) : Psr w.drew g ts k o := h.keep fun _ _ => rfl
/-- the world in which operand calls what follows a parenthesis or a unary operator -/
def opWorld (w3 : World) (g k o : Nat) : World := ((w3.setCell ⟨g, 2, none⟩ (.int .i64 ((o : Int) + 1))).setCell ⟨g, 1, none⟩ (.int .i64 ((k : Int) + 1))).alloc (.cells #[.int .i64 0, .int .i64 0, .string ⟨#[]⟩, .slice none 0 0] 38)
theorem opWorld_keep (w3 : World) (g k o b : Nat) (hb : b < w3.heap.size) (hne : b ≠ g) : (opWorld w3 g k o).heap[b]? = w3.heap[b]? := by
  unfold opWorld
  rw [Below.heap_alloc _ _ b (by simp [World.setCell]; omega), Below.heap_setCell _ _ _ b (by simpa using hne), Below.heap_setCell _ _ _ b (by simpa using hne)]
theorem opWorld_os (w3 : World) (g k o : Nat) : (opWorld w3 g k o).os = w3.os ∧ (opWorld w3 g k o).tape = w3.tape ∧ (opWorld w3 g k o).output = w3.output := ⟨rfl, rfl, rfl⟩
theorem setCell_os (W : World) (p : Addr) (u : Value) : (W.setCell p u).os = W.os ∧ (W.setCell p u).tape = W.tape ∧ (W.setCell p u).output = W.output := ⟨rfl, rfl, rfl⟩
theorem set4_os (W : World) (r : Nat) (u0 u1 u2 u3 : Value) : (set4 W r u0 u1 u2 u3).os = W.os ∧ (set4 W r u0 u1 u2 u3).tape = W.tape ∧ (set4 W r u0 u1 u2 u3).output = W.output := ⟨rfl, rfl, rfl⟩
theorem opWorld_size (w3 : World) (g k o : Nat) : (opWorld w3 g k o).heap.size = w3.heap.size + 1 := by
  unfold opWorld
  simp [World.setCell]
theorem opWorld_psr {w3 : World} {g : Nat} {ts : List Tk.Tok} {k o : Nat} (h : Psr w3 g ts k o) (hk : k + 1 < ts.length) (ho : o < 24) : Psr (opWorld w3 g k o) g ts (k + 1) (o + 1) := by
  have h1 := (h.op (o + 1) (by omega)).at (k + 1) hk
  exact h1.alloc _
theorem opWorld_new (w3 : World) (g k o : Nat) : (opWorld w3 g k o).heap[w3.heap.size]? = some (.cells #[.int .i64 0, .int .i64 0, .string ⟨#[]⟩, .slice none 0 0] 38 (0, 0)) := by
  have hs : ((w3.setCell ⟨g, 2, none⟩ (.int .i64 ((o : Int) + 1))).setCell ⟨g, 1, none⟩ (.int .i64 ((k : Int) + 1))).heap.size = w3.heap.size := by simp [World.setCell]
  have := heap_alloc_new ((w3.setCell ⟨g, 2, none⟩ (.int .i64 ((o : Int) + 1))).setCell ⟨g, 1, none⟩ (.int .i64 ((k : Int) + 1))) (.cells #[.int .i64 0, .int .i64 0, .string ⟨#[]⟩, .slice none 0 0] 38)
  rw [hs] at this
  exact this
/-- what is left of operand behind that call -/
theorem ps_tail {w w3 w4 : World} {g k o : Nat} {ts : List Tk.Tok} {R : Ps.R} {f : EF} (hgr : g < w.heap.size) (hre : w.heap.size < w3.heap.size) (h3 : w.grownBy w3 (some g)) (hG : (opWorld w3 g k o).grownBy w4 (some g))
    (hE : ExM w4 ((opWorld w3 g k o).heap.size ≤ ·) R.ex f) (hP : Psr w4 g ts R.at_ (o + 1)) (ho : o ≤ 24) (u0 u1 u2 u3 v0 v1 v2 v3 : Value) :
    PsPost w g ts o R (.returned (.tuple #[f.val, .int .i64 (R.err : Int)])) (set4 ((set4 w4 w3.heap.size u0 u1 u2 u3).setCell ⟨g, 2, none⟩ (.int .i64 (o : Int))) w.heap.size v0 v1 v2 v3) := by
  have hs3 := opWorld_size w3 g k o
  have hs4 := hG.size
  have hk1 : ∀ b, b ≠ w3.heap.size → (set4 w4 w3.heap.size u0 u1 u2 u3).heap[b]? = w4.heap[b]? := fun b hb => set4_keep w4 w3.heap.size u0 u1 u2 u3 b hb
  have hP1 : Psr (set4 w4 w3.heap.size u0 u1 u2 u3) g ts R.at_ (o + 1) := hP.keep fun b hb => hk1 b (by omega)
  have hP2 := hP1.op o ho
  have hk2 : ∀ b, b ≠ g → ((set4 w4 w3.heap.size u0 u1 u2 u3).setCell ⟨g, 2, none⟩ (.int .i64 (o : Int))).heap[b]? = (set4 w4 w3.heap.size u0 u1 u2 u3).heap[b]? := fun b hb => Below.heap_setCell _ _ _ b (by simpa using hb)
  have hsz : ((set4 w4 w3.heap.size u0 u1 u2 u3).setCell ⟨g, 2, none⟩ (.int .i64 (o : Int))).heap.size = w4.heap.size := (setCell_size _ _ _).trans (set4_size w4 w3.heap.size u0 u1 u2 u3)
  have hG2 : w.grownBy ((set4 w4 w3.heap.size u0 u1 u2 u3).setCell ⟨g, 2, none⟩ (.int .i64 (o : Int))) (some g) := by
    obtain ⟨o1, o2, o3⟩ := opWorld_os w3 g k o
    obtain ⟨s1, s2, s3⟩ := set4_os w4 w3.heap.size u0 u1 u2 u3
    obtain ⟨c1, c2, c3⟩ := setCell_os (set4 w4 w3.heap.size u0 u1 u2 u3) ⟨g, 2, none⟩ (.int .i64 (o : Int))
    refine ⟨(((c1.trans s1).trans hG.os).trans o1).trans h3.os, (((c2.trans s2).trans hG.tape).trans o2).trans h3.tape, (((c3.trans s3).trans hG.output).trans o3).trans h3.output, by rw [hsz]; have := h3.size; omega, fun b hb hne => ?_⟩
    have hbg : b ≠ g := fun e => hne (by rw [e])
    exact (hk2 b hbg).trans ((hk1 b (by omega)).trans ((hG.block b (by omega) hne).trans ((opWorld_keep w3 g k o b (by omega) hbg).trans (h3.block b hb hne))))
  obtain ⟨d1, d2, d3⟩ := set4_os ((set4 w4 w3.heap.size u0 u1 u2 u3).setCell ⟨g, 2, none⟩ (.int .i64 (o : Int))) w.heap.size v0 v1 v2 v3
  refine ps_end hgr (Nat.le_refl _) hP2 hG2 (Nat.le_of_eq (set4_size _ w.heap.size _ _ _ _).symm) d1 d2 d3 (fun b _ hne => set4_keep _ w.heap.size _ _ _ _ b hne) ?_
  exact (hE.keep fun b hb hlt => (set4_keep _ w.heap.size _ _ _ _ b (by omega)).trans ((hk2 b (by omega)).trans (hk1 b (by omega)))).more fun b hb => by omega

theorem op_facts {w w2 : World} {g : Nat} {ts : List Tk.Tok} {k o : Nat} {cs : Array Value} {t : TypeId} (hP : Psr w g ts k o)
    (hb : Below ((w.alloc (.cells #[.int .i64 0, .int .i64 0, .string ⟨#[]⟩, .slice none 0 0] 38)).alloc (.cells cs t)).drew.heap.size ((w.alloc (.cells #[.int .i64 0, .int .i64 0, .string ⟨#[]⟩, .slice none 0 0] 38)).alloc (.cells cs t)).drew w2) :
    Psr w2 g ts k o ∧ w2.heap[w.heap.size]? = some (.cells #[.int .i64 0, .int .i64 0, .string ⟨#[]⟩, .slice none 0 0] 38 (0, 0)) ∧ w.grownBy w2 (some g) ∧ w.heap.size + 2 ≤ w2.heap.size := by
  have hs : ((w.alloc (.cells #[.int .i64 0, .int .i64 0, .string ⟨#[]⟩, .slice none 0 0] 38)).alloc (.cells cs t)).drew.heap.size = w.heap.size + 2 := by simp
  have hsz := hb.size
  refine ⟨(((hP.alloc _).alloc _).drew).later hb, ?_, ⟨hb.os, hb.tape, hb.output, by omega, fun b hbb _ => ?_⟩, by omega⟩
  · refine (hb.block _ (by omega)).trans ?_
    refine (Below.heap_alloc _ _ _ (by simp)).trans ?_
    exact heap_alloc_new w _
  · exact (hb.block b (by omega)).trans ((Below.heap_alloc _ _ b (by simp; omega)).trans (Below.heap_alloc w _ b hbb))
/-- the blocks of the result and of the part behind that call -/
theorem op_back {w w3 w4 : World} {g k o : Nat} {Z : Obj} (hZ : w3.heap[w.heap.size]? = some Z) (hr : w.heap.size < w3.heap.size) (hg : g < w.heap.size) (hG : (opWorld w3 g k o).grownBy w4 (some g)) :
    w4.heap[w.heap.size]? = some Z ∧ w4.heap[w3.heap.size]? = some (.cells #[.int .i64 0, .int .i64 0, .string ⟨#[]⟩, .slice none 0 0] 38 (0, 0)) := by
  have hs := opWorld_size w3 g k o
  exact ⟨(hG.block _ (by omega) (fun e => by injection e with e; omega)).trans ((opWorld_keep w3 g k o _ hr (by omega)).trans hZ), (hG.block _ (by omega) (fun e => by injection e with e; omega)).trans (opWorld_new w3 g k o)⟩
/-- a number or a name was read -/
theorem op_leaf {w : World} {g : Nat} {ts : List Tk.Tok} {k o : Nat} (hP : Psr w g ts k o) (hk : k + 1 < ts.length) (op num : Int) (name : List UInt8) (cs : Array Value) (t t' : TypeId) :
    PsPost w g ts o (.ok (.mk op num name []) (k + 1)) (.returned (.tuple #[.agg #[.int .i64 op, .int .i64 num, .string ⟨name.toArray⟩, .slice none 0 0], .int .i64 0]))
      (((w.setCell ⟨g, 1, none⟩ (.int .i64 ((k : Int) + 1))).alloc (.cells #[.int .i64 op, .int .i64 num, .string ⟨name.toArray⟩, .slice none 0 0] t)).alloc (.cells cs t')).drew := by
  have hs : (w.setCell ⟨g, 1, none⟩ (.int .i64 ((k : Int) + 1))).heap.size = w.heap.size := by simp [World.setCell]
  have hP1 : Psr (w.setCell ⟨g, 1, none⟩ (.int .i64 ((k : Int) + 1))) g ts (k + 1) o := hP.at (k + 1) hk
  refine ⟨⟨op, num, name, none, 0, 0⟩, rfl, ExM.leaf _ _ _ _ _ _ _, ((hP1.alloc _).alloc _).drew, ⟨rfl, rfl, rfl, ?_, fun b hb hne => ?_⟩⟩
  · show w.heap.size ≤ ((((w.setCell ⟨g, 1, none⟩ (.int .i64 ((k : Int) + 1))).alloc _).alloc _)).heap.size
    simp [hs]
    omega
  · show ((((w.setCell ⟨g, 1, none⟩ (.int .i64 ((k : Int) + 1))).alloc _).alloc _)).heap[b]? = _
    rw [Below.heap_alloc _ _ b (by simp; omega), Below.heap_alloc _ _ b (by omega), Below.heap_setCell _ _ _ b (by simp; exact fun e => hne (by rw [e]))]

set_option maxRecDepth 100000 in
set_option maxHeartbeats 4000000 in
theorem operand_of (w : World) (g : Nat) (ts : List Tk.Tok) (k o : Nat) (hlast : Ps.kindAt ts (ts.length - 1) = 5) (hP : Psr w g ts k o)
    (hE : k + 1 < ts.length → o < 24 → ∀ w', Psr w' g ts (k + 1) (o + 1) → Calls Tryd.prog 27 #[.pointer (some ⟨g, 0, none⟩), .int .i64 1] w' (PsPost w' g ts (o + 1) (Ps.PE ts 1 (o + 1) (k + 1))))
    (hO : k + 1 < ts.length → o < 24 → ∀ w', Psr w' g ts (k + 1) (o + 1) → Calls Tryd.prog 46 #[.pointer (some ⟨g, 0, none⟩)] w' (PsPost w' g ts (o + 1) (Ps.PO ts (o + 1) (k + 1)))) :
    Calls Tryd.prog 46 #[.pointer (some ⟨g, 0, none⟩)] w (PsPost w g ts o (Ps.PO ts o k)) := by
  have hk := hP.inT
  have hgl := hP.lt
  have HP0 := Lib.hid hP
  have HPO := Lib.hid (Ps.PO_eq ts o k)
  obtain ⟨b, c, hne, hbl, q0, q1, q2, f1, f2, a0, a1, a2, v, a3⟩ := hP.cells
  have hmx : k + 1 ≤ 1000000 ∧ o ≤ 24 := by obtain ⟨A, c, hb, hl, ho, hn, _⟩ := hP; omega
  have HE := Lib.hid hE
  have HO := Lib.hid hO
  have HL := Lib.hid hlast
  clear hP hE hO hlast
  have i0 : (0 : Int) ≤ (k : Int) := by omega
  have i1 : (k : Int) < (ts.length : Int) := by omega
  by_cases h2 : Ps.kindAt ts k = 2
  · have t2 := bT (show ((Ps.kindAt ts k : Nat) : Int) = 2 by omega)
    have hnx : k + 1 < ts.length := Ps.next_in HL.out hk (by rw [h2]; decide)
    have H2 := Lib.hid h2
    clear h2
    generalize Ps.kindAt ts k = K at *
    generalize Ps.textAt ts k = T at *
    generalize Ps.numAt ts k = M at *
    go_enter Tryd.func46, Tryd.ntmps46
    go_wp2
    go_region
    all_goals
      go_wp2
      refine bodyPost_ret (v := .tuple #[.agg #[.int .i64 1, .int .i64 (M : Int), .string ⟨#[]⟩, .slice none 0 0], .int .i64 0]) (by simp [results, Tryd.results46, go_sem]) rfl ?_
      rw [HPO.out, if_pos H2.out]
      exact op_leaf HP0.out hnx 1 (M : Int) [] _ _ _
  · have hn2 := bF (show ((Ps.kindAt ts k : Nat) : Int) ≠ 2 by omega)
    by_cases h1 : Ps.kindAt ts k = 1
    · have t1 := bT (show ((Ps.kindAt ts k : Nat) : Int) = 1 by omega)
      have hnx : k + 1 < ts.length := Ps.next_in HL.out hk (by rw [h1]; decide)
      have H2 := Lib.hid h2
      have H1 := Lib.hid h1
      clear h2 h1
      generalize Ps.kindAt ts k = K at *
      generalize Ps.textAt ts k = T at *
      generalize Ps.numAt ts k = M at *
      go_enter Tryd.func46, Tryd.ntmps46
      go_wp2
      go_region
      all_goals
        go_wp2
        refine bodyPost_ret (v := .tuple #[.agg #[.int .i64 2, .int .i64 0, .string ⟨T.toArray⟩, .slice none 0 0], .int .i64 0]) (by simp [results, Tryd.results46, go_sem]) rfl ?_
        rw [HPO.out, if_neg H2.out, if_pos H1.out]
        exact op_leaf HP0.out hnx 2 0 T _ _ _
    · have hn1 := bF (show ((Ps.kindAt ts k : Nat) : Int) ≠ 1 by omega)
      have HPO2 := Lib.hid HPO.out
      rw [if_neg h2, if_neg h1] at HPO2
      clear h2 h1 HPO
      generalize Ps.kindAt ts k = K at *
      generalize Ps.textAt ts k = T at *
      generalize Ps.numAt ts k = M at *
      go_enter Tryd.func46, Tryd.ntmps46
      go_wp2
      go_region
      go_wp2_with fail
      refine (psign_any _ g ts k o ((HP0.out.alloc _).alloc _).drew).mono ?_
      rintro e w2 ⟨rfl, hb2⟩
      obtain ⟨hP2, hZ2, hG2, hs2⟩ := op_facts HP0.out hb2
      clear hb2 hgl hbl q0 q1 q2 f1 f2 a0 a1 a2 a3 hne i0 i1 hn1 hn2
      have HP2 := Lib.hid hP2
      have HG2 := Lib.hid hG2
      have hgl := HP0.out.lt
      obtain ⟨r0, r1, r2, r3, z0, z1, z2, z3, -⟩ := blk4 hZ2
      obtain ⟨tb, tc, hne, hbl, p0, p1, p2, g1, g2, -, -, -, -⟩ := hP2.cells
      have hn0 : g ≠ w.heap.size := by omega
      have HZ2 := Lib.hid hZ2
      clear hP2 hG2 hZ2 p0
      go_wp2_with fail
      refine (unaryOp_any (Ps.sgn ts k) w2 HP2.out.tab).mono ?_
      rintro e w3 ⟨rfl, rfl⟩
      by_cases hu : Ps.uop (Ps.sgn ts k) = 0
      · have tu := bT (show ((Ps.uop (Ps.sgn ts k) : Nat) : Int) = 0 by omega)
        have HU := Lib.hid hu
        clear hu
        go_wp2_with fail
        refine (psign_any _ g ts k o HP2.out).mono ?_
        rintro e w3 ⟨rfl, hb3⟩
        have hP3 := HP2.out.later hb3
        have hZ3 := (hb3.block _ (lt_of_block HZ2.out)).trans HZ2.out
        have hG3 : w.grownBy w3 (some g) := grown_trans HG2.out ⟨hb3.os, hb3.tape, hb3.output, hb3.size, fun b hb _ => hb3.block b hb⟩
        have hs3 : w.heap.size + 2 ≤ w3.heap.size := by have := hb3.size; omega
        have HP3 := Lib.hid hP3
        have HG3 := Lib.hid hG3
        have HZ3 := Lib.hid hZ3
        clear p1 p2 g1 g2 r0 r1 r2 r3 z0 z1 z2 z3 hbl hne hs2 HP2 HG2 HZ2 hb3
        obtain ⟨r0, r1, r2, r3, z0, z1, z2, z3, -⟩ := blk4 hZ3
        obtain ⟨tb, tc, hne, hbl, p0, p1, p2, g1, g2, -, -, -, -⟩ := hP3.cells
        clear hP3 hG3 hZ3 p0
        by_cases h40 : Ps.sgn ts k = [40]
        · have t40 := str_eq_T h40
          have H40 := Lib.hid h40
          have hnx : k + 1 < ts.length := Ps.next_in HL.out hk (by rw [Ps.sgn_kind (by rw [h40]; decide)]; decide)
          clear h40
          by_cases h24 : o = 24
          · have t24 := bT (show ((o : Nat) : Int) = 24 by omega)
            have H24 := Lib.hid h24
            clear h24
            go_wp2_with fail
            refine bodyPost_ret (v := .tuple #[.agg #[.int .i64 0, .int .i64 0, .string ⟨#[]⟩, .slice none 0 0], .int .i64 3]) (by simp [results, Tryd.results46, go_sem, r0, r1, r2, r3]) rfl ?_
            rw [HPO2.out, if_neg (fun h => h.2 H40.out), if_pos H24.out]
            exact ps_end (R := .bad k 3) (f := ⟨0, 0, [], none, 0, 0⟩) hgl (Nat.le_refl _) HP3.out HG3.out (Nat.le_of_eq (set4_size w3 w.heap.size _ _ _ _).symm) rfl rfl rfl (fun b _ hne => set4_keep w3 w.heap.size _ _ _ _ b hne) (ExM.leaf _ _ _ _ _ _ _)
          · have t24 := bF (show ((o : Nat) : Int) ≠ 24 by omega)
            have ho : o < 24 := by omega
            have H24 := Lib.hid h24
            clear h24
            go_wp2_with fail
            refine (afterParenthesis_of (opWorld w3 g k o) g ts (k + 1) (o + 1) HL.out (opWorld_psr HP3.out hnx ho) (HE.out hnx ho)).mono ?_
            rintro e w4 ⟨f, rfl, hE4, hP4, hG4⟩
            unfold EF.val
            obtain ⟨hZ4, hB4⟩ := op_back HZ3.out (by omega) hgl hG4
            obtain ⟨r0', r1', r2', r3', z0', z1', z2', z3', hl1⟩ := blk4 hZ4
            obtain ⟨b0, b1, b2, b3, y0, y1, y2, y3, hl2⟩ := blk4 hB4
            obtain ⟨tb', tc', hne', hbl', p0', p1', p2', g1', g2', -, -, -, -⟩ := hP4.cells
            rw [show (((o + 1 : Nat) : Nat) : Int) = (o : Int) + 1 by omega] at p2'
            have HX := Lib.hid (fun u0 u1 u2 u3 v0 v1 v2 v3 => ps_tail (k := k) hgl (by omega) HG3.out hG4 hE4 hP4 (by omega) u0 u1 u2 u3 v0 v1 v2 v3)
            have hnn : w3.heap.size ≠ w.heap.size := by omega
            have hnm : g ≠ w3.heap.size := by omega
            clear hZ4 hB4 hE4 hP4 hG4 p0' p1' g1' p1 p2 g1 g2 r0 r1 r2 r3 z0 z1 z2 z3 hbl hbl' hne hne'
            generalize ((Ps.PE ts 1 (o + 1) (k + 1)).bind fun x k' => if Ps.sgn ts k' = [41] then Ps.R.ok x (k' + 1) else Ps.R.bad k' 4) = R at *
            go_wp2_with fail
            refine bodyPost_ret (v := .tuple #[.agg #[.int .i64 f.op, .int .i64 f.num, .string ⟨f.name.toArray⟩, .slice f.A f.n f.c], .int .i64 (R.err : Int)]) (by simp [results, Tryd.results46, go_sem, r0', r1', r2', r3']) rfl ?_
            rw [HPO2.out, if_neg (fun h => h.2 H40.out), if_neg H24.out, if_pos HU.out]
            exact HX.out _ _ _ _ _ _ _ _
        · have t40 := str_eq_F h40
          have H40 := Lib.hid h40
          clear h40
          go_wp2_with fail
          refine bodyPost_ret (v := .tuple #[.agg #[.int .i64 0, .int .i64 0, .string ⟨#[]⟩, .slice none 0 0], .int .i64 4]) (by simp [results, Tryd.results46, go_sem, r0, r1, r2, r3]) rfl ?_
          rw [HPO2.out, if_pos ⟨HU.out, H40.out⟩]
          exact ps_end (R := .bad k 4) (f := ⟨0, 0, [], none, 0, 0⟩) hgl (Nat.le_refl _) HP3.out HG3.out (Nat.le_of_eq (set4_size w3 w.heap.size _ _ _ _).symm) rfl rfl rfl (fun b _ hne => set4_keep w3 w.heap.size _ _ _ _ b hne) (ExM.leaf _ _ _ _ _ _ _)
      · have tu := bF (show ((Ps.uop (Ps.sgn ts k) : Nat) : Int) ≠ 0 by omega)
        have HU := Lib.hid hu
        have hsg : Ps.sgn ts k ≠ [] := fun e => hu (by rw [e]; exact Ps.uop_nil)
        have hnx : k + 1 < ts.length := Ps.next_in HL.out hk (by rw [Ps.sgn_kind hsg]; decide)
        clear hu hsg
        by_cases h24 : o = 24
        · have t24 := bT (show ((o : Nat) : Int) = 24 by omega)
          have H24 := Lib.hid h24
          clear h24
          go_wp2_with fail
          refine bodyPost_ret (v := .tuple #[.agg #[.int .i64 0, .int .i64 0, .string ⟨#[]⟩, .slice none 0 0], .int .i64 3]) (by simp [results, Tryd.results46, go_sem, r0, r1, r2, r3]) rfl ?_
          rw [HPO2.out, if_neg (fun h => HU.out h.1), if_pos H24.out]
          exact ps_end (R := .bad k 3) (f := ⟨0, 0, [], none, 0, 0⟩) hgl (Nat.le_refl _) HP2.out HG2.out (Nat.le_of_eq (set4_size w2 w.heap.size _ _ _ _).symm) rfl rfl rfl (fun b _ hne => set4_keep w2 w.heap.size _ _ _ _ b hne) (ExM.leaf _ _ _ _ _ _ _)
        · have t24 := bF (show ((o : Nat) : Int) ≠ 24 by omega)
          have ho : o < 24 := by omega
          have H24 := Lib.hid h24
          clear h24
          go_wp2_with fail
          refine (afterUnary_of (opWorld w2 g k o) g ts (k + 1) (o + 1) (Ps.uop (Ps.sgn ts k)) (opWorld_psr HP2.out hnx ho) (HO.out hnx ho)).mono ?_
          rintro e w4 ⟨f, rfl, hE4, hP4, hG4⟩
          unfold EF.val
          obtain ⟨hZ4, hB4⟩ := op_back HZ2.out (by omega) hgl hG4
          obtain ⟨r0', r1', r2', r3', z0', z1', z2', z3', hl1⟩ := blk4 hZ4
          obtain ⟨b0, b1, b2, b3, y0, y1, y2, y3, hl2⟩ := blk4 hB4
          obtain ⟨tb', tc', hne', hbl', p0', p1', p2', g1', g2', -, -, -, -⟩ := hP4.cells
          rw [show (((o + 1 : Nat) : Nat) : Int) = (o : Int) + 1 by omega] at p2'
          have HX := Lib.hid (fun u0 u1 u2 u3 v0 v1 v2 v3 => ps_tail (k := k) hgl (by omega) HG2.out hG4 hE4 hP4 (by omega) u0 u1 u2 u3 v0 v1 v2 v3)
          have hnn : w2.heap.size ≠ w.heap.size := by omega
          have hnm : g ≠ w2.heap.size := by omega
          clear hZ4 hB4 hE4 hP4 hG4 p0' p1' g1' p1 p2 g1 g2 r0 r1 r2 r3 z0 z1 z2 z3 hbl hbl' hne hne'
          generalize ((Ps.PO ts (o + 1) (k + 1)).bind fun x k' => Ps.R.ok (Ex.mk (↑(Ps.uop (Ps.sgn ts k))) 0 [] [x]) k') = R at *
          go_wp2_with fail
          refine bodyPost_ret (v := .tuple #[.agg #[.int .i64 f.op, .int .i64 f.num, .string ⟨f.name.toArray⟩, .slice f.A f.n f.c], .int .i64 (R.err : Int)]) (by simp [results, Tryd.results46, go_sem, r0', r1', r2', r3']) rfl ?_
          rw [HPO2.out, if_neg (fun h => HU.out h.1), if_neg H24.out, if_neg HU.out]
          exact HX.out _ _ _ _ _ _ _ _

end Go.Proofs.YtfhpihpdijighaaDoor
