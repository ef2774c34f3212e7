/- What expression and operand of package expr return: what the plain parser says. -/
import Derived.Test.YtfhpihpdijighaaDoorExPar2
namespace Go.Proofs.YtfhpihpdijighaaDoor
open Go.RowKit

/-- the world in which expression reads the right side of an operator -/
def exWorld (w2 : World) (g m : Nat) : World := (w2.setCell ⟨g, 1, none⟩ (.int .i64 ((m : Int) + 1))).alloc (.cells #[.int .i64 0, .int .i64 0, .string ⟨#[]⟩, .slice none 0 0] 38)
theorem exWorld_keep (w2 : World) (g m b : Nat) (hb : b < w2.heap.size) (hne : b ≠ g) : (exWorld w2 g m).heap[b]? = w2.heap[b]? := by
  unfold exWorld
  rw [Below.heap_alloc _ _ b (by rw [setCell_size]; exact hb), Below.heap_setCell _ _ _ b (by simpa using hne)]
theorem exWorld_size (w2 : World) (g m : Nat) : (exWorld w2 g m).heap.size = w2.heap.size + 1 := by
  unfold exWorld
  simp [World.setCell]
theorem exWorld_os (w2 : World) (g m : Nat) : (exWorld w2 g m).os = w2.os ∧ (exWorld w2 g m).tape = w2.tape ∧ (exWorld w2 g m).output = w2.output := ⟨rfl, rfl, rfl⟩
theorem exWorld_psr {w2 : World} {g : Nat} {ts : List Tk.Tok} {m o : Nat} (h : Psr w2 g ts m o) (hk : m + 1 < ts.length) : Psr (exWorld w2 g m) g ts (m + 1) o := (h.at (m + 1) hk).alloc _
theorem exWorld_new (w2 : World) (g m : Nat) : (exWorld w2 g m).heap[w2.heap.size]? = some (.cells #[.int .i64 0, .int .i64 0, .string ⟨#[]⟩, .slice none 0 0] 38 (0, 0)) := by
  have := heap_alloc_new (w2.setCell ⟨g, 1, none⟩ (.int .i64 ((m : Int) + 1))) (.cells #[.int .i64 0, .int .i64 0, .string ⟨#[]⟩, .slice none 0 0] 38)
  rw [setCell_size] at this
  exact this

/-- the blocks of what a loop of expression has read -/
def LS (w : World) (lb : Nat) (b : Nat) : Prop := w.heap.size < b ∧ b ≠ lb
/-- a block holds the fields f -/
def Blk (w : World) (b : Nat) (f : EF) : Prop := w.heap[b]? = some (.cells #[.int .i64 f.op, .int .i64 f.num, .string ⟨f.name.toArray⟩, .slice f.A f.n f.c] 38 (0, 0))
def Blk0 (w : World) (b : Nat) : Prop := w.heap[b]? = some (.cells #[.int .i64 0, .int .i64 0, .string ⟨#[]⟩, .slice none 0 0] 38 (0, 0))

set_option maxHeartbeats 2000000 in
/-- what a round of expression's loop leaves -/
theorem ex_round {w wr w2 w4 : World} {g lb m o : Nat} {ts : List Tk.Tok} {at_ : Nat} {x y : Ex} {f fr : EF} {op : Nat} (hgr : g < w.heap.size) (hlb : w.heap.size < lb) (hL : Blk wr lb f) (hZ : Blk0 wr w.heap.size) (hGw : w.grownBy wr (some g)) (hb2 : Below wr.heap.size wr w2)
    (hG : (exWorld w2 g m).grownBy w4 (some g)) (hP : Psr w4 g ts at_ o) (hx : ExM wr (LS w lb) x f) (hy : ExM w4 ((exWorld w2 g m).heap.size ≤ ·) y fr) (u0 u1 u2 u3 : Value) (W : World) (hWd : W = (set4 (set4 w4 w2.heap.size u0 u1 u2 u3) lb (.int .i64 (op : Int)) (.int .i64 0) (.string ⟨#[]⟩) (.slice (some ⟨w4.heap.size, 0, none⟩) 2 2)).alloc (.cells #[.int .i64 f.op, .int .i64 f.num, .string ⟨f.name.toArray⟩, .slice f.A f.n f.c, .int .i64 fr.op, .int .i64 fr.num, .string ⟨fr.name.toArray⟩, .slice fr.A fr.n fr.c] 38)) :
    Psr W g ts at_ o ∧ Blk W lb ⟨op, 0, [], some ⟨w4.heap.size, 0, none⟩, 2, 2⟩ ∧ Blk0 W w.heap.size ∧ w.grownBy W (some g) ∧ ExM W (LS w lb) (.mk op 0 [] [x, y]) ⟨op, 0, [], some ⟨w4.heap.size, 0, none⟩, 2, 2⟩ := by
  have hlw : lb < wr.heap.size := lt_of_block hL
  have hs2 := hb2.size
  have hsX := exWorld_size w2 g m
  have hs4 := hG.size
  generalize hA : set4 (set4 w4 w2.heap.size u0 u1 u2 u3) lb (.int .i64 (op : Int)) (.int .i64 0) (.string ⟨#[]⟩) (.slice (some ⟨w4.heap.size, 0, none⟩) 2 2) = A at hWd
  have hsz : A.heap.size = w4.heap.size := by rw [← hA, set4_size, set4_size]
  have hAk : ∀ b, b ≠ w2.heap.size → b ≠ lb → A.heap[b]? = w4.heap[b]? := by
    intro b h1 h2
    rw [← hA, set4_keep _ lb _ _ _ _ b h2, set4_keep _ _ _ _ _ _ b h1]
  have h4r : ∀ b, b < wr.heap.size → b ≠ g → w4.heap[b]? = wr.heap[b]? := fun b hb hne =>
    (hG.block b (by omega) (fun e => hne (by injection e))).trans ((exWorld_keep w2 g m b (by omega) hne).trans (hb2.block b hb))
  have hAl : Blk A lb ⟨op, 0, [], some ⟨w4.heap.size, 0, none⟩, 2, 2⟩ := by
    have h4 : (set4 w4 w2.heap.size u0 u1 u2 u3).heap[lb]? = some (.cells #[.int .i64 f.op, .int .i64 f.num, .string ⟨f.name.toArray⟩, .slice f.A f.n f.c] 38 (0, 0)) :=
      (set4_keep w4 w2.heap.size u0 u1 u2 u3 lb (by omega)).trans ((h4r lb hlw (by omega)).trans hL)
    rw [← hA]
    exact set4_at h4 _ _ _ _
  have hAo : A.os = w4.os ∧ A.tape = w4.tape ∧ A.output = w4.output := by
    obtain ⟨a1, a2, a3⟩ := set4_os w4 w2.heap.size u0 u1 u2 u3
    obtain ⟨b1, b2, b3⟩ := set4_os (set4 w4 w2.heap.size u0 u1 u2 u3) lb (.int .i64 (op : Int)) (.int .i64 0) (.string ⟨#[]⟩) (.slice (some ⟨w4.heap.size, 0, none⟩) 2 2)
    rw [← hA]
    exact ⟨b1.trans a1, b2.trans a2, b3.trans a3⟩
  clear hA
  have hW : ∀ b, b < w4.heap.size → b ≠ w2.heap.size → b ≠ lb → W.heap[b]? = w4.heap[b]? := by
    intro b hb h1 h2
    rw [hWd, Below.heap_alloc _ _ b (by rw [hsz]; exact hb), hAk b h1 h2]
  have hWs : W.heap.size = w4.heap.size + 1 := by rw [hWd]; simp [hsz]
  have e : ∀ o', W.cell? ⟨w4.heap.size, o', none⟩ = [Value.int .i64 f.op, .int .i64 f.num, .string ⟨f.name.toArray⟩, .slice f.A f.n f.c, .int .i64 fr.op, .int .i64 fr.num, .string ⟨fr.name.toArray⟩, .slice fr.A fr.n fr.c][o']? := by
    intro o'
    rw [hWd, ← hsz, World.cell?_alloc_mark]
    simp
  have hWl : W.heap[lb]? = A.heap[lb]? := by rw [hWd, Below.heap_alloc _ _ lb (by rw [hsz]; omega)]
  have hWo : W.os = w4.os ∧ W.tape = w4.tape ∧ W.output = w4.output := by rw [hWd]; exact hAo
  clear hWd
  have hbw := hGw.size
  refine ⟨hP.keep fun b hb => hW b (by have := hP.lt; omega) (by omega) (by omega), hWl.trans hAl, (hW _ (by omega) (by omega) (by omega)).trans ((h4r _ (by omega) (by omega)).trans hZ), ?_, ?_⟩
  · obtain ⟨o1, o2, o3⟩ := exWorld_os w2 g m
    refine ⟨((hWo.1.trans hG.os).trans o1).trans (hb2.os.trans hGw.os), ((hWo.2.1.trans hG.tape).trans o2).trans (hb2.tape.trans hGw.tape), ((hWo.2.2.trans hG.output).trans o3).trans (hb2.output.trans hGw.output), by omega, fun b hb hne => ?_⟩
    exact (hW b (by omega) (by omega) (by omega)).trans ((h4r b (by omega) (fun e => hne (by rw [e]))).trans (hGw.block b hb hne))
  · refine ExM.two _ _ _ w4.heap.size 0 2 ⟨by omega, by omega⟩ ⟨(e 0).trans rfl, (e 1).trans rfl, (e 2).trans rfl, (e 3).trans rfl⟩ ⟨(e 4).trans rfl, (e 5).trans rfl, (e 6).trans rfl, (e 7).trans rfl⟩ ?_ ?_
    · exact hx.keep fun b hb hlt => (hW b (by omega) (by omega) hb.2).trans (h4r b hlt (by have := hb.1; omega))
    · exact (hy.keep fun b hb hlt => hW b hlt (by omega) (by omega)).more fun b hb => ⟨by omega, by omega⟩

theorem ExM.inside {w : World} {S : Nat → Prop} {E : Ex} {f : EF} (h : ExM w S E f) : ExM w (fun b => S b ∧ b < w.heap.size) E f := by
  induction h with
  | mk op num name args A c F hc hs ih =>
    refine .mk op num name args A c F (fun i hi => ?_) ih
    obtain ⟨b, off, e, hb, hat⟩ := hc i hi
    exact ⟨b, off, e, ⟨hb, hat.lt⟩, hat⟩
/-- where a parser stands -/
def atOf (w : World) (g : Nat) : Nat := match w.cell? ⟨g, 1, none⟩ with
  | some (.int _ n) => n.toNat
  | _ => 0
theorem Psr.atOf {w : World} {g : Nat} {ts : List Tk.Tok} {k o : Nat} (h : Psr w g ts k o) : atOf w g = k := by
  obtain ⟨b, c, -, -, -, q1, -⟩ := h.cells
  unfold Go.Proofs.YtfhpihpdijighaaDoor.atOf
  rw [q1]
  simp
/-- a list of states of the loop -/
def ExRel (w : World) (g lb : Nat) (ts : List Tk.Tok) (least o k : Nat) (er : Value) (wr : World) : Prop :=
  ∃ (R : Ps.R) (f : EF), er = .int .i64 (R.err : Int) ∧ R.bind (fun x m => Ps.PC ts least o x m) = Ps.PE ts least o k ∧ (∀ m e, R = .bad m e → e = 3 ∨ e = 4) ∧ Psr wr g ts R.at_ o ∧ Blk wr lb f ∧ Blk0 wr w.heap.size ∧ w.grownBy wr (some g) ∧ (∀ x m, R = .ok x m → ExM wr (LS w lb) x f ∧ k < m)

theorem err_bind (R : Ps.R) (h : Ex → Ex) : (R.bind fun r k' => .ok (h r) k').err = R.err ∧ (R.bind fun r k' => .ok (h r) k').at_ = R.at_ := by cases R <;> exact ⟨rfl, rfl⟩
theorem ex_next {w wr w2 w4 : World} {g lb m o least k : Nat} {ts : List Tk.Tok} {R4 : Ps.R} {x : Ex} {f fr : EF} {op : Nat} (hgr : g < w.heap.size) (hlb : w.heap.size < lb) (hL : Blk wr lb f) (hZ : Blk0 wr w.heap.size) (hGw : w.grownBy wr (some g)) (hb2 : Below wr.heap.size wr w2)
    (hG : (exWorld w2 g m).grownBy w4 (some g)) (hP : Psr w4 g ts R4.at_ o) (hx : ExM wr (LS w lb) x f) (hy : ExM w4 ((exWorld w2 g m).heap.size ≤ ·) R4.ex fr)
    (hF : Ps.PC ts least o x m = R4.bind fun r k' => Ps.PC ts least o (.mk op 0 [] [x, r]) k') (hB : Ps.PC ts least o x m = Ps.PE ts least o k) (herr : ∀ a e, R4 = .bad a e → e = 3 ∨ e = 4) (hmv : ∀ y a, R4 = .ok y a → m + 1 < a) (hkm : k < m) (u0 u1 u2 u3 : Value)
    (W : World) (hWd : W = (set4 (set4 w4 w2.heap.size u0 u1 u2 u3) lb (.int .i64 (op : Int)) (.int .i64 0) (.string ⟨#[]⟩) (.slice (some ⟨w4.heap.size, 0, none⟩) 2 2)).alloc (.cells #[.int .i64 f.op, .int .i64 f.num, .string ⟨f.name.toArray⟩, .slice f.A f.n f.c, .int .i64 fr.op, .int .i64 fr.num, .string ⟨fr.name.toArray⟩, .slice fr.A fr.n fr.c] 38)) :
    ExRel w g lb ts least o k (.int .i64 (R4.err : Int)) W ∧ (if ((R4.err : Nat) : Int) = 0 then ts.length - atOf W g + 1 else 0) < (if (0 : Int) = 0 then ts.length - m + 1 else 0) := by
  obtain ⟨h1, h2, h3, h4, h5⟩ := ex_round (op := op) hgr hlb hL hZ hGw hb2 hG hP hx hy u0 u1 u2 u3 W hWd
  obtain ⟨e1, e2⟩ := err_bind R4 fun r => .mk op 0 [] [x, r]
  refine ⟨⟨R4.bind fun r k' => .ok (.mk op 0 [] [x, r]) k', _, by rw [e1], ?_, ?_, by rw [e2]; exact h1, h2, h3, h4, ?_⟩, ?_⟩
  · rw [Ps.bind_assoc, ← hB, hF]
    rfl
  · intro a e he
    cases R4 with
    | bad a' e' => exact herr a e (by injection he with i1 i2; rw [i1, i2])
    | ok y a' => cases he
  · intro y a he
    cases R4 with
    | bad a' e' => cases he
    | ok z a' =>
      injection he with i1 i2
      subst i1 i2
      exact ⟨h5, by have := hmv z a' rfl; omega⟩
  · have hat := h1.atOf
    have hin := h1.inT
    rw [hat]
    rw [if_pos (rfl : (0 : Int) = 0)]
    split
    · rename_i h0
      cases R4 with
      | bad a' e' =>
        have := herr a' e' rfl
        simp [Ps.R.err] at h0
        omega
      | ok z a' =>
        have := hmv z a' rfl
        simp only [Ps.R.at_] at *
        omega
    · omega

set_option maxRecDepth 100000 in
set_option maxHeartbeats 4000000 in
theorem expression_of (w : World) (g : Nat) (ts : List Tk.Tok) (least k o : Nat) (hlast : Ps.kindAt ts (ts.length - 1) = 5) (hl1 : 1 ≤ least) (_hl6 : least ≤ 6) (hP : Psr w g ts k o)
    (hO : ∀ w', Psr w' g ts k o → Calls Tryd.prog 46 #[.pointer (some ⟨g, 0, none⟩)] w' (PsPost w' g ts o (Ps.PO ts o k)))
    (hE : ∀ l k' : Nat, 1 ≤ l → l ≤ 6 → k < k' → k' < ts.length → ∀ w', Psr w' g ts k' o → Calls Tryd.prog 27 #[.pointer (some ⟨g, 0, none⟩), .int .i64 (l : Int)] w' (PsPost w' g ts o (Ps.PE ts l o k'))) :
    Calls Tryd.prog 27 #[.pointer (some ⟨g, 0, none⟩), .int .i64 (least : Int)] w (PsPost w g ts o (Ps.PE ts least o k)) := by
  have HP := Lib.hid (hP.alloc (.cells #[.int .i64 0, .int .i64 0, .string ⟨#[]⟩, .slice none 0 0] 38))
  have hgw := hP.lt
  have hmx : ts.length ≤ 1000000 := by obtain ⟨A, c, hb, hl, ho, hn, _⟩ := hP; exact hn
  have HO := Lib.hid hO
  have HE := Lib.hid hE
  have HL := Lib.hid hlast
  clear hP hO hE hlast
  go_enter Tryd.func27, Tryd.ntmps27
  go_wp2_with fail
  refine (HO.out _ HP.out).mono ?_
  rintro e w1 ⟨f, rfl, hE1, hP1, hG1⟩
  unfold EF.val
  have hz1 : w.heap.size < w1.heap.size := by have := hG1.size; simp at this; omega
  have HR0 : Hid (ExRel w g w1.heap.size ts least o k (.int .i64 ((Ps.PO ts o k).err : Int)) (w1.alloc (.cells #[.int .i64 f.op, .int .i64 f.num, .string ⟨f.name.toArray⟩, .slice f.A f.n f.c] 38))) := by
    refine ⟨Ps.PO ts o k, f, rfl, (Ps.PE_eq ts least o k hl1).symm, fun m e he => Ps.PO_err he, hP1.alloc _, heap_alloc_new w1 _, ?_, ?_, fun x m hx => ⟨?_, Ps.PO_moves hx⟩⟩
    · exact (Below.heap_alloc w1 _ _ hz1).trans ((hG1.block _ (by simp) (fun e => by injection e with e; omega)).trans (heap_alloc_new w _))
    · have h := grown_of_alloc hG1
      exact ⟨h.os, h.tape, h.output, by have := h.size; simp; omega, fun b hb hne => (Below.heap_alloc w1 _ b (by omega)).trans (h.block b hb hne)⟩
    · rw [hx] at hE1
      exact (hE1.inside.keep fun b hb hlt => Below.heap_alloc w1 _ b hlt).more fun b hb => ⟨by have := hb.1; simp at this; omega, by have := hb.2; omega⟩
  clear hE1 hP1 hG1
  generalize (Ps.PO ts o k).err = E0 at *
  go_wp2_with fail
  have hlbw : w.heap.size < w1.heap.size := hz1
  generalize hlbd : w1.heap.size = lb at *
  clear hlbd
  go_loopw [7] (fun er wr => Hid (ExRel w g lb ts least o k er wr)) (fun er wr => if intOf er = 0 then ts.length - atOf wr g + 1 else 0)
  case atStart => exact HR0
  case round =>
    obtain ⟨R, f', rfl, hB, hbad, hPr, hLb, hZb, hGr, hok⟩ := hrel.out
    clear hrel HR0 HO HP
    have HB := Lib.hid hB
    have HPr := Lib.hid hPr
    have HLb := Lib.hid hLb
    have HZb := Lib.hid hZb
    have HGr := Lib.hid hGr
    cases R with
    | bad m e0 =>
      have he := hbad m e0 rfl
      obtain ⟨r0, r1, r2, r3, z0, z1, z2, z3, -⟩ := blk4 hZb
      have t0 := bF (show ((e0 : Nat) : Int) ≠ 0 by omega)
      clear hB hbad hPr hLb hZb hGr hok
      dsimp only [Ps.R.err]
      go_wp2_with fail
      refine bodyPost_ret (v := .tuple #[.agg #[.int .i64 0, .int .i64 0, .string ⟨#[]⟩, .slice none 0 0], .int .i64 (e0 : Int)]) (by simp [results, Tryd.results27, go_sem, r0, r1, r2, r3]) rfl ?_
      rw [← HB.out]
      exact ps_end (R := .bad m e0) (f := ⟨0, 0, [], none, 0, 0⟩) hgw (Nat.le_refl _) HPr.out HGr.out (Nat.le_of_eq (set4_size wr w.heap.size _ _ _ _).symm) rfl rfl rfl (fun b _ hne => set4_keep wr w.heap.size _ _ _ _ b hne) (ExM.leaf _ _ _ _ _ _ _)
    | ok x m =>
      have HPr : Hid (Psr wr g ts m o) := hPr
      obtain ⟨hx, hkm⟩ := hok x m rfl
      have HX := Lib.hid hx
      have hmT : m < ts.length := hPr.inT
      clear hB hbad hPr hLb hZb hGr hok hx
      dsimp only [Ps.R.err]
      go_wp2_with fail
      refine (psign_any wr g ts m o HPr.out).mono ?_
      rintro e w2 ⟨rfl, hb2⟩
      have hP2 := HPr.out.later hb2
      have hL2 : Blk w2 lb f' := (hb2.block _ (lt_of_block HLb.out)).trans HLb.out
      have hZ2 : Blk0 w2 w.heap.size := (hb2.block _ (lt_of_block HZb.out)).trans HZb.out
      have hG2 : w.grownBy w2 (some g) := grown_trans HGr.out ⟨hb2.os, hb2.tape, hb2.output, hb2.size, fun b hb _ => hb2.block b hb⟩
      have HP2 := Lib.hid hP2
      have HL2 := Lib.hid hL2
      have HZ2 := Lib.hid hZ2
      have HG2 := Lib.hid hG2
      have HB2 := Lib.hid hb2
      obtain ⟨r0, r1, r2, r3, z0, z1, z2, z3, hrl⟩ := blk4 hZ2
      obtain ⟨l0, l1, l2, l3, -, -, -, -, hll⟩ := blk4 hL2
      obtain ⟨tb, tc, hne, hbl, p0, p1, p2, g1, g2, -, -, -, -⟩ := hP2.cells
      have hn0 : g ≠ w.heap.size := by omega
      have hn1 : g ≠ lb := by omega
      have hn2 : lb ≠ w.heap.size := by omega
      clear hP2 hL2 hZ2 hG2 hb2 p0 p2 g2 hbl hne
      go_wp2_with fail
      refine (binaryOp_any (Ps.sgn ts m) w2 HP2.out.tab).mono ?_
      rintro e w3 ⟨rfl, rfl⟩
      go_wp2_with fail
      refine (strengthD_any _ w2).mono ?_
      rintro e w3 ⟨rfl, rfl⟩
      by_cases hs : Ps.strD (Ps.bop (Ps.sgn ts m)) < least
      · have d1 : decide (Ps.strD (Ps.bop (Ps.sgn ts m)) < least) = true := by simp; omega
        have HF := Lib.hid (Ps.PC_stop ts least o x m hs)
        clear hs
        go_wp2_with fail
        refine bodyPost_ret (v := .tuple #[.agg #[.int .i64 f'.op, .int .i64 f'.num, .string ⟨f'.name.toArray⟩, .slice f'.A f'.n f'.c], .int .i64 0]) (by simp [results, Tryd.results27, go_sem, r0, r1, r2, r3]) rfl ?_
        rw [← HB.out]
        show PsPost w g ts o (Ps.PC ts least o x m) _ _
        rw [HF.out]
        refine ps_end (R := .ok x m) (f := f') hgw (Nat.le_refl _) HP2.out HG2.out (Nat.le_of_eq (set4_size w2 w.heap.size _ _ _ _).symm) rfl rfl rfl (fun b _ hne => set4_keep w2 w.heap.size _ _ _ _ b hne) ?_
        exact (HX.out.keep fun b hb hlt => (set4_keep w2 w.heap.size _ _ _ _ b (by have := hb.1; omega)).trans (HB2.out.block b hlt)).more fun b hb => by have := hb.1; omega
      · have d1 : decide (Ps.strD (Ps.bop (Ps.sgn ts m)) < least) = false := decide_eq_false hs
        have HF := Lib.hid (Ps.PC_go ts least o x m hl1 hs)
        have hnx : m + 1 < ts.length := Ps.next_in HL.out hmT (by rw [Ps.sgn_kind (Ps.bop_sgn hl1 hs)]; decide)
        have hs5 := Ps.bop_str (Ps.sgn ts m)
        clear hs
        generalize hSd : Ps.strD (Ps.bop (Ps.sgn ts m)) = sd at *
        have HSd := Lib.hid hSd
        clear hSd
        go_wp2_with fail
        refine (strengthD_any _ _).mono ?_
        rintro e w3 ⟨rfl, rfl⟩
        rw [HSd.out]
        go_wp2_with fail
        refine (HE.out (sd + 1) (m + 1) (by omega) (by omega) (by omega) hnx (exWorld w2 g m) (exWorld_psr HP2.out hnx)).mono ?_
        rintro e w4 ⟨fr, rfl, hE4, hP4, hG4⟩
        unfold EF.val
        have hR4 : w4.heap[w2.heap.size]? = some (.cells #[.int .i64 0, .int .i64 0, .string ⟨#[]⟩, .slice none 0 0] 38 (0, 0)) := (hG4.block _ (by rw [exWorld_size]; omega) (fun e => by injection e with e; omega)).trans (exWorld_new w2 g m)
        have hL4 : Blk w4 lb f' := (hG4.block _ (by rw [exWorld_size]; omega) (fun e => by injection e with e; omega)).trans ((exWorld_keep w2 g m lb hll (by omega)).trans HL2.out)
        obtain ⟨c0, c1, c2, c3, y0, y1, y2, y3, hcl⟩ := blk4 hR4
        obtain ⟨k0, k1, k2, k3, x0, x1, x2, x3, hkl⟩ := blk4 hL4
        have HE4 := Lib.hid hE4
        have HP4 := Lib.hid hP4
        have HG4 := Lib.hid hG4
        have hn3 : lb ≠ w2.heap.size := by omega
        have hRerr : ∀ a e, Ps.PE ts (sd + 1) o (m + 1) = .bad a e → e = 3 ∨ e = 4 := fun a e h => Ps.PE_err (by omega) h
        have HRerr := Lib.hid hRerr
        have HRmv : Hid (∀ y a, Ps.PE ts (sd + 1) o (m + 1) = .ok y a → m + 1 < a) := fun y a h => Ps.PE_moves h
        clear hR4 hL4 hE4 hP4 hG4 hRerr p1 g1 r0 r1 r2 r3 z0 z1 z2 z3 l0 l1 l2 l3
        generalize Ps.PE ts (sd + 1) o (m + 1) = R4 at *
        have HW := Lib.hid (fun u0 u1 u2 u3 W hW => ex_next (least := least) (k := k) (x := x) hgw hlbw HLb.out HZb.out HGr.out HB2.out HG4.out HP4.out HX.out HE4.out HF.out HB.out HRerr.out HRmv.out hkm u0 u1 u2 u3 W hW)
        obtain ⟨E4, hE4e⟩ : ∃ n, n = R4.err := ⟨_, rfl⟩
        rw [← hE4e]
        have HE4e := Lib.hid hE4e
        clear hE4e
        go_wp2_with fail
        go_roundw
        case rel =>
          have h := (HW.out (.int .i64 fr.op) (.int .i64 fr.num) (.string ⟨fr.name.toArray⟩) (.slice fr.A fr.n fr.c) _ rfl).1
          rw [← HE4e.out] at h
          exact h
        case measure =>
          have h := (HW.out (.int .i64 fr.op) (.int .i64 fr.num) (.string ⟨fr.name.toArray⟩) (.slice fr.A fr.n fr.c) _ rfl).2
          rw [← HE4e.out] at h
          have h0 := HPr.out.atOf
          simp only [intOf, h0]
          exact h

/-- the parser, whatever it is asked -/
theorem parser_fuel (g : Nat) (ts : List Tk.Tok) (hlast : Ps.kindAt ts (ts.length - 1) = 5) (N : Nat) : ∀ (k o : Nat) (w : World), ts.length - k < N → Psr w g ts k o →
    (∀ least : Nat, 1 ≤ least → least ≤ 6 → Calls Tryd.prog 27 #[.pointer (some ⟨g, 0, none⟩), .int .i64 (least : Int)] w (PsPost w g ts o (Ps.PE ts least o k))) ∧
    Calls Tryd.prog 46 #[.pointer (some ⟨g, 0, none⟩)] w (PsPost w g ts o (Ps.PO ts o k)) := by
  induction N with
  | zero => intro k o w h; omega
  | succ N ih =>
    intro k o w hN hP
    have hO : ∀ w', Psr w' g ts k o → Calls Tryd.prog 46 #[.pointer (some ⟨g, 0, none⟩)] w' (PsPost w' g ts o (Ps.PO ts o k)) := fun w' hP' =>
      operand_of w' g ts k o hlast hP' (fun hk _ w'' hP'' => (ih (k + 1) (o + 1) w'' (by omega) hP'').1 1 (by omega) (by omega)) (fun hk _ w'' hP'' => (ih (k + 1) (o + 1) w'' (by omega) hP'').2)
    refine ⟨fun least h1 h6 => ?_, hO w hP⟩
    exact expression_of w g ts least k o hlast h1 h6 hP hO fun l k' hl1 hl6 hkk hkt w' hP' => (ih k' o w' (by omega) hP').1 l hl1 hl6

end Go.Proofs.YtfhpihpdijighaaDoor
