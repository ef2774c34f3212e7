/- The writer of the made programs while it makes the bodies of the functions. No statement of the program is proved in this file. The names in scope in the functions that Program of the made inputs makes. No statement of the program is proved in this file. The bodies of the functions that Program of the made inputs makes. No statement of the program is proved in this file. -/
import Derived.Test.YtlnbmmgbfgmboaaQ10
namespace Go.Proofs.Ytlnbmmgbfgmboaa
open Go.RowKit

/-- none of the three blocks that change -/
def Ap (g q bF : Nat) (b : Nat) : Prop := b ≠ g ∧ b ≠ q ∧ b ≠ bF ∧ g < b
/-- the heads of functions -/
def hdsOf (FS : List (Fn × FnG)) : List Hd := FS.map fun p => ⟨p.1.name, p.1.ps⟩
structure PwF (w : World) (g : Nat) (ys : List Int) (ar : Bool) (vA : Option Addr) (us : List Nm) (AG AM : Option Addr) (cG cM : Nat) (PG : List Gl) (PM : List Mx) (bF cF : Nat) (FS : List (Fn × FnG)) (i left : Nat) (wr : World) : Prop where
  r : wr.heap[w.heap.size]? = some (.cells #[.slice none 0 0, .slice none 0 0, .slice none 0 0] 50 (0, 0))
  gb : wr.heap[g]? = some (.cells #[.pointer (some ⟨w.heap.size + 1, 0, none⟩), .slice AG PG.length cG, .slice AM PM.length cM, .slice (some ⟨bF, 0, none⟩) FS.length cF, .int .i64 (left : Int), .bool ar] 62 (0, 0))
  s : Src wr (w.heap.size + 1) ys i
  gl : ∀ j (h : j < PG.length), ∃ b, AG = some ⟨b, 0, none⟩ ∧ Ap g (w.heap.size + 1) bF b ∧ wr.cell? ⟨b, j * 2, none⟩ = some (.string ⟨PG[j].name.toArray⟩) ∧ wr.cell? ⟨b, j * 2 + 1, none⟩ = some (.int .i64 PG[j].init)
  mx : ∀ j (h : j < PM.length), ∃ b, AM = some ⟨b, 0, none⟩ ∧ Ap g (w.heap.size + 1) bF b ∧ wr.cell? ⟨b, j * 3, none⟩ = some (.string ⟨PM[j].name.toArray⟩) ∧ wr.cell? ⟨b, j * 3 + 1, none⟩ = some (.bool PM[j].re) ∧ wr.cell? ⟨b, j * 3 + 2, none⟩ = some (.int .i64 (PM[j].size : Int))
  fn : ∀ j (h : j < FS.length), wr.cell? ⟨bF, j * 3, none⟩ = some (.string ⟨FS[j].1.name.toArray⟩) ∧ wr.cell? ⟨bF, j * 3 + 1, none⟩ = some (.slice FS[j].2.A FS[j].1.ps.length FS[j].2.c) ∧ wr.cell? ⟨bF, j * 3 + 2, none⟩ = some (.slice FS[j].2.B FS[j].1.body.length FS[j].2.d)
  ps : ∀ j (h : j < FS.length), PmsM wr (Ap g (w.heap.size + 1) bF) FS[j].1.ps FS[j].2.A
  bd : ∀ j (h : j < FS.length), StsM wr (Ap g (w.heap.size + 1) bF) FS[j].1.body FS[j].2.B
  v : ∀ j (h : j < us.length), ∃ b off, vA = some ⟨b, off, none⟩ ∧ Ap g (w.heap.size + 1) bF b ∧ wr.cell? ⟨b, off + j, none⟩ = some (.string ⟨us[j].toArray⟩)
  hz : ∃ cs t, wr.heap[bF]? = some (.cells cs t (0, 0)) ∧ FS.length * 3 ≤ cs.size
  hbF : g < bF ∧ bF < wr.heap.size
  b : Below w.heap.size w wr
  hg : g = w.heap.size + 1 + 1
/-- what is not one of the three blocks stays -/
theorem PwF.keep {w wr w' : World} {g : Nat} {ys : List Int} {ar : Bool} {vA : Option Addr} {us : List Nm} {AG AM : Option Addr} {cG cM : Nat} {PG : List Gl} {PM : List Mx} {bF cF : Nat} {FS : List (Fn × FnG)} {i left i' left' : Nat}
    (h : PwF w g ys ar vA us AG AM cG cM PG PM bF cF FS i left wr) (hk : ∀ b, b < wr.heap.size → b ≠ g → b ≠ w.heap.size + 1 → w'.heap[b]? = wr.heap[b]?) (hs : Src w' (w.heap.size + 1) ys i') (hsz : wr.heap.size ≤ w'.heap.size)
    (hos : w'.os = wr.os ∧ w'.tape = wr.tape ∧ w'.output = wr.output)
    (hgb : w'.heap[g]? = some (.cells #[.pointer (some ⟨w.heap.size + 1, 0, none⟩), .slice AG PG.length cG, .slice AM PM.length cM, .slice (some ⟨bF, 0, none⟩) FS.length cF, .int .i64 (left' : Int), .bool ar] 62 (0, 0))) :
    PwF w g ys ar vA us AG AM cG cM PG PM bF cF FS i' left' w' := by
  have hgE := h.hg
  have hgl := lt_of_block h.gb
  have hbF := h.hbF
  have hc : ∀ {b o : Nat} {u : Value}, b ≠ g → b ≠ w.heap.size + 1 → wr.cell? ⟨b, o, none⟩ = some u → w'.cell? ⟨b, o, none⟩ = some u := fun {b o u} n1 n2 hu => (World.cell?_of_block (a := ⟨b, o, none⟩) (hk b (World.block_lt_of_cell? _ _ hu) n1 n2)).trans hu
  have hB : w'.heap[bF]? = wr.heap[bF]? := hk bF hbF.2 (by omega) (by omega)
  refine ⟨(hk _ (by omega) (by omega) (by omega)).trans h.r, hgb, hs, fun j hj => ?_, fun j hj => ?_, fun j hj => ?_, fun j hj => (h.ps j hj).keep fun b hb hl => hk b hl hb.1 hb.2.1, fun j hj => (h.bd j hj).keep fun b hb hl => hk b hl hb.1 hb.2.1, fun j hj => ?_, ?_, ⟨hbF.1, by omega⟩, ?_, h.hg⟩
  · obtain ⟨b, e, ha, c0, c1⟩ := h.gl j hj
    exact ⟨b, e, ha, hc ha.1 ha.2.1 c0, hc ha.1 ha.2.1 c1⟩
  · obtain ⟨b, e, ha, c0, c1, c2⟩ := h.mx j hj
    exact ⟨b, e, ha, hc ha.1 ha.2.1 c0, hc ha.1 ha.2.1 c1, hc ha.1 ha.2.1 c2⟩
  · obtain ⟨c0, c1, c2⟩ := h.fn j hj
    exact ⟨hc (by omega) (by omega) c0, hc (by omega) (by omega) c1, hc (by omega) (by omega) c2⟩
  · obtain ⟨b, off, e, ha, c0⟩ := h.v j hj
    exact ⟨b, off, e, ha, hc ha.1 ha.2.1 c0⟩
  · obtain ⟨cs, t, hb, hsz⟩ := h.hz
    exact ⟨cs, t, hB.trans hb, hsz⟩
  · exact ⟨hos.1.trans h.b.os, hos.2.1.trans h.b.tape, hos.2.2.trans h.b.output, by have := h.b.size; omega, fun b hb => (hk b (by omega) (by omega) (by omega)).trans (h.b.block b hb)⟩
/-- the parameters of the writer's contracts -/
def wpOf (w : World) (g : Nat) (ys : List Int) (ar : Bool) (AG AM : Option Addr) (cG cM : Nat) (PG : List Gl) (PM : List Mx) (bF cF : Nat) (FS : List (Fn × FnG)) : WP :=
  ⟨g, w.heap.size + 1, ys, ar, .slice AG PG.length cG, AM, cM, some ⟨bF, 0, none⟩, cF, PM, hdsOf FS⟩
theorem PwF.wrm {w wr : World} {g : Nat} {ys : List Int} {ar : Bool} {vA : Option Addr} {us : List Nm} {AG AM : Option Addr} {cG cM : Nat} {PG : List Gl} {PM : List Mx} {bF cF : Nat} {FS : List (Fn × FnG)} {i left : Nat}
    (h : PwF w g ys ar vA us AG AM cG cM PG PM bF cF FS i left wr) (hl : left ≤ 24) (hm : 1 ≤ PM.length ∧ PM.length ≤ 4) (hf : 1 ≤ FS.length ∧ FS.length ≤ 4) (hM : ∀ k (h : k < PM.length), PM[k].size ≤ 3 ∧ PM[k].name.length ≤ 16) (hF : ∀ k (h : k < FS.length), FS[k].1.ps.length ≤ 2 ∧ FS[k].1.name.length ≤ 16) :
    WrM wr (wpOf w g ys ar AG AM cG cM PG PM bF cF FS) i left := by
  have hgE := h.hg
  have hbF := h.hbF
  have hlen : (hdsOf FS).length = FS.length := List.length_map ..
  refine ⟨?_, h.s, by show w.heap.size + 1 < g; omega, fun k hk => ?_, fun k hk => ?_, hm, by show 1 ≤ (hdsOf FS).length ∧ (hdsOf FS).length ≤ 4; rw [hlen]; exact hf, hl, hM, fun k hk => ?_⟩
  · show wr.heap[g]? = some (.cells #[_, _, _, .slice _ (hdsOf FS).length _, _, _] _ _)
    rw [hlen]
    exact h.gb
  · obtain ⟨b, e, ha, c0, c1, c2⟩ := h.mx k hk
    exact ⟨b, e, ha.1, ha.2.1, c0, c2⟩
  · have hk' : k < FS.length := by have h1 : k < (hdsOf FS).length := hk; omega
    obtain ⟨c0, c1, c2⟩ := h.fn k hk'
    refine ⟨bF, FS[k].2.A, FS[k].2.c, FS[k].2.B, FS[k].1.body.length, FS[k].2.d, rfl, by show bF ≠ g; omega, by show bF ≠ w.heap.size + 1; omega, ?_, ?_, c2, ?_⟩
    · simpa [wpOf, hdsOf] using c0
    · simpa [wpOf, hdsOf] using c1
    · have := (h.ps k hk').more (S' := fun b => b ≠ g ∧ b ≠ w.heap.size + 1) fun b hb _ => ⟨hb.1, hb.2.1⟩
      simpa [wpOf, hdsOf] using this
  · have hk' : k < FS.length := by have h1 : k < (hdsOf FS).length := hk; omega
    simpa [wpOf, hdsOf] using hF k hk'
theorem PwF.fz {w wr : World} {g : Nat} {ys : List Int} {ar : Bool} {vA : Option Addr} {us : List Nm} {AG AM : Option Addr} {cG cM : Nat} {PG : List Gl} {PM : List Mx} {bF cF : Nat} {FS : List (Fn × FnG)} {i left : Nat} (h : PwF w g ys ar vA us AG AM cG cM PG PM bF cF FS i left wr) (j : Nat) : wr.frozen? ⟨bF, j, none⟩ = false := by
  obtain ⟨cs, t, hb, -⟩ := h.hz
  exact frozen_of_row wr bF j _ _ hb
/-- the rows as they stand before the first body -/
theorem pwf_start {w wr : World} {g : Nat} {ys : List Int} {ar : Bool} {vA : Option Addr} {us : List Nm} {AG AM AF : Option Addr} {vc cG cM cF : Nat} {PG : List Gl} {PM : List Mx} {PF : List (Fn × FnG)} {i : Nat}
    (h : PwS w g ys ar (.slice vA us.length vc) us (.slice AG PG.length cG) (.slice AM PM.length cM) (.slice AF PF.length cF) PG PM PF i wr) (hF : 0 < PF.length) :
    ∃ bF, AF = some ⟨bF, 0, none⟩ ∧ PwF w g ys ar vA us AG AM cG cM PG PM bF cF PF i 24 wr := by
  have hgE := h.hg
  obtain ⟨bF, rfl⟩ := owns_addr h.p.rF hF
  have hbl := h.p.rF.lt bF rfl
  have hAp : ∀ {t : TypeId} {b n c m sz : Nat} {xs : List Value}, wr.ownsRow (g + 1) t sz (.slice (some ⟨b, 0, none⟩) n c) m xs → Dj (.slice (some ⟨b, 0, none⟩) n c) (.slice (some ⟨bF, 0, none⟩) PF.length cF) → Ap g (w.heap.size + 1) bF b := fun {t b n c m sz xs} ho hd => by
    have hb := ho.lt b rfl
    refine ⟨by omega, by omega, fun e => ?_, by omega⟩
    rcases hd with h1 | h1
    · cases h1
    · exact h1 (by rw [e]; rfl)
  have hin : ∀ b, S3 (g + 1) (.slice AG PG.length cG) (.slice AM PM.length cM) (.slice (some ⟨bF, 0, none⟩) PF.length cF) b → Ap g (w.heap.size + 1) bF b := fun b hb => ⟨by have := hb.1; omega, by have := hb.1; omega, fun e => hb.2.2.2 (by rw [e]; rfl), by have := hb.1; omega⟩
  refine ⟨bF, rfl, h.r, h.gb, h.s, fun j hj => ?_, fun j hj => ?_, fun j hj => ?_, fun j hj => ?_, fun j hj => ?_, fun j hj => ?_, ?_, ⟨by omega, by omega⟩, h.b, h.hg⟩
  · obtain ⟨b, e⟩ := owns_addr h.p.rG (by omega)
    subst e
    have q : ∀ o, o < 2 → wr.cell? ⟨b, j * 2 + o, none⟩ = (glK.cl PG[j])[o]? := fun o ho => (World.ownsRow.cellAt h.p.rG _ (by show j * 2 + o < PG.length * 2; omega)).trans (glK.cs_at PG j o hj ho)
    exact ⟨b, rfl, hAp h.p.rG h.p.gf, q 0 (by omega), q 1 (by omega)⟩
  · obtain ⟨b, e⟩ := owns_addr h.p.rM (by omega)
    subst e
    have q : ∀ o, o < 3 → wr.cell? ⟨b, j * 3 + o, none⟩ = (mxK.cl PM[j])[o]? := fun o ho => (World.ownsRow.cellAt h.p.rM _ (by show j * 3 + o < PM.length * 3; omega)).trans (mxK.cs_at PM j o hj ho)
    exact ⟨b, rfl, hAp h.p.rM h.p.mf, q 0 (by omega), q 1 (by omega), q 2 (by omega)⟩
  · have q : ∀ o, o < 3 → wr.cell? ⟨bF, j * 3 + o, none⟩ = (fnK.cl PF[j])[o]? := fun o ho => (World.ownsRow.cellAt h.p.rF _ (by show j * 3 + o < PF.length * 3; omega)).trans (fnK.cs_at PF j o hj ho)
    exact ⟨q 0 (by omega), q 1 (by omega), q 2 (by omega)⟩
  · exact (h.p.inF PF[j] (List.getElem_mem hj)).1.more fun b hb _ => hin b hb
  · exact (h.p.inF PF[j] (List.getElem_mem hj)).2.more fun b hb _ => hin b hb
  · obtain ⟨b, e⟩ := owns_addr h.v (by omega)
    subst e
    refine ⟨b, 0, rfl, hAp h.v h.dF, ?_⟩
    have q := (World.ownsRow.cellAt h.v (j * 1 + 0) (by show j * 1 + 0 < us.length * 1; omega)).trans (strK.cs_at us j 0 hj (by show 0 < 1; omega))
    simpa [strK] using q
  · rcases h.p.rF.2 with ⟨_, h0⟩ | ⟨b, cap, cur, e, hg, hb, hn, hm, hcs, _⟩
    · omega
    · injection e with e1
      injection e1 with e1
      injection e1 with e1
      subst e1
      exact ⟨cur, _, hb, by rw [hcs]; exact Nat.mul_le_mul_right 3 hn⟩
/-- the body of a function is stored -/
theorem PwF.body {w wr : World} {g : Nat} {ys : List Int} {ar : Bool} {vA : Option Addr} {us : List Nm} {AG AM : Option Addr} {cG cM : Nat} {PG : List Gl} {PM : List Mx} {bF cF : Nat} {FS : List (Fn × FnG)} {i left k : Nat}
    (h : PwF w g ys ar vA us AG AM cG cM PG PM bF cF FS i left wr) (hk : k < FS.length) (l : List St) (A : Option Addr) (c : Nat) (hS : StsM wr (Ap g (w.heap.size + 1) bF) l A) :
    PwF w g ys ar vA us AG AM cG cM PG PM bF cF (FS.set k (⟨FS[k].1.name, FS[k].1.ps, l⟩, ⟨FS[k].2.A, FS[k].2.c, A, c⟩)) i left (wr.setCell ⟨bF, k * 3 + 2, none⟩ (.slice A l.length c)) := by
  have hgE := h.hg
  have hbF := h.hbF
  have hst := (PutAt.refl bF wr).set (k * 3 + 2) (.slice A l.length c)
  have hk2 : ∀ b, b ≠ bF → (wr.setCell ⟨bF, k * 3 + 2, none⟩ (.slice A l.length c)).heap[b]? = wr.heap[b]? := fun b hb => hst.2.2.2.2 b hb
  have hc : ∀ {b o : Nat} {u : Value}, b ≠ bF → wr.cell? ⟨b, o, none⟩ = some u → (wr.setCell ⟨bF, k * 3 + 2, none⟩ (.slice A l.length c)).cell? ⟨b, o, none⟩ = some u := fun {b o u} n1 hu => (World.cell?_of_block (a := ⟨b, o, none⟩) (hk2 b n1)).trans hu
  obtain ⟨cs, t, hb, hsz0⟩ := h.hz
  have hsz : k * 3 + 2 < cs.size := by omega
  have hb' := blkset_any (k * 3 + 2) (.slice A l.length c) hb
  have hne : ∀ n, n ≠ k * 3 + 2 → (wr.setCell ⟨bF, k * 3 + 2, none⟩ (.slice A l.length c)).cell? ⟨bF, n, none⟩ = wr.cell? ⟨bF, n, none⟩ := fun n hn => by
    rw [cell_of_row _ bF n _ _ _ hb', cell_of_row wr bF n _ _ _ hb, Array.getElem?_setIfInBounds_ne (Ne.symm hn)]
  have heq : (wr.setCell ⟨bF, k * 3 + 2, none⟩ (.slice A l.length c)).cell? ⟨bF, k * 3 + 2, none⟩ = some (.slice A l.length c) := by
    rw [cell_of_row _ bF _ _ _ _ hb', Array.getElem?_setIfInBounds_self_of_lt hsz]
  refine ⟨(hk2 _ (by omega)).trans h.r, ?_, h.s.keep fun b hb => hk2 b (by omega), fun j hj => ?_, fun j hj => ?_, fun j hj => ?_, fun j hj => ?_, fun j hj => ?_, fun j hj => ?_, ⟨_, t, hb', by rw [List.length_set]; simpa using hsz0⟩, ⟨hbF.1, by rw [hst.2.2.2.1]; exact hbF.2⟩, ?_, h.hg⟩
  · rw [List.length_set]
    exact (hk2 _ (by omega)).trans h.gb
  · obtain ⟨b, e, ha, c0, c1⟩ := h.gl j hj
    exact ⟨b, e, ha, hc ha.2.2.1 c0, hc ha.2.2.1 c1⟩
  · obtain ⟨b, e, ha, c0, c1, c2⟩ := h.mx j hj
    exact ⟨b, e, ha, hc ha.2.2.1 c0, hc ha.2.2.1 c1, hc ha.2.2.1 c2⟩
  · have hj' : j < FS.length := by simpa using hj
    obtain ⟨c0, c1, c2⟩ := h.fn j hj'
    by_cases hjk : k = j
    · subst hjk
      rw [List.getElem_set_self]
      exact ⟨(hne _ (by omega)).trans c0, (hne _ (by omega)).trans c1, heq⟩
    · rw [List.getElem_set_ne hjk]
      exact ⟨(hne _ (by omega)).trans c0, (hne _ (by omega)).trans c1, (hne _ (by omega)).trans c2⟩
  · have hj' : j < FS.length := by simpa using hj
    have hp := (h.ps j hj').keep (w' := wr.setCell ⟨bF, k * 3 + 2, none⟩ (.slice A l.length c)) fun b hb _ => hk2 b hb.2.2.1
    by_cases hjk : k = j
    · subst hjk
      rw [List.getElem_set_self]
      exact hp
    · rw [List.getElem_set_ne hjk]
      exact hp
  · have hj' : j < FS.length := by simpa using hj
    by_cases hjk : k = j
    · subst hjk
      rw [List.getElem_set_self]
      exact hS.keep fun b hb _ => hk2 b hb.2.2.1
    · rw [List.getElem_set_ne hjk]
      exact (h.bd j hj').keep fun b hb _ => hk2 b hb.2.2.1
  · obtain ⟨b, off, e, ha, c0⟩ := h.v j hj
    exact ⟨b, off, e, ha, hc ha.2.2.1 c0⟩
  · exact ⟨hst.1.trans h.b.os, hst.2.1.trans h.b.tape, hst.2.2.1.trans h.b.output, by have := h.b.size; have := hst.2.2.2.1; omega, fun b hb => (hk2 b (by omega)).trans (h.b.block b hb)⟩
/-- behind a call of block -/
theorem PwF.call {w wr w' : World} {g : Nat} {ys : List Int} {ar : Bool} {vA : Option Addr} {us : List Nm} {AG AM : Option Addr} {cG cM : Nat} {PG : List Gl} {PM : List Mx} {bF cF : Nat} {FS : List (Fn × FnG)} {i left i' lo : Nat}
    (h : PwF w g ys ar vA us AG AM cG cM PG PM bF cF FS i left wr) (hW : WrM w' (wpOf w g ys ar AG AM cG cM PG PM bF cF FS) i' lo) (hF : Fr g (w.heap.size + 1) wr w') : PwF w g ys ar vA us AG AM cG cM PG PM bF cF FS i' lo w' := by
  refine h.keep (fun b hb n1 n2 => hF.block b hb n1 n2) hW.src hF.size ⟨hF.os, hF.tape, hF.output⟩ ?_
  have hb := hW.blk
  have hlen : (hdsOf FS).length = FS.length := List.length_map ..
  change w'.heap[g]? = some (.cells #[_, _, _, .slice _ (hdsOf FS).length _, _, _] _ _) at hb
  rw [hlen] at hb
  exact hb
/-- the program as it is read in the end -/
theorem PwF.read {w wr : World} {g : Nat} {ys : List Int} {ar : Bool} {vA : Option Addr} {us : List Nm} {AG AM : Option Addr} {cG cM : Nat} {PG : List Gl} {PM : List Mx} {bF cF : Nat} {FS : List (Fn × FnG)} {i left : Nat}
    (h : PwF w g ys ar vA us AG AM cG cM PG PM bF cF FS i left wr) : ∃ H, PgM wr ⟨PG, PM, FS.map (·.1)⟩ AG AM (some ⟨bF, 0, none⟩) H := by
  refine ⟨fun i => if hi : i < FS.length then FS[i].2 else ⟨none, 0, none, 0⟩, fun j hj => ?_, fun j hj => ?_, fun j hj => ?_, fun j hj => ?_, fun j hj => ?_⟩
  · obtain ⟨b, e, -, c0, c1⟩ := h.gl j hj
    exact ⟨b, e, c0, c1⟩
  · obtain ⟨b, e, -, c0, c1, c2⟩ := h.mx j hj
    exact ⟨b, e, c0, c1, c2⟩
  · have hj' : j < FS.length := by simpa using hj
    obtain ⟨c0, c1, c2⟩ := h.fn j hj'
    simp only [List.getElem_map, dif_pos hj']
    exact ⟨bF, rfl, c0, c1, c2⟩
  · have hj' : j < FS.length := by simpa using hj
    simp only [List.getElem_map, dif_pos hj']
    exact (h.ps j hj').more fun _ _ _ => trivial
  · have hj' : j < FS.length := by simpa using hj
    simp only [List.getElem_map, dif_pos hj']
    exact (h.bd j hj').more fun _ _ _ => trivial
/-- the result is stored -/
theorem PwF.out {w wr w' : World} {g : Nat} {ys : List Int} {ar : Bool} {vA : Option Addr} {us : List Nm} {AG AM : Option Addr} {cG cM : Nat} {PG : List Gl} {PM : List Mx} {bF cF : Nat} {FS : List (Fn × FnG)} {i left : Nat}
    (h : PwF w g ys ar vA us AG AM cG cM PG PM bF cF FS i left wr) (hp : PutAt w.heap.size wr w') : (∃ H, PgM w' ⟨PG, PM, FS.map (·.1)⟩ AG AM (some ⟨bF, 0, none⟩) H) ∧ Below w.heap.size w w' := by
  have hgE := h.hg
  have hbF := h.hbF
  have hc : ∀ {b o : Nat} {u : Value}, g < b → wr.cell? ⟨b, o, none⟩ = some u → w'.cell? ⟨b, o, none⟩ = some u := fun {b o u} n1 hu => (World.cell?_of_block (a := ⟨b, o, none⟩) (hp.2.2.2.2 b (by omega))).trans hu
  refine ⟨⟨fun i => if hi : i < FS.length then FS[i].2 else ⟨none, 0, none, 0⟩, fun j hj => ?_, fun j hj => ?_, fun j hj => ?_, fun j hj => ?_, fun j hj => ?_⟩, ?_⟩
  · obtain ⟨b, e, ha, c0, c1⟩ := h.gl j hj
    exact ⟨b, e, hc ha.2.2.2 c0, hc ha.2.2.2 c1⟩
  · obtain ⟨b, e, ha, c0, c1, c2⟩ := h.mx j hj
    exact ⟨b, e, hc ha.2.2.2 c0, hc ha.2.2.2 c1, hc ha.2.2.2 c2⟩
  · have hj' : j < FS.length := by simpa using hj
    obtain ⟨c0, c1, c2⟩ := h.fn j hj'
    simp only [List.getElem_map, dif_pos hj']
    exact ⟨bF, rfl, hc hbF.1 c0, hc hbF.1 c1, hc hbF.1 c2⟩
  · have hj' : j < FS.length := by simpa using hj
    simp only [List.getElem_map, dif_pos hj']
    exact ((h.ps j hj').keep fun b hb _ => hp.2.2.2.2 b (by have := hb.2.2.2; omega)).more fun _ _ _ => trivial
  · have hj' : j < FS.length := by simpa using hj
    simp only [List.getElem_map, dif_pos hj']
    exact ((h.bd j hj').keep fun b hb _ => hp.2.2.2.2 b (by have := hb.2.2.2; omega)).more fun _ _ _ => trivial
  · exact ⟨hp.1.trans h.b.os, hp.2.1.trans h.b.tape, hp.2.2.1.trans h.b.output, by have := h.b.size; have := hp.2.2.2.1; omega, fun b hb => (hp.2.2.2.2 b (by omega)).trans (h.b.block b hb)⟩
end Go.Proofs.Ytlnbmmgbfgmboaa

namespace Go.Proofs.Ytlnbmmgbfgmboaa
open Go.RowKit

theorem PwF.later {w wr w' : World} {g : Nat} {ys : List Int} {ar : Bool} {vA : Option Addr} {us : List Nm} {AG AM : Option Addr} {cG cM : Nat} {PG : List Gl} {PM : List Mx} {bF cF : Nat} {FS : List (Fn × FnG)} {i left : Nat}
    (h : PwF w g ys ar vA us AG AM cG cM PG PM bF cF FS i left wr) (hb : Below wr.heap.size wr w') : PwF w g ys ar vA us AG AM cG cM PG PM bF cF FS i left w' := by
  have hgl := lt_of_block h.gb
  have hgE := h.hg
  exact h.keep (fun b hl _ _ => hb.block b hl) (h.s.keep fun b hl => hb.block b (by omega)) hb.size ⟨hb.os, hb.tape, hb.output⟩ ((hb.block g hgl).trans h.gb)
theorem PwF.cells {w wr : World} {g : Nat} {ys : List Int} {ar : Bool} {vA : Option Addr} {us : List Nm} {AG AM : Option Addr} {cG cM : Nat} {PG : List Gl} {PM : List Mx} {bF cF : Nat} {FS : List (Fn × FnG)} {i left : Nat}
    (h : PwF w g ys ar vA us AG AM cG cM PG PM bF cF FS i left wr) : wr.cell? ⟨g, 1, none⟩ = some (.slice AG PG.length cG) ∧ wr.cell? ⟨g, 2, none⟩ = some (.slice AM PM.length cM) ∧ wr.cell? ⟨g, 3, none⟩ = some (.slice (some ⟨bF, 0, none⟩) FS.length cF) ∧ g < wr.heap.size := by
  have hg := h.gb
  refine ⟨?_, ?_, ?_, lt_of_block hg⟩
  · rw [cell_of_row wr _ 1 _ _ _ hg]; rfl
  · rw [cell_of_row wr _ 2 _ _ _ hg]; rfl
  · rw [cell_of_row wr _ 3 _ _ _ hg]; rfl
/-- the names in scope in a function -/
def ownN (us : List Nm) (ps : List Pm) : List Nm := us ++ (ps.filter fun p => !p.m).map (·.name)
theorem ownN_snoc (us : List Nm) (ps : List Pm) (j : Nat) (h : j < ps.length) : ownN us (ps.take (j + 1)) = ownN us (ps.take j) ++ (if ps[j].m then [] else [ps[j].name]) := by
  unfold ownN
  rw [List.take_succ_eq_append_getElem h, List.filter_append, List.map_append, List.append_assoc]
  cases hm : ps[j].m <;> simp [hm]
theorem ownN_len (us : List Nm) (ps : List Pm) : (ownN us ps).length ≤ us.length + ps.length := by
  unfold ownN
  rw [List.length_append, List.length_map]
  have := List.length_filter_le (fun p : Pm => !p.m) ps
  omega
/-- the loop over a function's parameters -/
def ML6 (wo : World) (N : List Nm) (v : Value) (wr : World) : Prop := wr.ownsRow wo.heap.size 9 1 v N.length (strK.cs N) ∧ Below wo.heap.size wo wr
end Go.Proofs.Ytlnbmmgbfgmboaa

namespace Go.Proofs.Ytlnbmmgbfgmboaa
open Go.RowKit

/-- the bodies of the first k functions are made -/
def ML5 (w : World) (g : Nat) (ys : List Int) (ar : Bool) (vA : Option Addr) (us : List Nm) (AG AM : Option Addr) (cG cM : Nat) (PG : List Gl) (PM : List Mx) (bF cF : Nat) (H0 : List Hd) (k : Nat) (wr : World) : Prop :=
  ∃ (FS : List (Fn × FnG)) (i left : Nat) (L : Nat → Nat), hdsOf FS = H0 ∧ PwF w g ys ar vA us AG AM cG cM PG PM bF cF FS i left wr ∧ L 0 = 24 ∧ L k = left ∧ left ≤ 24 ∧
    ∀ j (h : j < FS.length), j < k → ∃ us', BlW PM H0 FS[j].1.ps 2 (ownN us FS[j].1.ps) (L j) (L (j + 1)) FS[j].1.body us'
theorem ML5.step {w : World} {g : Nat} {ys : List Int} {ar : Bool} {vA : Option Addr} {us : List Nm} {AG AM : Option Addr} {cG cM : Nat} {PG : List Gl} {PM : List Mx} {bF cF : Nat} {H0 : List Hd} {k : Nat} {FS : List (Fn × FnG)} {i left lo : Nat} {L : Nat → Nat} {w9 : World} {l : List St} {A : Option Addr} {c : Nat} {us9 : List Nm}
    (hk : k < FS.length) (hH : hdsOf FS = H0) (hL0 : L 0 = 24) (hLk : L k = left) (hl : lo ≤ 24) (hb : ∀ j (h : j < FS.length), j < k → ∃ us', BlW PM H0 FS[j].1.ps 2 (ownN us FS[j].1.ps) (L j) (L (j + 1)) FS[j].1.body us')
    (hB : BlW PM H0 FS[k].1.ps 2 (ownN us FS[k].1.ps) left lo l us9) (hP : PwF w g ys ar vA us AG AM cG cM PG PM bF cF (FS.set k (⟨FS[k].1.name, FS[k].1.ps, l⟩, ⟨FS[k].2.A, FS[k].2.c, A, c⟩)) i lo w9) :
    ML5 w g ys ar vA us AG AM cG cM PG PM bF cF H0 (k + 1) w9 := by
  refine ⟨_, i, lo, fun j => if j ≤ k then L j else lo, ?_, hP, by show (if 0 ≤ k then L 0 else lo) = 24; rw [if_pos (Nat.zero_le _)]; exact hL0, by show (if k + 1 ≤ k then L (k + 1) else lo) = lo; rw [if_neg (by omega)], hl, fun j hj hjk => ?_⟩
  · rw [← hH]
    unfold hdsOf
    refine List.ext_getElem (by simp) fun n h1 h2 => ?_
    simp only [List.getElem_map]
    by_cases hn : k = n
    · subst hn
      rw [List.getElem_set_self]
    · rw [List.getElem_set_ne hn]
  · have hj' : j < FS.length := by simpa using hj
    by_cases hn : k = j
    · subst hn
      rw [List.getElem_set_self]
      simp only [Nat.le_refl, if_true, show ¬ k + 1 ≤ k by omega, if_false, hLk]
      exact ⟨us9, hB⟩
    · rw [List.getElem_set_ne hn]
      have h1 : j < k := by omega
      simp only [show j ≤ k by omega, show j + 1 ≤ k by omega, if_true]
      exact hb j hj' h1
theorem own_strN {wr wx : World} {q : Nat} {N : List Nm} {oA : Option Addr} {oc : Nat} (h : wx.ownsRow wr.heap.size 9 1 (.slice oA N.length oc) N.length (strK.cs N)) (hq : q < wr.heap.size) : StrN wx q oA N := by
  intro i hi
  obtain ⟨b, e⟩ := owns_addr h (by omega)
  subst e
  have hb := h.lt b rfl
  refine ⟨b, 0, rfl, by omega, ?_⟩
  have := (World.ownsRow.cellAt h (i * 1 + 0) (by show i * 1 + 0 < N.length * 1; omega)).trans (strK.cs_at N i 0 hi (by show 0 < 1; omega))
  simpa [strK] using this
theorem pwf_strN {w wr : World} {g : Nat} {ys : List Int} {ar : Bool} {vA : Option Addr} {us : List Nm} {AG AM : Option Addr} {cG cM : Nat} {PG : List Gl} {PM : List Mx} {bF cF : Nat} {FS : List (Fn × FnG)} {i left : Nat}
    (h : PwF w g ys ar vA us AG AM cG cM PG PM bF cF FS i left wr) : StrN wr g vA us := by
  intro j hj
  obtain ⟨b, off, e, ha, c0⟩ := h.v j hj
  exact ⟨b, off, e, ha.1, c0⟩
end Go.Proofs.Ytlnbmmgbfgmboaa
