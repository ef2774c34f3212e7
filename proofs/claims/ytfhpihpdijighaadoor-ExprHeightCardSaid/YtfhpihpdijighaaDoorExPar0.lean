/- The parser of package expr in memory, and what its method sign returns. -/
import Derived.Test.YtfhpihpdijighaaDoorExOps
import Derived.Test.YtfhpihpdijighaaDoorTokS
import Derived.RegionTactic
import Derived.Deep.RegionHeld3
namespace Go.Proofs.YtfhpihpdijighaaDoor
open Go.RowKit

/-- block g is a parser over the tokens ts at place k with o open parentheses and operators -/
def Psr (w : World) (g : Nat) (ts : List Tk.Tok) (k o : Nat) : Prop :=
  ∃ A c, w.heap[g]? = some (.cells #[.slice A ts.length c, .int .i64 (k : Int), .int .i64 (o : Int)] 58 (0, 0)) ∧ k < ts.length ∧ o ≤ 24 ∧ ts.length ≤ 1000000 ∧ SgT w ∧ 0 < g ∧
    ∀ i (h : i < ts.length), ∃ b, A = some ⟨b, 0, none⟩ ∧ b < g ∧ w.cell? ⟨b, i * 4, none⟩ = some (.int .i64 (ts[i].kind : Int)) ∧ w.cell? ⟨b, i * 4 + 1, none⟩ = some (.string ⟨ts[i].text.toArray⟩) ∧
      w.cell? ⟨b, i * 4 + 2, none⟩ = some (.int .i64 (ts[i].num : Int)) ∧ w.cell? ⟨b, i * 4 + 3, none⟩ = some (.int .i64 (ts[i].pos : Int))

theorem Psr.keep {w w' : World} {g : Nat} {ts : List Tk.Tok} {k o : Nat} (h : Psr w g ts k o) (hk : ∀ b, b ≤ g → w'.heap[b]? = w.heap[b]?) : Psr w' g ts k o := by
  obtain ⟨A, c, hb, hl, ho, hn, hT, hg, hc⟩ := h
  refine ⟨A, c, (hk g (Nat.le_refl _)).trans hb, hl, ho, hn, hT.keep (hk _ (by omega)), hg, fun i hi => ?_⟩
  obtain ⟨b, e, hbg, h0, h1, h2, h3⟩ := hc i hi
  have e1 : ∀ o', w'.cell? ⟨b, o', none⟩ = w.cell? ⟨b, o', none⟩ := fun o' => World.cell?_of_block (hk b (by omega))
  exact ⟨b, e, hbg, (e1 _).trans h0, (e1 _).trans h1, (e1 _).trans h2, (e1 _).trans h3⟩
theorem Psr.lt {w : World} {g : Nat} {ts : List Tk.Tok} {k o : Nat} (h : Psr w g ts k o) : g < w.heap.size := by
  obtain ⟨A, c, hb, _⟩ := h
  exact lt_of_block hb
theorem Psr.alloc {w : World} {g : Nat} {ts : List Tk.Tok} {k o : Nat} (h : Psr w g ts k o) (ob : Obj) : Psr (w.alloc ob) g ts k o :=
  h.keep fun b hb => Below.heap_alloc w ob b (by have := h.lt; omega)
theorem Psr.later {w w' : World} {g : Nat} {ts : List Tk.Tok} {k o : Nat} (h : Psr w g ts k o) (hb : Below w.heap.size w w') : Psr w' g ts k o :=
  h.keep fun b hle => hb.block b (by have := h.lt; omega)
theorem Psr.set {w : World} {g : Nat} {ts : List Tk.Tok} {k o : Nat} (h : Psr w g ts k o) {p : Addr} (hp : g < p.block) (u : Value) : Psr (w.setCell p u) g ts k o :=
  h.keep fun b hb => Below.heap_setCell w p u b (by omega)
theorem Psr.inT {w : World} {g : Nat} {ts : List Tk.Tok} {k o : Nat} (h : Psr w g ts k o) : k < ts.length := by
  obtain ⟨A, c, hb, hl, _⟩ := h
  exact hl
theorem Psr.tab {w : World} {g : Nat} {ts : List Tk.Tok} {k o : Nat} (h : Psr w g ts k o) : SgT w := by
  obtain ⟨A, c, hb, hl, ho, hn, hT, _⟩ := h
  exact hT
/-- the place moves -/
theorem Psr.at {w : World} {g : Nat} {ts : List Tk.Tok} {k o : Nat} (h : Psr w g ts k o) (j : Nat) (hj : j < ts.length) : Psr (w.setCell ⟨g, 1, none⟩ (.int .i64 (j : Int))) g ts j o := by
  obtain ⟨A, c, hb, hl, ho, hn, hT, hg, hc⟩ := h
  have hk : ∀ b, b ≠ g → (w.setCell ⟨g, 1, none⟩ (.int .i64 (j : Int))).heap[b]? = w.heap[b]? := fun b hb => Below.heap_setCell w _ _ b (by simpa using hb)
  refine ⟨A, c, ?_, hj, ho, hn, hT.keep (hk _ (by omega)), hg, fun i hi => ?_⟩
  · simp [World.setCell, Array.getElem?_modify]
    exact ⟨_, hb, rfl⟩
  · obtain ⟨b, e, hbg, h0, h1, h2, h3⟩ := hc i hi
    have e1 : ∀ o', (w.setCell ⟨g, 1, none⟩ (.int .i64 (j : Int))).cell? ⟨b, o', none⟩ = w.cell? ⟨b, o', none⟩ := fun o' => World.cell?_of_block (hk b (by omega))
    exact ⟨b, e, hbg, (e1 _).trans h0, (e1 _).trans h1, (e1 _).trans h2, (e1 _).trans h3⟩
/-- more or less is open -/
theorem Psr.op {w : World} {g : Nat} {ts : List Tk.Tok} {k o : Nat} (h : Psr w g ts k o) (j : Nat) (hj : j ≤ 24) : Psr (w.setCell ⟨g, 2, none⟩ (.int .i64 (j : Int))) g ts k j := by
  obtain ⟨A, c, hb, hl, ho, hn, hT, hg, hc⟩ := h
  have hk : ∀ b, b ≠ g → (w.setCell ⟨g, 2, none⟩ (.int .i64 (j : Int))).heap[b]? = w.heap[b]? := fun b hb => Below.heap_setCell w _ _ b (by simpa using hb)
  refine ⟨A, c, ?_, hl, hj, hn, hT.keep (hk _ (by omega)), hg, fun i hi => ?_⟩
  · simp [World.setCell, Array.getElem?_modify]
    exact ⟨_, hb, rfl⟩
  · obtain ⟨b, e, hbg, h0, h1, h2, h3⟩ := hc i hi
    have e1 : ∀ o', (w.setCell ⟨g, 2, none⟩ (.int .i64 (j : Int))).cell? ⟨b, o', none⟩ = w.cell? ⟨b, o', none⟩ := fun o' => World.cell?_of_block (hk b (by omega))
    exact ⟨b, e, hbg, (e1 _).trans h0, (e1 _).trans h1, (e1 _).trans h2, (e1 _).trans h3⟩
/-- what a walk wants to know of a parser -/
theorem Psr.cells {w : World} {g : Nat} {ts : List Tk.Tok} {k o : Nat} (h : Psr w g ts k o) : ∃ b c, b ≠ g ∧ b < w.heap.size ∧ w.cell? ⟨g, 0, none⟩ = some (.slice (some ⟨b, 0, none⟩) ts.length c) ∧ w.cell? ⟨g, 1, none⟩ = some (.int .i64 (k : Int)) ∧ w.cell? ⟨g, 2, none⟩ = some (.int .i64 (o : Int)) ∧
    w.frozen? ⟨g, 1, none⟩ = false ∧ w.frozen? ⟨g, 2, none⟩ = false ∧
    w.cell? ⟨b, k * 4, none⟩ = some (.int .i64 (Ps.kindAt ts k : Int)) ∧ w.cell? ⟨b, k * 4 + 1, none⟩ = some (.string ⟨(Ps.textAt ts k).toArray⟩) ∧ w.cell? ⟨b, k * 4 + 2, none⟩ = some (.int .i64 (Ps.numAt ts k : Int)) ∧ (∃ v : Int, w.cell? ⟨b, k * 4 + 3, none⟩ = some (.int .i64 v)) := by
  obtain ⟨A, c, hb, hl, ho, hn, hT, hg, hc⟩ := h
  obtain ⟨b, rfl, hbg, h0, h1, h2, h3⟩ := hc k hl
  have e1 : Ps.kindAt ts k = ts[k].kind := by unfold Ps.kindAt; rw [List.getElem?_eq_getElem hl]
  have e2 : Ps.textAt ts k = ts[k].text := by unfold Ps.textAt; rw [List.getElem?_eq_getElem hl]
  have e3 : Ps.numAt ts k = ts[k].num := by unfold Ps.numAt; rw [List.getElem?_eq_getElem hl]
  refine ⟨b, c, by omega, World.block_lt_of_cell? _ _ h0, ?_, ?_, ?_, ?_, ?_, by rw [e1]; exact h0, by rw [e2]; exact h1, by rw [e3]; exact h2, _, h3⟩
  · rw [cell_of_row w g 0 _ _ _ hb]; rfl
  · rw [cell_of_row w g 1 _ _ _ hb]; rfl
  · rw [cell_of_row w g 2 _ _ _ hb]; rfl
  · simp [World.frozen?, hb]
  · simp [World.frozen?, hb]

theorem sgn_is (ts : List Tk.Tok) (k : Nat) (hk : k < ts.length) (h : Ps.kindAt ts k = 4) : Ps.sgn ts k = Ps.textAt ts k := by
  unfold Ps.sgn Ps.textAt
  unfold Ps.kindAt at h
  rw [List.getElem?_eq_getElem hk] at h ⊢
  dsimp only at h ⊢
  rw [if_pos h]
theorem sgn_not (ts : List Tk.Tok) (k : Nat) (h : Ps.kindAt ts k ≠ 4) : Ps.sgn ts k = [] := by
  by_cases hs : Ps.sgn ts k = []
  · exact hs
  · exact absurd (Ps.sgn_kind hs) h

set_option maxRecDepth 100000 in
set_option maxHeartbeats 4000000 in
theorem psign_any (w : World) (g : Nat) (ts : List Tk.Tok) (k o : Nat) (hP : Psr w g ts k o) :
    Calls Tryd.prog 48 #[.pointer (some ⟨g, 0, none⟩)] w fun e w' => e = .returned (.string ⟨(Ps.sgn ts k).toArray⟩) ∧ Below w.heap.size w w' := by
  have hk := hP.inT
  obtain ⟨b, c, hne, hbl, q0, q1, q2, f1, f2, a0, a1, a2, v, a3⟩ := hP.cells
  have hgl := hP.lt
  clear hP q2 f1 f2
  have i0 : (0 : Int) ≤ (k : Int) := by omega
  have i1 : (k : Int) < (ts.length : Int) := by omega
  by_cases h4 : Ps.kindAt ts k = 4
  · have HS := Lib.hid (sgn_is ts k hk h4)
    have t4 := bT (show ((Ps.kindAt ts k : Nat) : Int) = 4 by omega)
    clear h4
    generalize Ps.kindAt ts k = K at *
    generalize Ps.textAt ts k = T at *
    generalize Ps.numAt ts k = M at *
    go_enter Tryd.func48, Tryd.ntmps48
    go_wp2
    go_region
    all_goals
      go_wp2
      go_ret
      rw [HS.out]
      exact ⟨rfl, (Below.refl _ _).drew.alloc (Nat.le_refl _) _⟩
  · have HS := Lib.hid (sgn_not ts k h4)
    have t4 := bF (show ((Ps.kindAt ts k : Nat) : Int) ≠ 4 by omega)
    clear h4
    generalize Ps.kindAt ts k = K at *
    generalize Ps.textAt ts k = T at *
    generalize Ps.numAt ts k = M at *
    go_enter Tryd.func48, Tryd.ntmps48
    go_wp2
    go_region
    all_goals
      go_wp2
      go_ret
      rw [HS.out]
      exact ⟨rfl, (Below.refl _ _).drew.alloc (Nat.le_refl _) _⟩

end Go.Proofs.YtfhpihpdijighaaDoor
