/- The parser of the reference in memory, and what its small methods do. The small methods of the reference's parser: is, fail, take, must, enter, name. More small methods of the reference's parser: must, name. The reference's operand, if the functions that it calls return what they should. The reference's operand at a name, and where there is none. The reference's operand where there is none. The reference's operand at a parenthesis that is one too many. The reference's operand at a parenthesis. -/
import Derived.Test.YtjjooekkieddbaaDoorGPar
import Derived.Test.YtjjooekkieddbaaDoorGTok
import Derived.RegionTactic
import Derived.Deep.RegionHeld3
namespace Go.Proofs.YtjjooekkieddbaaDoor
open Go.RowKit

/-- block g is a parser of the reference over the tokens ts: its place, the place of its error, its error, its nesting, its depth -/
def Rsr (w : World) (g : Nat) (ts : List Tk.Tok) (k bad e o d : Nat) : Prop :=
  ∃ A c, w.heap[g]? = some (.cells #[.slice A ts.length c, .int .i64 (k : Int), .int .i64 (bad : Int), .int .i64 (e : Int), .int .i64 (o : Int), .int .i64 (d : Int)] 87 (0, 0)) ∧ k < ts.length ∧ o ≤ 1000 ∧ ts.length ≤ 1000000 ∧
    ∀ i (h : i < ts.length), ∃ b, A = some ⟨b, 0, none⟩ ∧ b < g ∧ w.cell? ⟨b, i * 4, none⟩ = some (.int .i64 (ts[i].kind : Int)) ∧ w.cell? ⟨b, i * 4 + 1, none⟩ = some (.string ⟨ts[i].text.toArray⟩) ∧
      w.cell? ⟨b, i * 4 + 2, none⟩ = some (.int .i64 (ts[i].num : Int)) ∧ w.cell? ⟨b, i * 4 + 3, none⟩ = some (.int .i64 (ts[i].pos : Int))

theorem Rsr.keep {w w' : World} {g : Nat} {ts : List Tk.Tok} {k bad e o d : Nat} (h : Rsr w g ts k bad e o d) (hk : ∀ b, b ≤ g → w'.heap[b]? = w.heap[b]?) : Rsr w' g ts k bad e o d := by
  obtain ⟨A, c, hb, hl, ho, hn, hc⟩ := h
  refine ⟨A, c, (hk g (Nat.le_refl _)).trans hb, hl, ho, hn, fun i hi => ?_⟩
  obtain ⟨b, e, hbg, h0, h1, h2, h3⟩ := hc i hi
  have e1 : ∀ o', w'.cell? ⟨b, o', none⟩ = w.cell? ⟨b, o', none⟩ := fun o' => World.cell?_of_block (hk b (by omega))
  exact ⟨b, e, hbg, (e1 _).trans h0, (e1 _).trans h1, (e1 _).trans h2, (e1 _).trans h3⟩
theorem Rsr.lt {w : World} {g : Nat} {ts : List Tk.Tok} {k bad e o d : Nat} (h : Rsr w g ts k bad e o d) : g < w.heap.size := by
  obtain ⟨A, c, hb, _⟩ := h
  exact lt_of_block hb
theorem Rsr.later {w w' : World} {g : Nat} {ts : List Tk.Tok} {k bad e o d : Nat} (h : Rsr w g ts k bad e o d) (hb : Below w.heap.size w w') : Rsr w' g ts k bad e o d :=
  h.keep fun b hle => hb.block b (by have := h.lt; omega)
theorem Rsr.alloc {w : World} {g : Nat} {ts : List Tk.Tok} {k bad e o d : Nat} (h : Rsr w g ts k bad e o d) (ob : Obj) : Rsr (w.alloc ob) g ts k bad e o d :=
  h.keep fun b hb => Below.heap_alloc w ob b (by have := h.lt; omega)
theorem Rsr.inT {w : World} {g : Nat} {ts : List Tk.Tok} {k bad e o d : Nat} (h : Rsr w g ts k bad e o d) : k < ts.length := by
  obtain ⟨A, c, hb, hl, _⟩ := h
  exact hl
/-- a new row of the parser's own cells -/
theorem Rsr.mk' {w w' : World} {g : Nat} {ts : List Tk.Tok} {k bad e o d : Nat} (h : Rsr w g ts k bad e o d) (k' bad' e' o' d' : Nat) (hk' : k' < ts.length) (ho' : o' ≤ 1000)
    (hw : ∀ A c, w.heap[g]? = some (.cells #[.slice A ts.length c, .int .i64 (k : Int), .int .i64 (bad : Int), .int .i64 (e : Int), .int .i64 (o : Int), .int .i64 (d : Int)] 87 (0, 0)) →
      w'.heap[g]? = some (.cells #[.slice A ts.length c, .int .i64 (k' : Int), .int .i64 (bad' : Int), .int .i64 (e' : Int), .int .i64 (o' : Int), .int .i64 (d' : Int)] 87 (0, 0)))
    (hb : ∀ b, b ≠ g → w'.heap[b]? = w.heap[b]?) : Rsr w' g ts k' bad' e' o' d' := by
  obtain ⟨A, c, hg, hl, ho, hn, hc⟩ := h
  refine ⟨A, c, hw A c hg, hk', ho', hn, fun i hi => ?_⟩
  obtain ⟨b, e, hbg, h0, h1, h2, h3⟩ := hc i hi
  have e1 : ∀ o', w'.cell? ⟨b, o', none⟩ = w.cell? ⟨b, o', none⟩ := fun o' => World.cell?_of_block (hb b (by omega))
  exact ⟨b, e, hbg, (e1 _).trans h0, (e1 _).trans h1, (e1 _).trans h2, (e1 _).trans h3⟩
theorem Rsr.at {w : World} {g : Nat} {ts : List Tk.Tok} {k bad e o d : Nat} (h : Rsr w g ts k bad e o d) (j : Nat) (hj : j < ts.length) : Rsr (w.setCell ⟨g, 1, none⟩ (.int .i64 (j : Int))) g ts j bad e o d := by
  have ho : o ≤ 1000 := by obtain ⟨A, c, _, _, ho, _⟩ := h; exact ho
  refine h.mk' j bad e o d hj ho (fun A c hb => ?_) fun b hb => Below.heap_setCell w _ _ b (by simpa using hb)
  simp [World.setCell, Array.getElem?_modify]
  exact ⟨_, hb, rfl⟩
theorem Rsr.bad' {w : World} {g : Nat} {ts : List Tk.Tok} {k bad e o d : Nat} (h : Rsr w g ts k bad e o d) (j : Nat) : Rsr (w.setCell ⟨g, 2, none⟩ (.int .i64 (j : Int))) g ts k j e o d := by
  have ho : o ≤ 1000 := by obtain ⟨A, c, _, _, ho, _⟩ := h; exact ho
  refine h.mk' k j e o d h.inT ho (fun A c hb => ?_) fun b hb => Below.heap_setCell w _ _ b (by simpa using hb)
  simp [World.setCell, Array.getElem?_modify]
  exact ⟨_, hb, rfl⟩
theorem Rsr.err {w : World} {g : Nat} {ts : List Tk.Tok} {k bad e o d : Nat} (h : Rsr w g ts k bad e o d) (j : Nat) : Rsr (w.setCell ⟨g, 3, none⟩ (.int .i64 (j : Int))) g ts k bad j o d := by
  have ho : o ≤ 1000 := by obtain ⟨A, c, _, _, ho, _⟩ := h; exact ho
  refine h.mk' k bad j o d h.inT ho (fun A c hb => ?_) fun b hb => Below.heap_setCell w _ _ b (by simpa using hb)
  simp [World.setCell, Array.getElem?_modify]
  exact ⟨_, hb, rfl⟩
theorem Rsr.nest {w : World} {g : Nat} {ts : List Tk.Tok} {k bad e o d : Nat} (h : Rsr w g ts k bad e o d) (j : Nat) (hj : j ≤ 1000) : Rsr (w.setCell ⟨g, 4, none⟩ (.int .i64 (j : Int))) g ts k bad e j d := by
  refine h.mk' k bad e j d h.inT hj (fun A c hb => ?_) fun b hb => Below.heap_setCell w _ _ b (by simpa using hb)
  simp [World.setCell, Array.getElem?_modify]
  exact ⟨_, hb, rfl⟩
/-- what a walk wants to know -/
theorem Rsr.cells {w : World} {g : Nat} {ts : List Tk.Tok} {k bad e o d : Nat} (h : Rsr w g ts k bad e o d) : ∃ b c, b ≠ g ∧ b < w.heap.size ∧ w.cell? ⟨g, 0, none⟩ = some (.slice (some ⟨b, 0, none⟩) ts.length c) ∧ w.cell? ⟨g, 1, none⟩ = some (.int .i64 (k : Int)) ∧ w.cell? ⟨g, 2, none⟩ = some (.int .i64 (bad : Int)) ∧
    w.cell? ⟨g, 3, none⟩ = some (.int .i64 (e : Int)) ∧ w.cell? ⟨g, 4, none⟩ = some (.int .i64 (o : Int)) ∧ (∀ n : Nat, w.frozen? ⟨g, n, none⟩ = false) ∧ k < 1000000 ∧ o ≤ 1000 ∧
    w.cell? ⟨b, k * 4, none⟩ = some (.int .i64 (Ps.kindAt ts k : Int)) ∧ w.cell? ⟨b, k * 4 + 1, none⟩ = some (.string ⟨(Ps.textAt ts k).toArray⟩) ∧ w.cell? ⟨b, k * 4 + 2, none⟩ = some (.int .i64 (Ps.numAt ts k : Int)) ∧ (∃ v : Int, w.cell? ⟨b, k * 4 + 3, none⟩ = some (.int .i64 v)) := by
  obtain ⟨A, c, hb, hl, ho, hn, hc⟩ := h
  obtain ⟨b, rfl, hbg, h0, h1, h2, h3⟩ := hc k hl
  have e1 : Ps.kindAt ts k = ts[k].kind := by unfold Ps.kindAt; rw [List.getElem?_eq_getElem hl]
  have e2 : Ps.textAt ts k = ts[k].text := by unfold Ps.textAt; rw [List.getElem?_eq_getElem hl]
  have e3 : Ps.numAt ts k = ts[k].num := by unfold Ps.numAt; rw [List.getElem?_eq_getElem hl]
  refine ⟨b, c, by omega, World.block_lt_of_cell? _ _ h0, ?_, ?_, ?_, ?_, ?_, ?_, by omega, ho, by rw [e1]; exact h0, by rw [e2]; exact h1, by rw [e3]; exact h2, _, h3⟩
  · rw [cell_of_row w g 0 _ _ _ hb]; rfl
  · rw [cell_of_row w g 1 _ _ _ hb]; rfl
  · rw [cell_of_row w g 2 _ _ _ hb]; rfl
  · rw [cell_of_row w g 3 _ _ _ hb]; rfl
  · rw [cell_of_row w g 4 _ _ _ hb]; rfl
  · intro n; simp [World.frozen?, hb]

/-- what is, kind say -/
def isB (ts : List Tk.Tok) (k e : Nat) (s : List UInt8) : Bool := decide (e = 0) && ((decide (Ps.kindAt ts k = 4) || decide (Ps.kindAt ts k = 3)) && decide (Ps.textAt ts k = s))
def kindB (ts : List Tk.Tok) (k e K : Nat) : Bool := decide (e = 0) && decide (Ps.kindAt ts k = K)

set_option maxRecDepth 100000 in
set_option maxHeartbeats 4000000 in
theorem rkind_any (w : World) (g : Nat) (ts : List Tk.Tok) (k bad e o d K : Nat) (hP : Rsr w g ts k bad e o d) :
    Calls Tryd.prog 46 #[.pointer (some ⟨g, 0, none⟩), .int .i64 (K : Int)] w fun x w' => x = .returned (.bool (kindB ts k e K)) ∧ Below w.heap.size w w' := by
  have hk := hP.inT
  obtain ⟨b, c, hne, hbl, q0, q1, q2, q3, q4, fr, hkm, ho, a0, a1, a2, v, a3⟩ := hP.cells
  have hgl := hP.lt
  clear hP
  have i0 : (0 : Int) ≤ (k : Int) := by omega
  have i1 : (k : Int) < (ts.length : Int) := by omega
  by_cases he : e = 0
  · have t0 := bT (show ((e : Nat) : Int) = 0 by omega)
    by_cases hK : Ps.kindAt ts k = K
    · have HS : kindB ts k e K = true := by simp [kindB, he, hK]
      replace HS := Lib.hid HS
      have t1 := bT (show ((Ps.kindAt ts k : Nat) : Int) = (K : Int) by omega)
      clear hK he
      generalize Ps.kindAt ts k = K' at *
      go_enter Tryd.func46, Tryd.ntmps46
      go_wp2
      go_region
      all_goals
        go_wp2
        go_ret
        rw [HS.out]
        exact ⟨rfl, (Below.refl _ _).drew⟩
    · have HS : kindB ts k e K = false := by simp [kindB, hK]
      replace HS := Lib.hid HS
      have t1 := bF (show ((Ps.kindAt ts k : Nat) : Int) ≠ (K : Int) by omega)
      clear hK he
      generalize Ps.kindAt ts k = K' at *
      go_enter Tryd.func46, Tryd.ntmps46
      go_wp2
      go_region
      all_goals
        go_wp2
        go_ret
        rw [HS.out]
        exact ⟨rfl, (Below.refl _ _).drew⟩
  · have HS : kindB ts k e K = false := by simp [kindB, he]
    replace HS := Lib.hid HS
    have t0 := bF (show ((e : Nat) : Int) ≠ 0 by omega)
    clear he
    generalize Ps.kindAt ts k = K' at *
    go_enter Tryd.func46, Tryd.ntmps46
    go_wp2
    go_region
    all_goals
      go_wp2
      go_ret
      rw [HS.out]
      exact ⟨rfl, (Below.refl _ _).drew⟩

end Go.Proofs.YtjjooekkieddbaaDoor

namespace Go.Proofs.YtjjooekkieddbaaDoor
open Go.RowKit

theorem grown_put (w : World) (g n : Nat) (u : Value) : w.grownBy (w.setCell ⟨g, n, none⟩ u) (some g) :=
  ⟨rfl, rfl, rfl, Nat.le_of_eq (by simp [World.setCell]), fun b _ hne => Below.heap_setCell w _ _ b (by intro h; exact hne (by rw [h]))⟩
theorem grown_below {w w' : World} {g : Nat} (h : Below w.heap.size w w') : w.grownBy w' (some g) :=
  ⟨h.os, h.tape, h.output, h.size, fun b hb _ => h.block b hb⟩

set_option maxRecDepth 100000 in
set_option maxHeartbeats 4000000 in
theorem ris_any (w : World) (g : Nat) (ts : List Tk.Tok) (k bad e o d : Nat) (s : List UInt8) (hP : Rsr w g ts k bad e o d) :
    Calls Tryd.prog 47 #[.pointer (some ⟨g, 0, none⟩), .string ⟨s.toArray⟩] w fun x w' => x = .returned (.bool (isB ts k e s)) ∧ Below w.heap.size w w' := by
  have hk := hP.inT
  obtain ⟨b, c, hne, hbl, q0, q1, q2, q3, q4, fr, hkm, ho, a0, a1, a2, v, a3⟩ := hP.cells
  have hgl := hP.lt
  clear hP
  have i0 : (0 : Int) ≤ (k : Int) := by omega
  have i1 : (k : Int) < (ts.length : Int) := by omega
  have HB : ∃ B, B = isB ts k e s := ⟨_, rfl⟩
  obtain ⟨B, hB⟩ := HB
  have HS := Lib.hid hB
  unfold isB at hB
  by_cases he : e = 0
  · have t0 := bT (show ((e : Nat) : Int) = 0 by omega)
    by_cases h4 : Ps.kindAt ts k = 4
    · have t4 := bT (show ((Ps.kindAt ts k : Nat) : Int) = 4 by omega)
      by_cases hT : Ps.textAt ts k = s
      · have t5 := str_eq_T hT
        have HV : B = true := by rw [hB]; simp [he, h4, hT]
        replace HV := Lib.hid HV
        clear hB hT h4 he
        generalize Ps.kindAt ts k = K at *
        generalize Ps.textAt ts k = T at *
        generalize Ps.numAt ts k = M at *
        go_enter Tryd.func47, Tryd.ntmps47
        go_wp2
        go_region
        all_goals
          go_wp2
          go_ret
          rw [← HS.out, HV.out]
          exact ⟨rfl, ((Below.refl _ _).alloc (Nat.le_refl _) _).drew⟩
      · have t5 := str_eq_F hT
        have HV : B = false := by rw [hB]; simp [hT]
        replace HV := Lib.hid HV
        clear hB hT h4 he
        generalize Ps.kindAt ts k = K at *
        generalize Ps.textAt ts k = T at *
        generalize Ps.numAt ts k = M at *
        go_enter Tryd.func47, Tryd.ntmps47
        go_wp2
        go_region
        all_goals
          go_wp2
          go_ret
          rw [← HS.out, HV.out]
          exact ⟨rfl, ((Below.refl _ _).alloc (Nat.le_refl _) _).drew⟩
    · have t4 := bF (show ((Ps.kindAt ts k : Nat) : Int) ≠ 4 by omega)
      by_cases h3 : Ps.kindAt ts k = 3
      · have t3 := bT (show ((Ps.kindAt ts k : Nat) : Int) = 3 by omega)
        by_cases hT : Ps.textAt ts k = s
        · have t5 := str_eq_T hT
          have HV : B = true := by rw [hB]; simp [he, h3, hT]
          replace HV := Lib.hid HV
          clear hB hT h4 h3 he
          generalize Ps.kindAt ts k = K at *
          generalize Ps.textAt ts k = T at *
          generalize Ps.numAt ts k = M at *
          go_enter Tryd.func47, Tryd.ntmps47
          go_wp2
          go_region
          all_goals
            go_wp2
            go_ret
            rw [← HS.out, HV.out]
            exact ⟨rfl, ((Below.refl _ _).alloc (Nat.le_refl _) _).drew⟩
        · have t5 := str_eq_F hT
          have HV : B = false := by rw [hB]; simp [hT]
          replace HV := Lib.hid HV
          clear hB hT h4 h3 he
          generalize Ps.kindAt ts k = K at *
          generalize Ps.textAt ts k = T at *
          generalize Ps.numAt ts k = M at *
          go_enter Tryd.func47, Tryd.ntmps47
          go_wp2
          go_region
          all_goals
            go_wp2
            go_ret
            rw [← HS.out, HV.out]
            exact ⟨rfl, ((Below.refl _ _).alloc (Nat.le_refl _) _).drew⟩
      · have t3 := bF (show ((Ps.kindAt ts k : Nat) : Int) ≠ 3 by omega)
        have HV : B = false := by rw [hB]; simp [h3, h4]
        replace HV := Lib.hid HV
        clear hB h4 h3 he
        generalize Ps.kindAt ts k = K at *
        generalize Ps.textAt ts k = T at *
        generalize Ps.numAt ts k = M at *
        go_enter Tryd.func47, Tryd.ntmps47
        go_wp2
        go_region
        all_goals
          go_wp2
          go_ret
          rw [← HS.out, HV.out]
          exact ⟨rfl, ((Below.refl _ _).alloc (Nat.le_refl _) _).drew⟩
  · have t0 := bF (show ((e : Nat) : Int) ≠ 0 by omega)
    have HV : B = false := by rw [hB]; simp [he]
    replace HV := Lib.hid HV
    clear hB he
    generalize Ps.kindAt ts k = K at *
    generalize Ps.textAt ts k = T at *
    generalize Ps.numAt ts k = M at *
    go_enter Tryd.func47, Tryd.ntmps47
    go_wp2
    go_region
    all_goals
      go_wp2
      go_ret
      rw [← HS.out, HV.out]
      exact ⟨rfl, ((Below.refl _ _).alloc (Nat.le_refl _) _).drew⟩

set_option maxRecDepth 100000 in
set_option maxHeartbeats 4000000 in
theorem rfail_any (w : World) (g : Nat) (ts : List Tk.Tok) (k bad e o d E : Nat) (v : Int) (hv : v = (E : Int)) (hP : Rsr w g ts k bad e o d) :
    Calls Tryd.prog 48 #[.pointer (some ⟨g, 0, none⟩), .int .i64 v] w fun x w' => x = .returned (.tuple #[]) ∧
      Rsr w' g ts k (if e = 0 then k else bad) (if e = 0 then E else e) o d ∧ w.grownBy w' (some g) := by
  subst hv
  have hk := hP.inT
  obtain ⟨b, c, hne, hbl, q0, q1, q2, q3, q4, fr, hkm, ho, a0, a1, a2, v, a3⟩ := hP.cells
  have hgl := hP.lt
  have f2 := fr 2
  have f3 := fr 3
  have HP := Lib.hid hP
  clear hP fr a0 a1 a2 a3 q4
  by_cases he : e = 0
  · have t0 := bT (show ((e : Nat) : Int) = 0 by omega)
    have HE := Lib.hid he
    clear he
    go_enter Tryd.func48, Tryd.ntmps48
    go_wp2
    refine bodyPost_end (results_none rfl _ _ _) rfl ⟨rfl, ?_, ?_⟩
    · exact (HP.out.err E).bad' k
    · exact grown_trans (grown_put _ _ _ _) (grown_put _ _ _ _)
  · have t0 := bF (show ((e : Nat) : Int) ≠ 0 by omega)
    have HE := Lib.hid he
    clear he
    go_enter Tryd.func48, Tryd.ntmps48
    go_wp2
    exact bodyPost_end (results_none rfl _ _ _) rfl ⟨rfl, HP.out, grown_below (Below.refl _ _)⟩

/-- the place behind a take -/
def takeK (ts : List Tk.Tok) (k e : Nat) (s : List UInt8) : Nat := if isB ts k e s = true then k + 1 else k
theorem takeK_T {ts : List Tk.Tok} {k e : Nat} {s : List UInt8} (h : isB ts k e s = true) : takeK ts k e s = k + 1 := if_pos h
theorem takeK_F {ts : List Tk.Tok} {k e : Nat} {s : List UInt8} (h : isB ts k e s = false) : takeK ts k e s = k := if_neg (by rw [h]; decide)
theorem isB_kind {ts : List Tk.Tok} {k e : Nat} {s : List UInt8} (h : isB ts k e s = true) : Ps.kindAt ts k ≠ 5 := by
  intro h5
  unfold isB at h
  rw [h5] at h
  simp at h

set_option maxRecDepth 100000 in
set_option maxHeartbeats 4000000 in
theorem rtake_any (w : World) (g : Nat) (ts : List Tk.Tok) (k bad e o d : Nat) (s : List UInt8) (hlast : Ps.kindAt ts (ts.length - 1) = 5) (hP : Rsr w g ts k bad e o d) :
    Calls Tryd.prog 49 #[.pointer (some ⟨g, 0, none⟩), .string ⟨s.toArray⟩] w fun x w' => x = .returned (.bool (isB ts k e s)) ∧
      Rsr w' g ts (takeK ts k e s) bad e o d ∧ w.grownBy w' (some g) := by
  have HP := Lib.hid hP
  have HL := Lib.hid hlast
  clear hP hlast
  go_enter Tryd.func49, Tryd.ntmps49
  go_wp2_with fail
  refine (ris_any w g ts k bad e o d s HP.out).mono ?_
  rintro x w1 ⟨rfl, hb⟩
  have hP1 := HP.out.later hb
  obtain ⟨b, c, hne, hbl, q0, q1, q2, q3, q4, fr, hkm, ho, a0, a1, a2, v, a3⟩ := hP1.cells
  have hgl := hP1.lt
  have f1 := fr 1
  have HP1 := Lib.hid hP1
  have HB := Lib.hid hb
  clear hP1 hb fr a0 a1 a2 a3 q0 q2 q3 q4
  by_cases hI : isB ts k e s = true
  · have hk1 : k + 1 < ts.length := Ps.next_in HL.out HP.out.inT (isB_kind hI)
    have HT := Lib.hid (takeK_T hI)
    have hk2 : k + 1 < 1000000 + 1 := by omega
    have HI := Lib.hid hI
    rw [hI]
    clear hI
    go_wp2
    go_ret
    rw [HT.out, HI.out]
    have := HP1.out.at (k + 1) hk1
    rw [show (((k + 1 : Nat) : Nat) : Int) = (k : Int) + 1 by omega] at this
    exact ⟨rfl, this, grown_trans (grown_below HB.out) (grown_put _ _ _ _)⟩
  · replace hI : isB ts k e s = false := by simpa using hI
    have HT := Lib.hid (takeK_F hI)
    have HI := Lib.hid hI
    rw [hI]
    clear hI
    go_wp2
    go_ret
    rw [HT.out, HI.out]
    exact ⟨rfl, HP1.out, grown_below HB.out⟩

set_option maxRecDepth 100000 in
set_option maxHeartbeats 4000000 in
theorem renter_any (w : World) (g : Nat) (ts : List Tk.Tok) (k bad e o d : Nat) (ho1 : o < 1000) (hP : Rsr w g ts k bad e o d) :
    Calls Tryd.prog 127 #[.pointer (some ⟨g, 0, none⟩)] w fun x w' => x = .returned (.tuple #[]) ∧
      Rsr w' g ts k (if o = 24 ∧ e = 0 then k else bad) (if o = 24 ∧ e = 0 then 3 else e) (o + 1) d ∧ w.grownBy w' (some g) := by
  obtain ⟨b, c, hne, hbl, q0, q1, q2, q3, q4, fr, hkm, ho, a0, a1, a2, v, a3⟩ := hP.cells
  have hgl := hP.lt
  have f4 := fr 4
  have HP := Lib.hid hP
  have HB : ∃ B E, B = (if o = 24 ∧ e = 0 then k else bad) ∧ E = (if o = 24 ∧ e = 0 then 3 else e) := ⟨_, _, rfl, rfl⟩
  obtain ⟨B, E, hB, hE⟩ := HB
  rw [← hB, ← hE]
  replace hB := Lib.hid hB
  replace hE := Lib.hid hE
  clear hP fr a0 a1 a2 a3 q0 q2 q3
  by_cases h24 : o = 24
  · have t0 := bT (show ((o : Nat) : Int) = 24 by omega)
    have H24 := Lib.hid h24
    clear h24
    go_enter Tryd.func127, Tryd.ntmps127
    go_wp2_with fail
    refine (rfail_any w g ts k bad e o d 3 3 rfl HP.out).mono ?_
    rintro x w1 ⟨rfl, hP1, hG1⟩
    obtain ⟨b, c, hne, hbl, q0, q1, q2, q3, q4, fr, hkm, ho, a0, a1, a2, v, a3⟩ := hP1.cells
    have hgl := hP1.lt
    have f4 := fr 4
    have HP1 := Lib.hid hP1
    have HG1 := Lib.hid hG1
    clear hP1 hG1 fr a0 a1 a2 a3 q0 q2 q3
    go_wp2
    refine bodyPost_end (results_none rfl _ _ _) rfl ⟨rfl, ?_, grown_trans HG1.out (grown_put _ _ _ _)⟩
    have hP2 := HP1.out.nest (o + 1) (by omega)
    rw [show (((o + 1 : Nat) : Nat) : Int) = (o : Int) + 1 by omega] at hP2
    have e1 : B = if e = 0 then k else bad := by rw [hB.out]; simp [H24.out]
    have e2 : E = if e = 0 then 3 else e := by rw [hE.out]; simp [H24.out]
    rw [e1, e2]
    exact hP2
  · have t0 := bF (show ((o : Nat) : Int) ≠ 24 by omega)
    have H24 := Lib.hid h24
    clear h24
    go_enter Tryd.func127, Tryd.ntmps127
    go_wp2
    refine bodyPost_end (results_none rfl _ _ _) rfl ⟨rfl, ?_, grown_put _ _ _ _⟩
    have hP2 := HP.out.nest (o + 1) (by omega)
    rw [show (((o + 1 : Nat) : Nat) : Int) = (o : Int) + 1 by omega] at hP2
    have e1 : B = bad := by rw [hB.out]; simp [H24.out]
    have e2 : E = e := by rw [hE.out]; simp [H24.out]
    rw [e1, e2]
    exact hP2

end Go.Proofs.YtjjooekkieddbaaDoor

namespace Go.Proofs.YtjjooekkieddbaaDoor
open Go.RowKit

/-- the place of the error and the error behind a must -/
def mustB (ts : List Tk.Tok) (k bad e : Nat) (s : List UInt8) : Nat := if isB ts k e s = true then bad else if e = 0 then k else bad
def mustE (ts : List Tk.Tok) (k e : Nat) (s : List UInt8) : Nat := if isB ts k e s = true then e else if e = 0 then 4 else e

set_option maxRecDepth 100000 in
set_option maxHeartbeats 4000000 in
theorem rmust_any (w : World) (g : Nat) (ts : List Tk.Tok) (k bad e o d : Nat) (s : List UInt8) (hlast : Ps.kindAt ts (ts.length - 1) = 5) (hP : Rsr w g ts k bad e o d) :
    Calls Tryd.prog 80 #[.pointer (some ⟨g, 0, none⟩), .string ⟨s.toArray⟩] w fun x w' => x = .returned (.tuple #[]) ∧
      Rsr w' g ts (takeK ts k e s) (mustB ts k bad e s) (mustE ts k e s) o d ∧ w.grownBy w' (some g) := by
  have HP := Lib.hid hP
  have HL := Lib.hid hlast
  clear hP hlast
  go_enter Tryd.func80, Tryd.ntmps80
  go_wp2_with fail
  refine (rtake_any w g ts k bad e o d s HL.out HP.out).mono ?_
  rintro x w1 ⟨rfl, hP1, hG1⟩
  have HP1 := Lib.hid hP1
  have HG1 := Lib.hid hG1
  clear hP1 hG1
  by_cases hI : isB ts k e s = true
  · have HI := Lib.hid hI
    rw [hI]
    clear hI
    go_wp2
    refine bodyPost_end (results_none rfl _ _ _) rfl ⟨rfl, ?_, HG1.out⟩
    have e1 : mustB ts k bad e s = bad := if_pos HI.out
    have e2 : mustE ts k e s = e := if_pos HI.out
    rw [e1, e2]
    exact HP1.out
  · replace hI : isB ts k e s = false := by simpa using hI
    have HI := Lib.hid hI
    have HT := Lib.hid (takeK_F hI)
    rw [hI]
    clear hI
    go_wp2_with fail
    refine (rfail_any w1 g ts (takeK ts k e s) bad e o d 4 4 rfl HP1.out).mono ?_
    rintro x w2 ⟨rfl, hP2, hG2⟩
    have HP2 := Lib.hid hP2
    have HG2 := Lib.hid hG2
    clear hP2 hG2
    go_wp2
    refine bodyPost_end (results_none rfl _ _ _) rfl ⟨rfl, ?_, grown_trans HG1.out HG2.out⟩
    have e1 : mustB ts k bad e s = if e = 0 then takeK ts k e s else bad := by rw [HT.out]; exact if_neg (by rw [HI.out]; decide)
    have e2 : mustE ts k e s = if e = 0 then 4 else e := if_neg (by rw [HI.out]; decide)
    rw [e1, e2]
    exact HP2.out

set_option maxRecDepth 100000 in
set_option maxHeartbeats 4000000 in
theorem rname_T (w : World) (g : Nat) (ts : List Tk.Tok) (k bad e o d : Nat) (hlast : Ps.kindAt ts (ts.length - 1) = 5) (hP : Rsr w g ts k bad e o d) (hK : kindB ts k e 1 = true) :
    Calls Tryd.prog 52 #[.pointer (some ⟨g, 0, none⟩)] w fun x w' => x = .returned (.string ⟨(Ps.textAt ts k).toArray⟩) ∧
      Rsr w' g ts (k + 1) bad e o d ∧ w.grownBy w' (some g) := by
  have hk1 : k + 1 < ts.length := Ps.next_in hlast hP.inT (by
    intro h5
    unfold kindB at hK
    rw [h5] at hK
    simp at hK)
  have HP := Lib.hid hP
  have HK := Lib.hid hK
  clear hP hlast hK
  go_enter Tryd.func52, Tryd.ntmps52
  go_wp2_with fail
  refine (rkind_any w g ts k bad e o d 1 HP.out).mono ?_
  rw [HK.out]
  rintro x w1 ⟨rfl, hb⟩
  have hP1 := HP.out.later hb
  obtain ⟨b, c, hne, hbl, q0, q1, q2, q3, q4, fr, hkm, ho, a0, a1, a2, v, a3⟩ := hP1.cells
  have hgl := hP1.lt
  have f1 := fr 1
  have HP1 := Lib.hid hP1
  have HB := Lib.hid hb
  have i0 : (0 : Int) ≤ (k : Int) := by omega
  have i1 : (k : Int) < (ts.length : Int) := by omega
  clear hP1 hb fr q2 q3 q4
  have hT : ∃ T, T = Ps.textAt ts k := ⟨_, rfl⟩
  obtain ⟨T, hT⟩ := hT
  rw [← hT] at a1
  replace hT := Lib.hid hT
  go_wp2
  go_region
  all_goals
    go_wp2
    go_ret
    rw [← hT.out]
    have := HP1.out.at (k + 1) hk1
    rw [show (((k + 1 : Nat) : Nat) : Int) = (k : Int) + 1 by omega] at this
    refine ⟨rfl, this.later (Below.refl _ _).drew, ?_⟩
    exact grown_trans (grown_trans (grown_below HB.out) (grown_put _ _ _ _)) (grown_below (Below.refl _ _).drew)

def openB (ts : List Tk.Tok) (at_ : Int) : Bool := decide (0 ≤ at_) && (decide (at_ < ts.length) && decide (Ps.kindAt ts (ts.length - 1) = 5))

end Go.Proofs.YtjjooekkieddbaaDoor

namespace Go.Proofs.YtjjooekkieddbaaDoor
open Go.RowKit

/-- what operand and binary leave -/
def RfPost (w : World) (g : Nat) (ts : List Tk.Tok) (bad o d : Nat) (R : Ps.R) (e : Ending) (w' : World) : Prop :=
  ∃ f : EF, e = .returned f.val ∧ w.grownBy w' (some g) ∧ (∀ x m, R = .ok x m → ExM w' (w.heap.size ≤ ·) x f ∧ Rsr w' g ts m bad 0 o d) ∧ (∀ a e0, R = .bad a e0 → e0 ≠ 0 ∧ ∃ m, Rsr w' g ts m a e0 o d)

/-- no reserved word is a sign -/
def WOk (ts : List Tk.Tok) : Prop := ∀ k, Ps.kindAt ts k = 3 → Ps.textAt ts k ∉ [40] :: [41] :: Ps.sgTab
theorem isB_sgn {ts : List Tk.Tok} {k : Nat} {s : List UInt8} (hk : k < ts.length) (hW : WOk ts) (hs : s ∈ [40] :: [41] :: Ps.sgTab) (h0 : s ≠ []) : isB ts k 0 s = decide (Ps.sgn ts k = s) := by
  unfold isB
  by_cases h4 : Ps.kindAt ts k = 4
  · rw [sgn_is ts k hk h4]
    simp [h4]
  · rw [sgn_not ts k h4]
    by_cases h3 : Ps.kindAt ts k = 3
    · have : Ps.textAt ts k ≠ s := fun h => hW k h3 (h ▸ hs)
      simp [this, h3]
      exact fun h => h0 (by first | exact h | exact h.symm)
    · simp [h3, h4]
      exact fun h => h0 (by first | exact h | exact h.symm)

theorem rkind_at (w : World) (g : Nat) (ts : List Tk.Tok) (k bad e o d K : Nat) (v : Int) (hv : v = (K : Int)) (hP : Rsr w g ts k bad e o d) :
    Calls Tryd.prog 46 #[.pointer (some ⟨g, 0, none⟩), .int .i64 v] w fun x w' => x = .returned (.bool (kindB ts k e K)) ∧ Below w.heap.size w w' := by
  subst hv
  exact rkind_any w g ts k bad e o d K hP
/-- two new blocks, the second call's world -/
theorem two_new {w w1 : World} {o1 o2 : Obj} (hb : Below ((w.alloc o1).alloc o2).heap.size ((w.alloc o1).alloc o2) w1) :
    w1.heap[w.heap.size]? = some o1 ∧ w1.heap[w.heap.size + 1]? = some o2 ∧ (∀ b, b < w.heap.size → w1.heap[b]? = w.heap[b]?) ∧ w.heap.size + 1 < w1.heap.size := by
  have hs : ((w.alloc o1).alloc o2).heap.size = w.heap.size + 2 := by simp
  have hs1 : (w.alloc o1).heap.size = w.heap.size + 1 := by simp
  refine ⟨?_, ?_, ?_, ?_⟩
  · rw [hb.block _ (by omega), Below.heap_alloc _ o2 _ (by omega)]
    exact heap_alloc_new w o1
  · rw [hb.block _ (by omega), ← hs1]
    exact heap_alloc_new (w.alloc o1) o2
  · intro b hlt
    rw [hb.block _ (by omega), Below.heap_alloc _ o2 _ (by omega), Below.heap_alloc _ o1 _ hlt]
  · have := hb.size
    omega

/-- the end of operand's first cases, over any worlds: A behind the first store, B behind the place's, C behind the second store -/
theorem rf_end0 {w w1 A C : World} {g r : Nat} {ts : List Tk.Tok} {k bad o d : Nat} {x : Ex} {f : EF} (hr : w.heap.size = r) (hgr : g < r) (hos : w1.os = w.os) (htp : w1.tape = w.tape) (hou : w1.output = w.output)
    (hkeep : ∀ b, b < r → w1.heap[b]? = w.heap[b]?) (hsz : r + 1 < w1.heap.size) (hP : Rsr w1 g ts k bad 0 o d) (hk1 : k + 1 < ts.length)
    (hA : ∀ b, b ≠ r + 1 → A.heap[b]? = w1.heap[b]?) (hAo : A.os = w1.os) (hAt : A.tape = w1.tape) (hAu : A.output = w1.output)
    (hC : ∀ b, b ≠ r → C.heap[b]? = (A.setCell ⟨g, 1, none⟩ (.int .i64 ((k : Int) + 1))).heap[b]?) (hCs : C.heap.size = w1.heap.size) (hCo : C.os = A.os) (hCt : C.tape = A.tape) (hCu : C.output = A.output)
    (hE : ∀ (W : World) (S : Nat → Prop), ExM W S x f) : RfPost w g ts bad o d (.ok x (k + 1)) (.returned f.val) C := by
  have h1 : Rsr A g ts k bad 0 o d := hP.keep fun b hle => hA b (by clear hA hC hkeep hE; omega)
  have h2 := h1.at (k + 1) hk1
  rw [show (((k + 1 : Nat) : Nat) : Int) = (k : Int) + 1 from rfl] at h2
  have h3 : Rsr C g ts (k + 1) bad 0 o d := h2.keep fun b hle => hC b (by clear hA hC hkeep hE; omega)
  refine ⟨f, rfl, ⟨hCo.trans (hAo.trans hos), hCt.trans (hAt.trans htp), hCu.trans (hAu.trans hou), ?_, ?_⟩, ?_, ?_⟩
  · rw [hCs, hr]; clear hA hC hkeep hE; omega
  · intro b hlt hne
    rw [hr] at hlt
    have hbg : b ≠ g := fun h => hne (by rw [h])
    rw [hC b (Nat.ne_of_lt hlt), Below.heap_setCell _ _ _ b hbg, hA b (Nat.ne_of_lt (Nat.lt_succ_of_lt hlt))]
    exact hkeep b hlt
  · intro y m h
    injection h with e1 e2
    subst e1
    subst e2
    exact ⟨hE _ _, h3⟩
  · intro a e0 h
    cases h
theorem put_size (w : World) (a : Addr) (u : Value) : (w.setCell a u).heap.size = w.heap.size := by simp [World.setCell]
theorem drew_heap (w : World) : w.drew.heap = w.heap := rfl
theorem set4_same (w : World) (r : Nat) (u0 u1 u2 u3 : Value) : (set4 w r u0 u1 u2 u3).os = w.os ∧ (set4 w r u0 u1 u2 u3).tape = w.tape ∧ (set4 w r u0 u1 u2 u3).output = w.output := ⟨rfl, rfl, rfl⟩
theorem put_same (w : World) (a : Addr) (u : Value) : (w.setCell a u).os = w.os ∧ (w.setCell a u).tape = w.tape ∧ (w.setCell a u).output = w.output := ⟨rfl, rfl, rfl⟩
theorem drew_same (w : World) : w.drew.os = w.os ∧ w.drew.tape = w.tape ∧ w.drew.output = w.output := ⟨rfl, rfl, rfl⟩
theorem rf_end {w w1 : World} {g : Nat} {ts : List Tk.Tok} {k bad o d : Nat} {o1 o2 : Obj} {x : Ex} (hgw : g < w.heap.size) (hb : Below ((w.alloc o1).alloc o2).heap.size ((w.alloc o1).alloc o2) w1)
    (hkeep : ∀ b, b < w.heap.size → w1.heap[b]? = w.heap[b]?) (hsz : w.heap.size + 1 < w1.heap.size) (hP : Rsr w1 g ts k bad 0 o d) (hk1 : k + 1 < ts.length) (u0 u1 u2 u3 : Value) (f : EF)
    (hE : ∀ (W : World) (S : Nat → Prop), ExM W S x f) (A B D C : World) (hA : A = set4 w1 (w.heap.size + 1) u0 u1 u2 u3) (hB : B = A.setCell ⟨g, 1, none⟩ (.int .i64 ((k : Int) + 1))) (hD : D = set4 B w.heap.size u0 u1 u2 u3) (hC : C = D.drew) :
    RfPost w g ts bad o d (.ok x (k + 1)) (.returned f.val) C := by
  have sA : A.heap.size = w1.heap.size := by rw [hA]; exact set4_size _ _ _ _ _ _
  have sB : B.heap.size = A.heap.size := by rw [hB]; exact put_size _ _ _
  have sD : D.heap.size = B.heap.size := by rw [hD]; exact set4_size _ _ _ _ _ _
  have sC : C.heap = D.heap := by rw [hC]; exact drew_heap _
  have mA : A.os = w1.os ∧ A.tape = w1.tape ∧ A.output = w1.output := by rw [hA]; exact set4_same _ _ _ _ _ _
  have mB : B.os = A.os ∧ B.tape = A.tape ∧ B.output = A.output := by rw [hB]; exact put_same _ _ _
  have mD : D.os = B.os ∧ D.tape = B.tape ∧ D.output = B.output := by rw [hD]; exact set4_same _ _ _ _ _ _
  have mC : C.os = D.os ∧ C.tape = D.tape ∧ C.output = D.output := by rw [hC]; exact drew_same _
  have kA : ∀ b, b ≠ w.heap.size + 1 → A.heap[b]? = w1.heap[b]? := fun b hne => by rw [hA]; exact set4_keep w1 _ _ _ _ _ b hne
  have kD : ∀ b, b ≠ w.heap.size → D.heap[b]? = B.heap[b]? := fun b hne => by rw [hD]; exact set4_keep B _ _ _ _ _ b hne
  have kC : ∀ b, b ≠ w.heap.size → C.heap[b]? = (A.setCell ⟨g, 1, none⟩ (.int .i64 ((k : Int) + 1))).heap[b]? := fun b hne => by rw [sC, kD b hne, hB]
  clear hA hB hD hC
  exact rf_end0 (A := A) (C := C) rfl hgw hb.os hb.tape hb.output hkeep hsz hP hk1 kA mA.1 mA.2.1 mA.2.2 kC (by rw [sC, sD, sB, sA]) (mC.1.trans (mD.1.trans mB.1)) (mC.2.1.trans (mD.2.1.trans mB.2.1)) (mC.2.2.trans (mD.2.2.trans mB.2.2)) hE

set_option maxRecDepth 100000 in
set_option maxHeartbeats 4000000 in
theorem roperand_num (w : World) (g : Nat) (ts : List Tk.Tok) (k bad o d : Nat) (hlast : Ps.kindAt ts (ts.length - 1) = 5) (hP : Rsr w g ts k bad 0 o d) (hK : Ps.kindAt ts k = 2) :
    Calls Tryd.prog 118 #[.pointer (some ⟨g, 0, none⟩)] w (RfPost w g ts bad o d (.ok (.mk 1 (Ps.numAt ts k) [] []) (k + 1))) := by
  have hk1 : k + 1 < ts.length := Ps.next_in hlast hP.inT (by rw [hK]; decide)
  have hKB : kindB ts k 0 2 = true := by simp [kindB, hK]
  have HP := Lib.hid hP
  have HK := Lib.hid hKB
  have hgw := hP.lt
  clear hP hlast hKB hK
  go_enter Tryd.func118, Tryd.ntmps118
  go_wp2_with fail
  refine (rkind_at _ g ts k bad 0 o d 2 2 rfl ((HP.out.alloc _).alloc _)).mono ?_
  rw [HK.out]
  rintro x w1 ⟨rfl, hb⟩
  have hP1 := ((HP.out.alloc _).alloc _).later hb
  obtain ⟨hr0, hr1, hkeep, hsz⟩ := two_new hb
  obtain ⟨q0, q1, q2, q3, f0, f1, f2, f3, hz0⟩ := blk4 hr0
  obtain ⟨p0, p1, p2, p3, g0, g1, g2, g3, hz1⟩ := blk4 hr1
  obtain ⟨b, c, hne, hbl, c0, c1, -, -, -, fr, hkm, ho, a0, a1, a2, v, a3⟩ := hP1.cells
  have i0 : (0 : Int) ≤ (k : Int) := by omega
  have i1 : (k : Int) < (ts.length : Int) := by omega
  have fr1 := fr 1
  have hn1 : g ≠ w.heap.size := by omega
  have hn2 : g ≠ w.heap.size + 1 := by omega
  have HP1 := Lib.hid hP1
  have HB := Lib.hid hb
  have HR0 := Lib.hid hr0
  have HR1 := Lib.hid hr1
  have HKp := Lib.hid hkeep
  clear hP1 hb hr0 hr1 hkeep fr a0 a1 a3
  have hM : ∃ M, M = Ps.numAt ts k := ⟨_, rfl⟩
  obtain ⟨M, hM⟩ := hM
  rw [← hM] at a2
  replace hM := Lib.hid hM
  go_wp2_with fail
  go_region
  all_goals
    go_wp2_with fail
    refine bodyPost_ret (v := .agg #[.int .i64 1, .int .i64 (M : Int), .string ⟨#[]⟩, .slice none 0 0]) (by simp [results, Tryd.results118, go_sem, q0, q1, q2, q3]) rfl ?_
    rw [← hM.out]
    exact rf_end hgw HB.out HKp.out hsz HP1.out hk1 (.int .i64 1) (.int .i64 (M : Int)) (.string ⟨#[]⟩) (.slice none 0 0) ⟨1, (M : Int), [], none, 0, 0⟩ (fun W S => ExM.leaf _ _ _ _ _ _ _) _ _ _ _ rfl rfl rfl rfl
end Go.Proofs.YtjjooekkieddbaaDoor

namespace Go.Proofs.YtjjooekkieddbaaDoor
open Go.RowKit

/-- an end of operand, over any worlds: C differs from w3 at the two new blocks only -/
theorem rf_fin {w w3 C : World} {g r : Nat} {ts : List Tk.Tok} {m bad o d : Nat} {x : Ex} {f : EF} (hr : w.heap.size = r) (hgr : g < r) (hG : w.grownBy w3 (some g)) (hP : Rsr w3 g ts m bad 0 o d)
    (hC : ∀ b, b ≠ r → b ≠ r + 1 → C.heap[b]? = w3.heap[b]?) (hCs : w3.heap.size ≤ C.heap.size) (hCo : C.os = w3.os) (hCt : C.tape = w3.tape) (hCu : C.output = w3.output)
    (hE : ExM C (w.heap.size ≤ ·) x f) : RfPost w g ts bad o d (.ok x m) (.returned f.val) C := by
  have h3 : Rsr C g ts m bad 0 o d := hP.keep fun b hle => hC b (by clear hC hE; omega) (by clear hC hE; omega)
  refine ⟨f, rfl, ⟨hCo.trans hG.os, hCt.trans hG.tape, hCu.trans hG.output, Nat.le_trans hG.size hCs, ?_⟩, ?_, ?_⟩
  · intro b hlt hne
    rw [hC b (by rw [← hr]; exact Nat.ne_of_lt hlt) (by rw [← hr]; exact Nat.ne_of_lt (Nat.lt_succ_of_lt hlt))]
    exact hG.block b hlt hne
  · intro y m' h
    injection h with e1 e2
    subst e1
    subst e2
    exact ⟨hE, h3⟩
  · intro a e0 h
    cases h
theorem rf_two {w w3 : World} {g : Nat} {ts : List Tk.Tok} {m bad o d : Nat} {x : Ex} (hgw : g < w.heap.size) (hG : w.grownBy w3 (some g)) (hP : Rsr w3 g ts m bad 0 o d) (u0 u1 u2 u3 v0 v1 v2 v3 : Value) (f : EF) (A C : World)
    (hA : A = set4 w3 (w.heap.size + 1) u0 u1 u2 u3) (hC : C = set4 A w.heap.size v0 v1 v2 v3) (hE : ExM C (w.heap.size ≤ ·) x f) : RfPost w g ts bad o d (.ok x m) (.returned f.val) C := by
  have sA : A.heap.size = w3.heap.size := by rw [hA]; exact set4_size _ _ _ _ _ _
  have sC : C.heap.size = A.heap.size := by rw [hC]; exact set4_size _ _ _ _ _ _
  have mA : A.os = w3.os ∧ A.tape = w3.tape ∧ A.output = w3.output := by rw [hA]; exact set4_same _ _ _ _ _ _
  have mC : C.os = A.os ∧ C.tape = A.tape ∧ C.output = A.output := by rw [hC]; exact set4_same _ _ _ _ _ _
  have kA : ∀ b, b ≠ w.heap.size + 1 → A.heap[b]? = w3.heap[b]? := fun b hne => by rw [hA]; exact set4_keep w3 _ _ _ _ _ b hne
  have kC : ∀ b, b ≠ w.heap.size → C.heap[b]? = A.heap[b]? := fun b hne => by rw [hC]; exact set4_keep A _ _ _ _ _ b hne
  clear hA hC
  exact rf_fin rfl hgw hG hP (fun b h0 h1 => (kC b h0).trans (kA b h1)) (Nat.le_of_eq (sC.trans sA).symm) (mC.1.trans mA.1) (mC.2.1.trans mA.2.1) (mC.2.2.trans mA.2.2) hE
/-- the new blocks stay behind calls that write to the parser only -/
theorem rf_two_later {w w1 w2 : World} {g : Nat} {o1 o2 : Obj} (hgw : g < w.heap.size) (h : w1.heap[w.heap.size]? = some o1 ∧ w1.heap[w.heap.size + 1]? = some o2 ∧ w.heap.size + 1 < w1.heap.size) (hG : w1.grownBy w2 (some g)) :
    w2.heap[w.heap.size]? = some o1 ∧ w2.heap[w.heap.size + 1]? = some o2 ∧ w.heap.size + 1 < w2.heap.size := by
  obtain ⟨h0, h1, h2⟩ := h
  refine ⟨(hG.block _ (Nat.lt_of_succ_lt h2) ?_).trans h0, (hG.block _ h2 ?_).trans h1, Nat.lt_of_lt_of_le h2 hG.size⟩
  · intro h; injection h with h; exact absurd hgw (by rw [← h]; exact Nat.lt_irrefl _)
  · intro h; injection h with h; exact absurd hgw (by rw [← h]; exact fun h' => absurd h' (Nat.not_lt_of_le (Nat.le_succ _)))
theorem grown_new2 {w w1 : World} {g : Nat} {o1 o2 : Obj} (hb : Below ((w.alloc o1).alloc o2).heap.size ((w.alloc o1).alloc o2) w1) : w.grownBy w1 (some g) := by
  obtain ⟨_, _, hk, hs⟩ := two_new hb
  exact ⟨hb.os, hb.tape, hb.output, Nat.le_of_lt (Nat.lt_of_succ_lt hs), fun b hlt _ => hk b hlt⟩

set_option maxRecDepth 100000 in
set_option maxHeartbeats 4000000 in
theorem roperand_name (w : World) (g : Nat) (ts : List Tk.Tok) (k bad o d : Nat) (hlast : Ps.kindAt ts (ts.length - 1) = 5) (hP : Rsr w g ts k bad 0 o d) (hK : Ps.kindAt ts k = 1) :
    Calls Tryd.prog 118 #[.pointer (some ⟨g, 0, none⟩)] w (RfPost w g ts bad o d (.ok (.mk 2 0 (Ps.textAt ts k) []) (k + 1))) := by
  have hK2 : kindB ts k 0 2 = false := by simp [kindB, hK]
  have hK1 : kindB ts k 0 1 = true := by simp [kindB, hK]
  have HP := Lib.hid hP
  have HK2 := Lib.hid hK2
  have HK1 := Lib.hid hK1
  have HL := Lib.hid hlast
  have hgw := hP.lt
  clear hP hlast hK2 hK1 hK
  go_enter Tryd.func118, Tryd.ntmps118
  go_wp2_with fail
  refine (rkind_at _ g ts k bad 0 o d 2 2 rfl ((HP.out.alloc _).alloc _)).mono ?_
  rw [HK2.out]
  rintro x w1 ⟨rfl, hb⟩
  have hP1 := Lib.hid (((HP.out.alloc _).alloc _).later hb)
  obtain ⟨hr0, hr1, -, hsz⟩ := two_new hb
  have hN1 := Lib.hid (And.intro hr0 (And.intro hr1 hsz))
  have hG1 := Lib.hid (grown_new2 (g := g) hb)
  clear hr0 hr1 hsz hb
  go_wp2_with fail
  refine (rkind_at _ g ts k bad 0 o d 1 1 rfl hP1.out).mono ?_
  rw [HK1.out]
  rintro x w2 ⟨rfl, hb2⟩
  have hP2 := Lib.hid (hP1.out.later hb2)
  have hN2 := Lib.hid (rf_two_later hgw hN1.out (grown_below (g := g) hb2))
  have hG2 := Lib.hid (grown_trans hG1.out (grown_below (g := g) hb2))
  clear hb2 hP1 hN1 hG1
  go_wp2_with fail
  refine (rname_T _ g ts k bad 0 o d HL.out hP2.out HK1.out).mono ?_
  rintro x w3 ⟨rfl, hP3, hG3⟩
  obtain ⟨hr0, hr1, hsz⟩ := rf_two_later hgw hN2.out hG3
  have HG := Lib.hid (grown_trans hG2.out hG3)
  have HP3 := Lib.hid hP3
  clear hP3 hG3 hG2 hP2 hN2
  obtain ⟨q0, q1, q2, q3, f0, f1, f2, f3, hz0⟩ := blk4 hr0
  obtain ⟨p0, p1, p2, p3, g0, g1, g2, g3, hz1⟩ := blk4 hr1
  clear hr0 hr1
  go_wp2_with fail
  refine bodyPost_ret (v := .agg #[.int .i64 2, .int .i64 0, .string ⟨(Ps.textAt ts k).toArray⟩, .slice none 0 0]) (by simp [results, Tryd.results118, go_sem, q0, q1, q2, q3]) rfl ?_
  exact rf_two hgw HG.out HP3.out _ _ _ _ _ _ _ _ ⟨2, 0, Ps.textAt ts k, none, 0, 0⟩ _ _ rfl rfl (ExM.leaf _ _ _ _ _ _ _)
end Go.Proofs.YtjjooekkieddbaaDoor

namespace Go.Proofs.YtjjooekkieddbaaDoor
open Go.RowKit

/-- an end with an error -/
theorem rf_bad {w w3 : World} {g : Nat} {ts : List Tk.Tok} {m a e0 bad o d : Nat} (hgw : g < w.heap.size) (hG : w.grownBy w3 (some g)) (hP : Rsr w3 g ts m a e0 o d) (he : e0 ≠ 0) (v0 v1 v2 v3 : Value) (f : EF) (C : World)
    (hC : C = set4 w3 w.heap.size v0 v1 v2 v3) : RfPost w g ts bad o d (.bad a e0) (.returned f.val) C := by
  have sC : C.heap.size = w3.heap.size := by rw [hC]; exact set4_size _ _ _ _ _ _
  have mC : C.os = w3.os ∧ C.tape = w3.tape ∧ C.output = w3.output := by rw [hC]; exact set4_same _ _ _ _ _ _
  have kC : ∀ b, b ≠ w.heap.size → C.heap[b]? = w3.heap[b]? := fun b hne => by rw [hC]; exact set4_keep w3 _ _ _ _ _ b hne
  clear hC
  have h3 : Rsr C g ts m a e0 o d := hP.keep fun b hle => kC b (Nat.ne_of_lt (Nat.lt_of_le_of_lt hle hgw))
  refine ⟨f, rfl, ⟨mC.1.trans hG.os, mC.2.1.trans hG.tape, mC.2.2.trans hG.output, Nat.le_trans hG.size (Nat.le_of_eq sC.symm), fun b hlt hne => (kC b (Nat.ne_of_lt hlt)).trans (hG.block b hlt hne)⟩, ?_, ?_⟩
  · intro y m' h
    cases h
  · intro a' e' h
    injection h with e1 e2
    subst e1
    subst e2
    exact ⟨he, m, h3⟩

set_option maxRecDepth 100000 in
set_option maxHeartbeats 4000000 in
theorem roperand_none (w : World) (g : Nat) (ts : List Tk.Tok) (k bad o d : Nat) (hP : Rsr w g ts k bad 0 o d) (hK2 : kindB ts k 0 2 = false) (hK1 : kindB ts k 0 1 = false)
    (hm : isB ts k 0 [45] = false) (hn : isB ts k 0 [33] = false) (hp : isB ts k 0 [40] = false) :
    Calls Tryd.prog 118 #[.pointer (some ⟨g, 0, none⟩)] w (RfPost w g ts bad o d (.bad k 4)) := by
  have HP := Lib.hid hP
  have HK2 := Lib.hid hK2
  have HK1 := Lib.hid hK1
  have Hm := Lib.hid hm
  have Hn := Lib.hid hn
  have Hp := Lib.hid hp
  have hgw := hP.lt
  clear hP hK2 hK1 hm hn hp
  go_enter Tryd.func118, Tryd.ntmps118
  go_wp2_with fail
  refine (rkind_at _ g ts k bad 0 o d 2 2 rfl ((HP.out.alloc _).alloc _)).mono ?_
  rw [HK2.out]
  rintro x w1 ⟨rfl, hb⟩
  have hP1 := Lib.hid (((HP.out.alloc _).alloc _).later hb)
  obtain ⟨hr0, hr1, -, hsz⟩ := two_new hb
  have hN1 := Lib.hid (And.intro hr0 (And.intro hr1 hsz))
  have hG1 := Lib.hid (grown_new2 (g := g) hb)
  clear hr0 hr1 hsz hb
  go_wp2_with fail
  refine (rkind_at _ g ts k bad 0 o d 1 1 rfl hP1.out).mono ?_
  rw [HK1.out]
  rintro x w2 ⟨rfl, hb2⟩
  have hP2 := Lib.hid (hP1.out.later hb2)
  have hN2 := Lib.hid (rf_two_later hgw hN1.out (grown_below (g := g) hb2))
  have hG2 := Lib.hid (grown_trans hG1.out (grown_below (g := g) hb2))
  clear hb2 hP1 hN1 hG1
  go_wp2_with fail
  refine (ris_any _ g ts k bad 0 o d [45] hP2.out).mono ?_
  rw [Hm.out]
  rintro x w3 ⟨rfl, hb3⟩
  have hP3 := Lib.hid (hP2.out.later hb3)
  have hN3 := Lib.hid (rf_two_later hgw hN2.out (grown_below (g := g) hb3))
  have hG3 := Lib.hid (grown_trans hG2.out (grown_below (g := g) hb3))
  clear hb3 hP2 hN2 hG2
  go_wp2_with fail
  refine (ris_any _ g ts k bad 0 o d [33] hP3.out).mono ?_
  rw [Hn.out]
  rintro x w4 ⟨rfl, hb4⟩
  have hP4 := Lib.hid (hP3.out.later hb4)
  have hN4 := Lib.hid (rf_two_later hgw hN3.out (grown_below (g := g) hb4))
  have hG4 := Lib.hid (grown_trans hG3.out (grown_below (g := g) hb4))
  clear hb4 hP3 hN3 hG3
  go_wp2_with fail
  refine (ris_any _ g ts k bad 0 o d [40] hP4.out).mono ?_
  rw [Hp.out]
  rintro x w5 ⟨rfl, hb5⟩
  have hP5 := Lib.hid (hP4.out.later hb5)
  have hN5 := Lib.hid (rf_two_later hgw hN4.out (grown_below (g := g) hb5))
  have hG5 := Lib.hid (grown_trans hG4.out (grown_below (g := g) hb5))
  clear hb5 hP4 hN4 hG4
  go_wp2_with fail
  refine (rfail_any _ g ts k bad 0 o d 4 4 rfl hP5.out).mono ?_
  rintro x w6 ⟨rfl, hP6, hG6⟩
  obtain ⟨hr0, hr1, hsz⟩ := rf_two_later hgw hN5.out hG6
  have HG := Lib.hid (grown_trans hG5.out hG6)
  have HP6 := Lib.hid hP6
  clear hP6 hG6 hG5 hP5 hN5
  obtain ⟨q0, q1, q2, q3, f0, f1, f2, f3, hz0⟩ := blk4 hr0
  obtain ⟨p0, p1, p2, p3, g0, g1, g2, g3, hz1⟩ := blk4 hr1
  clear hr0 hr1
  go_wp2_with fail
  refine bodyPost_ret (v := .agg #[.int .i64 0, .int .i64 0, .string ⟨#[]⟩, .slice none 0 0]) (by simp [results, Tryd.results118, go_sem, q0, q1, q2, q3]) rfl ?_
  exact rf_bad hgw HG.out (m := k) (a := k) (e0 := 4) (by simpa using HP6.out) (by decide) _ _ _ _ ⟨0, 0, [], none, 0, 0⟩ _ rfl
end Go.Proofs.YtjjooekkieddbaaDoor

namespace Go.Proofs.YtjjooekkieddbaaDoor
open Go.RowKit

set_option maxRecDepth 100000 in
set_option maxHeartbeats 4000000 in
theorem roperand_parL (w : World) (g : Nat) (ts : List Tk.Tok) (k bad o d : Nat) (hP : Rsr w g ts k bad 0 o d) (hK2 : kindB ts k 0 2 = false) (hK1 : kindB ts k 0 1 = false)
    (hm : isB ts k 0 [45] = false) (hn : isB ts k 0 [33] = false) (hp : isB ts k 0 [40] = true) (ho24 : o = 24) :
    Calls Tryd.prog 118 #[.pointer (some ⟨g, 0, none⟩)] w (RfPost w g ts bad o d (.bad k 3)) := by
  have HP := Lib.hid hP
  have HK2 := Lib.hid hK2
  have HK1 := Lib.hid hK1
  have Hm := Lib.hid hm
  have Hn := Lib.hid hn
  have Hp := Lib.hid hp
  have hgw := hP.lt
  have Ho := Lib.hid ho24
  clear hP hK2 hK1 hm hn hp ho24
  go_enter Tryd.func118, Tryd.ntmps118
  go_wp2_with fail
  refine (rkind_at _ g ts k bad 0 o d 2 2 rfl ((HP.out.alloc _).alloc _)).mono ?_
  rw [HK2.out]
  rintro x w1 ⟨rfl, hb⟩
  have hP1 := Lib.hid (((HP.out.alloc _).alloc _).later hb)
  obtain ⟨hr0, hr1, -, hsz⟩ := two_new hb
  have hN1 := Lib.hid (And.intro hr0 (And.intro hr1 hsz))
  have hG1 := Lib.hid (grown_new2 (g := g) hb)
  clear hr0 hr1 hsz hb
  go_wp2_with fail
  refine (rkind_at _ g ts k bad 0 o d 1 1 rfl hP1.out).mono ?_
  rw [HK1.out]
  rintro x w2 ⟨rfl, hb2⟩
  have hP2 := Lib.hid (hP1.out.later hb2)
  have hN2 := Lib.hid (rf_two_later hgw hN1.out (grown_below (g := g) hb2))
  have hG2 := Lib.hid (grown_trans hG1.out (grown_below (g := g) hb2))
  clear hb2 hP1 hN1 hG1
  go_wp2_with fail
  refine (ris_any _ g ts k bad 0 o d [45] hP2.out).mono ?_
  rw [Hm.out]
  rintro x w3 ⟨rfl, hb3⟩
  have hP3 := Lib.hid (hP2.out.later hb3)
  have hN3 := Lib.hid (rf_two_later hgw hN2.out (grown_below (g := g) hb3))
  have hG3 := Lib.hid (grown_trans hG2.out (grown_below (g := g) hb3))
  clear hb3 hP2 hN2 hG2
  go_wp2_with fail
  refine (ris_any _ g ts k bad 0 o d [33] hP3.out).mono ?_
  rw [Hn.out]
  rintro x w4 ⟨rfl, hb4⟩
  have hP4 := Lib.hid (hP3.out.later hb4)
  have hN4 := Lib.hid (rf_two_later hgw hN3.out (grown_below (g := g) hb4))
  have hG4 := Lib.hid (grown_trans hG3.out (grown_below (g := g) hb4))
  clear hb4 hP3 hN3 hG3
  go_wp2_with fail
  refine (ris_any _ g ts k bad 0 o d [40] hP4.out).mono ?_
  rw [Hp.out]
  rintro x w5 ⟨rfl, hb5⟩
  have hP5 := Lib.hid (hP4.out.later hb5)
  have hN5 := Lib.hid (rf_two_later hgw hN4.out (grown_below (g := g) hb5))
  have hG5 := Lib.hid (grown_trans hG4.out (grown_below (g := g) hb5))
  clear hb5 hP4 hN4 hG4
  go_wp2_with fail
  refine (renter_any _ g ts k bad 0 o d (by have := Ho.out; omega) hP5.out).mono ?_
  rintro x w6 ⟨rfl, hP6, hG6⟩
  obtain ⟨hr0, hr1, hsz⟩ := rf_two_later hgw hN5.out hG6
  have HG := Lib.hid (grown_trans hG5.out hG6)
  have hP7 : Rsr w6 g ts k k 3 25 d := by
    have := Ho.out
    subst this
    simpa using hP6
  clear hP6 hG6 hG5 hP5 hN5
  obtain ⟨b, c, hne, hbl, c0, c1, c2, c3, c4, fr, hkm, ho, a0, a1, a2, v, a3⟩ := hP7.cells
  have fr4 := fr 4
  have hn1 : g ≠ w.heap.size := by omega
  have hn2 : g ≠ w.heap.size + 1 := by omega
  have HP7 := Lib.hid hP7
  clear hP7 fr a0 a1 a2 a3
  obtain ⟨q0, q1, q2, q3, f0, f1, f2, f3, hz0⟩ := blk4 hr0
  obtain ⟨p0, p1, p2, p3, g0, g1, g2, g3, hz1⟩ := blk4 hr1
  clear hr0 hr1
  go_wp2_with fail
  refine bodyPost_ret (v := .agg #[.int .i64 0, .int .i64 0, .string ⟨#[]⟩, .slice none 0 0]) (by simp [results, Tryd.results118, go_sem, q0, q1, q2, q3]) rfl ?_
  rw [Ho.out]
  exact rf_bad hgw (grown_trans HG.out (grown_put _ _ _ _)) (m := k) (a := k) (e0 := 3) (HP7.out.nest 24 (by decide)) (by decide) _ _ _ _ ⟨0, 0, [], none, 0, 0⟩ _ rfl
end Go.Proofs.YtjjooekkieddbaaDoor

namespace Go.Proofs.YtjjooekkieddbaaDoor
open Go.RowKit

theorem rf_cases {W w8 : World} {g : Nat} {ts : List Tk.Tok} {bad o d : Nat} {R : Ps.R} {f : EF} (hok : ∀ x m, R = .ok x m → ExM w8 (W.heap.size ≤ ·) x f ∧ Rsr w8 g ts m bad 0 o d) (hbad : ∀ a e0, R = .bad a e0 → e0 ≠ 0 ∧ ∃ m, Rsr w8 g ts m a e0 o d) :
    ∃ m a e, Rsr w8 g ts m a e o d ∧ ((∃ x, R = .ok x m ∧ a = bad ∧ e = 0 ∧ ExM w8 (W.heap.size ≤ ·) x f) ∨ (R = .bad a e ∧ e ≠ 0)) := by
  cases R with
  | ok x m =>
    obtain ⟨h1, h2⟩ := hok x m rfl
    exact ⟨m, bad, 0, h2, Or.inl ⟨x, rfl, rfl, rfl, h1⟩⟩
  | bad a e =>
    obtain ⟨h1, m, h2⟩ := hbad a e rfl
    exact ⟨m, a, e, h2, Or.inr ⟨rfl, h1⟩⟩

theorem isB_dead {ts : List Tk.Tok} {k e : Nat} {s : List UInt8} (h : e ≠ 0) : isB ts k e s = false := by simp [isB, h]
/-- the end of a parenthesis -/
theorem rf_parend {w w8 W X w9 : World} {g : Nat} {ts : List Tk.Tok} {bad o d m a e : Nat} {R : Ps.R} {f : EF} (hgw : g < w.heap.size) (_hL : Ps.kindAt ts (ts.length - 1) = 5) (hW : WOk ts) (hGa : w.grownBy w8 (some g)) (hS : w.heap.size + 1 < W.heap.size)
    (hC : (∃ x, R = .ok x m ∧ a = bad ∧ e = 0 ∧ ExM w8 (W.heap.size ≤ ·) x f) ∨ (R = .bad a e ∧ e ≠ 0)) (kX : ∀ b, b ≠ w.heap.size + 1 → X.heap[b]? = w8.heap[b]?) (sX : X.heap.size = w8.heap.size)
    (mX : X.os = w8.os ∧ X.tape = w8.tape ∧ X.output = w8.output) (hG : X.grownBy w9 (some g)) (hP : Rsr w9 g ts (takeK ts m e [41]) (mustB ts m a e [41]) (mustE ts m e [41]) (o + 1) d) (ho : o ≤ 1000) (v0 v1 v2 v3 : Value) (D C : World)
    (hD : D = w9.setCell ⟨g, 4, none⟩ (.int .i64 (o : Int))) (hCC : C = set4 D w.heap.size v0 v1 v2 v3) : RfPost w g ts bad o d (R.bind fun x k' => if Ps.sgn ts k' = [41] then .ok x (k' + 1) else .bad k' 4) (.returned f.val) C := by
  have hwX : w.grownBy X (some g) := ⟨mX.1.trans hGa.os, mX.2.1.trans hGa.tape, mX.2.2.trans hGa.output, by rw [sX]; exact hGa.size, fun b hlt hne => (kX b (Nat.ne_of_lt (Nat.lt_succ_of_lt hlt))).trans (hGa.block b hlt hne)⟩
  have hw9 := grown_trans hwX hG
  have hPD : Rsr D g ts (takeK ts m e [41]) (mustB ts m a e [41]) (mustE ts m e [41]) o d := by rw [hD]; exact hP.nest o ho
  have hwD : w.grownBy D (some g) := by rw [hD]; exact grown_trans hw9 (grown_put _ _ _ _)
  have kD : ∀ b, b ≠ g → D.heap[b]? = w9.heap[b]? := fun b hne => by rw [hD]; exact Below.heap_setCell w9 _ _ b hne
  have sC : C.heap.size = D.heap.size := by rw [hCC]; exact set4_size _ _ _ _ _ _
  have mC : C.os = D.os ∧ C.tape = D.tape ∧ C.output = D.output := by rw [hCC]; exact set4_same _ _ _ _ _ _
  have kC : ∀ b, b ≠ w.heap.size → C.heap[b]? = D.heap[b]? := fun b hne => by rw [hCC]; exact set4_keep D _ _ _ _ _ b hne
  have hk9 : takeK ts m e [41] < ts.length := hP.inT
  have hm : m < ts.length := by
    refine Nat.lt_of_le_of_lt ?_ hk9
    unfold takeK
    split
    · exact Nat.le_succ _
    · exact Nat.le_refl _
  rcases hC with ⟨x, hR, ha, he, hE⟩ | ⟨hR, he⟩
  · subst ha
    subst he
    rw [hR]
    show RfPost w g ts a o d (if Ps.sgn ts m = [41] then .ok x (m + 1) else .bad m 4) _ _
    have hI := isB_sgn (s := [41]) hm hW (by simp) (by simp)
    by_cases h41 : Ps.sgn ts m = [41]
    · rw [if_pos h41]
      have hT : isB ts m 0 [41] = true := by rw [hI]; simp [h41]
      rw [takeK_T hT, show mustB ts m a 0 [41] = a from if_pos hT, show mustE ts m 0 [41] = 0 from if_pos hT] at hPD
      refine rf_fin rfl hgw hwD hPD (fun b h0 _ => kC b h0) (Nat.le_of_eq sC.symm) mC.1 mC.2.1 mC.2.2 ?_
      refine (hE.keep fun b hb hlt => ?_).more fun b hb => Nat.le_trans (Nat.le_of_lt (Nat.lt_of_succ_lt hS)) hb
      have hb1 : w.heap.size + 1 < b := Nat.lt_of_lt_of_le hS hb
      have hb2 : g < b := Nat.lt_trans hgw (Nat.lt_of_succ_lt hb1)
      rw [kC b (Nat.ne_of_gt (Nat.lt_of_succ_lt hb1)), kD b (Nat.ne_of_gt hb2), hG.block b (by rw [sX]; exact hlt) (by intro h; injection h with h; exact absurd hb2 (by rw [h]; exact Nat.lt_irrefl _)), kX b (Nat.ne_of_gt hb1)]
    · rw [if_neg h41]
      have hF : isB ts m 0 [41] = false := by rw [hI]; simp [h41]
      have hF' : ¬ isB ts m 0 [41] = true := by rw [hF]; decide
      rw [takeK_F hF, show mustB ts m a 0 [41] = m from (if_neg hF').trans (if_pos rfl), show mustE ts m 0 [41] = 4 from (if_neg hF').trans (if_pos rfl)] at hPD
      exact rf_bad hgw hwD hPD (by decide) v0 v1 v2 v3 f C hCC
  · rw [hR]
    show RfPost w g ts bad o d (.bad a e) _ _
    have hF := isB_dead (ts := ts) (k := m) (s := [41]) he
    have hF' : ¬ isB ts m e [41] = true := by rw [hF]; decide
    rw [takeK_F hF, show mustB ts m a e [41] = a from (if_neg hF').trans (if_neg he), show mustE ts m e [41] = e from (if_neg hF').trans (if_neg he)] at hPD
    exact rf_bad hgw hwD hPD he v0 v1 v2 v3 f C hCC

set_option maxRecDepth 100000 in
set_option maxHeartbeats 4000000 in
theorem roperand_par (w : World) (g : Nat) (ts : List Tk.Tok) (k bad o d : Nat) (hP : Rsr w g ts k bad 0 o d) (hK2 : kindB ts k 0 2 = false) (hK1 : kindB ts k 0 1 = false)
    (hm : isB ts k 0 [45] = false) (hn : isB ts k 0 [33] = false) (hp : isB ts k 0 [40] = true) (ho24 : o < 24) (hlast : Ps.kindAt ts (ts.length - 1) = 5) (hW : WOk ts)
    (hB : ∀ w', Rsr w' g ts (k + 1) bad 0 (o + 1) d → Calls Tryd.prog 109 #[.pointer (some ⟨g, 0, none⟩), .int .i64 0] w' (RfPost w' g ts bad (o + 1) d (Ps.PE ts 1 (o + 1) (k + 1)))) :
    Calls Tryd.prog 118 #[.pointer (some ⟨g, 0, none⟩)] w (RfPost w g ts bad o d ((Ps.PE ts 1 (o + 1) (k + 1)).bind fun x k' => if Ps.sgn ts k' = [41] then .ok x (k' + 1) else .bad k' 4)) := by
  have HP := Lib.hid hP
  have HK2 := Lib.hid hK2
  have HK1 := Lib.hid hK1
  have Hm := Lib.hid hm
  have Hn := Lib.hid hn
  have Hp := Lib.hid hp
  have hgw := hP.lt
  have Ho := Lib.hid ho24
  have HL := Lib.hid hlast
  have HW := Lib.hid hW
  have HB := Lib.hid hB
  have hk1 : k + 1 < ts.length := Ps.next_in hlast hP.inT (isB_kind hp)
  clear hP hK2 hK1 hm hn hp ho24 hlast hW hB
  go_enter Tryd.func118, Tryd.ntmps118
  go_wp2_with fail
  refine (rkind_at _ g ts k bad 0 o d 2 2 rfl ((HP.out.alloc _).alloc _)).mono ?_
  rw [HK2.out]
  rintro x w1 ⟨rfl, hb⟩
  have hP1 := Lib.hid (((HP.out.alloc _).alloc _).later hb)
  obtain ⟨hr0, hr1, -, hsz⟩ := two_new hb
  have hN1 := Lib.hid (And.intro hr0 (And.intro hr1 hsz))
  have hG1 := Lib.hid (grown_new2 (g := g) hb)
  clear hr0 hr1 hsz hb
  go_wp2_with fail
  refine (rkind_at _ g ts k bad 0 o d 1 1 rfl hP1.out).mono ?_
  rw [HK1.out]
  rintro x w2 ⟨rfl, hb2⟩
  have hP2 := Lib.hid (hP1.out.later hb2)
  have hN2 := Lib.hid (rf_two_later hgw hN1.out (grown_below (g := g) hb2))
  have hG2 := Lib.hid (grown_trans hG1.out (grown_below (g := g) hb2))
  clear hb2 hP1 hN1 hG1
  go_wp2_with fail
  refine (ris_any _ g ts k bad 0 o d [45] hP2.out).mono ?_
  rw [Hm.out]
  rintro x w3 ⟨rfl, hb3⟩
  have hP3 := Lib.hid (hP2.out.later hb3)
  have hN3 := Lib.hid (rf_two_later hgw hN2.out (grown_below (g := g) hb3))
  have hG3 := Lib.hid (grown_trans hG2.out (grown_below (g := g) hb3))
  clear hb3 hP2 hN2 hG2
  go_wp2_with fail
  refine (ris_any _ g ts k bad 0 o d [33] hP3.out).mono ?_
  rw [Hn.out]
  rintro x w4 ⟨rfl, hb4⟩
  have hP4 := Lib.hid (hP3.out.later hb4)
  have hN4 := Lib.hid (rf_two_later hgw hN3.out (grown_below (g := g) hb4))
  have hG4 := Lib.hid (grown_trans hG3.out (grown_below (g := g) hb4))
  clear hb4 hP3 hN3 hG3
  go_wp2_with fail
  refine (ris_any _ g ts k bad 0 o d [40] hP4.out).mono ?_
  rw [Hp.out]
  rintro x w5 ⟨rfl, hb5⟩
  have hP5 := Lib.hid (hP4.out.later hb5)
  have hN5 := Lib.hid (rf_two_later hgw hN4.out (grown_below (g := g) hb5))
  have hG5 := Lib.hid (grown_trans hG4.out (grown_below (g := g) hb5))
  clear hb5 hP4 hN4 hG4
  go_wp2_with fail
  refine (renter_any _ g ts k bad 0 o d (by have := Ho.out; omega) hP5.out).mono ?_
  rintro x w6 ⟨rfl, hP6, hG6⟩
  have hN6 := Lib.hid (rf_two_later hgw hN5.out hG6)
  have hG6' := Lib.hid (grown_trans hG5.out hG6)
  have hP7 : Rsr w6 g ts k bad 0 (o + 1) d := by
    have h24 : ¬ o = 24 := by have := Ho.out; omega
    simpa [h24] using hP6
  clear hP6 hG6 hG5 hP5 hN5
  obtain ⟨b, c, hne, hbl, c0, c1, c2, c3, c4, fr, hkm, ho, a0, a1, a2, v, a3⟩ := hP7.cells
  have fr1 := fr 1
  have hP8 := hP7.at (k + 1) hk1
  rw [show (((k + 1 : Nat) : Nat) : Int) = (k : Int) + 1 from rfl] at hP8
  have HP8 := Lib.hid hP8
  have HG8 := Lib.hid (grown_trans hG6'.out (grown_put w6 g 1 (.int .i64 ((k : Int) + 1))))
  have HN8 := Lib.hid (rf_two_later hgw hN6.out (grown_put w6 g 1 (.int .i64 ((k : Int) + 1))))
  clear hP7 hP8 fr a0 a1 a2 a3 hN6 hG6' hbl c0 c2 c4
  go_wp2_with fail
  refine (HB.out _ HP8.out).mono ?_
  rintro x w8 ⟨f, rfl, hG, hok, hbad⟩
  unfold EF.val
  obtain ⟨hr0, hr1, hsz⟩ := rf_two_later hgw HN8.out hG
  have hsz7 := HN8.out.2.2
  have HGa := Lib.hid (grown_trans HG8.out hG)
  have hst := rf_cases hok hbad
  obtain ⟨m, a, e, hP9, hcase⟩ := hst
  have HC := Lib.hid hcase
  have HS7 := Lib.hid hsz7
  clear hG hok hbad hcase hsz7 HP8 HN8 HG8 HB c1 c3 fr1
  obtain ⟨p0, p1, p2, p3, g0, g1, g2, g3, hz1⟩ := blk4 hr1
  have hx : (set4 w8 (w.heap.size + 1) (.int .i64 f.op) (.int .i64 f.num) (.string ⟨f.name.toArray⟩) (.slice f.A f.n f.c)).heap[w.heap.size + 1]? = _ := set4_at hr1 _ _ _ _
  have hx0 : (set4 w8 (w.heap.size + 1) (.int .i64 f.op) (.int .i64 f.num) (.string ⟨f.name.toArray⟩) (.slice f.A f.n f.c)).heap[w.heap.size]? = _ := (set4_keep w8 _ _ _ _ _ w.heap.size (Nat.ne_of_lt (Nat.lt_succ_self _))).trans hr0
  have hPx : Rsr (set4 w8 (w.heap.size + 1) (.int .i64 f.op) (.int .i64 f.num) (.string ⟨f.name.toArray⟩) (.slice f.A f.n f.c)) g ts m a e (o + 1) d := hP9.keep fun b hle => set4_keep w8 _ _ _ _ _ b (Nat.ne_of_lt (Nat.lt_succ_of_lt (Nat.lt_of_le_of_lt hle hgw)))
  have hsx : w.heap.size + 1 < (set4 w8 (w.heap.size + 1) (.int .i64 f.op) (.int .i64 f.num) (.string ⟨f.name.toArray⟩) (.slice f.A f.n f.c)).heap.size := by rw [set4_size]; exact hsz
  have HNx := Lib.hid (And.intro hx0 (And.intro hx hsx))
  have HPx := Lib.hid hPx
  clear hx hx0 hPx hsx hr0 hr1 hP9
  go_wp2_with fail
  refine (rmust_any _ g ts m a e (o + 1) d [41] HL.out HPx.out).mono ?_
  rintro x w9 ⟨rfl, hP10, hG10⟩
  obtain ⟨hr0, hr1, hsz2⟩ := rf_two_later hgw HNx.out hG10
  obtain ⟨b2, c2, hne2, -, -, -, -, -, d4, fr2, -, -, -, -, -, -⟩ := hP10.cells
  have fr4 := fr2 4
  have hn1 : g ≠ w.heap.size := Nat.ne_of_lt hgw
  have hn2 : g ≠ w.heap.size + 1 := Nat.ne_of_lt (Nat.lt_succ_of_lt hgw)
  have HP10 := Lib.hid hP10
  have HG10 := Lib.hid hG10
  clear hP10 hG10 fr2 p0 p1 p2 p3 g0 g1 g2 g3 hz1
  obtain ⟨q0, q1, q2, q3, f0, f1, f2, f3, hz0⟩ := blk4 hr0
  obtain ⟨p0, p1, p2, p3, g0, g1, g2, g3, hz1⟩ := blk4 hr1
  clear hr0 hr1
  rw [show (((o + 1 : Nat) : Nat) : Int) = (o : Int) + 1 from rfl] at d4
  go_wp2_with fail
  refine bodyPost_ret (v := f.val) (by simp [EF.val, results, Tryd.results118, go_sem, q0, q1, q2, q3]) rfl ?_
  exact rf_parend hgw HL.out HW.out HGa.out HS7.out HC.out (fun b hne => set4_keep w8 _ _ _ _ _ b hne) (set4_size w8 _ _ _ _ _) (set4_same w8 _ _ _ _ _) HG10.out HP10.out (by have := Ho.out; omega) _ _ _ _ _ _ rfl rfl
end Go.Proofs.YtjjooekkieddbaaDoor
