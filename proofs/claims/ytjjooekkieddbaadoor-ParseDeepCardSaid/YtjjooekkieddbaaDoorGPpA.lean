/- The parser of package parse in memory, and what its small methods do. More small methods of package parse: sees, accept, expect, take, name, number. What take, name and number of package parse do. What expression of package parse does. What reference and argument of package parse do. What argument of package parse does. Slices of structs that a call makes itself, with what their elements lead to. No statement of the program is proved in this file. What list of package parse does with arguments. What parameter, and list for parameters, of package parse do. -/
import Derived.Test.YtjjooekkieddbaaDoorGPg
import Derived.Test.YtjjooekkieddbaaDoorGRfA
import Derived.Deep.QuietTactic
import Derived.BigQuiet
import Derived.Test.YtjjooekkieddbaaDoorGPar
import Derived.Deep.RegionHeld3
import Derived.Deep.DeepCutAuto
import Derived.Deep.AppendLies
import Derived.Deep.LoopGhost
namespace Go.Proofs.YtjjooekkieddbaaDoor
open Go.RowKit

/-- block g is a parser over the tokens ts, in the state σ, with o open blocks -/
def Pps (w : World) (g : Nat) (ts : List Tk.Tok) (σ : Pa.Sg) (o : Nat) : Prop :=
  ∃ A c, w.heap[g]? = some (.cells #[.slice A ts.length c, .int .i64 (σ.k : Int), .int .i64 (o : Int), .int .i64 (σ.e : Int)] 68 (0, 0)) ∧ σ.k < ts.length ∧ o ≤ 1000 ∧ ts.length ≤ 1000000 ∧ (σ.live = false → σ.e ≠ 0) ∧ Ps.kindAt ts (ts.length - 1) = 5 ∧
    ∀ i (h : i < ts.length), ∃ b, A = some ⟨b, 0, none⟩ ∧ b < g ∧ w.cell? ⟨b, i * 4, none⟩ = some (.int .i64 (ts[i].kind : Int)) ∧ w.cell? ⟨b, i * 4 + 1, none⟩ = some (.string ⟨ts[i].text.toArray⟩) ∧
      w.cell? ⟨b, i * 4 + 2, none⟩ = some (.int .i64 (ts[i].num : Int)) ∧ w.cell? ⟨b, i * 4 + 3, none⟩ = some (.int .i64 (ts[i].pos : Int))
theorem Pps.keep {w w' : World} {g : Nat} {ts : List Tk.Tok} {σ : Pa.Sg} {o : Nat} (h : Pps w g ts σ o) (hk : ∀ b, b ≤ g → w'.heap[b]? = w.heap[b]?) : Pps w' g ts σ o := by
  obtain ⟨A, c, hb, hl, ho, hn, he, h5, hc⟩ := h
  refine ⟨A, c, (hk g (Nat.le_refl _)).trans hb, hl, ho, hn, he, h5, fun i hi => ?_⟩
  obtain ⟨b, e, hbg, h0, h1, h2, h3⟩ := hc i hi
  have e1 : ∀ o', w'.cell? ⟨b, o', none⟩ = w.cell? ⟨b, o', none⟩ := fun o' => World.cell?_of_block (hk b (by omega))
  exact ⟨b, e, hbg, (e1 _).trans h0, (e1 _).trans h1, (e1 _).trans h2, (e1 _).trans h3⟩
theorem Pps.lt {w : World} {g : Nat} {ts : List Tk.Tok} {σ : Pa.Sg} {o : Nat} (h : Pps w g ts σ o) : g < w.heap.size := by
  obtain ⟨A, c, hb, _⟩ := h
  exact lt_of_block hb
theorem Pps.inT {w : World} {g : Nat} {ts : List Tk.Tok} {σ : Pa.Sg} {o : Nat} (h : Pps w g ts σ o) : σ.k < ts.length := by
  obtain ⟨A, c, _, hl, _⟩ := h
  exact hl
theorem Pps.last {w : World} {g : Nat} {ts : List Tk.Tok} {σ : Pa.Sg} {o : Nat} (h : Pps w g ts σ o) : Ps.kindAt ts (ts.length - 1) = 5 := by
  obtain ⟨A, c, _, _, _, _, _, h5, _⟩ := h
  exact h5
theorem Pps.err {w : World} {g : Nat} {ts : List Tk.Tok} {σ : Pa.Sg} {o : Nat} (h : Pps w g ts σ o) : σ.live = false → σ.e ≠ 0 := by
  obtain ⟨A, c, _, _, _, _, he, _⟩ := h
  exact he
theorem Pps.later {w w' : World} {g : Nat} {ts : List Tk.Tok} {σ : Pa.Sg} {o : Nat} (h : Pps w g ts σ o) (hb : Below w.heap.size w w') : Pps w' g ts σ o :=
  h.keep fun b hle => hb.block b (by have := h.lt; omega)
theorem Pps.alloc {w : World} {g : Nat} {ts : List Tk.Tok} {σ : Pa.Sg} {o : Nat} (h : Pps w g ts σ o) (ob : Obj) : Pps (w.alloc ob) g ts σ o :=
  h.keep fun b hb => Below.heap_alloc w ob b (by have := h.lt; omega)
theorem Pps.set {w : World} {g : Nat} {ts : List Tk.Tok} {σ : Pa.Sg} {o : Nat} (h : Pps w g ts σ o) {p : Addr} (hp : g < p.block) (u : Value) : Pps (w.setCell p u) g ts σ o :=
  h.keep fun b hb => Below.heap_setCell w p u b (by omega)
theorem Pps.mk' {w w' : World} {g : Nat} {ts : List Tk.Tok} {σ : Pa.Sg} {o : Nat} (h : Pps w g ts σ o) (τ : Pa.Sg) (o' : Nat) (hk' : τ.k < ts.length) (ho' : o' ≤ 1000) (he' : τ.live = false → τ.e ≠ 0)
    (hw : ∀ A c, w.heap[g]? = some (.cells #[.slice A ts.length c, .int .i64 (σ.k : Int), .int .i64 (o : Int), .int .i64 (σ.e : Int)] 68 (0, 0)) →
      w'.heap[g]? = some (.cells #[.slice A ts.length c, .int .i64 (τ.k : Int), .int .i64 (o' : Int), .int .i64 (τ.e : Int)] 68 (0, 0)))
    (hb : ∀ b, b ≠ g → w'.heap[b]? = w.heap[b]?) : Pps w' g ts τ o' := by
  obtain ⟨A, c, hg, hl, ho, hn, he, h5, hc⟩ := h
  refine ⟨A, c, hw A c hg, hk', ho', hn, he', h5, fun i hi => ?_⟩
  obtain ⟨b, e, hbg, h0, h1, h2, h3⟩ := hc i hi
  have e1 : ∀ o', w'.cell? ⟨b, o', none⟩ = w.cell? ⟨b, o', none⟩ := fun o' => World.cell?_of_block (hb b (by omega))
  exact ⟨b, e, hbg, (e1 _).trans h0, (e1 _).trans h1, (e1 _).trans h2, (e1 _).trans h3⟩
theorem Pps.oo {w : World} {g : Nat} {ts : List Tk.Tok} {σ : Pa.Sg} {o : Nat} (h : Pps w g ts σ o) : o ≤ 1000 := by
  obtain ⟨A, c, _, _, ho, _⟩ := h
  exact ho
/-- the next token -/
theorem Pps.next {w : World} {g : Nat} {ts : List Tk.Tok} {k o : Nat} (h : Pps w g ts (.at_ k) o) (hk : k + 1 < ts.length) : Pps (w.setCell ⟨g, 1, none⟩ (.int .i64 ((k : Int) + 1))) g ts (.at_ (k + 1)) o := by
  refine h.mk' (.at_ (k + 1)) o hk h.oo (fun e => by cases e) (fun A c hb => ?_) fun b hb => Below.heap_setCell w _ _ b (by simpa using hb)
  simp [World.setCell, Array.getElem?_modify]
  exact ⟨_, hb, rfl⟩
/-- an error -/
theorem Pps.fail {w : World} {g : Nat} {ts : List Tk.Tok} {k o : Nat} (h : Pps w g ts (.at_ k) o) (E : Nat) (hE : E ≠ 0) : Pps (w.setCell ⟨g, 3, none⟩ (.int .i64 (E : Int))) g ts (.bad k E) o := by
  refine h.mk' (.bad k E) o h.inT h.oo (fun _ => hE) (fun A c hb => ?_) fun b hb => Below.heap_setCell w _ _ b (by simpa using hb)
  simp [World.setCell, Array.getElem?_modify]
  exact ⟨_, hb, rfl⟩
/-- another number of open blocks -/
theorem Pps.opn {w : World} {g : Nat} {ts : List Tk.Tok} {σ : Pa.Sg} {o : Nat} (h : Pps w g ts σ o) (j : Nat) (hj : j ≤ 1000) : Pps (w.setCell ⟨g, 2, none⟩ (.int .i64 (j : Int))) g ts σ j := by
  refine h.mk' σ j h.inT hj h.err (fun A c hb => ?_) fun b hb => Below.heap_setCell w _ _ b (by simpa using hb)
  simp [World.setCell, Array.getElem?_modify]
  exact ⟨_, hb, rfl⟩
/-- what a walk wants to know -/
theorem Pps.cells {w : World} {g : Nat} {ts : List Tk.Tok} {σ : Pa.Sg} {o : Nat} (h : Pps w g ts σ o) : ∃ b c, b ≠ g ∧ b < w.heap.size ∧ w.cell? ⟨g, 0, none⟩ = some (.slice (some ⟨b, 0, none⟩) ts.length c) ∧ w.cell? ⟨g, 1, none⟩ = some (.int .i64 (σ.k : Int)) ∧ w.cell? ⟨g, 2, none⟩ = some (.int .i64 (o : Int)) ∧
    w.cell? ⟨g, 3, none⟩ = some (.int .i64 (σ.e : Int)) ∧ (∀ n : Nat, w.frozen? ⟨g, n, none⟩ = false) ∧ σ.k < 1000000 ∧ o ≤ 1000 ∧
    w.cell? ⟨b, σ.k * 4, none⟩ = some (.int .i64 (Ps.kindAt ts σ.k : Int)) ∧ w.cell? ⟨b, σ.k * 4 + 1, none⟩ = some (.string ⟨(Ps.textAt ts σ.k).toArray⟩) ∧ w.cell? ⟨b, σ.k * 4 + 2, none⟩ = some (.int .i64 (Ps.numAt ts σ.k : Int)) ∧ (∃ v : Int, w.cell? ⟨b, σ.k * 4 + 3, none⟩ = some (.int .i64 v)) ∧ ts.length ≤ 1000000 := by
  obtain ⟨A, c, hb, hl, ho, hn, he, h5, hc⟩ := h
  obtain ⟨b, rfl, hbg, h0, h1, h2, h3⟩ := hc σ.k hl
  have e1 : Ps.kindAt ts σ.k = ts[σ.k].kind := by unfold Ps.kindAt; rw [List.getElem?_eq_getElem hl]
  have e2 : Ps.textAt ts σ.k = ts[σ.k].text := by unfold Ps.textAt; rw [List.getElem?_eq_getElem hl]
  have e3 : Ps.numAt ts σ.k = ts[σ.k].num := by unfold Ps.numAt; rw [List.getElem?_eq_getElem hl]
  refine ⟨b, c, by omega, World.block_lt_of_cell? _ _ h0, ?_, ?_, ?_, ?_, ?_, by omega, ho, by rw [e1]; exact h0, by rw [e2]; exact h1, by rw [e3]; exact h2, ⟨_, h3⟩, hn⟩
  · rw [cell_of_row w g 0 _ _ _ hb]; rfl
  · rw [cell_of_row w g 1 _ _ _ hb]; rfl
  · rw [cell_of_row w g 2 _ _ _ hb]; rfl
  · rw [cell_of_row w g 3 _ _ _ hb]; rfl
  · intro n; simp [World.frozen?, hb]
theorem Pps.toks {w : World} {g : Nat} {ts : List Tk.Tok} {σ : Pa.Sg} {o : Nat} (h : Pps w g ts σ o) : ∃ A c, w.cell? ⟨g, 0, none⟩ = some (.slice A ts.length c) ∧ TokS w A ts := by
  obtain ⟨A, c, hb, hl, ho, hn, he, h5, hc⟩ := h
  refine ⟨A, c, by rw [cell_of_row w g 0 _ _ _ hb]; rfl, fun i hi => ?_⟩
  obtain ⟨b, e, _, h0, h1, h2, h3⟩ := hc i hi
  exact ⟨b, e, h0, h1, h2, h3⟩

set_option maxRecDepth 100000 in
set_option maxHeartbeats 4000000 in
theorem pfail_any (w : World) (g : Nat) (ts : List Tk.Tok) (σ : Pa.Sg) (o E : Nat) (v : Int) (hv : v = (E : Int)) (hE : E ≠ 0) (hP : Pps w g ts σ o) :
    Calls Tryd.prog 64 #[.pointer (some ⟨g, 0, none⟩), .int .i64 v] w fun x w' => x = .returned (.tuple #[]) ∧ Pps w' g ts (Pa.fl σ E) o ∧ w.grownBy w' (some g) := by
  subst hv
  obtain ⟨b, c, hne, hbl, q0, q1, q2, q3, fr, hkm, ho, a0, a1, a2, ⟨v, a3⟩, hn⟩ := hP.cells
  have f3 := fr 3
  have HP := Lib.hid hP
  have HE := Lib.hid hE
  clear hP fr a0 a1 a2 a3 q0 q1 q2 hE
  cases σ with
  | at_ k =>
    have t0 : (((Pa.Sg.at_ k).e : Int) == 0) = true := rfl
    go_enter Tryd.func64, Tryd.ntmps64
    go_wp2
    exact bodyPost_end (results_none rfl _ _ _) rfl ⟨rfl, HP.out.fail E HE.out, grown_put _ _ _ _⟩
  | bad m e =>
    have he : e ≠ 0 := HP.out.err rfl
    have t0 : (((Pa.Sg.bad m e).e : Int) == 0) = false := bF (show ((e : Nat) : Int) ≠ 0 by omega)
    go_enter Tryd.func64, Tryd.ntmps64
    go_wp2
    exact bodyPost_end (results_none rfl _ _ _) rfl ⟨rfl, HP.out, grown_below (Below.refl _ _)⟩

set_option maxRecDepth 100000 in
set_option maxHeartbeats 4000000 in
theorem plimit_any (w : World) (g : Nat) (ts : List Tk.Tok) (σ : Pa.Sg) (o c most : Nat) (vc vm : Int) (hc : vc = (c : Int)) (hm : vm = (most : Int)) (hP : Pps w g ts σ o) :
    Calls Tryd.prog 60 #[.pointer (some ⟨g, 0, none⟩), .int .i64 vc, .int .i64 vm] w fun x w' => x = .returned (.tuple #[]) ∧ Pps w' g ts (Pa.lm σ c most) o ∧ w.grownBy w' (some g) := by
  subst hc hm
  have HP := Lib.hid hP
  clear hP
  by_cases h : most ≤ c
  · have HR : Hid (Pa.lm σ c most = Pa.fl σ 3) := if_pos h
    go_enter Tryd.func60, Tryd.ntmps60
    go_wp2_with fail
    refine (pfail_any w g ts σ o 3 3 rfl (by omega) HP.out).mono ?_
    rintro x w1 ⟨rfl, hP1, hG1⟩
    have HP1 := Lib.hid hP1
    have HG1 := Lib.hid hG1
    clear hP1 hG1
    go_wp2
    refine bodyPost_end (results_none rfl _ _ _) rfl ⟨rfl, ?_, HG1.out⟩
    rw [HR.out]
    exact HP1.out
  · have HR : Hid (Pa.lm σ c most = σ) := if_neg h
    go_enter Tryd.func60, Tryd.ntmps60
    go_wp2
    refine bodyPost_end (results_none rfl _ _ _) rfl ⟨rfl, ?_, grown_below (Below.refl _ _)⟩
    rw [HR.out]
    exact HP.out

set_option maxRecDepth 100000 in
set_option maxHeartbeats 4000000 in
theorem pseesKind_q (w : World) (g : Nat) (ts : List Tk.Tok) (σ : Pa.Sg) (o K : Nat) (v : Int) (hv : v = (K : Int)) (hP : Pps w g ts σ o) :
    Calls Tryd.prog 58 #[.pointer (some ⟨g, 0, none⟩), .int .i64 v] w fun x w' => x = .returned (.bool (Pa.kdS ts σ K)) ∧ w' = w.drew := by
  subst hv
  have hk := hP.inT
  obtain ⟨b, c, hne, hbl, q0, q1, q2, q3, fr, hkm, ho, a0, a1, a2, ⟨v, a3⟩, hn⟩ := hP.cells
  have hgl := hP.lt
  have HE := Lib.hid hP.err
  clear hP fr
  cases σ with
  | at_ k =>
    have t0 : (((Pa.Sg.at_ k).e : Int) == 0) = true := rfl
    have e1 : (Pa.Sg.at_ k).k = k := rfl
    rw [e1] at hk q1 hkm a0 a1 a2 a3
    have i0 : (0 : Int) ≤ (k : Int) := by omega
    have i1 : (k : Int) < (ts.length : Int) := by omega
    by_cases hK : Ps.kindAt ts k = K
    · have HS : Pa.kdS ts (.at_ k) K = true := by simp [Pa.kdS, hK]
      replace HS := Lib.hid HS
      have t1 := bT (show ((Ps.kindAt ts k : Nat) : Int) = (K : Int) by omega)
      clear hK e1
      generalize Ps.kindAt ts k = K' at *
      go_enter Tryd.func58, Tryd.ntmps58
      go_wp2
      go_region
      all_goals
        go_wp2
        go_ret
        rw [HS.out]
        exact ⟨rfl, rfl⟩
    · have HS : Pa.kdS ts (.at_ k) K = false := by simp [Pa.kdS, hK]
      replace HS := Lib.hid HS
      have t1 := bF (show ((Ps.kindAt ts k : Nat) : Int) ≠ (K : Int) by omega)
      clear hK e1
      generalize Ps.kindAt ts k = K' at *
      go_enter Tryd.func58, Tryd.ntmps58
      go_wp2
      go_region
      all_goals
        go_wp2
        go_ret
        rw [HS.out]
        exact ⟨rfl, rfl⟩
  | bad m e =>
    have he : e ≠ 0 := HE.out rfl
    have t0 : (((Pa.Sg.bad m e).e : Int) == 0) = false := bF (show ((e : Nat) : Int) ≠ 0 by omega)
    have HS : Hid (Pa.kdS ts (.bad m e) K = false) := rfl
    clear he
    go_enter Tryd.func58, Tryd.ntmps58
    go_wp2
    go_region
    all_goals
      go_wp2
      go_ret
      rw [HS.out]
      exact ⟨rfl, rfl⟩
theorem pseesKind_any (w : World) (g : Nat) (ts : List Tk.Tok) (σ : Pa.Sg) (o K : Nat) (v : Int) (hv : v = (K : Int)) (hP : Pps w g ts σ o) :
    Calls Tryd.prog 58 #[.pointer (some ⟨g, 0, none⟩), .int .i64 v] w fun x w' => x = .returned (.bool (Pa.kdS ts σ K)) ∧ Below w.heap.size w w' :=
  (pseesKind_q w g ts σ o K v hv hP).mono fun _ _ h => ⟨h.1, by rw [h.2]; exact (Below.refl _ _).drew⟩
end Go.Proofs.YtjjooekkieddbaaDoor

namespace Go.Proofs.YtjjooekkieddbaaDoor
open Go.RowKit

theorem quiet_drew {P : Program} {f : FuncId} {args : Array Value} {w : World} {n : Nat} {v : Value}
    (h : Calls P f args (w.drewN n) fun e w' => e = .returned v ∧ w' = (w.drewN n).drew) : Calls P f args (w.drewN n) fun e w'' => e = .returned v ∧ ∃ m, w'' = w.drewN m :=
  h.mono fun _ _ ⟨he, hm⟩ => ⟨he, n + 1, by rw [hm]; rfl⟩

set_option maxRecDepth 100000 in
set_option maxHeartbeats 4000000 in
theorem psees_any (w : World) (g : Nat) (ts : List Tk.Tok) (σ : Pa.Sg) (o : Nat) (s : List UInt8) (hP : Pps w g ts σ o) :
    Calls Tryd.prog 59 #[.pointer (some ⟨g, 0, none⟩), .string ⟨s.toArray⟩] w fun x w' => x = .returned (.bool (Pa.isS ts σ s)) ∧ Below w.heap.size w w' := by
  have hk := hP.inT
  obtain ⟨b, c, hne, hbl, q0, q1, q2, q3, fr, hkm, ho, a0, a1, a2, ⟨v, a3⟩, hn⟩ := hP.cells
  have hgl := hP.lt
  have i0 : (0 : Int) ≤ (σ.k : Int) := by omega
  have i1 : (σ.k : Int) < (ts.length : Int) := by omega
  have HSK : Hid (∀ n K v, v = ((K : Nat) : Int) → Calls Tryd.prog 58 #[.pointer (some ⟨g, 0, none⟩), .int .i64 v] (w.drewN n) fun x w' => x = .returned (.bool (Pa.kdS ts σ K)) ∧ w' = (w.drewN n).drew) := fun n K v hv => pseesKind_q (w.drewN n) g ts σ o K v hv (hP.later (below_drewN (Below.refl _ _) n))
  clear hP fr
  have HB : ∃ B, B = Pa.isS ts σ s := ⟨_, rfl⟩
  obtain ⟨B, hB⟩ := HB
  rw [← hB]
  have hkd : Pa.kdS ts σ (Pa.kd s) = false → B = false := by
    rw [hB]
    cases σ with
    | bad m e => intro _; rfl
    | at_ k => intro h; simp only [Pa.kdS, decide_eq_false_iff_not] at h; simp [Pa.isS, h]
  have hkt : Pa.kdS ts σ (Pa.kd s) = true → B = decide (Ps.textAt ts σ.k = s) := by
    rw [hB]
    cases σ with
    | bad m e => intro h; cases h
    | at_ k => intro h; simp only [Pa.kdS, decide_eq_true_eq] at h; by_cases hx : Ps.textAt ts k = s <;> simp [Pa.isS, h, Pa.Sg.k, hx]
  have HKD := Lib.hid hkd
  have HKT := Lib.hid hkt
  clear hkd hkt hB
  generalize Ps.textAt ts σ.k = T at *
  generalize Ps.kindAt ts σ.k = K1 at *
  generalize Ps.numAt ts σ.k = M1 at *
  by_cases hr : Tk.resv s = true
  · have hK : Pa.kd s = 3 := if_pos hr
    rw [hK] at HKD HKT
    have HQ := Lib.hid (fun n => HSK.out n 3 3 rfl)
    clear HSK hK
    cases hq : Pa.kdS ts σ 3 with
    | true =>
      rw [hq] at HQ
      have hT := HKT.out hq
      clear HKD HKT
      by_cases hTs : T = s
      · have t5 := str_eq_T hTs
        rw [decide_eq_true hTs] at hT
        have HT := Lib.hid hT
        clear hT hTs hq
        go_enter Tryd.func59, Tryd.ntmps59
        go_wp2_with fail
        refine (reserved_any s w).mono ?_
        rw [hr]
        rintro e w1 ⟨rfl, rfl⟩
        clear hr
        go_wp2_with fail
        go_quiet ((go_at_call 58; exact quiet_drew (HQ.out _)))
        go_wp2
        go_ret
        exact ⟨by rw [HT.out]; rfl, below_drewN (Below.refl _ _) _⟩
      · have t5 := str_eq_F hTs
        rw [decide_eq_false hTs] at hT
        have HT := Lib.hid hT
        clear hT hTs hq
        go_enter Tryd.func59, Tryd.ntmps59
        go_wp2_with fail
        refine (reserved_any s w).mono ?_
        rw [hr]
        rintro e w1 ⟨rfl, rfl⟩
        clear hr
        go_wp2_with fail
        go_quiet ((go_at_call 58; exact quiet_drew (HQ.out _)))
        go_wp2
        go_ret
        exact ⟨by rw [HT.out]; rfl, below_drewN (Below.refl _ _) _⟩
    | false =>
      rw [hq] at HQ
      have HT := Lib.hid (HKD.out hq)
      clear HKD HKT hq
      go_enter Tryd.func59, Tryd.ntmps59
      go_wp2_with fail
      refine (reserved_any s w).mono ?_
      rw [hr]
      rintro e w1 ⟨rfl, rfl⟩
      clear hr
      go_wp2_with fail
      go_quiet ((go_at_call 58; exact quiet_drew (HQ.out _)))
      go_wp2
      go_ret
      exact ⟨by rw [HT.out]; rfl, below_drewN (Below.refl _ _) _⟩
  · replace hr : Tk.resv s = false := by simpa using hr
    have hK : Pa.kd s = 4 := if_neg (by rw [hr]; decide)
    rw [hK] at HKD HKT
    have HQ := Lib.hid (fun n => HSK.out n 4 4 rfl)
    clear HSK hK
    cases hq : Pa.kdS ts σ 4 with
    | true =>
      rw [hq] at HQ
      have hT := HKT.out hq
      clear HKD HKT
      by_cases hTs : T = s
      · have t5 := str_eq_T hTs
        rw [decide_eq_true hTs] at hT
        have HT := Lib.hid hT
        clear hT hTs hq
        go_enter Tryd.func59, Tryd.ntmps59
        go_wp2_with fail
        refine (reserved_any s w).mono ?_
        rw [hr]
        rintro e w1 ⟨rfl, rfl⟩
        clear hr
        go_wp2_with fail
        go_quiet ((go_at_call 58; exact quiet_drew (HQ.out _)))
        go_wp2
        go_ret
        exact ⟨by rw [HT.out]; rfl, below_drewN (Below.refl _ _) _⟩
      · have t5 := str_eq_F hTs
        rw [decide_eq_false hTs] at hT
        have HT := Lib.hid hT
        clear hT hTs hq
        go_enter Tryd.func59, Tryd.ntmps59
        go_wp2_with fail
        refine (reserved_any s w).mono ?_
        rw [hr]
        rintro e w1 ⟨rfl, rfl⟩
        clear hr
        go_wp2_with fail
        go_quiet ((go_at_call 58; exact quiet_drew (HQ.out _)))
        go_wp2
        go_ret
        exact ⟨by rw [HT.out]; rfl, below_drewN (Below.refl _ _) _⟩
    | false =>
      rw [hq] at HQ
      have HT := Lib.hid (HKD.out hq)
      clear HKD HKT hq
      go_enter Tryd.func59, Tryd.ntmps59
      go_wp2_with fail
      refine (reserved_any s w).mono ?_
      rw [hr]
      rintro e w1 ⟨rfl, rfl⟩
      clear hr
      go_wp2_with fail
      go_quiet ((go_at_call 58; exact quiet_drew (HQ.out _)))
      go_wp2
      go_ret
      exact ⟨by rw [HT.out]; rfl, below_drewN (Below.refl _ _) _⟩

theorem kd_ne (s : List UInt8) : Pa.kd s ≠ 5 ∧ Pa.kd s ≠ 1 ∧ Pa.kd s ≠ 2 := by
  unfold Pa.kd
  split <;> decide
theorem isS_at {ts : List Tk.Tok} {σ : Pa.Sg} {s : List UInt8} (h : Pa.isS ts σ s = true) : ∃ k, σ = .at_ k ∧ Ps.kindAt ts k = Pa.kd s ∧ Ps.textAt ts k = s := by
  cases σ with
  | bad m e => cases h
  | at_ k =>
    simp only [Pa.isS, Bool.and_eq_true, decide_eq_true_eq] at h
    exact ⟨k, rfl, h.1, h.2⟩
theorem kdS_at {ts : List Tk.Tok} {σ : Pa.Sg} {K : Nat} (h : Pa.kdS ts σ K = true) : ∃ k, σ = .at_ k ∧ Ps.kindAt ts k = K := by
  cases σ with
  | bad m e => cases h
  | at_ k =>
    simp only [Pa.kdS, decide_eq_true_eq] at h
    exact ⟨k, rfl, h⟩

set_option maxRecDepth 100000 in
set_option maxHeartbeats 4000000 in
theorem paccept_any (w : World) (g : Nat) (ts : List Tk.Tok) (σ : Pa.Sg) (o : Nat) (s : List UInt8) (hP : Pps w g ts σ o) :
    Calls Tryd.prog 93 #[.pointer (some ⟨g, 0, none⟩), .string ⟨s.toArray⟩] w fun x w' => x = .returned (.bool (Pa.isS ts σ s)) ∧ Pps w' g ts (Pa.ac ts σ s) o ∧ w.grownBy w' (some g) := by
  have HP := Lib.hid hP
  clear hP
  go_enter Tryd.func93, Tryd.ntmps93
  go_wp2_with fail
  refine (psees_any w g ts σ o s HP.out).mono ?_
  rintro x w1 ⟨rfl, hb⟩
  have hP1 := HP.out.later hb
  have HB := Lib.hid hb
  clear hb
  cases hI : Pa.isS ts σ s with
  | true =>
    obtain ⟨k, rfl, hk1, -⟩ := isS_at hI
    have hk2 : k + 1 < ts.length := Ps.next_in hP1.last hP1.inT (by show Ps.kindAt ts k ≠ 5; rw [hk1]; exact (kd_ne s).1)
    obtain ⟨b, c, hne, hbl, q0, q1, q2, q3, fr, hkm, ho, a0, a1, a2, ⟨v, a3⟩, hn⟩ := hP1.cells
    have f1 := fr 1
    have e1 : (Pa.Sg.at_ k).k = k := rfl
    rw [e1] at q1 hkm
    have HP1 := Lib.hid hP1
    have HR : Hid (Pa.ac ts (.at_ k) s = .at_ (k + 1)) := by show _ = _; unfold Pa.ac; rw [if_pos hI]; rfl
    have HI := Lib.hid hI
    clear hP1 hI hk1 a0 a1 a2 a3 q0 q2 q3 fr e1
    go_wp2
    go_ret
    rw [HR.out, HI.out]
    exact ⟨rfl, HP1.out.next hk2, grown_trans (grown_below HB.out) (grown_put _ _ _ _)⟩
  | false =>
    have HP1 := Lib.hid hP1
    have HR : Hid (Pa.ac ts σ s = σ) := if_neg (by rw [hI]; decide)
    have HI := Lib.hid hI
    clear hP1 hI
    go_wp2
    go_ret
    rw [HR.out, HI.out]
    exact ⟨rfl, HP1.out, grown_below HB.out⟩

set_option maxRecDepth 100000 in
set_option maxHeartbeats 4000000 in
theorem pexpect_any (w : World) (g : Nat) (ts : List Tk.Tok) (σ : Pa.Sg) (o : Nat) (s : List UInt8) (hP : Pps w g ts σ o) :
    Calls Tryd.prog 91 #[.pointer (some ⟨g, 0, none⟩), .string ⟨s.toArray⟩] w fun x w' => x = .returned (.tuple #[]) ∧ Pps w' g ts (Pa.xp ts σ s) o ∧ w.grownBy w' (some g) := by
  have HP := Lib.hid hP
  clear hP
  go_enter Tryd.func91, Tryd.ntmps91
  go_wp2_with fail
  refine (paccept_any w g ts σ o s HP.out).mono ?_
  rintro x w1 ⟨rfl, hP1, hG1⟩
  have HP1 := Lib.hid hP1
  have HG1 := Lib.hid hG1
  clear hP1 hG1
  cases hI : Pa.isS ts σ s with
  | true =>
    have HR : Hid (Pa.xp ts σ s = Pa.ac ts σ s) := by show _ = _; unfold Pa.xp Pa.ac; rw [if_pos hI, if_pos hI]
    clear hI
    go_wp2
    refine bodyPost_end (results_none rfl _ _ _) rfl ⟨rfl, ?_, HG1.out⟩
    rw [HR.out]
    exact HP1.out
  | false =>
    have HR : Hid (Pa.xp ts σ s = Pa.fl σ 4) := if_neg (by rw [hI]; decide)
    have HA : Hid (Pa.ac ts σ s = σ) := if_neg (by rw [hI]; decide)
    rw [HA.out] at HP1
    clear hI
    go_wp2_with fail
    refine (pfail_any w1 g ts σ o 4 4 rfl (by omega) HP1.out).mono ?_
    rintro x w2 ⟨rfl, hP2, hG2⟩
    have HP2 := Lib.hid hP2
    have HG2 := Lib.hid hG2
    clear hP2 hG2
    go_wp2
    refine bodyPost_end (results_none rfl _ _ _) rfl ⟨rfl, ?_, grown_trans HG1.out HG2.out⟩
    rw [HR.out]
    exact HP2.out
end Go.Proofs.YtjjooekkieddbaaDoor

namespace Go.Proofs.YtjjooekkieddbaaDoor
open Go.RowKit

theorem Pps.drw {w : World} {g : Nat} {ts : List Tk.Tok} {σ : Pa.Sg} {o : Nat} (h : Pps w g ts σ o) : Pps w.drew g ts σ o := h.later (Below.refl _ _).drew
/-- the token that take returns -/
def tkT (ts : List Tk.Tok) (σ : Pa.Sg) (K : Nat) : List UInt8 := if Pa.kdS ts σ K = true then Ps.textAt ts σ.k else []
def tkN (ts : List Tk.Tok) (σ : Pa.Sg) (K : Nat) : Nat := if Pa.kdS ts σ K = true then Ps.numAt ts σ.k else 0
def TakeP (ts : List Tk.Tok) (σ : Pa.Sg) (K : Nat) (x : Ending) : Prop := ∃ kn ps : Int, x = .returned (.agg #[.int .i64 kn, .string ⟨(tkT ts σ K).toArray⟩, .int .i64 (tkN ts σ K : Int), .int .i64 ps])
theorem grown_alc {w w' : World} {r : Option Nat} (h : w.grownBy w' r) (ob : Obj) : w.grownBy (w'.alloc ob) r :=
  ⟨h.os, h.tape, h.output, Nat.le_trans h.size (by simp), fun i hi hr => (Below.heap_alloc w' ob i (Nat.lt_of_lt_of_le hi h.size)).trans (h.block i hi hr)⟩
theorem grown_drw {w w' : World} {r : Option Nat} (h : w.grownBy w' r) : w.grownBy w'.drew r := ⟨h.os, h.tape, h.output, h.size, h.block⟩
theorem grown_own {w w' : World} {g n : Nat} {u : Value} (h : w.grownBy w' (some g)) : w.grownBy (w'.setCell ⟨g, n, none⟩ u) (some g) := grown_trans h (grown_put w' g n u)

set_option maxRecDepth 100000 in
set_option maxHeartbeats 4000000 in
theorem ptake_any (w : World) (g : Nat) (ts : List Tk.Tok) (σ : Pa.Sg) (o K : Nat) (v : Int) (hv : v = (K : Int)) (hK5 : K ≠ 5) (hP : Pps w g ts σ o) :
    Calls Tryd.prog 113 #[.pointer (some ⟨g, 0, none⟩), .int .i64 v] w fun x w' => TakeP ts σ K x ∧ Pps w' g ts (Pa.tk ts σ K) o ∧ w.grownBy w' (some g) := by
  have HP := Lib.hid hP
  have hgw := hP.lt
  have HV := Lib.hid hv
  clear hP hv
  go_enter Tryd.func113, Tryd.ntmps113
  go_wp2_with fail
  refine (pseesKind_any _ g ts σ o K v HV.out (HP.out.alloc _)).mono ?_
  rintro x w1 ⟨rfl, hb⟩
  have hP1 := (HP.out.alloc _).later hb
  have hR := (hb.block w.heap.size (by simp)).trans (heap_alloc_new w _)
  obtain ⟨r0, r1, r2, r3, g0, g1, g2, g3, hrl⟩ := blk4 hR
  have HB : Hid (w.grownBy w1 (some g)) := grown_of_alloc (grown_below hb)
  have HRB := Lib.hid hR
  clear hb hR
  cases hI : Pa.kdS ts σ K with
  | true =>
    obtain ⟨k, rfl, hk1⟩ := kdS_at hI
    have hkl : k < ts.length := hP1.inT
    have hk2 : k + 1 < ts.length := Ps.next_in hP1.last hkl (by rw [hk1]; exact hK5)
    obtain ⟨b, c, hne, hbl, q0, q1, q2, q3, fr, hkm, ho, a0, a1, a2, ⟨v3, a3⟩, hn⟩ := hP1.cells
    have f1 := fr 1
    have e1 : (Pa.Sg.at_ k).k = k := rfl
    rw [e1] at q1 hkm a0 a1 a2 a3
    have HP1 := Lib.hid hP1
    have HR : Hid (Pa.tk ts (.at_ k) K = .at_ (k + 1)) := by show _ = _; unfold Pa.tk; rw [if_pos hI]; rfl
    have i0 : (0 : Int) ≤ (k : Int) := by omega
    have i1 : (k : Int) < (ts.length : Int) := by omega
    have HI := Lib.hid hI
    clear hP1 hI hk1 q2 q3 fr e1
    have al : ∀ ob off, (w1.alloc ob).cell? ⟨g, off, none⟩ = w1.cell? ⟨g, off, none⟩ := fun ob off => World.cell?_of_block (Below.heap_alloc w1 ob g HP1.out.lt)
    have bl : ∀ ob off, (w1.alloc ob).cell? ⟨b, off, none⟩ = w1.cell? ⟨b, off, none⟩ := fun ob off => World.cell?_of_block (Below.heap_alloc w1 ob b hbl)
    have rl : ∀ ob off, (w1.alloc ob).cell? ⟨w.heap.size, off, none⟩ = w1.cell? ⟨w.heap.size, off, none⟩ := fun ob off => World.cell?_of_block (Below.heap_alloc w1 ob _ hrl)
    have hgR : g ≠ w.heap.size := by omega
    have hgR' : w.heap.size ≠ g := by omega
    have fl : ∀ ob off, (w1.alloc ob).frozen? ⟨g, off, none⟩ = w1.frozen? ⟨g, off, none⟩ := fun ob off => World.frozen?_of_block (Below.heap_alloc w1 ob g HP1.out.lt)
    go_wp2
    go_region
    all_goals
      go_wp2
      refine bodyPost_ret (v := .agg #[.int .i64 (Ps.kindAt ts k : Int), .string ⟨(Ps.textAt ts k).toArray⟩, .int .i64 (Ps.numAt ts k : Int), .int .i64 v3]) (by simp [results, Tryd.results113, go_sem, r0, r1, r2, r3, rl]) rfl ⟨⟨_, _, by unfold tkT tkN; rw [if_pos HI.out, if_pos HI.out]; rfl⟩, ?_, ?_⟩
      · rw [HR.out]
        repeat (first | (with_reducible refine Pps.set ?_ hgw _) | (with_reducible refine Pps.alloc ?_ _) | (with_reducible refine Pps.drw ?_))
        first | exact HP1.out.next hk2 | exact (HP1.out.alloc _).next hk2 | exact (HP1.out.alloc _).drw.next hk2
      · repeat (first | (with_reducible refine grown_set ?_ (Nat.le_refl _) _) | (with_reducible refine grown_alc ?_ _) | (with_reducible refine grown_drw ?_) | (with_reducible refine grown_own ?_))
        exact HB.out
  | false =>
    have HP1 := Lib.hid hP1
    have HR : Hid (Pa.tk ts σ K = Pa.fl σ 4) := if_neg (by rw [hI]; decide)
    clear hP1
    have HI := Lib.hid hI
    clear hI
    go_wp2_with fail
    refine (pfail_any w1 g ts σ o 4 4 rfl (by omega) HP1.out).mono ?_
    rintro x w2 ⟨rfl, hP2, hG2⟩
    have HP2 := Lib.hid hP2
    have HG2 := Lib.hid (grown_trans HB.out hG2)
    obtain ⟨s0, s1, s2, s3, h0, h1, h2, h3, -⟩ := blk4 ((hG2.block w.heap.size hrl (fun e => by injection e with e; omega)).trans HRB.out)
    clear hP2 hG2 r0 r1 r2 r3 g0 g1 g2 g3
    go_wp2
    refine bodyPost_ret (v := .agg #[.int .i64 0, .string ⟨#[]⟩, .int .i64 0, .int .i64 0]) (by simp [results, Tryd.results113, go_sem, s0, s1, s2, s3]) rfl ⟨⟨0, 0, by unfold tkT tkN; rw [if_neg (by rw [HI.out]; decide), if_neg (by rw [HI.out]; decide)]; rfl⟩, ?_, ?_⟩
    · rw [HR.out]
      repeat (with_reducible refine Pps.set ?_ hgw _)
      exact HP2.out
    · repeat (with_reducible refine grown_set ?_ (Nat.le_refl _) _)
      exact HG2.out
set_option maxRecDepth 100000 in
set_option maxHeartbeats 4000000 in
theorem pname_any (w : World) (g : Nat) (ts : List Tk.Tok) (σ : Pa.Sg) (o : Nat) (hP : Pps w g ts σ o) :
    Calls Tryd.prog 92 #[.pointer (some ⟨g, 0, none⟩)] w fun x w' => x = .returned (.string ⟨(Pa.nmV ts σ).toArray⟩) ∧ Pps w' g ts (Pa.tk ts σ 1) o ∧ w.grownBy w' (some g) := by
  have HP := Lib.hid hP
  clear hP
  go_enter Tryd.func92, Tryd.ntmps92
  go_wp2_with fail
  refine (ptake_any w g ts σ o 1 1 rfl (by omega) HP.out).mono ?_
  rintro x w1 ⟨⟨kn, ps, rfl⟩, hP1, hG1⟩
  have HP1 := Lib.hid hP1
  have HG1 := Lib.hid hG1
  clear hP1 hG1
  have HT : Hid (Pa.nmV ts σ = tkT ts σ 1) := rfl
  have hfd : ∀ W : World, (Instr.field 71 (.agg #[.int .i64 kn, .string ⟨(tkT ts σ 1).toArray⟩, .int .i64 (tkN ts σ 1 : Int), .int .i64 ps]) 1).run Tryd.prog W = .ok (.string ⟨(tkT ts σ 1).toArray⟩) W := fun _ => by kernel_rfl
  go_wp2
  go_ret
  rw [HT.out]
  exact ⟨rfl, HP1.out, HG1.out⟩
set_option maxRecDepth 100000 in
set_option maxHeartbeats 4000000 in
theorem pnumber_any (w : World) (g : Nat) (ts : List Tk.Tok) (σ : Pa.Sg) (o : Nat) (hP : Pps w g ts σ o) :
    Calls Tryd.prog 94 #[.pointer (some ⟨g, 0, none⟩)] w fun x w' => x = .returned (.int .i64 (Pa.nuV ts σ : Int)) ∧ Pps w' g ts (Pa.tk ts σ 2) o ∧ w.grownBy w' (some g) := by
  have HP := Lib.hid hP
  clear hP
  go_enter Tryd.func94, Tryd.ntmps94
  go_wp2_with fail
  refine (ptake_any w g ts σ o 2 2 rfl (by omega) HP.out).mono ?_
  rintro x w1 ⟨⟨kn, ps, rfl⟩, hP1, hG1⟩
  have HP1 := Lib.hid hP1
  have HG1 := Lib.hid hG1
  clear hP1 hG1
  have HT : Hid (Pa.nuV ts σ = tkN ts σ 2) := rfl
  have hfd : ∀ W : World, (Instr.field 71 (.agg #[.int .i64 kn, .string ⟨(tkT ts σ 2).toArray⟩, .int .i64 (tkN ts σ 2 : Int), .int .i64 ps]) 2).run Tryd.prog W = .ok (.int .i64 (tkN ts σ 2 : Int)) W := fun _ => by kernel_rfl
  go_wp2
  go_ret
  rw [HT.out]
  exact ⟨rfl, HP1.out, HG1.out⟩
end Go.Proofs.YtjjooekkieddbaaDoor

namespace Go.Proofs.YtjjooekkieddbaaDoor
open Go.RowKit

/-- the table of signs lies below the parser -/
def SgG (w : World) (g : Nat) : Prop := SgT w ∧ (0 : Nat) < g
theorem SgG.grown {w w' : World} {g : Nat} (h : SgG w g) (hG : w.grownBy w' (some g)) : SgG w' g :=
  ⟨h.1.keep (hG.block _ h.1.lt (fun e => by have := h.2; injection e with e; omega)), h.2⟩
theorem SgG.later {w w' : World} {g : Nat} (h : SgG w g) (hb : Below w.heap.size w w') : SgG w' g := ⟨h.1.later hb, h.2⟩
/-- what expression leaves -/
def XprPost (w : World) (g : Nat) (ts : List Tk.Tok) (σ : Pa.Sg) (o : Nat) (e : Ending) (w' : World) : Prop :=
  ∃ f : EF, e = .returned f.val ∧ ExM w' (w.heap.size ≤ ·) (Pa.exX ts σ) f ∧ Pps w' g ts (Pa.exS ts σ) o ∧ w.grownBy w' (some g)
/-- what Parse leaves, field by field -/
def ParseX (W : World) (x : Ex) (k e : Nat) (en : Ending) (w' : World) : Prop :=
  ∃ op num name A n c, en = .returned (.tuple #[.agg #[.int .i64 op, .int .i64 num, .string ⟨name.toArray⟩, .slice A n c], .int .i64 (k : Int), .int .i64 (e : Int)]) ∧ ExM w' (W.heap.size ≤ ·) x ⟨op, num, name, A, n, c⟩ ∧ Below W.heap.size W w'
/-- behind the call of Parse: the expression lies in a block of its own -/
def XprMid (W1 : World) (x : Ex) (k e : Nat) (s3 s4 s5 : Value) (wc : World) : Prop :=
  ∃ (b : Nat) (f : EF), s3 = .pointer (some ⟨b, 0, none⟩) ∧ s4 = .int .i64 (k : Int) ∧ s5 = .int .i64 (e : Int) ∧ W1.heap.size ≤ b ∧ wc.heap[b]? = some (.cells #[.int .i64 f.op, .int .i64 f.num, .string ⟨f.name.toArray⟩, .slice f.A f.n f.c] 25 (0, 0)) ∧ ExM wc (W1.heap.size ≤ ·) x f ∧ Below W1.heap.size W1 wc
theorem blk_put4 {w : World} {X : Nat} {c0 c1 c2 c3 : Value} {t : TypeId} (h : w.heap[X]? = some (.cells #[c0, c1, c2, c3] t (0, 0))) (u0 u1 u2 u3 : Value) : (set4 w X u0 u1 u2 u3).heap[X]? = some (.cells #[u0, u1, u2, u3] t (0, 0)) := by
  unfold set4
  simp [World.setCell, Array.getElem?_modify]
  exact ⟨_, h, rfl⟩
theorem xm_one {W1 w' : World} {x : Ex} {k e : Nat} {f : EF} (hb : Below W1.drew.heap.size W1.drew w') (hM : ExM w' (W1.drew.heap.size ≤ ·) x f) :
    XprMid W1 x k e (.pointer (some ⟨w'.heap.size, 0, none⟩)) (.int .i64 (k : Int)) (.int .i64 (e : Int)) (w'.alloc (.cells #[.int .i64 f.op, .int .i64 f.num, .string ⟨f.name.toArray⟩, .slice f.A f.n f.c] 25)) :=
  ⟨w'.heap.size, f, rfl, rfl, rfl, hb.size, heap_alloc_new w' _, hM.keep fun b _ hl => Below.heap_alloc w' _ b hl, Below.alloc (a := W1) ⟨hb.os, hb.tape, hb.output, hb.size, hb.block⟩ hb.size _⟩
theorem xm_two {W1 w' : World} {x : Ex} {k e : Nat} {f : EF} {Z : Obj} {c0 c1 c2 c3 : Value} (hb : Below (W1.alloc Z).drew.heap.size (W1.alloc Z).drew w') (hM : ExM w' ((W1.alloc Z).drew.heap.size ≤ ·) x f) (hZ : w'.heap[W1.heap.size]? = some (.cells #[c0, c1, c2, c3] 25 (0, 0))) :
    XprMid W1 x k e (.pointer (some ⟨W1.heap.size, 0, none⟩)) (.int .i64 (k : Int)) (.int .i64 (e : Int)) (set4 w' W1.heap.size (.int .i64 f.op) (.int .i64 f.num) (.string ⟨f.name.toArray⟩) (.slice f.A f.n f.c)) := by
  have hs : (W1.alloc Z).drew.heap.size = W1.heap.size + 1 := by simp
  have h4 := set4_size w' W1.heap.size (.int .i64 f.op) (.int .i64 f.num) (.string ⟨f.name.toArray⟩) (.slice f.A f.n f.c)
  have hsz := hb.size
  refine ⟨W1.heap.size, f, rfl, rfl, rfl, Nat.le_refl _, blk_put4 hZ _ _ _ _, (hM.keep fun b hb' _ => set4_keep _ _ _ _ _ _ b (by omega)).more (fun b hb' => by omega), ?_⟩
  refine ⟨hb.os, hb.tape, hb.output, by omega, fun b hbb => (set4_keep _ _ _ _ _ _ b (by omega)).trans ((hb.block b (by omega)).trans (Below.heap_alloc W1 Z b hbb))⟩
theorem parseV_live (ts : List Tk.Tok) (k : Nat) (hk : k < ts.length) (h5 : Ps.kindAt ts (ts.length - 1) = 5) : parseV ts (k : Int) = (Pa.exX ts (.at_ k), ((Pa.exS ts (.at_ k)).k : Int), (Pa.exS ts (.at_ k)).e) := by
  unfold parseV
  rw [if_pos ⟨by omega, by omega, h5⟩, show ((k : Int)).toNat = k from rfl]
  unfold Pa.exX Pa.exS
  dsimp only
  cases Ps.PE ts 1 0 k with
  | ok x m => rfl
  | bad m e => rfl
theorem exS_in {ts : List Tk.Tok} {k : Nat} (hk : k < ts.length) (h5 : Ps.kindAt ts (ts.length - 1) = 5) : (Pa.exS ts (.at_ k)).k < ts.length ∧ ((Pa.exS ts (.at_ k)).live = false → (Pa.exS ts (.at_ k)).e ≠ 0) := by
  have h := Ps.PE_in h5 1 0 k hk (by omega)
  unfold Pa.exS
  dsimp only
  cases hR : Ps.PE ts 1 0 k with
  | ok x m => rw [hR] at h; exact ⟨h, fun e => by cases e⟩
  | bad m e =>
    rw [hR] at h
    refine ⟨h, fun _ => ?_⟩
    have := Ps.PE_err (by omega) hR
    show e ≠ 0
    omega
/-- the place and the error are put in -/
theorem Pps.put {w : World} {g : Nat} {ts : List Tk.Tok} {σ : Pa.Sg} {o : Nat} (h : Pps w g ts σ o) (τ : Pa.Sg) (hk : τ.k < ts.length) (he : τ.live = false → τ.e ≠ 0) : Pps ((w.setCell ⟨g, 1, none⟩ (.int .i64 (τ.k : Int))).setCell ⟨g, 3, none⟩ (.int .i64 (τ.e : Int))) g ts τ o := by
  refine h.mk' τ o hk h.oo he (fun A c hb => ?_) fun b hb => (Below.heap_setCell _ _ _ b (by simpa using hb)).trans (Below.heap_setCell _ _ _ b (by simpa using hb))
  simp [World.setCell, Array.getElem?_modify]
  exact ⟨_, hb, rfl⟩

set_option maxRecDepth 100000 in
set_option maxHeartbeats 4000000 in
theorem pexpr_any (w : World) (g : Nat) (ts : List Tk.Tok) (σ : Pa.Sg) (o : Nat) (hP : Pps w g ts σ o) (hS : SgG w g) :
    Calls Tryd.prog 128 #[.pointer (some ⟨g, 0, none⟩)] w (XprPost w g ts σ o) := by
  have HP := Lib.hid hP
  have HS := Lib.hid hS
  have hgw := hP.lt
  cases σ with
  | bad m e =>
    have he : e ≠ 0 := hP.err rfl
    obtain ⟨b, c, hne, hbl, q0, q1, q2, q3, fr, hkm, ho, a0, a1, a2, ⟨v3, a3⟩, hn⟩ := (hP.alloc (.cells #[.int .i64 0, .int .i64 0, .string ⟨#[]⟩, .slice none 0 0] 25)).cells
    have t0 : (((Pa.Sg.bad m e).e : Int) != 0) = true := nT (show ((e : Nat) : Int) ≠ 0 by omega)
    obtain ⟨r0, r1, r2, r3, g0, g1, g2, g3, hrl⟩ := blk4 (heap_alloc_new w (.cells #[.int .i64 0, .int .i64 0, .string ⟨#[]⟩, .slice none 0 0] 25))
    clear hP hS he fr a0 a1 a2 a3 q0 q1 q2
    go_enter Tryd.func128, Tryd.ntmps128
    go_wp2
    refine bodyPost_ret (v := .agg #[.int .i64 0, .int .i64 0, .string ⟨#[]⟩, .slice none 0 0]) (by simp [results, Tryd.results128, go_sem, r0, r1, r2, r3]) rfl ⟨⟨0, 0, [], none, 0, 0⟩, rfl, ExM.leaf _ _ _ _ _ _ _, ?_, ?_⟩
    · repeat (with_reducible refine Pps.set ?_ hgw _)
      exact HP.out.alloc _
    · repeat (with_reducible refine grown_set ?_ (Nat.le_refl _) _)
      exact grown_alc (grown_below (Below.refl _ _)) _
  | at_ k =>
    have hkl : k < ts.length := hP.inT
    have HPV := Lib.hid (parseV_live ts k hkl hP.last)
    have HIN := Lib.hid (exS_in hkl hP.last)
    obtain ⟨TA, tc, q0, hT⟩ := (hP.alloc (.cells #[.int .i64 0, .int .i64 0, .string ⟨#[]⟩, .slice none 0 0] 25)).toks
    obtain ⟨b, c, hne, hbl, -, q1, q2, q3, fr, hkm, ho, a0, a1, a2, ⟨v3, a3⟩, hn⟩ := (hP.alloc (.cells #[.int .i64 0, .int .i64 0, .string ⟨#[]⟩, .slice none 0 0] 25)).cells
    have e1 : (Pa.Sg.at_ k).k = k := rfl
    rw [e1] at q1
    have t0 : (((Pa.Sg.at_ k).e : Int) != 0) = false := rfl
    have HX := Lib.hid (heap_alloc_new w (.cells #[.int .i64 0, .int .i64 0, .string ⟨#[]⟩, .slice none 0 0] 25))
    have HA := Lib.hid (show Below w.heap.size w (w.alloc (.cells #[.int .i64 0, .int .i64 0, .string ⟨#[]⟩, .slice none 0 0] 25)) from (Below.refl _ _).alloc (Nat.le_refl _) _)
    have HPA : Hid (∀ W, Below (w.alloc (.cells #[.int .i64 0, .int .i64 0, .string ⟨#[]⟩, .slice none 0 0] 25)).heap.size (w.alloc (.cells #[.int .i64 0, .int .i64 0, .string ⟨#[]⟩, .slice none 0 0] 25)) W → Calls Tryd.prog 25 #[.slice TA ts.length tc, .int .i64 (k : Int)] W (ParseX W (Pa.exX ts (.at_ k)) (Pa.exS ts (.at_ k)).k (Pa.exS ts (.at_ k)).e)) := fun W hb => by
      have := parse_any ts TA tc (k : Int) W (hT.later hb) (hS.1.later (below_two HA.out hb)) hn (by omega)
      rw [HPV.out] at this
      exact this.mono fun e w' ⟨f, he, hM, hb⟩ => ⟨f.op, f.num, f.name, f.A, f.n, f.c, he, hM, hb⟩
    have HPW := Lib.hid (hP.alloc (.cells #[.int .i64 0, .int .i64 0, .string ⟨#[]⟩, .slice none 0 0] 25))
    clear hP hS fr a0 a1 a2 a3 q2 e1 hT hbl hne
    go_enter Tryd.func128, Tryd.ntmps128
    go_wp2
    generalize (w.alloc (.cells #[.int .i64 0, .int .i64 0, .string ⟨#[]⟩, .slice none 0 0] 25)) = W1 at *
    have hgW : g < W1.heap.size := by have := HA.out.size; omega
    go_upto_region 3 with fail
    go_cut [3, 4, 5] (fun s3 s4 s5 wc => XprMid W1 (Pa.exX ts (.at_ k)) (Pa.exS ts (.at_ k)).k (Pa.exS ts (.at_ k)).e s3 s4 s5 wc)
    case first =>
      have hn1 : W1.heap.size ≠ g := by omega
      have hn1' : g ≠ W1.heap.size := by omega
      go_region_held3 (fun w' => w'.cell? ⟨g, 0, none⟩ = some (.slice TA ts.length tc) ∧ w'.cell? ⟨g, 1, none⟩ = some (.int .i64 (k : Int)))
        (go_keep)
        (first
          | (go_at_call 25; obtain ⟨r0, r1⟩ := ‹_ ∧ World.cell? _ ⟨g, 1, none⟩ = _›; refine (HPA.out _ (by first | exact (Below.refl _ _).drew | exact ((Below.refl _ _).alloc (Nat.le_refl _) _).drew)).mono ?_; rintro e w' ⟨fo, fn, fname, fA, fl, fc, rfl, hM, hb⟩; have u0 := cell_later hb r0; have u1 := cell_later hb r1; (first | (have hz := (hb.block W1.heap.size (by simp)).trans (heap_alloc_new W1 (.cells #[.int .i64 0, .int .i64 0, .string ⟨#[]⟩, .slice none 0 0] 25)); obtain ⟨k0, k1, k2, k3, m0, m1, m2, m3, kl⟩ := blk4 hz; have HZ := Lib.hid hz; clear hz) | skip); have hn2 : w'.heap.size ≠ g := (by have := hb.size; simp at this; omega); have hn2' : g ≠ w'.heap.size := (by omega); have HB := Lib.hid hb; have HM := Lib.hid hM; clear r0 r1 hb hM))
      all_goals
        go_wp2_with fail
        go_meet
        first
          | exact xm_one (f := ⟨fo, fn, fname, fA, fl, fc⟩) HB.out HM.out
          | exact xm_two (f := ⟨fo, fn, fname, fA, fl, fc⟩) HB.out HM.out HZ.out
    case rest =>
      obtain ⟨b, f, rfl, rfl, rfl, hb1, hblk, hM, hB⟩ := hcut
      have hPc := HPW.out.later hB
      obtain ⟨b', c', -, -, -, p1, p2, p3, pr, -⟩ := hPc.cells
      have pf1 := pr 1
      have pf3 := pr 3
      obtain ⟨y0, y1, y2, y3, -, -, -, -, hbl⟩ := blk4 hblk
      have hR := (hB.block w.heap.size (lt_of_block HX.out)).trans HX.out
      obtain ⟨r0, r1, r2, r3, g0, g1, g2, g3, hrl⟩ := blk4 hR
      have HPC := Lib.hid hPc
      have HMC := Lib.hid hM
      have HBC := Lib.hid hB
      have hgb : g ≠ b := by omega
      have hgb' : b ≠ g := by omega
      have hgR : g ≠ w.heap.size := by omega
      have hgR' : w.heap.size ≠ g := by omega
      have hRl := lt_of_block HX.out
      have hRb : w.heap.size ≠ b := by omega
      have hRb' : b ≠ w.heap.size := by omega
      clear hPc hM hB hblk hR pr p2 HPA HPV
      obtain ⟨τ, hτ⟩ : ∃ τ, τ = Pa.exS ts (.at_ k) := ⟨_, rfl⟩
      have HTau := Lib.hid hτ
      rw [← hτ] at HIN ⊢
      clear hτ
      go_wp2
      refine bodyPost_ret (v := .agg #[.int .i64 f.op, .int .i64 f.num, .string ⟨f.name.toArray⟩, .slice f.A f.n f.c]) (by simp [results, Tryd.results128, go_sem, r0, r1, r2, r3]) rfl ⟨f, rfl, ?_, ?_, ?_⟩
      · exact (HMC.out.keep fun b hb _ => (set4_keep _ _ _ _ _ _ b (by omega)).trans ((Below.heap_setCell _ _ _ b (by show b ≠ g; omega)).trans (Below.heap_setCell _ _ _ b (by show b ≠ g; omega)))).more fun b hb => by omega
      · rw [← HTau.out]
        repeat (with_reducible refine Pps.set ?_ hgw _)
        exact HPC.out.put τ HIN.out.1 HIN.out.2
      · repeat (first | (with_reducible refine grown_set ?_ (Nat.le_refl _) _) | (with_reducible refine grown_own ?_))
        exact grown_below (below_two HA.out HBC.out)
end Go.Proofs.YtjjooekkieddbaaDoor

namespace Go.Proofs.YtjjooekkieddbaaDoor
open Go.RowKit

theorem blk2 {w : World} {b : Nat} {c0 c1 : Value} {t : TypeId} (h : w.heap[b]? = some (.cells #[c0, c1] t (0, 0))) :
    w.cell? ⟨b, 0, none⟩ = some c0 ∧ w.cell? ⟨b, 1, none⟩ = some c1 ∧ w.frozen? ⟨b, 0, none⟩ = false ∧ w.frozen? ⟨b, 1, none⟩ = false ∧ b < w.heap.size := by
  refine ⟨?_, ?_, ?_, ?_, lt_of_block h⟩
  · rw [cell_of_row w b 0 _ _ _ h]; rfl
  · rw [cell_of_row w b 1 _ _ _ h]; rfl
  · simp [World.frozen?, h]
  · simp [World.frozen?, h]
theorem kept_own {w w' : World} {g b : Nat} {ob : Obj} (hG : w.grownBy w' (some g)) (h : w.heap[b]? = some ob) (hne : b ≠ g) : w'.heap[b]? = some ob :=
  (hG.block b (lt_of_block h) (fun e => by injection e with e; exact hne e)).trans h
theorem blk2set1 {w : World} {X : Nat} {c0 c1 : Value} {t : TypeId} (u : Value) (h : w.heap[X]? = some (.cells #[c0, c1] t (0, 0))) : (w.setCell ⟨X, 1, none⟩ u).heap[X]? = some (.cells #[c0, u] t (0, 0)) := by
  simp [World.setCell, Array.getElem?_modify]; exact ⟨_, h, rfl⟩
/-- what reference leaves -/
def RefP (w : World) (g : Nat) (ts : List Tk.Tok) (σ : Pa.Sg) (o : Nat) (e : Ending) (w' : World) : Prop :=
  ∃ A n c, e = .returned (.agg #[.string ⟨(Pa.sRef ts σ).1.name.toArray⟩, .slice A n c]) ∧ IdxM w' (w.heap.size ≤ ·) (Pa.sRef ts σ).1.idx A n ∧ Pps w' g ts (Pa.sRef ts σ).2 o ∧ w.grownBy w' (some g)

set_option maxRecDepth 100000 in
set_option maxHeartbeats 4000000 in
theorem pref_any (w : World) (g : Nat) (ts : List Tk.Tok) (σ : Pa.Sg) (o : Nat) (hP : Pps w g ts σ o) (hS : SgG w g) :
    Calls Tryd.prog 131 #[.pointer (some ⟨g, 0, none⟩)] w (RefP w g ts σ o) := by
  have HP := Lib.hid hP
  have HS := Lib.hid hS
  have hgw := hP.lt
  have hgR : g ≠ w.heap.size := by omega
  have hgR' : w.heap.size ≠ g := by omega
  clear hP hS
  go_enter Tryd.func131, Tryd.ntmps131
  go_wp2_with fail
  refine (pname_any _ g ts σ o (HP.out.alloc _)).mono ?_
  rintro x w1 ⟨rfl, hP1, hG1⟩
  have HR1 := Lib.hid (kept_own hG1 (heap_alloc_new w _) hgR')
  have HP1 := Lib.hid hP1
  have HG1 := Lib.hid (grown_of_alloc hG1)
  have hl1 : w.heap.size < w1.heap.size := by have := hG1.size; simp at this; omega
  clear hP1 hG1
  have hgT : w1.heap.size ≠ g := by omega
  generalize hnm : Pa.nmV ts σ = nm at *
  have HNM := Lib.hid hnm
  clear hnm
  go_wp2_with fail
  refine (paccept_any _ g ts _ o [91] (HP1.out.alloc _)).mono ?_
  rintro x w2 ⟨rfl, hP2, hG2⟩
  have HR2 := Lib.hid (kept_own hG2 ((Below.heap_alloc w1 _ _ hl1).trans HR1.out) hgR')
  have HT2 := Lib.hid (kept_own hG2 (heap_alloc_new w1 _) hgT)
  have HP2 := Lib.hid hP2
  have HG2 := Lib.hid (grown_trans HG1.out (grown_of_alloc hG2))
  have hl2 : w1.heap.size < w2.heap.size := by have := hG2.size; simp at this; omega
  clear hP2 hG2
  cases hI : Pa.isS ts (Pa.tk ts σ 1) [91] with
  | true =>
    have HV : Hid (Pa.sRef ts σ = (⟨nm, some (Pa.exX ts (Pa.nx (Pa.tk ts σ 1)))⟩, Pa.xp ts (Pa.exS ts (Pa.nx (Pa.tk ts σ 1))) [93])) := by show _ = _; unfold Pa.sRef; rw [if_pos hI, HNM.out]
    have hac : Pa.ac ts (Pa.tk ts σ 1) [91] = Pa.nx (Pa.tk ts σ 1) := if_pos hI
    rw [hac] at HP2
    clear hac hI
    go_wp2_with fail
    refine (pexpr_any w2 g ts _ o HP2.out (HS.out.grown HG2.out)).mono ?_
    rintro x w3 ⟨f, rfl, hM3, hP3, hG3⟩
    unfold EF.val
    have HR3 := Lib.hid (kept_own hG3 HR2.out hgR')
    have HT3 := Lib.hid (kept_own hG3 HT2.out hgT)
    have HP3 := Lib.hid hP3
    have HM3 := Lib.hid hM3
    have HG3 := Lib.hid (grown_trans HG2.out hG3)
    have hl3 : w2.heap.size ≤ w3.heap.size := hG3.size
    clear hP3 hG3 hM3
    obtain ⟨t0, t1, tf0, tf1, htl⟩ := blk2 HT3.out
    go_wp2_with fail
    have hs3 : (w3.setCell ⟨w1.heap.size, 1, none⟩ (.slice (some ⟨w3.heap.size, 0, none⟩) 1 1)).heap.size = w3.heap.size := by simp [World.setCell]
    obtain ⟨W4, hW4⟩ : ∃ W, W = (w3.setCell ⟨w1.heap.size, 1, none⟩ (.slice (some ⟨w3.heap.size, 0, none⟩) 1 1)).alloc (.cells #[.int .i64 f.op, .int .i64 f.num, .string ⟨f.name.toArray⟩, .slice f.A f.n f.c] 25) := ⟨_, rfl⟩
    have hk4 : ∀ b, b < w3.heap.size → b ≠ w1.heap.size → W4.heap[b]? = w3.heap[b]? := fun b hb hn => by
      rw [hW4]
      exact (Below.heap_alloc _ _ b (by omega)).trans (Below.heap_setCell _ _ _ b hn)
    have HT4 : Hid (W4.heap[w1.heap.size]? = some (.cells #[.string ⟨nm.toArray⟩, .slice (some ⟨w3.heap.size, 0, none⟩) 1 1] 123 (0, 0))) := by
      rw [hW4]
      exact (Below.heap_alloc _ _ _ (by omega)).trans (blk2set1 _ HT3.out)
    have HR4 := Lib.hid ((hk4 w.heap.size (by omega) (by omega)).trans HR3.out)
    have HN4 : Hid (W4.heap[w3.heap.size]? = some (.cells #[.int .i64 f.op, .int .i64 f.num, .string ⟨f.name.toArray⟩, .slice f.A f.n f.c] 25 (0, 0))) := by
      have := heap_alloc_new (w3.setCell ⟨w1.heap.size, 1, none⟩ (.slice (some ⟨w3.heap.size, 0, none⟩) 1 1)) (.cells #[.int .i64 f.op, .int .i64 f.num, .string ⟨f.name.toArray⟩, .slice f.A f.n f.c] 25)
      rw [hs3] at this
      rw [hW4]
      exact this
    have HP4 : Hid (Pps W4 g ts (Pa.exS ts (Pa.nx (Pa.tk ts σ 1))) o) := by
      rw [hW4]
      exact (HP3.out.set (by show g < w1.heap.size; omega) _).alloc _
    have HM4 := Lib.hid (HM3.out.keep (w' := W4) fun b hb hl => hk4 b hl (by omega))
    have HG4 : Hid (w.grownBy W4 (some g)) := by
      rw [hW4]
      exact grown_alc (grown_set HG3.out (by show w.heap.size ≤ w1.heap.size; omega) _) _
    rw [← hW4]
    clear hW4 hk4 hs3 t0 t1 tf0 tf1
    refine (pexpect_any W4 g ts _ o [93] HP4.out).mono ?_
    rintro x w5 ⟨rfl, hP5, hG5⟩
    obtain ⟨t0, t1, -, -, -⟩ := blk2 (kept_own hG5 HT4.out hgT)
    obtain ⟨r0, r1, rf0, rf1, -⟩ := blk2 (kept_own hG5 HR4.out hgR')
    have HN5 := Lib.hid (kept_own hG5 HN4.out (by omega))
    have HM5 := Lib.hid (HM4.out.keep (w' := w5) fun b hb hl => hG5.block b hl (fun e => by injection e with e; omega))
    have HP5 := Lib.hid hP5
    have HG5 := Lib.hid (grown_trans HG4.out hG5)
    have hTR : w1.heap.size ≠ w.heap.size := by omega
    clear hP5 hG5
    go_wp2_with fail
    refine bodyPost_ret (v := .agg #[.string ⟨nm.toArray⟩, .slice (some ⟨w3.heap.size, 0, none⟩) 1 1]) (by simp [results, Tryd.results131, go_sem, r0, r1]) rfl ⟨some ⟨w3.heap.size, 0, none⟩, 1, 1, by rw [HV.out], ?_, ?_, ?_⟩
    · rw [HV.out]
      have hk : ∀ b, b ≠ w.heap.size → ((w5.setCell ⟨w.heap.size, 0, none⟩ (.string ⟨nm.toArray⟩)).setCell ⟨w.heap.size, 1, none⟩ (.slice (some ⟨w3.heap.size, 0, none⟩) 1 1)).heap[b]? = w5.heap[b]? := fun b hb => (Below.heap_setCell _ _ _ b hb).trans (Below.heap_setCell _ _ _ b hb)
      obtain ⟨n0, n1, n2, n3, -, -, -, -, -⟩ := blk4 ((hk w3.heap.size (by omega)).trans HN5.out)
      refine ⟨rfl, w3.heap.size, 0, f, rfl, by omega, ⟨n0, n1, n2, n3⟩, (HM5.out.keep fun b hb _ => hk b (by omega)).more fun b hb => by omega⟩
    · rw [HV.out]
      repeat (with_reducible refine Pps.set ?_ hgw _)
      exact HP5.out
    · repeat (with_reducible refine grown_set ?_ (Nat.le_refl _) _)
      exact HG5.out
  | false =>
    have HV : Hid (Pa.sRef ts σ = (⟨nm, none⟩, Pa.tk ts σ 1)) := by show _ = _; unfold Pa.sRef; rw [if_neg (by rw [hI]; decide), HNM.out]
    have hac : Pa.ac ts (Pa.tk ts σ 1) [91] = Pa.tk ts σ 1 := if_neg (by rw [hI]; decide)
    rw [hac] at HP2
    clear hac hI
    obtain ⟨t0, t1, -, -, -⟩ := blk2 HT2.out
    obtain ⟨r0, r1, rf0, rf1, -⟩ := blk2 HR2.out
    have hTR : w1.heap.size ≠ w.heap.size := by omega
    go_wp2_with fail
    refine bodyPost_ret (v := .agg #[.string ⟨nm.toArray⟩, .slice none 0 0]) (by simp [results, Tryd.results131, go_sem, r0, r1]) rfl ⟨none, 0, 0, by rw [HV.out], ?_, ?_, ?_⟩
    · rw [HV.out]
      rfl
    · rw [HV.out]
      repeat (with_reducible refine Pps.set ?_ hgw _)
      exact HP2.out
    · repeat (with_reducible refine grown_set ?_ (Nat.le_refl _) _)
      exact HG2.out
end Go.Proofs.YtjjooekkieddbaaDoor

namespace Go.Proofs.YtjjooekkieddbaaDoor
open Go.RowKit

theorem blk7 {w : World} {b : Nat} {c0 c1 c2 c3 c4 c5 c6 : Value} {t : TypeId} (h : w.heap[b]? = some (.cells #[c0, c1, c2, c3, c4, c5, c6] t (0, 0))) :
    w.cell? ⟨b, 0, none⟩ = some c0 ∧ w.cell? ⟨b, 1, none⟩ = some c1 ∧ w.cell? ⟨b, 2, none⟩ = some c2 ∧ w.cell? ⟨b, 3, none⟩ = some c3 ∧ w.cell? ⟨b, 4, none⟩ = some c4 ∧ w.cell? ⟨b, 5, none⟩ = some c5 ∧ w.cell? ⟨b, 6, none⟩ = some c6 ∧ (∀ j, w.frozen? ⟨b, j, none⟩ = false) ∧ b < w.heap.size := by
  refine ⟨?_, ?_, ?_, ?_, ?_, ?_, ?_, fun j => by simp [World.frozen?, h], lt_of_block h⟩
  · rw [cell_of_row w b 0 _ _ _ h]; rfl
  · rw [cell_of_row w b 1 _ _ _ h]; rfl
  · rw [cell_of_row w b 2 _ _ _ h]; rfl
  · rw [cell_of_row w b 3 _ _ _ h]; rfl
  · rw [cell_of_row w b 4 _ _ _ h]; rfl
  · rw [cell_of_row w b 5 _ _ _ h]; rfl
  · rw [cell_of_row w b 6 _ _ _ h]; rfl
theorem blk11 {w : World} {b : Nat} {c0 c1 c2 c3 c4 c5 c6 c7 c8 c9 c10 : Value} {t : TypeId} (h : w.heap[b]? = some (.cells #[c0, c1, c2, c3, c4, c5, c6, c7, c8, c9, c10] t (0, 0))) :
    w.cell? ⟨b, 0, none⟩ = some c0 ∧ w.cell? ⟨b, 1, none⟩ = some c1 ∧ w.cell? ⟨b, 2, none⟩ = some c2 ∧ w.cell? ⟨b, 3, none⟩ = some c3 ∧ w.cell? ⟨b, 4, none⟩ = some c4 ∧ w.cell? ⟨b, 5, none⟩ = some c5 ∧ w.cell? ⟨b, 6, none⟩ = some c6 ∧ w.cell? ⟨b, 7, none⟩ = some c7 ∧ w.cell? ⟨b, 8, none⟩ = some c8 ∧ w.cell? ⟨b, 9, none⟩ = some c9 ∧ w.cell? ⟨b, 10, none⟩ = some c10 ∧ (∀ j, w.frozen? ⟨b, j, none⟩ = false) ∧ b < w.heap.size := by
  refine ⟨?_, ?_, ?_, ?_, ?_, ?_, ?_, ?_, ?_, ?_, ?_, fun j => by simp [World.frozen?, h], lt_of_block h⟩
  · rw [cell_of_row w b 0 _ _ _ h]; rfl
  · rw [cell_of_row w b 1 _ _ _ h]; rfl
  · rw [cell_of_row w b 2 _ _ _ h]; rfl
  · rw [cell_of_row w b 3 _ _ _ h]; rfl
  · rw [cell_of_row w b 4 _ _ _ h]; rfl
  · rw [cell_of_row w b 5 _ _ _ h]; rfl
  · rw [cell_of_row w b 6 _ _ _ h]; rfl
  · rw [cell_of_row w b 7 _ _ _ h]; rfl
  · rw [cell_of_row w b 8 _ _ _ h]; rfl
  · rw [cell_of_row w b 9 _ _ _ h]; rfl
  · rw [cell_of_row w b 10 _ _ _ h]; rfl
/-- a world that differs in block r alone -/
def PutAt (r : Nat) (w w' : World) : Prop := w'.os = w.os ∧ w'.tape = w.tape ∧ w'.output = w.output ∧ w'.heap.size = w.heap.size ∧ ∀ b, b ≠ r → w'.heap[b]? = w.heap[b]?
theorem PutAt.refl (r : Nat) (w : World) : PutAt r w w := ⟨rfl, rfl, rfl, rfl, fun _ _ => rfl⟩
theorem PutAt.set {r : Nat} {w w' : World} (h : PutAt r w w') (n : Nat) (u : Value) : PutAt r w (w'.setCell ⟨r, n, none⟩ u) :=
  ⟨h.1, h.2.1, h.2.2.1, by rw [← h.2.2.2.1]; simp [World.setCell], fun b hb => (Below.heap_setCell w' _ _ b hb).trans (h.2.2.2.2 b hb)⟩
theorem Pps.putAt {w w' : World} {g r : Nat} {ts : List Tk.Tok} {σ : Pa.Sg} {o : Nat} (h : Pps w g ts σ o) (hp : PutAt r w w') (hr : g < r) : Pps w' g ts σ o := h.keep fun b hb => hp.2.2.2.2 b (by omega)
theorem grown_putAt {w w1 w2 : World} {r : Nat} {x : Option Nat} (h : w.grownBy w1 x) (hp : PutAt r w1 w2) (hr : w.heap.size ≤ r) : w.grownBy w2 x :=
  ⟨hp.1.trans h.os, hp.2.1.trans h.tape, hp.2.2.1.trans h.output, by have := h.size; have := hp.2.2.2.1; omega, fun b hb hx => (hp.2.2.2.2 b (by omega)).trans (h.block b hb hx)⟩
theorem ExM.putAt {w w' : World} {r N : Nat} {E : Ex} {f : EF} (h : ExM w (N ≤ ·) E f) (hp : PutAt r w w') (hr : r < N) : ExM w' (N ≤ ·) E f := h.keep fun b hb _ => hp.2.2.2.2 b (by omega)
theorem IdxM.putAt {w w' : World} {r N : Nat} {E : Option Ex} {A : Option Addr} {n : Nat} (h : IdxM w (N ≤ ·) E A n) (hp : PutAt r w w') (hr : r < N) : IdxM w' (N ≤ ·) E A n := h.keep fun b hb _ => hp.2.2.2.2 b (by omega)
theorem IdxM.more {w : World} {S S' : Nat → Prop} {E : Option Ex} {A : Option Addr} {n : Nat} (h : IdxM w S E A n) (hs : ∀ b, S b → S' b) : IdxM w S' E A n := by
  cases E with
  | none => exact h
  | some E =>
    obtain ⟨hn, b, off, f, e, hb, hat, hM⟩ := h
    exact ⟨hn, b, off, f, e, hs b hb, hat, hM.more hs⟩
/-- what argument leaves -/
def ArgP (w : World) (g : Nat) (ts : List Tk.Tok) (σ : Pa.Sg) (o : Nat) (e : Ending) (w' : World) : Prop :=
  ∃ A n c f, e = .returned (.agg #[.bool (Pa.sArg ts σ).1.m, .string ⟨(Pa.sArg ts σ).1.r.name.toArray⟩, .slice A n c, .int .i64 (f : EF).op, .int .i64 f.num, .string ⟨f.name.toArray⟩, .slice f.A f.n f.c]) ∧
    IdxM w' (w.heap.size ≤ ·) (Pa.sArg ts σ).1.r.idx A n ∧ ExM w' (w.heap.size ≤ ·) (Pa.sArg ts σ).1.e f ∧ Pps w' g ts (Pa.sArg ts σ).2 o ∧ w.grownBy w' (some g)

set_option maxRecDepth 100000 in
set_option maxHeartbeats 4000000 in
theorem parg_any (w : World) (g : Nat) (ts : List Tk.Tok) (σ : Pa.Sg) (o : Nat) (i : Int) (hP : Pps w g ts σ o) (hS : SgG w g) :
    Calls Tryd.prog 130 #[.pointer (some ⟨g, 0, none⟩), .int .i64 i] w (ArgP w g ts σ o) := by
  have HP := Lib.hid hP
  have HS := Lib.hid hS
  have hgw := hP.lt
  have hgR' : w.heap.size ≠ g := by omega
  clear hP hS
  go_enter Tryd.func130, Tryd.ntmps130
  go_wp2_with fail
  refine (paccept_any _ g ts σ o [109, 117, 116, 101, 120] (HP.out.alloc _)).mono ?_
  rintro x w1 ⟨rfl, hP1, hG1⟩
  have HR1 := Lib.hid (kept_own hG1 (heap_alloc_new w _) hgR')
  have HP1 := Lib.hid hP1
  have HG1 := Lib.hid (grown_of_alloc hG1)
  have hl1 : w.heap.size < w1.heap.size := by have := hG1.size; simp at this; omega
  clear hP1 hG1
  cases hI : Pa.isS ts σ [109, 117, 116, 101, 120] with
  | true =>
    have HV : Hid (Pa.sArg ts σ = (⟨true, (Pa.sRef ts (Pa.nx σ)).1, noEx⟩, (Pa.sRef ts (Pa.nx σ)).2)) := if_pos hI
    have hac : Pa.ac ts σ [109, 117, 116, 101, 120] = Pa.nx σ := if_pos hI
    rw [hac] at HP1
    clear hac hI
    go_wp2_with fail
    refine (pref_any w1 g ts _ o HP1.out (HS.out.grown HG1.out)).mono ?_
    rintro x w2 ⟨A, n, c, rfl, hX2, hP2, hG2⟩
    obtain ⟨r0, r1, r2, r3, r4, r5, r6, rf, -⟩ := blk7 (kept_own hG2 HR1.out hgR')
    have f0 := rf 0
    have f1 := rf 1
    have f2 := rf 2
    have f3 := rf 3
    have f4 := rf 4
    have f5 := rf 5
    have f6 := rf 6
    have HX2 := Lib.hid hX2
    have HP2 := Lib.hid hP2
    have HG2 := Lib.hid (grown_trans HG1.out hG2)
    clear hX2 hP2 hG2 rf
    generalize hr : (Pa.sRef ts (Pa.nx σ)).1 = r at *
    clear hr
    go_wp2_with fail
    have hq : PutAt w.heap.size w2 _ := (((((((PutAt.refl w.heap.size w2).set 0 (.bool true)).set 1 (.string ⟨r.name.toArray⟩)).set 2 (.slice A n c)).set 3 (.int .i64 0)).set 4 (.int .i64 0)).set 5 (.string ⟨#[]⟩)).set 6 (.slice none 0 0)
    refine bodyPost_ret (v := .agg #[.bool true, .string ⟨r.name.toArray⟩, .slice A n c, .int .i64 0, .int .i64 0, .string ⟨#[]⟩, .slice none 0 0]) (by simp [results, Tryd.results130, go_sem, r0, r1, r2, r3, r4, r5, r6]) rfl ⟨A, n, c, ⟨0, 0, [], none, 0, 0⟩, by rw [HV.out], ?_, ?_, ?_, ?_⟩
    · rw [HV.out]
      exact (HX2.out.putAt hq hl1).more fun b hb => by omega
    · rw [HV.out]
      exact ExM.leaf _ _ _ _ _ _ _
    · rw [HV.out]
      exact HP2.out.putAt hq hgw
    · exact grown_putAt HG2.out hq (Nat.le_refl _)
  | false =>
    have HV : Hid (Pa.sArg ts σ = (⟨false, noRf, Pa.exX ts σ⟩, Pa.exS ts σ)) := if_neg (by rw [hI]; decide)
    have hac : Pa.ac ts σ [109, 117, 116, 101, 120] = σ := if_neg (by rw [hI]; decide)
    rw [hac] at HP1
    clear hac hI
    go_wp2_with fail
    refine (pexpr_any w1 g ts _ o HP1.out (HS.out.grown HG1.out)).mono ?_
    rintro x w2 ⟨f, rfl, hX2, hP2, hG2⟩
    unfold EF.val
    obtain ⟨r0, r1, r2, r3, r4, r5, r6, rf, -⟩ := blk7 (kept_own hG2 HR1.out hgR')
    have f0 := rf 0
    have f1 := rf 1
    have f2 := rf 2
    have f3 := rf 3
    have f4 := rf 4
    have f5 := rf 5
    have f6 := rf 6
    have HX2 := Lib.hid hX2
    have HP2 := Lib.hid hP2
    have HG2 := Lib.hid (grown_trans HG1.out hG2)
    clear hX2 hP2 hG2 rf
    go_wp2_with fail
    have hq : PutAt w.heap.size w2 _ := (((((((PutAt.refl w.heap.size w2).set 0 (.bool false)).set 1 (.string ⟨#[]⟩)).set 2 (.slice none 0 0)).set 3 (.int .i64 f.op)).set 4 (.int .i64 f.num)).set 5 (.string ⟨f.name.toArray⟩)).set 6 (.slice f.A f.n f.c)
    refine bodyPost_ret (v := .agg #[.bool false, .string ⟨#[]⟩, .slice none 0 0, .int .i64 f.op, .int .i64 f.num, .string ⟨f.name.toArray⟩, .slice f.A f.n f.c]) (by simp [results, Tryd.results130, go_sem, r0, r1, r2, r3, r4, r5, r6]) rfl ⟨none, 0, 0, f, by rw [HV.out]; rfl, ?_, ?_, ?_, ?_⟩
    · rw [HV.out]
      rfl
    · rw [HV.out]
      exact (HX2.out.putAt hq hl1).more fun b hb => by omega
    · rw [HV.out]
      exact HP2.out.putAt hq hgw
    · exact grown_putAt HG2.out hq (Nat.le_refl _)
end Go.Proofs.YtjjooekkieddbaaDoor

namespace Go.Proofs.YtjjooekkieddbaaDoor
open Go.RowKit

/-- a kind of elements: their cells, and what it means that the memory holds what they lead to -/
structure RowK (α : Type) where
  cl : α → List Value
  sz : Nat
  hsz : ∀ a, (cl a).length = sz
  one : ∀ a u, u ∈ cl a → u.oneCell' = true
  In : World → (Nat → Prop) → α → Prop
  keep : ∀ {w w' : World} {S : Nat → Prop} {a : α}, In w S a → (∀ b, S b → b < w.heap.size → w'.heap[b]? = w.heap[b]?) → In w' S a
  more : ∀ {w : World} {S S' : Nat → Prop} {a : α}, In w S a → (∀ b, S b → b < w.heap.size → S' b) → In w S' a
variable {α : Type}
def RowK.cs (K : RowK α) (P : List α) : List Value := P.flatMap K.cl
theorem RowK.cs_len (K : RowK α) (P : List α) : (K.cs P).length = P.length * K.sz := by
  induction P with
  | nil => simp [RowK.cs]
  | cons a r ih =>
    unfold RowK.cs at ih ⊢
    rw [List.flatMap_cons, List.length_append, ih, K.hsz, List.length_cons, Nat.succ_mul]
    omega
theorem RowK.cs_snoc (K : RowK α) (P : List α) (a : α) : K.cs (P ++ [a]) = K.cs P ++ K.cl a := by simp [RowK.cs, List.flatMap_append]
theorem RowK.cs_at (K : RowK α) (P : List α) (i j : Nat) (hi : i < P.length) (hj : j < K.sz) : (K.cs P)[i * K.sz + j]? = (K.cl P[i])[j]? := by
  induction P generalizing i with
  | nil => simp at hi
  | cons a r ih =>
    unfold RowK.cs at ih ⊢
    rw [List.flatMap_cons]
    cases i with
    | zero => rw [Nat.zero_mul, Nat.zero_add, List.getElem?_append_left (by rw [K.hsz]; exact hj)]; rfl
    | succ i =>
      rw [List.getElem?_append_right (by rw [K.hsz, Nat.succ_mul]; omega), K.hsz, Nat.succ_mul]
      have := ih i (by simpa using hi)
      rw [show i * K.sz + K.sz + j - K.sz = i * K.sz + j by omega, this]
      rfl
/-- v is a slice of the call's own (from block B on) with the elements P -/
def OwnR (K : RowK α) (t : TypeId) (w : World) (B : Nat) (v : Value) (P : List α) : Prop :=
  w.ownsRow B t K.sz v P.length (K.cs P) ∧ ∀ p ∈ P, K.In w (fun b => B ≤ b ∧ some b ≠ v.ownBlock) p
theorem OwnR.nil (K : RowK α) (t : TypeId) (w : World) (B : Nat) : OwnR K t w B (.slice none 0 0) [] := ⟨World.ownsRow_nil _ _ _ _, fun p h => absurd h (by simp)⟩
theorem OwnR.form {K : RowK α} {t : TypeId} {w : World} {B : Nat} {v : Value} {P : List α} (h : OwnR K t w B v P) : ∃ A c, v = .slice A P.length c := owns_form h.1
/-- other blocks may change -/
theorem OwnR.keep {K : RowK α} {t : TypeId} {w w' : World} {B : Nat} {v : Value} {P : List α} (h : OwnR K t w B v P) (_hs : w.heap.size ≤ w'.heap.size) (hk : ∀ b, B ≤ b → b < w.heap.size → w'.heap[b]? = w.heap[b]?) : OwnR K t w' B v P := by
  refine ⟨⟨h.1.1, ?_⟩, fun p hp => K.keep (h.2 p hp) fun b hb hl => hk b hb.1 hl⟩
  rcases h.1.2 with h0 | ⟨g, cap, cur, e, hg, hb, r⟩
  · exact .inl h0
  · exact .inr ⟨g, cap, cur, e, hg, (hk g hg (lt_of_block hb)).trans hb, r⟩
theorem OwnR.grown {K : RowK α} {t : TypeId} {w w' : World} {B g : Nat} {v : Value} {P : List α} (h : OwnR K t w B v P) (hG : w.grownBy w' (some g)) (hg : g < B) : OwnR K t w' B v P :=
  h.keep hG.size fun b hb hl => hG.block b hl (fun e => by injection e with e; omega)
theorem OwnR.alloc {K : RowK α} {t : TypeId} {w : World} {B : Nat} {v : Value} {P : List α} (h : OwnR K t w B v P) (o : Obj) : OwnR K t (w.alloc o) B v P :=
  h.keep (by simp) fun b _ hl => Below.heap_alloc w o b hl
/-- one element more -/
theorem OwnR.snoc {K : RowK α} {t : TypeId} {w w' : World} {B : Nat} {v v' : Value} {P : List α} {a : α} (h : OwnR K t w B v P) (ha : K.In w (fun b => B ≤ b ∧ some b ≠ v.ownBlock) a)
    (ho : w'.ownsRow B t K.sz v' (P.length + 1) (K.cs P ++ K.cl a)) (hg : w.grownBy w' v.ownBlock) (hv : v'.ownBlock = v.ownBlock ∨ ∃ k, v'.ownBlock = some k ∧ w.heap.size ≤ k) : OwnR K t w' B v' (P ++ [a]) := by
  have hin : ∀ p, K.In w (fun b => B ≤ b ∧ some b ≠ v.ownBlock) p → K.In w' (fun b => B ≤ b ∧ some b ≠ v'.ownBlock) p := fun p hp => by
    have h1 : K.In w' (fun b => (B ≤ b ∧ some b ≠ v.ownBlock) ∧ b < w.heap.size) p := K.keep (K.more hp (fun b hb hl => ⟨hb, hl⟩)) fun b hb hl => hg.block b hl hb.1.2
    refine K.more h1 fun b hb _ => ⟨hb.1.1, ?_⟩
    rcases hv with e | ⟨k, e, hk⟩
    · rw [e]; exact hb.1.2
    · rw [e]
      intro e2
      injection e2 with e2
      have := hb.2
      omega
  refine ⟨?_, fun p hp => ?_⟩
  · rw [K.cs_snoc, List.length_append]
    exact ho
  · rcases List.mem_append.1 hp with h1 | h1
    · exact hin p (h.2 p h1)
    · rw [List.mem_singleton.1 h1]
      exact hin a ha
/-- what lies in new blocks -/
theorem RowK.fresh (K : RowK α) {w : World} {N B : Nat} {v : Value} {t : TypeId} {P : List α} {a : α} {w0 : World} (hi : K.In w (N ≤ ·) a) (h0 : OwnR K t w0 B v P) (hN : w0.heap.size ≤ N) (hB : B ≤ N) : K.In w (fun b => B ≤ b ∧ some b ≠ v.ownBlock) a :=
  K.more hi fun b hb _ => ⟨by omega, fun e => by have := (h0.1.lt b e.symm).2; omega⟩
theorem lies_own {v : Value} {g n c : Nat} {w : World} (h : v.ownBlock = some g ∨ g = w.heap.size) : (Value.slice (some ⟨g, 0, none⟩) n c).ownBlock = v.ownBlock ∨ ∃ k, (Value.slice (some ⟨g, 0, none⟩) n c).ownBlock = some k ∧ w.heap.size ≤ k := by
  rcases h with h | h
  · exact .inl h.symm
  · exact .inr ⟨g, rfl, by omega⟩

theorem ExM.low' {w : World} {S : Nat → Prop} {E : Ex} {f : EF} (h : ExM w S E f) : ExM w (fun b => S b ∧ b < w.heap.size) E f := by
  induction h with
  | mk op num name args A c F hc hs ih =>
    refine .mk op num name args A c F (fun i hi => ?_) ih
    obtain ⟨b, off, e, hb, hat⟩ := hc i hi
    exact ⟨b, off, e, ⟨hb, hat.lt⟩, hat⟩
/-- arguments -/
structure ArG where
  A : Option Addr
  n : Nat
  c : Nat
  f : EF
def arK : RowK (Ar × ArG) where
  cl := fun p => [.bool p.1.m, .string ⟨p.1.r.name.toArray⟩, .slice p.2.A p.2.n p.2.c, .int .i64 p.2.f.op, .int .i64 p.2.f.num, .string ⟨p.2.f.name.toArray⟩, .slice p.2.f.A p.2.f.n p.2.f.c]
  sz := 7
  hsz := fun _ => rfl
  one := fun p u hu => by
    simp at hu
    rcases hu with rfl | rfl | rfl | rfl | rfl | rfl | rfl <;> rfl
  In := fun w S p => IdxM w S p.1.r.idx p.2.A p.2.n ∧ ExM w S p.1.e p.2.f
  keep := fun h hk => ⟨h.1.keep hk, h.2.keep hk⟩
  more := fun {w S S' a} h hs => by
    refine ⟨?_, ?_⟩
    · have h1 := h.1
      cases hx : a.1.r.idx with
      | none => rw [hx] at h1; exact h1
      | some E =>
        rw [hx] at h1
        obtain ⟨hn, b, off, f, e, hb, hat, hM⟩ := h1
        exact ⟨hn, b, off, f, e, hs b hb hat.lt, hat, (hM.low' ).more fun b hb => hs b hb.1 hb.2⟩
    · exact h.2.low'.more fun b hb => hs b hb.1 hb.2
theorem arsM_of_own {t : TypeId} {w : World} {B n c : Nat} {A : Option Addr} {P : List (Ar × ArG)} (h : OwnR arK t w B (.slice A n c) P) : ArsM w (B ≤ ·) (P.map (·.1)) A := by
  intro i hi
  have hi' : i < P.length := by simpa using hi
  obtain ⟨A', c', e⟩ := h.form
  simp only [Value.slice.injEq] at e
  obtain ⟨-, rfl, rfl⟩ := e
  obtain ⟨g, hA, hg⟩ : ∃ g, A = some ⟨g, 0, none⟩ ∧ B ≤ g := by
    rcases h.1.2 with ⟨_, h0⟩ | ⟨g, cap', cur, e, hg, _⟩
    · omega
    · simp only [Value.slice.injEq] at e
      exact ⟨g, e.1, hg⟩
  subst hA
  have q : ∀ j, j < 7 → w.cell? ⟨g, i * 7 + j, none⟩ = (arK.cl P[i])[j]? := fun j hj => (World.ownsRow.cellAt h.1 _ (by show i * 7 + j < P.length * 7; omega)).trans (arK.cs_at P i j hi' hj)
  have hin := h.2 P[i] (List.getElem_mem hi')
  simp only [List.getElem_map]
  refine ⟨g, 0, rfl, hg, P[i].2.A, P[i].2.n, P[i].2.c, P[i].2.f, ?_, ?_, ?_, hin.1.more fun b hb => hb.1, ⟨?_, ?_, ?_, ?_⟩, hin.2.more fun b hb => hb.1⟩
  · rw [Nat.zero_add]; exact q 0 (by omega)
  · rw [Nat.zero_add]; exact q 1 (by omega)
  · rw [Nat.zero_add]; exact q 2 (by omega)
  · rw [Nat.zero_add]; exact q 3 (by omega)
  · rw [Nat.zero_add]; exact q 4 (by omega)
  · rw [Nat.zero_add]; exact q 5 (by omega)
  · rw [Nat.zero_add]; exact q 6 (by omega)
theorem Tryd.infoArg : (Tryd.prog.info? 131).map (fun i => (i.zero, i.size, i.bytes)) = some (some (.agg #[.bool false, .string ⟨#[]⟩, .slice none 0 0, .int .i64 0, .int .i64 0, .string ⟨#[]⟩, .slice none 0 0]), 7, 104) := by kernel_rfl
end Go.Proofs.YtjjooekkieddbaaDoor

namespace Go.Proofs.YtjjooekkieddbaaDoor
open Go.RowKit

/-- what list leaves for arguments -/
def ArgsP (w : World) (g : Nat) (ts : List Tk.Tok) (σ : Pa.Sg) (o : Nat) (e : Ending) (w' : World) : Prop :=
  ∃ A c, e = .returned (.slice A (Pa.sArgs ts σ).1.length c) ∧ ArsM w' (w.heap.size ≤ ·) (Pa.sArgs ts σ).1 A ∧ Pps w' g ts (Pa.sArgs ts σ).2 o ∧ w.grownBy w' (some g)
theorem news_any (W : World) (g : Nat) (hg : g = W.heap.size) (cs : List Value) (t : TypeId) (j : Nat) (u : Value) (hj : cs[j]? = some u) : (W.alloc (.cells cs.toArray t)).cell? ((⟨g, 0, none⟩ : Addr).add j) = some u := by
  subst hg
  rw [Go.WideShapes.add_plain, Nat.zero_add, World.cell?_alloc_mark]
  simpa using hj
theorem lies_at {v : Value} {g n c H : Nat} {w : World} (h : v.ownBlock = some g ∨ g = H) (hH : w.heap.size = H) : (Value.slice (some ⟨g, 0, none⟩) n c).ownBlock = v.ownBlock ∨ ∃ k, (Value.slice (some ⟨g, 0, none⟩) n c).ownBlock = some k ∧ w.heap.size ≤ k :=
  lies_own (by rw [hH]; exact h)
/-- the list's loop -/
def ArgsL (w : World) (g : Nat) (ts : List Tk.Tok) (R : List Ar × Pa.Sg) (o f : Nat) (v : Value) (wr : World) : Prop :=
  ∃ (P : List (Ar × ArG)) (τ : Pa.Sg), OwnR arK 131 wr w.heap.size v P ∧ Pps wr g ts τ o ∧ w.grownBy wr (some g) ∧ P.length ≤ 1000000 ∧ (τ.live = true → P.length ≤ τ.k ∧ ts.length ≤ f + τ.k) ∧
    (if Pa.isS ts τ [44] = true then Pa.sArgL ts f (Pa.nx τ) (P.map (·.1)) else (P.map (·.1), Pa.xp ts τ [41])) = R

set_option maxRecDepth 100000 in
set_option maxHeartbeats 4000000 in
theorem pargs_any (w : World) (g : Nat) (ts : List Tk.Tok) (σ : Pa.Sg) (o : Nat) (hP : Pps w g ts σ o) (hS : SgG w g) :
    Calls Tryd.prog 129 #[.pointer (some ⟨g, 0, none⟩), .func (.func 130) #[.pointer (some ⟨g, 0, none⟩)] #[]] w (ArgsP w g ts σ o) := by
  obtain ⟨i0, hi, hz0, hz1, hz2⟩ := info_parts Tryd.infoArg
  have HP := Lib.hid hP
  have HS := Lib.hid hS
  have hgw := hP.lt
  clear hP hS
  go_enter Tryd.func129, Tryd.ntmps129
  go_wp2_with fail
  refine (pexpect_any w g ts σ o [40] HP.out).mono ?_
  rintro x w1 ⟨rfl, hP1, hG1⟩
  have HP1 := Lib.hid hP1
  have HG1 := Lib.hid hG1
  clear hP1 hG1
  generalize hσ1 : Pa.xp ts σ [40] = σ1 at *
  have HS1 := Lib.hid hσ1
  clear hσ1
  go_wp2_with fail
  refine (paccept_any w1 g ts σ1 o [41] HP1.out).mono ?_
  rintro x w2 ⟨rfl, hP2, hG2⟩
  have HP2 := Lib.hid hP2
  have HG2 := Lib.hid (grown_trans HG1.out hG2)
  clear hP2 hG2
  cases hI : Pa.isS ts σ1 [41] with
  | true =>
    have HV : Hid (Pa.sArgs ts σ = ([], Pa.nx σ1)) := by show _ = _; unfold Pa.sArgs; rw [HS1.out, if_pos hI]
    have hac : Pa.ac ts σ1 [41] = Pa.nx σ1 := if_pos hI
    rw [hac] at HP2
    clear hac hI
    go_wp2_with fail
    go_ret
    refine ⟨none, 0, by rw [HV.out]; rfl, ?_, by rw [HV.out]; exact HP2.out, HG2.out⟩
    rw [HV.out]
    exact fun i hi => absurd hi (by simp)
  | false =>
    have HV : Hid (Pa.sArgs ts σ = Pa.sArgL ts (ts.length + 1) σ1 []) := by show _ = _; unfold Pa.sArgs; rw [HS1.out, if_neg (by rw [hI]; decide)]
    have hac : Pa.ac ts σ1 [41] = σ1 := if_neg (by rw [hI]; decide)
    rw [hac] at HP2
    clear hac hI
    go_wp2_with fail
    refine (parg_any w2 g ts σ1 o 0 HP2.out (HS.out.grown HG2.out)).mono ?_
    rintro x w3 ⟨A, n, c, f, rfl, hX3, hE3, hP3, hG3⟩
    have HP3 := Lib.hid hP3
    have HG3 := Lib.hid (grown_trans HG2.out hG3)
    have HI3 : Hid (arK.In w3 (w2.heap.size ≤ ·) ((Pa.sArg ts σ1).1, ⟨A, n, c, f⟩)) := ⟨hX3, hE3⟩
    have hl2 : w.heap.size ≤ w2.heap.size := HG2.out.size
    have hl3 : w.heap.size ≤ w3.heap.size := HG3.out.size
    have HFW := Lib.hid (Pa.sArg_fws ts σ1)
    clear hX3 hE3 hP3 hG3
    have HV2 : Hid (Pa.sArgs ts σ = if Pa.isS ts (Pa.sArg ts σ1).2 [44] = true then Pa.sArgL ts ts.length (Pa.nx (Pa.sArg ts σ1).2) [(Pa.sArg ts σ1).1] else ([(Pa.sArg ts σ1).1], Pa.xp ts (Pa.sArg ts σ1).2 [41])) := by
      show _ = _
      rw [HV.out, Pa.sArgL]
      rfl
    generalize (Pa.sArg ts σ1).2 = τ1 at *
    generalize (Pa.sArg ts σ1).1 = a1 at *
    have hO3 : OwnR arK 131 w3 w.heap.size (.slice none 0 0) [] := OwnR.nil _ _ _ _
    have HO3 := Lib.hid hO3
    clear hO3
    go_wp2_with (first | (at_builtin; refine wpList_append_lies _ rfl (.tmp 10) (.tmp 13) 124 rfl w.heap.size 131 i0 _ 7 104 Tryd.underlying124 hi hz0 hz1 hz2 rfl (by decide) _ 0 [] rfl (World.ownsRow_nil _ _ _ _) ⟨w3.heap.size, 0, none⟩ 1 1 [.bool a1.m, .string ⟨a1.r.name.toArray⟩, .slice A n c, .int .i64 f.op, .int .i64 f.num, .string ⟨f.name.toArray⟩, .slice f.A f.n f.c] rfl rfl (news_any w3 _ rfl _ _) (arK.one (a1, ⟨A, n, c, f⟩)) (by omega) (by unfold maxLen; omega) (by omega) (by simp; omega) _ rfl ?_))
    intro gb cap w4 hown hgrow hlies hgl
    have hO4 : OwnR arK 131 w4 w.heap.size (.slice (some ⟨gb, 0, none⟩) 1 cap) [(a1, ⟨A, n, c, f⟩)] := (HO3.out.alloc _).snoc (arK.fresh (arK.keep HI3.out fun b _ hl => Below.heap_alloc w3 _ b hl) (OwnR.nil arK 131 w2 w.heap.size) (Nat.le_refl _) (by omega)) hown hgrow (lies_at hlies (by simp))
    have HO4 := Lib.hid hO4
    have HP4 : Hid (Pps w4 g ts τ1 o) := (HP3.out.alloc _).keep fun b hb => hgrow.block b (by have := HP3.out.lt; simp; omega) (by simp [Value.ownBlock])
    have HG4 : Hid (w.grownBy w4 (some g)) := grown_trans (grown_alc HG3.out _) ⟨hgrow.os, hgrow.tape, hgrow.output, hgrow.size, fun k hk _ => hgrow.block k hk (by simp [Value.ownBlock])⟩
    have HL0 : Hid (ArgsL w g ts (Pa.sArgs ts σ) o ts.length (.slice (some ⟨gb, 0, none⟩) 1 cap) w4) := ⟨[(a1, ⟨A, n, c, f⟩)], τ1, HO4.out, HP4.out, HG4.out, by simp, fun hl => ⟨by have := (HFW.out hl).2; simp; omega, by omega⟩, HV2.out.symm⟩
    clear hO4 hown hgrow hlies hgl HO3 HI3 HP3 HG3 HV2 HFW HO4 HP4 HG4 HV HP2 HP1
    go_wp2_with fail
    go_loopg [5] ts.length (fun k v wr => Hid (ArgsL w g ts (Pa.sArgs ts σ) o k v wr))
    case atStart => exact HL0.out
    case round =>
      clear HL0
      obtain ⟨P, τ, hO, hP, hG, hPl, hlv, hR⟩ := hrel.out
      clear hrel
      obtain ⟨sa, sc, rfl⟩ := hO.form
      have HO := Lib.hid hO
      have HPr := Lib.hid hP
      have HGr := Lib.hid hG
      have HLV := Lib.hid hlv
      have HR := Lib.hid hR
      have hnT := hP.inT
      have hnn : ts.length ≤ 1000000 := by obtain ⟨_, _, _, _, _, h, _⟩ := hP; exact h
      have hwl : w.heap.size ≤ wr.heap.size := hG.size
      clear hO hP hG hlv hR
      go_wp2_with fail
      refine (paccept_any wr g ts τ o [44] HPr.out).mono ?_
      rintro x w5 ⟨rfl, hP5, hG5⟩
      have HP5 := Lib.hid hP5
      have HG5 := Lib.hid (grown_trans HGr.out hG5)
      have HO5 := Lib.hid (HO.out.grown hG5 hgw)
      have hl5 : wr.heap.size ≤ w5.heap.size := hG5.size
      clear hP5 hG5
      cases hI : Pa.isS ts τ [44] with
      | true =>
        obtain ⟨k0, rfl, -, -⟩ := isS_at hI
        obtain ⟨hk1, hk2⟩ := HLV.out rfl
        have hk3 : (Pa.Sg.at_ k0).k = k0 := rfl
        rw [hk3] at hk1 hk2 hnT
        have hac : Pa.ac ts (.at_ k0) [44] = .at_ (k0 + 1) := if_pos hI
        rw [hac] at HP5
        obtain ⟨f1, rfl⟩ : ∃ f1, gk = f1 + 1 := ⟨gk - 1, by omega⟩
        have HR2 : Hid (Pa.sArgs ts σ = if Pa.isS ts (Pa.sArg ts (.at_ (k0 + 1))).2 [44] = true then Pa.sArgL ts f1 (Pa.nx (Pa.sArg ts (.at_ (k0 + 1))).2) (P.map (·.1) ++ [(Pa.sArg ts (.at_ (k0 + 1))).1]) else (P.map (·.1) ++ [(Pa.sArg ts (.at_ (k0 + 1))).1], Pa.xp ts (Pa.sArg ts (.at_ (k0 + 1))).2 [41])) := by
          have := HR.out
          rw [if_pos hI] at this
          show _ = _
          rw [← this, show Pa.nx (.at_ k0) = .at_ (k0 + 1) from rfl, Pa.sArgL]
        have HFW := Lib.hid (Pa.sArg_fws ts (.at_ (k0 + 1)))
        clear hac hI hk3 HR HLV
        go_wp2_with fail
        refine (parg_any w5 g ts (.at_ (k0 + 1)) o _ HP5.out (HS.out.grown HG5.out)).mono ?_
        rintro x w6 ⟨A', n', c', f', rfl, hX6, hE6, hP6, hG6⟩
        have HP6 := Lib.hid hP6
        have HG6 := Lib.hid (grown_trans HG5.out hG6)
        have HI6 : Hid (arK.In w6 (w5.heap.size ≤ ·) ((Pa.sArg ts (.at_ (k0 + 1))).1, ⟨A', n', c', f'⟩)) := ⟨hX6, hE6⟩
        have HO6 := Lib.hid (HO5.out.grown hG6 hgw)
        have hl6 : w.heap.size ≤ w6.heap.size := HG6.out.size
        clear hX6 hE6 hP6 hG6
        generalize (Pa.sArg ts (.at_ (k0 + 1))).2 = τ2 at *
        generalize (Pa.sArg ts (.at_ (k0 + 1))).1 = a2 at *
        go_wp2_with (first | (at_builtin; refine wpList_append_lies _ rfl (.tmp 17) (.tmp 22) 124 rfl w.heap.size 131 i0 _ 7 104 Tryd.underlying124 hi hz0 hz1 hz2 rfl (by decide) _ P.length (arK.cs P) rfl (HO6.out.alloc _).1 ⟨w6.heap.size, 0, none⟩ 1 1 [.bool a2.m, .string ⟨a2.r.name.toArray⟩, .slice A' n' c', .int .i64 f'.op, .int .i64 f'.num, .string ⟨f'.name.toArray⟩, .slice f'.A f'.n f'.c] rfl rfl (news_any w6 _ rfl _ _) (arK.one (a2, ⟨A', n', c', f'⟩)) (by omega) (by unfold maxLen; omega) (by omega) (by simp; omega) _ rfl ?_))
        intro gb2 cap2 w7 hown hgrow hlies hgl
        have hO7 : OwnR arK 131 w7 w.heap.size (.slice (some ⟨gb2, 0, none⟩) (P.length + 1) cap2) (P ++ [(a2, ⟨A', n', c', f'⟩)]) := (HO6.out.alloc _).snoc (arK.fresh (arK.keep HI6.out fun b _ hl => Below.heap_alloc w6 _ b hl) HO5.out (Nat.le_refl _) (by omega)) hown hgrow (lies_at hlies (by simp))
        have HO7 := Lib.hid hO7
        have hgo : ∀ b, b ≤ g → some b ≠ (Value.slice sa P.length sc).ownBlock := fun b hb e => by have := (HO6.out.1.lt b e.symm).1; omega
        have HP7 : Hid (Pps w7 g ts τ2 o) := (HP6.out.alloc _).keep fun b hb => hgrow.block b (by have := HP6.out.lt; simp; omega) (hgo b hb)
        have HG7 : Hid (w.grownBy w7 (some g)) := ⟨hgrow.os.trans HG6.out.os, hgrow.tape.trans HG6.out.tape, hgrow.output.trans HG6.out.output, Nat.le_trans hl6 (Nat.le_trans (by simp) hgrow.size), fun b hb hne => (hgrow.block b (by simp; omega) (fun e => by have := (HO6.out.1.lt b e.symm).1; omega)).trans ((Below.heap_alloc w6 _ b (by omega)).trans (HG6.out.block b hb hne))⟩
        clear hO7 hown hgrow hlies hgl hgo HO6 HI6 HP6 HO5 HP5
        go_wp2_with fail
        go_roundg f1
        case rel =>
          refine ⟨P ++ [(a2, ⟨A', n', c', f'⟩)], τ2, HO7.out, HP7.out, HG7.out, by simp; omega, fun hl => ?_, ?_⟩
          · have h1 := (HFW.out hl).2
            have h2 : (Pa.Sg.at_ (k0 + 1)).k = k0 + 1 := rfl
            refine ⟨by simp; omega, by omega⟩
          · rw [HR2.out, List.map_append]
            rfl
        case measure => omega
      | false =>
        have hac : Pa.ac ts τ [44] = τ := if_neg (by rw [hI]; decide)
        rw [hac] at HP5
        have HR2 : Hid (Pa.sArgs ts σ = (P.map (·.1), Pa.xp ts τ [41])) := by
          have := HR.out
          rw [if_neg (by rw [hI]; decide)] at this
          exact this.symm
        clear hac hI HR HLV
        go_wp2_with fail
        refine (pexpect_any w5 g ts τ o [41] HP5.out).mono ?_
        rintro x w6 ⟨rfl, hP6, hG6⟩
        have HP6 := Lib.hid hP6
        have HG6 := Lib.hid (grown_trans HG5.out hG6)
        have HO6 := Lib.hid (HO5.out.grown hG6 hgw)
        clear hP6 hG6
        go_wp2_with fail
        go_ret
        refine ⟨sa, sc, by rw [HR2.out, List.length_map]; rfl, ?_, by rw [HR2.out]; exact HP6.out, HG6.out⟩
        rw [HR2.out]
        exact arsM_of_own HO6.out
end Go.Proofs.YtjjooekkieddbaaDoor

namespace Go.Proofs.YtjjooekkieddbaaDoor
open Go.RowKit

/-- what parameter leaves -/
def PmP (w : World) (g : Nat) (ts : List Tk.Tok) (i : Nat) (σ : Pa.Sg) (o : Nat) (e : Ending) (w' : World) : Prop :=
  e = .returned (.agg #[.string ⟨(Pa.sParam ts i σ).1.name.toArray⟩, .bool (Pa.sParam ts i σ).1.m]) ∧ Pps w' g ts (Pa.sParam ts i σ).2 o ∧ w.grownBy w' (some g)
def pmS (ts : List Tk.Tok) (i : Nat) (σ : Pa.Sg) : Pa.Sg := if Pa.isS ts σ [109, 117, 116, 101, 120] = true ∨ Pa.kdS ts σ 1 = true then Pa.lm σ i 6 else σ
theorem sParam_eq (ts : List Tk.Tok) (i : Nat) (σ : Pa.Sg) : Pa.sParam ts i σ = (⟨Pa.nmV ts (Pa.ac ts (pmS ts i σ) [109, 117, 116, 101, 120]), Pa.isS ts (pmS ts i σ) [109, 117, 116, 101, 120]⟩, Pa.tk ts (Pa.ac ts (pmS ts i σ) [109, 117, 116, 101, 120]) 1) := rfl

set_option maxRecDepth 100000 in
set_option maxHeartbeats 4000000 in
theorem pparam_any (w : World) (g : Nat) (ts : List Tk.Tok) (i : Nat) (vi : Int) (hv : vi = (i : Int)) (σ : Pa.Sg) (o : Nat) (hP : Pps w g ts σ o) :
    Calls Tryd.prog 97 #[.pointer (some ⟨g, 0, none⟩), .int .i64 vi] w (PmP w g ts i σ o) := by
  subst hv
  have HP := Lib.hid hP
  have hgw := hP.lt
  have hgR' : w.heap.size ≠ g := by omega
  clear hP
  go_enter Tryd.func97, Tryd.ntmps97
  go_wp2_with fail
  refine (psees_any _ g ts σ o [109, 117, 116, 101, 120] (HP.out.alloc _)).mono ?_
  rintro x w1 ⟨rfl, hb1⟩
  have HP1 := Lib.hid ((HP.out.alloc _).later hb1)
  have HR1 := Lib.hid ((hb1.block w.heap.size (by simp)).trans (heap_alloc_new w _))
  have HG1 : Hid (w.grownBy w1 (some g)) := grown_of_alloc (grown_below hb1)
  clear hb1
  cases hI : Pa.isS ts σ [109, 117, 116, 101, 120] with
  | true =>
    have HQ : Hid (pmS ts i σ = Pa.lm σ i 6) := if_pos (.inl hI)
    clear hI
    go_wp2_with fail
    refine (plimit_any w1 g ts σ o i 6 _ 6 rfl rfl HP1.out).mono ?_
    rintro x w4 ⟨rfl, hP4, hG4⟩
    rw [← HQ.out] at hP4
    have HP4 := Lib.hid hP4
    have HR4 := Lib.hid (kept_own hG4 HR1.out hgR')
    have HG4 := Lib.hid (grown_trans HG1.out hG4)
    clear hP4 hG4
    go_wp2_with fail
    refine (paccept_any w4 g ts _ o [109, 117, 116, 101, 120] HP4.out).mono ?_
    rintro x w5 ⟨rfl, hP5, hG5⟩
    have HP5 := Lib.hid hP5
    have HR5 := Lib.hid (kept_own hG5 HR4.out hgR')
    have HG5 := Lib.hid (grown_trans HG4.out hG5)
    clear hP5 hG5
    generalize hmb : Pa.isS ts (pmS ts i σ) [109, 117, 116, 101, 120] = mb at *
    have HMB := Lib.hid hmb
    clear hmb
    go_wp2_with fail
    refine (pname_any w5 g ts _ o HP5.out).mono ?_
    rintro x w6 ⟨rfl, hP6, hG6⟩
    obtain ⟨r0, r1, f0, f1, -⟩ := blk2 (kept_own hG6 HR5.out hgR')
    have HP6 := Lib.hid hP6
    have HG6 := Lib.hid (grown_trans HG5.out hG6)
    clear hP6 hG6
    generalize hnn : Pa.nmV ts (Pa.ac ts (pmS ts i σ) [109, 117, 116, 101, 120]) = nn at *
    have HNN := Lib.hid hnn
    clear hnn
    go_wp2_with fail
    refine bodyPost_ret (v := .agg #[.string ⟨nn.toArray⟩, .bool mb]) (by simp [results, Tryd.results97, go_sem, r0, r1]) rfl ⟨by rw [sParam_eq, HNN.out, HMB.out], ?_, ?_⟩
    · rw [sParam_eq]
      repeat (with_reducible refine Pps.set ?_ hgw _)
      exact HP6.out
    · repeat (with_reducible refine grown_set ?_ (Nat.le_refl _) _)
      exact HG6.out
  | false =>
    go_wp2_with fail
    refine (pseesKind_any w1 g ts σ o 1 1 rfl HP1.out).mono ?_
    rintro x w2 ⟨rfl, hb2⟩
    have HP2 := Lib.hid (HP1.out.later hb2)
    have HR2 := Lib.hid ((hb2.block _ (lt_of_block HR1.out)).trans HR1.out)
    have HG2 := Lib.hid (grown_trans HG1.out (grown_below (g := g) hb2))
    clear hb2
    cases hK : Pa.kdS ts σ 1 with
    | true =>
      have HQ : Hid (pmS ts i σ = Pa.lm σ i 6) := if_pos (.inr hK)
      clear hK hI
      go_wp2_with fail
      refine (plimit_any w2 g ts σ o i 6 _ 6 rfl rfl HP2.out).mono ?_
      rintro x w4 ⟨rfl, hP4, hG4⟩
      rw [← HQ.out] at hP4
      have HP4 := Lib.hid hP4
      have HR4 := Lib.hid (kept_own hG4 HR2.out hgR')
      have HG4 := Lib.hid (grown_trans HG2.out hG4)
      clear hP4 hG4
      go_wp2_with fail
      refine (paccept_any w4 g ts _ o [109, 117, 116, 101, 120] HP4.out).mono ?_
      rintro x w5 ⟨rfl, hP5, hG5⟩
      have HP5 := Lib.hid hP5
      have HR5 := Lib.hid (kept_own hG5 HR4.out hgR')
      have HG5 := Lib.hid (grown_trans HG4.out hG5)
      clear hP5 hG5
      generalize hmb : Pa.isS ts (pmS ts i σ) [109, 117, 116, 101, 120] = mb at *
      have HMB := Lib.hid hmb
      clear hmb
      go_wp2_with fail
      refine (pname_any w5 g ts _ o HP5.out).mono ?_
      rintro x w6 ⟨rfl, hP6, hG6⟩
      obtain ⟨r0, r1, f0, f1, -⟩ := blk2 (kept_own hG6 HR5.out hgR')
      have HP6 := Lib.hid hP6
      have HG6 := Lib.hid (grown_trans HG5.out hG6)
      clear hP6 hG6
      generalize hnn : Pa.nmV ts (Pa.ac ts (pmS ts i σ) [109, 117, 116, 101, 120]) = nn at *
      have HNN := Lib.hid hnn
      clear hnn
      go_wp2_with fail
      refine bodyPost_ret (v := .agg #[.string ⟨nn.toArray⟩, .bool mb]) (by simp [results, Tryd.results97, go_sem, r0, r1]) rfl ⟨by rw [sParam_eq, HNN.out, HMB.out], ?_, ?_⟩
      · rw [sParam_eq]
        repeat (with_reducible refine Pps.set ?_ hgw _)
        exact HP6.out
      · repeat (with_reducible refine grown_set ?_ (Nat.le_refl _) _)
        exact HG6.out
    | false =>
      have HQ : Hid (pmS ts i σ = σ) := if_neg (by rw [hI, hK]; decide)
      rw [← HQ.out] at HP2
      clear hK hI
      go_wp2_with fail
      refine (paccept_any w2 g ts _ o [109, 117, 116, 101, 120] HP2.out).mono ?_
      rintro x w5 ⟨rfl, hP5, hG5⟩
      have HP5 := Lib.hid hP5
      have HR5 := Lib.hid (kept_own hG5 HR2.out hgR')
      have HG5 := Lib.hid (grown_trans HG2.out hG5)
      clear hP5 hG5
      generalize hmb : Pa.isS ts (pmS ts i σ) [109, 117, 116, 101, 120] = mb at *
      have HMB := Lib.hid hmb
      clear hmb
      go_wp2_with fail
      refine (pname_any w5 g ts _ o HP5.out).mono ?_
      rintro x w6 ⟨rfl, hP6, hG6⟩
      obtain ⟨r0, r1, f0, f1, -⟩ := blk2 (kept_own hG6 HR5.out hgR')
      have HP6 := Lib.hid hP6
      have HG6 := Lib.hid (grown_trans HG5.out hG6)
      clear hP6 hG6
      generalize hnn : Pa.nmV ts (Pa.ac ts (pmS ts i σ) [109, 117, 116, 101, 120]) = nn at *
      have HNN := Lib.hid hnn
      clear hnn
      go_wp2_with fail
      refine bodyPost_ret (v := .agg #[.string ⟨nn.toArray⟩, .bool mb]) (by simp [results, Tryd.results97, go_sem, r0, r1]) rfl ⟨by rw [sParam_eq, HNN.out, HMB.out], ?_, ?_⟩
      · rw [sParam_eq]
        repeat (with_reducible refine Pps.set ?_ hgw _)
        exact HP6.out
      · repeat (with_reducible refine grown_set ?_ (Nat.le_refl _) _)
        exact HG6.out
/-- parameters -/
def pmK : RowK Pm where
  cl := fun p => [.string ⟨p.name.toArray⟩, .bool p.m]
  sz := 2
  hsz := fun _ => rfl
  one := fun p u hu => by
    simp at hu
    rcases hu with rfl | rfl <;> rfl
  In := fun _ _ _ => True
  keep := fun _ _ => trivial
  more := fun _ _ => trivial
/-- a slice of parameters -/
def PmsM (w : World) (S : Nat → Prop) (l : List Pm) (A : Option Addr) : Prop :=
  ∀ i (h : i < l.length), ∃ b off, A = some ⟨b, off, none⟩ ∧ S b ∧ w.cell? ⟨b, off + i * 2, none⟩ = some (.string ⟨l[i].name.toArray⟩) ∧ w.cell? ⟨b, off + i * 2 + 1, none⟩ = some (.bool l[i].m)
theorem pmsM_of_own {t : TypeId} {w : World} {B n c : Nat} {A : Option Addr} {P : List Pm} (h : OwnR pmK t w B (.slice A n c) P) : PmsM w (B ≤ ·) P A := by
  intro i hi
  obtain ⟨A', c', e⟩ := h.form
  simp only [Value.slice.injEq] at e
  obtain ⟨-, rfl, rfl⟩ := e
  obtain ⟨g, hA, hg⟩ : ∃ g, A = some ⟨g, 0, none⟩ ∧ B ≤ g := by
    rcases h.1.2 with ⟨_, h0⟩ | ⟨g, cap', cur, e, hg, _⟩
    · omega
    · simp only [Value.slice.injEq] at e
      exact ⟨g, e.1, hg⟩
  subst hA
  have q : ∀ j, j < 2 → w.cell? ⟨g, i * 2 + j, none⟩ = (pmK.cl P[i])[j]? := fun j hj => (World.ownsRow.cellAt h.1 _ (by show i * 2 + j < P.length * 2; omega)).trans (pmK.cs_at P i j hi hj)
  refine ⟨g, 0, rfl, hg, ?_, ?_⟩
  · rw [Nat.zero_add]; exact q 0 (by omega)
  · rw [Nat.zero_add]; exact q 1 (by omega)
theorem Tryd.infoPar : (Tryd.prog.info? 100).map (fun i => (i.zero, i.size, i.bytes)) = some (some (.agg #[.string ⟨#[]⟩, .bool false]), 2, 24) := by kernel_rfl
/-- what list leaves for parameters -/
def PmsP (w : World) (g : Nat) (ts : List Tk.Tok) (σ : Pa.Sg) (o : Nat) (e : Ending) (w' : World) : Prop :=
  ∃ A c, e = .returned (.slice A (Pa.sParams ts σ).1.length c) ∧ PmsM w' (w.heap.size ≤ ·) (Pa.sParams ts σ).1 A ∧ Pps w' g ts (Pa.sParams ts σ).2 o ∧ w.grownBy w' (some g)
/-- the list's loop -/
def PmsL (w : World) (g : Nat) (ts : List Tk.Tok) (R : List Pm × Pa.Sg) (o f : Nat) (v : Value) (wr : World) : Prop :=
  ∃ (P : List Pm) (τ : Pa.Sg), OwnR pmK 100 wr w.heap.size v P ∧ Pps wr g ts τ o ∧ w.grownBy wr (some g) ∧ P.length ≤ 1000000 ∧ (τ.live = true → P.length ≤ τ.k ∧ ts.length ≤ f + τ.k) ∧
    (if Pa.isS ts τ [44] = true then Pa.sParamL ts f (Pa.nx τ) P else (P, Pa.xp ts τ [41])) = R

set_option maxRecDepth 100000 in
set_option maxHeartbeats 4000000 in
theorem pparams_any (w : World) (g : Nat) (ts : List Tk.Tok) (σ : Pa.Sg) (o : Nat) (hP : Pps w g ts σ o) :
    Calls Tryd.prog 96 #[.pointer (some ⟨g, 0, none⟩), .func (.func 97) #[.pointer (some ⟨g, 0, none⟩)] #[]] w (PmsP w g ts σ o) := by
  obtain ⟨i0, hi, hz0, hz1, hz2⟩ := info_parts Tryd.infoPar
  have HP := Lib.hid hP
  have hgw := hP.lt
  clear hP
  go_enter Tryd.func96, Tryd.ntmps96
  go_wp2_with fail
  refine (pexpect_any w g ts σ o [40] HP.out).mono ?_
  rintro x w1 ⟨rfl, hP1, hG1⟩
  have HP1 := Lib.hid hP1
  have HG1 := Lib.hid hG1
  clear hP1 hG1
  generalize hσ1 : Pa.xp ts σ [40] = σ1 at *
  have HS1 := Lib.hid hσ1
  clear hσ1
  go_wp2_with fail
  refine (paccept_any w1 g ts σ1 o [41] HP1.out).mono ?_
  rintro x w2 ⟨rfl, hP2, hG2⟩
  have HP2 := Lib.hid hP2
  have HG2 := Lib.hid (grown_trans HG1.out hG2)
  clear hP2 hG2
  cases hI : Pa.isS ts σ1 [41] with
  | true =>
    have HV : Hid (Pa.sParams ts σ = ([], Pa.nx σ1)) := by show _ = _; unfold Pa.sParams; rw [HS1.out, if_pos hI]
    have hac : Pa.ac ts σ1 [41] = Pa.nx σ1 := if_pos hI
    rw [hac] at HP2
    clear hac hI
    go_wp2_with fail
    go_ret
    refine ⟨none, 0, by rw [HV.out]; rfl, ?_, by rw [HV.out]; exact HP2.out, HG2.out⟩
    rw [HV.out]
    exact fun i hi => absurd hi (by simp)
  | false =>
    have HV : Hid (Pa.sParams ts σ = Pa.sParamL ts (ts.length + 1) σ1 []) := by show _ = _; unfold Pa.sParams; rw [HS1.out, if_neg (by rw [hI]; decide)]
    have hac : Pa.ac ts σ1 [41] = σ1 := if_neg (by rw [hI]; decide)
    rw [hac] at HP2
    clear hac hI
    go_wp2_with fail
    refine (pparam_any w2 g ts 0 0 rfl σ1 o HP2.out).mono ?_
    rintro x w3 ⟨rfl, hP3, hG3⟩
    have HP3 := Lib.hid hP3
    have HG3 := Lib.hid (grown_trans HG2.out hG3)
    have hl2 : w.heap.size ≤ w2.heap.size := HG2.out.size
    have hl3 : w.heap.size ≤ w3.heap.size := HG3.out.size
    have HFW := Lib.hid (Pa.sParam_fws ts 0 σ1)
    clear hP3 hG3
    have HV2 : Hid (Pa.sParams ts σ = if Pa.isS ts (Pa.sParam ts 0 σ1).2 [44] = true then Pa.sParamL ts ts.length (Pa.nx (Pa.sParam ts 0 σ1).2) [(Pa.sParam ts 0 σ1).1] else ([(Pa.sParam ts 0 σ1).1], Pa.xp ts (Pa.sParam ts 0 σ1).2 [41])) := by
      show _ = _
      rw [HV.out, Pa.sParamL]
      rfl
    generalize (Pa.sParam ts 0 σ1).2 = τ1 at *
    generalize (Pa.sParam ts 0 σ1).1 = a1 at *
    have hO3 : OwnR pmK 100 w3 w.heap.size (.slice none 0 0) [] := OwnR.nil _ _ _ _
    have HO3 := Lib.hid hO3
    clear hO3
    go_wp2_with (first | (at_builtin; refine wpList_append_lies _ rfl (.tmp 10) (.tmp 13) 61 rfl w.heap.size 100 i0 _ 2 24 Tryd.underlying61 hi hz0 hz1 hz2 rfl (by decide) _ 0 [] rfl (World.ownsRow_nil _ _ _ _) ⟨w3.heap.size, 0, none⟩ 1 1 [.string ⟨a1.name.toArray⟩, .bool a1.m] rfl rfl (news_any w3 _ rfl _ _) (pmK.one a1) (by omega) (by unfold maxLen; omega) (by omega) (by simp; omega) _ rfl ?_))
    intro gb cap w4 hown hgrow hlies hgl
    have hO4 : OwnR pmK 100 w4 w.heap.size (.slice (some ⟨gb, 0, none⟩) 1 cap) [a1] := (HO3.out.alloc _).snoc trivial hown hgrow (lies_at hlies (by simp))
    have HO4 := Lib.hid hO4
    have HP4 : Hid (Pps w4 g ts τ1 o) := (HP3.out.alloc _).keep fun b hb => hgrow.block b (by have := HP3.out.lt; simp; omega) (by simp [Value.ownBlock])
    have HG4 : Hid (w.grownBy w4 (some g)) := grown_trans (grown_alc HG3.out _) ⟨hgrow.os, hgrow.tape, hgrow.output, hgrow.size, fun k hk _ => hgrow.block k hk (by simp [Value.ownBlock])⟩
    have HL0 : Hid (PmsL w g ts (Pa.sParams ts σ) o ts.length (.slice (some ⟨gb, 0, none⟩) 1 cap) w4) := ⟨[a1], τ1, HO4.out, HP4.out, HG4.out, by simp, fun hl => ⟨by have := (HFW.out hl).2; simp; omega, by omega⟩, HV2.out.symm⟩
    clear hO4 hown hgrow hlies hgl HO3 HP3 HG3 HV2 HFW HO4 HP4 HG4 HV HP2 HP1
    go_wp2_with fail
    go_loopg [5] ts.length (fun k v wr => Hid (PmsL w g ts (Pa.sParams ts σ) o k v wr))
    case atStart => exact HL0.out
    case round =>
      clear HL0
      obtain ⟨P, τ, hO, hP, hG, hPl, hlv, hR⟩ := hrel.out
      clear hrel
      obtain ⟨sa, sc, rfl⟩ := hO.form
      have HO := Lib.hid hO
      have HPr := Lib.hid hP
      have HGr := Lib.hid hG
      have HLV := Lib.hid hlv
      have HR := Lib.hid hR
      have hnT := hP.inT
      have hnn : ts.length ≤ 1000000 := by obtain ⟨_, _, _, _, _, h, _⟩ := hP; exact h
      have hwl : w.heap.size ≤ wr.heap.size := hG.size
      clear hO hP hG hlv hR
      go_wp2_with fail
      refine (paccept_any wr g ts τ o [44] HPr.out).mono ?_
      rintro x w5 ⟨rfl, hP5, hG5⟩
      have HP5 := Lib.hid hP5
      have HG5 := Lib.hid (grown_trans HGr.out hG5)
      have HO5 := Lib.hid (HO.out.grown hG5 hgw)
      have hl5 : wr.heap.size ≤ w5.heap.size := hG5.size
      clear hP5 hG5
      cases hI : Pa.isS ts τ [44] with
      | true =>
        obtain ⟨k0, rfl, -, -⟩ := isS_at hI
        obtain ⟨hk1, hk2⟩ := HLV.out rfl
        have hk3 : (Pa.Sg.at_ k0).k = k0 := rfl
        rw [hk3] at hk1 hk2 hnT
        have hac : Pa.ac ts (.at_ k0) [44] = .at_ (k0 + 1) := if_pos hI
        rw [hac] at HP5
        obtain ⟨f1, rfl⟩ : ∃ f1, gk = f1 + 1 := ⟨gk - 1, by omega⟩
        have HR2 : Hid (Pa.sParams ts σ = if Pa.isS ts (Pa.sParam ts P.length (.at_ (k0 + 1))).2 [44] = true then Pa.sParamL ts f1 (Pa.nx (Pa.sParam ts P.length (.at_ (k0 + 1))).2) (P ++ [(Pa.sParam ts P.length (.at_ (k0 + 1))).1]) else (P ++ [(Pa.sParam ts P.length (.at_ (k0 + 1))).1], Pa.xp ts (Pa.sParam ts P.length (.at_ (k0 + 1))).2 [41])) := by
          have := HR.out
          rw [if_pos hI] at this
          show _ = _
          rw [← this, show Pa.nx (.at_ k0) = .at_ (k0 + 1) from rfl, Pa.sParamL]
        have HFW := Lib.hid (Pa.sParam_fws ts P.length (.at_ (k0 + 1)))
        clear hac hI hk3 HR HLV
        go_wp2_with fail
        refine (pparam_any w5 g ts P.length _ rfl (.at_ (k0 + 1)) o HP5.out).mono ?_
        rintro x w6 ⟨rfl, hP6, hG6⟩
        have HP6 := Lib.hid hP6
        have HG6 := Lib.hid (grown_trans HG5.out hG6)
        have HO6 := Lib.hid (HO5.out.grown hG6 hgw)
        have hl6 : w.heap.size ≤ w6.heap.size := HG6.out.size
        clear hP6 hG6
        generalize (Pa.sParam ts P.length (.at_ (k0 + 1))).2 = τ2 at *
        generalize (Pa.sParam ts P.length (.at_ (k0 + 1))).1 = a2 at *
        go_wp2_with (first | (at_builtin; refine wpList_append_lies _ rfl (.tmp 17) (.tmp 22) 61 rfl w.heap.size 100 i0 _ 2 24 Tryd.underlying61 hi hz0 hz1 hz2 rfl (by decide) _ P.length (pmK.cs P) rfl (HO6.out.alloc _).1 ⟨w6.heap.size, 0, none⟩ 1 1 [.string ⟨a2.name.toArray⟩, .bool a2.m] rfl rfl (news_any w6 _ rfl _ _) (pmK.one a2) (by omega) (by unfold maxLen; omega) (by omega) (by simp; omega) _ rfl ?_))
        intro gb2 cap2 w7 hown hgrow hlies hgl
        have hO7 : OwnR pmK 100 w7 w.heap.size (.slice (some ⟨gb2, 0, none⟩) (P.length + 1) cap2) (P ++ [a2]) := (HO6.out.alloc _).snoc trivial hown hgrow (lies_at hlies (by simp))
        have HO7 := Lib.hid hO7
        have hgo : ∀ b, b ≤ g → some b ≠ (Value.slice sa P.length sc).ownBlock := fun b hb e => by have := (HO6.out.1.lt b e.symm).1; omega
        have HP7 : Hid (Pps w7 g ts τ2 o) := (HP6.out.alloc _).keep fun b hb => hgrow.block b (by have := HP6.out.lt; simp; omega) (hgo b hb)
        have HG7 : Hid (w.grownBy w7 (some g)) := ⟨hgrow.os.trans HG6.out.os, hgrow.tape.trans HG6.out.tape, hgrow.output.trans HG6.out.output, Nat.le_trans hl6 (Nat.le_trans (by simp) hgrow.size), fun b hb hne => (hgrow.block b (by simp; omega) (fun e => by have := (HO6.out.1.lt b e.symm).1; omega)).trans ((Below.heap_alloc w6 _ b (by omega)).trans (HG6.out.block b hb hne))⟩
        clear hO7 hown hgrow hlies hgl hgo HO6 HP6 HO5 HP5
        go_wp2_with fail
        go_roundg f1
        case rel =>
          refine ⟨P ++ [a2], τ2, HO7.out, HP7.out, HG7.out, by simp; omega, fun hl => ?_, ?_⟩
          · have h1 := (HFW.out hl).2
            have h2 : (Pa.Sg.at_ (k0 + 1)).k = k0 + 1 := rfl
            refine ⟨by simp; omega, by omega⟩
          · rw [HR2.out]
        case measure => omega
      | false =>
        have hac : Pa.ac ts τ [44] = τ := if_neg (by rw [hI]; decide)
        rw [hac] at HP5
        have HR2 : Hid (Pa.sParams ts σ = (P, Pa.xp ts τ [41])) := by
          have := HR.out
          rw [if_neg (by rw [hI]; decide)] at this
          exact this.symm
        clear hac hI HR HLV
        go_wp2_with fail
        refine (pexpect_any w5 g ts τ o [41] HP5.out).mono ?_
        rintro x w6 ⟨rfl, hP6, hG6⟩
        have HP6 := Lib.hid hP6
        have HG6 := Lib.hid (grown_trans HG5.out hG6)
        have HO6 := Lib.hid (HO5.out.grown hG6 hgw)
        clear hP6 hG6
        go_wp2_with fail
        go_ret
        refine ⟨sa, sc, by rw [HR2.out]; rfl, ?_, by rw [HR2.out]; exact HP6.out, HG6.out⟩
        rw [HR2.out]
        exact pmsM_of_own HO6.out
end Go.Proofs.YtjjooekkieddbaaDoor
