/- The reference's global variables and mutexes. The reference's mutexes. -/
import Derived.Test.YtjjooekkieddbaaDoorGRsB
namespace Go.Proofs.YtjjooekkieddbaaDoor
open Go.RowKit

theorem Rs.drw {w : World} {g : Nat} {ts : List Tk.Tok} {σ : Pa.Sg} {d : Nat} (h : Rs w g ts σ d) : Rs w.drew g ts σ d := h.later (Below.refl _ _).drew
theorem Rs.atN {w : World} {g : Nat} {ts : List Tk.Tok} {k d : Nat} (h : Rs w g ts (.at_ k) d) (hk : k + 1 < ts.length) (v : Int) (hv : v = ((k + 1 : Nat) : Int)) : Rs (w.setCell ⟨g, 1, none⟩ (.int .i64 v)) g ts (.at_ (k + 1)) d := by
  subst hv
  obtain ⟨bad, h⟩ := h
  exact ⟨bad, h.at (k + 1) hk⟩
theorem Rs.num {w : World} {g : Nat} {ts : List Tk.Tok} {k d : Nat} (h : Rs w g ts (.at_ k) d) : ∃ b c, b ≠ g ∧ b < w.heap.size ∧ w.cell? ⟨g, 0, none⟩ = some (.slice (some ⟨b, 0, none⟩) ts.length c) ∧ w.cell? ⟨g, 1, none⟩ = some (.int .i64 (k : Int)) ∧ w.frozen? ⟨g, 1, none⟩ = false ∧ w.cell? ⟨b, k * 4 + 2, none⟩ = some (.int .i64 (Ps.numAt ts k : Int)) ∧ b < g := by
  obtain ⟨bad, h⟩ := h
  have hbg : ∃ b, b < g ∧ ∃ c, w.cell? ⟨g, 0, none⟩ = some (.slice (some ⟨b, 0, none⟩) ts.length c) := by
    obtain ⟨A, c, hb, hl, ho, hn, hc⟩ := h
    obtain ⟨b, rfl, hbg, _⟩ := hc k hl
    exact ⟨b, hbg, c, by rw [cell_of_row w g 0 _ _ _ hb]; rfl⟩
  obtain ⟨b, c, hne, hbl, q0, q1, -, -, -, fr, -, -, -, -, a2, -⟩ := h.cells
  obtain ⟨b', hlt, c', e⟩ := hbg
  rw [q0] at e
  simp only [Option.some.injEq, Value.slice.injEq, Addr.mk.injEq] at e
  obtain ⟨⟨rfl, -⟩, -⟩ := e
  exact ⟨b, c, hne, hbl, q0, q1, fr 1, a2, hlt⟩
theorem next_num {ts : List Tk.Tok} {k : Nat} (hlast : Ps.kindAt ts (ts.length - 1) = 5) (hk : k < ts.length) (h : Pa.kdS ts (.at_ k) 2 = true) : k + 1 < ts.length :=
  Ps.next_in hlast hk (by
    intro h5
    have h2 : Ps.kindAt ts k = 2 := by simpa [Pa.kdS] using h
    rw [h5] at h2
    cases h2)
theorem tk_no {ts : List Tk.Tok} {υ : Pa.Sg} {K : Nat} (h : Pa.kdS ts υ K = false) : Pa.tk ts υ K = Pa.fl υ 4 := if_neg (by rw [h]; decide)
theorem tk_yes {ts : List Tk.Tok} {k K : Nat} (h : Pa.kdS ts (.at_ k) K = true) : Pa.tk ts (.at_ k) K = .at_ (k + 1) := if_pos h
theorem nu_yes {ts : List Tk.Tok} {k : Nat} (h : Pa.kdS ts (.at_ k) 2 = true) : Pa.nuV ts (.at_ k) = Ps.numAt ts k := if_pos h
theorem xp_fl (ts : List Tk.Tok) (υ : Pa.Sg) (e : Nat) (s : List UInt8) : Pa.xp ts (Pa.fl υ e) s = Pa.fl υ e := by cases υ <;> rfl
/-- what global leaves -/
def RgP (w : World) (g : Nat) (ts : List Tk.Tok) (R : Gl × Pa.Sg) (d : Nat) (e : Ending) (w' : World) : Prop :=
  ∃ nm init, e = .returned (.agg #[.string ⟨(nm : List UInt8).toArray⟩, .int .i64 init]) ∧ (R.2.live = true → R.1 = ⟨nm, init⟩) ∧ Rs w' g ts R.2 d ∧ w.grownBy w' (some g)

set_option maxRecDepth 100000 in
set_option maxHeartbeats 4000000 in
theorem rsGlobal (w : World) (g : Nat) (ts : List Tk.Tok) (hT : TksOk ts) (hN : ∀ k, Ps.numAt ts k ≤ 9223372036854775807) (σ : Pa.Sg) (d : Nat) (hP : Rs w g ts σ d) :
    Calls Tryd.prog 50 #[.pointer (some ⟨g, 0, none⟩)] w (RgP w g ts (Pa.sGlobal ts σ) d) := by
  have HP := Lib.hid hP
  have HT := Lib.hid hT
  have HNU := Lib.hid hN
  have hgw := hP.lt
  have hgR' : w.heap.size ≠ g := by omega
  have HV0 : Hid (Pa.sGlobal ts σ = if Pa.isS ts (Pa.tk ts σ 1) [61] = true then
    (⟨Pa.nmV ts σ, if Pa.isS ts (Pa.nx (Pa.tk ts σ 1)) [45] = true then -((Pa.nuV ts (Pa.nx (Pa.nx (Pa.tk ts σ 1))) : Nat) : Int) else (Pa.nuV ts (Pa.nx (Pa.tk ts σ 1)) : Nat)⟩,
      Pa.xp ts (Pa.tk ts (Pa.ac ts (Pa.nx (Pa.tk ts σ 1)) [45]) 2) [59])
    else (⟨Pa.nmV ts σ, 0⟩, Pa.xp ts (Pa.tk ts σ 1) [59])) := rfl
  clear hP hT hN
  go_enter Tryd.func50, Tryd.ntmps50
  go_wp2_with fail
  refine (rsName _ g ts HT.out.last σ d (HP.out.alloc _)).mono ?_
  rintro x w1 ⟨rfl, hP1, hG1⟩
  have HR1 := Lib.hid (kept_own hG1 (heap_alloc_new w _) hgR')
  have HP1 := Lib.hid hP1
  have HG1 := Lib.hid (grown_of_alloc hG1)
  have hl1 : w.heap.size < w1.heap.size := lt_of_block HR1.out
  have hTg : w1.heap.size ≠ g := by omega
  have hgT : g ≠ w1.heap.size := by omega
  have hTR : w1.heap.size ≠ w.heap.size := by omega
  clear hP1 hG1
  generalize Pa.nmV ts σ = nm at *
  generalize Pa.tk ts σ 1 = τ at *
  go_wp2_with fail
  refine (rsTake _ g ts HT.out.last HT.out.kinds τ d [61] (HP1.out.alloc _)).mono ?_
  rintro x w2 ⟨rfl, hP2, hG2⟩
  have HR2 := Lib.hid (kept_own hG2 ((Below.heap_alloc w1 _ _ hl1).trans HR1.out) hgR')
  have HT2 := Lib.hid (kept_own hG2 (heap_alloc_new w1 _) hTg)
  have HP2 := Lib.hid hP2
  have HG2 := Lib.hid (grown_trans HG1.out (grown_of_alloc hG2))
  clear hP2 hG2 HP1 HR1 HG1
  cases hI : Pa.isS ts τ [61] with
  | false =>
    have hac : Pa.ac ts τ [61] = τ := if_neg (by rw [hI]; decide)
    rw [hac] at HP2
    have HV := Lib.hid (HV0.out.trans (if_neg (by rw [hI]; decide)))
    clear hac hI HV0
    go_wp2_with fail
    refine (rsMust w2 g ts HT.out.last HT.out.kinds τ d [59] HP2.out).mono ?_
    rintro x w3 ⟨rfl, hP3, hG3⟩
    have HR3 := Lib.hid (kept_own hG3 HR2.out hgR')
    have HT3 := Lib.hid (kept_own hG3 HT2.out hTg)
    have HP3 := Lib.hid hP3
    have HG3 := Lib.hid (grown_trans HG2.out hG3)
    clear hP3 hG3
    obtain ⟨r0, r1, f0, f1, -⟩ := blk2 HR3.out
    obtain ⟨t0, t1, -, -, -⟩ := blk2 HT3.out
    go_wp2_with fail
    have hq : PutAt w.heap.size w3 _ := ((PutAt.refl w.heap.size w3).set 0 (.string ⟨nm.toArray⟩)).set 1 (.int .i64 0)
    refine bodyPost_ret (v := .agg #[.string ⟨nm.toArray⟩, .int .i64 0]) (by simp [results, Tryd.results50, go_sem, r0, r1]) rfl ⟨nm, 0, rfl, fun hl => ?_, ?_, grown_putAt HG3.out hq (Nat.le_refl _)⟩
    · rw [HV.out]
    · rw [HV.out]
      exact HP3.out.putAt hq hgw
  | true =>
    have hac : Pa.ac ts τ [61] = Pa.nx τ := if_pos hI
    rw [hac] at HP2
    have HV1 := Lib.hid (HV0.out.trans (if_pos hI))
    clear hac hI HV0
    generalize Pa.nx τ = τ1 at *
    go_wp2_with fail
    refine (rsTake w2 g ts HT.out.last HT.out.kinds τ1 d [45] HP2.out).mono ?_
    rintro x w3 ⟨rfl, hP3, hG3⟩
    have HR3 := Lib.hid (kept_own hG3 HR2.out hgR')
    have HT3 := Lib.hid (kept_own hG3 HT2.out hTg)
    have HP3 := Lib.hid hP3
    have HG3 := Lib.hid (grown_trans HG2.out hG3)
    clear hP3 hG3 HR2 HT2 HP2 HG2
    have HV2 : Hid (Pa.sGlobal ts σ = (⟨nm, if Pa.isS ts τ1 [45] = true then -((Pa.nuV ts (Pa.ac ts τ1 [45]) : Nat) : Int) else (Pa.nuV ts (Pa.ac ts τ1 [45]) : Nat)⟩, Pa.xp ts (Pa.tk ts (Pa.ac ts τ1 [45]) 2) [59])) := by
      show _ = _
      rw [HV1.out]
      unfold Pa.ac
      split <;> rfl
    clear HV1
    generalize Pa.ac ts τ1 [45] = υ at *
    generalize Pa.isS ts τ1 [45] = mb at *
    go_wp2_with fail
    refine (rsKind w3 g ts υ d 2 2 rfl HP3.out).mono ?_
    rintro x w4 ⟨rfl, hb4⟩
    have hG4 := grown_below (g := g) hb4
    have HR4 := Lib.hid (kept_own hG4 HR3.out hgR')
    have HT4 := Lib.hid (kept_own hG4 HT3.out hTg)
    have HP4 := Lib.hid (HP3.out.later hb4)
    have HG4 := Lib.hid (grown_trans HG3.out hG4)
    clear hb4 hG4 HR3 HT3 HP3 HG3
    cases hK : Pa.kdS ts υ 2 with
    | false =>
      have HV : Hid (Pa.sGlobal ts σ = (⟨nm, if mb = true then -((Pa.nuV ts υ : Nat) : Int) else (Pa.nuV ts υ : Nat)⟩, Pa.fl υ 4)) := by
        show _ = _
        rw [HV2.out, tk_no hK, xp_fl]
      clear HV2 hK
      go_wp2_with fail
      refine (rsFail w4 g ts υ d 4 4 rfl (by decide) HP4.out).mono ?_
      rintro x w5 ⟨rfl, hP5, hG5⟩
      have HR5 := Lib.hid (kept_own hG5 HR4.out hgR')
      have HT5 := Lib.hid (kept_own hG5 HT4.out hTg)
      have HP5 := Lib.hid hP5
      have HG5 := Lib.hid (grown_trans HG4.out hG5)
      clear hP5 hG5
      obtain ⟨r0, r1, f0, f1, -⟩ := blk2 HR5.out
      obtain ⟨t0, t1, -, -, -⟩ := blk2 HT5.out
      go_wp2_with fail
      have hq : PutAt w.heap.size w5 _ := ((PutAt.refl w.heap.size w5).set 0 (.string ⟨nm.toArray⟩)).set 1 (.int .i64 0)
      refine bodyPost_ret (v := .agg #[.string ⟨nm.toArray⟩, .int .i64 0]) (by simp [results, Tryd.results50, go_sem, r0, r1]) rfl ⟨nm, 0, rfl, fun hl => ?_, ?_, grown_putAt HG5.out hq (Nat.le_refl _)⟩
      · rw [HV.out] at hl
        rw [Pa.fl_dead] at hl
        cases hl
      · rw [HV.out]
        exact HP5.out.putAt hq hgw
    | true =>
      cases υ with
      | bad m e => cases hK
      | at_ k =>
        have hk1 := next_num HT.out.last HP4.out.inT hK
        have hkT : k < ts.length := HP4.out.inT
        have hnn := HP4.out.len
        have hMx := HNU.out k
        have HV : Hid (Pa.sGlobal ts σ = (⟨nm, if mb = true then -((Ps.numAt ts k : Nat) : Int) else (Ps.numAt ts k : Nat)⟩, Pa.xp ts (.at_ (k + 1)) [59])) := by
          show _ = _
          rw [HV2.out, tk_yes hK, nu_yes hK]
        clear HV2 hK
        obtain ⟨b, c, hne, hbl, q0, q1, u1, a2, hbg⟩ := HP4.out.num
        obtain ⟨t0, t1, tf0, tf1, -⟩ := blk2 HT4.out
        have i0 : (0 : Int) ≤ (k : Int) := by omega
        have i1 : (k : Int) < (ts.length : Int) := by omega
        have hbT : b ≠ w1.heap.size := by omega
        have hTb : w1.heap.size ≠ b := by omega
        generalize Ps.numAt ts k = M at *
        have hM0 : (0 : Int) ≤ (M : Int) := by omega
        have hM1 : (M : Int) ≤ 9223372036854775807 := by omega
        cases mb with
        | false =>
          have HQ := Lib.hid ((PutAt.refl w1.heap.size w4).set 1 (.int .i64 (M : Int)))
          go_wp2_with fail
          go_region
          all_goals
            go_wp2_with fail
            refine (rsMust _ g ts HT.out.last HT.out.kinds (.at_ (k + 1)) d [59] (Rs.drw ((HP4.out.putAt HQ.out (by omega)).atN hk1 _ (by omega)))).mono ?_
            rintro x w5 ⟨rfl, hP5, hG5⟩
            have hk5 : ∀ b, b ≠ g → b ≠ w1.heap.size → b < w4.heap.size → w5.heap[b]? = w4.heap[b]? := fun b h1 h2 hl => (hG5.block b (by simp [World.setCell]; omega) (fun e => by injection e with e; exact h1 e)).trans ((Below.heap_setCell _ _ _ b h1).trans (HQ.out.2.2.2.2 b h2))
            have HR5 := Lib.hid ((hk5 w.heap.size hgR' (by omega) (lt_of_block HR4.out)).trans HR4.out)
            have HT5 : Hid (w5.heap[w1.heap.size]? = some (.cells #[.string ⟨nm.toArray⟩, .int .i64 (M : Int)] 90 (0, 0))) := kept_own hG5 ((Below.heap_setCell _ _ _ _ hTg).trans (blkset_any 1 _ HT4.out)) hTg
            have HP5 := Lib.hid hP5
            have HG5 := Lib.hid (grown_trans (grown_drw (grown_own (grown_putAt HG4.out HQ.out (by omega)))) hG5)
            clear hP5 hG5 hk5 t0 t1 tf0 tf1 q0 q1 u1 a2
            obtain ⟨r0, r1, f0, f1, -⟩ := blk2 HR5.out
            obtain ⟨t0, t1, -, -, -⟩ := blk2 HT5.out
            go_wp2_with fail
            have hq : PutAt w.heap.size w5 _ := ((PutAt.refl w.heap.size w5).set 0 (.string ⟨nm.toArray⟩)).set 1 (.int .i64 (M : Int))
            refine bodyPost_ret (v := .agg #[.string ⟨nm.toArray⟩, .int .i64 (M : Int)]) (by simp [results, Tryd.results50, go_sem, r0, r1]) rfl ⟨nm, (M : Int), rfl, fun hl => ?_, ?_, grown_putAt HG5.out hq (Nat.le_refl _)⟩
            · rw [HV.out]
              rfl
            · rw [HV.out]
              exact HP5.out.putAt hq hgw
        | true =>
          have HQ := Lib.hid (((PutAt.refl w1.heap.size w4).set 1 (.int .i64 (M : Int))).set 1 (.int .i64 (-(M : Int))))
          go_wp2_with fail
          go_region
          all_goals
            go_wp2_with fail
            refine (rsMust _ g ts HT.out.last HT.out.kinds (.at_ (k + 1)) d [59] (Rs.drw ((HP4.out.putAt HQ.out (by omega)).atN hk1 _ (by omega)))).mono ?_
            rintro x w5 ⟨rfl, hP5, hG5⟩
            have hk5 : ∀ b, b ≠ g → b ≠ w1.heap.size → b < w4.heap.size → w5.heap[b]? = w4.heap[b]? := fun b h1 h2 hl => (hG5.block b (by simp [World.setCell]; omega) (fun e => by injection e with e; exact h1 e)).trans ((Below.heap_setCell _ _ _ b h1).trans (HQ.out.2.2.2.2 b h2))
            have HR5 := Lib.hid ((hk5 w.heap.size hgR' (by omega) (lt_of_block HR4.out)).trans HR4.out)
            have HT5 : Hid (w5.heap[w1.heap.size]? = some (.cells #[.string ⟨nm.toArray⟩, .int .i64 (-(M : Int))] 90 (0, 0))) := kept_own hG5 ((Below.heap_setCell _ _ _ _ hTg).trans (blkset_any 1 _ (blkset_any 1 _ HT4.out))) hTg
            have HP5 := Lib.hid hP5
            have HG5 := Lib.hid (grown_trans (grown_drw (grown_own (grown_putAt HG4.out HQ.out (by omega)))) hG5)
            clear hP5 hG5 hk5 t0 t1 tf0 tf1 q0 q1 u1 a2
            obtain ⟨r0, r1, f0, f1, -⟩ := blk2 HR5.out
            obtain ⟨t0, t1, -, -, -⟩ := blk2 HT5.out
            go_wp2_with fail
            have hq : PutAt w.heap.size w5 _ := ((PutAt.refl w.heap.size w5).set 0 (.string ⟨nm.toArray⟩)).set 1 (.int .i64 (-(M : Int)))
            refine bodyPost_ret (v := .agg #[.string ⟨nm.toArray⟩, .int .i64 (-(M : Int))]) (by simp [results, Tryd.results50, go_sem, r0, r1]) rfl ⟨nm, (-(M : Int)), rfl, fun hl => ?_, ?_, grown_putAt HG5.out hq (Nat.le_refl _)⟩
            · rw [HV.out]
              rfl
            · rw [HV.out]
              exact HP5.out.putAt hq hgw
end Go.Proofs.YtjjooekkieddbaaDoor

namespace Go.Proofs.YtjjooekkieddbaaDoor
open Go.RowKit

/-- what mutex leaves -/
def RmP (w : World) (g : Nat) (ts : List Tk.Tok) (R : Mx × Pa.Sg) (d : Nat) (e : Ending) (w' : World) : Prop :=
  ∃ nm re sz, e = .returned (.agg #[.string ⟨(nm : List UInt8).toArray⟩, .bool re, .int .i64 ((sz : Nat) : Int)]) ∧ (R.2.live = true → R.1 = ⟨nm, re, sz⟩) ∧ Rs w' g ts R.2 d ∧ w.grownBy w' (some g)
theorem szS_no {ts : List Tk.Tok} {υ : Pa.Sg} (h : Pa.kdS ts υ 2 = false) : Pa.szS ts υ = Pa.fl υ 4 := by
  unfold Pa.szS
  rw [if_neg (fun hh => by rw [h] at hh; exact absurd hh.1 (by decide)), tk_no h]
theorem szS_lim {ts : List Tk.Tok} {k : Nat} (h : Pa.kdS ts (.at_ k) 2 = true) (hm : Ps.numAt ts k < 1 ∨ 64 < Ps.numAt ts k) : Pa.szS ts (.at_ k) = .bad k 3 := by
  unfold Pa.szS
  rw [if_pos ⟨h, hm⟩]
  rfl
theorem szS_yes {ts : List Tk.Tok} {k : Nat} (h : Pa.kdS ts (.at_ k) 2 = true) (hm : ¬ (Ps.numAt ts k < 1 ∨ 64 < Ps.numAt ts k)) : Pa.szS ts (.at_ k) = .at_ (k + 1) := by
  unfold Pa.szS
  rw [if_neg (fun hh => hm hh.2), tk_yes h]

set_option maxRecDepth 100000 in
set_option maxHeartbeats 4000000 in
theorem rsMutex (w : World) (g : Nat) (ts : List Tk.Tok) (hT : TksOk ts) (re : Bool) (hN : ∀ k, Ps.numAt ts k ≤ 9223372036854775807) (σ : Pa.Sg) (d : Nat) (hP : Rs w g ts σ d) :
    Calls Tryd.prog 51 #[.pointer (some ⟨g, 0, none⟩), .bool re] w (RmP w g ts (Pa.sMutex ts re σ) d) := by
  have HP := Lib.hid hP
  have HT := Lib.hid hT
  have HNU := Lib.hid hN
  have hgw := hP.lt
  have hgR' : w.heap.size ≠ g := by omega
  have HV0 : Hid (Pa.sMutex ts re σ = if re = false ∧ Pa.isS ts (Pa.tk ts σ 1) [91] = true then (⟨Pa.nmV ts σ, re, Pa.nuV ts (Pa.nx (Pa.tk ts σ 1))⟩, Pa.xp ts (Pa.xp ts (Pa.szS ts (Pa.nx (Pa.tk ts σ 1))) [93]) [59]) else (⟨Pa.nmV ts σ, re, 0⟩, Pa.xp ts (Pa.tk ts σ 1) [59])) := rfl
  clear hP hT hN
  go_enter Tryd.func51, Tryd.ntmps51
  go_wp2_with fail
  refine (rsName _ g ts HT.out.last σ d (HP.out.alloc _)).mono ?_
  rintro x w1 ⟨rfl, hP1, hG1⟩
  have HR1 := Lib.hid (kept_own hG1 (heap_alloc_new w _) hgR')
  have HP1 := Lib.hid hP1
  have HG1 := Lib.hid (grown_of_alloc hG1)
  have hl1 : w.heap.size < w1.heap.size := lt_of_block HR1.out
  have hTg : w1.heap.size ≠ g := by omega
  have hgT : g ≠ w1.heap.size := by omega
  have hTR : w1.heap.size ≠ w.heap.size := by omega
  clear hP1 hG1
  generalize Pa.nmV ts σ = nm at *
  generalize Pa.tk ts σ 1 = τ at *
  cases re with
  | true =>
    have HV := Lib.hid (HV0.out.trans (if_neg (fun h => absurd h.1 (by decide))))
    clear HV0
    go_wp2_with fail
    refine (rsMust _ g ts HT.out.last HT.out.kinds τ d [59] (HP1.out.alloc _)).mono ?_
    rintro x w3 ⟨rfl, hP3, hG3⟩
    have HR3 := Lib.hid (kept_own hG3 ((Below.heap_alloc w1 _ _ hl1).trans HR1.out) hgR')
    have HT3 := Lib.hid (kept_own hG3 (heap_alloc_new w1 _) hTg)
    have HP3 := Lib.hid hP3
    have HG3 := Lib.hid (grown_trans HG1.out (grown_of_alloc hG3))
    clear hP3 hG3
    obtain ⟨r0, r1, r2, rf, -⟩ := blk3 HR3.out
    obtain ⟨t0, t1, t2, -, -⟩ := blk3 HT3.out
    have f0 := rf 0
    have f1 := rf 1
    have f2 := rf 2
    clear rf
    go_wp2_with fail
    have hq : PutAt w.heap.size w3 _ := (((PutAt.refl w.heap.size w3).set 0 (.string ⟨nm.toArray⟩)).set 1 (.bool true)).set 2 (.int .i64 ((0 : Nat) : Int))
    refine bodyPost_ret (v := .agg #[.string ⟨nm.toArray⟩, .bool true, .int .i64 ((0 : Nat) : Int)]) (by simp [results, Tryd.results51, go_sem, r0, r1, r2]) rfl ⟨nm, true, 0, rfl, fun hl => ?_, ?_, grown_putAt HG3.out hq (Nat.le_refl _)⟩
    · rw [HV.out]
    · rw [HV.out]
      exact HP3.out.putAt hq hgw
  | false =>
    go_wp2_with fail
    refine (rsTake _ g ts HT.out.last HT.out.kinds τ d [91] (HP1.out.alloc _)).mono ?_
    rintro x w2 ⟨rfl, hP2, hG2⟩
    have HR2 := Lib.hid (kept_own hG2 ((Below.heap_alloc w1 _ _ hl1).trans HR1.out) hgR')
    have HT2 := Lib.hid (kept_own hG2 (heap_alloc_new w1 _) hTg)
    have HP2 := Lib.hid hP2
    have HG2 := Lib.hid (grown_trans HG1.out (grown_of_alloc hG2))
    clear hP2 hG2 HP1 HR1 HG1
    cases hI : Pa.isS ts τ [91] with
    | false =>
      have hac : Pa.ac ts τ [91] = τ := if_neg (by rw [hI]; decide)
      rw [hac] at HP2
      have HV := Lib.hid (HV0.out.trans (if_neg (fun h => by rw [hI] at h; exact absurd h.2 (by decide))))
      clear hac hI HV0
      go_wp2_with fail
      refine (rsMust w2 g ts HT.out.last HT.out.kinds τ d [59] HP2.out).mono ?_
      rintro x w3 ⟨rfl, hP3, hG3⟩
      have HR3 := Lib.hid (kept_own hG3 HR2.out hgR')
      have HT3 := Lib.hid (kept_own hG3 HT2.out hTg)
      have HP3 := Lib.hid hP3
      have HG3 := Lib.hid (grown_trans HG2.out hG3)
      clear hP3 hG3
      obtain ⟨r0, r1, r2, rf, -⟩ := blk3 HR3.out
      obtain ⟨t0, t1, t2, -, -⟩ := blk3 HT3.out
      have f0 := rf 0
      have f1 := rf 1
      have f2 := rf 2
      clear rf
      go_wp2_with fail
      have hq : PutAt w.heap.size w3 _ := (((PutAt.refl w.heap.size w3).set 0 (.string ⟨nm.toArray⟩)).set 1 (.bool false)).set 2 (.int .i64 ((0 : Nat) : Int))
      refine bodyPost_ret (v := .agg #[.string ⟨nm.toArray⟩, .bool false, .int .i64 ((0 : Nat) : Int)]) (by simp [results, Tryd.results51, go_sem, r0, r1, r2]) rfl ⟨nm, false, 0, rfl, fun hl => ?_, ?_, grown_putAt HG3.out hq (Nat.le_refl _)⟩
      · rw [HV.out]
      · rw [HV.out]
        exact HP3.out.putAt hq hgw
    | true =>
      have hac : Pa.ac ts τ [91] = Pa.nx τ := if_pos hI
      rw [hac] at HP2
      have HV1 := Lib.hid (HV0.out.trans (if_pos ⟨(by first | exact rfl | exact trivial), hI⟩))
      clear hac hI HV0
      generalize Pa.nx τ = υ at *
      go_wp2_with fail
      refine (rsKind w2 g ts υ d 2 2 rfl HP2.out).mono ?_
      rintro x w4 ⟨rfl, hb4⟩
      have hG4 := grown_below (g := g) hb4
      have hP4 := HP2.out.later hb4
      have HR4 := Lib.hid (kept_own hG4 HR2.out hgR')
      have HT4 := Lib.hid (kept_own hG4 HT2.out hTg)
      have HP4 := Lib.hid hP4
      have HG4 := Lib.hid (grown_trans HG2.out hG4)
      clear hP4 hG4
      clear hb4 HR2 HT2 HP2 HG2
      cases hK : Pa.kdS ts υ 2 with
      | false =>
        have HV : Hid (Pa.sMutex ts false σ = (⟨nm, false, Pa.nuV ts υ⟩, Pa.fl υ 4)) := by
          show _ = _
          rw [HV1.out, szS_no hK, xp_fl, xp_fl]
        clear HV1 hK
        go_wp2_with fail
        refine (rsFail w4 g ts υ d 4 4 rfl (by decide) HP4.out).mono ?_
        rintro x w5 ⟨rfl, hP5, hG5⟩
        have HR5 := Lib.hid (kept_own hG5 HR4.out hgR')
        have HT5 := Lib.hid (kept_own hG5 HT4.out hTg)
        have HP5 := Lib.hid hP5
        have HG5 := Lib.hid (grown_trans HG4.out hG5)
        clear hP5 hG5
        obtain ⟨r0, r1, r2, rf, -⟩ := blk3 HR5.out
        obtain ⟨t0, t1, t2, -, -⟩ := blk3 HT5.out
        have f0 := rf 0
        have f1 := rf 1
        have f2 := rf 2
        clear rf
        go_wp2_with fail
        have hq : PutAt w.heap.size w5 _ := (((PutAt.refl w.heap.size w5).set 0 (.string ⟨nm.toArray⟩)).set 1 (.bool false)).set 2 (.int .i64 ((0 : Nat) : Int))
        refine bodyPost_ret (v := .agg #[.string ⟨nm.toArray⟩, .bool false, .int .i64 ((0 : Nat) : Int)]) (by simp [results, Tryd.results51, go_sem, r0, r1, r2]) rfl ⟨nm, false, 0, rfl, fun hl => ?_, ?_, grown_putAt HG5.out hq (Nat.le_refl _)⟩
        · rw [HV.out] at hl
          rw [Pa.fl_dead] at hl
          cases hl
        · rw [HV.out]
          exact HP5.out.putAt hq hgw
      | true =>
        cases υ with
        | bad m e => cases hK
        | at_ k =>
          have hk1 := next_num HT.out.last HP4.out.inT hK
          have hkT : k < ts.length := HP4.out.inT
          have hnn := HP4.out.len
          have hMx := HNU.out k
          have HZ := Lib.hid (fun h => szS_lim hK h)
          have HY := Lib.hid (fun h => szS_yes hK h)
          rw [nu_yes hK] at HV1
          clear hK
          obtain ⟨b, c, hne, hbl, q0, q1, u1, a2, hbg⟩ := HP4.out.num
          obtain ⟨t0, t1, t2, tf, -⟩ := blk3 HT4.out
          have v0 := tf 0
          have v1 := tf 1
          have v2 := tf 2
          have i0 : (0 : Int) ≤ (k : Int) := by omega
          have i1 : (k : Int) < (ts.length : Int) := by omega
          have hbT : b ≠ w1.heap.size := by omega
          have hTb : w1.heap.size ≠ b := by omega
          generalize Ps.numAt ts k = M at *
          have hM0 : (0 : Int) ≤ (M : Int) := by omega
          have hM1 : (M : Int) ≤ 9223372036854775807 := by omega
          have HQ := Lib.hid ((PutAt.refl w1.heap.size w4).set 2 (.int .i64 (M : Int)))
          clear tf
          by_cases hlow : M < 1
          · have d1 : decide ((M : Int) < 1) = true := decide_eq_true (by omega)
            have HV : Hid (Pa.sMutex ts false σ = (⟨nm, false, M⟩, .bad k 3)) := by
              show _ = _
              rw [HV1.out, HZ.out (.inl hlow)]
              rfl
            clear HV1 HZ HY hlow
            go_wp2_with fail
            go_region
            all_goals
              go_wp2_with fail
              refine (rsFail _ g ts (.at_ k) d 3 3 rfl (by decide) (Rs.drw (HP4.out.putAt HQ.out (by omega)))).mono ?_
              rintro x w5 ⟨rfl, hP5, hG5⟩
              have HR5 := Lib.hid (kept_own hG5 ((HQ.out.2.2.2.2 w.heap.size (by omega)).trans HR4.out) hgR')
              have HT5 : Hid (w5.heap[w1.heap.size]? = some (.cells #[.string ⟨nm.toArray⟩, .bool false, .int .i64 (M : Int)] 93 (0, 0))) := kept_own hG5 (blkset_any 2 _ HT4.out) hTg
              have HP5 := Lib.hid hP5
              have HG5 := Lib.hid (grown_trans (grown_drw (grown_putAt HG4.out HQ.out (by omega))) hG5)
              clear hP5 hG5 t0 t1 t2 v0 v1 v2 q0 q1 u1 a2
              obtain ⟨r0, r1, r2, rf, -⟩ := blk3 HR5.out
              obtain ⟨t0, t1, t2, -, -⟩ := blk3 HT5.out
              have f0 := rf 0
              have f1 := rf 1
              have f2 := rf 2
              clear rf
              go_wp2_with fail
              have hq : PutAt w.heap.size w5 _ := (((PutAt.refl w.heap.size w5).set 0 (.string ⟨nm.toArray⟩)).set 1 (.bool false)).set 2 (.int .i64 ((M : Nat) : Int))
              refine bodyPost_ret (v := .agg #[.string ⟨nm.toArray⟩, .bool false, .int .i64 ((M : Nat) : Int)]) (by simp [results, Tryd.results51, go_sem, r0, r1, r2]) rfl ⟨nm, false, M, rfl, fun hl => ?_, ?_, grown_putAt HG5.out hq (Nat.le_refl _)⟩
              · rw [HV.out] at hl
                cases hl
              · rw [HV.out]
                exact HP5.out.putAt hq hgw
          · have d1 : decide ((M : Int) < 1) = false := decide_eq_false (by omega)
            by_cases hhigh : 64 < M
            · have d2 : decide ((M : Int) > 64) = true := decide_eq_true (by omega)
              have HV : Hid (Pa.sMutex ts false σ = (⟨nm, false, M⟩, .bad k 3)) := by
                show _ = _
                rw [HV1.out, HZ.out (.inr hhigh)]
                rfl
              clear HV1 HZ HY hhigh hlow
              go_wp2_with fail
              go_region
              all_goals
                go_wp2_with fail
                refine (rsFail _ g ts (.at_ k) d 3 3 rfl (by decide) (Rs.drw (HP4.out.putAt HQ.out (by omega)))).mono ?_
                rintro x w5 ⟨rfl, hP5, hG5⟩
                have HR5 := Lib.hid (kept_own hG5 ((HQ.out.2.2.2.2 w.heap.size (by omega)).trans HR4.out) hgR')
                have HT5 : Hid (w5.heap[w1.heap.size]? = some (.cells #[.string ⟨nm.toArray⟩, .bool false, .int .i64 (M : Int)] 93 (0, 0))) := kept_own hG5 (blkset_any 2 _ HT4.out) hTg
                have HP5 := Lib.hid hP5
                have HG5 := Lib.hid (grown_trans (grown_drw (grown_putAt HG4.out HQ.out (by omega))) hG5)
                clear hP5 hG5 t0 t1 t2 v0 v1 v2 q0 q1 u1 a2
                obtain ⟨r0, r1, r2, rf, -⟩ := blk3 HR5.out
                obtain ⟨t0, t1, t2, -, -⟩ := blk3 HT5.out
                have f0 := rf 0
                have f1 := rf 1
                have f2 := rf 2
                clear rf
                go_wp2_with fail
                have hq : PutAt w.heap.size w5 _ := (((PutAt.refl w.heap.size w5).set 0 (.string ⟨nm.toArray⟩)).set 1 (.bool false)).set 2 (.int .i64 ((M : Nat) : Int))
                refine bodyPost_ret (v := .agg #[.string ⟨nm.toArray⟩, .bool false, .int .i64 ((M : Nat) : Int)]) (by simp [results, Tryd.results51, go_sem, r0, r1, r2]) rfl ⟨nm, false, M, rfl, fun hl => ?_, ?_, grown_putAt HG5.out hq (Nat.le_refl _)⟩
                · rw [HV.out] at hl
                  cases hl
                · rw [HV.out]
                  exact HP5.out.putAt hq hgw
            · have d2 : decide ((M : Int) > 64) = false := decide_eq_false (by omega)
              have HV : Hid (Pa.sMutex ts false σ = (⟨nm, false, M⟩, Pa.xp ts (Pa.xp ts (.at_ (k + 1)) [93]) [59])) := by
                show _ = _
                rw [HV1.out, HY.out (by omega)]
              clear HV1 HZ HY hhigh hlow
              go_wp2_with fail
              go_region
              all_goals
                go_wp2_with fail
                refine (rsMust _ g ts HT.out.last HT.out.kinds (.at_ (k + 1)) d [93] (Rs.drw ((HP4.out.putAt HQ.out (by omega)).atN hk1 _ (by omega)))).mono ?_
                rintro x w5 ⟨rfl, hP5, hG5⟩
                have hk5 : ∀ b, b ≠ g → b ≠ w1.heap.size → b < w4.heap.size → w5.heap[b]? = w4.heap[b]? := fun b h1 h2 hl => (hG5.block b (by simp [World.setCell]; omega) (fun e => by injection e with e; exact h1 e)).trans ((Below.heap_setCell _ _ _ b h1).trans (HQ.out.2.2.2.2 b h2))
                have HR5 := Lib.hid ((hk5 w.heap.size hgR' (by omega) (lt_of_block HR4.out)).trans HR4.out)
                have HT5 : Hid (w5.heap[w1.heap.size]? = some (.cells #[.string ⟨nm.toArray⟩, .bool false, .int .i64 (M : Int)] 93 (0, 0))) := kept_own hG5 ((Below.heap_setCell _ _ _ _ hTg).trans (blkset_any 2 _ HT4.out)) hTg
                have HP5 := Lib.hid hP5
                have HG5 := Lib.hid (grown_trans (grown_drw (grown_own (grown_putAt HG4.out HQ.out (by omega)))) hG5)
                clear hP5 hG5 hk5 t0 t1 t2 v0 v1 v2 q0 q1 u1 a2
                go_wp2_with fail
                refine (rsMust w5 g ts HT.out.last HT.out.kinds _ d [59] HP5.out).mono ?_
                rintro x w6 ⟨rfl, hP6, hG6⟩
                have HR6 := Lib.hid (kept_own hG6 HR5.out hgR')
                have HT6 := Lib.hid (kept_own hG6 HT5.out hTg)
                have HP6 := Lib.hid hP6
                have HG6 := Lib.hid (grown_trans HG5.out hG6)
                clear hP6 hG6
                obtain ⟨r0, r1, r2, rf, -⟩ := blk3 HR6.out
                obtain ⟨t0, t1, t2, -, -⟩ := blk3 HT6.out
                have f0 := rf 0
                have f1 := rf 1
                have f2 := rf 2
                clear rf
                go_wp2_with fail
                have hq : PutAt w.heap.size w6 _ := (((PutAt.refl w.heap.size w6).set 0 (.string ⟨nm.toArray⟩)).set 1 (.bool false)).set 2 (.int .i64 ((M : Nat) : Int))
                refine bodyPost_ret (v := .agg #[.string ⟨nm.toArray⟩, .bool false, .int .i64 ((M : Nat) : Int)]) (by simp [results, Tryd.results51, go_sem, r0, r1, r2]) rfl ⟨nm, false, M, rfl, fun hl => ?_, ?_, grown_putAt HG6.out hq (Nat.le_refl _)⟩
                · rw [HV.out]
                · rw [HV.out]
                  exact HP6.out.putAt hq hgw
end Go.Proofs.YtjjooekkieddbaaDoor
