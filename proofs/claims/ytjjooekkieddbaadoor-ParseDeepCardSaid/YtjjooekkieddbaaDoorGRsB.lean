/- The reference's statements, where its block is known. The reference's blocks. -/
import Derived.Test.YtjjooekkieddbaaDoorGRsA
namespace Go.Proofs.YtjjooekkieddbaaDoor
open Go.RowKit

/-- a statement's value, in pieces -/
structure SV where
  kind : Int
  name : List UInt8
  f : EF
  rname : List UInt8
  rA : Option Addr
  rn : Nat
  rc : Nat
  aA : Option Addr
  an : Nat
  ac : Nat
  tA : Option Addr
  tn : Nat
  tc : Nat
  eA : Option Addr
  en : Nat
  ec : Nat
def SV.cells (v : SV) : List Value := [.int .i64 v.kind, .string ⟨v.name.toArray⟩, .int .i64 v.f.op, .int .i64 v.f.num, .string ⟨v.f.name.toArray⟩, .slice v.f.A v.f.n v.f.c, .string ⟨v.rname.toArray⟩, .slice v.rA v.rn v.rc, .slice v.aA v.an v.ac, .slice v.tA v.tn v.tc, .slice v.eA v.en v.ec]
def SV.val (v : SV) : Value := .agg #[.int .i64 v.kind, .string ⟨v.name.toArray⟩, .int .i64 v.f.op, .int .i64 v.f.num, .string ⟨v.f.name.toArray⟩, .slice v.f.A v.f.n v.f.c, .string ⟨v.rname.toArray⟩, .slice v.rA v.rn v.rc, .slice v.aA v.an v.ac, .slice v.tA v.tn v.tc, .slice v.eA v.en v.ec]
def SV.G (v : SV) : SG := ⟨v.f, v.rA, v.rn, v.rc, v.aA, v.ac, v.tA, v.tc, v.eA, v.ec⟩
def SV.Is (v : SV) (s : St) : Prop := v.kind = s.kind ∧ v.name = s.name ∧ v.rname = s.rf.name ∧ v.an = s.ars.length ∧ v.tn = s.thn.length ∧ v.en = s.els.length
/-- what stmt leaves -/
def RtP (w : World) (g : Nat) (ts : List Tk.Tok) (R : St × Pa.Sg) (d : Nat) (e : Ending) (w' : World) : Prop :=
  ∃ v : SV, e = .returned v.val ∧ (R.2.live = true → v.Is R.1 ∧ StM w' (w.heap.size ≤ ·) R.1 v.G) ∧ Rs w' g ts R.2 d ∧ w.grownBy w' (some g)
/-- what block leaves -/
def RbP (w : World) (g : Nat) (ts : List Tk.Tok) (R : List St × Pa.Sg) (d : Nat) (e : Ending) (w' : World) : Prop :=
  ∃ A n c, e = .returned (.slice A n c) ∧ (R.2.live = true → n = R.1.length ∧ StsM w' (w.heap.size ≤ ·) R.1 A) ∧ Rs w' g ts R.2 d ∧ w.grownBy w' (some g)
/-- block reads what b says -/
def RbC (g : Nat) (ts : List Tk.Tok) (b : Pa.Sg → List St × Pa.Sg) (d : Nat) : Prop :=
  ∀ w σ, Rs w g ts σ d → Calls Tryd.prog 54 #[.pointer (some ⟨g, 0, none⟩)] w (RbP w g ts (b σ) d)
theorem nx_live {τ : Pa.Sg} (h : (Pa.nx τ).live = true) : τ.live = true := by
  cases τ with
  | at_ k => rfl
  | bad m e => cases h

set_option maxRecDepth 100000 in
set_option maxHeartbeats 16000000 in
theorem rsStmt (w : World) (g : Nat) (ts : List Tk.Tok) (hT : TksOk ts) (b : Pa.Sg → List St × Pa.Sg) (hb : ∀ τ, Pa.Fwd τ (b τ).2) (σ : Pa.Sg) (d : Nat) (hB : RbC g ts b d) (hP : Rs w g ts σ d) :
    Calls Tryd.prog 81 #[.pointer (some ⟨g, 0, none⟩)] w (RtP w g ts (Pa.sStmt ts b σ) d) := by
  have HP := Lib.hid hP
  have HT := Lib.hid hT
  have HB := Lib.hid hB
  have HBF := Lib.hid hb
  have hgw := hP.lt
  have hgR' : w.heap.size ≠ g := by omega
  have hgT' : w.heap.size + 1 ≠ g := by omega
  have hTR : w.heap.size + 1 ≠ w.heap.size := by omega
  clear hP hT hB hb
  go_enter Tryd.func81, Tryd.ntmps81
  go_wp2_with fail
  obtain ⟨hn1, hn2⟩ := new2 w (.cells #[.int .i64 0, .string ⟨#[]⟩, .int .i64 0, .int .i64 0, .string ⟨#[]⟩, .slice none 0 0, .string ⟨#[]⟩, .slice none 0 0, .slice none 0 0, .slice none 0 0, .slice none 0 0] 126) (.cells #[.int .i64 0, .string ⟨#[]⟩, .int .i64 0, .int .i64 0, .string ⟨#[]⟩, .slice none 0 0, .string ⟨#[]⟩, .slice none 0 0, .slice none 0 0, .slice none 0 0, .slice none 0 0] 126)
  obtain ⟨wk, hwk⟩ : ∃ W, W = (w.alloc (.cells #[.int .i64 0, .string ⟨#[]⟩, .int .i64 0, .int .i64 0, .string ⟨#[]⟩, .slice none 0 0, .string ⟨#[]⟩, .slice none 0 0, .slice none 0 0, .slice none 0 0, .slice none 0 0] 126)).alloc (.cells #[.int .i64 0, .string ⟨#[]⟩, .int .i64 0, .int .i64 0, .string ⟨#[]⟩, .slice none 0 0, .string ⟨#[]⟩, .slice none 0 0, .slice none 0 0, .slice none 0 0, .slice none 0 0] 126) := ⟨_, rfl⟩
  have HRk : Hid (wk.heap[w.heap.size]? = some (.cells #[.int .i64 0, .string ⟨#[]⟩, .int .i64 0, .int .i64 0, .string ⟨#[]⟩, .slice none 0 0, .string ⟨#[]⟩, .slice none 0 0, .slice none 0 0, .slice none 0 0, .slice none 0 0] 126 (0, 0))) := by rw [hwk]; exact hn1
  have HTk : Hid (wk.heap[w.heap.size + 1]? = some (.cells #[.int .i64 0, .string ⟨#[]⟩, .int .i64 0, .int .i64 0, .string ⟨#[]⟩, .slice none 0 0, .string ⟨#[]⟩, .slice none 0 0, .slice none 0 0, .slice none 0 0, .slice none 0 0] 126 (0, 0))) := by rw [hwk]; exact hn2
  have HPk : Hid (Rs wk g ts σ d) := by rw [hwk]; exact (HP.out.alloc _).alloc _
  have HGk : Hid (w.grownBy wk (some g)) := by rw [hwk]; exact grown_alc (grown_alc (grown_below (Below.refl _ _)) _) _
  have hlk : w.heap.size + 1 < wk.heap.size := lt_of_block HTk.out
  rw [← hwk]
  clear hwk hn1 hn2 HP
  refine (rsTake wk g ts HT.out.last HT.out.kinds σ d [118, 97, 114] HPk.out).mono ?_
  rintro x wt0 ⟨rfl, hP, hG⟩
  have HRt0 := Lib.hid (kept_own hG HRk.out hgR')
  have HTt0 := Lib.hid (kept_own hG HTk.out hgT')
  have HPt0 := Lib.hid hP
  have HGt0 := Lib.hid (grown_trans HGk.out hG)
  have hlt0 : w.heap.size + 1 < wt0.heap.size := lt_of_block HTt0.out
  clear hP hG HRk HTk HPk HGk hlk
  cases hI : Pa.isS ts σ [118, 97, 114] with
  | true =>
    have hac : Pa.ac ts σ [118, 97, 114] = Pa.nx σ := if_pos hI
    rw [hac] at HPt0
    have HV : Hid (Pa.sStmt ts b σ = (.mk 1 (Pa.nmV ts (Pa.nx σ)) (Pa.exX ts (Pa.xp ts (Pa.tk ts (Pa.nx σ) 1) [61])) noRf [] [] [], Pa.xp ts (Pa.exS ts (Pa.xp ts (Pa.tk ts (Pa.nx σ) 1) [61])) [59])) := by
      show _ = _
      unfold Pa.sStmt
      rw [if_pos hI]
      rfl
    clear hac hI
    go_wp2_with fail
    refine (rsName wt0 g ts HT.out.last (Pa.nx σ) d HPt0.out).mono ?_
    rintro x wc1 ⟨rfl, hP, hG⟩
    have HRc1 := Lib.hid (kept_own hG HRt0.out hgR')
    have HTc1 := Lib.hid (kept_own hG HTt0.out hgT')
    have HPc1 := Lib.hid hP
    have HGc1 := Lib.hid (grown_trans HGt0.out hG)
    have hlc1 : w.heap.size + 1 < wc1.heap.size := lt_of_block HTc1.out
    clear hP hG  HTt0 HRt0 HPt0 HGt0 hlt0  
    generalize Pa.nmV ts (Pa.nx σ) = nm at *
    generalize Pa.tk ts (Pa.nx σ) 1 = τ1 at *
    obtain ⟨t0, t1, t2, t3, t4, t5, t6, t7, t8, t9, t10, tf, htl⟩ := blk11 HTc1.out
    have u0 := tf 0
    have u1 := tf 1
    clear tf htl
    go_wp2_with fail
    obtain ⟨wq2, hW⟩ : ∃ W, W = ((wc1.setCell ⟨w.heap.size + 1, 0, none⟩ (.int .i64 1)).setCell ⟨w.heap.size + 1, 1, none⟩ (.string ⟨nm.toArray⟩)) := ⟨_, rfl⟩
    have hq : PutAt (w.heap.size + 1) wc1 wq2 := by
      rw [hW]
      exact (((PutAt.refl (w.heap.size + 1) wc1).set 0 _).set 1 _)
    have HTq2 : Hid (wq2.heap[w.heap.size + 1]? = some (.cells #[.int .i64 1, .string ⟨nm.toArray⟩, .int .i64 0, .int .i64 0, .string ⟨#[]⟩, .slice none 0 0, .string ⟨#[]⟩, .slice none 0 0, .slice none 0 0, .slice none 0 0, .slice none 0 0] 126 (0, 0))) := by
      rw [hW]
      exact (blkset_any 1 _ (blkset_any 0 _ HTc1.out))
    have HRq2 := Lib.hid ((hq.2.2.2.2 _ (by omega)).trans HRc1.out)
    have HPq2 := Lib.hid (HPc1.out.putAt hq (by omega))
    have HGq2 := Lib.hid (grown_putAt HGc1.out hq (by omega))
    have hlq2 : w.heap.size + 1 < wq2.heap.size := lt_of_block HTq2.out
    rw [← hW]
    clear hW hq t0 t1 t2 t3 t4 t5 t6 t7 t8 t9 t10 u0 u1 HTc1 HRc1 HPc1 HGc1 hlc1 
    refine (rsMust wq2 g ts HT.out.last HT.out.kinds τ1 d [61] HPq2.out).mono ?_
    rintro x wc3 ⟨rfl, hP, hG⟩
    have HRc3 := Lib.hid (kept_own hG HRq2.out hgR')
    have HTc3 := Lib.hid (kept_own hG HTq2.out hgT')
    have HPc3 := Lib.hid hP
    have HGc3 := Lib.hid (grown_trans HGq2.out hG)
    have hlc3 : w.heap.size + 1 < wc3.heap.size := lt_of_block HTc3.out
    clear hP hG  HTq2 HRq2 HPq2 HGq2 hlq2  
    generalize Pa.xp ts τ1 [61] = τ2 at *
    go_wp2_with fail
    refine (rsExpr wc3 g ts HT.out τ2 d HPc3.out).mono ?_
    rintro x wc4 ⟨f, rfl, hP, hG, hX⟩
    unfold EF.val
    have HRc4 := Lib.hid (kept_own hG HRc3.out hgR')
    have HTc4 := Lib.hid (kept_own hG HTc3.out hgT')
    have HXc4 := Lib.hid (fun h => (hX h).more (S' := (w.heap.size + 2 ≤ ·)) fun b hb => by omega)
    have HPc4 := Lib.hid hP
    have HGc4 := Lib.hid (grown_trans HGc3.out hG)
    have hlc4 : w.heap.size + 1 < wc4.heap.size := lt_of_block HTc4.out
    clear hP hG  HTc3 HRc3 HPc3 HGc3 hlc3  hX
    generalize Pa.exX ts τ2 = E at *
    generalize Pa.exS ts τ2 = τ3 at *
    obtain ⟨t0, t1, t2, t3, t4, t5, t6, t7, t8, t9, t10, tf, htl⟩ := blk11 HTc4.out
    have u2 := tf 2
    have u3 := tf 3
    have u4 := tf 4
    have u5 := tf 5
    clear tf htl
    go_wp2_with fail
    obtain ⟨wq5, hW⟩ : ∃ W, W = ((((wc4.setCell ⟨w.heap.size + 1, 2, none⟩ (.int .i64 f.op)).setCell ⟨w.heap.size + 1, 3, none⟩ (.int .i64 f.num)).setCell ⟨w.heap.size + 1, 4, none⟩ (.string ⟨f.name.toArray⟩)).setCell ⟨w.heap.size + 1, 5, none⟩ (.slice f.A f.n f.c)) := ⟨_, rfl⟩
    have hq : PutAt (w.heap.size + 1) wc4 wq5 := by
      rw [hW]
      exact (((((PutAt.refl (w.heap.size + 1) wc4).set 2 _).set 3 _).set 4 _).set 5 _)
    have HTq5 : Hid (wq5.heap[w.heap.size + 1]? = some (.cells #[.int .i64 1, .string ⟨nm.toArray⟩, .int .i64 f.op, .int .i64 f.num, .string ⟨f.name.toArray⟩, .slice f.A f.n f.c, .string ⟨#[]⟩, .slice none 0 0, .slice none 0 0, .slice none 0 0, .slice none 0 0] 126 (0, 0))) := by
      rw [hW]
      exact (blkset_any 5 _ (blkset_any 4 _ (blkset_any 3 _ (blkset_any 2 _ HTc4.out))))
    have HRq5 := Lib.hid ((hq.2.2.2.2 _ (by omega)).trans HRc4.out)
    have HXq5 := Lib.hid (fun h => (HXc4.out h).putAt hq (by omega))
    have HPq5 := Lib.hid (HPc4.out.putAt hq (by omega))
    have HGq5 := Lib.hid (grown_putAt HGc4.out hq (by omega))
    have hlq5 : w.heap.size + 1 < wq5.heap.size := lt_of_block HTq5.out
    rw [← hW]
    clear hW hq t0 t1 t2 t3 t4 t5 t6 t7 t8 t9 t10 u2 u3 u4 u5 HTc4 HRc4 HPc4 HGc4 hlc4 HXc4
    refine (rsMust wq5 g ts HT.out.last HT.out.kinds τ3 d [59] HPq5.out).mono ?_
    rintro x wc6 ⟨rfl, hP, hG⟩
    have HRc6 := Lib.hid (kept_own hG HRq5.out hgR')
    have HTc6 := Lib.hid (kept_own hG HTq5.out hgT')
    have HXc6 := Lib.hid (fun h => (HXq5.out h).gr hG (by omega))
    have HPc6 := Lib.hid hP
    have HGc6 := Lib.hid (grown_trans HGq5.out hG)
    have hlc6 : w.heap.size + 1 < wc6.heap.size := lt_of_block HTc6.out
    clear hP hG  HTq5 HRq5 HPq5 HGq5 hlq5 HXq5 
    obtain ⟨r0, r1, r2, r3, r4, r5, r6, r7, r8, r9, r10, rf, -⟩ := blk11 HRc6.out
    obtain ⟨t0, t1, t2, t3, t4, t5, t6, t7, t8, t9, t10, tf, -⟩ := blk11 HTc6.out
    have f0 := rf 0
    have f1 := rf 1
    have f2 := rf 2
    have f3 := rf 3
    have f4 := rf 4
    have f5 := rf 5
    have f6 := rf 6
    have f7 := rf 7
    have f8 := rf 8
    have f9 := rf 9
    have f10 := rf 10
    clear rf tf
    go_wp2_with fail
    have hq : PutAt w.heap.size wc6 _ := ((((((((((((PutAt.refl w.heap.size wc6).set 0 (.int .i64 1)).set 1 (.string ⟨nm.toArray⟩)).set 2 (.int .i64 f.op)).set 3 (.int .i64 f.num)).set 4 (.string ⟨f.name.toArray⟩)).set 5 (.slice f.A f.n f.c)).set 6 (.string ⟨#[]⟩)).set 7 (.slice none 0 0)).set 8 (.slice none 0 0)).set 9 (.slice none 0 0)).set 10 (.slice none 0 0))
    refine bodyPost_ret (v := .agg #[.int .i64 1, .string ⟨nm.toArray⟩, .int .i64 f.op, .int .i64 f.num, .string ⟨f.name.toArray⟩, .slice f.A f.n f.c, .string ⟨#[]⟩, .slice none 0 0, .slice none 0 0, .slice none 0 0, .slice none 0 0]) (by simp [results, Tryd.results81, go_sem, r0, r1, r2, r3, r4, r5, r6, r7, r8, r9, r10]) rfl ⟨⟨1, nm, f, [], none, 0, 0, none, 0, 0, none, 0, 0, none, 0, 0⟩, rfl, fun hl => ?_, ?_, ?_⟩
    · rw [HV.out] at hl ⊢
      exact ⟨⟨rfl, rfl, rfl, rfl, rfl, rfl⟩, stM_mk _ _ _ _ _ _ _ _ (((HXc6.out (xp_live hl)).putAt hq (by omega)).more fun b hb => by omega) rfl (ArsM.nil _ _ _) (StsM.nil _ _ _) (StsM.nil _ _ _)⟩
    · rw [HV.out]
      exact HPc6.out.putAt hq hgw
    · exact grown_putAt HGc6.out hq (Nat.le_refl _)
  | false =>
    have hac : Pa.ac ts σ [118, 97, 114] = σ := if_neg (by rw [hI]; decide)
    rw [hac] at HPt0
    have HN0 := Lib.hid hI
    clear hac hI
    go_wp2_with fail
    refine (rsTake wt0 g ts HT.out.last HT.out.kinds σ d [103, 111] HPt0.out).mono ?_
    rintro x wt1 ⟨rfl, hP, hG⟩
    have HRt1 := Lib.hid (kept_own hG HRt0.out hgR')
    have HTt1 := Lib.hid (kept_own hG HTt0.out hgT')
    have HPt1 := Lib.hid hP
    have HGt1 := Lib.hid (grown_trans HGt0.out hG)
    have hlt1 : w.heap.size + 1 < wt1.heap.size := lt_of_block HTt1.out
    clear hP hG HRt0 HTt0 HPt0 HGt0 hlt0
    cases hI : Pa.isS ts σ [103, 111] with
    | true =>
      have hac : Pa.ac ts σ [103, 111] = Pa.nx σ := if_pos hI
      rw [hac] at HPt1
      have HV : Hid (Pa.sStmt ts b σ = (.mk 4 (Pa.nmV ts (Pa.nx σ)) noEx noRf (Pa.sArgs ts (Pa.tk ts (Pa.nx σ) 1)).1 [] [], Pa.xp ts (Pa.sArgs ts (Pa.tk ts (Pa.nx σ) 1)).2 [59])) := by
        show _ = _
        unfold Pa.sStmt
        rw [if_neg (by rw [HN0.out]; decide), if_pos hI]
        rfl
      clear hac hI
      go_wp2_with fail
      refine (rsName wt1 g ts HT.out.last (Pa.nx σ) d HPt1.out).mono ?_
      rintro x wc1 ⟨rfl, hP, hG⟩
      have HRc1 := Lib.hid (kept_own hG HRt1.out hgR')
      have HTc1 := Lib.hid (kept_own hG HTt1.out hgT')
      have HPc1 := Lib.hid hP
      have HGc1 := Lib.hid (grown_trans HGt1.out hG)
      have hlc1 : w.heap.size + 1 < wc1.heap.size := lt_of_block HTc1.out
      clear hP hG  HTt1 HRt1 HPt1 HGt1 hlt1  
      generalize Pa.nmV ts (Pa.nx σ) = nm at *
      generalize Pa.tk ts (Pa.nx σ) 1 = τ1 at *
      obtain ⟨t0, t1, t2, t3, t4, t5, t6, t7, t8, t9, t10, tf, htl⟩ := blk11 HTc1.out
      have u0 := tf 0
      have u1 := tf 1
      clear tf htl
      go_wp2_with fail
      obtain ⟨wq2, hW⟩ : ∃ W, W = ((wc1.setCell ⟨w.heap.size + 1, 0, none⟩ (.int .i64 4)).setCell ⟨w.heap.size + 1, 1, none⟩ (.string ⟨nm.toArray⟩)) := ⟨_, rfl⟩
      have hq : PutAt (w.heap.size + 1) wc1 wq2 := by
        rw [hW]
        exact (((PutAt.refl (w.heap.size + 1) wc1).set 0 _).set 1 _)
      have HTq2 : Hid (wq2.heap[w.heap.size + 1]? = some (.cells #[.int .i64 4, .string ⟨nm.toArray⟩, .int .i64 0, .int .i64 0, .string ⟨#[]⟩, .slice none 0 0, .string ⟨#[]⟩, .slice none 0 0, .slice none 0 0, .slice none 0 0, .slice none 0 0] 126 (0, 0))) := by
        rw [hW]
        exact (blkset_any 1 _ (blkset_any 0 _ HTc1.out))
      have HRq2 := Lib.hid ((hq.2.2.2.2 _ (by omega)).trans HRc1.out)
      have HPq2 := Lib.hid (HPc1.out.putAt hq (by omega))
      have HGq2 := Lib.hid (grown_putAt HGc1.out hq (by omega))
      have hlq2 : w.heap.size + 1 < wq2.heap.size := lt_of_block HTq2.out
      rw [← hW]
      clear hW hq t0 t1 t2 t3 t4 t5 t6 t7 t8 t9 t10 u0 u1 HTc1 HRc1 HPc1 HGc1 hlc1 
      refine (rsArgs wq2 g ts HT.out τ1 d HPq2.out).mono ?_
      rintro x wc3 ⟨A, n, c, rfl, hX, hP, hG⟩
      have HRc3 := Lib.hid (kept_own hG HRq2.out hgR')
      have HTc3 := Lib.hid (kept_own hG HTq2.out hgT')
      have HXc3 := Lib.hid (fun h => And.intro (hX h).1 ((hX h).2.more (S' := (w.heap.size + 2 ≤ ·)) fun b hb _ => by omega))
      have HPc3 := Lib.hid hP
      have HGc3 := Lib.hid (grown_trans HGq2.out hG)
      have hlc3 : w.heap.size + 1 < wc3.heap.size := lt_of_block HTc3.out
      clear hP hG  HTq2 HRq2 HPq2 HGq2 hlq2  hX
      generalize (Pa.sArgs ts τ1).1 = l at *
      generalize (Pa.sArgs ts τ1).2 = τ2 at *
      obtain ⟨t0, t1, t2, t3, t4, t5, t6, t7, t8, t9, t10, tf, htl⟩ := blk11 HTc3.out
      have u8 := tf 8
      clear tf htl
      go_wp2_with fail
      obtain ⟨wq4, hW⟩ : ∃ W, W = (wc3.setCell ⟨w.heap.size + 1, 8, none⟩ (.slice A n c)) := ⟨_, rfl⟩
      have hq : PutAt (w.heap.size + 1) wc3 wq4 := by
        rw [hW]
        exact ((PutAt.refl (w.heap.size + 1) wc3).set 8 _)
      have HTq4 : Hid (wq4.heap[w.heap.size + 1]? = some (.cells #[.int .i64 4, .string ⟨nm.toArray⟩, .int .i64 0, .int .i64 0, .string ⟨#[]⟩, .slice none 0 0, .string ⟨#[]⟩, .slice none 0 0, .slice A n c, .slice none 0 0, .slice none 0 0] 126 (0, 0))) := by
        rw [hW]
        exact (blkset_any 8 _ HTc3.out)
      have HRq4 := Lib.hid ((hq.2.2.2.2 _ (by omega)).trans HRc3.out)
      have HXq4 := Lib.hid (fun h => And.intro (HXc3.out h).1 ((HXc3.out h).2.putAt hq (by omega)))
      have HPq4 := Lib.hid (HPc3.out.putAt hq (by omega))
      have HGq4 := Lib.hid (grown_putAt HGc3.out hq (by omega))
      have hlq4 : w.heap.size + 1 < wq4.heap.size := lt_of_block HTq4.out
      rw [← hW]
      clear hW hq t0 t1 t2 t3 t4 t5 t6 t7 t8 t9 t10 u8 HTc3 HRc3 HPc3 HGc3 hlc3 HXc3
      refine (rsMust wq4 g ts HT.out.last HT.out.kinds τ2 d [59] HPq4.out).mono ?_
      rintro x wc5 ⟨rfl, hP, hG⟩
      have HRc5 := Lib.hid (kept_own hG HRq4.out hgR')
      have HTc5 := Lib.hid (kept_own hG HTq4.out hgT')
      have HXc5 := Lib.hid (fun h => And.intro (HXq4.out h).1 ((HXq4.out h).2.gr hG (by omega)))
      have HPc5 := Lib.hid hP
      have HGc5 := Lib.hid (grown_trans HGq4.out hG)
      have hlc5 : w.heap.size + 1 < wc5.heap.size := lt_of_block HTc5.out
      clear hP hG  HTq4 HRq4 HPq4 HGq4 hlq4 HXq4 
      obtain ⟨r0, r1, r2, r3, r4, r5, r6, r7, r8, r9, r10, rf, -⟩ := blk11 HRc5.out
      obtain ⟨t0, t1, t2, t3, t4, t5, t6, t7, t8, t9, t10, tf, -⟩ := blk11 HTc5.out
      have f0 := rf 0
      have f1 := rf 1
      have f2 := rf 2
      have f3 := rf 3
      have f4 := rf 4
      have f5 := rf 5
      have f6 := rf 6
      have f7 := rf 7
      have f8 := rf 8
      have f9 := rf 9
      have f10 := rf 10
      clear rf tf
      go_wp2_with fail
      have hq : PutAt w.heap.size wc5 _ := ((((((((((((PutAt.refl w.heap.size wc5).set 0 (.int .i64 4)).set 1 (.string ⟨nm.toArray⟩)).set 2 (.int .i64 0)).set 3 (.int .i64 0)).set 4 (.string ⟨#[]⟩)).set 5 (.slice none 0 0)).set 6 (.string ⟨#[]⟩)).set 7 (.slice none 0 0)).set 8 (.slice A n c)).set 9 (.slice none 0 0)).set 10 (.slice none 0 0))
      refine bodyPost_ret (v := .agg #[.int .i64 4, .string ⟨nm.toArray⟩, .int .i64 0, .int .i64 0, .string ⟨#[]⟩, .slice none 0 0, .string ⟨#[]⟩, .slice none 0 0, .slice A n c, .slice none 0 0, .slice none 0 0]) (by simp [results, Tryd.results81, go_sem, r0, r1, r2, r3, r4, r5, r6, r7, r8, r9, r10]) rfl ⟨⟨4, nm, ⟨0, 0, [], none, 0, 0⟩, [], none, 0, 0, A, n, c, none, 0, 0, none, 0, 0⟩, rfl, fun hl => ?_, ?_, ?_⟩
      · rw [HV.out] at hl ⊢
        have h1 := HXc5.out (xp_live hl)
        exact ⟨⟨rfl, rfl, rfl, h1.1, rfl, rfl⟩, stM_mk _ _ _ _ _ _ _ _ (ExM.leaf _ _ _ _ _ _ _) rfl (((h1.2).putAt hq (by omega)).more fun b hb _ => by omega) (StsM.nil _ _ _) (StsM.nil _ _ _)⟩
      · rw [HV.out]
        exact HPc5.out.putAt hq hgw
      · exact grown_putAt HGc5.out hq (Nat.le_refl _)
    | false =>
      have hac : Pa.ac ts σ [103, 111] = σ := if_neg (by rw [hI]; decide)
      rw [hac] at HPt1
      have HN1 := Lib.hid hI
      clear hac hI
      go_wp2_with fail
      refine (rsTake wt1 g ts HT.out.last HT.out.kinds σ d [108, 111, 99, 107] HPt1.out).mono ?_
      rintro x wt2 ⟨rfl, hP, hG⟩
      have HRt2 := Lib.hid (kept_own hG HRt1.out hgR')
      have HTt2 := Lib.hid (kept_own hG HTt1.out hgT')
      have HPt2 := Lib.hid hP
      have HGt2 := Lib.hid (grown_trans HGt1.out hG)
      have hlt2 : w.heap.size + 1 < wt2.heap.size := lt_of_block HTt2.out
      clear hP hG HRt1 HTt1 HPt1 HGt1 hlt1
      cases hI : Pa.isS ts σ [108, 111, 99, 107] with
      | true =>
        have hac : Pa.ac ts σ [108, 111, 99, 107] = Pa.nx σ := if_pos hI
        rw [hac] at HPt2
        have HV : Hid (Pa.sStmt ts b σ = (.mk 5 [] noEx (Pa.sRef ts (Pa.nx σ)).1 [] [] [], Pa.xp ts (Pa.sRef ts (Pa.nx σ)).2 [59])) := by
          show _ = _
          unfold Pa.sStmt
          rw [if_neg (by rw [HN0.out]; decide), if_neg (by rw [HN1.out]; decide), if_pos hI]
          rfl
        clear hac hI
        go_wp2_with fail
        refine (rsRef wt2 g ts HT.out (Pa.nx σ) d HPt2.out).mono ?_
        rintro x wc1 ⟨A, n, c, rfl, hX, hP, hG⟩
        have HRc1 := Lib.hid (kept_own hG HRt2.out hgR')
        have HTc1 := Lib.hid (kept_own hG HTt2.out hgT')
        have HXc1 := Lib.hid (fun h => (hX h).more (S' := (w.heap.size + 2 ≤ ·)) fun b hb => by omega)
        have HPc1 := Lib.hid hP
        have HGc1 := Lib.hid (grown_trans HGt2.out hG)
        have hlc1 : w.heap.size + 1 < wc1.heap.size := lt_of_block HTc1.out
        clear hP hG  HTt2 HRt2 HPt2 HGt2 hlt2  hX
        generalize (Pa.sRef ts (Pa.nx σ)).1 = r at *
        generalize (Pa.sRef ts (Pa.nx σ)).2 = τ2 at *
        obtain ⟨t0, t1, t2, t3, t4, t5, t6, t7, t8, t9, t10, tf, htl⟩ := blk11 HTc1.out
        have u0 := tf 0
        have u6 := tf 6
        have u7 := tf 7
        clear tf htl
        go_wp2_with fail
        obtain ⟨wq2, hW⟩ : ∃ W, W = (((wc1.setCell ⟨w.heap.size + 1, 0, none⟩ (.int .i64 5)).setCell ⟨w.heap.size + 1, 6, none⟩ (.string ⟨r.name.toArray⟩)).setCell ⟨w.heap.size + 1, 7, none⟩ (.slice A n c)) := ⟨_, rfl⟩
        have hq : PutAt (w.heap.size + 1) wc1 wq2 := by
          rw [hW]
          exact ((((PutAt.refl (w.heap.size + 1) wc1).set 0 _).set 6 _).set 7 _)
        have HTq2 : Hid (wq2.heap[w.heap.size + 1]? = some (.cells #[.int .i64 5, .string ⟨#[]⟩, .int .i64 0, .int .i64 0, .string ⟨#[]⟩, .slice none 0 0, .string ⟨r.name.toArray⟩, .slice A n c, .slice none 0 0, .slice none 0 0, .slice none 0 0] 126 (0, 0))) := by
          rw [hW]
          exact (blkset_any 7 _ (blkset_any 6 _ (blkset_any 0 _ HTc1.out)))
        have HRq2 := Lib.hid ((hq.2.2.2.2 _ (by omega)).trans HRc1.out)
        have HXq2 := Lib.hid (fun h => (HXc1.out h).putAt hq (by omega))
        have HPq2 := Lib.hid (HPc1.out.putAt hq (by omega))
        have HGq2 := Lib.hid (grown_putAt HGc1.out hq (by omega))
        have hlq2 : w.heap.size + 1 < wq2.heap.size := lt_of_block HTq2.out
        rw [← hW]
        clear hW hq t0 t1 t2 t3 t4 t5 t6 t7 t8 t9 t10 u0 u6 u7 HTc1 HRc1 HPc1 HGc1 hlc1 HXc1
        refine (rsMust wq2 g ts HT.out.last HT.out.kinds τ2 d [59] HPq2.out).mono ?_
        rintro x wc3 ⟨rfl, hP, hG⟩
        have HRc3 := Lib.hid (kept_own hG HRq2.out hgR')
        have HTc3 := Lib.hid (kept_own hG HTq2.out hgT')
        have HXc3 := Lib.hid (fun h => (HXq2.out h).gr hG (by omega))
        have HPc3 := Lib.hid hP
        have HGc3 := Lib.hid (grown_trans HGq2.out hG)
        have hlc3 : w.heap.size + 1 < wc3.heap.size := lt_of_block HTc3.out
        clear hP hG  HTq2 HRq2 HPq2 HGq2 hlq2 HXq2 
        obtain ⟨r0, r1, r2, r3, r4, r5, r6, r7, r8, r9, r10, rf, -⟩ := blk11 HRc3.out
        obtain ⟨t0, t1, t2, t3, t4, t5, t6, t7, t8, t9, t10, tf, -⟩ := blk11 HTc3.out
        have f0 := rf 0
        have f1 := rf 1
        have f2 := rf 2
        have f3 := rf 3
        have f4 := rf 4
        have f5 := rf 5
        have f6 := rf 6
        have f7 := rf 7
        have f8 := rf 8
        have f9 := rf 9
        have f10 := rf 10
        clear rf tf
        go_wp2_with fail
        have hq : PutAt w.heap.size wc3 _ := ((((((((((((PutAt.refl w.heap.size wc3).set 0 (.int .i64 5)).set 1 (.string ⟨#[]⟩)).set 2 (.int .i64 0)).set 3 (.int .i64 0)).set 4 (.string ⟨#[]⟩)).set 5 (.slice none 0 0)).set 6 (.string ⟨r.name.toArray⟩)).set 7 (.slice A n c)).set 8 (.slice none 0 0)).set 9 (.slice none 0 0)).set 10 (.slice none 0 0))
        refine bodyPost_ret (v := .agg #[.int .i64 5, .string ⟨#[]⟩, .int .i64 0, .int .i64 0, .string ⟨#[]⟩, .slice none 0 0, .string ⟨r.name.toArray⟩, .slice A n c, .slice none 0 0, .slice none 0 0, .slice none 0 0]) (by simp [results, Tryd.results81, go_sem, r0, r1, r2, r3, r4, r5, r6, r7, r8, r9, r10]) rfl ⟨⟨5, [], ⟨0, 0, [], none, 0, 0⟩, r.name, A, n, c, none, 0, 0, none, 0, 0, none, 0, 0⟩, rfl, fun hl => ?_, ?_, ?_⟩
        · rw [HV.out] at hl ⊢
          exact ⟨⟨rfl, rfl, rfl, rfl, rfl, rfl⟩, stM_mk _ _ _ _ _ _ _ _ (ExM.leaf _ _ _ _ _ _ _) (((HXc3.out (xp_live hl)).putAt hq (by omega)).more fun b hb => by omega) (ArsM.nil _ _ _) (StsM.nil _ _ _) (StsM.nil _ _ _)⟩
        · rw [HV.out]
          exact HPc3.out.putAt hq hgw
        · exact grown_putAt HGc3.out hq (Nat.le_refl _)
      | false =>
        have hac : Pa.ac ts σ [108, 111, 99, 107] = σ := if_neg (by rw [hI]; decide)
        rw [hac] at HPt2
        have HN2 := Lib.hid hI
        clear hac hI
        go_wp2_with fail
        refine (rsTake wt2 g ts HT.out.last HT.out.kinds σ d [117, 110, 108, 111, 99, 107] HPt2.out).mono ?_
        rintro x wt3 ⟨rfl, hP, hG⟩
        have HRt3 := Lib.hid (kept_own hG HRt2.out hgR')
        have HTt3 := Lib.hid (kept_own hG HTt2.out hgT')
        have HPt3 := Lib.hid hP
        have HGt3 := Lib.hid (grown_trans HGt2.out hG)
        have hlt3 : w.heap.size + 1 < wt3.heap.size := lt_of_block HTt3.out
        clear hP hG HRt2 HTt2 HPt2 HGt2 hlt2
        cases hI : Pa.isS ts σ [117, 110, 108, 111, 99, 107] with
        | true =>
          have hac : Pa.ac ts σ [117, 110, 108, 111, 99, 107] = Pa.nx σ := if_pos hI
          rw [hac] at HPt3
          have HV : Hid (Pa.sStmt ts b σ = (.mk 6 [] noEx (Pa.sRef ts (Pa.nx σ)).1 [] [] [], Pa.xp ts (Pa.sRef ts (Pa.nx σ)).2 [59])) := by
            show _ = _
            unfold Pa.sStmt
            rw [if_neg (by rw [HN0.out]; decide), if_neg (by rw [HN1.out]; decide), if_neg (by rw [HN2.out]; decide), if_pos hI]
            rfl
          clear hac hI
          go_wp2_with fail
          refine (rsRef wt3 g ts HT.out (Pa.nx σ) d HPt3.out).mono ?_
          rintro x wc1 ⟨A, n, c, rfl, hX, hP, hG⟩
          have HRc1 := Lib.hid (kept_own hG HRt3.out hgR')
          have HTc1 := Lib.hid (kept_own hG HTt3.out hgT')
          have HXc1 := Lib.hid (fun h => (hX h).more (S' := (w.heap.size + 2 ≤ ·)) fun b hb => by omega)
          have HPc1 := Lib.hid hP
          have HGc1 := Lib.hid (grown_trans HGt3.out hG)
          have hlc1 : w.heap.size + 1 < wc1.heap.size := lt_of_block HTc1.out
          clear hP hG  HTt3 HRt3 HPt3 HGt3 hlt3  hX
          generalize (Pa.sRef ts (Pa.nx σ)).1 = r at *
          generalize (Pa.sRef ts (Pa.nx σ)).2 = τ2 at *
          obtain ⟨t0, t1, t2, t3, t4, t5, t6, t7, t8, t9, t10, tf, htl⟩ := blk11 HTc1.out
          have u0 := tf 0
          have u6 := tf 6
          have u7 := tf 7
          clear tf htl
          go_wp2_with fail
          obtain ⟨wq2, hW⟩ : ∃ W, W = (((wc1.setCell ⟨w.heap.size + 1, 0, none⟩ (.int .i64 6)).setCell ⟨w.heap.size + 1, 6, none⟩ (.string ⟨r.name.toArray⟩)).setCell ⟨w.heap.size + 1, 7, none⟩ (.slice A n c)) := ⟨_, rfl⟩
          have hq : PutAt (w.heap.size + 1) wc1 wq2 := by
            rw [hW]
            exact ((((PutAt.refl (w.heap.size + 1) wc1).set 0 _).set 6 _).set 7 _)
          have HTq2 : Hid (wq2.heap[w.heap.size + 1]? = some (.cells #[.int .i64 6, .string ⟨#[]⟩, .int .i64 0, .int .i64 0, .string ⟨#[]⟩, .slice none 0 0, .string ⟨r.name.toArray⟩, .slice A n c, .slice none 0 0, .slice none 0 0, .slice none 0 0] 126 (0, 0))) := by
            rw [hW]
            exact (blkset_any 7 _ (blkset_any 6 _ (blkset_any 0 _ HTc1.out)))
          have HRq2 := Lib.hid ((hq.2.2.2.2 _ (by omega)).trans HRc1.out)
          have HXq2 := Lib.hid (fun h => (HXc1.out h).putAt hq (by omega))
          have HPq2 := Lib.hid (HPc1.out.putAt hq (by omega))
          have HGq2 := Lib.hid (grown_putAt HGc1.out hq (by omega))
          have hlq2 : w.heap.size + 1 < wq2.heap.size := lt_of_block HTq2.out
          rw [← hW]
          clear hW hq t0 t1 t2 t3 t4 t5 t6 t7 t8 t9 t10 u0 u6 u7 HTc1 HRc1 HPc1 HGc1 hlc1 HXc1
          refine (rsMust wq2 g ts HT.out.last HT.out.kinds τ2 d [59] HPq2.out).mono ?_
          rintro x wc3 ⟨rfl, hP, hG⟩
          have HRc3 := Lib.hid (kept_own hG HRq2.out hgR')
          have HTc3 := Lib.hid (kept_own hG HTq2.out hgT')
          have HXc3 := Lib.hid (fun h => (HXq2.out h).gr hG (by omega))
          have HPc3 := Lib.hid hP
          have HGc3 := Lib.hid (grown_trans HGq2.out hG)
          have hlc3 : w.heap.size + 1 < wc3.heap.size := lt_of_block HTc3.out
          clear hP hG  HTq2 HRq2 HPq2 HGq2 hlq2 HXq2 
          obtain ⟨r0, r1, r2, r3, r4, r5, r6, r7, r8, r9, r10, rf, -⟩ := blk11 HRc3.out
          obtain ⟨t0, t1, t2, t3, t4, t5, t6, t7, t8, t9, t10, tf, -⟩ := blk11 HTc3.out
          have f0 := rf 0
          have f1 := rf 1
          have f2 := rf 2
          have f3 := rf 3
          have f4 := rf 4
          have f5 := rf 5
          have f6 := rf 6
          have f7 := rf 7
          have f8 := rf 8
          have f9 := rf 9
          have f10 := rf 10
          clear rf tf
          go_wp2_with fail
          have hq : PutAt w.heap.size wc3 _ := ((((((((((((PutAt.refl w.heap.size wc3).set 0 (.int .i64 6)).set 1 (.string ⟨#[]⟩)).set 2 (.int .i64 0)).set 3 (.int .i64 0)).set 4 (.string ⟨#[]⟩)).set 5 (.slice none 0 0)).set 6 (.string ⟨r.name.toArray⟩)).set 7 (.slice A n c)).set 8 (.slice none 0 0)).set 9 (.slice none 0 0)).set 10 (.slice none 0 0))
          refine bodyPost_ret (v := .agg #[.int .i64 6, .string ⟨#[]⟩, .int .i64 0, .int .i64 0, .string ⟨#[]⟩, .slice none 0 0, .string ⟨r.name.toArray⟩, .slice A n c, .slice none 0 0, .slice none 0 0, .slice none 0 0]) (by simp [results, Tryd.results81, go_sem, r0, r1, r2, r3, r4, r5, r6, r7, r8, r9, r10]) rfl ⟨⟨6, [], ⟨0, 0, [], none, 0, 0⟩, r.name, A, n, c, none, 0, 0, none, 0, 0, none, 0, 0⟩, rfl, fun hl => ?_, ?_, ?_⟩
          · rw [HV.out] at hl ⊢
            exact ⟨⟨rfl, rfl, rfl, rfl, rfl, rfl⟩, stM_mk _ _ _ _ _ _ _ _ (ExM.leaf _ _ _ _ _ _ _) (((HXc3.out (xp_live hl)).putAt hq (by omega)).more fun b hb => by omega) (ArsM.nil _ _ _) (StsM.nil _ _ _) (StsM.nil _ _ _)⟩
          · rw [HV.out]
            exact HPc3.out.putAt hq hgw
          · exact grown_putAt HGc3.out hq (Nat.le_refl _)
        | false =>
          have hac : Pa.ac ts σ [117, 110, 108, 111, 99, 107] = σ := if_neg (by rw [hI]; decide)
          rw [hac] at HPt3
          have HN3 := Lib.hid hI
          clear hac hI
          go_wp2_with fail
          refine (rsTake wt3 g ts HT.out.last HT.out.kinds σ d [105, 102] HPt3.out).mono ?_
          rintro x wt4 ⟨rfl, hP, hG⟩
          have HRt4 := Lib.hid (kept_own hG HRt3.out hgR')
          have HTt4 := Lib.hid (kept_own hG HTt3.out hgT')
          have HPt4 := Lib.hid hP
          have HGt4 := Lib.hid (grown_trans HGt3.out hG)
          have hlt4 : w.heap.size + 1 < wt4.heap.size := lt_of_block HTt4.out
          clear hP hG HRt3 HTt3 HPt3 HGt3 hlt3
          cases hI : Pa.isS ts σ [105, 102] with
          | true =>
            have hac : Pa.ac ts σ [105, 102] = Pa.nx σ := if_pos hI
            rw [hac] at HPt4
            have HV0 : Hid (Pa.sStmt ts b σ = if Pa.isS ts (b (Pa.exS ts (Pa.nx σ))).2 [101, 108, 115, 101] = true then (.mk 7 [] (Pa.exX ts (Pa.nx σ)) noRf [] (b (Pa.exS ts (Pa.nx σ))).1 (b (Pa.nx (b (Pa.exS ts (Pa.nx σ))).2)).1, (b (Pa.nx (b (Pa.exS ts (Pa.nx σ))).2)).2) else (.mk 7 [] (Pa.exX ts (Pa.nx σ)) noRf [] (b (Pa.exS ts (Pa.nx σ))).1 [], (b (Pa.exS ts (Pa.nx σ))).2)) := by
              show _ = _
              unfold Pa.sStmt
              rw [if_neg (by rw [HN0.out]; decide), if_neg (by rw [HN1.out]; decide), if_neg (by rw [HN2.out]; decide), if_neg (by rw [HN3.out]; decide), if_pos hI]
              rfl
            clear hac hI
            go_wp2_with fail
            refine (rsExpr wt4 g ts HT.out (Pa.nx σ) d HPt4.out).mono ?_
            rintro x wc1 ⟨f, rfl, hP, hG, hX⟩
            unfold EF.val
            have HRc1 := Lib.hid (kept_own hG HRt4.out hgR')
            have HTc1 := Lib.hid (kept_own hG HTt4.out hgT')
            have HXc1 := Lib.hid (fun h => (hX h).more (S' := (w.heap.size + 2 ≤ ·)) fun b hb => by omega)
            have HPc1 := Lib.hid hP
            have HGc1 := Lib.hid (grown_trans HGt4.out hG)
            have hlc1 : w.heap.size + 1 < wc1.heap.size := lt_of_block HTc1.out
            clear hP hG  HTt4 HRt4 HPt4 HGt4 hlt4  hX
            generalize Pa.exX ts (Pa.nx σ) = E at *
            generalize Pa.exS ts (Pa.nx σ) = τ1 at *
            obtain ⟨t0, t1, t2, t3, t4, t5, t6, t7, t8, t9, t10, tf, htl⟩ := blk11 HTc1.out
            have u0 := tf 0
            have u2 := tf 2
            have u3 := tf 3
            have u4 := tf 4
            have u5 := tf 5
            clear tf htl
            go_wp2_with fail
            obtain ⟨wq2, hW⟩ : ∃ W, W = (((((wc1.setCell ⟨w.heap.size + 1, 0, none⟩ (.int .i64 7)).setCell ⟨w.heap.size + 1, 2, none⟩ (.int .i64 f.op)).setCell ⟨w.heap.size + 1, 3, none⟩ (.int .i64 f.num)).setCell ⟨w.heap.size + 1, 4, none⟩ (.string ⟨f.name.toArray⟩)).setCell ⟨w.heap.size + 1, 5, none⟩ (.slice f.A f.n f.c)) := ⟨_, rfl⟩
            have hq : PutAt (w.heap.size + 1) wc1 wq2 := by
              rw [hW]
              exact ((((((PutAt.refl (w.heap.size + 1) wc1).set 0 _).set 2 _).set 3 _).set 4 _).set 5 _)
            have HTq2 : Hid (wq2.heap[w.heap.size + 1]? = some (.cells #[.int .i64 7, .string ⟨#[]⟩, .int .i64 f.op, .int .i64 f.num, .string ⟨f.name.toArray⟩, .slice f.A f.n f.c, .string ⟨#[]⟩, .slice none 0 0, .slice none 0 0, .slice none 0 0, .slice none 0 0] 126 (0, 0))) := by
              rw [hW]
              exact (blkset_any 5 _ (blkset_any 4 _ (blkset_any 3 _ (blkset_any 2 _ (blkset_any 0 _ HTc1.out)))))
            have HRq2 := Lib.hid ((hq.2.2.2.2 _ (by omega)).trans HRc1.out)
            have HXq2 := Lib.hid (fun h => (HXc1.out h).putAt hq (by omega))
            have HPq2 := Lib.hid (HPc1.out.putAt hq (by omega))
            have HGq2 := Lib.hid (grown_putAt HGc1.out hq (by omega))
            have hlq2 : w.heap.size + 1 < wq2.heap.size := lt_of_block HTq2.out
            rw [← hW]
            clear hW hq t0 t1 t2 t3 t4 t5 t6 t7 t8 t9 t10 u0 u2 u3 u4 u5 HTc1 HRc1 HPc1 HGc1 hlc1 HXc1
            refine (HB.out wq2 τ1 HPq2.out).mono ?_
            rintro x wc3 ⟨A, n, c, rfl, hX, hP, hG⟩
            have HRc3 := Lib.hid (kept_own hG HRq2.out hgR')
            have HTc3 := Lib.hid (kept_own hG HTq2.out hgT')
            have HXc3 := Lib.hid (fun h => (HXq2.out h).gr hG (by omega))
            have HYc3 := Lib.hid (fun h => And.intro (hX h).1 ((hX h).2.more (S' := (w.heap.size + 2 ≤ ·)) fun b hb _ => by omega))
            have HPc3 := Lib.hid hP
            have HGc3 := Lib.hid (grown_trans HGq2.out hG)
            have hlc3 : w.heap.size + 1 < wc3.heap.size := lt_of_block HTc3.out
            clear hP hG  HTq2 HRq2 HPq2 HGq2 hlq2 HXq2 hX
            have HF1 := Lib.hid (HBF.out τ1)
            generalize (b τ1).1 = l at *
            generalize (b τ1).2 = τ2 at *
            obtain ⟨t0, t1, t2, t3, t4, t5, t6, t7, t8, t9, t10, tf, htl⟩ := blk11 HTc3.out
            have u9 := tf 9
            clear tf htl
            go_wp2_with fail
            obtain ⟨wq4, hW⟩ : ∃ W, W = (wc3.setCell ⟨w.heap.size + 1, 9, none⟩ (.slice A n c)) := ⟨_, rfl⟩
            have hq : PutAt (w.heap.size + 1) wc3 wq4 := by
              rw [hW]
              exact ((PutAt.refl (w.heap.size + 1) wc3).set 9 _)
            have HTq4 : Hid (wq4.heap[w.heap.size + 1]? = some (.cells #[.int .i64 7, .string ⟨#[]⟩, .int .i64 f.op, .int .i64 f.num, .string ⟨f.name.toArray⟩, .slice f.A f.n f.c, .string ⟨#[]⟩, .slice none 0 0, .slice none 0 0, .slice A n c, .slice none 0 0] 126 (0, 0))) := by
              rw [hW]
              exact (blkset_any 9 _ HTc3.out)
            have HRq4 := Lib.hid ((hq.2.2.2.2 _ (by omega)).trans HRc3.out)
            have HXq4 := Lib.hid (fun h => (HXc3.out h).putAt hq (by omega))
            have HYq4 := Lib.hid (fun h => And.intro (HYc3.out h).1 ((HYc3.out h).2.putAt hq (by omega)))
            have HPq4 := Lib.hid (HPc3.out.putAt hq (by omega))
            have HGq4 := Lib.hid (grown_putAt HGc3.out hq (by omega))
            have hlq4 : w.heap.size + 1 < wq4.heap.size := lt_of_block HTq4.out
            rw [← hW]
            clear hW hq t0 t1 t2 t3 t4 t5 t6 t7 t8 t9 t10 u9 HTc3 HRc3 HPc3 HGc3 hlc3 HXc3 HYc3
            refine (rsTake wq4 g ts HT.out.last HT.out.kinds τ2 d [101, 108, 115, 101] HPq4.out).mono ?_
            rintro x wc5 ⟨rfl, hP, hG⟩
            have HRc5 := Lib.hid (kept_own hG HRq4.out hgR')
            have HTc5 := Lib.hid (kept_own hG HTq4.out hgT')
            have HXc5 := Lib.hid (fun h => (HXq4.out h).gr hG (by omega))
            have HYc5 := Lib.hid (fun h => And.intro (HYq4.out h).1 ((HYq4.out h).2.gr hG (by omega)))
            have HPc5 := Lib.hid hP
            have HGc5 := Lib.hid (grown_trans HGq4.out hG)
            have hlc5 : w.heap.size + 1 < wc5.heap.size := lt_of_block HTc5.out
            clear hP hG  HTq4 HRq4 HPq4 HGq4 hlq4 HXq4 HYq4 
            cases hI : Pa.isS ts τ2 [101, 108, 115, 101] with
            | true =>
              have HV := Lib.hid (HV0.out.trans (if_pos hI))
              have hac : Pa.ac ts τ2 [101, 108, 115, 101] = Pa.nx τ2 := if_pos hI
              rw [hac] at HPc5
              clear hac hI HV0
              go_wp2_with fail
              refine (HB.out wc5 (Pa.nx τ2) HPc5.out).mono ?_
              rintro x wc6 ⟨A2, n2, c2, rfl, hX, hP, hG⟩
              have HRc6 := Lib.hid (kept_own hG HRc5.out hgR')
              have HTc6 := Lib.hid (kept_own hG HTc5.out hgT')
              have HXc6 := Lib.hid (fun h => (HXc5.out h).gr hG (by omega))
              have HYc6 := Lib.hid (fun h => And.intro (HYc5.out h).1 ((HYc5.out h).2.gr hG (by omega)))
              have HZc6 := Lib.hid (fun h => And.intro (hX h).1 ((hX h).2.more (S' := (w.heap.size + 2 ≤ ·)) fun b hb _ => by omega))
              have HPc6 := Lib.hid hP
              have HGc6 := Lib.hid (grown_trans HGc5.out hG)
              have hlc6 : w.heap.size + 1 < wc6.heap.size := lt_of_block HTc6.out
              clear hP hG  HTc5 HRc5 HPc5 HGc5 hlc5 HXc5 HYc5 hX
              have HF2 := Lib.hid (HBF.out (Pa.nx τ2))
              generalize (b (Pa.nx τ2)).1 = l2 at *
              generalize (b (Pa.nx τ2)).2 = τ3 at *
              obtain ⟨r0, r1, r2, r3, r4, r5, r6, r7, r8, r9, r10, rf, -⟩ := blk11 HRc6.out
              obtain ⟨t0, t1, t2, t3, t4, t5, t6, t7, t8, t9, t10, tf, -⟩ := blk11 HTc6.out
              have f0 := rf 0
              have f1 := rf 1
              have f2 := rf 2
              have f3 := rf 3
              have f4 := rf 4
              have f5 := rf 5
              have f6 := rf 6
              have f7 := rf 7
              have f8 := rf 8
              have f9 := rf 9
              have f10 := rf 10
              have u10 := tf 10
              clear rf tf
              have HQ := Lib.hid ((PutAt.refl (w.heap.size + 1) wc6).set 10 (.slice A2 n2 c2))
              go_wp2_with fail
              have hq : PutAt w.heap.size (wc6.setCell ⟨w.heap.size + 1, 10, none⟩ (.slice A2 n2 c2)) _ := ((((((((((((PutAt.refl w.heap.size (wc6.setCell ⟨w.heap.size + 1, 10, none⟩ (.slice A2 n2 c2))).set 0 (.int .i64 7)).set 1 (.string ⟨#[]⟩)).set 2 (.int .i64 f.op)).set 3 (.int .i64 f.num)).set 4 (.string ⟨f.name.toArray⟩)).set 5 (.slice f.A f.n f.c)).set 6 (.string ⟨#[]⟩)).set 7 (.slice none 0 0)).set 8 (.slice none 0 0)).set 9 (.slice A n c)).set 10 (.slice A2 n2 c2))
              refine bodyPost_ret (v := .agg #[.int .i64 7, .string ⟨#[]⟩, .int .i64 f.op, .int .i64 f.num, .string ⟨f.name.toArray⟩, .slice f.A f.n f.c, .string ⟨#[]⟩, .slice none 0 0, .slice none 0 0, .slice A n c, .slice A2 n2 c2]) (by simp [results, Tryd.results81, go_sem, r0, r1, r2, r3, r4, r5, r6, r7, r8, r9, r10]) rfl ⟨⟨7, [], f, [], none, 0, 0, none, 0, 0, A, n, c, A2, n2, c2⟩, rfl, fun hl => ?_, ?_, ?_⟩
              · rw [HV.out] at hl ⊢
                have h3 := HZc6.out hl
                have hl2 := nx_live (HF2.out hl).1
                have h2 := HYc6.out hl2
                have h1 := HXc6.out (HF1.out hl2).1
                exact ⟨⟨rfl, rfl, rfl, rfl, h2.1, h3.1⟩, stM_mk _ _ _ _ _ _ _ _ ((((h1).putAt HQ.out (by omega)).putAt hq (by omega)).more fun b hb => by omega) rfl (ArsM.nil _ _ _) ((((h2.2).putAt HQ.out (by omega)).putAt hq (by omega)).more fun b hb _ => by omega) ((((h3.2).putAt HQ.out (by omega)).putAt hq (by omega)).more fun b hb _ => by omega)⟩
              · rw [HV.out]
                exact (HPc6.out.putAt HQ.out (by omega)).putAt hq hgw
              · exact grown_putAt (grown_putAt HGc6.out HQ.out (by omega)) hq (Nat.le_refl _)
            | false =>
              have HV := Lib.hid (HV0.out.trans (if_neg (by rw [hI]; decide)))
              have hac : Pa.ac ts τ2 [101, 108, 115, 101] = τ2 := if_neg (by rw [hI]; decide)
              rw [hac] at HPc5
              clear hac hI HV0
              obtain ⟨r0, r1, r2, r3, r4, r5, r6, r7, r8, r9, r10, rf, -⟩ := blk11 HRc5.out
              obtain ⟨t0, t1, t2, t3, t4, t5, t6, t7, t8, t9, t10, tf, -⟩ := blk11 HTc5.out
              have f0 := rf 0
              have f1 := rf 1
              have f2 := rf 2
              have f3 := rf 3
              have f4 := rf 4
              have f5 := rf 5
              have f6 := rf 6
              have f7 := rf 7
              have f8 := rf 8
              have f9 := rf 9
              have f10 := rf 10
              clear rf tf
              go_wp2_with fail
              have hq : PutAt w.heap.size wc5 _ := ((((((((((((PutAt.refl w.heap.size wc5).set 0 (.int .i64 7)).set 1 (.string ⟨#[]⟩)).set 2 (.int .i64 f.op)).set 3 (.int .i64 f.num)).set 4 (.string ⟨f.name.toArray⟩)).set 5 (.slice f.A f.n f.c)).set 6 (.string ⟨#[]⟩)).set 7 (.slice none 0 0)).set 8 (.slice none 0 0)).set 9 (.slice A n c)).set 10 (.slice none 0 0))
              refine bodyPost_ret (v := .agg #[.int .i64 7, .string ⟨#[]⟩, .int .i64 f.op, .int .i64 f.num, .string ⟨f.name.toArray⟩, .slice f.A f.n f.c, .string ⟨#[]⟩, .slice none 0 0, .slice none 0 0, .slice A n c, .slice none 0 0]) (by simp [results, Tryd.results81, go_sem, r0, r1, r2, r3, r4, r5, r6, r7, r8, r9, r10]) rfl ⟨⟨7, [], f, [], none, 0, 0, none, 0, 0, A, n, c, none, 0, 0⟩, rfl, fun hl => ?_, ?_, ?_⟩
              · rw [HV.out] at hl ⊢
                have h2 := HYc5.out hl
                have h1 := HXc5.out (HF1.out hl).1
                exact ⟨⟨rfl, rfl, rfl, rfl, h2.1, rfl⟩, stM_mk _ _ _ _ _ _ _ _ (((h1).putAt hq (by omega)).more fun b hb => by omega) rfl (ArsM.nil _ _ _) (((h2.2).putAt hq (by omega)).more fun b hb _ => by omega) (StsM.nil _ _ _)⟩
              · rw [HV.out]
                exact HPc5.out.putAt hq hgw
              · exact grown_putAt HGc5.out hq (Nat.le_refl _)
          | false =>
            have hac : Pa.ac ts σ [105, 102] = σ := if_neg (by rw [hI]; decide)
            rw [hac] at HPt4
            have HN4 := Lib.hid hI
            clear hac hI
            go_wp2_with fail
            refine (rsTake wt4 g ts HT.out.last HT.out.kinds σ d [119, 104, 105, 108, 101] HPt4.out).mono ?_
            rintro x wt5 ⟨rfl, hP, hG⟩
            have HRt5 := Lib.hid (kept_own hG HRt4.out hgR')
            have HTt5 := Lib.hid (kept_own hG HTt4.out hgT')
            have HPt5 := Lib.hid hP
            have HGt5 := Lib.hid (grown_trans HGt4.out hG)
            have hlt5 : w.heap.size + 1 < wt5.heap.size := lt_of_block HTt5.out
            clear hP hG HRt4 HTt4 HPt4 HGt4 hlt4
            cases hI : Pa.isS ts σ [119, 104, 105, 108, 101] with
            | true =>
              have hac : Pa.ac ts σ [119, 104, 105, 108, 101] = Pa.nx σ := if_pos hI
              rw [hac] at HPt5
              have HV : Hid (Pa.sStmt ts b σ = (.mk 8 [] (Pa.exX ts (Pa.nx σ)) noRf [] (b (Pa.exS ts (Pa.nx σ))).1 [], (b (Pa.exS ts (Pa.nx σ))).2)) := by
                show _ = _
                unfold Pa.sStmt
                rw [if_neg (by rw [HN0.out]; decide), if_neg (by rw [HN1.out]; decide), if_neg (by rw [HN2.out]; decide), if_neg (by rw [HN3.out]; decide), if_neg (by rw [HN4.out]; decide), if_pos hI]
                rfl
              clear hac hI
              go_wp2_with fail
              refine (rsExpr wt5 g ts HT.out (Pa.nx σ) d HPt5.out).mono ?_
              rintro x wc1 ⟨f, rfl, hP, hG, hX⟩
              unfold EF.val
              have HRc1 := Lib.hid (kept_own hG HRt5.out hgR')
              have HTc1 := Lib.hid (kept_own hG HTt5.out hgT')
              have HXc1 := Lib.hid (fun h => (hX h).more (S' := (w.heap.size + 2 ≤ ·)) fun b hb => by omega)
              have HPc1 := Lib.hid hP
              have HGc1 := Lib.hid (grown_trans HGt5.out hG)
              have hlc1 : w.heap.size + 1 < wc1.heap.size := lt_of_block HTc1.out
              clear hP hG  HTt5 HRt5 HPt5 HGt5 hlt5  hX
              generalize Pa.exX ts (Pa.nx σ) = E at *
              generalize Pa.exS ts (Pa.nx σ) = τ1 at *
              obtain ⟨t0, t1, t2, t3, t4, t5, t6, t7, t8, t9, t10, tf, htl⟩ := blk11 HTc1.out
              have u0 := tf 0
              have u2 := tf 2
              have u3 := tf 3
              have u4 := tf 4
              have u5 := tf 5
              clear tf htl
              go_wp2_with fail
              obtain ⟨wq2, hW⟩ : ∃ W, W = (((((wc1.setCell ⟨w.heap.size + 1, 0, none⟩ (.int .i64 8)).setCell ⟨w.heap.size + 1, 2, none⟩ (.int .i64 f.op)).setCell ⟨w.heap.size + 1, 3, none⟩ (.int .i64 f.num)).setCell ⟨w.heap.size + 1, 4, none⟩ (.string ⟨f.name.toArray⟩)).setCell ⟨w.heap.size + 1, 5, none⟩ (.slice f.A f.n f.c)) := ⟨_, rfl⟩
              have hq : PutAt (w.heap.size + 1) wc1 wq2 := by
                rw [hW]
                exact ((((((PutAt.refl (w.heap.size + 1) wc1).set 0 _).set 2 _).set 3 _).set 4 _).set 5 _)
              have HTq2 : Hid (wq2.heap[w.heap.size + 1]? = some (.cells #[.int .i64 8, .string ⟨#[]⟩, .int .i64 f.op, .int .i64 f.num, .string ⟨f.name.toArray⟩, .slice f.A f.n f.c, .string ⟨#[]⟩, .slice none 0 0, .slice none 0 0, .slice none 0 0, .slice none 0 0] 126 (0, 0))) := by
                rw [hW]
                exact (blkset_any 5 _ (blkset_any 4 _ (blkset_any 3 _ (blkset_any 2 _ (blkset_any 0 _ HTc1.out)))))
              have HRq2 := Lib.hid ((hq.2.2.2.2 _ (by omega)).trans HRc1.out)
              have HXq2 := Lib.hid (fun h => (HXc1.out h).putAt hq (by omega))
              have HPq2 := Lib.hid (HPc1.out.putAt hq (by omega))
              have HGq2 := Lib.hid (grown_putAt HGc1.out hq (by omega))
              have hlq2 : w.heap.size + 1 < wq2.heap.size := lt_of_block HTq2.out
              rw [← hW]
              clear hW hq t0 t1 t2 t3 t4 t5 t6 t7 t8 t9 t10 u0 u2 u3 u4 u5 HTc1 HRc1 HPc1 HGc1 hlc1 HXc1
              refine (HB.out wq2 τ1 HPq2.out).mono ?_
              rintro x wc3 ⟨A, n, c, rfl, hX, hP, hG⟩
              have HRc3 := Lib.hid (kept_own hG HRq2.out hgR')
              have HTc3 := Lib.hid (kept_own hG HTq2.out hgT')
              have HXc3 := Lib.hid (fun h => (HXq2.out h).gr hG (by omega))
              have HYc3 := Lib.hid (fun h => And.intro (hX h).1 ((hX h).2.more (S' := (w.heap.size + 2 ≤ ·)) fun b hb _ => by omega))
              have HPc3 := Lib.hid hP
              have HGc3 := Lib.hid (grown_trans HGq2.out hG)
              have hlc3 : w.heap.size + 1 < wc3.heap.size := lt_of_block HTc3.out
              clear hP hG  HTq2 HRq2 HPq2 HGq2 hlq2 HXq2 hX
              have HF1 := Lib.hid (HBF.out τ1)
              generalize (b τ1).1 = l at *
              generalize (b τ1).2 = τ2 at *
              obtain ⟨r0, r1, r2, r3, r4, r5, r6, r7, r8, r9, r10, rf, -⟩ := blk11 HRc3.out
              obtain ⟨t0, t1, t2, t3, t4, t5, t6, t7, t8, t9, t10, tf, -⟩ := blk11 HTc3.out
              have f0 := rf 0
              have f1 := rf 1
              have f2 := rf 2
              have f3 := rf 3
              have f4 := rf 4
              have f5 := rf 5
              have f6 := rf 6
              have f7 := rf 7
              have f8 := rf 8
              have f9 := rf 9
              have f10 := rf 10
              have u9 := tf 9
              clear rf tf
              have HQ := Lib.hid ((PutAt.refl (w.heap.size + 1) wc3).set 9 (.slice A n c))
              go_wp2_with fail
              have hq : PutAt w.heap.size (wc3.setCell ⟨w.heap.size + 1, 9, none⟩ (.slice A n c)) _ := ((((((((((((PutAt.refl w.heap.size (wc3.setCell ⟨w.heap.size + 1, 9, none⟩ (.slice A n c))).set 0 (.int .i64 8)).set 1 (.string ⟨#[]⟩)).set 2 (.int .i64 f.op)).set 3 (.int .i64 f.num)).set 4 (.string ⟨f.name.toArray⟩)).set 5 (.slice f.A f.n f.c)).set 6 (.string ⟨#[]⟩)).set 7 (.slice none 0 0)).set 8 (.slice none 0 0)).set 9 (.slice A n c)).set 10 (.slice none 0 0))
              refine bodyPost_ret (v := .agg #[.int .i64 8, .string ⟨#[]⟩, .int .i64 f.op, .int .i64 f.num, .string ⟨f.name.toArray⟩, .slice f.A f.n f.c, .string ⟨#[]⟩, .slice none 0 0, .slice none 0 0, .slice A n c, .slice none 0 0]) (by simp [results, Tryd.results81, go_sem, r0, r1, r2, r3, r4, r5, r6, r7, r8, r9, r10]) rfl ⟨⟨8, [], f, [], none, 0, 0, none, 0, 0, A, n, c, none, 0, 0⟩, rfl, fun hl => ?_, ?_, ?_⟩
              · rw [HV.out] at hl ⊢
                have h2 := HYc3.out hl
                have h1 := HXc3.out (HF1.out hl).1
                exact ⟨⟨rfl, rfl, rfl, rfl, h2.1, rfl⟩, stM_mk _ _ _ _ _ _ _ _ ((((h1).putAt HQ.out (by omega)).putAt hq (by omega)).more fun b hb => by omega) rfl (ArsM.nil _ _ _) ((((h2.2).putAt HQ.out (by omega)).putAt hq (by omega)).more fun b hb _ => by omega) (StsM.nil _ _ _)⟩
              · rw [HV.out]
                exact (HPc3.out.putAt HQ.out (by omega)).putAt hq hgw
              · exact grown_putAt (grown_putAt HGc3.out HQ.out (by omega)) hq (Nat.le_refl _)
            | false =>
              have hac : Pa.ac ts σ [119, 104, 105, 108, 101] = σ := if_neg (by rw [hI]; decide)
              rw [hac] at HPt5
              have HN5 := Lib.hid hI
              clear hac hI
              go_wp2_with fail
              refine (rsTake wt5 g ts HT.out.last HT.out.kinds σ d [114, 101, 116, 117, 114, 110] HPt5.out).mono ?_
              rintro x wt6 ⟨rfl, hP, hG⟩
              have HRt6 := Lib.hid (kept_own hG HRt5.out hgR')
              have HTt6 := Lib.hid (kept_own hG HTt5.out hgT')
              have HPt6 := Lib.hid hP
              have HGt6 := Lib.hid (grown_trans HGt5.out hG)
              have hlt6 : w.heap.size + 1 < wt6.heap.size := lt_of_block HTt6.out
              clear hP hG HRt5 HTt5 HPt5 HGt5 hlt5
              cases hI : Pa.isS ts σ [114, 101, 116, 117, 114, 110] with
              | true =>
                have hac : Pa.ac ts σ [114, 101, 116, 117, 114, 110] = Pa.nx σ := if_pos hI
                rw [hac] at HPt6
                have HV : Hid (Pa.sStmt ts b σ = (.mk 9 [] noEx noRf [] [] [], Pa.xp ts (Pa.nx σ) [59])) := by
                  show _ = _
                  unfold Pa.sStmt
                  rw [if_neg (by rw [HN0.out]; decide), if_neg (by rw [HN1.out]; decide), if_neg (by rw [HN2.out]; decide), if_neg (by rw [HN3.out]; decide), if_neg (by rw [HN4.out]; decide), if_neg (by rw [HN5.out]; decide), if_pos hI]
                clear hac hI
                obtain ⟨t0, t1, t2, t3, t4, t5, t6, t7, t8, t9, t10, tf, htl⟩ := blk11 HTt6.out
                have u0 := tf 0
                clear tf htl
                go_wp2_with fail
                obtain ⟨wq1, hW⟩ : ∃ W, W = (wt6.setCell ⟨w.heap.size + 1, 0, none⟩ (.int .i64 9)) := ⟨_, rfl⟩
                have hq : PutAt (w.heap.size + 1) wt6 wq1 := by
                  rw [hW]
                  exact ((PutAt.refl (w.heap.size + 1) wt6).set 0 _)
                have HTq1 : Hid (wq1.heap[w.heap.size + 1]? = some (.cells #[.int .i64 9, .string ⟨#[]⟩, .int .i64 0, .int .i64 0, .string ⟨#[]⟩, .slice none 0 0, .string ⟨#[]⟩, .slice none 0 0, .slice none 0 0, .slice none 0 0, .slice none 0 0] 126 (0, 0))) := by
                  rw [hW]
                  exact (blkset_any 0 _ HTt6.out)
                have HRq1 := Lib.hid ((hq.2.2.2.2 _ (by omega)).trans HRt6.out)
                have HPq1 := Lib.hid (HPt6.out.putAt hq (by omega))
                have HGq1 := Lib.hid (grown_putAt HGt6.out hq (by omega))
                have hlq1 : w.heap.size + 1 < wq1.heap.size := lt_of_block HTq1.out
                rw [← hW]
                clear hW hq t0 t1 t2 t3 t4 t5 t6 t7 t8 t9 t10 u0 HTt6 HRt6 HPt6 HGt6 hlt6 
                refine (rsMust wq1 g ts HT.out.last HT.out.kinds (Pa.nx σ) d [59] HPq1.out).mono ?_
                rintro x wc2 ⟨rfl, hP, hG⟩
                have HRc2 := Lib.hid (kept_own hG HRq1.out hgR')
                have HTc2 := Lib.hid (kept_own hG HTq1.out hgT')
                have HPc2 := Lib.hid hP
                have HGc2 := Lib.hid (grown_trans HGq1.out hG)
                have hlc2 : w.heap.size + 1 < wc2.heap.size := lt_of_block HTc2.out
                clear hP hG  HTq1 HRq1 HPq1 HGq1 hlq1  
                obtain ⟨r0, r1, r2, r3, r4, r5, r6, r7, r8, r9, r10, rf, -⟩ := blk11 HRc2.out
                obtain ⟨t0, t1, t2, t3, t4, t5, t6, t7, t8, t9, t10, tf, -⟩ := blk11 HTc2.out
                have f0 := rf 0
                have f1 := rf 1
                have f2 := rf 2
                have f3 := rf 3
                have f4 := rf 4
                have f5 := rf 5
                have f6 := rf 6
                have f7 := rf 7
                have f8 := rf 8
                have f9 := rf 9
                have f10 := rf 10
                clear rf tf
                go_wp2_with fail
                have hq : PutAt w.heap.size wc2 _ := ((((((((((((PutAt.refl w.heap.size wc2).set 0 (.int .i64 9)).set 1 (.string ⟨#[]⟩)).set 2 (.int .i64 0)).set 3 (.int .i64 0)).set 4 (.string ⟨#[]⟩)).set 5 (.slice none 0 0)).set 6 (.string ⟨#[]⟩)).set 7 (.slice none 0 0)).set 8 (.slice none 0 0)).set 9 (.slice none 0 0)).set 10 (.slice none 0 0))
                refine bodyPost_ret (v := .agg #[.int .i64 9, .string ⟨#[]⟩, .int .i64 0, .int .i64 0, .string ⟨#[]⟩, .slice none 0 0, .string ⟨#[]⟩, .slice none 0 0, .slice none 0 0, .slice none 0 0, .slice none 0 0]) (by simp [results, Tryd.results81, go_sem, r0, r1, r2, r3, r4, r5, r6, r7, r8, r9, r10]) rfl ⟨⟨9, [], ⟨0, 0, [], none, 0, 0⟩, [], none, 0, 0, none, 0, 0, none, 0, 0, none, 0, 0⟩, rfl, fun hl => ?_, ?_, ?_⟩
                · rw [HV.out] at hl ⊢
                  exact ⟨⟨rfl, rfl, rfl, rfl, rfl, rfl⟩, stM_mk _ _ _ _ _ _ _ _ (ExM.leaf _ _ _ _ _ _ _) rfl (ArsM.nil _ _ _) (StsM.nil _ _ _) (StsM.nil _ _ _)⟩
                · rw [HV.out]
                  exact HPc2.out.putAt hq hgw
                · exact grown_putAt HGc2.out hq (Nat.le_refl _)
              | false =>
                have hac : Pa.ac ts σ [114, 101, 116, 117, 114, 110] = σ := if_neg (by rw [hI]; decide)
                rw [hac] at HPt6
                have HN6 := Lib.hid hI
                clear hac hI
                go_wp2_with fail
                refine (rsName wt6 g ts HT.out.last σ d HPt6.out).mono ?_
                rintro x wc1 ⟨rfl, hP, hG⟩
                have HRc1 := Lib.hid (kept_own hG HRt6.out hgR')
                have HTc1 := Lib.hid (kept_own hG HTt6.out hgT')
                have HPc1 := Lib.hid hP
                have HGc1 := Lib.hid (grown_trans HGt6.out hG)
                have hlc1 : w.heap.size + 1 < wc1.heap.size := lt_of_block HTc1.out
                clear hP hG  HTt6 HRt6 HPt6 HGt6 hlt6  
                have HV0 : Hid (Pa.sStmt ts b σ = if Pa.isS ts (Pa.tk ts σ 1) [40] = true then Pa.sCall ts 3 (Pa.nmV ts σ) (Pa.tk ts σ 1) else Pa.sSet ts 2 (Pa.nmV ts σ) (Pa.tk ts σ 1)) := by
                  show _ = _
                  unfold Pa.sStmt
                  rw [if_neg (by rw [HN0.out]; decide), if_neg (by rw [HN1.out]; decide), if_neg (by rw [HN2.out]; decide), if_neg (by rw [HN3.out]; decide), if_neg (by rw [HN4.out]; decide), if_neg (by rw [HN5.out]; decide), if_neg (by rw [HN6.out]; decide)]
                generalize Pa.nmV ts σ = nm at *
                generalize Pa.tk ts σ 1 = τ1 at *
                obtain ⟨t0, t1, t2, t3, t4, t5, t6, t7, t8, t9, t10, tf, htl⟩ := blk11 HTc1.out
                have u0 := tf 0
                have u1 := tf 1
                clear tf htl
                go_wp2_with fail
                obtain ⟨wq2, hW⟩ : ∃ W, W = ((wc1.setCell ⟨w.heap.size + 1, 0, none⟩ (.int .i64 2)).setCell ⟨w.heap.size + 1, 1, none⟩ (.string ⟨nm.toArray⟩)) := ⟨_, rfl⟩
                have hq : PutAt (w.heap.size + 1) wc1 wq2 := by
                  rw [hW]
                  exact (((PutAt.refl (w.heap.size + 1) wc1).set 0 _).set 1 _)
                have HTq2 : Hid (wq2.heap[w.heap.size + 1]? = some (.cells #[.int .i64 2, .string ⟨nm.toArray⟩, .int .i64 0, .int .i64 0, .string ⟨#[]⟩, .slice none 0 0, .string ⟨#[]⟩, .slice none 0 0, .slice none 0 0, .slice none 0 0, .slice none 0 0] 126 (0, 0))) := by
                  rw [hW]
                  exact (blkset_any 1 _ (blkset_any 0 _ HTc1.out))
                have HRq2 := Lib.hid ((hq.2.2.2.2 _ (by omega)).trans HRc1.out)
                have HPq2 := Lib.hid (HPc1.out.putAt hq (by omega))
                have HGq2 := Lib.hid (grown_putAt HGc1.out hq (by omega))
                have hlq2 : w.heap.size + 1 < wq2.heap.size := lt_of_block HTq2.out
                rw [← hW]
                clear hW hq t0 t1 t2 t3 t4 t5 t6 t7 t8 t9 t10 u0 u1 HTc1 HRc1 HPc1 HGc1 hlc1 
                refine (rsIs wq2 g ts HT.out.kinds τ1 d [40] HPq2.out).mono ?_
                rintro x wc3 ⟨rfl, hb⟩
                have hG := grown_below (g := g) hb
                have hP := HPq2.out.later hb
                have HRc3 := Lib.hid (kept_own hG HRq2.out hgR')
                have HTc3 := Lib.hid (kept_own hG HTq2.out hgT')
                have HPc3 := Lib.hid hP
                have HGc3 := Lib.hid (grown_trans HGq2.out hG)
                have hlc3 : w.heap.size + 1 < wc3.heap.size := lt_of_block HTc3.out
                clear hP hG hb HTq2 HRq2 HPq2 HGq2 hlq2  
                cases hI : Pa.isS ts τ1 [40] with
                | true =>
                  have HV : Hid (Pa.sStmt ts b σ = (.mk 3 nm noEx noRf (Pa.sArgs ts τ1).1 [] [], Pa.xp ts (Pa.sArgs ts τ1).2 [59])) := HV0.out.trans (if_pos hI)
                  clear hI HV0
                  go_wp2_with fail
                  refine (rsArgs wc3 g ts HT.out τ1 d HPc3.out).mono ?_
                  rintro x wc4 ⟨A, n, c, rfl, hX, hP, hG⟩
                  have HRc4 := Lib.hid (kept_own hG HRc3.out hgR')
                  have HTc4 := Lib.hid (kept_own hG HTc3.out hgT')
                  have HXc4 := Lib.hid (fun h => And.intro (hX h).1 ((hX h).2.more (S' := (w.heap.size + 2 ≤ ·)) fun b hb _ => by omega))
                  have HPc4 := Lib.hid hP
                  have HGc4 := Lib.hid (grown_trans HGc3.out hG)
                  have hlc4 : w.heap.size + 1 < wc4.heap.size := lt_of_block HTc4.out
                  clear hP hG  HTc3 HRc3 HPc3 HGc3 hlc3  hX
                  generalize (Pa.sArgs ts τ1).1 = l at *
                  generalize (Pa.sArgs ts τ1).2 = τ2 at *
                  obtain ⟨t0, t1, t2, t3, t4, t5, t6, t7, t8, t9, t10, tf, htl⟩ := blk11 HTc4.out
                  have u0 := tf 0
                  have u8 := tf 8
                  clear tf htl
                  go_wp2_with fail
                  obtain ⟨wq5, hW⟩ : ∃ W, W = ((wc4.setCell ⟨w.heap.size + 1, 0, none⟩ (.int .i64 3)).setCell ⟨w.heap.size + 1, 8, none⟩ (.slice A n c)) := ⟨_, rfl⟩
                  have hq : PutAt (w.heap.size + 1) wc4 wq5 := by
                    rw [hW]
                    exact (((PutAt.refl (w.heap.size + 1) wc4).set 0 _).set 8 _)
                  have HTq5 : Hid (wq5.heap[w.heap.size + 1]? = some (.cells #[.int .i64 3, .string ⟨nm.toArray⟩, .int .i64 0, .int .i64 0, .string ⟨#[]⟩, .slice none 0 0, .string ⟨#[]⟩, .slice none 0 0, .slice A n c, .slice none 0 0, .slice none 0 0] 126 (0, 0))) := by
                    rw [hW]
                    exact (blkset_any 8 _ (blkset_any 0 _ HTc4.out))
                  have HRq5 := Lib.hid ((hq.2.2.2.2 _ (by omega)).trans HRc4.out)
                  have HXq5 := Lib.hid (fun h => And.intro (HXc4.out h).1 ((HXc4.out h).2.putAt hq (by omega)))
                  have HPq5 := Lib.hid (HPc4.out.putAt hq (by omega))
                  have HGq5 := Lib.hid (grown_putAt HGc4.out hq (by omega))
                  have hlq5 : w.heap.size + 1 < wq5.heap.size := lt_of_block HTq5.out
                  rw [← hW]
                  clear hW hq t0 t1 t2 t3 t4 t5 t6 t7 t8 t9 t10 u0 u8 HTc4 HRc4 HPc4 HGc4 hlc4 HXc4
                  refine (rsMust wq5 g ts HT.out.last HT.out.kinds τ2 d [59] HPq5.out).mono ?_
                  rintro x wc6 ⟨rfl, hP, hG⟩
                  have HRc6 := Lib.hid (kept_own hG HRq5.out hgR')
                  have HTc6 := Lib.hid (kept_own hG HTq5.out hgT')
                  have HXc6 := Lib.hid (fun h => And.intro (HXq5.out h).1 ((HXq5.out h).2.gr hG (by omega)))
                  have HPc6 := Lib.hid hP
                  have HGc6 := Lib.hid (grown_trans HGq5.out hG)
                  have hlc6 : w.heap.size + 1 < wc6.heap.size := lt_of_block HTc6.out
                  clear hP hG  HTq5 HRq5 HPq5 HGq5 hlq5 HXq5 
                  obtain ⟨r0, r1, r2, r3, r4, r5, r6, r7, r8, r9, r10, rf, -⟩ := blk11 HRc6.out
                  obtain ⟨t0, t1, t2, t3, t4, t5, t6, t7, t8, t9, t10, tf, -⟩ := blk11 HTc6.out
                  have f0 := rf 0
                  have f1 := rf 1
                  have f2 := rf 2
                  have f3 := rf 3
                  have f4 := rf 4
                  have f5 := rf 5
                  have f6 := rf 6
                  have f7 := rf 7
                  have f8 := rf 8
                  have f9 := rf 9
                  have f10 := rf 10
                  clear rf tf
                  go_wp2_with fail
                  have hq : PutAt w.heap.size wc6 _ := ((((((((((((PutAt.refl w.heap.size wc6).set 0 (.int .i64 3)).set 1 (.string ⟨nm.toArray⟩)).set 2 (.int .i64 0)).set 3 (.int .i64 0)).set 4 (.string ⟨#[]⟩)).set 5 (.slice none 0 0)).set 6 (.string ⟨#[]⟩)).set 7 (.slice none 0 0)).set 8 (.slice A n c)).set 9 (.slice none 0 0)).set 10 (.slice none 0 0))
                  refine bodyPost_ret (v := .agg #[.int .i64 3, .string ⟨nm.toArray⟩, .int .i64 0, .int .i64 0, .string ⟨#[]⟩, .slice none 0 0, .string ⟨#[]⟩, .slice none 0 0, .slice A n c, .slice none 0 0, .slice none 0 0]) (by simp [results, Tryd.results81, go_sem, r0, r1, r2, r3, r4, r5, r6, r7, r8, r9, r10]) rfl ⟨⟨3, nm, ⟨0, 0, [], none, 0, 0⟩, [], none, 0, 0, A, n, c, none, 0, 0, none, 0, 0⟩, rfl, fun hl => ?_, ?_, ?_⟩
                  · rw [HV.out] at hl ⊢
                    have h1 := HXc6.out (xp_live hl)
                    exact ⟨⟨rfl, rfl, rfl, h1.1, rfl, rfl⟩, stM_mk _ _ _ _ _ _ _ _ (ExM.leaf _ _ _ _ _ _ _) rfl (((h1.2).putAt hq (by omega)).more fun b hb _ => by omega) (StsM.nil _ _ _) (StsM.nil _ _ _)⟩
                  · rw [HV.out]
                    exact HPc6.out.putAt hq hgw
                  · exact grown_putAt HGc6.out hq (Nat.le_refl _)
                | false =>
                  have HV : Hid (Pa.sStmt ts b σ = (.mk 2 nm (Pa.exX ts (Pa.xp ts τ1 [61])) noRf [] [] [], Pa.xp ts (Pa.exS ts (Pa.xp ts τ1 [61])) [59])) := HV0.out.trans (if_neg (by rw [hI]; decide))
                  clear hI HV0
                  go_wp2_with fail
                  refine (rsMust wc3 g ts HT.out.last HT.out.kinds τ1 d [61] HPc3.out).mono ?_
                  rintro x wc4 ⟨rfl, hP, hG⟩
                  have HRc4 := Lib.hid (kept_own hG HRc3.out hgR')
                  have HTc4 := Lib.hid (kept_own hG HTc3.out hgT')
                  have HPc4 := Lib.hid hP
                  have HGc4 := Lib.hid (grown_trans HGc3.out hG)
                  have hlc4 : w.heap.size + 1 < wc4.heap.size := lt_of_block HTc4.out
                  clear hP hG  HTc3 HRc3 HPc3 HGc3 hlc3  
                  generalize Pa.xp ts τ1 [61] = τ2 at *
                  go_wp2_with fail
                  refine (rsExpr wc4 g ts HT.out τ2 d HPc4.out).mono ?_
                  rintro x wc5 ⟨f, rfl, hP, hG, hX⟩
                  unfold EF.val
                  have HRc5 := Lib.hid (kept_own hG HRc4.out hgR')
                  have HTc5 := Lib.hid (kept_own hG HTc4.out hgT')
                  have HXc5 := Lib.hid (fun h => (hX h).more (S' := (w.heap.size + 2 ≤ ·)) fun b hb => by omega)
                  have HPc5 := Lib.hid hP
                  have HGc5 := Lib.hid (grown_trans HGc4.out hG)
                  have hlc5 : w.heap.size + 1 < wc5.heap.size := lt_of_block HTc5.out
                  clear hP hG  HTc4 HRc4 HPc4 HGc4 hlc4  hX
                  generalize Pa.exX ts τ2 = E at *
                  generalize Pa.exS ts τ2 = τ3 at *
                  obtain ⟨t0, t1, t2, t3, t4, t5, t6, t7, t8, t9, t10, tf, htl⟩ := blk11 HTc5.out
                  have u2 := tf 2
                  have u3 := tf 3
                  have u4 := tf 4
                  have u5 := tf 5
                  clear tf htl
                  go_wp2_with fail
                  obtain ⟨wq6, hW⟩ : ∃ W, W = ((((wc5.setCell ⟨w.heap.size + 1, 2, none⟩ (.int .i64 f.op)).setCell ⟨w.heap.size + 1, 3, none⟩ (.int .i64 f.num)).setCell ⟨w.heap.size + 1, 4, none⟩ (.string ⟨f.name.toArray⟩)).setCell ⟨w.heap.size + 1, 5, none⟩ (.slice f.A f.n f.c)) := ⟨_, rfl⟩
                  have hq : PutAt (w.heap.size + 1) wc5 wq6 := by
                    rw [hW]
                    exact (((((PutAt.refl (w.heap.size + 1) wc5).set 2 _).set 3 _).set 4 _).set 5 _)
                  have HTq6 : Hid (wq6.heap[w.heap.size + 1]? = some (.cells #[.int .i64 2, .string ⟨nm.toArray⟩, .int .i64 f.op, .int .i64 f.num, .string ⟨f.name.toArray⟩, .slice f.A f.n f.c, .string ⟨#[]⟩, .slice none 0 0, .slice none 0 0, .slice none 0 0, .slice none 0 0] 126 (0, 0))) := by
                    rw [hW]
                    exact (blkset_any 5 _ (blkset_any 4 _ (blkset_any 3 _ (blkset_any 2 _ HTc5.out))))
                  have HRq6 := Lib.hid ((hq.2.2.2.2 _ (by omega)).trans HRc5.out)
                  have HXq6 := Lib.hid (fun h => (HXc5.out h).putAt hq (by omega))
                  have HPq6 := Lib.hid (HPc5.out.putAt hq (by omega))
                  have HGq6 := Lib.hid (grown_putAt HGc5.out hq (by omega))
                  have hlq6 : w.heap.size + 1 < wq6.heap.size := lt_of_block HTq6.out
                  rw [← hW]
                  clear hW hq t0 t1 t2 t3 t4 t5 t6 t7 t8 t9 t10 u2 u3 u4 u5 HTc5 HRc5 HPc5 HGc5 hlc5 HXc5
                  refine (rsMust wq6 g ts HT.out.last HT.out.kinds τ3 d [59] HPq6.out).mono ?_
                  rintro x wc7 ⟨rfl, hP, hG⟩
                  have HRc7 := Lib.hid (kept_own hG HRq6.out hgR')
                  have HTc7 := Lib.hid (kept_own hG HTq6.out hgT')
                  have HXc7 := Lib.hid (fun h => (HXq6.out h).gr hG (by omega))
                  have HPc7 := Lib.hid hP
                  have HGc7 := Lib.hid (grown_trans HGq6.out hG)
                  have hlc7 : w.heap.size + 1 < wc7.heap.size := lt_of_block HTc7.out
                  clear hP hG  HTq6 HRq6 HPq6 HGq6 hlq6 HXq6 
                  obtain ⟨r0, r1, r2, r3, r4, r5, r6, r7, r8, r9, r10, rf, -⟩ := blk11 HRc7.out
                  obtain ⟨t0, t1, t2, t3, t4, t5, t6, t7, t8, t9, t10, tf, -⟩ := blk11 HTc7.out
                  have f0 := rf 0
                  have f1 := rf 1
                  have f2 := rf 2
                  have f3 := rf 3
                  have f4 := rf 4
                  have f5 := rf 5
                  have f6 := rf 6
                  have f7 := rf 7
                  have f8 := rf 8
                  have f9 := rf 9
                  have f10 := rf 10
                  clear rf tf
                  go_wp2_with fail
                  have hq : PutAt w.heap.size wc7 _ := ((((((((((((PutAt.refl w.heap.size wc7).set 0 (.int .i64 2)).set 1 (.string ⟨nm.toArray⟩)).set 2 (.int .i64 f.op)).set 3 (.int .i64 f.num)).set 4 (.string ⟨f.name.toArray⟩)).set 5 (.slice f.A f.n f.c)).set 6 (.string ⟨#[]⟩)).set 7 (.slice none 0 0)).set 8 (.slice none 0 0)).set 9 (.slice none 0 0)).set 10 (.slice none 0 0))
                  refine bodyPost_ret (v := .agg #[.int .i64 2, .string ⟨nm.toArray⟩, .int .i64 f.op, .int .i64 f.num, .string ⟨f.name.toArray⟩, .slice f.A f.n f.c, .string ⟨#[]⟩, .slice none 0 0, .slice none 0 0, .slice none 0 0, .slice none 0 0]) (by simp [results, Tryd.results81, go_sem, r0, r1, r2, r3, r4, r5, r6, r7, r8, r9, r10]) rfl ⟨⟨2, nm, f, [], none, 0, 0, none, 0, 0, none, 0, 0, none, 0, 0⟩, rfl, fun hl => ?_, ?_, ?_⟩
                  · rw [HV.out] at hl ⊢
                    exact ⟨⟨rfl, rfl, rfl, rfl, rfl, rfl⟩, stM_mk _ _ _ _ _ _ _ _ (((HXc7.out (xp_live hl)).putAt hq (by omega)).more fun b hb => by omega) rfl (ArsM.nil _ _ _) (StsM.nil _ _ _) (StsM.nil _ _ _)⟩
                  · rw [HV.out]
                    exact HPc7.out.putAt hq hgw
                  · exact grown_putAt HGc7.out hq (Nat.le_refl _)
end Go.Proofs.YtjjooekkieddbaaDoor

namespace Go.Proofs.YtjjooekkieddbaaDoor
open Go.RowKit

theorem SV.one (v : SV) (u : Value) (h : u ∈ v.cells) : u.oneCell' = true := by
  unfold SV.cells at h
  simp at h
  rcases h with rfl | rfl | rfl | rfl | rfl | rfl | rfl | rfl | rfl | rfl | rfl <;> rfl
theorem SV.cl {v : SV} {s : St} (h : v.Is s) : stK.cl (s, v.G) = v.cells := by
  obtain ⟨h1, h2, h3, h4, h5, h6⟩ := h
  unfold SV.cells
  rw [h1, h2, h3, h4, h5, h6]
  rfl
/-- the block's loop -/
def RbL (w : World) (g : Nat) (ts : List Tk.Tok) (st : Pa.Sg → St × Pa.Sg) (R : List St × Pa.Sg) (d f : Nat) (v : Value) (wr : World) : Prop :=
  ∃ τ, Rs wr g ts τ (d + 1) ∧ w.grownBy wr (some g) ∧ ((τ.live = false ∧ R.2 = τ ∧ ∃ A n c, v = .slice A n c) ∨
    (τ.live = true ∧ d < 24 ∧ ∃ P : List (St × SG), OwnR stK 126 wr w.heap.size v P ∧ P.length ≤ τ.k ∧ ts.length ≤ f + τ.k ∧ Pa.sStmts ts st f τ (P.map (·.1)) = R))
theorem Rs.fro {w : World} {g : Nat} {ts : List Tk.Tok} {σ : Pa.Sg} {d : Nat} (h : Rs w g ts σ d) : w.frozen? ⟨g, 5, none⟩ = false := h.dcell.2 5

set_option maxRecDepth 100000 in
set_option maxHeartbeats 8000000 in
theorem rsBlock_of (w : World) (g : Nat) (ts : List Tk.Tok) (hT : TksOk ts) (st : Pa.Sg → St × Pa.Sg) (σ : Pa.Sg) (d : Nat) (hd : d ≤ 24) (hst : ∀ τ, Pa.Fws τ (st τ).2)
    (hC : d < 24 → ∀ w τ, Rs w g ts τ (d + 1) → Calls Tryd.prog 81 #[.pointer (some ⟨g, 0, none⟩)] w (RtP w g ts (st τ) (d + 1))) (hP : Rs w g ts σ d) :
    Calls Tryd.prog 54 #[.pointer (some ⟨g, 0, none⟩)] w (RbP w g ts (Pa.sStmts ts st (ts.length + 1) (Pa.xp ts (opS ts σ d) [123]) []) d) := by
  obtain ⟨i0, hi, hz0, hz1, hz2⟩ := info_parts Tryd.infoSt
  have HP := Lib.hid hP
  have HT := Lib.hid hT
  have HC := Lib.hid hC
  have HST := Lib.hid hst
  have hgw := hP.lt
  have HOL := Lib.hid (opS_live (ts := ts) (σ := σ) (o := d))
  have HOP : Hid (opS ts σ d = if Pa.isS ts σ [123] = true then Pa.lm σ d 24 else σ) := rfl
  generalize opS ts σ d = ρ at *
  generalize hR0 : Pa.sStmts ts st (ts.length + 1) (Pa.xp ts ρ [123]) [] = R at *
  have HR0 := Lib.hid hR0
  clear hP hT hC hst hR0
  go_enter Tryd.func54, Tryd.ntmps54
  go_wp2_with fail
  refine (rsIs w g ts HT.out.kinds σ d [123] HP.out).mono ?_
  rintro x w1 ⟨rfl, hb1⟩
  have HP1 := Lib.hid (HP.out.later hb1)
  have HG1 := Lib.hid (grown_below (g := g) hb1)
  clear hb1
  have p5 := HP1.out.dcell.1
  cases hI : Pa.isS ts σ [123] with
  | true =>
    by_cases h24 : d = 24
    · have t24 : ((d : Int) == 24) = true := bT (show (d : Int) = 24 by omega)
      have HQ : Hid (Pa.fl σ 3 = ρ) := by
        show _ = _
        rw [HOP.out, if_pos hI]
        exact (if_pos (by omega)).symm
      clear hI h24 HOP
      go_wp2_with fail
      refine (rsFail w1 g ts σ d 3 3 rfl (by decide) HP1.out).mono ?_
      rintro x wa ⟨rfl, hPa, hGa⟩
      rw [HQ.out] at hPa
      have HPa := Lib.hid hPa
      have HGa := Lib.hid (grown_trans HG1.out hGa)
      clear hPa hGa p5 HP1 HG1 HQ t24
      go_wp2_with fail
      refine (rsMust wa g ts HT.out.last HT.out.kinds ρ d [123] HPa.out).mono ?_
      rintro x w3 ⟨rfl, hP3, hG3⟩
      obtain ⟨q5, qf⟩ := hP3.dcell
      have f5 := qf 5
      have HP3 := Lib.hid hP3
      have HG3 := Lib.hid (grown_trans HGa.out hG3)
      clear hP3 hG3 qf HPa HGa
      generalize Pa.xp ts ρ [123] = σ3 at *
      have HL0 : Hid (RbL w g ts st R d (ts.length + 1) (.slice none 0 0) (w3.setCell ⟨g, 5, none⟩ (.int .i64 ((d : Int) + 1)))) := by
        refine ⟨σ3, HP3.out.deep (d + 1) _ (by omega), grown_own HG3.out, ?_⟩
        cases σ3 with
        | at_ k => exact .inr ⟨rfl, HOL.out rfl, [], OwnR.nil _ _ _ _, Nat.zero_le _, by omega, HR0.out⟩
        | bad m e => exact .inl ⟨rfl, by rw [← HR0.out]; exact congrArg Prod.snd (sStmts_bad _ _ _ _ _ _), none, 0, 0, rfl⟩
      clear HOL HR0
      go_wp2_with fail
      go_loopg [3] (ts.length + 1) (fun k v wr => Hid (RbL w g ts st R d k v wr))
      case atStart => exact HL0.out
      case round =>
        clear HL0 HP3 HG3 q5 f5
        obtain ⟨τ, hP, hG, hcase⟩ := hrel.out
        clear hrel
        have HPr := Lib.hid hP
        have HGr := Lib.hid hG
        have hnn := hP.len
        have hkT := hP.inT
        have s3 := hP.ecell
        have s5 := hP.dcell.1
        have g5 := hP.fro
        have hwl : w.heap.size ≤ wr.heap.size := hG.size
        clear hP hG
        rcases hcase with ⟨hdead, hRe, A, n, c, rfl⟩ | ⟨hlive, hd24, P, hO, hPk, hfk, hR⟩
        · cases τ with
          | at_ k => cases hdead
          | bad m e =>
            have he : e ≠ 0 := HPr.out.err
            have t0 : (((Pa.Sg.bad m e).e : Int) == 0) = false := bF (show ((e : Nat) : Int) ≠ 0 by omega)
            have HRe := Lib.hid hRe
            clear he hRe hdead
            go_wp2_with fail
            go_ret
            refine ⟨A, n, c, rfl, fun h => ?_, ?_, grown_own HGr.out⟩
            · rw [HRe.out] at h
              cases h
            · rw [HRe.out]
              exact HPr.out.deep d _ (by omega)
        · cases τ with
          | bad m e => cases hlive
          | at_ k0 =>
            have hk3 : (Pa.Sg.at_ k0).k = k0 := rfl
            rw [hk3] at hPk hfk hkT
            obtain ⟨sa, sc, rfl⟩ := hO.form
            have t0 : (((Pa.Sg.at_ k0).e : Int) == 0) = true := rfl
            obtain ⟨f1, rfl⟩ : ∃ f1, gk = f1 + 1 := ⟨gk - 1, by omega⟩
            have HO := Lib.hid hO
            have HR := Lib.hid hR
            clear hO hR hlive hk3
            go_wp2_with fail
            refine (rsTake wr g ts HT.out.last HT.out.kinds (.at_ k0) (d + 1) [125] HPr.out).mono ?_
            rintro x w5 ⟨rfl, hP5, hG5⟩
            have HP5 := Lib.hid hP5
            have HG5 := Lib.hid (grown_trans HGr.out hG5)
            have HO5 := Lib.hid (HO.out.grown hG5 hgw)
            clear hP5 hG5 s3 s5 g5 t0 HO
            cases hI : Pa.isS ts (.at_ k0) [125] with
            | true =>
              have hac : Pa.ac ts (.at_ k0) [125] = .at_ (k0 + 1) := if_pos hI
              rw [hac] at HP5
              have HRR : Hid (R = (P.map (·.1), .at_ (k0 + 1))) := by show _ = _; rw [← HR.out]; exact sStmts_end ts st f1 k0 _ hI
              have s5 := HP5.out.dcell.1
              have g5 := HP5.out.fro
              clear hac hI HR
              go_wp2_with fail
              go_ret
              refine ⟨sa, P.length, sc, rfl, fun _ => ?_, ?_, grown_own HG5.out⟩
              · rw [HRR.out]
                exact ⟨by simp, stsM_of_own (HO5.out.keep (by simp [World.setCell]) fun b hb _ => Below.heap_setCell _ _ _ b (by show b ≠ g; omega))⟩
              · rw [HRR.out]
                exact HP5.out.deep d _ (by omega)
            | false =>
              have hac : Pa.ac ts (.at_ k0) [125] = .at_ k0 := if_neg (by rw [hI]; decide)
              rw [hac] at HP5
              have HR2 : Hid (Pa.sStmts ts st f1 (st (.at_ k0)).2 (P.map (·.1) ++ [(st (.at_ k0)).1]) = R) := by show _ = _; rw [← HR.out]; exact (sStmts_go ts st f1 k0 _ hI).symm
              have HFW := Lib.hid (HST.out (.at_ k0))
              clear hac hI HR
              go_wp2_with fail
              refine (HC.out hd24 w5 (.at_ k0) HP5.out).mono ?_
              rintro x w6 ⟨v, rfl, hM6, hP6, hG6⟩
              unfold SV.val
              have HP6 := Lib.hid hP6
              have HG6 := Lib.hid (grown_trans HG5.out hG6)
              have HM6 := Lib.hid hM6
              have HO6 := Lib.hid (HO5.out.grown hG6 hgw)
              have hl5 : w.heap.size ≤ w5.heap.size := HG5.out.size
              have hl6 : w.heap.size ≤ w6.heap.size := HG6.out.size
              clear hM6 hP6 hG6
              generalize (st (.at_ k0)).2 = τ2 at *
              generalize (st (.at_ k0)).1 = s at *
              go_wp2_with (first | (at_builtin; refine wpList_append_lies _ rfl (.tmp 34) (.tmp 37) 62 rfl w.heap.size 126 i0 _ 11 192 Tryd.underlying62 hi hz0 hz1 hz2 rfl (by decide) _ P.length (stK.cs P) rfl (HO6.out.alloc _).1 ⟨w6.heap.size, 0, none⟩ 1 1 v.cells rfl rfl (news_any w6 _ rfl _ _) v.one (by omega) (by unfold maxLen; omega) (by omega) (by simp; omega) _ rfl ?_))
              intro gb2 cap2 w7 hown hgrow hlies hgl
              have HO7 : Hid (τ2.live = true → OwnR stK 126 w7 w.heap.size (.slice (some ⟨gb2, 0, none⟩) (P.length + 1) cap2) (P ++ [(s, v.G)])) := fun hl => (HO6.out.alloc _).snoc (stK.fresh (N := w5.heap.size) (stK.keep (show stK.In w6 (w5.heap.size ≤ ·) (s, v.G) from (HM6.out hl).2) fun b _ hl => Below.heap_alloc w6 _ b hl) HO5.out (Nat.le_refl _) hl5) (by rw [SV.cl (HM6.out hl).1]; exact hown) hgrow (lies_at hlies (by simp))
              have HP7 : Hid (Rs w7 g ts τ2 (d + 1)) := (HP6.out.alloc _).app (HO6.out.alloc _).1 hgw hgrow
              have HG7 : Hid (w.grownBy w7 (some g)) := grown_app (grown_alc HG6.out _) (HO6.out.alloc _).1 (Nat.le_refl _) hgrow
              clear hown hgrow hlies hgl HO6 HM6 HP6 HO5 HP5
              go_wp2_with fail
              go_roundg f1
              case rel =>
                refine ⟨τ2, HP7.out, HG7.out, ?_⟩
                cases τ2 with
                | bad m e => exact .inl ⟨rfl, by rw [← HR2.out]; exact congrArg Prod.snd (sStmts_bad _ _ _ _ _ _), _, _, _, rfl⟩
                | at_ k2 =>
                  have h1 : k0 < k2 := (HFW.out rfl).2
                  refine .inr ⟨rfl, hd24, P ++ [(s, v.G)], HO7.out rfl, ?_, ?_, ?_⟩
                  · show _ ≤ k2
                    simp
                    omega
                  · show _ ≤ f1 + k2
                    omega
                  · rw [List.map_append]
                    exact HR2.out
              case measure => omega
    · have t24 : ((d : Int) == 24) = false := bF (show (d : Int) ≠ 24 by omega)
      have hQ : σ = ρ := by
        rw [HOP.out, if_pos hI]
        exact (if_neg (by omega)).symm
      have HPa : Hid (Rs w1 g ts ρ d) := by rw [← hQ]; exact HP1.out
      have HGa := HG1
      clear hI h24 HOP hQ HP1 HG1
      go_wp2_with fail
      refine (rsMust w1 g ts HT.out.last HT.out.kinds ρ d [123] HPa.out).mono ?_
      rintro x w3 ⟨rfl, hP3, hG3⟩
      obtain ⟨q5, qf⟩ := hP3.dcell
      have f5 := qf 5
      have HP3 := Lib.hid hP3
      have HG3 := Lib.hid (grown_trans HGa.out hG3)
      clear hP3 hG3 qf HPa HGa
      generalize Pa.xp ts ρ [123] = σ3 at *
      have HL0 : Hid (RbL w g ts st R d (ts.length + 1) (.slice none 0 0) (w3.setCell ⟨g, 5, none⟩ (.int .i64 ((d : Int) + 1)))) := by
        refine ⟨σ3, HP3.out.deep (d + 1) _ (by omega), grown_own HG3.out, ?_⟩
        cases σ3 with
        | at_ k => exact .inr ⟨rfl, HOL.out rfl, [], OwnR.nil _ _ _ _, Nat.zero_le _, by omega, HR0.out⟩
        | bad m e => exact .inl ⟨rfl, by rw [← HR0.out]; exact congrArg Prod.snd (sStmts_bad _ _ _ _ _ _), none, 0, 0, rfl⟩
      clear HOL HR0
      go_wp2_with fail
      go_loopg [3] (ts.length + 1) (fun k v wr => Hid (RbL w g ts st R d k v wr))
      case atStart => exact HL0.out
      case round =>
        clear HL0 HP3 HG3 q5 f5
        obtain ⟨τ, hP, hG, hcase⟩ := hrel.out
        clear hrel
        have HPr := Lib.hid hP
        have HGr := Lib.hid hG
        have hnn := hP.len
        have hkT := hP.inT
        have s3 := hP.ecell
        have s5 := hP.dcell.1
        have g5 := hP.fro
        have hwl : w.heap.size ≤ wr.heap.size := hG.size
        clear hP hG
        rcases hcase with ⟨hdead, hRe, A, n, c, rfl⟩ | ⟨hlive, hd24, P, hO, hPk, hfk, hR⟩
        · cases τ with
          | at_ k => cases hdead
          | bad m e =>
            have he : e ≠ 0 := HPr.out.err
            have t0 : (((Pa.Sg.bad m e).e : Int) == 0) = false := bF (show ((e : Nat) : Int) ≠ 0 by omega)
            have HRe := Lib.hid hRe
            clear he hRe hdead
            go_wp2_with fail
            go_ret
            refine ⟨A, n, c, rfl, fun h => ?_, ?_, grown_own HGr.out⟩
            · rw [HRe.out] at h
              cases h
            · rw [HRe.out]
              exact HPr.out.deep d _ (by omega)
        · cases τ with
          | bad m e => cases hlive
          | at_ k0 =>
            have hk3 : (Pa.Sg.at_ k0).k = k0 := rfl
            rw [hk3] at hPk hfk hkT
            obtain ⟨sa, sc, rfl⟩ := hO.form
            have t0 : (((Pa.Sg.at_ k0).e : Int) == 0) = true := rfl
            obtain ⟨f1, rfl⟩ : ∃ f1, gk = f1 + 1 := ⟨gk - 1, by omega⟩
            have HO := Lib.hid hO
            have HR := Lib.hid hR
            clear hO hR hlive hk3
            go_wp2_with fail
            refine (rsTake wr g ts HT.out.last HT.out.kinds (.at_ k0) (d + 1) [125] HPr.out).mono ?_
            rintro x w5 ⟨rfl, hP5, hG5⟩
            have HP5 := Lib.hid hP5
            have HG5 := Lib.hid (grown_trans HGr.out hG5)
            have HO5 := Lib.hid (HO.out.grown hG5 hgw)
            clear hP5 hG5 s3 s5 g5 t0 HO
            cases hI : Pa.isS ts (.at_ k0) [125] with
            | true =>
              have hac : Pa.ac ts (.at_ k0) [125] = .at_ (k0 + 1) := if_pos hI
              rw [hac] at HP5
              have HRR : Hid (R = (P.map (·.1), .at_ (k0 + 1))) := by show _ = _; rw [← HR.out]; exact sStmts_end ts st f1 k0 _ hI
              have s5 := HP5.out.dcell.1
              have g5 := HP5.out.fro
              clear hac hI HR
              go_wp2_with fail
              go_ret
              refine ⟨sa, P.length, sc, rfl, fun _ => ?_, ?_, grown_own HG5.out⟩
              · rw [HRR.out]
                exact ⟨by simp, stsM_of_own (HO5.out.keep (by simp [World.setCell]) fun b hb _ => Below.heap_setCell _ _ _ b (by show b ≠ g; omega))⟩
              · rw [HRR.out]
                exact HP5.out.deep d _ (by omega)
            | false =>
              have hac : Pa.ac ts (.at_ k0) [125] = .at_ k0 := if_neg (by rw [hI]; decide)
              rw [hac] at HP5
              have HR2 : Hid (Pa.sStmts ts st f1 (st (.at_ k0)).2 (P.map (·.1) ++ [(st (.at_ k0)).1]) = R) := by show _ = _; rw [← HR.out]; exact (sStmts_go ts st f1 k0 _ hI).symm
              have HFW := Lib.hid (HST.out (.at_ k0))
              clear hac hI HR
              go_wp2_with fail
              refine (HC.out hd24 w5 (.at_ k0) HP5.out).mono ?_
              rintro x w6 ⟨v, rfl, hM6, hP6, hG6⟩
              unfold SV.val
              have HP6 := Lib.hid hP6
              have HG6 := Lib.hid (grown_trans HG5.out hG6)
              have HM6 := Lib.hid hM6
              have HO6 := Lib.hid (HO5.out.grown hG6 hgw)
              have hl5 : w.heap.size ≤ w5.heap.size := HG5.out.size
              have hl6 : w.heap.size ≤ w6.heap.size := HG6.out.size
              clear hM6 hP6 hG6
              generalize (st (.at_ k0)).2 = τ2 at *
              generalize (st (.at_ k0)).1 = s at *
              go_wp2_with (first | (at_builtin; refine wpList_append_lies _ rfl (.tmp 34) (.tmp 37) 62 rfl w.heap.size 126 i0 _ 11 192 Tryd.underlying62 hi hz0 hz1 hz2 rfl (by decide) _ P.length (stK.cs P) rfl (HO6.out.alloc _).1 ⟨w6.heap.size, 0, none⟩ 1 1 v.cells rfl rfl (news_any w6 _ rfl _ _) v.one (by omega) (by unfold maxLen; omega) (by omega) (by simp; omega) _ rfl ?_))
              intro gb2 cap2 w7 hown hgrow hlies hgl
              have HO7 : Hid (τ2.live = true → OwnR stK 126 w7 w.heap.size (.slice (some ⟨gb2, 0, none⟩) (P.length + 1) cap2) (P ++ [(s, v.G)])) := fun hl => (HO6.out.alloc _).snoc (stK.fresh (N := w5.heap.size) (stK.keep (show stK.In w6 (w5.heap.size ≤ ·) (s, v.G) from (HM6.out hl).2) fun b _ hl => Below.heap_alloc w6 _ b hl) HO5.out (Nat.le_refl _) hl5) (by rw [SV.cl (HM6.out hl).1]; exact hown) hgrow (lies_at hlies (by simp))
              have HP7 : Hid (Rs w7 g ts τ2 (d + 1)) := (HP6.out.alloc _).app (HO6.out.alloc _).1 hgw hgrow
              have HG7 : Hid (w.grownBy w7 (some g)) := grown_app (grown_alc HG6.out _) (HO6.out.alloc _).1 (Nat.le_refl _) hgrow
              clear hown hgrow hlies hgl HO6 HM6 HP6 HO5 HP5
              go_wp2_with fail
              go_roundg f1
              case rel =>
                refine ⟨τ2, HP7.out, HG7.out, ?_⟩
                cases τ2 with
                | bad m e => exact .inl ⟨rfl, by rw [← HR2.out]; exact congrArg Prod.snd (sStmts_bad _ _ _ _ _ _), _, _, _, rfl⟩
                | at_ k2 =>
                  have h1 : k0 < k2 := (HFW.out rfl).2
                  refine .inr ⟨rfl, hd24, P ++ [(s, v.G)], HO7.out rfl, ?_, ?_, ?_⟩
                  · show _ ≤ k2
                    simp
                    omega
                  · show _ ≤ f1 + k2
                    omega
                  · rw [List.map_append]
                    exact HR2.out
              case measure => omega
  | false =>
    have hQ : σ = ρ := by rw [HOP.out, if_neg (by rw [hI]; decide)]
    have HPa : Hid (Rs w1 g ts ρ d) := by rw [← hQ]; exact HP1.out
    have HGa := HG1
    clear hI HOP hQ HP1 HG1
    go_wp2_with fail
    refine (rsMust w1 g ts HT.out.last HT.out.kinds ρ d [123] HPa.out).mono ?_
    rintro x w3 ⟨rfl, hP3, hG3⟩
    obtain ⟨q5, qf⟩ := hP3.dcell
    have f5 := qf 5
    have HP3 := Lib.hid hP3
    have HG3 := Lib.hid (grown_trans HGa.out hG3)
    clear hP3 hG3 qf HPa HGa
    generalize Pa.xp ts ρ [123] = σ3 at *
    have HL0 : Hid (RbL w g ts st R d (ts.length + 1) (.slice none 0 0) (w3.setCell ⟨g, 5, none⟩ (.int .i64 ((d : Int) + 1)))) := by
      refine ⟨σ3, HP3.out.deep (d + 1) _ (by omega), grown_own HG3.out, ?_⟩
      cases σ3 with
      | at_ k => exact .inr ⟨rfl, HOL.out rfl, [], OwnR.nil _ _ _ _, Nat.zero_le _, by omega, HR0.out⟩
      | bad m e => exact .inl ⟨rfl, by rw [← HR0.out]; exact congrArg Prod.snd (sStmts_bad _ _ _ _ _ _), none, 0, 0, rfl⟩
    clear HOL HR0
    go_wp2_with fail
    go_loopg [3] (ts.length + 1) (fun k v wr => Hid (RbL w g ts st R d k v wr))
    case atStart => exact HL0.out
    case round =>
      clear HL0 HP3 HG3 q5 f5
      obtain ⟨τ, hP, hG, hcase⟩ := hrel.out
      clear hrel
      have HPr := Lib.hid hP
      have HGr := Lib.hid hG
      have hnn := hP.len
      have hkT := hP.inT
      have s3 := hP.ecell
      have s5 := hP.dcell.1
      have g5 := hP.fro
      have hwl : w.heap.size ≤ wr.heap.size := hG.size
      clear hP hG
      rcases hcase with ⟨hdead, hRe, A, n, c, rfl⟩ | ⟨hlive, hd24, P, hO, hPk, hfk, hR⟩
      · cases τ with
        | at_ k => cases hdead
        | bad m e =>
          have he : e ≠ 0 := HPr.out.err
          have t0 : (((Pa.Sg.bad m e).e : Int) == 0) = false := bF (show ((e : Nat) : Int) ≠ 0 by omega)
          have HRe := Lib.hid hRe
          clear he hRe hdead
          go_wp2_with fail
          go_ret
          refine ⟨A, n, c, rfl, fun h => ?_, ?_, grown_own HGr.out⟩
          · rw [HRe.out] at h
            cases h
          · rw [HRe.out]
            exact HPr.out.deep d _ (by omega)
      · cases τ with
        | bad m e => cases hlive
        | at_ k0 =>
          have hk3 : (Pa.Sg.at_ k0).k = k0 := rfl
          rw [hk3] at hPk hfk hkT
          obtain ⟨sa, sc, rfl⟩ := hO.form
          have t0 : (((Pa.Sg.at_ k0).e : Int) == 0) = true := rfl
          obtain ⟨f1, rfl⟩ : ∃ f1, gk = f1 + 1 := ⟨gk - 1, by omega⟩
          have HO := Lib.hid hO
          have HR := Lib.hid hR
          clear hO hR hlive hk3
          go_wp2_with fail
          refine (rsTake wr g ts HT.out.last HT.out.kinds (.at_ k0) (d + 1) [125] HPr.out).mono ?_
          rintro x w5 ⟨rfl, hP5, hG5⟩
          have HP5 := Lib.hid hP5
          have HG5 := Lib.hid (grown_trans HGr.out hG5)
          have HO5 := Lib.hid (HO.out.grown hG5 hgw)
          clear hP5 hG5 s3 s5 g5 t0 HO
          cases hI : Pa.isS ts (.at_ k0) [125] with
          | true =>
            have hac : Pa.ac ts (.at_ k0) [125] = .at_ (k0 + 1) := if_pos hI
            rw [hac] at HP5
            have HRR : Hid (R = (P.map (·.1), .at_ (k0 + 1))) := by show _ = _; rw [← HR.out]; exact sStmts_end ts st f1 k0 _ hI
            have s5 := HP5.out.dcell.1
            have g5 := HP5.out.fro
            clear hac hI HR
            go_wp2_with fail
            go_ret
            refine ⟨sa, P.length, sc, rfl, fun _ => ?_, ?_, grown_own HG5.out⟩
            · rw [HRR.out]
              exact ⟨by simp, stsM_of_own (HO5.out.keep (by simp [World.setCell]) fun b hb _ => Below.heap_setCell _ _ _ b (by show b ≠ g; omega))⟩
            · rw [HRR.out]
              exact HP5.out.deep d _ (by omega)
          | false =>
            have hac : Pa.ac ts (.at_ k0) [125] = .at_ k0 := if_neg (by rw [hI]; decide)
            rw [hac] at HP5
            have HR2 : Hid (Pa.sStmts ts st f1 (st (.at_ k0)).2 (P.map (·.1) ++ [(st (.at_ k0)).1]) = R) := by show _ = _; rw [← HR.out]; exact (sStmts_go ts st f1 k0 _ hI).symm
            have HFW := Lib.hid (HST.out (.at_ k0))
            clear hac hI HR
            go_wp2_with fail
            refine (HC.out hd24 w5 (.at_ k0) HP5.out).mono ?_
            rintro x w6 ⟨v, rfl, hM6, hP6, hG6⟩
            unfold SV.val
            have HP6 := Lib.hid hP6
            have HG6 := Lib.hid (grown_trans HG5.out hG6)
            have HM6 := Lib.hid hM6
            have HO6 := Lib.hid (HO5.out.grown hG6 hgw)
            have hl5 : w.heap.size ≤ w5.heap.size := HG5.out.size
            have hl6 : w.heap.size ≤ w6.heap.size := HG6.out.size
            clear hM6 hP6 hG6
            generalize (st (.at_ k0)).2 = τ2 at *
            generalize (st (.at_ k0)).1 = s at *
            go_wp2_with (first | (at_builtin; refine wpList_append_lies _ rfl (.tmp 34) (.tmp 37) 62 rfl w.heap.size 126 i0 _ 11 192 Tryd.underlying62 hi hz0 hz1 hz2 rfl (by decide) _ P.length (stK.cs P) rfl (HO6.out.alloc _).1 ⟨w6.heap.size, 0, none⟩ 1 1 v.cells rfl rfl (news_any w6 _ rfl _ _) v.one (by omega) (by unfold maxLen; omega) (by omega) (by simp; omega) _ rfl ?_))
            intro gb2 cap2 w7 hown hgrow hlies hgl
            have HO7 : Hid (τ2.live = true → OwnR stK 126 w7 w.heap.size (.slice (some ⟨gb2, 0, none⟩) (P.length + 1) cap2) (P ++ [(s, v.G)])) := fun hl => (HO6.out.alloc _).snoc (stK.fresh (N := w5.heap.size) (stK.keep (show stK.In w6 (w5.heap.size ≤ ·) (s, v.G) from (HM6.out hl).2) fun b _ hl => Below.heap_alloc w6 _ b hl) HO5.out (Nat.le_refl _) hl5) (by rw [SV.cl (HM6.out hl).1]; exact hown) hgrow (lies_at hlies (by simp))
            have HP7 : Hid (Rs w7 g ts τ2 (d + 1)) := (HP6.out.alloc _).app (HO6.out.alloc _).1 hgw hgrow
            have HG7 : Hid (w.grownBy w7 (some g)) := grown_app (grown_alc HG6.out _) (HO6.out.alloc _).1 (Nat.le_refl _) hgrow
            clear hown hgrow hlies hgl HO6 HM6 HP6 HO5 HP5
            go_wp2_with fail
            go_roundg f1
            case rel =>
              refine ⟨τ2, HP7.out, HG7.out, ?_⟩
              cases τ2 with
              | bad m e => exact .inl ⟨rfl, by rw [← HR2.out]; exact congrArg Prod.snd (sStmts_bad _ _ _ _ _ _), _, _, _, rfl⟩
              | at_ k2 =>
                have h1 : k0 < k2 := (HFW.out rfl).2
                refine .inr ⟨rfl, hd24, P ++ [(s, v.G)], HO7.out rfl, ?_, ?_, ?_⟩
                · show _ ≤ k2
                  simp
                  omega
                · show _ ≤ f1 + k2
                  omega
                · rw [List.map_append]
                  exact HR2.out
            case measure => omega
theorem rsBlock_any (g : Nat) (ts : List Tk.Tok) (hT : TksOk ts) (f : Nat) : ∀ d, f + d = 25 → d ≤ 24 → RbC g ts (fun σ => Pa.sBlock ts f d σ) d := by
  induction f with
  | zero => intro d h1 h2; omega
  | succ f ih =>
    intro d h1 h2 w σ hP
    have := rsBlock_of w g ts hT (fun τ => Pa.sStmt ts (fun υ => Pa.sBlock ts f (d + 1) υ) τ) σ d h2 (fun τ => Pa.sStmt_fws ts _ (fun υ => Pa.sBlock_fwd ts f (d + 1) υ) τ)
      (fun ho w τ hP => rsStmt w g ts hT _ (fun υ => Pa.sBlock_fwd ts f (d + 1) υ) τ (d + 1) (ih (d + 1) (by omega) (by omega)) hP) hP
    exact this
end Go.Proofs.YtjjooekkieddbaaDoor
