/- What the reference's Program returns: the plain function progV. -/
import Derived.Test.YtjjooekkieddbaaDoorGRsC
import Derived.Test.YtjjooekkieddbaaDoorGLex
namespace Go.Proofs.YtjjooekkieddbaaDoor
open Go.RowKit

theorem bel_gr {n : Nat} {w0 w w' : World} {g : Nat} (h : Below n w0 w) (hg : w.grownBy w' (some g)) (hn : n ≤ g) (hs : n ≤ w.heap.size) : Below n w0 w' :=
  ⟨hg.os.trans h.os, hg.tape.trans h.tape, hg.output.trans h.output, Nat.le_trans h.size hg.size, fun b hb => (hg.block b (by omega) (fun e => by injection e with e; omega)).trans (h.block b hb)⟩
theorem bel_put {n r : Nat} {w0 w w' : World} (h : Below n w0 w) (hp : PutAt r w w') (hn : n ≤ r) : Below n w0 w' :=
  ⟨hp.1.trans h.os, hp.2.1.trans h.tape, hp.2.2.1.trans h.output, by have := h.size; have := hp.2.2.2.1; omega, fun b hb => (hp.2.2.2.2 b (by omega)).trans (h.block b hb)⟩
theorem bel_alc {n : Nat} {w0 w : World} (h : Below n w0 w) (hs : n ≤ w.heap.size) (o : Obj) : Below n w0 (w.alloc o) := h.alloc hs o
/-- a slice of the call's own has grown -/
theorem bel_app {n B m size : Nat} {t : TypeId} {v : Value} {xs : List Value} {w0 W W' : World} (h : Below n w0 W) (ho : W.ownsRow B t size v m xs) (hB : n ≤ B) (hs : n ≤ W.heap.size) (hg : W.grownBy W' v.ownBlock) : Below n w0 W' :=
  ⟨hg.os.trans h.os, hg.tape.trans h.tape, hg.output.trans h.output, Nat.le_trans h.size hg.size, fun b hb => (hg.block b (by omega) (fun e => by have := (ho.lt b e.symm).1; omega)).trans (h.block b hb)⟩
theorem blk_app {B m size r : Nat} {t : TypeId} {v : Value} {xs : List Value} {W W' : World} {ob : Obj} (h : W.heap[r]? = some ob) (ho : W.ownsRow B t size v m xs) (hr : r < B) (hg : W.grownBy W' v.ownBlock) : W'.heap[r]? = some ob :=
  (hg.block r (lt_of_block h) (fun e => by have := (ho.lt r e.symm).1; omega)).trans h
theorem isS_other {ts : List Tk.Tok} {k : Nat} {s s' : List UInt8} (h : Pa.isS ts (.at_ k) s = true) (hne : s ≠ s') : Pa.isS ts (.at_ k) s' = false := by
  obtain ⟨k', e, h1, h2⟩ := isS_at h
  injection e with e
  subst e
  simp [Pa.isS, h2, hne]
theorem Rs.bcell {w : World} {g : Nat} {ts : List Tk.Tok} {m e d : Nat} (h : Rs w g ts (.bad m e) d) : w.cell? ⟨g, 2, none⟩ = some (.int .i64 (m : Int)) := by
  obtain ⟨he, hm, k, h⟩ := h
  obtain ⟨b, c, -, -, -, -, q2, -⟩ := h.cells
  exact q2
theorem sGlobal_dead (ts : List Tk.Tok) (m e : Nat) : (Pa.sGlobal ts (.bad m e)).2 = .bad m e := by
  unfold Pa.sGlobal
  split <;> rfl
theorem sParams_dead (ts : List Tk.Tok) (m e : Nat) : (Pa.sParams ts (.bad m e)).2 = .bad m e := by
  unfold Pa.sParams
  split
  · rfl
  · exact sParamL_dead _ _ _ _ _
theorem sFunc_dead (ts : List Tk.Tok) (m e : Nat) : (Pa.sFunc ts (.bad m e)).2 = .bad m e := by
  show (Pa.sBlock ts 25 0 (Pa.sParams ts (Pa.tk ts (.bad m e) 1)).2).2 = .bad m e
  rw [show Pa.tk ts (.bad m e) 1 = .bad m e from rfl, sParams_dead, Pa.sBlock]
  exact congrArg Prod.snd (sStmts_bad _ _ _ _ _ _)
theorem lexGo_n (l : List UInt8) (f : Nat) : ∀ (k : Nat) (acc : List Tk.Tok), k ≤ l.length → l.length - k < f → (Tk.lexGo f l k acc).2.2 = 0 → (Tk.lexGo f l k acc).2.1 = l.length := by
  induction f with
  | zero => intro k acc _ h; omega
  | succ f ih =>
    intro k acc hk hf h0
    rw [Tk.lexGo] at h0 ⊢
    split at h0
    · rename_i hc
      rw [if_pos hc]
    · rename_i hc
      rw [if_neg hc]
      cases ht : Tk.tokAt l k with
      | error e =>
        rw [ht] at h0
        have h1 := tok_err l k e ht
        have h2 : e = 0 := h0
        omega
      | ok t =>
        rw [ht] at h0
        dsimp only at h0 ⊢
        split at h0
        · cases h0
        · rename_i hn
          rw [if_neg hn]
          obtain ⟨hp, hle, -⟩ := tok_ok l k t (by omega) ht
          have hs : k + t.text.length ≤ Tk.skipTo l (k + t.text.length) := by unfold Tk.skipTo; omega
          exact ih _ _ (Tk.skipTo_le l _ hle) (by omega) h0
theorem lexN (l : List UInt8) (h0 : (Tk.lex l).2.2 = 0) : (Tk.lex l).2.1 = l.length := by
  by_cases hl : l.length > 262144
  · unfold Tk.lex at h0
    rw [if_pos hl] at h0
    cases h0
  · have e : Tk.lex l = Tk.lexGo (l.length + 1) l (Tk.skipTo l 0) [] := by unfold Tk.lex; rw [if_neg hl]
    rw [e] at h0 ⊢
    exact lexGo_n l (l.length + 1) (Tk.skipTo l 0) [] (Tk.skipTo_le l 0 (by omega)) (by omega) h0
/-- the loop over declarations -/
def RqL (w1 : World) (ts : List Tk.Tok) (R : Pg × Pa.Sg) (f : Nat) (wr : World) : Prop :=
  ∃ τ, Rs wr w1.heap.size ts τ 0 ∧ Below w1.heap.size w1 wr ∧ ((τ.live = false ∧ R.2 = τ) ∨
    (τ.live = true ∧ ∃ vG vM vF PG PM PF, wr.heap[w1.heap.size + 1]? = some (.cells #[vG, vM, vF] 44 (0, 0)) ∧ PgR wr (w1.heap.size + 2) vG vM vF PG PM PF ∧ PG.length ≤ 16 ∧ PM.length ≤ 12 ∧ PF.length ≤ 16 ∧ ts.length ≤ f + τ.k ∧ Pa.sProg ts f τ ⟨PG, PM, PF.map (·.1)⟩ = R))

set_option maxRecDepth 100000 in
set_option maxHeartbeats 16000000 in
theorem rProgram_any (l : List UInt8) (ao : Option Addr) (cap : Nat) (w : World) (hB : Byt w ao l) (hl : l.length ≤ 262144) (hcap : l.length ≤ cap) :
    Calls Tryd.prog 29 #[.slice ao l.length cap] w (PrgPost w (progV l)) := by
  obtain ⟨iG, hiG, hgG0, hgG1, hgG2⟩ := info_parts Tryd.infoGl
  obtain ⟨iM, hiM, hgM0, hgM1, hgM2⟩ := info_parts Tryd.infoMx
  obtain ⟨iF, hiF, hgF0, hgF1, hgF2⟩ := info_parts Tryd.infoFn
  have HLX := Lib.hid (fun (o : Obj) => refLex_any l ao cap (w.alloc o) (hB.later ((Below.refl _ _).alloc (Nat.le_refl _) _)) hl hcap)
  have hlen := lex_len l
  have HL := Lib.hid (fun h => And.intro (lex_ok l h) (lex_tks l h))
  have HV : Hid (progV l = if (Tk.lex l).2.2 = 0 then progT (Tk.lex l).1 l.length else (noPg, (Tk.lex l).2.1, (Tk.lex l).2.2)) := rfl
  have HNE := Lib.hid (lexN l)
  clear hB hcap
  go_enter Tryd.func29, Tryd.ntmps29
  go_wp2_with fail
  refine (HLX.out _).mono ?_
  intro e w1 hLP
  obtain ⟨A, c, rfl, hT, hb1⟩ := lexPost_open hLP
  have HTS := Lib.hid hT
  have HR1 := Lib.hid ((hb1.block w.heap.size (by simp)).trans (heap_alloc_new w _))
  have HB1 : Hid (Below w.heap.size w w1) := below_rev (w1 := w.alloc _) hb1 ((Below.refl _ _).alloc (Nat.le_refl _) _)
  have hl1 : w.heap.size < w1.heap.size := lt_of_block HR1.out
  clear hLP hT hb1 HLX
  generalize (Tk.lex l).1 = ts at *
  generalize (Tk.lex l).2.1 = n0 at *
  generalize (Tk.lex l).2.2 = e0 at *
  by_cases he : e0 = 0
  · subst he
    have HLO := Lib.hid (HL.out rfl).1
    have HT := Lib.hid (HL.out rfl).2
    have HNU := Lib.hid (HL.out rfl).1.num
    have hn0 := HNE.out rfl
    have hnn : ts.length ≤ 4001 := hlen
    have hgT' : w1.heap.size + 1 ≠ w1.heap.size := by omega
    have hTg' : w1.heap.size ≠ w1.heap.size + 1 := by omega
    have hRg' : w.heap.size ≠ w1.heap.size := by omega
    have hgR' : w1.heap.size ≠ w.heap.size := by omega
    have hRT' : w.heap.size ≠ w1.heap.size + 1 := by omega
    have hTR' : w1.heap.size + 1 ≠ w.heap.size := by omega
    subst hn0
    obtain ⟨hn1, hn2⟩ := new2 w1 (.cells #[.slice A ts.length c, .int .i64 0, .int .i64 0, .int .i64 0, .int .i64 0, .int .i64 0] 87) (.cells #[.slice none 0 0, .slice none 0 0, .slice none 0 0] 44)
    have HV2 : Hid (progV l = progT ts l.length) := HV.out.trans (if_pos rfl)
    have HV3 : Hid (progV l = if (Pa.sProg ts ts.length (.at_ 0) ⟨[], [], []⟩).2.live = true then ((Pa.sProg ts ts.length (.at_ 0) ⟨[], [], []⟩).1, l.length, 0) else (noPg, posAt ts (Pa.sProg ts ts.length (.at_ 0) ⟨[], [], []⟩).2.k, (Pa.sProg ts ts.length (.at_ 0) ⟨[], [], []⟩).2.e)) := HV2.out
    generalize hR0 : Pa.sProg ts ts.length (.at_ 0) ⟨[], [], []⟩ = R at *
    have HL0 : Hid (RqL w1 ts R ts.length ((w1.alloc (.cells #[.slice A ts.length c, .int .i64 0, .int .i64 0, .int .i64 0, .int .i64 0, .int .i64 0] 87)).alloc (.cells #[.slice none 0 0, .slice none 0 0, .slice none 0 0] 44))) := by
      refine ⟨.at_ 0, (show Rs (w1.alloc (.cells #[.slice A ts.length c, .int .i64 0, .int .i64 0, .int .i64 0, .int .i64 0, .int .i64 0] 87)) w1.heap.size ts (.at_ 0) 0 from ⟨0, rsr_new w1 ts 0 A c HTS.out HLO.out.pos (by omega)⟩).alloc _, ((Below.refl _ _).alloc (Nat.le_refl _) _).alloc (by simp) _, .inr ⟨rfl, _, _, _, [], [], [], hn2, PgR.nil _ _, by simp, by simp, by simp, ?_, hR0⟩⟩
      show _ ≤ ts.length + 0
      omega
    clear hR0 hn1 hn2 HV HV2 HL HNE
    go_wp2_with fail
    go_loopg [29] ts.length (fun k v wr => Hid (RqL w1 ts R k wr))
    case atStart => exact HL0.out
    case round =>
      clear HL0
      obtain ⟨τ, hP, hBe, hcase⟩ := hrel.out
      clear hrel
      have HP0 := Lib.hid hP
      have HBe0 := Lib.hid hBe
      have hkT := hP.inT
      have s3 := hP.ecell
      clear hP hBe
      rcases hcase with ⟨hdead, hRe⟩ | ⟨hlive, vG, vM, vF, PG, PM, PF, hTb, hPg, hg16, hm12, hf16, hfk, hR⟩
      · cases τ with
        | at_ k => cases hdead
        | bad m e =>
          have he : e ≠ 0 := HP0.out.err
          have e2 : (Pa.Sg.bad m e).e = e := rfl
          have e1 : (Pa.Sg.bad m e).k = m := rfl
          rw [e2] at s3
          rw [e1] at hkT
          have t0 : ((e : Int) == 0) = false := bF (show ((e : Nat) : Int) ≠ 0 by omega)
          have t1 : ((e : Int) != 0) = true := nT (show ((e : Nat) : Int) ≠ 0 by omega)
          have HV4 : Hid (progV l = (noPg, posAt ts m, e)) := by
            show _ = _
            rw [HV3.out, hRe]
            rfl
          have s2 := HP0.out.bcell
          have HTn : Hid (TokS wr A ts) := HTS.out.later HBe0.out
          have HRn := Lib.hid ((HBe0.out.block w.heap.size hl1).trans HR1.out)
          have HBn := Lib.hid (below_rev HBe0.out HB1.out)
          obtain ⟨r0, r1, r2, rf, -⟩ := blk3 HRn.out
          have f0 := rf 0
          have f1 := rf 1
          have f2 := rf 2
          obtain ⟨b, hA, h0, -, -, h3⟩ := HTn.out m hkT
          have hbw : b ≠ w.heap.size := by
            rintro rfl
            have hx := HRn.out
            simp [World.cell?, hx] at h3
          have hwb : w.heap.size ≠ b := hbw.symm
          have HM : Hid (posAt ts m = ts[m].pos) := by show _ = _; unfold posAt; rw [List.getElem?_eq_getElem hkT]
          have i0 : (0 : Int) ≤ (m : Int) := by omega
          have i1 : (m : Int) < (ts.length : Int) := by omega
          generalize ts[m].pos = q at *
          generalize ts[m].kind = q' at *
          subst hA
          clear HV3 e1 e2 he HTn HP0 HRn hRe hdead rf h0 HTS
          go_wp2_with fail
          go_region
          all_goals
            go_wp2
            have hq : PutAt w.heap.size wr _ := (((PutAt.refl w.heap.size wr).set 0 (.slice none 0 0)).set 1 (.slice none 0 0)).set 2 (.slice none 0 0)
            refine bodyPost_ret (v := .tuple #[.agg #[.slice none 0 0, .slice none 0 0, .slice none 0 0], .int .i64 (q : Int), .int .i64 (e : Int)]) (by simp [results, Tryd.results29, go_sem, r0, r1, r2]) rfl ⟨_, _, _, [], [], [], w.heap.size, by rw [HV4.out, HM.out], Nat.le_refl _, PgR.nil _ _, by rw [HV4.out]; rfl, (below_putR HBn.out hq (Nat.le_refl _)).drew⟩
      · cases τ with
        | bad m e => cases hlive
        | at_ k0 =>
          have t0 : (((Pa.Sg.at_ k0).e : Int) == 0) = true := rfl
          have hk3 : (Pa.Sg.at_ k0).k = k0 := rfl
          rw [hk3] at hkT hfk
          obtain ⟨f1, rfl⟩ : ∃ f1, gk = f1 + 1 := ⟨gk - 1, by omega⟩
          have HTb0 := Lib.hid hTb
          have HPg0 := Lib.hid hPg
          have HRR := Lib.hid hR
          have hlt0 : w1.heap.size + 1 < wr.heap.size := lt_of_block hTb
          clear hTb hPg hR hk3 hlive
          obtain ⟨AG, cG, rfl⟩ := slice_form HPg0.out.rG
          obtain ⟨AM, cM, rfl⟩ := slice_form HPg0.out.rM
          obtain ⟨AF, cF, rfl⟩ := slice_form HPg0.out.rF
          go_wp2_with fail
          refine (rsKind wr w1.heap.size ts (.at_ k0) 0 5 5 rfl HP0.out).mono ?_
          rintro x w2 ⟨rfl, hb⟩
          have HP1 := Lib.hid (HP0.out.later hb)
          have HBe1 := Lib.hid (HBe0.out.trans (hb.mono (by omega)))
          have HTb1 := Lib.hid ((hb.block _ hlt0).trans HTb0.out)
          have HPg1 := Lib.hid (HPg0.out.keep fun b _ hl => hb.block b hl)
          have hlt1 : w1.heap.size + 1 < w2.heap.size := lt_of_block HTb1.out
          clear hb HP0 HBe0 HTb0 HPg0 s3 t0 hlt0
          cases hE : Pa.kdS ts (.at_ k0) 5 with
          | true =>
            have HRe : Hid (R = (⟨PG, PM, PF.map (·.1)⟩, .at_ k0)) := by show _ = _; rw [← HRR.out, Pa.sProg, if_pos (.inr hE)]
            have HV4 : Hid (progV l = (⟨PG, PM, PF.map (·.1)⟩, l.length, 0)) := by
              show _ = _
              rw [HV3.out, HRe.out]
              rfl
            have s3 := HP1.out.ecell
            have t0 : (((Pa.Sg.at_ k0).e : Int) != 0) = false := rfl
            clear hE HRR HRe HV3
            obtain ⟨t1, t2, t3, -, -⟩ := blk3 HTb1.out
            have HRn := Lib.hid ((HBe1.out.block w.heap.size hl1).trans HR1.out)
            have HBn := Lib.hid (below_rev HBe1.out HB1.out)
            obtain ⟨r0, r1, r2, rf, -⟩ := blk3 HRn.out
            have f0 := rf 0
            have f1 := rf 1
            have f2 := rf 2
            clear rf
            go_wp2_with fail
            have hq : PutAt w.heap.size w2 _ := (((PutAt.refl w.heap.size w2).set 0 (.slice AG PG.length cG)).set 1 (.slice AM PM.length cM)).set 2 (.slice AF PF.length cF)
            refine bodyPost_ret (v := .tuple #[.agg #[.slice AG PG.length cG, .slice AM PM.length cM, .slice AF PF.length cF], .int .i64 (l.length : Int), .int .i64 0]) (by simp [results, Tryd.results29, go_sem, r0, r1, r2]) rfl ⟨_, _, _, PG, PM, PF, w1.heap.size + 2, by rw [HV4.out]; rfl, by omega, HPg1.out.putAt hq (by omega), by rw [HV4.out], below_putR HBn.out hq (Nat.le_refl _)⟩
          | false =>
            have HE := Lib.hid hE
            clear hE HV3 HTS
            cases hI : Pa.isS ts (.at_ k0) [118, 97, 114] with
            | true =>
              have HV := Lib.hid hI
              have HM : Hid (Pa.isS ts (.at_ k0) [109, 117, 116, 101, 120] = false) := isS_other hI (by decide)
              have HR : Hid (Pa.isS ts (.at_ k0) [114, 109, 117, 116, 101, 120] = false) := isS_other hI (by decide)
              have HF : Hid (Pa.isS ts (.at_ k0) [102, 117, 110, 99] = false) := isS_other hI (by decide)
              clear hI
              go_wp2_with fail
              refine (rsIs w2 w1.heap.size ts HT.out.kinds (.at_ k0) 0 [118, 97, 114] HP1.out).mono ?_
              rw [HV.out]
              rintro x wi1 ⟨rfl, hb⟩
              have HPi1 := Lib.hid (HP1.out.later hb)
              have HBei1 := Lib.hid (HBe1.out.trans (hb.mono (by omega)))
              have HTbi1 := Lib.hid ((hb.block _ hlt1).trans HTb1.out)
              have HPgi1 := Lib.hid (HPg1.out.keep fun b _ hl => hb.block b hl)
              have hlti1 : w1.heap.size + 1 < wi1.heap.size := lt_of_block HTbi1.out
              clear hb HP1 HBe1 HTb1 HPg1 hlt1
              go_wp2_with fail
              refine (rsIs wi1 w1.heap.size ts HT.out.kinds (.at_ k0) 0 [109, 117, 116, 101, 120] HPi1.out).mono ?_
              rw [HM.out]
              rintro x wi2 ⟨rfl, hb⟩
              have HPi2 := Lib.hid (HPi1.out.later hb)
              have HBei2 := Lib.hid (HBei1.out.trans (hb.mono (by omega)))
              have HTbi2 := Lib.hid ((hb.block _ hlti1).trans HTbi1.out)
              have HPgi2 := Lib.hid (HPgi1.out.keep fun b _ hl => hb.block b hl)
              have hlti2 : w1.heap.size + 1 < wi2.heap.size := lt_of_block HTbi2.out
              clear hb HPi1 HBei1 HTbi1 HPgi1 hlti1
              go_wp2_with fail
              refine (rsIs wi2 w1.heap.size ts HT.out.kinds (.at_ k0) 0 [114, 109, 117, 116, 101, 120] HPi2.out).mono ?_
              rw [HR.out]
              rintro x wi3 ⟨rfl, hb⟩
              have HPi3 := Lib.hid (HPi2.out.later hb)
              have HBei3 := Lib.hid (HBei2.out.trans (hb.mono (by omega)))
              have HTbi3 := Lib.hid ((hb.block _ hlti2).trans HTbi2.out)
              have HPgi3 := Lib.hid (HPgi2.out.keep fun b _ hl => hb.block b hl)
              have hlti3 : w1.heap.size + 1 < wi3.heap.size := lt_of_block HTbi3.out
              clear hb HPi2 HBei2 HTbi2 HPgi2 hlti2
              go_wp2_with fail
              refine (rsIs wi3 w1.heap.size ts HT.out.kinds (.at_ k0) 0 [102, 117, 110, 99] HPi3.out).mono ?_
              rw [HF.out]
              rintro x wi4 ⟨rfl, hb⟩
              have HPi4 := Lib.hid (HPi3.out.later hb)
              have HBei4 := Lib.hid (HBei3.out.trans (hb.mono (by omega)))
              have HTbi4 := Lib.hid ((hb.block _ hlti3).trans HTbi3.out)
              have HPgi4 := Lib.hid (HPgi3.out.keep fun b _ hl => hb.block b hl)
              have hlti4 : w1.heap.size + 1 < wi4.heap.size := lt_of_block HTbi4.out
              clear hb HPi3 HBei3 HTbi3 HPgi3 hlti3
              obtain ⟨t1, t2, t3, -, -⟩ := blk3 HTbi4.out
              by_cases hlim : PG.length = 16
              · have tl : ((PG.length : Int) == 16) = true := bT (show (PG.length : Int) = 16 by omega)
                have HRe : Hid (R.2 = .bad k0 3) := by
                  show _ = _
                  rw [← HRR.out, Pa.sProg, if_neg (fun h => by rcases h with h | h; cases h; rw [HE.out] at h; cases h), if_pos HV.out]
                  dsimp only
                  rw [show Pa.lm (.at_ k0) PG.length 16 = .bad k0 3 from if_pos (by omega)]
                  rw [show Pa.ac ts (.bad k0 3) [118, 97, 114] = .bad k0 3 from rfl, Pa.sProg_dead _ _ _ _ (by rw [sGlobal_dead]; rfl)]
                  exact sGlobal_dead ts k0 3
                clear HRR hlim
                go_wp2_with fail
                refine (rsFail wi4 w1.heap.size ts (.at_ k0) 0 3 3 rfl (by decide) HPi4.out).mono ?_
                rw [show Pa.fl (.at_ k0) 3 = .bad k0 3 from rfl]
                rintro x wi5 ⟨rfl, hP, hG⟩
                have HPi5 := Lib.hid hP
                have HBei5 := Lib.hid (bel_gr HBei4.out hG (Nat.le_refl _) (by omega))
                have hlti5 : w1.heap.size + 1 < wi5.heap.size := Nat.lt_of_lt_of_le hlti4 hG.size
                clear hP hG HPi4 HBei4 hlti4 HTbi4 HPgi4
                clear tl t1 t2 t3
                go_wp2_with fail
                refine (rsTake wi5 w1.heap.size ts HT.out.last HT.out.kinds (.bad k0 3) 0 [118, 97, 114] HPi5.out).mono ?_
                rw [show Pa.ac ts (.bad k0 3) [118, 97, 114] = (.bad k0 3) from rfl, show Pa.isS ts (.bad k0 3) [118, 97, 114] = false from rfl]
                rintro x wi6 ⟨rfl, hP, hG⟩
                have HPi6 := Lib.hid hP
                have HBei6 := Lib.hid (bel_gr HBei5.out hG (Nat.le_refl _) (by omega))
                have hlti6 : w1.heap.size + 1 < wi6.heap.size := Nat.lt_of_lt_of_le hlti5 hG.size
                clear hP hG HPi5 HBei5 hlti5
                go_wp2_with fail
                refine (rsTake wi6 w1.heap.size ts HT.out.last HT.out.kinds (.bad k0 3) 0 [109, 117, 116, 101, 120] HPi6.out).mono ?_
                rw [show Pa.ac ts (.bad k0 3) [109, 117, 116, 101, 120] = (.bad k0 3) from rfl, show Pa.isS ts (.bad k0 3) [109, 117, 116, 101, 120] = false from rfl]
                rintro x wi7 ⟨rfl, hP, hG⟩
                have HPi7 := Lib.hid hP
                have HBei7 := Lib.hid (bel_gr HBei6.out hG (Nat.le_refl _) (by omega))
                have hlti7 : w1.heap.size + 1 < wi7.heap.size := Nat.lt_of_lt_of_le hlti6 hG.size
                clear hP hG HPi6 HBei6 hlti6
                go_wp2_with fail
                refine (rsTake wi7 w1.heap.size ts HT.out.last HT.out.kinds (.bad k0 3) 0 [114, 109, 117, 116, 101, 120] HPi7.out).mono ?_
                rw [show Pa.ac ts (.bad k0 3) [114, 109, 117, 116, 101, 120] = (.bad k0 3) from rfl, show Pa.isS ts (.bad k0 3) [114, 109, 117, 116, 101, 120] = false from rfl]
                rintro x wi8 ⟨rfl, hP, hG⟩
                have HPi8 := Lib.hid hP
                have HBei8 := Lib.hid (bel_gr HBei7.out hG (Nat.le_refl _) (by omega))
                have hlti8 : w1.heap.size + 1 < wi8.heap.size := Nat.lt_of_lt_of_le hlti7 hG.size
                clear hP hG HPi7 HBei7 hlti7
                go_wp2_with fail
                refine (rsTake wi8 w1.heap.size ts HT.out.last HT.out.kinds (.bad k0 3) 0 [102, 117, 110, 99] HPi8.out).mono ?_
                rw [show Pa.ac ts (.bad k0 3) [102, 117, 110, 99] = (.bad k0 3) from rfl, show Pa.isS ts (.bad k0 3) [102, 117, 110, 99] = false from rfl]
                rintro x wi9 ⟨rfl, hP, hG⟩
                have HPi9 := Lib.hid hP
                have HBei9 := Lib.hid (bel_gr HBei8.out hG (Nat.le_refl _) (by omega))
                have hlti9 : w1.heap.size + 1 < wi9.heap.size := Nat.lt_of_lt_of_le hlti8 hG.size
                clear hP hG HPi8 HBei8 hlti8
                go_wp2_with fail
                refine (rsFail wi9 w1.heap.size ts (.bad k0 3) 0 4 4 rfl (by decide) HPi9.out).mono ?_
                rw [show Pa.fl (.bad k0 3) 4 = .bad k0 3 from rfl]
                rintro x wi10 ⟨rfl, hP, hG⟩
                have HPi10 := Lib.hid hP
                have HBei10 := Lib.hid (bel_gr HBei9.out hG (Nat.le_refl _) (by omega))
                have hlti10 : w1.heap.size + 1 < wi10.heap.size := Nat.lt_of_lt_of_le hlti9 hG.size
                clear hP hG HPi9 HBei9 hlti9
                go_wp2_with fail
                go_roundg f1
                case rel => exact ⟨.bad k0 3, HPi10.out, HBei10.out, .inl ⟨rfl, HRe.out⟩⟩
                case measure => omega
              · have tl : ((PG.length : Int) == 16) = false := bF (show (PG.length : Int) ≠ 16 by omega)
                have hll : PG.length < 16 := by omega
                have HR2 : Hid (Pa.sProg ts f1 (Pa.sGlobal ts (.at_ (k0 + 1))).2 ⟨PG ++ [(Pa.sGlobal ts (.at_ (k0 + 1))).1], PM, PF.map (·.1)⟩ = R) := by
                  show _ = _
                  rw [← HRR.out, Pa.sProg, if_neg (fun h => by rcases h with h | h; cases h; rw [HE.out] at h; cases h), if_pos HV.out]
                  dsimp only
                  rw [show Pa.lm (.at_ k0) PG.length 16 = .at_ k0 from if_neg (by omega)]
                  rw [show Pa.ac ts (.at_ k0) [118, 97, 114] = .at_ (k0 + 1) from if_pos HV.out]
                have HFW := Lib.hid (Pa.sGlobal_fws ts (.at_ (k0 + 1)))
                clear HRR hlim
                go_wp2_with fail
                refine (rsTake wi4 w1.heap.size ts HT.out.last HT.out.kinds (.at_ k0) 0 [118, 97, 114] HPi4.out).mono ?_
                rw [show Pa.ac ts (.at_ k0) [118, 97, 114] = .at_ (k0 + 1) from if_pos HV.out, HV.out]
                rintro x wi5 ⟨rfl, hP, hG⟩
                have HPi5 := Lib.hid hP
                have HBei5 := Lib.hid (bel_gr HBei4.out hG (Nat.le_refl _) (by omega))
                have HTbi5 := Lib.hid (kept_own hG HTbi4.out hgT')
                have HPgi5 := Lib.hid (HPgi4.out.grown hG (by omega))
                have hlti5 : w1.heap.size + 1 < wi5.heap.size := Nat.lt_of_lt_of_le hlti4 hG.size
                clear hP hG HPi4 HBei4 hlti4 HTbi4 HPgi4
                clear tl t1 t2 t3
                obtain ⟨t1, t2, t3, -, -⟩ := blk3 HTbi5.out
                go_wp2_with fail
                go_region_law (first
                  | (refine step_append_lies _ (by rfl) _ _ _ (by rfl) (w1.heap.size + 2) 90 iG _ 2 24 Tryd.underlying40 hiG hgG0 hgG1 hgG2 rfl (by omega) (.slice AG PG.length cG) PG.length (glK.cs PG) (by rfl) (HPgb.out.alloc _).rG ⟨wb.heap.size, 0, none⟩ 1 1 (glK.cl (⟨nm, init⟩ : Gl)) (by rfl) (by rfl) (news_any wb _ rfl _ _) (glK.one (⟨nm, init⟩ : Gl)) (by omega) (by unfold maxLen; omega) (by omega) (by simp; omega) (wb.heap.size + 1) (by simp) ?_; intro gb cap wc hown hgrow hlies hgl; have HTc := Lib.hid (blk_app ((Below.heap_alloc wb _ _ hlb).trans HTb.out) (HPgb.out.alloc _).rG (by omega) hgrow); obtain ⟨c1, c2, c3, cf, ccl⟩ := blk3 HTc.out; have cf0 := cf 0; clear cf)
                  | (go_simp; go_at_call 50; refine (rsGlobal wi5.drew w1.heap.size ts HT.out HNU.out (.at_ (k0 + 1)) 0 HPi5.out.drw).mono ?_; rintro x wb ⟨nm, init, rfl, hval, hPb, hGb⟩; have HVAL := Lib.hid hval; clear hval; have HPb := Lib.hid hPb; have HTb := Lib.hid (kept_own hGb HTbi5.out hgT'); have HPgb := Lib.hid ((HPgi5.out.keep (w' := wi5.drew) fun _ _ _ => rfl).grown hGb (by omega)); have HBeb := Lib.hid (bel_gr (HBei5.out.drew) hGb (Nat.le_refl _) (by show _ ≤ wi5.heap.size; omega)); have hlb : w1.heap.size + 1 < wb.heap.size := lt_of_block HTb.out; clear hPb hGb; obtain ⟨b1, b2, b3, -, -⟩ := blk3 HTb.out; skip))
                all_goals
                  have HPgc := Lib.hid ((HPgb.out.alloc _).snocG (⟨nm, init⟩ : Gl) hown hgrow (lies_at hlies (by simp)))
                  have HPc := Lib.hid ((HPb.out.alloc _).app (HPgb.out.alloc _).rG (by omega) hgrow)
                  have HBec := Lib.hid (bel_app (bel_alc HBeb.out (by omega) _) (HPgb.out.alloc _).rG (by omega) (by simp; omega) hgrow)
                  have HQ := Lib.hid (show PutAt (w1.heap.size + 1) wc (wc.setCell ⟨w1.heap.size + 1, 0, none⟩ (.slice (some ⟨gb, 0, none⟩) (PG.length + 1) cap)) from (PutAt.refl _ wc).set 0 _)
                  clear hown hgrow hlies hgl HPgb HPb HTb HBeb c1 c2 c3 cf0
                  go_wp2_with fail
                  go_roundg f1
                  case rel =>
                    refine ⟨(Pa.sGlobal ts (.at_ (k0 + 1))).2, HPc.out.putAt HQ.out (by omega), bel_put HBec.out HQ.out (by omega), ?_⟩
                    cases hst : (Pa.sGlobal ts (.at_ (k0 + 1))).2 with
                    | bad m e => exact .inl ⟨rfl, by rw [← HR2.out, hst, Pa.sProg_dead _ _ _ _ rfl]⟩
                    | at_ k2 =>
                      have hlv : (Pa.sGlobal ts (.at_ (k0 + 1))).2.live = true := by rw [hst]; rfl
                      have h1 := (HFW.out hlv).2
                      have h3 : (Pa.Sg.at_ (k0 + 1)).k = k0 + 1 := rfl
                      have h4 : (Pa.Sg.at_ k2).k = k2 := rfl
                      rw [hst, h3, h4] at h1
                      refine .inr ⟨rfl, _, .slice AM PM.length cM, .slice AF PF.length cF, PG ++ [(⟨nm, init⟩ : Gl)], PM, PF, blk3set0 _ HTc.out, HPgc.out.putAt HQ.out (by omega), (by simp; omega), hm12, hf16, ?_, ?_⟩
                      · show _ ≤ f1 + k2
                        omega
                      · have := HR2.out
                        rw [HVAL.out hlv, hst] at this
                        exact this
                  case measure => omega
            | false =>
              have HV := Lib.hid hI
              clear hI
              cases hI : Pa.isS ts (.at_ k0) [109, 117, 116, 101, 120] with
              | true =>
                have HV : Hid (Pa.isS ts (.at_ k0) [118, 97, 114] = false) := isS_other hI (by decide)
                have HM := Lib.hid hI
                have HR : Hid (Pa.isS ts (.at_ k0) [114, 109, 117, 116, 101, 120] = false) := isS_other hI (by decide)
                have HF : Hid (Pa.isS ts (.at_ k0) [102, 117, 110, 99] = false) := isS_other hI (by decide)
                clear hI
                go_wp2_with fail
                refine (rsIs w2 w1.heap.size ts HT.out.kinds (.at_ k0) 0 [118, 97, 114] HP1.out).mono ?_
                rw [HV.out]
                rintro x wi1 ⟨rfl, hb⟩
                have HPi1 := Lib.hid (HP1.out.later hb)
                have HBei1 := Lib.hid (HBe1.out.trans (hb.mono (by omega)))
                have HTbi1 := Lib.hid ((hb.block _ hlt1).trans HTb1.out)
                have HPgi1 := Lib.hid (HPg1.out.keep fun b _ hl => hb.block b hl)
                have hlti1 : w1.heap.size + 1 < wi1.heap.size := lt_of_block HTbi1.out
                clear hb HP1 HBe1 HTb1 HPg1 hlt1
                go_wp2_with fail
                refine (rsIs wi1 w1.heap.size ts HT.out.kinds (.at_ k0) 0 [109, 117, 116, 101, 120] HPi1.out).mono ?_
                rw [HM.out]
                rintro x wi2 ⟨rfl, hb⟩
                have HPi2 := Lib.hid (HPi1.out.later hb)
                have HBei2 := Lib.hid (HBei1.out.trans (hb.mono (by omega)))
                have HTbi2 := Lib.hid ((hb.block _ hlti1).trans HTbi1.out)
                have HPgi2 := Lib.hid (HPgi1.out.keep fun b _ hl => hb.block b hl)
                have hlti2 : w1.heap.size + 1 < wi2.heap.size := lt_of_block HTbi2.out
                clear hb HPi1 HBei1 HTbi1 HPgi1 hlti1
                go_wp2_with fail
                refine (rsIs wi2 w1.heap.size ts HT.out.kinds (.at_ k0) 0 [102, 117, 110, 99] HPi2.out).mono ?_
                rw [HF.out]
                rintro x wi3 ⟨rfl, hb⟩
                have HPi3 := Lib.hid (HPi2.out.later hb)
                have HBei3 := Lib.hid (HBei2.out.trans (hb.mono (by omega)))
                have HTbi3 := Lib.hid ((hb.block _ hlti2).trans HTbi2.out)
                have HPgi3 := Lib.hid (HPgi2.out.keep fun b _ hl => hb.block b hl)
                have hlti3 : w1.heap.size + 1 < wi3.heap.size := lt_of_block HTbi3.out
                clear hb HPi2 HBei2 HTbi2 HPgi2 hlti2
                obtain ⟨t1, t2, t3, -, -⟩ := blk3 HTbi3.out
                by_cases hlim : PM.length = 12
                · have tl : ((PM.length : Int) == 12) = true := bT (show (PM.length : Int) = 12 by omega)
                  have HRe : Hid (R.2 = .bad k0 3) := by
                    show _ = _
                    rw [← HRR.out, Pa.sProg, if_neg (fun h => by rcases h with h | h; cases h; rw [HE.out] at h; cases h), if_neg (by rw [HV.out]; decide), if_pos HM.out]
                    dsimp only
                    rw [show Pa.lm (.at_ k0) PM.length 12 = .bad k0 3 from if_pos (by omega)]
                    rw [show Pa.ac ts (.bad k0 3) [109, 117, 116, 101, 120] = .bad k0 3 from rfl, Pa.sProg_dead _ _ _ _ (by rw [sMutex_dead]; rfl)]
                    exact sMutex_dead ts false k0 3
                  clear HRR hlim
                  go_wp2_with fail
                  refine (rsFail wi3 w1.heap.size ts (.at_ k0) 0 3 3 rfl (by decide) HPi3.out).mono ?_
                  rw [show Pa.fl (.at_ k0) 3 = .bad k0 3 from rfl]
                  rintro x wi4 ⟨rfl, hP, hG⟩
                  have HPi4 := Lib.hid hP
                  have HBei4 := Lib.hid (bel_gr HBei3.out hG (Nat.le_refl _) (by omega))
                  have hlti4 : w1.heap.size + 1 < wi4.heap.size := Nat.lt_of_lt_of_le hlti3 hG.size
                  clear hP hG HPi3 HBei3 hlti3 HTbi3 HPgi3
                  clear tl t1 t2 t3
                  go_wp2_with fail
                  refine (rsTake wi4 w1.heap.size ts HT.out.last HT.out.kinds (.bad k0 3) 0 [118, 97, 114] HPi4.out).mono ?_
                  rw [show Pa.ac ts (.bad k0 3) [118, 97, 114] = (.bad k0 3) from rfl, show Pa.isS ts (.bad k0 3) [118, 97, 114] = false from rfl]
                  rintro x wi5 ⟨rfl, hP, hG⟩
                  have HPi5 := Lib.hid hP
                  have HBei5 := Lib.hid (bel_gr HBei4.out hG (Nat.le_refl _) (by omega))
                  have hlti5 : w1.heap.size + 1 < wi5.heap.size := Nat.lt_of_lt_of_le hlti4 hG.size
                  clear hP hG HPi4 HBei4 hlti4
                  go_wp2_with fail
                  refine (rsTake wi5 w1.heap.size ts HT.out.last HT.out.kinds (.bad k0 3) 0 [109, 117, 116, 101, 120] HPi5.out).mono ?_
                  rw [show Pa.ac ts (.bad k0 3) [109, 117, 116, 101, 120] = (.bad k0 3) from rfl, show Pa.isS ts (.bad k0 3) [109, 117, 116, 101, 120] = false from rfl]
                  rintro x wi6 ⟨rfl, hP, hG⟩
                  have HPi6 := Lib.hid hP
                  have HBei6 := Lib.hid (bel_gr HBei5.out hG (Nat.le_refl _) (by omega))
                  have hlti6 : w1.heap.size + 1 < wi6.heap.size := Nat.lt_of_lt_of_le hlti5 hG.size
                  clear hP hG HPi5 HBei5 hlti5
                  go_wp2_with fail
                  refine (rsTake wi6 w1.heap.size ts HT.out.last HT.out.kinds (.bad k0 3) 0 [114, 109, 117, 116, 101, 120] HPi6.out).mono ?_
                  rw [show Pa.ac ts (.bad k0 3) [114, 109, 117, 116, 101, 120] = (.bad k0 3) from rfl, show Pa.isS ts (.bad k0 3) [114, 109, 117, 116, 101, 120] = false from rfl]
                  rintro x wi7 ⟨rfl, hP, hG⟩
                  have HPi7 := Lib.hid hP
                  have HBei7 := Lib.hid (bel_gr HBei6.out hG (Nat.le_refl _) (by omega))
                  have hlti7 : w1.heap.size + 1 < wi7.heap.size := Nat.lt_of_lt_of_le hlti6 hG.size
                  clear hP hG HPi6 HBei6 hlti6
                  go_wp2_with fail
                  refine (rsTake wi7 w1.heap.size ts HT.out.last HT.out.kinds (.bad k0 3) 0 [102, 117, 110, 99] HPi7.out).mono ?_
                  rw [show Pa.ac ts (.bad k0 3) [102, 117, 110, 99] = (.bad k0 3) from rfl, show Pa.isS ts (.bad k0 3) [102, 117, 110, 99] = false from rfl]
                  rintro x wi8 ⟨rfl, hP, hG⟩
                  have HPi8 := Lib.hid hP
                  have HBei8 := Lib.hid (bel_gr HBei7.out hG (Nat.le_refl _) (by omega))
                  have hlti8 : w1.heap.size + 1 < wi8.heap.size := Nat.lt_of_lt_of_le hlti7 hG.size
                  clear hP hG HPi7 HBei7 hlti7
                  go_wp2_with fail
                  refine (rsFail wi8 w1.heap.size ts (.bad k0 3) 0 4 4 rfl (by decide) HPi8.out).mono ?_
                  rw [show Pa.fl (.bad k0 3) 4 = .bad k0 3 from rfl]
                  rintro x wi9 ⟨rfl, hP, hG⟩
                  have HPi9 := Lib.hid hP
                  have HBei9 := Lib.hid (bel_gr HBei8.out hG (Nat.le_refl _) (by omega))
                  have hlti9 : w1.heap.size + 1 < wi9.heap.size := Nat.lt_of_lt_of_le hlti8 hG.size
                  clear hP hG HPi8 HBei8 hlti8
                  go_wp2_with fail
                  go_roundg f1
                  case rel => exact ⟨.bad k0 3, HPi9.out, HBei9.out, .inl ⟨rfl, HRe.out⟩⟩
                  case measure => omega
                · have tl : ((PM.length : Int) == 12) = false := bF (show (PM.length : Int) ≠ 12 by omega)
                  have hll : PM.length < 12 := by omega
                  have HR2 : Hid (Pa.sProg ts f1 (Pa.sMutex ts false (.at_ (k0 + 1))).2 ⟨PG, PM ++ [(Pa.sMutex ts false (.at_ (k0 + 1))).1], PF.map (·.1)⟩ = R) := by
                    show _ = _
                    rw [← HRR.out, Pa.sProg, if_neg (fun h => by rcases h with h | h; cases h; rw [HE.out] at h; cases h), if_neg (by rw [HV.out]; decide), if_pos HM.out]
                    dsimp only
                    rw [show Pa.lm (.at_ k0) PM.length 12 = .at_ k0 from if_neg (by omega)]
                    rw [show Pa.ac ts (.at_ k0) [109, 117, 116, 101, 120] = .at_ (k0 + 1) from if_pos HM.out]
                  have HFW := Lib.hid (Pa.sMutex_fws ts false (.at_ (k0 + 1)))
                  clear HRR hlim
                  go_wp2_with fail
                  refine (rsTake wi3 w1.heap.size ts HT.out.last HT.out.kinds (.at_ k0) 0 [118, 97, 114] HPi3.out).mono ?_
                  rw [show Pa.ac ts (.at_ k0) [118, 97, 114] = .at_ k0 from if_neg (by rw [HV.out]; decide), HV.out]
                  rintro x wi4 ⟨rfl, hP, hG⟩
                  have HPi4 := Lib.hid hP
                  have HBei4 := Lib.hid (bel_gr HBei3.out hG (Nat.le_refl _) (by omega))
                  have HTbi4 := Lib.hid (kept_own hG HTbi3.out hgT')
                  have HPgi4 := Lib.hid (HPgi3.out.grown hG (by omega))
                  have hlti4 : w1.heap.size + 1 < wi4.heap.size := Nat.lt_of_lt_of_le hlti3 hG.size
                  clear hP hG HPi3 HBei3 hlti3 HTbi3 HPgi3
                  clear tl t1 t2 t3
                  go_wp2_with fail
                  refine (rsTake wi4 w1.heap.size ts HT.out.last HT.out.kinds (.at_ k0) 0 [109, 117, 116, 101, 120] HPi4.out).mono ?_
                  rw [show Pa.ac ts (.at_ k0) [109, 117, 116, 101, 120] = .at_ (k0 + 1) from if_pos HM.out, HM.out]
                  rintro x wi5 ⟨rfl, hP, hG⟩
                  have HPi5 := Lib.hid hP
                  have HBei5 := Lib.hid (bel_gr HBei4.out hG (Nat.le_refl _) (by omega))
                  have HTbi5 := Lib.hid (kept_own hG HTbi4.out hgT')
                  have HPgi5 := Lib.hid (HPgi4.out.grown hG (by omega))
                  have hlti5 : w1.heap.size + 1 < wi5.heap.size := Nat.lt_of_lt_of_le hlti4 hG.size
                  clear hP hG HPi4 HBei4 hlti4 HTbi4 HPgi4
                  obtain ⟨t1, t2, t3, -, -⟩ := blk3 HTbi5.out
                  go_wp2_with fail
                  go_region_law (first
                    | (refine step_append_lies _ (by rfl) _ _ _ (by rfl) (w1.heap.size + 2) 93 iM _ 3 32 Tryd.underlying41 hiM hgM0 hgM1 hgM2 rfl (by omega) (.slice AM PM.length cM) PM.length (mxK.cs PM) (by rfl) (HPgb.out.alloc _).rM ⟨wb.heap.size, 0, none⟩ 1 1 (mxK.cl (⟨nm, re, sz⟩ : Mx)) (by rfl) (by rfl) (news_any wb _ rfl _ _) (mxK.one (⟨nm, re, sz⟩ : Mx)) (by omega) (by unfold maxLen; omega) (by omega) (by simp; omega) (wb.heap.size + 1) (by simp) ?_; intro gb cap wc hown hgrow hlies hgl; have HTc := Lib.hid (blk_app ((Below.heap_alloc wb _ _ hlb).trans HTb.out) (HPgb.out.alloc _).rM (by omega) hgrow); obtain ⟨c1, c2, c3, cf, ccl⟩ := blk3 HTc.out; have cf0 := cf 1; clear cf)
                    | (go_simp; go_at_call 51; refine (rsMutex wi5.drew w1.heap.size ts HT.out false HNU.out (.at_ (k0 + 1)) 0 HPi5.out.drw).mono ?_; rintro x wb ⟨nm, re, sz, rfl, hval, hPb, hGb⟩; have HVAL := Lib.hid hval; clear hval; have HPb := Lib.hid hPb; have HTb := Lib.hid (kept_own hGb HTbi5.out hgT'); have HPgb := Lib.hid ((HPgi5.out.keep (w' := wi5.drew) fun _ _ _ => rfl).grown hGb (by omega)); have HBeb := Lib.hid (bel_gr (HBei5.out.drew) hGb (Nat.le_refl _) (by show _ ≤ wi5.heap.size; omega)); have hlb : w1.heap.size + 1 < wb.heap.size := lt_of_block HTb.out; clear hPb hGb; obtain ⟨b1, b2, b3, -, -⟩ := blk3 HTb.out; skip))
                  all_goals
                    have HPgc := Lib.hid ((HPgb.out.alloc _).snocM (⟨nm, re, sz⟩ : Mx) hown hgrow (lies_at hlies (by simp)))
                    have HPc := Lib.hid ((HPb.out.alloc _).app (HPgb.out.alloc _).rM (by omega) hgrow)
                    have HBec := Lib.hid (bel_app (bel_alc HBeb.out (by omega) _) (HPgb.out.alloc _).rM (by omega) (by simp; omega) hgrow)
                    have HQ := Lib.hid (show PutAt (w1.heap.size + 1) wc (wc.setCell ⟨w1.heap.size + 1, 1, none⟩ (.slice (some ⟨gb, 0, none⟩) (PM.length + 1) cap)) from (PutAt.refl _ wc).set 1 _)
                    clear hown hgrow hlies hgl HPgb HPb HTb HBeb c1 c2 c3 cf0
                    go_wp2_with fail
                    go_roundg f1
                    case rel =>
                      refine ⟨(Pa.sMutex ts false (.at_ (k0 + 1))).2, HPc.out.putAt HQ.out (by omega), bel_put HBec.out HQ.out (by omega), ?_⟩
                      cases hst : (Pa.sMutex ts false (.at_ (k0 + 1))).2 with
                      | bad m e => exact .inl ⟨rfl, by rw [← HR2.out, hst, Pa.sProg_dead _ _ _ _ rfl]⟩
                      | at_ k2 =>
                        have hlv : (Pa.sMutex ts false (.at_ (k0 + 1))).2.live = true := by rw [hst]; rfl
                        have h1 := (HFW.out hlv).2
                        have h3 : (Pa.Sg.at_ (k0 + 1)).k = k0 + 1 := rfl
                        have h4 : (Pa.Sg.at_ k2).k = k2 := rfl
                        rw [hst, h3, h4] at h1
                        refine .inr ⟨rfl, .slice AG PG.length cG, _, .slice AF PF.length cF, PG, PM ++ [(⟨nm, re, sz⟩ : Mx)], PF, blk3set1 _ HTc.out, HPgc.out.putAt HQ.out (by omega), hg16, (by simp; omega), hf16, ?_, ?_⟩
                        · show _ ≤ f1 + k2
                          omega
                        · have := HR2.out
                          rw [HVAL.out hlv, hst] at this
                          exact this
                    case measure => omega
              | false =>
                have HM := Lib.hid hI
                clear hI
                cases hI : Pa.isS ts (.at_ k0) [114, 109, 117, 116, 101, 120] with
                | true =>
                  have HV : Hid (Pa.isS ts (.at_ k0) [118, 97, 114] = false) := isS_other hI (by decide)
                  have HM : Hid (Pa.isS ts (.at_ k0) [109, 117, 116, 101, 120] = false) := isS_other hI (by decide)
                  have HR := Lib.hid hI
                  have HF : Hid (Pa.isS ts (.at_ k0) [102, 117, 110, 99] = false) := isS_other hI (by decide)
                  clear hI
                  go_wp2_with fail
                  refine (rsIs w2 w1.heap.size ts HT.out.kinds (.at_ k0) 0 [118, 97, 114] HP1.out).mono ?_
                  rw [HV.out]
                  rintro x wi1 ⟨rfl, hb⟩
                  have HPi1 := Lib.hid (HP1.out.later hb)
                  have HBei1 := Lib.hid (HBe1.out.trans (hb.mono (by omega)))
                  have HTbi1 := Lib.hid ((hb.block _ hlt1).trans HTb1.out)
                  have HPgi1 := Lib.hid (HPg1.out.keep fun b _ hl => hb.block b hl)
                  have hlti1 : w1.heap.size + 1 < wi1.heap.size := lt_of_block HTbi1.out
                  clear hb HP1 HBe1 HTb1 HPg1 hlt1
                  go_wp2_with fail
                  refine (rsIs wi1 w1.heap.size ts HT.out.kinds (.at_ k0) 0 [109, 117, 116, 101, 120] HPi1.out).mono ?_
                  rw [HM.out]
                  rintro x wi2 ⟨rfl, hb⟩
                  have HPi2 := Lib.hid (HPi1.out.later hb)
                  have HBei2 := Lib.hid (HBei1.out.trans (hb.mono (by omega)))
                  have HTbi2 := Lib.hid ((hb.block _ hlti1).trans HTbi1.out)
                  have HPgi2 := Lib.hid (HPgi1.out.keep fun b _ hl => hb.block b hl)
                  have hlti2 : w1.heap.size + 1 < wi2.heap.size := lt_of_block HTbi2.out
                  clear hb HPi1 HBei1 HTbi1 HPgi1 hlti1
                  go_wp2_with fail
                  refine (rsIs wi2 w1.heap.size ts HT.out.kinds (.at_ k0) 0 [114, 109, 117, 116, 101, 120] HPi2.out).mono ?_
                  rw [HR.out]
                  rintro x wi3 ⟨rfl, hb⟩
                  have HPi3 := Lib.hid (HPi2.out.later hb)
                  have HBei3 := Lib.hid (HBei2.out.trans (hb.mono (by omega)))
                  have HTbi3 := Lib.hid ((hb.block _ hlti2).trans HTbi2.out)
                  have HPgi3 := Lib.hid (HPgi2.out.keep fun b _ hl => hb.block b hl)
                  have hlti3 : w1.heap.size + 1 < wi3.heap.size := lt_of_block HTbi3.out
                  clear hb HPi2 HBei2 HTbi2 HPgi2 hlti2
                  go_wp2_with fail
                  refine (rsIs wi3 w1.heap.size ts HT.out.kinds (.at_ k0) 0 [102, 117, 110, 99] HPi3.out).mono ?_
                  rw [HF.out]
                  rintro x wi4 ⟨rfl, hb⟩
                  have HPi4 := Lib.hid (HPi3.out.later hb)
                  have HBei4 := Lib.hid (HBei3.out.trans (hb.mono (by omega)))
                  have HTbi4 := Lib.hid ((hb.block _ hlti3).trans HTbi3.out)
                  have HPgi4 := Lib.hid (HPgi3.out.keep fun b _ hl => hb.block b hl)
                  have hlti4 : w1.heap.size + 1 < wi4.heap.size := lt_of_block HTbi4.out
                  clear hb HPi3 HBei3 HTbi3 HPgi3 hlti3
                  obtain ⟨t1, t2, t3, -, -⟩ := blk3 HTbi4.out
                  by_cases hlim : PM.length = 12
                  · have tl : ((PM.length : Int) == 12) = true := bT (show (PM.length : Int) = 12 by omega)
                    have HRe : Hid (R.2 = .bad k0 3) := by
                      show _ = _
                      rw [← HRR.out, Pa.sProg, if_neg (fun h => by rcases h with h | h; cases h; rw [HE.out] at h; cases h), if_neg (by rw [HV.out]; decide), if_neg (by rw [HM.out]; decide), if_pos HR.out]
                      dsimp only
                      rw [show Pa.lm (.at_ k0) PM.length 12 = .bad k0 3 from if_pos (by omega)]
                      rw [show Pa.ac ts (.bad k0 3) [114, 109, 117, 116, 101, 120] = .bad k0 3 from rfl, Pa.sProg_dead _ _ _ _ (by rw [sMutex_dead]; rfl)]
                      exact sMutex_dead ts true k0 3
                    clear HRR hlim
                    go_wp2_with fail
                    refine (rsFail wi4 w1.heap.size ts (.at_ k0) 0 3 3 rfl (by decide) HPi4.out).mono ?_
                    rw [show Pa.fl (.at_ k0) 3 = .bad k0 3 from rfl]
                    rintro x wi5 ⟨rfl, hP, hG⟩
                    have HPi5 := Lib.hid hP
                    have HBei5 := Lib.hid (bel_gr HBei4.out hG (Nat.le_refl _) (by omega))
                    have hlti5 : w1.heap.size + 1 < wi5.heap.size := Nat.lt_of_lt_of_le hlti4 hG.size
                    clear hP hG HPi4 HBei4 hlti4 HTbi4 HPgi4
                    clear tl t1 t2 t3
                    go_wp2_with fail
                    refine (rsTake wi5 w1.heap.size ts HT.out.last HT.out.kinds (.bad k0 3) 0 [118, 97, 114] HPi5.out).mono ?_
                    rw [show Pa.ac ts (.bad k0 3) [118, 97, 114] = (.bad k0 3) from rfl, show Pa.isS ts (.bad k0 3) [118, 97, 114] = false from rfl]
                    rintro x wi6 ⟨rfl, hP, hG⟩
                    have HPi6 := Lib.hid hP
                    have HBei6 := Lib.hid (bel_gr HBei5.out hG (Nat.le_refl _) (by omega))
                    have hlti6 : w1.heap.size + 1 < wi6.heap.size := Nat.lt_of_lt_of_le hlti5 hG.size
                    clear hP hG HPi5 HBei5 hlti5
                    go_wp2_with fail
                    refine (rsTake wi6 w1.heap.size ts HT.out.last HT.out.kinds (.bad k0 3) 0 [109, 117, 116, 101, 120] HPi6.out).mono ?_
                    rw [show Pa.ac ts (.bad k0 3) [109, 117, 116, 101, 120] = (.bad k0 3) from rfl, show Pa.isS ts (.bad k0 3) [109, 117, 116, 101, 120] = false from rfl]
                    rintro x wi7 ⟨rfl, hP, hG⟩
                    have HPi7 := Lib.hid hP
                    have HBei7 := Lib.hid (bel_gr HBei6.out hG (Nat.le_refl _) (by omega))
                    have hlti7 : w1.heap.size + 1 < wi7.heap.size := Nat.lt_of_lt_of_le hlti6 hG.size
                    clear hP hG HPi6 HBei6 hlti6
                    go_wp2_with fail
                    refine (rsTake wi7 w1.heap.size ts HT.out.last HT.out.kinds (.bad k0 3) 0 [114, 109, 117, 116, 101, 120] HPi7.out).mono ?_
                    rw [show Pa.ac ts (.bad k0 3) [114, 109, 117, 116, 101, 120] = (.bad k0 3) from rfl, show Pa.isS ts (.bad k0 3) [114, 109, 117, 116, 101, 120] = false from rfl]
                    rintro x wi8 ⟨rfl, hP, hG⟩
                    have HPi8 := Lib.hid hP
                    have HBei8 := Lib.hid (bel_gr HBei7.out hG (Nat.le_refl _) (by omega))
                    have hlti8 : w1.heap.size + 1 < wi8.heap.size := Nat.lt_of_lt_of_le hlti7 hG.size
                    clear hP hG HPi7 HBei7 hlti7
                    go_wp2_with fail
                    refine (rsTake wi8 w1.heap.size ts HT.out.last HT.out.kinds (.bad k0 3) 0 [102, 117, 110, 99] HPi8.out).mono ?_
                    rw [show Pa.ac ts (.bad k0 3) [102, 117, 110, 99] = (.bad k0 3) from rfl, show Pa.isS ts (.bad k0 3) [102, 117, 110, 99] = false from rfl]
                    rintro x wi9 ⟨rfl, hP, hG⟩
                    have HPi9 := Lib.hid hP
                    have HBei9 := Lib.hid (bel_gr HBei8.out hG (Nat.le_refl _) (by omega))
                    have hlti9 : w1.heap.size + 1 < wi9.heap.size := Nat.lt_of_lt_of_le hlti8 hG.size
                    clear hP hG HPi8 HBei8 hlti8
                    go_wp2_with fail
                    refine (rsFail wi9 w1.heap.size ts (.bad k0 3) 0 4 4 rfl (by decide) HPi9.out).mono ?_
                    rw [show Pa.fl (.bad k0 3) 4 = .bad k0 3 from rfl]
                    rintro x wi10 ⟨rfl, hP, hG⟩
                    have HPi10 := Lib.hid hP
                    have HBei10 := Lib.hid (bel_gr HBei9.out hG (Nat.le_refl _) (by omega))
                    have hlti10 : w1.heap.size + 1 < wi10.heap.size := Nat.lt_of_lt_of_le hlti9 hG.size
                    clear hP hG HPi9 HBei9 hlti9
                    go_wp2_with fail
                    go_roundg f1
                    case rel => exact ⟨.bad k0 3, HPi10.out, HBei10.out, .inl ⟨rfl, HRe.out⟩⟩
                    case measure => omega
                  · have tl : ((PM.length : Int) == 12) = false := bF (show (PM.length : Int) ≠ 12 by omega)
                    have hll : PM.length < 12 := by omega
                    have HR2 : Hid (Pa.sProg ts f1 (Pa.sMutex ts true (.at_ (k0 + 1))).2 ⟨PG, PM ++ [(Pa.sMutex ts true (.at_ (k0 + 1))).1], PF.map (·.1)⟩ = R) := by
                      show _ = _
                      rw [← HRR.out, Pa.sProg, if_neg (fun h => by rcases h with h | h; cases h; rw [HE.out] at h; cases h), if_neg (by rw [HV.out]; decide), if_neg (by rw [HM.out]; decide), if_pos HR.out]
                      dsimp only
                      rw [show Pa.lm (.at_ k0) PM.length 12 = .at_ k0 from if_neg (by omega)]
                      rw [show Pa.ac ts (.at_ k0) [114, 109, 117, 116, 101, 120] = .at_ (k0 + 1) from if_pos HR.out]
                    have HFW := Lib.hid (Pa.sMutex_fws ts true (.at_ (k0 + 1)))
                    clear HRR hlim
                    go_wp2_with fail
                    refine (rsTake wi4 w1.heap.size ts HT.out.last HT.out.kinds (.at_ k0) 0 [118, 97, 114] HPi4.out).mono ?_
                    rw [show Pa.ac ts (.at_ k0) [118, 97, 114] = .at_ k0 from if_neg (by rw [HV.out]; decide), HV.out]
                    rintro x wi5 ⟨rfl, hP, hG⟩
                    have HPi5 := Lib.hid hP
                    have HBei5 := Lib.hid (bel_gr HBei4.out hG (Nat.le_refl _) (by omega))
                    have HTbi5 := Lib.hid (kept_own hG HTbi4.out hgT')
                    have HPgi5 := Lib.hid (HPgi4.out.grown hG (by omega))
                    have hlti5 : w1.heap.size + 1 < wi5.heap.size := Nat.lt_of_lt_of_le hlti4 hG.size
                    clear hP hG HPi4 HBei4 hlti4 HTbi4 HPgi4
                    clear tl t1 t2 t3
                    go_wp2_with fail
                    refine (rsTake wi5 w1.heap.size ts HT.out.last HT.out.kinds (.at_ k0) 0 [109, 117, 116, 101, 120] HPi5.out).mono ?_
                    rw [show Pa.ac ts (.at_ k0) [109, 117, 116, 101, 120] = .at_ k0 from if_neg (by rw [HM.out]; decide), HM.out]
                    rintro x wi6 ⟨rfl, hP, hG⟩
                    have HPi6 := Lib.hid hP
                    have HBei6 := Lib.hid (bel_gr HBei5.out hG (Nat.le_refl _) (by omega))
                    have HTbi6 := Lib.hid (kept_own hG HTbi5.out hgT')
                    have HPgi6 := Lib.hid (HPgi5.out.grown hG (by omega))
                    have hlti6 : w1.heap.size + 1 < wi6.heap.size := Nat.lt_of_lt_of_le hlti5 hG.size
                    clear hP hG HPi5 HBei5 hlti5 HTbi5 HPgi5
                    go_wp2_with fail
                    refine (rsTake wi6 w1.heap.size ts HT.out.last HT.out.kinds (.at_ k0) 0 [114, 109, 117, 116, 101, 120] HPi6.out).mono ?_
                    rw [show Pa.ac ts (.at_ k0) [114, 109, 117, 116, 101, 120] = .at_ (k0 + 1) from if_pos HR.out, HR.out]
                    rintro x wi7 ⟨rfl, hP, hG⟩
                    have HPi7 := Lib.hid hP
                    have HBei7 := Lib.hid (bel_gr HBei6.out hG (Nat.le_refl _) (by omega))
                    have HTbi7 := Lib.hid (kept_own hG HTbi6.out hgT')
                    have HPgi7 := Lib.hid (HPgi6.out.grown hG (by omega))
                    have hlti7 : w1.heap.size + 1 < wi7.heap.size := Nat.lt_of_lt_of_le hlti6 hG.size
                    clear hP hG HPi6 HBei6 hlti6 HTbi6 HPgi6
                    obtain ⟨t1, t2, t3, -, -⟩ := blk3 HTbi7.out
                    go_wp2_with fail
                    go_region_law (first
                      | (refine step_append_lies _ (by rfl) _ _ _ (by rfl) (w1.heap.size + 2) 93 iM _ 3 32 Tryd.underlying41 hiM hgM0 hgM1 hgM2 rfl (by omega) (.slice AM PM.length cM) PM.length (mxK.cs PM) (by rfl) (HPgb.out.alloc _).rM ⟨wb.heap.size, 0, none⟩ 1 1 (mxK.cl (⟨nm, re, sz⟩ : Mx)) (by rfl) (by rfl) (news_any wb _ rfl _ _) (mxK.one (⟨nm, re, sz⟩ : Mx)) (by omega) (by unfold maxLen; omega) (by omega) (by simp; omega) (wb.heap.size + 1) (by simp) ?_; intro gb cap wc hown hgrow hlies hgl; have HTc := Lib.hid (blk_app ((Below.heap_alloc wb _ _ hlb).trans HTb.out) (HPgb.out.alloc _).rM (by omega) hgrow); obtain ⟨c1, c2, c3, cf, ccl⟩ := blk3 HTc.out; have cf0 := cf 1; clear cf)
                      | (go_simp; go_at_call 51; refine (rsMutex wi7.drew w1.heap.size ts HT.out true HNU.out (.at_ (k0 + 1)) 0 HPi7.out.drw).mono ?_; rintro x wb ⟨nm, re, sz, rfl, hval, hPb, hGb⟩; have HVAL := Lib.hid hval; clear hval; have HPb := Lib.hid hPb; have HTb := Lib.hid (kept_own hGb HTbi7.out hgT'); have HPgb := Lib.hid ((HPgi7.out.keep (w' := wi7.drew) fun _ _ _ => rfl).grown hGb (by omega)); have HBeb := Lib.hid (bel_gr (HBei7.out.drew) hGb (Nat.le_refl _) (by show _ ≤ wi7.heap.size; omega)); have hlb : w1.heap.size + 1 < wb.heap.size := lt_of_block HTb.out; clear hPb hGb; obtain ⟨b1, b2, b3, -, -⟩ := blk3 HTb.out; skip))
                    all_goals
                      have HPgc := Lib.hid ((HPgb.out.alloc _).snocM (⟨nm, re, sz⟩ : Mx) hown hgrow (lies_at hlies (by simp)))
                      have HPc := Lib.hid ((HPb.out.alloc _).app (HPgb.out.alloc _).rM (by omega) hgrow)
                      have HBec := Lib.hid (bel_app (bel_alc HBeb.out (by omega) _) (HPgb.out.alloc _).rM (by omega) (by simp; omega) hgrow)
                      have HQ := Lib.hid (show PutAt (w1.heap.size + 1) wc (wc.setCell ⟨w1.heap.size + 1, 1, none⟩ (.slice (some ⟨gb, 0, none⟩) (PM.length + 1) cap)) from (PutAt.refl _ wc).set 1 _)
                      clear hown hgrow hlies hgl HPgb HPb HTb HBeb c1 c2 c3 cf0
                      go_wp2_with fail
                      go_roundg f1
                      case rel =>
                        refine ⟨(Pa.sMutex ts true (.at_ (k0 + 1))).2, HPc.out.putAt HQ.out (by omega), bel_put HBec.out HQ.out (by omega), ?_⟩
                        cases hst : (Pa.sMutex ts true (.at_ (k0 + 1))).2 with
                        | bad m e => exact .inl ⟨rfl, by rw [← HR2.out, hst, Pa.sProg_dead _ _ _ _ rfl]⟩
                        | at_ k2 =>
                          have hlv : (Pa.sMutex ts true (.at_ (k0 + 1))).2.live = true := by rw [hst]; rfl
                          have h1 := (HFW.out hlv).2
                          have h3 : (Pa.Sg.at_ (k0 + 1)).k = k0 + 1 := rfl
                          have h4 : (Pa.Sg.at_ k2).k = k2 := rfl
                          rw [hst, h3, h4] at h1
                          refine .inr ⟨rfl, .slice AG PG.length cG, _, .slice AF PF.length cF, PG, PM ++ [(⟨nm, re, sz⟩ : Mx)], PF, blk3set1 _ HTc.out, HPgc.out.putAt HQ.out (by omega), hg16, (by simp; omega), hf16, ?_, ?_⟩
                          · show _ ≤ f1 + k2
                            omega
                          · have := HR2.out
                            rw [HVAL.out hlv, hst] at this
                            exact this
                      case measure => omega
                | false =>
                  have HR := Lib.hid hI
                  clear hI
                  cases hI : Pa.isS ts (.at_ k0) [102, 117, 110, 99] with
                  | true =>
                    have HV : Hid (Pa.isS ts (.at_ k0) [118, 97, 114] = false) := isS_other hI (by decide)
                    have HM : Hid (Pa.isS ts (.at_ k0) [109, 117, 116, 101, 120] = false) := isS_other hI (by decide)
                    have HR : Hid (Pa.isS ts (.at_ k0) [114, 109, 117, 116, 101, 120] = false) := isS_other hI (by decide)
                    have HF := Lib.hid hI
                    clear hI
                    go_wp2_with fail
                    refine (rsIs w2 w1.heap.size ts HT.out.kinds (.at_ k0) 0 [118, 97, 114] HP1.out).mono ?_
                    rw [HV.out]
                    rintro x wi1 ⟨rfl, hb⟩
                    have HPi1 := Lib.hid (HP1.out.later hb)
                    have HBei1 := Lib.hid (HBe1.out.trans (hb.mono (by omega)))
                    have HTbi1 := Lib.hid ((hb.block _ hlt1).trans HTb1.out)
                    have HPgi1 := Lib.hid (HPg1.out.keep fun b _ hl => hb.block b hl)
                    have hlti1 : w1.heap.size + 1 < wi1.heap.size := lt_of_block HTbi1.out
                    clear hb HP1 HBe1 HTb1 HPg1 hlt1
                    go_wp2_with fail
                    refine (rsIs wi1 w1.heap.size ts HT.out.kinds (.at_ k0) 0 [109, 117, 116, 101, 120] HPi1.out).mono ?_
                    rw [HM.out]
                    rintro x wi2 ⟨rfl, hb⟩
                    have HPi2 := Lib.hid (HPi1.out.later hb)
                    have HBei2 := Lib.hid (HBei1.out.trans (hb.mono (by omega)))
                    have HTbi2 := Lib.hid ((hb.block _ hlti1).trans HTbi1.out)
                    have HPgi2 := Lib.hid (HPgi1.out.keep fun b _ hl => hb.block b hl)
                    have hlti2 : w1.heap.size + 1 < wi2.heap.size := lt_of_block HTbi2.out
                    clear hb HPi1 HBei1 HTbi1 HPgi1 hlti1
                    go_wp2_with fail
                    refine (rsIs wi2 w1.heap.size ts HT.out.kinds (.at_ k0) 0 [114, 109, 117, 116, 101, 120] HPi2.out).mono ?_
                    rw [HR.out]
                    rintro x wi3 ⟨rfl, hb⟩
                    have HPi3 := Lib.hid (HPi2.out.later hb)
                    have HBei3 := Lib.hid (HBei2.out.trans (hb.mono (by omega)))
                    have HTbi3 := Lib.hid ((hb.block _ hlti2).trans HTbi2.out)
                    have HPgi3 := Lib.hid (HPgi2.out.keep fun b _ hl => hb.block b hl)
                    have hlti3 : w1.heap.size + 1 < wi3.heap.size := lt_of_block HTbi3.out
                    clear hb HPi2 HBei2 HTbi2 HPgi2 hlti2
                    go_wp2_with fail
                    refine (rsIs wi3 w1.heap.size ts HT.out.kinds (.at_ k0) 0 [102, 117, 110, 99] HPi3.out).mono ?_
                    rw [HF.out]
                    rintro x wi4 ⟨rfl, hb⟩
                    have HPi4 := Lib.hid (HPi3.out.later hb)
                    have HBei4 := Lib.hid (HBei3.out.trans (hb.mono (by omega)))
                    have HTbi4 := Lib.hid ((hb.block _ hlti3).trans HTbi3.out)
                    have HPgi4 := Lib.hid (HPgi3.out.keep fun b _ hl => hb.block b hl)
                    have hlti4 : w1.heap.size + 1 < wi4.heap.size := lt_of_block HTbi4.out
                    clear hb HPi3 HBei3 HTbi3 HPgi3 hlti3
                    obtain ⟨t1, t2, t3, -, -⟩ := blk3 HTbi4.out
                    by_cases hlim : PF.length = 16
                    · have tl : ((PF.length : Int) == 16) = true := bT (show (PF.length : Int) = 16 by omega)
                      have HRe : Hid (R.2 = .bad k0 3) := by
                        show _ = _
                        rw [← HRR.out, Pa.sProg, if_neg (fun h => by rcases h with h | h; cases h; rw [HE.out] at h; cases h), if_neg (by rw [HV.out]; decide), if_neg (by rw [HM.out]; decide), if_neg (by rw [HR.out]; decide), if_pos HF.out]
                        dsimp only
                        rw [show Pa.lm (.at_ k0) (PF.map (·.1)).length 16 = .bad k0 3 from if_pos (by rw [List.length_map]; omega)]
                        rw [show Pa.ac ts (.bad k0 3) [102, 117, 110, 99] = .bad k0 3 from rfl, Pa.sProg_dead _ _ _ _ (by rw [sFunc_dead]; rfl)]
                        exact sFunc_dead ts k0 3
                      clear HRR hlim
                      go_wp2_with fail
                      refine (rsFail wi4 w1.heap.size ts (.at_ k0) 0 3 3 rfl (by decide) HPi4.out).mono ?_
                      rw [show Pa.fl (.at_ k0) 3 = .bad k0 3 from rfl]
                      rintro x wi5 ⟨rfl, hP, hG⟩
                      have HPi5 := Lib.hid hP
                      have HBei5 := Lib.hid (bel_gr HBei4.out hG (Nat.le_refl _) (by omega))
                      have hlti5 : w1.heap.size + 1 < wi5.heap.size := Nat.lt_of_lt_of_le hlti4 hG.size
                      clear hP hG HPi4 HBei4 hlti4 HTbi4 HPgi4
                      clear tl t1 t2 t3
                      go_wp2_with fail
                      refine (rsTake wi5 w1.heap.size ts HT.out.last HT.out.kinds (.bad k0 3) 0 [118, 97, 114] HPi5.out).mono ?_
                      rw [show Pa.ac ts (.bad k0 3) [118, 97, 114] = (.bad k0 3) from rfl, show Pa.isS ts (.bad k0 3) [118, 97, 114] = false from rfl]
                      rintro x wi6 ⟨rfl, hP, hG⟩
                      have HPi6 := Lib.hid hP
                      have HBei6 := Lib.hid (bel_gr HBei5.out hG (Nat.le_refl _) (by omega))
                      have hlti6 : w1.heap.size + 1 < wi6.heap.size := Nat.lt_of_lt_of_le hlti5 hG.size
                      clear hP hG HPi5 HBei5 hlti5
                      go_wp2_with fail
                      refine (rsTake wi6 w1.heap.size ts HT.out.last HT.out.kinds (.bad k0 3) 0 [109, 117, 116, 101, 120] HPi6.out).mono ?_
                      rw [show Pa.ac ts (.bad k0 3) [109, 117, 116, 101, 120] = (.bad k0 3) from rfl, show Pa.isS ts (.bad k0 3) [109, 117, 116, 101, 120] = false from rfl]
                      rintro x wi7 ⟨rfl, hP, hG⟩
                      have HPi7 := Lib.hid hP
                      have HBei7 := Lib.hid (bel_gr HBei6.out hG (Nat.le_refl _) (by omega))
                      have hlti7 : w1.heap.size + 1 < wi7.heap.size := Nat.lt_of_lt_of_le hlti6 hG.size
                      clear hP hG HPi6 HBei6 hlti6
                      go_wp2_with fail
                      refine (rsTake wi7 w1.heap.size ts HT.out.last HT.out.kinds (.bad k0 3) 0 [114, 109, 117, 116, 101, 120] HPi7.out).mono ?_
                      rw [show Pa.ac ts (.bad k0 3) [114, 109, 117, 116, 101, 120] = (.bad k0 3) from rfl, show Pa.isS ts (.bad k0 3) [114, 109, 117, 116, 101, 120] = false from rfl]
                      rintro x wi8 ⟨rfl, hP, hG⟩
                      have HPi8 := Lib.hid hP
                      have HBei8 := Lib.hid (bel_gr HBei7.out hG (Nat.le_refl _) (by omega))
                      have hlti8 : w1.heap.size + 1 < wi8.heap.size := Nat.lt_of_lt_of_le hlti7 hG.size
                      clear hP hG HPi7 HBei7 hlti7
                      go_wp2_with fail
                      refine (rsTake wi8 w1.heap.size ts HT.out.last HT.out.kinds (.bad k0 3) 0 [102, 117, 110, 99] HPi8.out).mono ?_
                      rw [show Pa.ac ts (.bad k0 3) [102, 117, 110, 99] = (.bad k0 3) from rfl, show Pa.isS ts (.bad k0 3) [102, 117, 110, 99] = false from rfl]
                      rintro x wi9 ⟨rfl, hP, hG⟩
                      have HPi9 := Lib.hid hP
                      have HBei9 := Lib.hid (bel_gr HBei8.out hG (Nat.le_refl _) (by omega))
                      have hlti9 : w1.heap.size + 1 < wi9.heap.size := Nat.lt_of_lt_of_le hlti8 hG.size
                      clear hP hG HPi8 HBei8 hlti8
                      go_wp2_with fail
                      refine (rsFail wi9 w1.heap.size ts (.bad k0 3) 0 4 4 rfl (by decide) HPi9.out).mono ?_
                      rw [show Pa.fl (.bad k0 3) 4 = .bad k0 3 from rfl]
                      rintro x wi10 ⟨rfl, hP, hG⟩
                      have HPi10 := Lib.hid hP
                      have HBei10 := Lib.hid (bel_gr HBei9.out hG (Nat.le_refl _) (by omega))
                      have hlti10 : w1.heap.size + 1 < wi10.heap.size := Nat.lt_of_lt_of_le hlti9 hG.size
                      clear hP hG HPi9 HBei9 hlti9
                      go_wp2_with fail
                      go_roundg f1
                      case rel => exact ⟨.bad k0 3, HPi10.out, HBei10.out, .inl ⟨rfl, HRe.out⟩⟩
                      case measure => omega
                    · have tl : ((PF.length : Int) == 16) = false := bF (show (PF.length : Int) ≠ 16 by omega)
                      have hll : PF.length < 16 := by omega
                      have HR2 : Hid (Pa.sProg ts f1 (Pa.sFunc ts (.at_ (k0 + 1))).2 ⟨PG, PM, PF.map (·.1) ++ [(Pa.sFunc ts (.at_ (k0 + 1))).1]⟩ = R) := by
                        show _ = _
                        rw [← HRR.out, Pa.sProg, if_neg (fun h => by rcases h with h | h; cases h; rw [HE.out] at h; cases h), if_neg (by rw [HV.out]; decide), if_neg (by rw [HM.out]; decide), if_neg (by rw [HR.out]; decide), if_pos HF.out]
                        dsimp only
                        rw [show Pa.lm (.at_ k0) (PF.map (·.1)).length 16 = .at_ k0 from if_neg (by rw [List.length_map]; omega)]
                        rw [show Pa.ac ts (.at_ k0) [102, 117, 110, 99] = .at_ (k0 + 1) from if_pos HF.out]
                      have HFW := Lib.hid (Pa.sFunc_fws ts (.at_ (k0 + 1)))
                      clear HRR hlim
                      go_wp2_with fail
                      refine (rsTake wi4 w1.heap.size ts HT.out.last HT.out.kinds (.at_ k0) 0 [118, 97, 114] HPi4.out).mono ?_
                      rw [show Pa.ac ts (.at_ k0) [118, 97, 114] = .at_ k0 from if_neg (by rw [HV.out]; decide), HV.out]
                      rintro x wi5 ⟨rfl, hP, hG⟩
                      have HPi5 := Lib.hid hP
                      have HBei5 := Lib.hid (bel_gr HBei4.out hG (Nat.le_refl _) (by omega))
                      have HTbi5 := Lib.hid (kept_own hG HTbi4.out hgT')
                      have HPgi5 := Lib.hid (HPgi4.out.grown hG (by omega))
                      have hlti5 : w1.heap.size + 1 < wi5.heap.size := Nat.lt_of_lt_of_le hlti4 hG.size
                      clear hP hG HPi4 HBei4 hlti4 HTbi4 HPgi4
                      clear tl t1 t2 t3
                      go_wp2_with fail
                      refine (rsTake wi5 w1.heap.size ts HT.out.last HT.out.kinds (.at_ k0) 0 [109, 117, 116, 101, 120] HPi5.out).mono ?_
                      rw [show Pa.ac ts (.at_ k0) [109, 117, 116, 101, 120] = .at_ k0 from if_neg (by rw [HM.out]; decide), HM.out]
                      rintro x wi6 ⟨rfl, hP, hG⟩
                      have HPi6 := Lib.hid hP
                      have HBei6 := Lib.hid (bel_gr HBei5.out hG (Nat.le_refl _) (by omega))
                      have HTbi6 := Lib.hid (kept_own hG HTbi5.out hgT')
                      have HPgi6 := Lib.hid (HPgi5.out.grown hG (by omega))
                      have hlti6 : w1.heap.size + 1 < wi6.heap.size := Nat.lt_of_lt_of_le hlti5 hG.size
                      clear hP hG HPi5 HBei5 hlti5 HTbi5 HPgi5
                      go_wp2_with fail
                      refine (rsTake wi6 w1.heap.size ts HT.out.last HT.out.kinds (.at_ k0) 0 [114, 109, 117, 116, 101, 120] HPi6.out).mono ?_
                      rw [show Pa.ac ts (.at_ k0) [114, 109, 117, 116, 101, 120] = .at_ k0 from if_neg (by rw [HR.out]; decide), HR.out]
                      rintro x wi7 ⟨rfl, hP, hG⟩
                      have HPi7 := Lib.hid hP
                      have HBei7 := Lib.hid (bel_gr HBei6.out hG (Nat.le_refl _) (by omega))
                      have HTbi7 := Lib.hid (kept_own hG HTbi6.out hgT')
                      have HPgi7 := Lib.hid (HPgi6.out.grown hG (by omega))
                      have hlti7 : w1.heap.size + 1 < wi7.heap.size := Nat.lt_of_lt_of_le hlti6 hG.size
                      clear hP hG HPi6 HBei6 hlti6 HTbi6 HPgi6
                      go_wp2_with fail
                      refine (rsTake wi7 w1.heap.size ts HT.out.last HT.out.kinds (.at_ k0) 0 [102, 117, 110, 99] HPi7.out).mono ?_
                      rw [show Pa.ac ts (.at_ k0) [102, 117, 110, 99] = .at_ (k0 + 1) from if_pos HF.out, HF.out]
                      rintro x wi8 ⟨rfl, hP, hG⟩
                      have HPi8 := Lib.hid hP
                      have HBei8 := Lib.hid (bel_gr HBei7.out hG (Nat.le_refl _) (by omega))
                      have HTbi8 := Lib.hid (kept_own hG HTbi7.out hgT')
                      have HPgi8 := Lib.hid (HPgi7.out.grown hG (by omega))
                      have hlti8 : w1.heap.size + 1 < wi8.heap.size := Nat.lt_of_lt_of_le hlti7 hG.size
                      clear hP hG HPi7 HBei7 hlti7 HTbi7 HPgi7
                      go_wp2_with fail
                      refine (rsName wi8 w1.heap.size ts HT.out.last (.at_ (k0 + 1)) 0 HPi8.out).mono ?_
                      rintro x wn ⟨rfl, hP, hG⟩
                      have HPn := Lib.hid hP
                      have HBen := Lib.hid (bel_gr HBei8.out hG (Nat.le_refl _) (by omega))
                      have HTbn := Lib.hid (kept_own hG HTbi8.out hgT')
                      have HPgn := Lib.hid (HPgi8.out.grown hG (by omega))
                      have hltn : w1.heap.size + 1 < wn.heap.size := lt_of_block HTbn.out
                      have hFg : wn.heap.size ≠ w1.heap.size := by omega
                      have hFT : wn.heap.size ≠ w1.heap.size + 1 := by omega
                      have hTF : w1.heap.size + 1 ≠ wn.heap.size := by omega
                      clear hP hG HPi8 HBei8 HTbi8 HPgi8 hlti8
                      have HFN : Hid (Pa.sFunc ts (.at_ (k0 + 1)) = (⟨Pa.nmV ts (.at_ (k0 + 1)), (Pa.sParams ts (Pa.tk ts (.at_ (k0 + 1)) 1)).1, (Pa.sBlock ts 25 0 (Pa.sParams ts (Pa.tk ts (.at_ (k0 + 1)) 1)).2).1⟩, (Pa.sBlock ts 25 0 (Pa.sParams ts (Pa.tk ts (.at_ (k0 + 1)) 1)).2).2)) := rfl
                      generalize Pa.sFunc ts (.at_ (k0 + 1)) = FN at *
                      generalize Pa.nmV ts (.at_ (k0 + 1)) = nm at *
                      generalize Pa.tk ts (.at_ (k0 + 1)) 1 = τ1 at *
                      go_wp2_with fail
                      refine (rsParams _ w1.heap.size ts HT.out τ1 0 (HPn.out.alloc _)).mono ?_
                      rintro x wp ⟨pA, pn, pc, rfl, hX, hP, hG⟩
                      have HFp := Lib.hid (kept_own hG (heap_alloc_new wn _) hFg)
                      have HPp := Lib.hid hP
                      have HBep := Lib.hid (bel_gr (bel_alc HBen.out (by omega) _) hG (Nat.le_refl _) (by simp; omega))
                      have HTbp := Lib.hid (kept_own hG ((Below.heap_alloc wn _ _ hltn).trans HTbn.out) hgT')
                      have HKp : Hid (∀ b, w1.heap.size + 2 ≤ b → b < wn.heap.size → wp.heap[b]? = wn.heap[b]?) := fun b hb hl => (hG.block b (by simp; omega) (fun e => by injection e with e; omega)).trans (Below.heap_alloc wn _ b hl)
                      have HXp : Hid ((Pa.sParams ts τ1).2.live = true → pn = (Pa.sParams ts τ1).1.length ∧ PmsM wp (wn.heap.size + 1 ≤ ·) (Pa.sParams ts τ1).1 pA) := fun h => ⟨(hX h).1, (hX h).2.more fun b hb _ => by simp at hb; omega⟩
                      have hlp : wn.heap.size < wp.heap.size := lt_of_block HFp.out
                      have HPF := Lib.hid (Pa.sBlock_fwd ts 25 0 (Pa.sParams ts τ1).2)
                      clear hX hP hG HPn HBen HTbn
                      generalize (Pa.sParams ts τ1).1 = ps at *
                      generalize (Pa.sParams ts τ1).2 = τ2 at *
                      obtain ⟨p0, p1, p2, pf, -⟩ := blk3 HFp.out
                      have v1 := pf 1
                      clear pf
                      go_wp2_with fail
                      obtain ⟨ws, hws⟩ : ∃ W, W = wp.setCell ⟨wn.heap.size, 1, none⟩ (.slice pA pn pc) := ⟨_, rfl⟩
                      have hq : PutAt wn.heap.size wp ws := by
                        rw [hws]
                        exact (PutAt.refl wn.heap.size wp).set 1 _
                      have HFs : Hid (ws.heap[wn.heap.size]? = some (.cells #[.string ⟨nm.toArray⟩, .slice pA pn pc, .slice none 0 0] 64 (0, 0))) := by
                        rw [hws]
                        exact blkset_any 1 _ HFp.out
                      have HPs := Lib.hid (HPp.out.putAt hq (by omega))
                      have HBes := Lib.hid (bel_put HBep.out hq (by omega))
                      have HTbs := Lib.hid ((hq.2.2.2.2 _ hTF).trans HTbp.out)
                      have HKs : Hid (∀ b, w1.heap.size + 2 ≤ b → b < wn.heap.size → ws.heap[b]? = wn.heap[b]?) := fun b hb hl => (hq.2.2.2.2 b (by omega)).trans (HKp.out b hb hl)
                      have HXs : Hid (τ2.live = true → pn = ps.length ∧ PmsM ws (wn.heap.size + 1 ≤ ·) ps pA) := fun h => ⟨(HXp.out h).1, (HXp.out h).2.keep fun b hb _ => hq.2.2.2.2 b (by omega)⟩
                      have hls : wn.heap.size < ws.heap.size := lt_of_block HFs.out
                      rw [← hws]
                      clear hws hq p0 p1 p2 v1 HFp HPp HBep HTbp HKp HXp hlp
                      refine (rsBlock_any w1.heap.size ts HT.out 25 0 (by omega) (by omega) ws τ2 HPs.out).mono ?_
                      rintro x wb ⟨bA, bn, bc, rfl, hX, hP, hG⟩
                      dsimp only at hX hP
                      have HFb := Lib.hid (kept_own hG HFs.out hFg)
                      have HPb := Lib.hid hP
                      have HBeb := Lib.hid (bel_gr HBes.out hG (Nat.le_refl _) (by omega))
                      have HTbb := Lib.hid (kept_own hG HTbs.out hgT')
                      have HKb : Hid (∀ b, w1.heap.size + 2 ≤ b → b < wn.heap.size → wb.heap[b]? = wn.heap[b]?) := fun b hb hl => (hG.block b (by omega) (fun e => by injection e with e; omega)).trans (HKs.out b hb hl)
                      have HXb : Hid (τ2.live = true → pn = ps.length ∧ PmsM wb (wn.heap.size + 1 ≤ ·) ps pA) := fun h => ⟨(HXs.out h).1, (HXs.out h).2.keep fun b hb hl => hG.block b hl (fun e => by injection e with e; omega)⟩
                      have HYb : Hid ((Pa.sBlock ts 25 0 τ2).2.live = true → bn = (Pa.sBlock ts 25 0 τ2).1.length ∧ StsM wb (wn.heap.size + 1 ≤ ·) (Pa.sBlock ts 25 0 τ2).1 bA) := fun h => ⟨(hX h).1, (hX h).2.more fun b hb _ => by omega⟩
                      have hlb : wn.heap.size < wb.heap.size := lt_of_block HFb.out
                      clear hX hP hG HFs HPs HBes HTbs HKs HXs hls
                      generalize (Pa.sBlock ts 25 0 τ2).1 = body at *
                      generalize (Pa.sBlock ts 25 0 τ2).2 = τ3 at *
                      obtain ⟨p0, p1, p2, pf, -⟩ := blk3 HFb.out
                      have v2 := pf 2
                      clear pf
                      obtain ⟨t1, t2, t3, tf, -⟩ := blk3 HTbb.out
                      have tf2 := tf 2
                      clear tf
                      have HQ := Lib.hid ((PutAt.refl wn.heap.size wb).set 2 (.slice bA bn bc))
                      have HSZ := Lib.hid HQ.out.2.2.2.1
                      have HPgq := Lib.hid (HPgn.out.keep fun b hb hl => (HQ.out.2.2.2.2 b (by omega)).trans (HKb.out b hb hl))
                      have HTbq := Lib.hid ((HQ.out.2.2.2.2 _ hTF).trans HTbb.out)
                      go_wp2_with (first | (at_builtin; refine wpList_append_lies _ rfl (.tmp 121) (.tmp 123) 42 rfl (w1.heap.size + 2) 64 iF _ 3 64 Tryd.underlying42 hiF hgF0 hgF1 hgF2 rfl (by decide) _ PF.length (fnK.cs PF) rfl (HPgq.out.alloc _).rF ⟨wb.heap.size, 0, none⟩ 1 1 [.string ⟨nm.toArray⟩, .slice pA pn pc, .slice bA bn bc] rfl rfl (news_any _ _ HSZ.out.symm _ _) (fun u hu => by simp at hu; rcases hu with rfl | rfl | rfl <;> rfl) (by omega) (by unfold maxLen; omega) (by omega) (alloc_base _ (by omega) HSZ.out) _ rfl ?_; intro gb cap wc hown hgrow hlies hgl; have HTc := Lib.hid (blk_app ((Below.heap_alloc _ _ _ (lt_of_block HTbq.out)).trans HTbq.out) (HPgq.out.alloc _).rF (by omega) hgrow); obtain ⟨c1, c2, c3, cf, ccl⟩ := blk3 HTc.out; have cf2 := cf 2; clear cf))
                      have HPgc : Hid (τ3.live = true → PgR wc (w1.heap.size + 2) (.slice AG PG.length cG) (.slice AM PM.length cM) (.slice (some ⟨gb, 0, none⟩) (PF.length + 1) cap) PG PM (PF ++ [((⟨nm, ps, body⟩ : Fn), (⟨pA, pc, bA, bc⟩ : FnG))])) := fun hl => by
                        obtain ⟨e1, m1⟩ := HXb.out (HPF.out hl).1
                        obtain ⟨e2, m2⟩ := HYb.out hl
                        subst e1 e2
                        exact (HPgq.out.alloc _).snocF ((⟨nm, ps, body⟩ : Fn), (⟨pA, pc, bA, bc⟩ : FnG)) (fnK.keep (HPgn.out.fresh (N := wn.heap.size + 1) (show fnK.In _ (wn.heap.size + 1 ≤ ·) ((⟨nm, ps, body⟩ : Fn), (⟨pA, pc, bA, bc⟩ : FnG)) from ⟨m1.keep fun b hb _ => HQ.out.2.2.2.2 b (by omega), m2.keep fun b hb _ => HQ.out.2.2.2.2 b (by omega)⟩) (by omega) (by omega)) fun b _ hl => Below.heap_alloc _ _ b hl) hown hgrow (lies_at hlies rfl)
                      have HPc := Lib.hid (((HPb.out.putAt HQ.out (by omega)).alloc _).app (HPgq.out.alloc _).rF (by omega) hgrow)
                      have HBec := Lib.hid (bel_app (bel_alc (bel_put HBeb.out HQ.out (by omega)) (Nat.le_trans (by omega) (Nat.le_of_eq HSZ.out.symm)) _) (HPgq.out.alloc _).rF (by omega) (alloc_base _ (by omega) HSZ.out) hgrow)
                      have HQ2 := Lib.hid (show PutAt (w1.heap.size + 1) wc (wc.setCell ⟨w1.heap.size + 1, 2, none⟩ (.slice (some ⟨gb, 0, none⟩) (PF.length + 1) cap)) from (PutAt.refl _ wc).set 2 _)
                      clear hown hgrow hlies hgl HPgq HTbq HPgn HKb HXb HYb HFb HPb HBeb HTbb HQ HSZ p0 p1 p2 v2 t1 t2 t3 tf2
                      go_wp2_with fail
                      go_roundg f1
                      case rel =>
                        have hst : FN.2 = τ3 := by rw [HFN.out]
                        have hval : FN.1 = ⟨nm, ps, body⟩ := by rw [HFN.out]
                        refine ⟨τ3, HPc.out.putAt HQ2.out (by omega), bel_put HBec.out HQ2.out (by omega), ?_⟩
                        cases τ3 with
                        | bad m e => exact .inl ⟨rfl, by rw [← HR2.out, hst, Pa.sProg_dead _ _ _ _ rfl]⟩
                        | at_ k2 =>
                          have h1 := (HFW.out (by rw [hst]; rfl)).2
                          have h3 : (Pa.Sg.at_ (k0 + 1)).k = k0 + 1 := rfl
                          have h4 : (Pa.Sg.at_ k2).k = k2 := rfl
                          rw [hst, h3, h4] at h1
                          refine .inr ⟨rfl, .slice AG PG.length cG, .slice AM PM.length cM, _, PG, PM, PF ++ [((⟨nm, ps, body⟩ : Fn), (⟨pA, pc, bA, bc⟩ : FnG))], blk3set2 _ HTc.out, (HPgc.out rfl).putAt HQ2.out (by omega), hg16, hm12, (by simp; omega), ?_, ?_⟩
                          · show _ ≤ f1 + k2
                            omega
                          · have := HR2.out
                            rw [hval, hst] at this
                            rw [List.map_append]
                            exact this
                      case measure => omega
                  | false =>
                    have HF := Lib.hid hI
                    clear hI
                    have HRe : Hid (R.2 = .bad k0 4) := by
                      show _ = _
                      rw [← HRR.out, Pa.sProg, if_neg (fun h => by rcases h with h | h; cases h; rw [HE.out] at h; cases h), if_neg (by rw [HV.out]; decide), if_neg (by rw [HM.out]; decide), if_neg (by rw [HR.out]; decide), if_neg (by rw [HF.out]; decide)]
                      rfl
                    clear HRR
                    go_wp2_with fail
                    refine (rsIs w2 w1.heap.size ts HT.out.kinds (.at_ k0) 0 [118, 97, 114] HP1.out).mono ?_
                    rw [HV.out]
                    rintro x wi1 ⟨rfl, hb⟩
                    have HPi1 := Lib.hid (HP1.out.later hb)
                    have HBei1 := Lib.hid (HBe1.out.trans (hb.mono (by omega)))
                    have HTbi1 := Lib.hid ((hb.block _ hlt1).trans HTb1.out)
                    have HPgi1 := Lib.hid (HPg1.out.keep fun b _ hl => hb.block b hl)
                    have hlti1 : w1.heap.size + 1 < wi1.heap.size := lt_of_block HTbi1.out
                    clear hb HP1 HBe1 HTb1 HPg1 hlt1
                    go_wp2_with fail
                    refine (rsIs wi1 w1.heap.size ts HT.out.kinds (.at_ k0) 0 [109, 117, 116, 101, 120] HPi1.out).mono ?_
                    rw [HM.out]
                    rintro x wi2 ⟨rfl, hb⟩
                    have HPi2 := Lib.hid (HPi1.out.later hb)
                    have HBei2 := Lib.hid (HBei1.out.trans (hb.mono (by omega)))
                    have HTbi2 := Lib.hid ((hb.block _ hlti1).trans HTbi1.out)
                    have HPgi2 := Lib.hid (HPgi1.out.keep fun b _ hl => hb.block b hl)
                    have hlti2 : w1.heap.size + 1 < wi2.heap.size := lt_of_block HTbi2.out
                    clear hb HPi1 HBei1 HTbi1 HPgi1 hlti1
                    go_wp2_with fail
                    refine (rsIs wi2 w1.heap.size ts HT.out.kinds (.at_ k0) 0 [114, 109, 117, 116, 101, 120] HPi2.out).mono ?_
                    rw [HR.out]
                    rintro x wi3 ⟨rfl, hb⟩
                    have HPi3 := Lib.hid (HPi2.out.later hb)
                    have HBei3 := Lib.hid (HBei2.out.trans (hb.mono (by omega)))
                    have HTbi3 := Lib.hid ((hb.block _ hlti2).trans HTbi2.out)
                    have HPgi3 := Lib.hid (HPgi2.out.keep fun b _ hl => hb.block b hl)
                    have hlti3 : w1.heap.size + 1 < wi3.heap.size := lt_of_block HTbi3.out
                    clear hb HPi2 HBei2 HTbi2 HPgi2 hlti2
                    go_wp2_with fail
                    refine (rsIs wi3 w1.heap.size ts HT.out.kinds (.at_ k0) 0 [102, 117, 110, 99] HPi3.out).mono ?_
                    rw [HF.out]
                    rintro x wi4 ⟨rfl, hb⟩
                    have HPi4 := Lib.hid (HPi3.out.later hb)
                    have HBei4 := Lib.hid (HBei3.out.trans (hb.mono (by omega)))
                    have HTbi4 := Lib.hid ((hb.block _ hlti3).trans HTbi3.out)
                    have HPgi4 := Lib.hid (HPgi3.out.keep fun b _ hl => hb.block b hl)
                    have hlti4 : w1.heap.size + 1 < wi4.heap.size := lt_of_block HTbi4.out
                    clear hb HPi3 HBei3 HTbi3 HPgi3 hlti3
                    go_wp2_with fail
                    refine (rsTake wi4 w1.heap.size ts HT.out.last HT.out.kinds (.at_ k0) 0 [118, 97, 114] HPi4.out).mono ?_
                    rw [show Pa.ac ts (.at_ k0) [118, 97, 114] = .at_ k0 from if_neg (by rw [HV.out]; decide), HV.out]
                    rintro x wi5 ⟨rfl, hP, hG⟩
                    have HPi5 := Lib.hid hP
                    have HBei5 := Lib.hid (bel_gr HBei4.out hG (Nat.le_refl _) (by omega))
                    have HTbi5 := Lib.hid (kept_own hG HTbi4.out hgT')
                    have HPgi5 := Lib.hid (HPgi4.out.grown hG (by omega))
                    have hlti5 : w1.heap.size + 1 < wi5.heap.size := Nat.lt_of_lt_of_le hlti4 hG.size
                    clear hP hG HPi4 HBei4 hlti4 HTbi4 HPgi4
                    go_wp2_with fail
                    refine (rsTake wi5 w1.heap.size ts HT.out.last HT.out.kinds (.at_ k0) 0 [109, 117, 116, 101, 120] HPi5.out).mono ?_
                    rw [show Pa.ac ts (.at_ k0) [109, 117, 116, 101, 120] = .at_ k0 from if_neg (by rw [HM.out]; decide), HM.out]
                    rintro x wi6 ⟨rfl, hP, hG⟩
                    have HPi6 := Lib.hid hP
                    have HBei6 := Lib.hid (bel_gr HBei5.out hG (Nat.le_refl _) (by omega))
                    have HTbi6 := Lib.hid (kept_own hG HTbi5.out hgT')
                    have HPgi6 := Lib.hid (HPgi5.out.grown hG (by omega))
                    have hlti6 : w1.heap.size + 1 < wi6.heap.size := Nat.lt_of_lt_of_le hlti5 hG.size
                    clear hP hG HPi5 HBei5 hlti5 HTbi5 HPgi5
                    go_wp2_with fail
                    refine (rsTake wi6 w1.heap.size ts HT.out.last HT.out.kinds (.at_ k0) 0 [114, 109, 117, 116, 101, 120] HPi6.out).mono ?_
                    rw [show Pa.ac ts (.at_ k0) [114, 109, 117, 116, 101, 120] = .at_ k0 from if_neg (by rw [HR.out]; decide), HR.out]
                    rintro x wi7 ⟨rfl, hP, hG⟩
                    have HPi7 := Lib.hid hP
                    have HBei7 := Lib.hid (bel_gr HBei6.out hG (Nat.le_refl _) (by omega))
                    have HTbi7 := Lib.hid (kept_own hG HTbi6.out hgT')
                    have HPgi7 := Lib.hid (HPgi6.out.grown hG (by omega))
                    have hlti7 : w1.heap.size + 1 < wi7.heap.size := Nat.lt_of_lt_of_le hlti6 hG.size
                    clear hP hG HPi6 HBei6 hlti6 HTbi6 HPgi6
                    go_wp2_with fail
                    refine (rsTake wi7 w1.heap.size ts HT.out.last HT.out.kinds (.at_ k0) 0 [102, 117, 110, 99] HPi7.out).mono ?_
                    rw [show Pa.ac ts (.at_ k0) [102, 117, 110, 99] = .at_ k0 from if_neg (by rw [HF.out]; decide), HF.out]
                    rintro x wi8 ⟨rfl, hP, hG⟩
                    have HPi8 := Lib.hid hP
                    have HBei8 := Lib.hid (bel_gr HBei7.out hG (Nat.le_refl _) (by omega))
                    have HTbi8 := Lib.hid (kept_own hG HTbi7.out hgT')
                    have HPgi8 := Lib.hid (HPgi7.out.grown hG (by omega))
                    have hlti8 : w1.heap.size + 1 < wi8.heap.size := Nat.lt_of_lt_of_le hlti7 hG.size
                    clear hP hG HPi7 HBei7 hlti7 HTbi7 HPgi7
                    go_wp2_with fail
                    refine (rsFail wi8 w1.heap.size ts (.at_ k0) 0 4 4 rfl (by decide) HPi8.out).mono ?_
                    rw [show Pa.fl (.at_ k0) 4 = .bad k0 4 from rfl]
                    rintro x wi9 ⟨rfl, hP, hG⟩
                    have HPi9 := Lib.hid hP
                    have HBei9 := Lib.hid (bel_gr HBei8.out hG (Nat.le_refl _) (by omega))
                    have hlti9 : w1.heap.size + 1 < wi9.heap.size := Nat.lt_of_lt_of_le hlti8 hG.size
                    clear hP hG HPi8 HBei8 hlti8 HTbi8 HPgi8
                    go_wp2_with fail
                    go_roundg f1
                    case rel => exact ⟨.bad k0 4, HPi9.out, HBei9.out, .inl ⟨rfl, HRe.out⟩⟩
                    case measure => omega
  · have HV2 : Hid (progV l = (noPg, n0, e0)) := HV.out.trans (if_neg he)
    have t0 : (((e0 : Nat) : Int) != 0) = true := nT (show ((e0 : Nat) : Int) ≠ 0 by omega)
    obtain ⟨r0, r1, r2, rf, -⟩ := blk3 HR1.out
    have f0 := rf 0
    have f1 := rf 1
    have f2 := rf 2
    clear rf he HV HL HNE
    go_wp2_with fail
    have hq : PutAt w.heap.size w1 _ := (((PutAt.refl w.heap.size w1).set 0 (.slice none 0 0)).set 1 (.slice none 0 0)).set 2 (.slice none 0 0)
    refine bodyPost_ret (v := .tuple #[.agg #[.slice none 0 0, .slice none 0 0, .slice none 0 0], .int .i64 (n0 : Int), .int .i64 (e0 : Int)]) (by simp [results, Tryd.results29, go_sem, r0, r1, r2]) rfl ⟨_, _, _, [], [], [], w1.heap.size, by rw [HV2.out], by omega, PgR.nil _ _, by rw [HV2.out]; rfl, below_putR HB1.out hq (Nat.le_refl _)⟩
  end Go.Proofs.YtjjooekkieddbaaDoor
