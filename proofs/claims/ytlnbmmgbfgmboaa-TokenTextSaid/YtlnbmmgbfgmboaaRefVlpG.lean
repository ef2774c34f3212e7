/- What Valid and Format of the reference return for made programs. -/
import Derived.Test.YtlnbmmgbfgmboaaRefOkG
import Derived.Test.YtlnbmmgbfgmboaaRefProgG
import Derived.Test.YtlnbmmgbfgmboaaRefLexG
import Derived.Test.YtlnbmmgbfgmboaaQ2
namespace Go.Proofs.Ytlnbmmgbfgmboaa
open Go.RowKit

theorem bd3 {w : World} {b : Nat} {c0 c1 c2 : Value} {t : TypeId} (h : w.heap[b]? = some (.cells #[c0, c1, c2] t (0, 0))) :
    w.cell? ⟨b, 0, none⟩ = some c0 ∧ w.cell? ⟨b, 1, none⟩ = some c1 ∧ w.cell? ⟨b, 2, none⟩ = some c2 := ⟨(blk3 h).1, (blk3 h).2.1, (blk3 h).2.2.1⟩

set_option maxRecDepth 100000 in
set_option maxHeartbeats 8000000 in
theorem refValidP_any (p : Pg) (hP : MdP p) (AG AM AF : Option Addr) (cG cM cF : Nat) (H : Nat → FnG) (w : World) (hM : PgM w p AG AM AF H) :
    Calls Try.prog 29 #[.agg #[.slice AG p.gs.length cG, .slice AM p.ms.length cM, .slice AF p.fs.length cF]] w fun e w' => e = .returned (.bool (decide ((Tk.lex (pgText p)).2.2 = 0))) ∧ Below w.heap.size w w' := by
  have HX := Lib.hid (heap_alloc_new w (.cells #[.slice AG p.gs.length cG, .slice AM p.ms.length cM, .slice AF p.fs.length cF] 50))
  have HBW : Hid (Below w.heap.size w (w.alloc (.cells #[.slice AG p.gs.length cG, .slice AM p.ms.length cM, .slice AF p.fs.length cF] 50))) := (Below.refl _ _).alloc (Nat.le_refl _) _
  have HM := Lib.hid (hM.later HBW.out)
  have hg := hP.gl
  have hm := hP.ml
  have hf := hP.fl
  have HP := Lib.hid hP
  have g16 : ¬ (16 : Int) < (p.gs.length : Int) := by omega
  have m12 : ¬ (12 : Int) < (p.ms.length : Int) := by omega
  have f16 : ¬ (16 : Int) < (p.fs.length : Int) := by omega
  have g16' : ¬ 16 < p.gs.length := by omega
  have m12' : ¬ 12 < p.ms.length := by omega
  have f16' : ¬ 16 < p.fs.length := by omega
  clear hP hM
  go_enter Try.func29, Try.ntmps29
  go_wp2_with fail
  clear g16 m12 f16 g16' m12' f16'
  generalize (w.alloc (.cells #[.slice AG p.gs.length cG, .slice AM p.ms.length cM, .slice AF p.fs.length cF] 50)) = W at *
  go_loopw [3] (fun i wr => ∃ k : Nat, k ≤ p.gs.length ∧ i = .int .i64 k ∧ Hid (Below W.heap.size W wr)) (fun i _ => p.gs.length - (intOf i).toNat)
  case atStart => exact ⟨0, Nat.zero_le _, rfl, Below.refl _ _⟩
  case round =>
    obtain ⟨k, hk, rfl, HBk⟩ := hrel
    have HX1 := Lib.hid ((HBk.out.block _ (lt_of_block HX.out)).trans HX.out)
    obtain ⟨x0, -, -⟩ := bd3 HX1.out
    by_cases hlt : k < p.gs.length
    · obtain ⟨b, hAG, a0, a1⟩ := (HM.out.later HBk.out).g k hlt
      have HG := Lib.hid (HP.out.g k hlt)
      generalize p.gs[k] = gl at *
      subst hAG
      have hnl := (nameB_len HG.out.1).2
      have HA1 := Lib.hid a1
      have i0 : (0 : Int) ≤ (k : Int) := by omega
      have i1 : (k : Int) < (p.gs.length : Int) := by omega
      clear a1
      go_wp2_with fail
      refine (name_any gl.name _ (by omega)).mono ?_
      rintro e w1 ⟨rfl, hb1⟩
      rw [HG.out.1]
      obtain ⟨y0, -, -⟩ := bd3 ((hb1.block _ (lt_of_block HX1.out)).trans HX1.out)
      have a1 := cl_later hb1 HA1.out
      have HB1 := Lib.hid (below_two HBk.out hb1)
      have hne : (gl.init == -9223372036854775808) = false := bF (by have := HG.out.2.1; omega)
      clear hb1 x0 a0
      go_wp2_with fail
      go_roundw
      case rel => exact ⟨k + 1, by omega, by go_num, HB1⟩
      case measure => simp [intOf]; omega
    · go_wp2_with fail
      clear x0
      go_loopw [4, 5] (fun i _ wr => ∃ k : Nat, k ≤ p.ms.length ∧ i = .int .i64 k ∧ Hid (Below W.heap.size W wr)) (fun i _ _ => p.ms.length - (intOf i).toNat)
      case atStart => exact ⟨0, Nat.zero_le _, rfl, HBk⟩
      case round =>
        clear HBk HX1 hlt hk
        obtain ⟨k2, hk2, rfl, HBk⟩ := hrel
        have HX1 := Lib.hid ((HBk.out.block _ (lt_of_block HX.out)).trans HX.out)
        obtain ⟨-, x1, -⟩ := bd3 HX1.out
        by_cases hlt : k2 < p.ms.length
        · obtain ⟨b, hAM, a0, a1, a2⟩ := (HM.out.later HBk.out).m k2 hlt
          have HG := Lib.hid (HP.out.m k2 hlt)
          generalize p.ms[k2] = mx at *
          subst hAM
          have hnl := (nameB_len HG.out.1).2
          have i0 : (0 : Int) ≤ (k2 : Int) := by omega
          have i1 : (k2 : Int) < (p.ms.length : Int) := by omega
          have HY := Lib.hid (heap_alloc_new wr (.cells #[.string ⟨mx.name.toArray⟩, .bool mx.re, .int .i64 (mx.size : Int)] 64))
          have HC0 : Hid (Below wr.heap.size wr (wr.alloc (.cells #[.string ⟨mx.name.toArray⟩, .bool mx.re, .int .i64 (mx.size : Int)] 64))) := (Below.refl _ _).alloc (Nat.le_refl _) _
          go_wp2_with fail
          generalize (wr.alloc (.cells #[.string ⟨mx.name.toArray⟩, .bool mx.re, .int .i64 (mx.size : Int)] 64)) = z0 at *
          refine (name_any mx.name _ (by omega)).mono ?_
          rintro e w1 ⟨rfl, hb1⟩
          rw [HG.out.1]
          obtain ⟨y0, y1, y2⟩ := bd3 ((hb1.block _ (lt_of_block HY.out)).trans HY.out)
          have HB1 := Lib.hid (below_two HBk.out (below_two HC0.out hb1))
          have hs0 : ¬ (mx.size : Int) < 0 := by omega
          have hs3 := HG.out.2.1
          have hs64 : ¬ (64 : Int) < (mx.size : Int) := by omega
          have hs64' : ¬ 64 < mx.size := by omega
          clear hb1 x1 a0 a1 a2
          cases hre : mx.re with
          | true =>
            have hz := HG.out.2.2 hre
            rw [hre] at y1
            rw [hz] at y2 hs0 hs64 hs64'
            go_wp2_with fail
            go_roundw
            case rel => exact ⟨k2 + 1, by omega, by go_num, HB1⟩
            case measure => simp [intOf]; omega
          | false =>
            rw [hre] at y1
            go_wp2_with fail
            go_roundw
            case rel => exact ⟨k2 + 1, by omega, by go_num, HB1⟩
            case measure => simp [intOf]; omega
        · go_wp2_with fail
          clear x1
          go_loopw [6, 7, 8] (fun i _ _ wr => ∃ k : Nat, k ≤ p.fs.length ∧ i = .int .i64 k ∧ Hid (Below W.heap.size W wr)) (fun i _ _ _ => p.fs.length - (intOf i).toNat)
          case atStart => exact ⟨0, Nat.zero_le _, rfl, HBk⟩
          case round =>
            clear HBk HX1 hlt hk2
            obtain ⟨k3, hk3, rfl, HBk⟩ := hrel
            have HX1 := Lib.hid ((HBk.out.block _ (lt_of_block HX.out)).trans HX.out)
            by_cases hlt : k3 < p.fs.length
            · obtain ⟨-, -, x2⟩ := bd3 HX1.out
              obtain ⟨b, hAF, a0, a1, a2⟩ := (HM.out.later HBk.out).f k3 hlt
              have HG := Lib.hid (HP.out.f k3 hlt)
              have HPs := Lib.hid ((HM.out.later HBk.out).ps k3 hlt)
              have HBd := Lib.hid ((HM.out.later HBk.out).bd k3 hlt)
              generalize p.fs[k3] = fn at *
              generalize H k3 = G at *
              subst hAF
              have hnl := (nameB_len HG.out.1).2
              have hpl := HG.out.2.1
              have i0 : (0 : Int) ≤ (k3 : Int) := by omega
              have i1 : (k3 : Int) < (p.fs.length : Int) := by omega
              have HY := Lib.hid (heap_alloc_new wr (.cells #[.string ⟨fn.name.toArray⟩, .slice G.A fn.ps.length G.c, .slice G.B fn.body.length G.d] 70))
              have HC0 : Hid (Below wr.heap.size wr (wr.alloc (.cells #[.string ⟨fn.name.toArray⟩, .slice G.A fn.ps.length G.c, .slice G.B fn.body.length G.d] 70))) := (Below.refl _ _).alloc (Nat.le_refl _) _
              go_wp2_with fail
              generalize (wr.alloc (.cells #[.string ⟨fn.name.toArray⟩, .slice G.A fn.ps.length G.c, .slice G.B fn.body.length G.d] 70)) = z0 at *
              refine (name_any fn.name _ (by omega)).mono ?_
              rintro e w1 ⟨rfl, hb1⟩
              rw [HG.out.1]
              have HY1 := Lib.hid ((hb1.block _ (lt_of_block HY.out)).trans HY.out)
              have HC1 := Lib.hid (below_two HC0.out hb1)
              obtain ⟨y0, y1, y2⟩ := bd3 HY1.out
              have p6 : ¬ (6 : Int) < (fn.ps.length : Int) := by omega
              have p6' : ¬ 6 < fn.ps.length := by omega
              clear hb1 x2 a0 a1 a2
              go_wp2_with fail
              refine (okStmts_fuel (SizeOf.sizeOf fn.body + 1) fn.body G.B G.d 2 0 0 _ (Nat.lt_succ_self _) rfl (by decide) (HBd.out.keep fun b _ hl => HC1.out.block b hl) HG.out.2.2.2.1 (by have := HG.out.2.2.2.2; omega)).mono ?_
              rintro e w2 ⟨rfl, hb2⟩
              have HY2 := Lib.hid ((hb2.block _ (lt_of_block HY1.out)).trans HY1.out)
              have HC2 := Lib.hid (below_two HC1.out hb2)
              clear y0 y1 y2 hb2 p6 p6' HY1 HY
              go_wp2_with fail
              go_loopw [8] (fun i wz => ∃ q : Nat, q ≤ fn.ps.length ∧ i = .int .i64 q ∧ Hid (Below w2.heap.size w2 wz)) (fun i _ => fn.ps.length - (intOf i).toNat)
              case atStart => exact ⟨0, Nat.zero_le _, rfl, Below.refl _ _⟩
              case round =>
                obtain ⟨q, hq, rfl, HBq⟩ := hrel
                obtain ⟨-, y1, -⟩ := bd3 ((HBq.out.block _ (lt_of_block HY2.out)).trans HY2.out)
                by_cases hql : q < fn.ps.length
                · obtain ⟨ba, oa, hA, -, m0, -⟩ := ((HPs.out.later HC2.out).later HBq.out) q hql
                  rw [hA] at y1
                  have HNM := Lib.hid (HG.out.2.2.1 q hql)
                  generalize fn.ps[q] = pm at *
                  have hql2 := (nameB_len HNM.out).2
                  have i2 : (0 : Int) ≤ (q : Int) := by omega
                  have i3 : (q : Int) < (fn.ps.length : Int) := by omega
                  clear hA
                  go_wp2_with fail
                  refine (name_any pm.name _ (by omega)).mono ?_
                  rintro e w3 ⟨rfl, hb3⟩
                  rw [HNM.out]
                  have HB3 := Lib.hid (below_two HBq.out hb3)
                  clear hb3 y1 m0
                  go_wp2_with fail
                  go_roundw
                  case rel => exact ⟨q + 1, by omega, by go_num, HB3⟩
                  case measure => simp [intOf]; omega
                · go_wp2_with fail
                  go_roundw
                  case rel => exact ⟨k3 + 1, by omega, by go_num, below_two HBk.out (below_two HC2.out HBq.out)⟩
                  case measure => simp [intOf]; omega
            · obtain ⟨x0, x1, x2⟩ := bd3 HX1.out
              go_wp2_with fail
              refine (refProgram_any p HP.out.t AG AM AF cG cM cF H _ (HM.out.later HBk.out)).mono ?_
              rintro e w1 ⟨rfl, hb1⟩
              have HTX := Lib.hid HP.out.text
              have HB1 := Lib.hid (below_two HBW.out (below_two HBk.out hb1))
              clear hb1 x0 x1 x2
              generalize hTe : pgText p = T at *
              have HTE := Lib.hid hTe
              clear hTe
              obtain ⟨c1, W1, hcv1, hB1, hc1, hb2⟩ := conv_bytes T w1
              have HLX := Lib.hid (refLex_any T (some ⟨w1.heap.size, 0, none⟩) c1 W1 hB1 (by have := HTX.out; omega) hc1)
              have HB2 := Lib.hid (below_two HB1.out hb2)
              clear hB1 hc1 hb2
              go_wp2_with fail
              refine HLX.out.mono ?_
              intro e w2 hp
              obtain ⟨A, c, rfl, -, hb3⟩ := lexPost_open hp
              have HB3 := Lib.hid (below_two HB2.out hb3)
              clear hp hb3 hcv1
              generalize hRe : Tk.lex T = R at *
              have HRE := Lib.hid hRe
              clear hRe
              by_cases h0 : R.2.2 = 0
              · have hz : (((R.2.2 : Nat) : Int) == 0) = true := bT (by omega)
                have HR : Hid (decide ((Tk.lex (pgText p)).2.2 = 0) = true) := by show _ = _; rw [HTE.out, HRE.out]; exact decide_eq_true h0
                clear h0
                go_wp2_with fail
                go_ret
                exact ⟨ret_bool HR.out.symm, HB3.out⟩
              · have hz : (((R.2.2 : Nat) : Int) == 0) = false := bF (by omega)
                have HR : Hid (decide ((Tk.lex (pgText p)).2.2 = 0) = false) := by show _ = _; rw [HTE.out, HRE.out]; exact decide_eq_false h0
                clear h0
                go_wp2_with fail
                go_ret
                exact ⟨ret_bool HR.out.symm, HB3.out⟩

/-- what Format of the reference returns for a made program -/
def fmtT (p : Pg) : List UInt8 := if (Tk.lex (pgText p)).2.2 = 0 then pgText p else []

set_option maxRecDepth 100000 in
set_option maxHeartbeats 4000000 in
theorem refFormatP_any (p : Pg) (hP : MdP p) (AG AM AF : Option Addr) (cG cM cF : Nat) (H : Nat → FnG) (w : World) (hM : PgM w p AG AM AF H) :
    Calls Try.prog 17 #[.agg #[.slice AG p.gs.length cG, .slice AM p.ms.length cM, .slice AF p.fs.length cF]] w fun e w' => e = .returned (.string ⟨(fmtT p).toArray⟩) ∧ Below w.heap.size w w' := by
  have HX := Lib.hid (heap_alloc_new w (.cells #[.slice AG p.gs.length cG, .slice AM p.ms.length cM, .slice AF p.fs.length cF] 50))
  have HBW : Hid (Below w.heap.size w (w.alloc (.cells #[.slice AG p.gs.length cG, .slice AM p.ms.length cM, .slice AF p.fs.length cF] 50))) := (Below.refl _ _).alloc (Nat.le_refl _) _
  have HM := Lib.hid (hM.later HBW.out)
  have HP := Lib.hid hP
  clear hP hM
  go_enter Try.func17, Try.ntmps17
  go_wp2_with fail
  generalize (w.alloc (.cells #[.slice AG p.gs.length cG, .slice AM p.ms.length cM, .slice AF p.fs.length cF] 50)) = W at *
  refine (refValidP_any p HP.out AG AM AF cG cM cF H W HM.out).mono ?_
  rintro e w1 ⟨rfl, hb1⟩
  obtain ⟨x0, x1, x2⟩ := bd3 ((hb1.block _ (lt_of_block HX.out)).trans HX.out)
  have HM1 := Lib.hid (HM.out.later hb1)
  have HB1 := Lib.hid (below_two HBW.out hb1)
  clear hb1
  by_cases h0 : (Tk.lex (pgText p)).2.2 = 0
  · have HF : Hid (fmtT p = pgText p) := if_pos h0
    rw [decide_eq_true h0]
    clear h0
    go_wp2_with fail
    refine (refProgram_any p HP.out.t AG AM AF cG cM cF H _ HM1.out).mono ?_
    rintro e w2 ⟨rfl, hb2⟩
    have HB2 := Lib.hid (below_two HB1.out hb2)
    clear hb2 x0 x1 x2
    go_wp2_with fail
    go_ret
    exact ⟨by rw [HF.out]; rfl, HB2.out⟩
  · have HF : Hid (fmtT p = []) := if_neg h0
    rw [decide_eq_false h0]
    clear h0
    go_wp2_with fail
    go_ret
    exact ⟨by rw [HF.out]; rfl, HB1.out⟩
end Go.Proofs.Ytlnbmmgbfgmboaa
