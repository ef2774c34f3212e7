/- What the reference's text of a program is. -/
import Derived.Test.YtlnbmmgbfgmboaaRefLinesG
import Derived.Test.YtlnbmmgbfgmboaaQ14
import Derived.Test.YtlnbmmgbfgmboaaQ8
namespace Go.Proofs.Ytlnbmmgbfgmboaa
open Go.RowKit

set_option maxRecDepth 100000 in
set_option maxHeartbeats 8000000 in
theorem refProgram_any (p : Pg) (hT : PgT p) (AG AM AF : Option Addr) (cG cM cF : Nat) (H : Nat → FnG) (w : World) (hM : PgM w p AG AM AF H) :
    Calls Try.prog 30 #[.agg #[.slice AG p.gs.length cG, .slice AM p.ms.length cM, .slice AF p.fs.length cF]] w fun e w' => e = .returned (.string ⟨(pgText p).toArray⟩) ∧ Below w.heap.size w w' := by
  obtain ⟨W, hW⟩ : ∃ W, W = w.alloc (.cells #[.slice AG p.gs.length cG, .slice AM p.ms.length cM, .slice AF p.fs.length cF] 50) := ⟨_, rfl⟩
  have hn1 := heap_alloc_new w (.cells #[.slice AG p.gs.length cG, .slice AM p.ms.length cM, .slice AF p.fs.length cF] 50)
  rw [← hW] at hn1
  have HX := Lib.hid hn1
  have HBW : Hid (Below w.heap.size w W) := by rw [hW]; exact (Below.refl _ _).alloc (Nat.le_refl _) _
  have HM := Lib.hid (hM.later HBW.out)
  have hg := hT.gl
  have hm := hT.ml
  have hf := hT.fl
  have HT := Lib.hid hT
  have HW := Lib.hid hW
  have htt := hT.t
  unfold pgText at htt
  rw [List.length_append, List.length_append] at htt
  have HL1 : Hid (∀ k, (catT glText (p.gs.take k)).length ≤ 1000000000) := fun k => by have h1 := catT_mono glText p.gs k; omega
  have HL2 : Hid (∀ k, (catT glText p.gs ++ catT mxText (p.ms.take k)).length ≤ 1000000000) := fun k => by have h1 := catT_mono mxText p.ms k; rw [List.length_append]; omega
  have HL3 : Hid (∀ k, (catT glText p.gs ++ (catT mxText p.ms ++ catT fnText (p.fs.take k))).length ≤ 1000000000) := fun k => by have h1 := catT_mono fnText p.fs k; rw [List.length_append, List.length_append]; omega
  clear hn1 hM hT hW htt
  have happ := bapp
  go_enter Try.func30, Try.ntmps30
  go_wp2_with fail
  rw [← HW.out]
  clear HW
  go_loopw [3, 4] (fun v i wr => ∃ (k : Nat) (t : List UInt8), k ≤ p.gs.length ∧ i = .int .i64 k ∧ v = .string ⟨t.toArray⟩ ∧ Hid (t = catT glText (p.gs.take k)) ∧ Hid (Below W.heap.size W wr)) (fun _ i _ => p.gs.length - (intOf i).toNat)
  case atStart => exact ⟨0, [], Nat.zero_le _, rfl, rfl, rfl, Below.refl _ _⟩
  case round =>
    obtain ⟨k, t, hk, rfl, rfl, ht, HBk⟩ := hrel
    obtain ⟨x0, -, -, -, hxl⟩ := blk3 ((HBk.out.block _ (lt_of_block HX.out)).trans HX.out)
    by_cases hlt : k < p.gs.length
    · obtain ⟨b, rfl, a0, a1⟩ := (HM.out.later HBk.out).g k hlt
      have HST := Lib.hid (catT_snoc glText p.gs k hlt)
      have HIN := Lib.hid (HT.out.g k hlt)
      have hlen := HL1.out (k + 1)
      rw [HST.out, ← ht.out, glText] at hlen
      generalize p.gs[k] = gl at *
      have i0 : (0 : Int) ≤ (k : Int) := by omega
      have i1 : (k : Int) < (p.gs.length : Int) := by omega
      have dlt : decide ((k : Int) < (p.gs.length : Int)) = true := decide_eq_true (by omega)
      by_cases h0 : gl.init = 0
      · have c0 := nF h0
        have HFT : Hid (glText gl = [118, 97, 114, 32] ++ (gl.name ++ ([] ++ [59, 10]))) := by show _ = _; rw [glText, if_pos h0]
        rw [if_pos h0] at hlen
        simp only [List.length_append, List.length_cons, List.length_nil] at hlen
        clear h0
        go_wp2_with fail
        go_roundw
        case rel =>
          refine ⟨k + 1, t ++ ([118, 97, 114, 32] ++ (gl.name ++ [59, 10])), by omega, by go_num, ?_, ?_, HBk⟩
          · simp
          · show _ = _
            rw [HST.out, HFT.out, ht.out]
            rfl
        case measure => simp [intOf]; omega
      · have c0 := nT h0
        have HFT : Hid (glText gl = [118, 97, 114, 32] ++ (gl.name ++ (([32, 61, 32] ++ numText gl.init) ++ [59, 10]))) := by show _ = _; rw [glText, if_neg h0]
        rw [if_neg h0] at hlen
        simp only [List.length_append, List.length_cons, List.length_nil] at hlen
        clear h0
        go_wp2_with fail
        refine (numberText_any gl.init _ HIN.out.1 HIN.out.2).mono ?_
        rintro e w1 ⟨rfl, hb1⟩
        have HB1 := Lib.hid (below_two HBk.out hb1)
        clear hb1
        generalize numText gl.init = T at *
        go_wp2_with fail
        go_roundw
        case rel =>
          refine ⟨k + 1, t ++ ([118, 97, 114, 32] ++ (gl.name ++ (([32, 61, 32] ++ T) ++ [59, 10]))), by omega, by go_num, ?_, ?_, HB1⟩
          · simp
          · show _ = _
            rw [HST.out, HFT.out, ht.out]
        case measure => simp [intOf]; omega
    · have dlt : decide ((k : Int) < (p.gs.length : Int)) = false := decide_eq_false (by omega)
      have ht0 : Hid (t = catT glText p.gs ++ catT mxText (p.ms.take 0)) := by show _ = _; rw [ht.out, List.take_of_length_le (by omega)]; simp [catT]
      go_wp2_with fail
      clear x0 hxl
      go_loopw [3, 5, 6] (fun v i _ wr => ∃ (k : Nat) (t : List UInt8), k ≤ p.ms.length ∧ i = .int .i64 k ∧ v = .string ⟨t.toArray⟩ ∧ Hid (t = catT glText p.gs ++ catT mxText (p.ms.take k)) ∧ Hid (Below W.heap.size W wr)) (fun _ i _ _ => p.ms.length - (intOf i).toNat)
      case atStart => exact ⟨0, t, Nat.zero_le _, rfl, rfl, ht0, HBk⟩
      case round =>
        clear HBk hlt dlt ht ht0 hk
        obtain ⟨k2, t2, hk2, rfl, rfl, ht, HBk⟩ := hrel
        obtain ⟨-, x1, -, -, hxl⟩ := blk3 ((HBk.out.block _ (lt_of_block HX.out)).trans HX.out)
        by_cases hlt : k2 < p.ms.length
        · obtain ⟨b, rfl, a0, a1, a2⟩ := (HM.out.later HBk.out).m k2 hlt
          have HST := Lib.hid (catT_snoc mxText p.ms k2 hlt)
          have HIN := Lib.hid (HT.out.m k2 hlt)
          have hlen := HL2.out (k2 + 1)
          rw [HST.out, ← List.append_assoc, ← ht.out, mxText] at hlen
          generalize p.ms[k2] = mx at *
          have i0 : (0 : Int) ≤ (k2 : Int) := by omega
          have i1 : (k2 : Int) < (p.ms.length : Int) := by omega
          have dlt : decide ((k2 : Int) < (p.ms.length : Int)) = true := decide_eq_true (by omega)
          cases hre : mx.re
          all_goals
            rw [hre] at a1 hlen
            by_cases h0 : mx.size = 0
            · have d0 : ¬ 0 < mx.size := by omega
              have HFT : Hid (mxText mx = (if mx.re then [114] else []) ++ ([109, 117, 116, 101, 120, 32] ++ (mx.name ++ ([] ++ [59, 10])))) := by show _ = _; rw [mxText, if_pos h0]
              rw [hre] at HFT
              rw [if_pos h0] at hlen
              simp only [List.length_append, List.length_cons, List.length_nil, if_true, Bool.false_eq_true, if_false] at hlen
              clear h0
              go_wp2_with fail
              go_roundw
              case rel =>
                refine ⟨k2 + 1, t2 ++ mxText mx, by omega, by go_num, ?_, ?_, HBk.out.alloc (Nat.le_trans (by simp) HBk.out.size) _⟩
                · rw [HFT.out]; simp
                · show _ = _
                  rw [HST.out, ht.out, List.append_assoc]
              case measure => simp [intOf]; omega
            · have d0 : 0 < mx.size := by omega
              have HFT : Hid (mxText mx = (if mx.re then [114] else []) ++ ([109, 117, 116, 101, 120, 32] ++ (mx.name ++ (([91] ++ (numText (mx.size : Int) ++ [93])) ++ [59, 10])))) := by show _ = _; rw [mxText, if_neg h0]
              rw [hre] at HFT
              rw [if_neg h0] at hlen
              simp only [List.length_append, List.length_cons, List.length_nil, if_true, Bool.false_eq_true, if_false] at hlen
              clear h0
              go_wp2_with fail
              refine (numberText_any (mx.size : Int) _ (by omega) (by have := HIN.out; omega)).mono ?_
              rintro e w1 ⟨rfl, hb1⟩
              have HB1 := Lib.hid (below_two (HBk.out.alloc (Nat.le_trans (by simp) HBk.out.size) _) hb1)
              clear hb1
              generalize numText (mx.size : Int) = T at *
              go_wp2_with fail
              go_roundw
              case rel =>
                refine ⟨k2 + 1, t2 ++ mxText mx, by omega, by go_num, ?_, ?_, HB1⟩
                · rw [HFT.out]; simp
                · show _ = _
                  rw [HST.out, ht.out, List.append_assoc]
              case measure => simp [intOf]; omega
        · have dlt : decide ((k2 : Int) < (p.ms.length : Int)) = false := decide_eq_false (by omega)
          have ht0 : Hid (t2 = catT glText p.gs ++ (catT mxText p.ms ++ catT fnText (p.fs.take 0))) := by show _ = _; rw [ht.out, List.take_of_length_le (by omega)]; simp [catT]
          go_wp2_with fail
          clear x1 hxl
          go_loopw [3, 7, 8, 9] (fun v i _ _ wr => ∃ (k : Nat) (t : List UInt8), k ≤ p.fs.length ∧ i = .int .i64 k ∧ v = .string ⟨t.toArray⟩ ∧ Hid (t = catT glText p.gs ++ (catT mxText p.ms ++ catT fnText (p.fs.take k))) ∧ Hid (Below W.heap.size W wr)) (fun _ i _ _ _ => p.fs.length - (intOf i).toNat)
          case atStart => exact ⟨0, t2, Nat.zero_le _, rfl, rfl, ht0, HBk⟩
          case round =>
            clear HBk hlt dlt ht ht0 hk2
            obtain ⟨k3, t3, hk3, rfl, rfl, ht, HBk⟩ := hrel
            obtain ⟨-, -, x2, -, hxl⟩ := blk3 ((HBk.out.block _ (lt_of_block HX.out)).trans HX.out)
            by_cases hlt : k3 < p.fs.length
            · obtain ⟨b, rfl, a0, a1, a2⟩ := (HM.out.later HBk.out).f k3 hlt
              have HST := Lib.hid (catT_snoc fnText p.fs k3 hlt)
              have HFO := Lib.hid (HT.out.f k3 hlt)
              have HPs := Lib.hid ((HM.out.later HBk.out).ps k3 hlt)
              have HBd := Lib.hid ((HM.out.later HBk.out).bd k3 hlt)
              have hlen := HL3.out (k3 + 1)
              rw [HST.out, ← List.append_assoc, ← List.append_assoc, List.append_assoc (catT glText p.gs), ← ht.out, fnText, fnHead] at hlen
              generalize p.fs[k3] = fn at *
              generalize H k3 = G at *
              have i0 : (0 : Int) ≤ (k3 : Int) := by omega
              have i1 : (k3 : Int) < (p.fs.length : Int) := by omega
              have dlt : decide ((k3 : Int) < (p.fs.length : Int)) = true := decide_eq_true (by omega)
              simp only [List.length_append, List.length_cons, List.length_nil] at hlen
              have hpl := HFO.out.1
              obtain ⟨V, hV⟩ : ∃ V, V = wr.alloc (.cells #[.string ⟨fn.name.toArray⟩, .slice G.A fn.ps.length G.c, .slice G.B fn.body.length G.d] 70) := ⟨_, rfl⟩
              have hf3 := heap_alloc_new wr (.cells #[.string ⟨fn.name.toArray⟩, .slice G.A fn.ps.length G.c, .slice G.B fn.body.length G.d] 70)
              rw [← hV] at hf3
              have HBV : Hid (Below wr.heap.size wr V) := by rw [hV]; exact (Below.refl _ _).alloc (Nat.le_refl _) _
              have HV := Lib.hid hV
              have HF3 := Lib.hid hf3
              clear hV hf3
              go_wp2_with fail
              rw [← HV.out]
              clear HV
              obtain ⟨X, hX⟩ : ∃ X, X = wr.heap.size := ⟨_, rfl⟩
              rw [← hX] at HF3 ⊢
              clear hX x2 hxl a0 a1 a2
              have HPv := Lib.hid (HPs.out.later HBV.out)
              have HBv : Hid (StsM V (fun _ => True) fn.body G.B) := HBd.out.keep fun b _ hl => HBV.out.block b hl
              have HBW3 := Lib.hid (below_two HBk.out HBV.out)
              clear HPs HBd HBV
              go_loopw [3, 9] (fun v i wr => ∃ (q : Nat) (s : List UInt8), q ≤ fn.ps.length ∧ i = .int .i64 q ∧ v = .string ⟨s.toArray⟩ ∧ Hid (s = t3 ++ ([102, 117, 110, 99, 32] ++ (fn.name ++ ([40] ++ pmsPre fn.ps q)))) ∧ Hid (Below V.heap.size V wr)) (fun _ i _ => fn.ps.length - (intOf i).toNat)
              case atStart => exact ⟨0, t3 ++ ([102, 117, 110, 99, 32] ++ (fn.name ++ [40])), Nat.zero_le _, rfl, by simp, by show _ = _; rfl, Below.refl _ _⟩
              case round =>
                clear dlt i0 i1
                obtain ⟨q, s, hq, rfl, rfl, hs, HBq⟩ := hrel
                obtain ⟨-, u1, u2, -, hul⟩ := blk3 ((HBq.out.block _ (lt_of_block HF3.out)).trans HF3.out)
                have hsl : Hid (s.length = t3.length + (5 + (fn.name.length + (1 + (pmsPre fn.ps q).length)))) := by show _ = _; rw [hs.out]; simp; omega
                by_cases hql : q < fn.ps.length
                · obtain ⟨ba, oa, hA, -, m0, m1⟩ := (HPv.out.later HBq.out) q hql
                  rw [hA] at u1
                  have HSP := Lib.hid (pmsPre_succ fn.ps q hql)
                  have hmo := pmsPre_mono fn.ps (q + 1) fn.ps.length hql
                  have hsl' := hsl.out
                  rw [HSP.out, pmText] at hmo
                  simp only [List.length_append] at hmo
                  have HPT : Hid (pmText fn.ps[q] = (if fn.ps[q].m then [109, 117, 116, 101, 120, 32] else []) ++ fn.ps[q].name) := rfl
                  generalize fn.ps[q] = pm at *
                  have i2 : (0 : Int) ≤ (q : Int) := by omega
                  have i3 : (q : Int) < (fn.ps.length : Int) := by omega
                  have djl : decide ((q : Int) < (fn.ps.length : Int)) = true := decide_eq_true (by omega)
                  clear hA u2
                  by_cases hq0 : 0 < q
                  all_goals
                    cases hmm : pm.m
                    all_goals
                      rw [hmm] at m1 HPT hmo
                      have dq : decide ((q : Int) > 0) = decide (0 < q) := by simp
                      simp only [hq0, decide_true, decide_false, if_true, if_false, Bool.false_eq_true, List.length_cons, List.length_nil] at dq hmo HSP HPT
                      have hle : s.length + (2 + (6 + pm.name.length)) ≤ 1000000100 := by omega
                      clear hsl hsl' hmo hlen
                      go_wp2_with fail
                      go_roundw
                      case rel =>
                        refine ⟨q + 1, t3 ++ ([102, 117, 110, 99, 32] ++ (fn.name ++ ([40] ++ pmsPre fn.ps (q + 1)))), by omega, by go_num, ?_, rfl, HBq⟩
                        rw [HSP.out, HPT.out, hs.out]
                        simp
                      case measure => simp [intOf]; omega
                · have djl : decide ((q : Int) < (fn.ps.length : Int)) = false := decide_eq_false (by omega)
                  have hqe : q = fn.ps.length := by omega
                  subst hqe
                  have hsl' := hsl.out
                  clear hsl
                  go_wp2_with fail
                  refine (lines_fuel (SizeOf.sizeOf fn.body + 1) fn.body G.B G.d [9] _ (Nat.lt_succ_self _) (HBv.out.keep fun b _ hl => HBq.out.block b hl) HFO.out.2 (by omega)).mono ?_
                  rintro e w1 ⟨rfl, hb1⟩
                  have HB1 := Lib.hid (below_two HBW3.out (below_two HBq.out hb1))
                  clear hb1
                  have HFT : Hid (fnText fn = [102, 117, 110, 99, 32] ++ (fn.name ++ ([40] ++ pmsPre fn.ps fn.ps.length)) ++ ([41, 32, 123, 10] ++ (linesText fn.body [9] ++ [125, 10]))) := rfl
                  generalize linesText fn.body [9] = T at *
                  go_wp2_with fail
                  go_roundw
                  case rel =>
                    refine ⟨k3 + 1, t3 ++ fnText fn, by omega, by go_num, ?_, ?_, HB1⟩
                    · rw [HFT.out, hs.out]; simp
                    · show _ = _
                      rw [HST.out, ht.out]
                      simp
                  case measure => simp [intOf]; omega
            · have dlt : decide ((k3 : Int) < (p.fs.length : Int)) = false := decide_eq_false (by omega)
              have ht0 : Hid (t3 = pgText p) := by show _ = _; rw [ht.out, List.take_of_length_le (by omega)]; rfl
              go_wp2_with fail
              go_ret
              exact ⟨by rw [ht0.out]; rfl, below_two HBW.out HBk.out⟩
end Go.Proofs.Ytlnbmmgbfgmboaa
