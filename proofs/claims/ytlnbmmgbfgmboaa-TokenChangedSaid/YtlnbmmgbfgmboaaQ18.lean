/- The bytes that TokenSpace puts together, and its Source, in memory. No statement of the program is proved in this file. What TokenSpace answers, given what Program of the made inputs returns. What TokenText, TokenChanged and TokenSpace answer: true. -/
import Derived.Test.YtlnbmmgbfgmboaaQ8
import Derived.Test.YtlnbmmgbfgmboaaQ2
import Derived.Test.YtlnbmmgbfgmboaaQ5
import Derived.Test.YtlnbmmgbfgmboaaSrcExprG
import Derived.Lib.AppendStr
import Derived.Test.YtlnbmmgbfgmboaaQ16
import Derived.Test.YtlnbmmgbfgmboaaQ17
import Derived.Test.YtlnbmmgbfgmboaaMdPgMG
namespace Go.Proofs.Ytlnbmmgbfgmboaa
open Go.RowKit

theorem ownsRow_keepS {w w' : World} {B : Nat} {t : TypeId} {sz n : Nat} {v : Value} {cs : List Value} (h : w.ownsRow B t sz v n cs) (hk : ∀ b, B ≤ b → b < w.heap.size → v.ownBlock = some b → w'.heap[b]? = w.heap[b]?) : w'.ownsRow B t sz v n cs := by
  refine ⟨h.1, ?_⟩
  rcases h.2 with h0 | ⟨g, cap, cur, e, hg, hb, r⟩
  · exact .inl h0
  · exact .inr ⟨g, cap, cur, e, hg, (hk g hg (lt_of_block hb) (by rw [e]; rfl)).trans hb, r⟩
def byC (l : List UInt8) : List Value := l.map fun c => Value.int .u8 (c.toNat : Int)
theorem byC_str (s : List UInt8) : Lib.strCells ⟨s.toArray⟩ = byC s := by simp [Lib.strCells, byC]
theorem byC_app (a b : List UInt8) : byC (a ++ b) = byC a ++ byC b := by simp [byC]
theorem Try.infoU8 : (Try.prog.info? 5).map (fun i => (i.zero, i.size, i.bytes)) = some (some (.int .u8 0), 1, 1) := by kernel_rfl
theorem srcNew {w : World} {A : Option Addr} {xs : List Int} {cap : Nat} (hR : IntR w A xs) (hx : xs.length ≤ 1000) : Src (w.alloc (.cells #[.slice A xs.length cap, .int .i64 0] 39)) w.heap.size xs 0 := by
  refine ⟨A, cap, heap_alloc_new w _, by omega, hx, fun k hkk => ?_⟩
  obtain ⟨b, off, e, hc, r⟩ := hR k hkk
  have hbl : b < w.heap.size := World.block_lt_of_cell? _ _ hc
  exact ⟨b, off, e, by omega, (World.cell?_of_block (Below.heap_alloc w _ b hbl)).trans hc, r⟩
/-- the Source in block g, the bytes in a row behind it -/
structure SpR (w : World) (g : Nat) (ys : List Int) (v : Value) (acc : List UInt8) (j : Nat) (wr : World) : Prop where
  s : Src wr g ys j
  o : wr.ownsRow (g + 1) 5 1 v acc.length (byC acc)
  b : Below w.heap.size w wr
  lo : w.heap.size ≤ g
  hg : g + 1 ≤ wr.heap.size
theorem SpR.next {w wr w' : World} {g : Nat} {ys : List Int} {v : Value} {acc : List UInt8} {j j' : Nat} (h : SpR w g ys v acc j wr) (hs : Src w' g ys j') (hG : wr.grownBy w' (some g)) : SpR w g ys v acc j' w' := by
  have hk : ∀ b, b < wr.heap.size → b ≠ g → w'.heap[b]? = wr.heap[b]? := fun b hb hn => hG.block b hb fun e => by injection e with e; exact hn e
  exact ⟨hs, ownsRow_keepS h.o fun b hb hl _ => hk b hl (by omega), ⟨hG.os.trans h.b.os, hG.tape.trans h.b.tape, hG.output.trans h.b.output, by have := h.b.size; have := hG.size; omega, fun b hb => (hk b (by have := h.b.size; omega) (by have := h.lo; omega)).trans (h.b.block b hb)⟩, h.lo, by have := h.hg; have := hG.size; omega⟩
theorem SpR.alloc {w wr : World} {g : Nat} {ys : List Int} {v : Value} {acc : List UInt8} {j : Nat} (h : SpR w g ys v acc j wr) (o : Obj) : SpR w g ys v acc j (wr.alloc o) := by
  have hg := h.hg
  exact ⟨h.s.keep fun b hb => Below.heap_alloc wr o b (by omega), h.o.alloc o, h.b.alloc h.b.size o, h.lo, by simp; omega⟩
theorem SpR.app {w wr w' : World} {g : Nat} {ys : List Int} {v v' : Value} {acc : List UInt8} {j : Nat} (h : SpR w g ys v acc j wr) (s : List UInt8)
    (ho : w'.ownsRow (g + 1) 5 1 v' (acc.length + (⟨s.toArray⟩ : ByteArray).size) (byC acc ++ Lib.strCells ⟨s.toArray⟩)) (hG : wr.grownBy w' v.ownBlock) : SpR w g ys v' (acc ++ s) j w' := by
  have hg := h.hg
  have hov : ∀ b, v.ownBlock = some b → g + 1 ≤ b ∧ b < wr.heap.size := fun b hb => h.o.lt b hb
  have hlow : ∀ b, b < g + 1 → w'.heap[b]? = wr.heap[b]? := fun b hb => hG.block b (by omega) fun e => by have := (hov b e.symm).1; omega
  refine ⟨h.s.keep fun b hb => hlow b (by omega), ?_, ⟨hG.os.trans h.b.os, hG.tape.trans h.b.tape, hG.output.trans h.b.output, by have := h.b.size; have := hG.size; omega, fun b hb => (hlow b (by have := h.lo; omega)).trans (h.b.block b hb)⟩, h.lo, by have := hG.size; omega⟩
  rw [byC_str, ← byC_app] at ho
  rw [List.length_append]
  have hs : (⟨s.toArray⟩ : ByteArray).size = s.length := by simp [ByteArray.size]
  rw [hs] at ho
  exact ho
theorem SpR.byt {w wr : World} {g : Nat} {ys : List Int} {A : Option Addr} {n c : Nat} {acc : List UInt8} {j : Nat} (h : SpR w g ys (.slice A n c) acc j wr) (hn : n = acc.length) : Byt wr A acc ∧ acc.length ≤ c := by
  subst hn
  have h0 := h.o
  have h' := h0
  obtain ⟨_, h2⟩ := h'
  rcases h2 with ⟨e, hz⟩ | ⟨g', cap, cur, e, _, _, hcap, _⟩
  · injection e with _ _ e3
    subst e3
    exact ⟨fun i hi => absurd hi (by omega), by omega⟩
  · injection e with e1 _ e3
    subst e1 e3
    refine ⟨fun i hi => ⟨g', 0, rfl, ?_⟩, hcap⟩
    rw [Nat.zero_add, World.ownsRow.cellAt h0 i (by omega)]
    simp [byC, List.getElem?_eq_getElem hi]
end Go.Proofs.Ytlnbmmgbfgmboaa

namespace Go.Proofs.Ytlnbmmgbfgmboaa
open Go.RowKit

theorem sep5_at (w : World) (q : Nat) (hq : q < 5) : (w.alloc (.cells #[.string ⟨#[32]⟩, .string ⟨#[10]⟩, .string ⟨#[9, 13, 32]⟩, .string ⟨#[32, 47, 47, 32, 118, 97, 114, 32, 120, 32, 40, 10]⟩, .string ⟨#[32, 32, 47, 47, 10, 47, 47, 10]⟩] 9)).cell? ⟨w.heap.size, q, none⟩ = some (.string ⟨(sep5 q).toArray⟩) := by
  rw [World.cell?_alloc_mark]
  have hc : q = 0 ∨ q = 1 ∨ q = 2 ∨ q = 3 ∨ q = 4 := by omega
  rcases hc with rfl | rfl | rfl | rfl | rfl <;> rfl

set_option maxRecDepth 100000 in
set_option maxHeartbeats 8000000 in
theorem tokenSpace_of (xs ys : List Int) (hC : ProgC xs) (A A' : Option Addr) (cap cap' : Nat) (w : World) (hR : IntR w A xs) (hR' : IntR w A' ys) (hc : xs.length ≤ cap) (hm : xs.length ≤ 9223372036854775807) (hc' : ys.length ≤ cap') (hm' : ys.length ≤ 9223372036854775807) :
    Calls Try.prog 5 #[.slice A xs.length cap, .slice A' ys.length cap'] w fun e w' => e = .returned (.bool true) ∧ Below w.heap.size w w' := by
  obtain ⟨i0, hi, hz0, hz1, hz2⟩ := info_parts Try.infoU8
  have HTX := Lib.hid (mtext_of xs hC A cap w hR hc hm)
  have HY := Lib.hid hR'
  clear hC hR hR' hc hm
  go_enter Try.func5, Try.ntmps5
  go_wp2_with fail
  refine HTX.out.mono ?_
  rintro e w1 ⟨P, hP, rfl, hb1⟩
  have HB1 := Lib.hid hb1
  have hl0 := fmtT_len hP
  have hx0 := @fmtT_lex P
  have hN1 := lex_len (fmtT P)
  have HSP : Hid (∀ ps : List (Tk.Tok × Nat), ps.map (·.1) = (Tk.lex (fmtT P)).1 → (bld ps).length ≤ 262144 ∧ (Tk.lex (bld ps)).2.2 = 0 ∧ SameT false (Tk.lex (fmtT P)).1 (Tk.lex (bld ps)).1) := fun ps hp => sp_lex (fmtT P) hx0 hl0 ps hp
  have HSL : Hid (sumLen (Tk.lex (fmtT P)).1 ≤ 101000) := Nat.le_trans (lex_sum _) hl0
  clear hP hb1 HTX
  generalize fmtT P = L at *
  obtain ⟨c1, W1, hcv1, hB1, hc1, hb2⟩ := conv_bytes L w1
  have HL := Lib.hid (refLex_any L (some ⟨w1.heap.size, 0, none⟩) c1 W1 hB1 (by omega) hc1)
  have HB2 := Lib.hid (below_two HB1.out hb2)
  have HX0 := Lib.hid hx0
  clear hB1 hc1 hb2 hx0
  go_wp2_with fail
  refine HL.out.mono ?_
  intro e w2 hp
  obtain ⟨A2, c2, rfl, hT, hb3⟩ := lexPost_open hp
  rw [HX0.out]
  have HT := Lib.hid hT
  have HB3 := Lib.hid (below_two HB2.out hb3)
  clear hp hb3 hcv1 hT HL HX0
  generalize (Tk.lex L).2.1 = n0 at *
  generalize (Tk.lex L).1 = ts at *
  go_wp2_with fail
  refine (cutN_any 200 (by omega) ys A' cap' w2 (HY.out.later HB3.out) hc' hm').mono ?_
  rintro e w2' ⟨rfl, hw2⟩
  subst hw2
  have hzl : (ys.take 200).length ≤ 200 := by simp; omega
  have HZ := Lib.hid ((HY.out.later HB3.out).take 200)
  generalize ys.take 200 = zs at *
  go_wp2_with fail
  have hS0 : SpR w2 w2.heap.size zs (.slice none 0 0) [] 0 (w2.alloc (.cells #[.slice A' zs.length cap', .int .i64 0] 39)) :=
    ⟨srcNew HZ.out (by omega), World.ownsRow_nil _ _ _ _, (Below.refl _ _).alloc (Nat.le_refl _) _, Nat.le_refl _, by simp⟩
  have HS0 := Lib.hid hS0
  clear hS0
  generalize w2.alloc (.cells #[.slice A' zs.length cap', .int .i64 0] 39) = W3 at *
  obtain ⟨g, hg⟩ : ∃ g, g = w2.heap.size := ⟨_, rfl⟩
  have HG := Lib.hid hg
  rw [← hg] at HS0 ⊢
  clear hg
  obtain ⟨n, hn⟩ : ∃ n, n = ts.length := ⟨_, rfl⟩
  rw [← hn] at hN1 ⊢
  have HN := Lib.hid hn
  clear hn
  go_loopw [9, 10] (fun v i wr => ∃ (k j : Nat) (ps : List (Tk.Tok × Nat)), k ≤ n ∧ i = .int .i64 (k : Int) ∧ ps.length = k ∧ Hid (ps.map (·.1) = ts.take k) ∧ Hid (SpR w2 g zs v (bld ps) j wr)) (fun _ i _ => n - (intOf i).toNat)
  case atStart => exact ⟨0, 0, [], by omega, rfl, rfl, rfl, HS0⟩
  case round =>
    obtain ⟨k, j, ps, hk, rfl, hpl, hP, hS⟩ := hrel
    have hbl : (bld ps).length ≤ 101000 + 12 * k := by
      have h1 := bld_len ps
      have h2 : sumLen (ps.map (·.1)) ≤ 101000 := by
        rw [hP.out]
        exact Nat.le_trans (sumLen_take ts k) HSL.out
      omega
    obtain ⟨sa, sc, rfl⟩ := owns_form hS.out.o
    by_cases hlt : k < n
    · have hlt' : k < ts.length := by have := HN.out; omega
      obtain ⟨b, rfl, -, c1x, -, -⟩ := (HT.out.later hS.out.b) k hlt'
      have htl : ts[k].text.length ≤ 101000 := by
        exact Nat.le_trans (sumLen_mem ts _ (List.getElem_mem hlt')) HSL.out
      have HP1 : Hid ((ps ++ [(ts[k], nextV zs j 5)]).map (·.1) = ts.take (k + 1)) := by
        show _ = _
        rw [List.map_append, hP.out, ← List.take_append_getElem hlt']
        rfl
      have HBS : Hid (∀ q, bld (ps ++ [(ts[k], q)]) = (bld ps ++ ts[k].text) ++ sep5 q) := fun q => bld_snoc ps ts[k] q
      have hq := nextV_lt zs j 5 (by omega)
      obtain ⟨ln, hln⟩ : ∃ ln, ln = (bld ps).length := ⟨_, rfl⟩
      have HLN := Lib.hid hln
      rw [← hln] at hbl ⊢
      clear hln
      have i0x : (0 : Int) ≤ (k : Int) := by omega
      have i1x : (k : Int) < (n : Int) := by omega
      have HTX : Hid (ts[k].text.length ≤ 101000) := htl
      generalize ts[k].text = tx at *
      have hsz : (⟨tx.toArray⟩ : ByteArray).size = tx.length := by simp [ByteArray.size]
      have HSZ := Lib.hid hsz
      clear hsz hP
      go_wp2_with (first | (at_builtin; refine Lib.wpList_append_own_string _ rfl (.tmp 32) (.tmp 37) 23 9 rfl (g + 1) 5 i0 Try.underlying23 Try.underlying9 hi hz0 hz1 hz2 (.slice sa ln sc) ln (byC (bld ps)) rfl (by rw [HLN.out]; exact hS.out.o) ⟨tx.toArray⟩ rfl (by rw [HSZ.out]; unfold maxLen; omega) (by rw [HSZ.out]; omega) hS.out.hg ?_))
      intro v1 w4 hown4 hgrow4 _
      rw [HLN.out] at hown4
      have hS1 := hS.out.app tx hown4 (by rw [← HLN.out]; exact hgrow4)
      have HS1 := Lib.hid hS1
      clear hown4 hgrow4 hS1
      obtain ⟨sa1, sc1, rfl⟩ := owns_form HS1.out.o
      go_wp2_with fail
      refine (next_any _ g zs j 5 (HS1.out.alloc _).s (by omega) (by omega)).mono ?_
      rintro e w5 ⟨rfl, hS5, hG5⟩
      rw [show (5 : Int).toNat = 5 from rfl]
      have hg4 := HS1.out.hg
      have hcs : w5.cell? ⟨w4.heap.size, nextV zs j 5, none⟩ = some (.string ⟨(sep5 (nextV zs j 5)).toArray⟩) := (World.cell?_of_block (a := ⟨w4.heap.size, nextV zs j 5, none⟩) (hG5.block _ (by simp) (fun e => by injection e with e; have e' : w4.heap.size = g := e; omega))).trans (sep5_at w4 _ hq)
      have HS2 := Lib.hid ((HS1.out.alloc _).next hS5 hG5)
      clear hS5 hG5
      have h12 := (sep5_ok (nextV zs j 5)).2.2
      generalize nextV zs j 5 = q at *
      generalize nextI zs j = j5 at *
      have HB5 := Lib.hid (HBS.out q)
      have i2x : (0 : Int) ≤ (q : Int) := by omega
      have i3x : (q : Int) < 5 := by omega
      generalize sep5 q = sp at *
      have HSZ2 : Hid ((⟨sp.toArray⟩ : ByteArray).size = sp.length) := by show _ = _; simp [ByteArray.size]
      have HL2 : Hid ((bld ps ++ tx).length = ln + tx.length) := by show _ = _; rw [List.length_append, HLN.out]
      rw [HL2.out]
      go_wp2_with (first | (at_builtin; refine Lib.wpList_append_own_string _ rfl (.tmp 38) (.tmp 43) 23 9 rfl (g + 1) 5 i0 Try.underlying23 Try.underlying9 hi hz0 hz1 hz2 (.slice sa1 (ln + tx.length) sc1) (ln + tx.length) (byC (bld ps ++ tx)) rfl (by rw [← HL2.out]; exact HS2.out.o) ⟨sp.toArray⟩ rfl (by rw [HSZ2.out]; have := HTX.out; unfold maxLen; omega) (by rw [HSZ2.out]; have := HTX.out; omega) HS2.out.hg ?_))
      intro v2 w6 hown6 hgrow6 _
      rw [← HL2.out] at hown6
      have HS3 := Lib.hid (HS2.out.app sp hown6 (by rw [HL2.out]; exact hgrow6))
      clear hown6 hgrow6
      go_wp2_with fail
      go_roundw
      case rel => exact ⟨k + 1, j5, ps ++ [(ts[k], q)], by omega, by go_num, by simp [hpl], HP1, by rw [HB5.out]; exact HS3.out⟩
      case measure => simp [intOf]; omega
    · have hke : k = n := by omega
      subst hke
      have hpm : ps.map (·.1) = ts := by
        rw [hP.out, HN.out, List.take_length]
      obtain ⟨s1, s2, s3⟩ := HSP.out ps hpm
      obtain ⟨hByt, hcp⟩ := hS.out.byt rfl
      have HL := Lib.hid (lex_any (bld ps) sa sc wr hByt s1 hcp)
      have HS2 := Lib.hid s2
      have HS3 := Lib.hid s3
      have HB4 := Lib.hid (below_two HB3.out hS.out.b)
      have HT4 := Lib.hid (HT.out.later hS.out.b)
      have HNN := Lib.hid HN.out
      clear hByt hcp s1 s2 s3 hP hS HS0 HT HZ
      generalize bld ps = M at *
      go_wp2_with fail
      refine HL.out.mono ?_
      intro e w6 hp
      obtain ⟨A4, c4, rfl, hU, hb8⟩ := lexPost_open hp
      rw [HS2.out]
      have HU := Lib.hid hU
      have HT8 := Lib.hid (HT4.out.later hb8)
      have HB8 := Lib.hid (below_two HB4.out hb8)
      clear hp hU hb8
      have HSA := Lib.hid (same_any false ts (Tk.lex M).1 A2 A4 c2 c4 w6 HT8.out HU.out HS3.out (by have := HNN.out; omega))
      rw [← HNN.out] at HSA
      go_wp2_with fail
      refine HSA.out.mono ?_
      rintro e w7 ⟨rfl, hb9⟩
      have HB9 := Lib.hid (below_two HB8.out hb9)
      clear hb9
      go_wp2_with fail
      refine (awake_any _).mono ?_
      rintro e w8 ⟨rfl, hb10⟩
      have HB10 := Lib.hid (below_two HB9.out hb10)
      clear hb10
      go_wp2_with fail
      go_ret
      exact ⟨rfl, HB10.out⟩
end Go.Proofs.Ytlnbmmgbfgmboaa

namespace Go.Proofs.Ytlnbmmgbfgmboaa
open Go.RowKit

theorem tokenTextC_any (xs : List Int) (A : Option Addr) (cap : Nat) (w : World) (hR : IntR w A xs) (hc : xs.length ≤ cap) (hm : xs.length ≤ 9223372036854775807) :
    Calls Try.prog 4 #[.slice A xs.length cap] w fun e w' => e = .returned (.bool true) ∧ Below w.heap.size w w' := tokenText_of xs (wprogram_any xs) A cap w hR hc hm
theorem tokenChangedC_any (xs ys : List Int) (bs : List UInt8) (A A' B : Option Addr) (cap cap' cap2 : Nat) (w : World) (hR : IntR w A xs) (hR' : IntR w A' ys) (hB : Byt w B bs) (hc : xs.length ≤ cap) (hm : xs.length ≤ 9223372036854775807) (hm' : ys.length ≤ 9223372036854775807) (hmb : bs.length ≤ 9223372036854775807) :
    Calls Try.prog 3 #[.slice A xs.length cap, .slice A' ys.length cap', .slice B bs.length cap2] w fun e w' => e = .returned (.bool true) ∧ Below w.heap.size w w' := tokenChanged_of xs ys bs (wprogram_any xs) A A' B cap cap' cap2 w hR hR' hB hc hm hm' hmb
theorem tokenSpaceC_any (xs ys : List Int) (A A' : Option Addr) (cap cap' : Nat) (w : World) (hR : IntR w A xs) (hR' : IntR w A' ys) (hc : xs.length ≤ cap) (hm : xs.length ≤ 9223372036854775807) (hc' : ys.length ≤ cap') (hm' : ys.length ≤ 9223372036854775807) :
    Calls Try.prog 5 #[.slice A xs.length cap, .slice A' ys.length cap'] w fun e w' => e = .returned (.bool true) ∧ Below w.heap.size w w' := tokenSpace_of xs ys (wprogram_any xs) A A' cap cap' w hR hR' hc hm hc' hm'
end Go.Proofs.Ytlnbmmgbfgmboaa
