/- The walk of ExprDeep: true for all arguments. -/
import Derived.Test.YtbaenhcmkigfcaaDoorLw2SameG
import Derived.Test.YtbaenhcmkigfcaaDoorGJoin
import Derived.Test.YtbaenhcmkigfcaaDoorDpSpecG
namespace Go.Proofs.YtbaenhcmkigfcaaDoor
open Go.RowKit

set_option maxHeartbeats 1000000 in
theorem cut40_any (xs : List Int) (A : Option Addr) (cap : Nat) (w : World) (hR : IntR w A xs) (hc : xs.length ≤ cap) (hm : xs.length ≤ 9223372036854775807) :
    Calls Tryd.prog 14 #[.slice A xs.length cap, .int .i64 40] w fun e w' => e = .returned (.slice A (xs.take 40).length cap) ∧ w = w' := by
  by_cases h : 40 < xs.length
  · obtain ⟨b, off, rfl, -⟩ := hR 0 (by omega)
    have HL : Hid ((xs.take 40).length = 40) := by show _ = _; simp; omega
    have hcap : 40 ≤ cap := by omega
    clear hR
    go_enter Tryd.func14, Tryd.ntmps14
    go_wp2
    go_ret
    exact ⟨by rw [HL.out]; rfl, rfl⟩
  · have HL : Hid ((xs.take 40).length = xs.length) := by show _ = _; simp; omega
    clear hR
    go_enter Tryd.func14, Tryd.ntmps14
    go_wp2
    go_ret
    exact ⟨by rw [HL.out]; rfl, rfl⟩
theorem src_one {w : World} {A : Option Addr} {xs : List Int} {cap : Nat} (hR : IntR w A xs) (hx : xs.length ≤ 1000) :
    Src (w.alloc (.cells #[.slice A xs.length cap, .int .i64 0] 34)) w.heap.size xs 0 := by
  refine ⟨A, cap, heap_alloc_new w _, by omega, hx, fun k hkk => ?_⟩
  obtain ⟨b, off, e, hc, r⟩ := hR k hkk
  have hbl : b < w.heap.size := World.block_lt_of_cell? _ _ hc
  exact ⟨b, off, e, hbl, (World.cell?_of_block (Below.heap_alloc w _ b hbl)).trans hc, r⟩
/-- the text that has been put together so far -/
def DpRel (w : World) (ys : List Int) (W0 : World) (fs bk : List UInt8) (wr : World) : Prop :=
  bk = List.replicate (fs.count 40) 41 ∧ DpF fs ∧ (∃ i, Src wr w.heap.size ys i) ∧ W0.grownBy wr (some w.heap.size)
theorem dpF_snoc {fs : List UInt8} (h : DpF fs) (b : UInt8) (hb : b = 40 ∨ b = 45 ∨ b = 33) : DpF (fs ++ [b]) := by
  intro c hc
  rcases List.mem_append.1 hc with h1 | h1
  · exact h c h1
  · rw [List.mem_singleton.1 h1]
    exact hb
theorem dp_txt_bk {fs bk : List UInt8} (h : bk = List.replicate (fs.count 40) 41) : fs ++ 97 :: bk = dpTxt fs := by rw [h]; rfl
theorem dp_txok (fs : List UInt8) : TxOk (dpTs fs) := by
  intro k
  unfold Ps.textAt dpTs
  rcases Nat.lt_or_ge k (dpTxt fs).length with h1 | h1
  · rw [List.getElem?_append_left (by rw [dpToks_len]; exact h1), dpToks_at _ k h1]
    dsimp only
    rw [dpTok_len]
    omega
  · rw [List.getElem?_append_right (by rw [dpToks_len]; exact h1)]
    rcases Nat.eq_or_lt_of_le h1 with h2 | h2
    · rw [← h2, dpToks_len, Nat.sub_self]
      show ([] : List UInt8).length ≤ 1000000
      simp
    · rw [List.getElem?_eq_none (by rw [dpToks_len]; simp; omega)]
      simp

set_option maxRecDepth 100000 in
set_option maxHeartbeats 4000000 in
theorem exprDeep_any (x : Int) (xs : List Int) (A : Option Addr) (cap : Nat) (w : World) (hx : -9223372036854775808 ≤ x ∧ x ≤ 9223372036854775807) (hR : IntR w A xs) (hc : xs.length ≤ cap) (hm : xs.length ≤ 9223372036854775807) (hS : SgT w) :
    Calls Tryd.prog 4 #[.int .i64 x, .slice A xs.length cap] w fun e w' => e = .returned (.bool true) ∧ Below w.heap.size w w' := by
  have HX := Lib.hid hx
  have HCUT := Lib.hid (cut40_any xs A cap w hR hc hm)
  have hR2 : IntR w A (xs.take 40) := fun i hi => by
    have h1 : i < xs.length := by simp at hi; omega
    obtain ⟨b, off, e, h2, r⟩ := hR i h1
    exact ⟨b, off, e, by simpa using h2, by simpa using r⟩
  have hx40 : (xs.take 40).length ≤ 1000 := by simp; omega
  have HS := Lib.hid hS
  clear hR hc hm hx hS
  generalize xs.take 40 = ys at *
  have HSRC := Lib.hid (src_one (cap := cap) hR2 hx40)
  have HB0 : Hid (Below w.heap.size w (w.alloc (.cells #[.slice A ys.length cap, .int .i64 0] 34))) := (Below.refl _ _).alloc (Nat.le_refl _) _
  clear hR2
  go_enter Tryd.func4, Tryd.ntmps4
  go_wp2_with fail
  refine (within_big x 8 w HX.out (by omega) (by omega)).mono ?_
  rintro e w' ⟨rfl, rfl⟩
  rw [show (8 : Int).toNat = 8 from rfl]
  have hq := within_lt x 8 (by omega)
  generalize within x 8 = q at *
  go_wp2_with fail
  refine HCUT.out.mono ?_
  rintro e w' ⟨rfl, rfl⟩
  clear HCUT
  go_wp2_with fail
  obtain ⟨W0, hW0⟩ : ∃ W0, W0 = w.alloc (.cells #[.slice A ys.length cap, .int .i64 0] 34) := ⟨_, rfl⟩
  rw [← hW0] at HSRC HB0 ⊢
  have HW0 : Hid (w.heap.size < W0.heap.size) := by rw [hW0]; show _ < _; simp
  clear hW0
  go_loopw [6, 7, 8] (fun f b i wr => ∃ (fs bk : List UInt8), fs.length ≤ 20 + q ∧ bk.length ≤ 20 + q ∧ f = .string ⟨fs.toArray⟩ ∧ b = .string ⟨bk.toArray⟩ ∧ i = .int .i64 (fs.length : Int) ∧ Hid (DpRel w ys W0 fs bk wr)) (fun _ _ i _ => 20 + q - (intOf i).toNat)
  case atStart => exact ⟨[], [], by simp, by simp, rfl, rfl, rfl, ⟨rfl, fun b h => absurd h (by simp), ⟨0, HSRC.out⟩, ⟨rfl, rfl, rfl, Nat.le_refl _, fun _ _ _ => rfl⟩⟩⟩
  case round =>
    obtain ⟨fs, bk, hfl, hbl, rfl, rfl, rfl, hrel⟩ := hrel
    obtain ⟨hbk, hF, ⟨idx, hsrc⟩, hG⟩ := hrel.out
    clear hrel
    have HBK := Lib.hid hbk
    have HF := Lib.hid hF
    have HSR := Lib.hid hsrc
    have HG := Lib.hid hG
    clear hbk hF hsrc hG
    by_cases hlt : fs.length < 20 + q
    · have happ := bapp
      have HBL : Hid (bk.length ≤ fs.length) := by
        rw [HBK.out, List.length_replicate]
        exact List.count_le_length
      have dlt : decide ((fs.length : Int) < 20 + (q : Int)) = true := decide_eq_true (by omega)
      go_wp2_with fail
      refine (next_any wr w.heap.size ys idx 3 HSR.out (by omega) (by omega)).mono ?_
      rintro e w1 ⟨rfl, hS1, hG1⟩
      rw [show (3 : Int).toNat = 3 from rfl]
      have HS1 := Lib.hid hS1
      have HG1 := Lib.hid (grown_trans HG.out hG1)
      clear hS1 hG1
      have hv3 := nextV_lt ys idx 3 (by omega)
      generalize nextV ys idx 3 = v at *
      have hv : v = 0 ∨ v = 1 ∨ v = 2 := by omega
      rcases hv with hv | hv | hv
      · have t0 := bT (show ((v : Nat) : Int) = 0 by omega)
        clear hv
        go_wp2_with fail
        go_roundw
        case rel =>
          refine ⟨fs ++ [40], 41 :: bk, by simp; omega, by simp; have := HBL.out; omega, rfl, rfl, by rw [List.length_append]; go_num, ?_⟩
          refine ⟨?_, dpF_snoc HF.out 40 (by decide), ⟨_, HS1.out⟩, HG1.out⟩
          rw [HBK.out, List.count_append]; rfl
        case measure => simp [intOf]; omega
      · have t0 := bF (show ((v : Nat) : Int) ≠ 0 by omega)
        have t1 := bT (show ((v : Nat) : Int) = 1 by omega)
        clear hv
        go_wp2_with fail
        go_roundw
        case rel =>
          refine ⟨fs ++ [45], bk, by simp; omega, by omega, rfl, rfl, by rw [List.length_append]; go_num, ?_⟩
          refine ⟨?_, dpF_snoc HF.out 45 (by decide), ⟨_, HS1.out⟩, HG1.out⟩
          rw [HBK.out, List.count_append]; rfl
        case measure => simp [intOf]; omega
      · have t0 := bF (show ((v : Nat) : Int) ≠ 0 by omega)
        have t1 := bF (show ((v : Nat) : Int) ≠ 1 by omega)
        clear hv
        go_wp2_with fail
        go_roundw
        case rel =>
          refine ⟨fs ++ [33], bk, by simp; omega, by omega, rfl, rfl, by rw [List.length_append]; go_num, ?_⟩
          refine ⟨?_, dpF_snoc HF.out 33 (by decide), ⟨_, HS1.out⟩, HG1.out⟩
          rw [HBK.out, List.count_append]; rfl
        case measure => simp [intOf]; omega
    · have happ := bapp
      have dlt : decide ((fs.length : Int) < 20 + (q : Int)) = false := decide_eq_false (by omega)
      have hfe : fs.length = 20 + q := by omega
      have hTX := dp_txt_bk HBK.out
      have hlx := dpTs_lex HF.out (by omega)
      have hpv := dp_parse fs HF.out
      have hlen := dpTs_len fs
      have hcl := List.count_le_length (a := (40 : UInt8)) (l := fs)
      have HBW : Hid (Below w.heap.size w wr) := by
        have h0 := HB0.out
        have hG := HG.out
        exact ⟨hG.os.trans h0.os, hG.tape.trans h0.tape, hG.output.trans h0.output, Nat.le_trans h0.size hG.size, fun b hb => (hG.block b (by have := HW0.out; omega) (fun e => by injection e with e; omega)).trans (h0.block b hb)⟩
      have HWO := Lib.hid (dp_wok fs)
      have HTO := Lib.hid (dp_txok fs)
      have hTl : (fs ++ 97 :: bk).length ≤ 262144 := by simp; omega
      rw [← hTX] at hlx
      have HLX := Lib.hid hlx
      have HPV := Lib.hid hpv
      have HLN : Hid ((dpTs fs).length ≤ 1000000) := by rw [hlen]; show _ ≤ _; omega
      clear hlx hpv hlen hcl hTX
      generalize dpTs fs = ts at *
      go_wp2_with fail
      refine (tokens_any (fs ++ 97 :: bk) wr hTl).mono ?_
      rw [HLX.out]
      rintro e w1 ⟨TA, tc, rfl, hT, hb1⟩
      have HT := Lib.hid hT
      have HB1 := Lib.hid (below_rev' hb1 HBW.out)
      clear hT hb1
      go_wp2_with fail
      refine (parse_any ts TA tc 0 w1 HT.out (HS.out.later HB1.out) HLN.out (by omega)).mono ?_
      rintro e w2 ⟨f, rfl, hM, hb2⟩
      rw [HPV.out]
      generalize (parseV ts 0).2.1 = n0 at *
      unfold EF.val
      dsimp only
      have HB2 := Lib.hid (below_rev' hb2 HB1.out)
      have HT2 := Lib.hid (HT.out.later hb2)
      clear hM hb2
      by_cases h24 : fs.length ≤ 24
      · rw [if_pos h24]
        have d24 : decide (20 + (q : Int) ≤ 24) = true := decide_eq_true (by omega)
        have t0 := bT (show (((0 : Nat) : Nat) : Int) = 0 from rfl)
        clear h24
        go_wp2_with fail
        refine (sameL_any ts TA tc 0 _ (HT2.out.later ((Below.refl _ _).alloc (Nat.le_refl _) _)) (HS.out.later (HB2.out.alloc HB2.out.size _)) HLN.out (by omega) HWO.out HTO.out).mono ?_
        rintro e w3 ⟨rfl, hb3⟩
        have HB3 := Lib.hid (below_rev' hb3 (HB2.out.alloc HB2.out.size _))
        clear hb3
        go_wp2_with fail
        refine (awake_any _ (HS.out.later HB3.out)).mono ?_
        rintro e w4 ⟨rfl, hb4⟩
        have HB4 := Lib.hid (below_rev' hb4 HB3.out)
        clear hb4
        go_wp2_with fail
        go_ret
        exact ⟨rfl, HB4.out⟩
      · rw [if_neg h24]
        have d24 : decide (20 + (q : Int) ≤ 24) = false := decide_eq_false (by omega)
        have t0 := bF (show (((3 : Nat) : Nat) : Int) ≠ 0 by omega)
        clear h24
        go_wp2_with fail
        refine (sameL_any ts TA tc 0 _ (HT2.out.later ((Below.refl _ _).alloc (Nat.le_refl _) _)) (HS.out.later (HB2.out.alloc HB2.out.size _)) HLN.out (by omega) HWO.out HTO.out).mono ?_
        rintro e w3 ⟨rfl, hb3⟩
        have HB3 := Lib.hid (below_rev' hb3 (HB2.out.alloc HB2.out.size _))
        clear hb3
        go_wp2_with fail
        refine (awake_any _ (HS.out.later HB3.out)).mono ?_
        rintro e w4 ⟨rfl, hb4⟩
        have HB4 := Lib.hid (below_rev' hb4 HB3.out)
        clear hb4
        go_wp2_with fail
        go_ret
        exact ⟨rfl, HB4.out⟩
end Go.Proofs.YtbaenhcmkigfcaaDoor
