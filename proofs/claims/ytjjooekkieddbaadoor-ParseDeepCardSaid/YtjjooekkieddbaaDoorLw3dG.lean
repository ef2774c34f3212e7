/- The walk of ParseDeep: true for all arguments. -/
import Derived.Test.YtjjooekkieddbaaDoorLw3bG
import Derived.Test.YtjjooekkieddbaaDoorIntRowG
import Derived.Test.YtjjooekkieddbaaDoorDpBG
namespace Go.Proofs.YtjjooekkieddbaaDoor
open Go.RowKit

set_option maxHeartbeats 1000000 in
theorem cut40_any (xs : List Int) (A : Option Addr) (cap : Nat) (w : World) (hR : IntR w A xs) (hc : xs.length ≤ cap) (hm : xs.length ≤ 9223372036854775807) :
    Calls Tryd.prog 15 #[.slice A xs.length cap, .int .i64 40] w fun e w' => e = .returned (.slice A (xs.take 40).length cap) ∧ w = w' := by
  by_cases h : 40 < xs.length
  · obtain ⟨b, off, rfl, -⟩ := hR 0 (by omega)
    have HL : Hid ((xs.take 40).length = 40) := by show _ = _; simp; omega
    have hcap : 40 ≤ cap := by omega
    clear hR
    go_enter Tryd.func15, Tryd.ntmps15
    go_wp2
    go_ret
    exact ⟨by rw [HL.out]; rfl, rfl⟩
  · have HL : Hid ((xs.take 40).length = xs.length) := by show _ = _; simp; omega
    clear hR
    go_enter Tryd.func15, Tryd.ntmps15
    go_wp2
    go_ret
    exact ⟨by rw [HL.out]; rfl, rfl⟩
theorem src_one {w : World} {A : Option Addr} {xs : List Int} {cap : Nat} (hR : IntR w A xs) (hx : xs.length ≤ 1000) :
    Src (w.alloc (.cells #[.slice A xs.length cap, .int .i64 0] 38)) w.heap.size xs 0 := by
  refine ⟨A, cap, heap_alloc_new w _, by omega, hx, fun k hkk => ?_⟩
  obtain ⟨b, off, e, hc, r⟩ := hR k hkk
  have hbl : b < w.heap.size := World.block_lt_of_cell? _ _ hc
  exact ⟨b, off, e, hbl, (World.cell?_of_block (Below.heap_alloc w _ b hbl)).trans hc, r⟩
theorem dpPs_snoc (cs : List Nat) (c : Nat) : dpPs (cs ++ [c]) = dpPs cs ++ dpP c := by
  induction cs with
  | nil => simp [dpPs]
  | cons a r ih => rw [List.cons_append, dpPs, dpPs, ih, List.append_assoc]
/-- the text that has been put together so far -/
def DbRel (w : World) (ys : List Int) (W0 : World) (cs : List Nat) (fs bk : List UInt8) (wr : World) : Prop :=
  fs = [102, 117, 110, 99, 32, 109, 97, 105, 110, 40, 41, 32, 123] ++ dpPs cs ∧ bk = List.replicate (cs.length + 1) 125 ∧ (∃ i, Src wr w.heap.size ys i) ∧ W0.grownBy wr (some w.heap.size)

set_option maxRecDepth 100000 in
set_option maxHeartbeats 4000000 in
theorem parseDeep_any (x : Int) (xs : List Int) (A : Option Addr) (cap : Nat) (w : World) (hx : -9223372036854775808 ≤ x ∧ x ≤ 9223372036854775807) (hR : IntR w A xs) (hc : xs.length ≤ cap) (hm : xs.length ≤ 9223372036854775807) (hS : SgT w) :
    Calls Tryd.prog 6 #[.int .i64 x, .slice A xs.length cap] w fun e w' => e = .returned (.bool true) ∧ Below w.heap.size w w' := by
  have HX := Lib.hid hx
  have HCUT := Lib.hid (cut40_any xs A cap w hR hc hm)
  have hR2 : IntR w A (xs.take 40) := fun i hi => by
    have h1 : i < xs.length := by simp at hi; omega
    obtain ⟨b, off, e, h2, r⟩ := hR i h1
    exact ⟨b, off, e, by simpa using h2, by simpa using r⟩
  have hx40 : (xs.take 40).length ≤ 1000 := by simp; omega
  have HS := Lib.hid hS
  clear hR hc hm hx hS
  generalize xs.take 40 = ys at *
  have HSRC := Lib.hid (src_one (cap := cap) hR2 hx40)
  have HB0 : Hid (Below w.heap.size w (w.alloc (.cells #[.slice A ys.length cap, .int .i64 0] 38))) := (Below.refl _ _).alloc (Nat.le_refl _) _
  clear hR2
  go_enter Tryd.func6, Tryd.ntmps6
  go_wp2_with fail
  refine (within_big x 8 w HX.out (by omega) (by omega)).mono ?_
  rintro e w' ⟨rfl, rfl⟩
  rw [show (8 : Int).toNat = 8 from rfl]
  have hq := within_lt x 8 (by omega)
  generalize within x 8 = q at *
  go_wp2_with fail
  refine HCUT.out.mono ?_
  rintro e w' ⟨rfl, rfl⟩
  clear HCUT
  go_wp2_with fail
  obtain ⟨W0, hW0⟩ : ∃ W0, W0 = w.alloc (.cells #[.slice A ys.length cap, .int .i64 0] 38) := ⟨_, rfl⟩
  rw [← hW0] at HSRC HB0 ⊢
  have HW0 : Hid (w.heap.size < W0.heap.size) := by rw [hW0]; show _ < _; simp
  clear hW0
  go_loopw [6, 7, 8] (fun f b i wr => ∃ (cs : List Nat) (fs bk : List UInt8), cs.length + 1 ≤ 20 + q ∧ fs.length ≤ 15 * cs.length + 13 ∧ bk.length ≤ cs.length + 1 ∧ f = .string ⟨fs.toArray⟩ ∧ b = .string ⟨bk.toArray⟩ ∧ i = .int .i64 ((cs.length : Int) + 1) ∧ Hid (DbRel w ys W0 cs fs bk wr)) (fun _ _ i _ => 20 + q - (intOf i).toNat)
  case atStart => exact ⟨[], _, _, (by show 0 + 1 ≤ 20 + q; omega), (by simp), (by simp), rfl, rfl, rfl, ⟨rfl, rfl, ⟨0, HSRC.out⟩, ⟨rfl, rfl, rfl, Nat.le_refl _, fun _ _ _ => rfl⟩⟩⟩
  case round =>
    obtain ⟨cs, fs, bk, hcl, hfl, hbl, rfl, rfl, rfl, hrel⟩ := hrel
    obtain ⟨hfs, hbk, ⟨idx, hsrc⟩, hG⟩ := hrel.out
    clear hrel
    have HFS := Lib.hid hfs
    have HBK := Lib.hid hbk
    have HSR := Lib.hid hsrc
    have HG := Lib.hid hG
    clear hfs hbk hsrc hG
    by_cases hlt : cs.length + 1 < 20 + q
    · have happ := bapp
      have dlt : decide ((cs.length : Int) + 1 < 20 + (q : Int)) = true := decide_eq_true (by omega)
      go_wp2_with fail
      refine (next_any wr w.heap.size ys idx 3 HSR.out (by omega) (by omega)).mono ?_
      rintro e w1 ⟨rfl, hS1, hG1⟩
      rw [show (3 : Int).toNat = 3 from rfl]
      have HS1 := Lib.hid hS1
      have HG1 := Lib.hid (grown_trans HG.out hG1)
      clear hS1 hG1
      have hv3 := nextV_lt ys idx 3 (by omega)
      generalize nextV ys idx 3 = v at *
      have hv : v = 0 ∨ v = 1 ∨ v = 2 := by omega
      rcases hv with hv | hv | hv
      · skip
        have t0 := bT (show ((v : Nat) : Int) = 0 by omega)
        clear hv
        obtain ⟨fs2, hfs2⟩ : ∃ fs2, fs2 = fs ++ [105, 102, 32, 49, 32, 123] := ⟨_, rfl⟩
        obtain ⟨bk2, hbk2⟩ : ∃ bk2, bk2 = [125] ++ bk := ⟨_, rfl⟩
        have ha1 : (⟨fs.toArray⟩ : ByteArray) ++ (⟨#[105, 102, 32, 49, 32, 123]⟩ : ByteArray) = ⟨fs2.toArray⟩ := by rw [hfs2]; exact bapp fs [105, 102, 32, 49, 32, 123]
        have ha2 : (⟨#[125]⟩ : ByteArray) ++ (⟨bk.toArray⟩ : ByteArray) = ⟨bk2.toArray⟩ := by rw [hbk2]; exact bapp [125] bk
        have HF2 : Hid (fs2 = [102, 117, 110, 99, 32, 109, 97, 105, 110, 40, 41, 32, 123] ++ dpPs (cs ++ [0])) := by show _ = _; rw [hfs2, HFS.out, dpPs_snoc, List.append_assoc]; rfl
        have HK2 : Hid (bk2 = List.replicate (cs.length + 1 + 1) 125) := by show _ = _; rw [hbk2, HBK.out]; rfl
        have hl2 : fs2.length ≤ 15 * (cs.length + 1) + 13 := by rw [hfs2]; simp; omega
        have hl3 : bk2.length ≤ cs.length + 1 + 1 := by rw [hbk2]; simp; omega
        clear hfs2 hbk2 happ
        go_wp2_with fail
        go_roundw
        case rel =>
          refine ⟨cs ++ [0], fs2, bk2, by simp; omega, by simp; omega, by simp; omega, rfl, rfl, by rw [List.length_append]; go_num, ?_⟩
          refine ⟨HF2.out, by rw [HK2.out, List.length_append]; rfl, ⟨_, HS1.out⟩, HG1.out⟩
        case measure => simp [intOf]; omega
      · skip
        have t0 := bF (show ((v : Nat) : Int) ≠ 0 by omega)
        have t1 := bT (show ((v : Nat) : Int) = 1 by omega)
        clear hv
        obtain ⟨fs2, hfs2⟩ : ∃ fs2, fs2 = fs ++ [105, 102, 32, 49, 32, 123, 32, 125, 32, 101, 108, 115, 101, 32, 123] := ⟨_, rfl⟩
        obtain ⟨bk2, hbk2⟩ : ∃ bk2, bk2 = [125] ++ bk := ⟨_, rfl⟩
        have ha1 : (⟨fs.toArray⟩ : ByteArray) ++ (⟨#[105, 102, 32, 49, 32, 123, 32, 125, 32, 101, 108, 115, 101, 32, 123]⟩ : ByteArray) = ⟨fs2.toArray⟩ := by rw [hfs2]; exact bapp fs [105, 102, 32, 49, 32, 123, 32, 125, 32, 101, 108, 115, 101, 32, 123]
        have ha2 : (⟨#[125]⟩ : ByteArray) ++ (⟨bk.toArray⟩ : ByteArray) = ⟨bk2.toArray⟩ := by rw [hbk2]; exact bapp [125] bk
        have HF2 : Hid (fs2 = [102, 117, 110, 99, 32, 109, 97, 105, 110, 40, 41, 32, 123] ++ dpPs (cs ++ [1])) := by show _ = _; rw [hfs2, HFS.out, dpPs_snoc, List.append_assoc]; rfl
        have HK2 : Hid (bk2 = List.replicate (cs.length + 1 + 1) 125) := by show _ = _; rw [hbk2, HBK.out]; rfl
        have hl2 : fs2.length ≤ 15 * (cs.length + 1) + 13 := by rw [hfs2]; simp; omega
        have hl3 : bk2.length ≤ cs.length + 1 + 1 := by rw [hbk2]; simp; omega
        clear hfs2 hbk2 happ
        go_wp2_with fail
        go_roundw
        case rel =>
          refine ⟨cs ++ [1], fs2, bk2, by simp; omega, by simp; omega, by simp; omega, rfl, rfl, by rw [List.length_append]; go_num, ?_⟩
          refine ⟨HF2.out, by rw [HK2.out, List.length_append]; rfl, ⟨_, HS1.out⟩, HG1.out⟩
        case measure => simp [intOf]; omega
      · skip
        have t0 := bF (show ((v : Nat) : Int) ≠ 0 by omega)
        have t1 := bF (show ((v : Nat) : Int) ≠ 1 by omega)
        clear hv
        obtain ⟨fs2, hfs2⟩ : ∃ fs2, fs2 = fs ++ [119, 104, 105, 108, 101, 32, 48, 32, 123] := ⟨_, rfl⟩
        obtain ⟨bk2, hbk2⟩ : ∃ bk2, bk2 = [125] ++ bk := ⟨_, rfl⟩
        have ha1 : (⟨fs.toArray⟩ : ByteArray) ++ (⟨#[119, 104, 105, 108, 101, 32, 48, 32, 123]⟩ : ByteArray) = ⟨fs2.toArray⟩ := by rw [hfs2]; exact bapp fs [119, 104, 105, 108, 101, 32, 48, 32, 123]
        have ha2 : (⟨#[125]⟩ : ByteArray) ++ (⟨bk.toArray⟩ : ByteArray) = ⟨bk2.toArray⟩ := by rw [hbk2]; exact bapp [125] bk
        have HF2 : Hid (fs2 = [102, 117, 110, 99, 32, 109, 97, 105, 110, 40, 41, 32, 123] ++ dpPs (cs ++ [2])) := by show _ = _; rw [hfs2, HFS.out, dpPs_snoc, List.append_assoc]; rfl
        have HK2 : Hid (bk2 = List.replicate (cs.length + 1 + 1) 125) := by show _ = _; rw [hbk2, HBK.out]; rfl
        have hl2 : fs2.length ≤ 15 * (cs.length + 1) + 13 := by rw [hfs2]; simp; omega
        have hl3 : bk2.length ≤ cs.length + 1 + 1 := by rw [hbk2]; simp; omega
        clear hfs2 hbk2 happ
        go_wp2_with fail
        go_roundw
        case rel =>
          refine ⟨cs ++ [2], fs2, bk2, by simp; omega, by simp; omega, by simp; omega, rfl, rfl, by rw [List.length_append]; go_num, ?_⟩
          refine ⟨HF2.out, by rw [HK2.out, List.length_append]; rfl, ⟨_, HS1.out⟩, HG1.out⟩
        case measure => simp [intOf]; omega
    · have dlt : decide ((cs.length : Int) + 1 < 20 + (q : Int)) = false := decide_eq_false (by omega)
      have hqe : cs.length + 1 = 20 + q := by omega
      obtain ⟨txt, htx⟩ : ∃ txt, txt = fs ++ bk := ⟨_, rfl⟩
      have ha1 : (⟨fs.toArray⟩ : ByteArray) ++ (⟨bk.toArray⟩ : ByteArray) = ⟨txt.toArray⟩ := by rw [htx]; exact bapp fs bk
      have HTX : Hid (txt = dpTx cs) := by show _ = _; rw [htx, HFS.out, HBK.out]; unfold dpTx; simp
      have hTl : txt.length ≤ 262144 := by rw [htx]; simp; omega
      have HER0 := Lib.hid (deep_all cs (by omega))
      rw [← HTX.out] at HER0
      clear htx
      have HBW : Hid (Below w.heap.size w wr) := by
        have h0 := HB0.out
        have hG := HG.out
        exact ⟨hG.os.trans h0.os, hG.tape.trans h0.tape, hG.output.trans h0.output, Nat.le_trans h0.size hG.size, fun b hb => (hG.block b (by have := HW0.out; omega) (fun e => by injection e with e; omega)).trans (h0.block b hb)⟩
      obtain ⟨c1, W1, hrun1, hBy1, hcp1, hb1⟩ := conv_bytes txt wr
      have HBW1 := Lib.hid (below_rev hb1 HBW.out)
      have HPR := Lib.hid (pProgram_any txt _ c1 W1 hBy1 hTl hcp1 (HS.out.later HBW1.out) (fun h => lex_ok _ h))
      have HSM := Lib.hid (fun W (hb : Below W1.heap.size W1 W) => same3_any txt _ c1 W (hBy1.later hb) hTl hcp1 (HS.out.later (below_rev hb HBW1.out)))
      clear hBy1 hb1 hcp1
      by_cases h24 : cs.length + 1 ≤ 24
      · have d24 : decide (20 + (q : Int) ≤ 24) = true := decide_eq_true (by omega)
        have HER : Hid ((progV txt).2.2 = 0) := HER0.out.trans (if_pos h24)
        clear h24 HER0
        go_wp2_with fail
        refine HPR.out.mono ?_
        rintro e w2 ⟨vG, vM, vF, PG, PM, PF, B, rfl, hB, hPg, hV, hb2⟩
        rw [HER.out]
        obtain ⟨AG, cG, rfl⟩ := slice_form hPg.rG
        obtain ⟨AM, cM, rfl⟩ := slice_form hPg.rM
        obtain ⟨AF, cF, rfl⟩ := slice_form hPg.rF
        have HB2 := Lib.hid hb2
        clear hPg hV hb2 hB HPR hrun1
        generalize (progV txt).2.1 = n1 at *
        have tE : (((0 : Nat) : Int) == 0) = true := rfl
        go_wp2_with fail
        refine (HSM.out _ (HB2.out.alloc HB2.out.size _)).mono ?_
        rintro e w3 ⟨rfl, hb4⟩
        have HB4 := Lib.hid (below_rev (below_rev hb4 (HB2.out.alloc HB2.out.size _)) HBW1.out)
        clear hb4
        go_wp2_with fail
        refine (awake3_any _ (HS.out.later HB4.out)).mono ?_
        rintro e w4 ⟨rfl, hb5⟩
        have HB5 := Lib.hid (below_rev hb5 HB4.out)
        clear hb5
        go_wp2_with fail
        go_ret
        exact ⟨rfl, HB5.out⟩
      · have d24 : decide (20 + (q : Int) ≤ 24) = false := decide_eq_false (by omega)
        have HER : Hid ((progV txt).2.2 = 3) := HER0.out.trans (if_neg h24)
        clear h24 HER0
        go_wp2_with fail
        refine HPR.out.mono ?_
        rintro e w2 ⟨vG, vM, vF, PG, PM, PF, B, rfl, hB, hPg, hV, hb2⟩
        rw [HER.out]
        obtain ⟨AG, cG, rfl⟩ := slice_form hPg.rG
        obtain ⟨AM, cM, rfl⟩ := slice_form hPg.rM
        obtain ⟨AF, cF, rfl⟩ := slice_form hPg.rF
        have HB2 := Lib.hid hb2
        clear hPg hV hb2 hB HPR hrun1
        generalize (progV txt).2.1 = n1 at *
        have tE : (((3 : Nat) : Int) == 0) = false := rfl
        go_wp2_with fail
        refine (HSM.out _ (HB2.out.alloc HB2.out.size _)).mono ?_
        rintro e w3 ⟨rfl, hb4⟩
        have HB4 := Lib.hid (below_rev (below_rev hb4 (HB2.out.alloc HB2.out.size _)) HBW1.out)
        clear hb4
        go_wp2_with fail
        refine (awake3_any _ (HS.out.later HB4.out)).mono ?_
        rintro e w4 ⟨rfl, hb5⟩
        have HB5 := Lib.hid (below_rev hb5 HB4.out)
        clear hb5
        go_wp2_with fail
        go_ret
        exact ⟨rfl, HB5.out⟩
end Go.Proofs.YtjjooekkieddbaaDoor
