/- What Free, Lock and Unlock of the reference do. -/
import Derived.Test.YtobpnpkcafacjaaTbRef1
import Derived.Test.YtobpnpkcafacjaaTbFn3
namespace Go.Proofs.Ytobpnpkcafacjaa
open Go.RowKit
set_option maxRecDepth 100000

set_option maxHeartbeats 1000000 in
theorem refFree_any (w : World) (A D : Option Addr) (ms : List TM) (hs : List TH) (cap c n : Nat) (el t : Int) (hM : MxR w A ms) (hok : TmOk ms) (hR : TbV w D c hs) (hn : n = hs.length) (hl : hs.length = tE ms) (he : I64' el) (ht0 : -9223372036854775808 ≤ t) (ht : t ≤ 4611686018427387904) :
    Calls Try.prog 26 #[.slice A ms.length cap, .slice D n c, .int .i64 el, .int .i64 t] w fun e w' => e = .returned (.bool (frV ms hs el t)) ∧ Below w.heap.size w w' := by
  have HMO := Lib.hid (refMutexOf_any w A ms cap el hM hok he)
  by_cases hin : 0 ≤ mOf ms el
  · obtain ⟨h0, h1⟩ := (mOf_nonneg ms el).1 hin
    obtain ⟨j, hj, hmj, -⟩ := mOf_in ms el h0 h1
    have hre := tRe_at hmj hj
    obtain ⟨x, rfl⟩ : ∃ x : Nat, el = (x : Int) := ⟨el.toNat, by omega⟩
    have hx : x < hs.length := by omega
    have hat : tAt hs (x : Int) = hs[x] := (tAt_mem (e := (x : Int)) (by simpa using hx)).2
    by_cases ht1 : t < 0
    · have HV : Hid (frV ms hs (x : Int) t = false) := by show _ = _; unfold frV; simp; omega
      rw [hmj] at HMO
      have i0 : ¬ ((j : Int) < 0) := by omega
      clear hM hok hR hn hl hmj hin h0 h1 hre hat
      go_enter Try.func26, Try.ntmps26
      go_wp2_with fail
      refine HMO.out.mono ?_
      rintro e w1 ⟨rfl, hb1⟩
      have HB1 := Lib.hid hb1
      clear hb1
      go_wp2_with fail
      go_ret
      exact ⟨by rw [HV.out]; rfl, HB1.out⟩
    obtain ⟨b, off, rfl, c0, c1⟩ := hR.r x hx
    obtain ⟨b', off', s, rfl, m0, m1, m2⟩ := hM j hj
    have HFV : Hid (frV ms hs (x : Int) t = (hs[x].1 == 0 || (hs[x].1 == t + 1 && ms[j].re))) := by show _ = _; unfold frV; rw [hat, hre]; simp [hin]; omega
    rw [hmj] at HMO
    have i0 : (0 : Int) ≤ (j : Int) := by omega
    have i1 : (j : Int) < (ms.length : Int) := by omega
    have x0 : (0 : Int) ≤ (x : Int) := by omega
    have x1 : (x : Int) < (n : Int) := by omega
    generalize hs[x] = h at *
    generalize ms[j].re = re at *
    obtain ⟨o, d⟩ := h
    dsimp only at *
    have HC := Lib.hid (fun W (hb : Below w.heap.size w W) => (⟨cell_later hb c0, cell_later hb c1, cell_later hb m1⟩ : W.cell? ⟨b, off + x * 2, none⟩ = some (.int .i64 o) ∧ W.cell? ⟨b, off + x * 2 + 1, none⟩ = some (.int .i64 d) ∧ W.cell? ⟨b', off' + j * 3 + 1, none⟩ = some (.bool re)))
    clear hM hok hR hn hl hin h0 h1 hmj hre hat c0 c1 m0 m1 m2 hx hj
    go_enter Try.func26, Try.ntmps26
    go_wp2_with fail
    refine HMO.out.mono ?_
    rintro e w1 ⟨rfl, hb1⟩
    obtain ⟨c0, c1, m1⟩ := HC.out w1 hb1
    have HB1 := Lib.hid hb1
    clear hb1 HMO
    by_cases ho : o = 0
    · have HV : Hid ((o == 0 || (o == t + 1 && re)) = true) := by show _ = _; simp [ho]
      have t0 := bT ho
      go_wp2_with fail
      go_ret
      exact ⟨by rw [HFV.out, HV.out]; rfl, HB1.out⟩
    · have t0 := bF ho
      by_cases hh : o = t + 1
      · subst hh
        have HV : Hid ((t + 1 == 0 || (t + 1 == t + 1 && re)) = re) := by show _ = _; rw [t0]; simp
        go_wp2_with fail
        go_ret
        exact ⟨by rw [HFV.out, HV.out]; rfl, HB1.out⟩
      · have HV : Hid ((o == 0 || (o == t + 1 && re)) = false) := by show _ = _; simp [ho, hh]
        have t1 := bF hh
        go_wp2_with fail
        go_ret
        exact ⟨by rw [HFV.out, HV.out]; rfl, HB1.out⟩
  · have HV : Hid (frV ms hs el t = false) := by show _ = _; unfold frV; simp [hin]
    have hlt : mOf ms el < 0 := by omega
    generalize mOf ms el = q at *
    clear hM hok hR hn hl hin
    go_enter Try.func26, Try.ntmps26
    go_wp2_with fail
    refine HMO.out.mono ?_
    rintro e w1 ⟨rfl, hb1⟩
    have HB1 := Lib.hid hb1
    clear hb1
    go_wp2_with fail
    go_ret
    exact ⟨by rw [HV.out]; rfl, HB1.out⟩

set_option maxHeartbeats 1000000 in
theorem refLock_any (w : World) (A D : Option Addr) (ms : List TM) (hs : List TH) (cap c n : Nat) (el t : Int) (hM : MxR w A ms) (hok : TmOk ms) (hR : TbV w D c hs) (hn : n = hs.length) (hl : hs.length = tE ms) (he : I64' el) (ht0 : -9223372036854775808 ≤ t) (ht : t ≤ 4611686018427387904) (hd : ThOk 4611686018427387904 hs) :
    Calls Try.prog 21 #[.slice A ms.length cap, .slice D n c, .int .i64 el, .int .i64 t] w (LkPost w n (frV ms hs el t) (lkV ms hs el t)) := by
  have hle := hok.tE
  have HF := Lib.hid (fun W D' c' (h : Below w.heap.size w W) (h2 : TbV W D' c' hs) => refFree_any W A D' ms hs cap c' n el t (hM.later h) hok h2 hn hl he ht0 ht)
  have HR := Lib.hid (fun W (h : Below w.heap.size w W) => hR.later h)
  have HN := Lib.hid hn
  have hl6 : hs.length ≤ 1000000 := by omega
  cases hf : frV ms hs el t with
  | false =>
    have HL : Hid (lkV ms hs el t = hs) := by show _ = _; unfold lkV; rw [hf]; rfl
    rw [hf] at HF
    clear hM hok hR hn hl hd hf
    go_enter Try.func21, Try.ntmps21
    go_wp2_with (refine wpList_append_tb _ rfl _ _ rfl _ rfl D n c hs rfl HN.out (HR.out _ ((Below.refl _ _).alloc (Nat.le_refl _) _)) hl6 ?_; intro D' c' w1 ht1 hb1)
    have HB1 := Lib.hid (below_two ((Below.refl _ _).alloc (Nat.le_refl w.heap.size) _) hb1)
    have HT1 := Lib.hid (ht1.base (B' := w.heap.size) (by simp))
    clear ht1 hb1
    go_wp2_with fail
    refine (HF.out _ D' c' HB1.out HT1.out.v).mono ?_
    rintro e w2 ⟨rfl, hb2⟩
    have HT2 := Lib.hid (HT1.out.later hb2)
    have HB2 := Lib.hid (below_two HB1.out hb2)
    clear hb2 HF HT1 HB1
    go_wp2_with fail
    go_ret2
    exact ⟨_, _, rfl, by rw [HL.out]; exact HT2.out, HB2.out⟩
  | true =>
    have hf' := hf
    unfold frV at hf'
    simp only [Bool.and_eq_true, decide_eq_true_eq] at hf'
    obtain ⟨⟨h0, hin⟩, -⟩ := hf'
    obtain ⟨q0, q1⟩ := (mOf_nonneg ms el).1 hin
    obtain ⟨x, rfl⟩ : ∃ x : Nat, el = (x : Int) := ⟨el.toNat, by omega⟩
    have hx : x < hs.length := by omega
    have hat : tAt hs (x : Int) = hs[x] := (tAt_mem (e := (x : Int)) (by simpa using hx)).2
    have HL : Hid (lkV ms hs (x : Int) t = hs.set x (t + 1, hs[x].2 + 1)) := by show _ = _; unfold lkV; rw [if_pos hf, hat, Int.toNat_natCast]
    have hbd := hd hs[x] (List.getElem_mem hx)
    rw [hf] at HF
    have x0 : (0 : Int) ≤ (x : Int) := by omega
    have x1 : (x : Int) < (n : Int) := by omega
    clear hM hok hR hn hl hd hf hin hat q0 q1
    go_enter Try.func21, Try.ntmps21
    go_wp2_with (refine wpList_append_tb _ rfl _ _ rfl _ rfl D n c hs rfl HN.out (HR.out _ ((Below.refl _ _).alloc (Nat.le_refl _) _)) hl6 ?_; intro D' c' w1 ht1 hb1)
    have HB1 := Lib.hid (below_two ((Below.refl _ _).alloc (Nat.le_refl w.heap.size) _) hb1)
    have HT1 := Lib.hid (ht1.base (B' := w.heap.size) (by simp))
    clear ht1 hb1
    go_wp2_with fail
    refine (HF.out _ D' c' HB1.out HT1.out.v).mono ?_
    rintro e w2 ⟨rfl, hb2⟩
    have HT2 := Lib.hid (HT1.out.later hb2)
    have HB2 := Lib.hid (below_two HB1.out hb2)
    clear hb2 HF HT1 HB1
    obtain ⟨g, rfl, hg, hgs, g0, g1, gf, -⟩ := HT2.out.o.row x hx
    have HG := Lib.hid hg
    have f0 := gf (x * 2)
    have f1 := gf (x * 2 + 1)
    have HS := Lib.hid (HT2.out.set x hx (t + 1) (hs[x].2 + 1))
    generalize hs[x] = h at *
    obtain ⟨o, d⟩ := h
    dsimp only at *
    clear gf hg hgs HR HT2
    go_wp2_with fail
    go_ret2
    exact ⟨_, _, rfl, by rw [HL.out]; exact HS.out, (HB2.out.setCell HG.out _).setCell HG.out _⟩

set_option maxHeartbeats 1000000 in
theorem refUnlock_any (w : World) (A D : Option Addr) (ms : List TM) (hs : List TH) (cap c n : Nat) (el t : Int) (hM : MxR w A ms) (hok : TmOk ms) (hR : TbV w D c hs) (hn : n = hs.length) (hl : hs.length = tE ms) (he : I64' el) (ht0 : -9223372036854775808 ≤ t) (ht : t ≤ 4611686018427387904) (hd : ThOk 4611686018427387904 hs) :
    Calls Try.prog 23 #[.slice A ms.length cap, .slice D n c, .int .i64 el, .int .i64 t] w (LkPost w n (ulB ms hs el t) (ulV ms hs el t)) := by
  have hle := hok.tE
  have HMO := Lib.hid (fun W (h : Below w.heap.size w W) => refMutexOf_any W A ms cap el (hM.later h) hok he)
  have HR := Lib.hid (fun W (h : Below w.heap.size w W) => hR.later h)
  have HN := Lib.hid hn
  have hl6 : hs.length ≤ 1000000 := by omega
  by_cases hin : 0 ≤ mOf ms el
  · obtain ⟨q0, q1⟩ := (mOf_nonneg ms el).1 hin
    obtain ⟨j, hj, hmj, -⟩ := mOf_in ms el q0 q1
    obtain ⟨x, rfl⟩ : ∃ x : Nat, el = (x : Int) := ⟨el.toNat, by omega⟩
    have hx : x < hs.length := by omega
    have hat : tAt hs (x : Int) = hs[x] := (tAt_mem (e := (x : Int)) (by simpa using hx)).2
    have hin' : decide (0 ≤ mOf ms (x : Int)) = true := by simpa using hin
    have hub : ulB ms hs (x : Int) t = hlV hs[x] t := by unfold ulB; rw [hat, hin']; rfl
    have HUV : Hid (ulV ms hs (x : Int) t = if hlV hs[x] t = true then hs.set x (if hs[x].2 - 1 = 0 then 0 else hs[x].1, hs[x].2 - 1) else hs) := by show _ = _; unfold ulV; rw [hub, hat, Int.toNat_natCast]
    have hbd := hd hs[x] (List.getElem_mem hx)
    have HHL : Hid (hlV hs[x] t = (decide (0 ≤ t) && (hs[x].1 == t + 1))) := rfl
    rw [hub]
    rw [hmj] at HMO
    have i0 : ¬ ((j : Int) < 0) := by omega
    have x0 : (0 : Int) ≤ (x : Int) := by omega
    have x1 : (x : Int) < (n : Int) := by omega
    clear hM hok hR hn hl hd hin hin' hat q0 q1 hub hmj
    generalize hlV hs[x] t = r at *
    go_enter Try.func23, Try.ntmps23
    go_wp2_with (refine wpList_append_tb _ rfl _ _ rfl _ rfl D n c hs rfl HN.out (HR.out _ ((Below.refl _ _).alloc (Nat.le_refl _) _)) hl6 ?_; intro D' c' w1 ht1 hb1)
    have HB1 := Lib.hid (below_two ((Below.refl _ _).alloc (Nat.le_refl w.heap.size) _) hb1)
    have HT1 := Lib.hid (ht1.base (B' := w.heap.size) (by simp))
    clear ht1 hb1
    go_wp2_with fail
    refine (HMO.out _ HB1.out).mono ?_
    rintro e w2 ⟨rfl, hb2⟩
    have HT2 := Lib.hid (HT1.out.later hb2)
    have HB2 := Lib.hid (below_two HB1.out hb2)
    clear hb2 HMO HT1 HB1 HR
    obtain ⟨g, rfl, hg, hgs, g0, g1, gf, -⟩ := HT2.out.o.row x hx
    have HG := Lib.hid hg
    have f0 := gf (x * 2)
    have f1 := gf (x * 2 + 1)
    have HSA := Lib.hid (HT2.out.set1 x hx (hs[x].2 - 1))
    have HSB := Lib.hid (HT2.out.set10 x hx 0 (hs[x].2 - 1))
    generalize hs[x] = h at *
    obtain ⟨o, d⟩ := h
    dsimp only at *
    clear gf hg hgs
    by_cases ht1 : t < 0
    · obtain rfl : r = false := by rw [HHL.out]; simp; omega
      have HL : Hid (ulV ms hs (x : Int) t = hs) := by show _ = _; rw [HUV.out]; rfl
      clear HUV HHL
      go_wp2_with fail
      go_ret2
      exact ⟨_, _, rfl, by rw [HL.out]; exact HT2.out, HB2.out⟩
    by_cases ho : o = t + 1
    · subst ho
      obtain rfl : r = true := by rw [HHL.out]; simp; omega
      have HL : Hid (ulV ms hs (x : Int) t = hs.set x (if d - 1 = 0 then 0 else t + 1, d - 1)) := by show _ = _; rw [HUV.out, if_pos rfl]
      clear HUV HHL
      by_cases h1 : d - 1 = 0
      · have HL2 : Hid (ulV ms hs (x : Int) t = hs.set x (0, d - 1)) := by show _ = _; rw [HL.out, if_pos h1]
        have t1 := bT h1
        clear HL h1
        go_wp2_with fail
        go_ret2
        exact ⟨_, _, rfl, by rw [HL2.out]; exact HSB.out, (HB2.out.setCell HG.out _).setCell HG.out _⟩
      · have HL2 : Hid (ulV ms hs (x : Int) t = hs.set x (t + 1, d - 1)) := by show _ = _; rw [HL.out, if_neg h1]
        have t1 := bF h1
        clear HL h1
        go_wp2_with fail
        go_ret2
        exact ⟨_, _, rfl, by rw [HL2.out]; exact HSA.out, HB2.out.setCell HG.out _⟩
    · obtain rfl : r = false := by rw [HHL.out]; simp [ho]
      have HL : Hid (ulV ms hs (x : Int) t = hs) := by show _ = _; rw [HUV.out]; rfl
      have t1 := nT ho
      clear HUV HHL ho
      go_wp2_with fail
      go_ret2
      exact ⟨_, _, rfl, by rw [HL.out]; exact HT2.out, HB2.out⟩
  · have hub : ulB ms hs el t = false := by unfold ulB; simp [hin]
    have HL : Hid (ulV ms hs el t = hs) := by show _ = _; unfold ulV; rw [hub]; rfl
    have hlt : mOf ms el < 0 := by omega
    generalize mOf ms el = q at *
    rw [hub]
    clear hM hok hR hn hl hd hin hub
    go_enter Try.func23, Try.ntmps23
    go_wp2_with (refine wpList_append_tb _ rfl _ _ rfl _ rfl D n c hs rfl HN.out (HR.out _ ((Below.refl _ _).alloc (Nat.le_refl _) _)) hl6 ?_; intro D' c' w1 ht1 hb1)
    have HB1 := Lib.hid (below_two ((Below.refl _ _).alloc (Nat.le_refl w.heap.size) _) hb1)
    have HT1 := Lib.hid (ht1.base (B' := w.heap.size) (by simp))
    clear ht1 hb1
    go_wp2_with fail
    refine (HMO.out _ HB1.out).mono ?_
    rintro e w2 ⟨rfl, hb2⟩
    have HT2 := Lib.hid (HT1.out.later hb2)
    have HB2 := Lib.hid (below_two HB1.out hb2)
    clear hb2 HMO HT1 HB1
    go_wp2_with fail
    go_ret2
    exact ⟨_, _, rfl, by rw [HL.out]; exact HT2.out, HB2.out⟩
end Go.Proofs.Ytobpnpkcafacjaa
