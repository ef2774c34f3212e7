/- What Lock and Unlock of package table do. -/
import Derived.Test.YtobpnpkcafacjaaTbFn2
namespace Go.Proofs.Ytobpnpkcafacjaa
open Go.RowKit
set_option maxRecDepth 100000

/-- one element of a table of the call's own is written -/
theorem TbN.set {w : World} {B g c : Nat} {hs : List TH} (h : TbN w B (some ⟨g, 0, none⟩) c hs) (x : Nat) (hx : x < hs.length) (a b : Int) :
    TbN ((w.setCell ⟨g, x * 2, none⟩ (.int .i64 a)).setCell ⟨g, x * 2 + 1, none⟩ (.int .i64 b)) B (some ⟨g, 0, none⟩) c (hs.set x (a, b)) := by
  refine ⟨.inr ?_, by rw [List.length_set]; exact h.le, fun e => by cases e⟩
  obtain ⟨g', e, -, -, -, -, -, ho⟩ := h.o.row x hx
  injection e with e
  injection e with e1
  subst e1
  have h2 := ((ho.stored (x * 2) (.int .i64 a)).1.stored (x * 2 + 1) (.int .i64 b)).1
  rw [tCs_set hs x a b hx] at h2
  rw [List.length_set]
  exact h2
theorem TbN.set1 {w : World} {B g c : Nat} {hs : List TH} (h : TbN w B (some ⟨g, 0, none⟩) c hs) (x : Nat) (hx : x < hs.length) (b : Int) :
    TbN (w.setCell ⟨g, x * 2 + 1, none⟩ (.int .i64 b)) B (some ⟨g, 0, none⟩) c (hs.set x (hs[x].1, b)) := by
  refine ⟨.inr ?_, by rw [List.length_set]; exact h.le, fun e => by cases e⟩
  obtain ⟨g', e, -, -, -, -, -, ho⟩ := h.o.row x hx
  injection e with e
  injection e with e1
  subst e1
  have h2 := (ho.stored (x * 2 + 1) (.int .i64 b)).1
  rw [tCs_set1 hs x b hx] at h2
  rw [List.length_set]
  exact h2
theorem tCs_set0 (hs : List TH) (i : Nat) (a : Int) (h : i < hs.length) : (tCs hs).set (i * 2) (.int .i64 a) = tCs (hs.set i (a, hs[i].2)) := by
  rw [← tCs_set hs i a hs[i].2 h]
  have h1 := (tCs_at hs i h).2
  have hl : i * 2 + 1 < ((tCs hs).set (i * 2) (.int .i64 a)).length := by rw [List.length_set, tCs_len]; omega
  have hl' : i * 2 + 1 < (tCs hs).length := by rw [tCs_len]; omega
  rw [List.getElem?_eq_getElem hl'] at h1
  injection h1 with h1
  have e : ((tCs hs).set (i * 2) (.int .i64 a))[i * 2 + 1] = .int .i64 hs[i].2 := by rw [List.getElem_set_ne (by omega)]; exact h1
  rw [← e, List.set_getElem_self]
theorem TbN.set0 {w : World} {B g c : Nat} {hs : List TH} (h : TbN w B (some ⟨g, 0, none⟩) c hs) (x : Nat) (hx : x < hs.length) (a : Int) :
    TbN (w.setCell ⟨g, x * 2, none⟩ (.int .i64 a)) B (some ⟨g, 0, none⟩) c (hs.set x (a, hs[x].2)) := by
  refine ⟨.inr ?_, by rw [List.length_set]; exact h.le, fun e => by cases e⟩
  obtain ⟨g', e, -, -, -, -, -, ho⟩ := h.o.row x hx
  injection e with e
  injection e with e1
  subst e1
  have h2 := (ho.stored (x * 2) (.int .i64 a)).1
  rw [tCs_set0 hs x a hx] at h2
  rw [List.length_set]
  exact h2
/-- a depth, and then an owner -/
theorem TbN.set10 {w : World} {B g c : Nat} {hs : List TH} (h : TbN w B (some ⟨g, 0, none⟩) c hs) (x : Nat) (hx : x < hs.length) (a b : Int) :
    TbN ((w.setCell ⟨g, x * 2 + 1, none⟩ (.int .i64 b)).setCell ⟨g, x * 2, none⟩ (.int .i64 a)) B (some ⟨g, 0, none⟩) c (hs.set x (a, b)) := by
  have h2 := (h.set1 x hx b).set0 x (by rw [List.length_set]; exact hx) a
  rw [List.set_set, List.getElem_set_self] at h2
  exact h2
/-- what Lock and Unlock leave -/
def LkPost (w : World) (n : Nat) (r : Bool) (hs : List TH) (e : Ending) (w' : World) : Prop :=
  ∃ D c, e = .returned (.tuple #[.slice D n c, .bool r]) ∧ TbN w' w.heap.size D c hs ∧ Below w.heap.size w w'

set_option maxHeartbeats 1000000 in
theorem lock_any (w : World) (A D : Option Addr) (ms : List TM) (hs : List TH) (cap c n : Nat) (el t : Int) (hM : MxR w A ms) (hok : TmOk ms) (hR : TbV w D c hs) (hn : n = hs.length) (hl : hs.length = tE ms) (he : I64' el) (ht0 : -9223372036854775808 ≤ t) (ht : t ≤ 4611686018427387904) (hd : ThOk 4611686018427387904 hs) :
    Calls Try.prog 20 #[.slice A ms.length cap, .slice D n c, .int .i64 el, .int .i64 t] w (LkPost w n (frV ms hs el t) (lkV ms hs el t)) := by
  have hle := hok.tE
  have HC := Lib.hid (clone_any w D c n hs hR hn (by omega))
  have HF := Lib.hid (fun W (h : Below w.heap.size w W) => free_any W A D ms hs cap c n el t (hM.later h) hok (hR.later h) hn hl he ht0 ht)
  have HR := Lib.hid (fun W (h : Below w.heap.size w W) => hR.later h)
  have HN := Lib.hid hn
  cases hf : frV ms hs el t with
  | false =>
    have HL : Hid (lkV ms hs el t = hs) := by show _ = _; unfold lkV; rw [hf]; rfl
    rw [hf] at HF
    clear hM hok hR hn hl hd HR hf
    go_enter Try.func20, Try.ntmps20
    go_wp2_with fail
    refine HC.out.mono ?_
    rintro e w1 ⟨D', c', rfl, ht1, hb1⟩
    have HT1 := Lib.hid ht1
    have HB1 := Lib.hid hb1
    clear ht1 hb1 HC
    go_wp2_with fail
    refine (HF.out _ HB1.out).mono ?_
    rintro e w2 ⟨rfl, hb2⟩
    have HT2 := Lib.hid (HT1.out.later hb2)
    have HB2 := Lib.hid (below_two HB1.out hb2)
    clear hb2 HF HT1 HB1
    go_wp2_with fail
    go_ret2
    exact ⟨_, _, rfl, by rw [HL.out]; exact HT2.out, HB2.out⟩
  | true =>
    have hf' := hf
    unfold frV at hf'
    simp only [Bool.and_eq_true, decide_eq_true_eq] at hf'
    obtain ⟨⟨h0, hin⟩, -⟩ := hf'
    obtain ⟨q0, q1⟩ := (mOf_nonneg ms el).1 hin
    obtain ⟨x, rfl⟩ : ∃ x : Nat, el = (x : Int) := ⟨el.toNat, by omega⟩
    have hx : x < hs.length := by omega
    have hat : tAt hs (x : Int) = hs[x] := (tAt_mem (e := (x : Int)) (by simpa using hx)).2
    have HL : Hid (lkV ms hs (x : Int) t = hs.set x (t + 1, hs[x].2 + 1)) := by show _ = _; unfold lkV; rw [if_pos hf, hat, Int.toNat_natCast]
    have hbd := hd hs[x] (List.getElem_mem hx)
    rw [hf] at HF
    have x0 : (0 : Int) ≤ (x : Int) := by omega
    have x1 : (x : Int) < (n : Int) := by omega
    have HX := Lib.hid hx
    clear hM hok hR hn hl hd hf hin hat q0 q1
    go_enter Try.func20, Try.ntmps20
    go_wp2_with fail
    refine HC.out.mono ?_
    rintro e w1 ⟨D', c', rfl, ht1, hb1⟩
    have HT1 := Lib.hid ht1
    have HB1 := Lib.hid hb1
    clear ht1 hb1 HC
    go_wp2_with fail
    refine (HF.out _ HB1.out).mono ?_
    rintro e w2 ⟨rfl, hb2⟩
    have HT2 := Lib.hid (HT1.out.later hb2)
    have HB2 := Lib.hid (below_two HB1.out hb2)
    clear hb2 HF HT1 HB1
    obtain ⟨b, off, rfl, -, c1⟩ := (HR.out w2 HB2.out).r x HX.out
    obtain ⟨g, rfl, hg, hgs, g0, g1, gf, -⟩ := HT2.out.o.row x HX.out
    have HG := Lib.hid hg
    have f0 := gf (x * 2)
    have f1 := gf (x * 2 + 1)
    have HS := Lib.hid (HT2.out.set x HX.out (t + 1) (hs[x].2 + 1))
    generalize hs[x] = h at *
    obtain ⟨o, d⟩ := h
    dsimp only at *
    clear gf hg hgs HR HT2
    go_wp2_with fail
    go_ret2
    exact ⟨_, _, rfl, by rw [HL.out]; exact HS.out, (HB2.out.setCell HG.out _).setCell HG.out _⟩

set_option maxHeartbeats 1000000 in
theorem unlock_any (w : World) (A D : Option Addr) (ms : List TM) (hs : List TH) (cap c n : Nat) (el t : Int) (hM : MxR w A ms) (hok : TmOk ms) (hR : TbV w D c hs) (hn : n = hs.length) (hl : hs.length = tE ms) (he : I64' el) (ht0 : -9223372036854775808 ≤ t) (ht : t ≤ 4611686018427387904) (hd : ThOk 4611686018427387904 hs) :
    Calls Try.prog 22 #[.slice A ms.length cap, .slice D n c, .int .i64 el, .int .i64 t] w (LkPost w n (ulB ms hs el t) (ulV ms hs el t)) := by
  have hle := hok.tE
  have HC := Lib.hid (clone_any w D c n hs hR hn (by omega))
  have HE := Lib.hid (fun W (h : Below w.heap.size w W) => exists_any W A D ms cap n c el (hM.later h) hok he (hn.trans hl))
  have HR := Lib.hid (fun W (h : Below w.heap.size w W) => hR.later h)
  have HN := Lib.hid hn
  by_cases hin : 0 ≤ mOf ms el
  · obtain ⟨q0, q1⟩ := (mOf_nonneg ms el).1 hin
    obtain ⟨x, rfl⟩ : ∃ x : Nat, el = (x : Int) := ⟨el.toNat, by omega⟩
    have hx : x < hs.length := by omega
    have hat : tAt hs (x : Int) = hs[x] := (tAt_mem (e := (x : Int)) (by simpa using hx)).2
    have hin' : decide (0 ≤ mOf ms (x : Int)) = true := by simpa using hin
    have HH := Lib.hid (fun W => holds_any hs[x] t W ht ht0)
    have hub : ulB ms hs (x : Int) t = hlV hs[x] t := by unfold ulB; rw [hat, hin']; rfl
    have HUV : Hid (ulV ms hs (x : Int) t = if hlV hs[x] t = true then hs.set x (if hs[x].2 - 1 = 0 then 0 else hs[x].1, hs[x].2 - 1) else hs) := by show _ = _; unfold ulV; rw [hub, hat, Int.toNat_natCast]
    have hbd := hd hs[x] (List.getElem_mem hx)
    rw [hub]
    rw [hin'] at HE
    have x0 : (0 : Int) ≤ (x : Int) := by omega
    have x1 : (x : Int) < (n : Int) := by omega
    clear hM hok hR hn hl hd hin hin' hat q0 q1 hub
    generalize hlV hs[x] t = r at *
    go_enter Try.func22, Try.ntmps22
    go_wp2_with fail
    refine HC.out.mono ?_
    rintro e w1 ⟨D', c', rfl, ht1, hb1⟩
    have HT1 := Lib.hid ht1
    have HB1 := Lib.hid hb1
    clear ht1 hb1 HC
    go_wp2_with fail
    refine (HE.out _ HB1.out).mono ?_
    rintro e w2 ⟨rfl, hb2⟩
    have HT2 := Lib.hid (HT1.out.later hb2)
    have HB2 := Lib.hid (below_two HB1.out hb2)
    clear hb2 HE HT1 HB1
    obtain ⟨b, off, rfl, c0, c1⟩ := (HR.out w2 HB2.out).r x hx
    cases r with
    | false =>
      have HL : Hid (ulV ms hs (x : Int) t = hs) := by show _ = _; rw [HUV.out]; rfl
      clear HUV
      generalize hs[x] = h at *
      obtain ⟨o, d⟩ := h
      dsimp only at *
      go_wp2_with fail
      refine (HH.out _).mono ?_
      rintro e w3 ⟨rfl, hb3⟩
      have HT3 := Lib.hid (HT2.out.later hb3)
      have HB3 := Lib.hid (below_two HB2.out hb3)
      clear hb3 HH HT2 HB2 c0 c1
      go_wp2_with fail
      go_ret2
      exact ⟨_, _, rfl, by rw [HL.out]; exact HT3.out, HB3.out⟩
    | true =>
      have HL : Hid (ulV ms hs (x : Int) t = hs.set x (if hs[x].2 - 1 = 0 then 0 else hs[x].1, hs[x].2 - 1)) := by show _ = _; rw [HUV.out, if_pos rfl]
      clear HUV
      have HSA := Lib.hid (fun W (h : TbN W w.heap.size D' c' hs) (g : Nat) (e : D' = some ⟨g, 0, none⟩) => (TbN.set1 (e ▸ h) x hx (hs[x].2 - 1)))
      have HSB := Lib.hid (fun W (h : TbN W w.heap.size D' c' hs) (g : Nat) (e : D' = some ⟨g, 0, none⟩) => (TbN.set10 (e ▸ h) x hx 0 (hs[x].2 - 1)))
      have HRW := Lib.hid (fun W (h : TbN W w.heap.size D' c' hs) => h.o.row x hx)
      generalize hs[x] = h at *
      obtain ⟨o, d⟩ := h
      dsimp only at *
      go_wp2_with fail
      refine (HH.out _).mono ?_
      rintro e w3 ⟨rfl, hb3⟩
      have HT3 := Lib.hid (HT2.out.later hb3)
      have HB3 := Lib.hid (below_two HB2.out hb3)
      obtain ⟨g, rfl, hg, hgs, g0, g1, gf, -⟩ := HRW.out w3 HT3.out
      have HG := Lib.hid hg
      have f0 := gf (x * 2)
      have f1 := gf (x * 2 + 1)
      have HSA' := Lib.hid (HSA.out w3 HT3.out g rfl)
      have HSB' := Lib.hid (HSB.out w3 HT3.out g rfl)
      clear hb3 HH HT2 HB2 c0 c1 gf hg hgs HSA HSB HRW HT3
      by_cases h1 : d - 1 = 0
      · have HL2 : Hid (ulV ms hs (x : Int) t = hs.set x (0, d - 1)) := by show _ = _; rw [HL.out, if_pos h1]
        have t1 := bT h1
        clear HL h1
        go_wp2_with fail
        go_ret2
        exact ⟨_, _, rfl, by rw [HL2.out]; exact HSB'.out, (HB3.out.setCell HG.out _).setCell HG.out _⟩
      · have HL2 : Hid (ulV ms hs (x : Int) t = hs.set x (o, d - 1)) := by show _ = _; rw [HL.out, if_neg h1]
        have t1 := bF h1
        clear HL h1
        go_wp2_with fail
        go_ret2
        exact ⟨_, _, rfl, by rw [HL2.out]; exact HSA'.out, HB3.out.setCell HG.out _⟩
  · have hub : ulB ms hs el t = false := by unfold ulB; simp [hin]
    have HL : Hid (ulV ms hs el t = hs) := by show _ = _; unfold ulV; rw [hub]; rfl
    have hin' : decide (0 ≤ mOf ms el) = false := by simpa using hin
    rw [hin'] at HE
    rw [hub]
    clear hM hok hR hn hl hd HR hin hin' hub
    go_enter Try.func22, Try.ntmps22
    go_wp2_with fail
    refine HC.out.mono ?_
    rintro e w1 ⟨D', c', rfl, ht1, hb1⟩
    have HT1 := Lib.hid ht1
    have HB1 := Lib.hid hb1
    clear ht1 hb1 HC
    go_wp2_with fail
    refine (HE.out _ HB1.out).mono ?_
    rintro e w2 ⟨rfl, hb2⟩
    have HT2 := Lib.hid (HT1.out.later hb2)
    have HB2 := Lib.hid (below_two HB1.out hb2)
    clear hb2 HE HT1 HB1
    go_wp2_with fail
    go_ret2
    exact ⟨_, _, rfl, by rw [HL.out]; exact HT2.out, HB2.out⟩
end Go.Proofs.Ytobpnpkcafacjaa
