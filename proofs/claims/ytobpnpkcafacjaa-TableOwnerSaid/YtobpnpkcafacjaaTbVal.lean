/- What Valid of package table, and ValidTable and SameTable of the reference do. -/
import Derived.Test.YtobpnpkcafacjaaTbDep
import Derived.Deep.RegionLaw
import Derived.RegionTactic
import Derived.Deep.RegionHeld3
import Derived.Deep.QuietTactic
import Derived.BigQuiet
namespace Go.Proofs.Ytobpnpkcafacjaa
open Go.RowKit
set_option maxRecDepth 100000

set_option maxHeartbeats 1000000 in
theorem same_any (w : World) (A B : Option Addr) (hs : List TH) (c c' n n' : Nat) (hA : TbR w A hs) (hB : TbR w B hs) (hn : n = hs.length) (hn' : n' = hs.length) (hle : hs.length ≤ 1000000) :
    Calls Try.prog 24 #[.slice A n c, .slice B n' c'] w fun e w' => e = .returned (.bool true) ∧ Below w.heap.size w w' := by
  have HA := Lib.hid (fun W (h : Below w.heap.size w W) => hA.later h)
  have HB := Lib.hid (fun W (h : Below w.heap.size w W) => hB.later h)
  have HN := Lib.hid hn
  have hn2 : n' = n := by omega
  rw [← hn] at hle
  subst hn2
  have t0 := nF (show ((n' : Nat) : Int) = n' from rfl)
  clear hA hB hn hn'
  go_enter Try.func24, Try.ntmps24
  go_wp2_with fail
  clear t0
  go_loopw [5] (fun i wr => ∃ k : Nat, k ≤ n' ∧ i = .int .i64 (k : Int) ∧ Hid (Below w.heap.size w wr)) (fun i _ => n' - (intOf i).toNat)
  case atStart => exact ⟨0, Nat.zero_le _, rfl, Below.refl _ _⟩
  case round =>
    obtain ⟨k, hk, rfl, hb⟩ := hrel
    by_cases hlt : k < n'
    · have hkh : k < hs.length := by have := HN.out; omega
      obtain ⟨b, off, rfl, c0, c1⟩ := HA.out wr hb.out k hkh
      obtain ⟨b', off', rfl, d0, d1⟩ := HB.out wr hb.out k hkh
      generalize hs[k] = h at *
      obtain ⟨o, d⟩ := h
      dsimp only at *
      have i0 : (0 : Int) ≤ (k : Int) := by omega
      have i1 : (k : Int) < (n' : Int) := by omega
      go_wp2_with fail
      go_quiet (fail)
      go_wp2_with fail
      go_roundw
      case rel => exact ⟨k + 1, by omega, by go_num, below_drewN hb.out _⟩
      case measure => simp [intOf]; omega
    · obtain rfl : k = n' := by omega
      go_wp2_with fail
      go_ret
      exact ⟨rfl, hb.out⟩

theorem vd_len {ms : List TM} {hs : List TH} (th : Int) (h : hs.length ≠ tE ms) : vdV ms hs th = false := by unfold vdV; simp [h]
theorem vd_bad {ms : List TM} {hs : List TH} {th : Int} (k : Nat) (hk : k < hs.length) (h : okV ms th hs[k] k = false) : vdV ms hs th = false := by
  unfold vdV
  rw [decide_eq_false (p := ∀ e (h : e < hs.length), okV ms th hs[e] e = true) (fun h2 => by have := h2 k hk; rw [h] at this; cases this), Bool.and_false]
theorem vd_good {ms : List TM} {hs : List TH} {th : Int} (hl : hs.length = tE ms) (h : ∀ e (h : e < hs.length), okV ms th hs[e] e = true) : vdV ms hs th = true := by
  unfold vdV
  rw [decide_eq_true hl, decide_eq_true h]
  rfl

set_option maxHeartbeats 2000000 in
theorem valid_any (w : World) (A D : Option Addr) (ms : List TM) (hs : List TH) (cap c n : Nat) (th : Int) (hM : MxR w A ms) (hok : TmOk ms) (hR : TbR w D hs) (hn : n = hs.length) :
    Calls Try.prog 29 #[.slice A ms.length cap, .slice D n c, .int .i64 th] w fun e w' => e = .returned (.bool (vdV ms hs th)) ∧ Below w.heap.size w w' := by
  have HEL := Lib.hid (elements_any w A ms cap hM hok)
  have hE := hok.tE
  by_cases hl : hs.length = tE ms
  · have hnE : (n : Int) = (tE ms : Int) := by omega
    have HM := Lib.hid (fun W (h : Below w.heap.size w W) => hM.later h)
    have HR := Lib.hid (fun W (h : Below w.heap.size w W) => hR.later h)
    have HMO := Lib.hid (fun W (h : Below w.heap.size w W) (k : Nat) (hk : k ≤ 768) => mutexOf_any W A ms cap (k : Int) (hM.later h) hok (by unfold I64'; omega))
    have HMI := Lib.hid (fun (k : Nat) (h : (k : Int) < (tE ms : Int)) => mOf_in ms (k : Int) (by omega) h)
    have HB := Lib.hid (fun k hk h => vd_bad (ms := ms) (hs := hs) (th := th) k hk h)
    have HG := Lib.hid (vd_good (ms := ms) (hs := hs) (th := th) hl)
    have HRE := Lib.hid (fun (e : Int) (j : Nat) h hj => tRe_at (ms := ms) (e := e) (j := j) h hj)
    have HN := Lib.hid hn
    have hn768 : n ≤ 768 := by omega
    have t0 := nF hnE
    have HNE := Lib.hid hnE
    rw [← hnE] at HEL HMI
    have t0 := nF (show (n : Int) = n from rfl)
    clear hM hR hl hn hnE hok hE
    go_enter Try.func29, Try.ntmps29
    go_wp2_with fail
    refine HEL.out.mono ?_
    rintro e w1 ⟨rfl, hb1⟩
    have HB1 := Lib.hid hb1
    clear hb1
    go_wp2_with fail
    clear t0
    go_loopw [16] (fun i wr => ∃ k : Nat, k ≤ n ∧ i = .int .i64 (k : Int) ∧ Hid (Below w.heap.size w wr) ∧ Hid (∀ e (h : e < hs.length), e < k → okV ms th hs[e] e = true)) (fun i _ => n - (intOf i).toNat)
    case atStart => exact ⟨0, Nat.zero_le _, rfl, HB1, fun e _ h => absurd h (Nat.not_lt_zero _)⟩
    case round =>
      obtain ⟨k, hk, rfl, hb, HK⟩ := hrel
      by_cases hlt : k < n
      · have hkh : k < hs.length := by have := HN.out; omega
        obtain ⟨b, off, rfl, c0, c1⟩ := HR.out wr hb.out k hkh
        obtain ⟨j, hj, hmj, -⟩ := HMI.out k (by omega)
        obtain ⟨b', off', s, rfl, m0, m1, m2⟩ := HM.out wr hb.out j hj
        have hre := HRE.out _ j hmj hj
        have HOK : Hid (okV ms th hs[k] k = (!decide (hs[k].1 < 0) && !decide (th < hs[k].1) && dfV hs[k] ms[j].re)) := by show _ = _; unfold okV; rw [hre]
        have HBK := Lib.hid (HB.out k hkh)
        have HKK : Hid (okV ms th hs[k] k = true → ∀ e (h : e < hs.length), e < k + 1 → okV ms th hs[e] e = true) := fun h e he hek => by
          rcases Nat.lt_or_ge e k with h1 | h1
          · exact HK.out e he h1
          · obtain rfl : e = k := by omega
            exact h
        have HMOK := Lib.hid (fun W h => HMO.out W h k (by omega))
        rw [hmj] at HMOK
        have HDF := Lib.hid (fun W => depthFits_any hs[k] ms[j].re W)
        have HDV : Hid (dfV hs[k] ms[j].re = dfV hs[k] ms[j].re) := rfl
        have i0 : (0 : Int) ≤ (k : Int) := by omega
        have i1 : (k : Int) < (n : Int) := by omega
        have j0 : (0 : Int) ≤ (j : Int) := by omega
        have j1 : (j : Int) < (ms.length : Int) := by omega
        generalize okV ms th hs[k] k = ok at *
        generalize dfV hs[k] ms[j].re = df at *
        generalize ms[j].re = re at *
        generalize hs[k] = h at *
        obtain ⟨o, d⟩ := h
        dsimp only at *
        clear hmj hre
        go_wp2_with fail
        have hT := heap_alloc_new wr (.cells #[.int .i64 o, .int .i64 d] 30)
        have q0 : (wr.alloc (.cells #[.int .i64 o, .int .i64 d] 30)).cell? ⟨wr.heap.size, 0, none⟩ = some (.int .i64 o) := cell_of_row _ wr.heap.size 0 _ _ _ hT
        have q1 : (wr.alloc (.cells #[.int .i64 o, .int .i64 d] 30)).cell? ⟨wr.heap.size, 1, none⟩ = some (.int .i64 d) := cell_of_row _ wr.heap.size 1 _ _ _ hT
        have m1' := cell_later ((Below.refl wr.heap.size wr).alloc (Nat.le_refl _) (.cells #[.int .i64 o, .int .i64 d] 30)) m1
        have HBX := Lib.hid (hb.out.alloc hb.out.size (.cells #[.int .i64 o, .int .i64 d] 30))
        clear hT m0 m1 m2 c0 c1
        generalize hX : wr.alloc (.cells #[.int .i64 o, .int .i64 d] 30) = wx at *
        clear hX
        generalize wr.heap.size = T at *
        by_cases ho : o < 0
        · have hd : decide (o < 0) = true := by simpa using ho
          have hv : ok = false := by rw [HOK.out, hd]; rfl
          have HV := Lib.hid (HBK.out hv)
          go_quiet (fail)
          go_wp2_with fail
          go_ret
          exact ⟨by rw [HV.out]; rfl, below_drewN HBX.out _⟩
        have hd : decide (o < 0) = false := by simpa using ho
        by_cases hto : th < o
        · have hd2 : decide (th < o) = true := by simpa using hto
          have hv : ok = false := by rw [HOK.out, hd, hd2]; rfl
          have HV := Lib.hid (HBK.out hv)
          go_quiet (fail)
          go_wp2_with fail
          go_ret
          exact ⟨by rw [HV.out]; rfl, below_drewN HBX.out _⟩
        have hd2 : decide (th < o) = false := by simpa using hto
        have HV2 : Hid (ok = df) := by show _ = _; rw [HOK.out, hd, hd2]; rfl
        have hbd := HBX.out
        go_region_held3 (fun W => W.cell? ⟨T, 0, none⟩ = some (.int .i64 o) ∧ W.cell? ⟨T, 1, none⟩ = some (.int .i64 d) ∧ W.cell? ⟨b', off' + j * 3 + 1, none⟩ = some (.bool re) ∧ Below w.heap.size w W)
          (refine ⟨?_, ?_, ?_, ?_⟩ <;> first | assumption | (refine Below.drew ?_; assumption) | (simp [*]; done))
          (first
            | (go_at_call 13; obtain ⟨k0, k1, k2, k3⟩ := ‹_ ∧ _ ∧ _ ∧ Below w.heap.size w _›; refine (HMOK.out _ k3).mono ?_; rintro e w3 ⟨rfl, hb3⟩; have r0 := cell_later hb3 k0; have r1 := cell_later hb3 k1; have r2 := cell_later hb3 k2; have r3 := below_two k3 hb3; clear k0 k1 k2 k3 hb3)
            | (go_at_call 35; obtain ⟨k0, k1, k2, k3⟩ := ‹_ ∧ _ ∧ _ ∧ Below w.heap.size w _›; refine (HDF.out _).mono ?_; rintro e w3 ⟨rfl, hb3⟩; have r0 := cell_later hb3 k0; have r1 := cell_later hb3 k1; have r2 := cell_later hb3 k2; have r3 := below_two k3 hb3; clear k0 k1 k2 k3 hb3))
        have HR3 := Lib.hid r3
        clear r0 r1 r2 r3
        cases df with
        | true =>
          have HK3 := Lib.hid (HKK.out HV2.out)
          go_wp2_with fail
          go_roundw
          case rel => exact ⟨k + 1, by omega, by go_num, HR3, HK3⟩
          case measure => simp [intOf]; omega
        | false =>
          have HV := Lib.hid (HBK.out HV2.out)
          go_wp2_with fail
          go_ret
          exact ⟨by rw [HV.out]; rfl, HR3.out⟩
      · have HV := Lib.hid (HG.out fun e he => HK.out e he (by have := HN.out; omega))
        obtain rfl : k = n := by omega
        go_wp2_with fail
        go_ret
        exact ⟨by rw [HV.out]; rfl, hb.out⟩
  · have hnE : (n : Int) ≠ (tE ms : Int) := by omega
    have HV := Lib.hid (vd_len th hl)
    have t0 := nT hnE
    clear hM hok hR hn hl hnE
    generalize tE ms = E at *
    go_enter Try.func29, Try.ntmps29
    go_wp2_with fail
    refine HEL.out.mono ?_
    rintro e w1 ⟨rfl, hb1⟩
    have HB1 := Lib.hid hb1
    clear hb1
    go_wp2_with fail
    go_ret
    exact ⟨by rw [HV.out]; rfl, HB1.out⟩
end Go.Proofs.Ytobpnpkcafacjaa
