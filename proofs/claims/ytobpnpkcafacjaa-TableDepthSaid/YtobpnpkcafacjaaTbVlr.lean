/- What ValidTable of the reference does. -/
import Derived.Test.YtobpnpkcafacjaaTbVal
namespace Go.Proofs.Ytobpnpkcafacjaa
open Go.RowKit
set_option maxRecDepth 100000

theorem ok_bad (ms : List TM) (th : Int) (h : TH) (e : Nat) : okV ms th h e = !badV h th (tRe ms (e : Int)) := by rw [bad_ok, Bool.not_not]
set_option maxHeartbeats 4000000 in
theorem refValid_any (w : World) (A D : Option Addr) (ms : List TM) (hs : List TH) (cap c n : Nat) (th : Int) (hM : MxR w A ms) (hok : TmOk ms) (hR : TbR w D hs) (hn : n = hs.length) :
    Calls Try.prog 30 #[.slice A ms.length cap, .slice D n c, .int .i64 th] w fun e w' => e = .returned (.bool (vdV ms hs th)) ∧ Below w.heap.size w w' := by
  have HO := Lib.hid (owners_any w A ms cap hM hok)
  have hE := hok.tE
  by_cases hl : hs.length = tE ms
  · have hnE : (n : Int) = (tE ms : Int) := by omega
    have HM := Lib.hid (fun W (h : Below w.heap.size w W) => hM.later h)
    have HR := Lib.hid (fun W (h : Below w.heap.size w W) => hR.later h)
    have HMI := Lib.hid (fun (k : Nat) (h : (k : Int) < (tE ms : Int)) => mOf_in ms (k : Int) (by omega) h)
    have HB := Lib.hid (fun k hk h => vd_bad (ms := ms) (hs := hs) (th := th) k hk h)
    have HG := Lib.hid (vd_good (ms := ms) (hs := hs) (th := th) hl)
    have HRE := Lib.hid (fun (e : Int) (j : Nat) h hj => tRe_at (ms := ms) (e := e) (j := j) h hj)
    have HMO := Lib.hid (fun (k : Nat) (hk : k < (tO ms ms.length).length) => mOf_own ms k hk)
    have HLL : Hid ((tO ms ms.length).length = tE ms) := tO_len ms ms.length (Nat.le_refl _)
    have HN := Lib.hid hn
    have hn768 : n ≤ 768 := by omega
    have hE2 : tE ms = n := by omega
    rw [hE2] at HO HLL HMI
    have t0 := nF (show (n : Int) = n from rfl)
    generalize tO ms ms.length = O at *
    clear hM hR hl hn hnE hok hE hE2
    go_enter Try.func30, Try.ntmps30
    go_wp2_with fail
    refine HO.out.mono ?_
    rintro e w1 ⟨OA, oc, rfl, hr1, hb1⟩
    have HB1 := Lib.hid hb1
    have HOR := Lib.hid (fun W (h : Below w1.heap.size w1 W) => hr1.later h)
    clear hb1 hr1
    go_wp2_with fail
    clear t0
    go_loopw [8] (fun i wr => ∃ k : Nat, k ≤ n ∧ i = .int .i64 (k : Int) ∧ Hid (Below w1.heap.size w1 wr) ∧ Hid (∀ e (h : e < hs.length), e < k → okV ms th hs[e] e = true)) (fun i _ => n - (intOf i).toNat)
    case atStart => exact ⟨0, Nat.zero_le _, rfl, Below.refl _ _, fun e _ h => absurd h (Nat.not_lt_zero _)⟩
    case round =>
      obtain ⟨k, hk, rfl, hb1, HK⟩ := hrel
      have hb := Lib.hid (below_two HB1.out hb1.out)
      by_cases hlt : k < n
      · have hkh : k < hs.length := by have := HN.out; omega
        have hko : k < O.length := by have := HLL.out; omega
        obtain ⟨b, off, rfl, c0, c1⟩ := HR.out wr hb.out k hkh
        obtain ⟨b3, rfl, o0⟩ := HOR.out wr hb1.out k hko
        obtain ⟨j, hj, hmj, -⟩ := HMI.out k (by omega)
        have hjO : (O[k] : Int) = (j : Int) := (HMO.out k hko).symm.trans hmj
        rw [hjO] at o0
        obtain ⟨b', off', s, rfl, m0, m1, m2⟩ := HM.out wr hb.out j hj
        have hre := HRE.out _ j hmj hj
        have HOK : Hid (okV ms th hs[k] k = !badV hs[k] th ms[j].re) := by show _ = _; rw [ok_bad, hre]
        have HBK := Lib.hid (HB.out k hkh)
        have HKK : Hid (okV ms th hs[k] k = true → ∀ e (h : e < hs.length), e < k + 1 → okV ms th hs[e] e = true) := fun h e he hek => by
          rcases Nat.lt_or_ge e k with h1 | h1
          · exact HK.out e he h1
          · obtain rfl : e = k := by omega
            exact h
        have i0 : (0 : Int) ≤ (k : Int) := by omega
        have i1 : (k : Int) < (n : Int) := by omega
        have j0 : (0 : Int) ≤ (j : Int) := by omega
        have j1 : (j : Int) < (ms.length : Int) := by omega
        generalize okV ms th hs[k] k = ok at *
        generalize ms[j].re = re at *
        generalize hs[k] = h at *
        obtain ⟨o, d⟩ := h
        dsimp only at *
        clear hmj hre hjO
        have hT := heap_alloc_new wr (.cells #[.int .i64 o, .int .i64 d] 30)
        have q0 : (wr.alloc (.cells #[.int .i64 o, .int .i64 d] 30)).cell? ⟨wr.heap.size, 0, none⟩ = some (.int .i64 o) := cell_of_row _ wr.heap.size 0 _ _ _ hT
        have q1 : (wr.alloc (.cells #[.int .i64 o, .int .i64 d] 30)).cell? ⟨wr.heap.size, 1, none⟩ = some (.int .i64 d) := cell_of_row _ wr.heap.size 1 _ _ _ hT
        have m1' := cell_later ((Below.refl wr.heap.size wr).alloc (Nat.le_refl _) (.cells #[.int .i64 o, .int .i64 d] 30)) m1
        have o0' := cell_later ((Below.refl wr.heap.size wr).alloc (Nat.le_refl _) (.cells #[.int .i64 o, .int .i64 d] 30)) o0
        have HBX := Lib.hid (hb1.out.alloc hb1.out.size (.cells #[.int .i64 o, .int .i64 d] 30))
        clear hT m0 m1 m2 o0
        by_cases h1 : o < 0
        · have g1 : decide (o < 0) = true := by simpa using h1
          have hv : ok = false := by rw [HOK.out]; unfold badV; simp [h1]
          have HV := Lib.hid (HBK.out hv)
          go_wp2_with fail
          go_ret
          exact ⟨by rw [HV.out]; rfl, below_two HB1.out HBX.out⟩
        have g1 : decide (o < 0) = false := by simpa using h1
        by_cases h2 : th < o
        · have g2 : decide (th < o) = true := by simpa using h2
          have hv : ok = false := by rw [HOK.out]; unfold badV; simp [h2]
          have HV := Lib.hid (HBK.out hv)
          go_wp2_with fail
          go_ret
          exact ⟨by rw [HV.out]; rfl, below_two HB1.out HBX.out⟩
        have g2 : decide (th < o) = false := by simpa using h2
        by_cases h3 : d = 0
        · have t3 := bT h3
          by_cases h4 : o = 0
          · have t4 := bT h4
            have g5 : decide (d < 0) = false := by simp; omega
            have g6 : decide (1 < d) = false := by simp; omega
            have hv : ok = true := by rw [HOK.out]; unfold badV; rw [t3, t4, g1, g2, g5, g6]; rfl
            have HK3 := Lib.hid (HKK.out hv)
            clear h3 h4 hv
            go_wp2_with fail
            go_roundw
            case rel => exact ⟨k + 1, by omega, by go_num, HBX, HK3⟩
            case measure => simp [intOf]; omega
          · have t4 := bF h4
            have hv : ok = false := by rw [HOK.out]; unfold badV; rw [t3, t4]; simp
            have HV := Lib.hid (HBK.out hv)
            clear h3 h4 hv
            go_wp2_with fail
            go_ret
            exact ⟨by rw [HV.out]; rfl, below_two HB1.out HBX.out⟩
        have t3 := bF h3
        by_cases h4 : o = 0
        · have t4 := bT h4
          have hv : ok = false := by rw [HOK.out]; unfold badV; rw [t3, t4]; simp
          have HV := Lib.hid (HBK.out hv)
          clear h3 h4 hv
          go_wp2_with fail
          go_ret
          exact ⟨by rw [HV.out]; rfl, below_two HB1.out HBX.out⟩
        have t4 := bF h4
        by_cases h5 : d < 0
        · have g5 : decide (d < 0) = true := by simpa using h5
          have hv : ok = false := by rw [HOK.out]; unfold badV; simp [h5]
          have HV := Lib.hid (HBK.out hv)
          clear h3 h4 hv
          go_wp2_with fail
          go_ret
          exact ⟨by rw [HV.out]; rfl, below_two HB1.out HBX.out⟩
        have g5 : decide (d < 0) = false := by simpa using h5
        by_cases h6 : 1 < d
        · have g6 : decide (1 < d) = true := by simpa using h6
          cases re with
          | true =>
            have hv : ok = true := by rw [HOK.out]; unfold badV; rw [t3, t4, g1, g2, g5]; simp
            have HK3 := Lib.hid (HKK.out hv)
            clear h3 h4 hv
            go_wp2_with fail
            go_roundw
            case rel => exact ⟨k + 1, by omega, by go_num, HBX, HK3⟩
            case measure => simp [intOf]; omega
          | false =>
            have hv : ok = false := by rw [HOK.out]; unfold badV; simp [h6]
            have HV := Lib.hid (HBK.out hv)
            clear h3 h4 hv
            go_wp2_with fail
            go_ret
            exact ⟨by rw [HV.out]; rfl, below_two HB1.out HBX.out⟩
        · have g6 : decide (1 < d) = false := by simpa using h6
          have hv : ok = true := by rw [HOK.out]; unfold badV; rw [t3, t4, g1, g2, g5, g6]; rfl
          have HK3 := Lib.hid (HKK.out hv)
          clear h3 h4 hv
          go_wp2_with fail
          go_roundw
          case rel => exact ⟨k + 1, by omega, by go_num, HBX, HK3⟩
          case measure => simp [intOf]; omega
      · have HV := Lib.hid (HG.out fun e he => HK.out e he (by have := HN.out; omega))
        obtain rfl : k = n := by omega
        go_wp2_with fail
        go_ret
        exact ⟨by rw [HV.out]; rfl, hb.out⟩
  · have hnE : (tE ms : Int) ≠ (n : Int) := by omega
    have HV := Lib.hid (vd_len th hl)
    have t0 := nT hnE
    clear hM hok hR hn hl hnE
    generalize tE ms = E at *
    go_enter Try.func30, Try.ntmps30
    go_wp2_with fail
    refine HO.out.mono ?_
    rintro e w1 ⟨OA, oc, rfl, hr1, hb1⟩
    have HB1 := Lib.hid hb1
    clear hb1 hr1
    go_wp2_with fail
    go_ret
    exact ⟨by rw [HV.out]; rfl, HB1.out⟩
end Go.Proofs.Ytobpnpkcafacjaa
