/- What the small functions of package table do: width, holds, depthFits, Elements, Base, MutexOf, exists, New. -/
import Derived.Test.YtobpnpkcafacjaaTbM
import Derived.Test.YtobpnpkcafacjaaTbDp
namespace Go.Proofs.Ytobpnpkcafacjaa
open Go.RowKit
set_option maxRecDepth 100000

theorem width_any (s : ByteArray) (r : Bool) (n : Nat) (w : World) (h : n ≤ 64) :
    Calls Try.prog 31 #[.agg #[.string s, .bool r, .int .i64 (n : Int)]] w fun e w' => e = .returned (.int .i64 ((TM.w ⟨n, r⟩ : Nat) : Int)) ∧ Below w.heap.size w w' := by
  have HV : Hid (((TM.w ⟨n, r⟩ : Nat) : Int) = min (max (n : Int) 1) 64) := by show _ = _; unfold TM.w; dsimp only; omega
  go_enter Try.func31, Try.ntmps31
  go_wp2
  all_goals
    go_ret
    exact ⟨ret_int (by have := HV.out; omega), (Below.refl _ _).alloc (Nat.le_refl _) _⟩
theorem holds_any (h : TH) (t : Int) (w : World) (ht : t ≤ 4611686018427387904) (ht0 : -9223372036854775808 ≤ t) :
    Calls Try.prog 34 #[.agg #[.int .i64 h.1, .int .i64 h.2], .int .i64 t] w fun e w' => e = .returned (.bool (hlV h t)) ∧ Below w.heap.size w w' := by
  by_cases h0 : 0 ≤ t
  · by_cases h1 : h.1 = t + 1
    · have HV : Hid (hlV h t = true) := by show _ = _; unfold hlV; simp [h0, h1]
      have t1 := bT h1
      go_enter Try.func34, Try.ntmps34
      go_wp2
      go_ret
      exact ⟨by rw [HV.out]; rfl, (Below.refl _ _).alloc (Nat.le_refl _) _⟩
    · have HV : Hid (hlV h t = false) := by show _ = _; unfold hlV; simp [h1]
      have t1 := bF h1
      go_enter Try.func34, Try.ntmps34
      go_wp2
      go_ret
      exact ⟨by rw [HV.out]; rfl, (Below.refl _ _).alloc (Nat.le_refl _) _⟩
  · have HV : Hid (hlV h t = false) := by show _ = _; unfold hlV; simp [h0]
    go_enter Try.func34, Try.ntmps34
    go_wp2
    go_ret
    exact ⟨by rw [HV.out]; rfl, (Below.refl _ _).alloc (Nat.le_refl _) _⟩
theorem depthFits_any (h : TH) (r : Bool) (w : World) :
    Calls Try.prog 35 #[.agg #[.int .i64 h.1, .int .i64 h.2], .bool r] w fun e w' => e = .returned (.bool (dfV h r)) ∧ Below w.heap.size w w' := by
  obtain ⟨a, b⟩ := h
  by_cases h0 : a = 0
  · have HV : Hid (dfV (a, b) r = (b == 0)) := by show _ = _; unfold dfV; rw [if_pos h0]
    have t0 := bT h0
    go_enter Try.func35, Try.ntmps35
    go_wp2
    go_ret
    exact ⟨by rw [HV.out]; rfl, (Below.refl _ _).alloc (Nat.le_refl _) _⟩
  · have t0 := bF h0
    cases r with
    | true =>
      have HV : Hid (dfV (a, b) true = decide (1 ≤ b)) := by show _ = _; unfold dfV; rw [if_neg h0, if_pos rfl]
      go_enter Try.func35, Try.ntmps35
      go_wp2
      go_ret
      exact ⟨by rw [HV.out]; rfl, (Below.refl _ _).alloc (Nat.le_refl _) _⟩
    | false =>
      have HV : Hid (dfV (a, b) false = (b == 1)) := by show _ = _; unfold dfV; rw [if_neg h0, if_neg (by simp)]
      go_enter Try.func35, Try.ntmps35
      go_wp2
      go_ret
      exact ⟨by rw [HV.out]; rfl, (Below.refl _ _).alloc (Nat.le_refl _) _⟩

set_option maxHeartbeats 1000000 in
theorem elements_any (w : World) (A : Option Addr) (ms : List TM) (cap : Nat) (hM : MxR w A ms) (hok : TmOk ms) :
    Calls Try.prog 11 #[.slice A ms.length cap] w fun e w' => e = .returned (.int .i64 (tE ms : Int)) ∧ Below w.heap.size w w' := by
  have HM := Lib.hid (fun W (h : Below w.heap.size w W) => hM.later h)
  have HOK := Lib.hid hok
  have hlen := hok.1
  clear hM hok
  go_enter Try.func11, Try.ntmps11
  go_wp2_with fail
  go_loopw [3, 8] (fun v i wr => ∃ k : Nat, k ≤ ms.length ∧ i = .int .i64 (k : Int) ∧ v = .int .i64 (tB ms k : Int) ∧ Hid (Below w.heap.size w wr)) (fun _ i _ => ms.length - (intOf i).toNat)
  case atStart => exact ⟨0, Nat.zero_le _, rfl, rfl, Below.refl _ _⟩
  case round =>
    obtain ⟨k, hk, rfl, rfl, HB⟩ := hrel
    have hle := HOK.out.le k hk
    by_cases hlt : k < ms.length
    · obtain ⟨b, off, s, rfl, c0, c1, c2⟩ := HM.out wr HB k hlt
      have HW := Lib.hid (fun W => width_any s ms[k].re ms[k].sz W (HOK.out.2 k hlt))
      have HS := Lib.hid (tB_succ ms k hlt)
      have HL := HOK.out.le (k + 1) hlt
      have i0 : (0 : Int) ≤ (k : Int) := by omega
      have i1 : (k : Int) < (ms.length : Int) := by omega
      have hw64 : ms[k].w ≤ 64 := by rw [HS.out] at HL; have := HOK.out.2 k hlt; unfold TM.w; omega
      go_wp2_with fail
      have hb1 : Below wr.heap.size wr (wr.alloc (.cells #[.string s, .bool ms[k].re, .int .i64 (ms[k].sz : Int)] 33)) := (Below.refl _ _).alloc (Nat.le_refl _) _
      refine (HW.out _).mono ?_
      rintro e w2 ⟨rfl, hb2⟩
      have HB2 := Lib.hid (below_two HB (below_two hb1 hb2))
      clear hb1 hb2 HW c0 c1 c2
      generalize ms[k].w = q at *
      go_wp2_with fail
      go_roundw
      case rel => exact ⟨k + 1, hlt, by go_num, by rw [HS.out]; go_num, HB2.out⟩
      case measure => simp [intOf]; omega
    · obtain rfl : k = ms.length := by omega
      go_wp2_with fail
      go_ret
      exact ⟨rfl, HB⟩

set_option maxHeartbeats 1000000 in
theorem base_any (w : World) (A : Option Addr) (ms : List TM) (cap : Nat) (m : Int) (hM : MxR w A ms) (hok : TmOk ms) (hc : ms.length ≤ cap) (hm : I64' m) :
    Calls Try.prog 14 #[.slice A ms.length cap, .int .i64 m] w fun e w' => e = .returned (.int .i64 (bOf ms m)) ∧ Below w.heap.size w w' := by
  unfold I64' at hm
  have hlen := hok.1
  by_cases h : 0 ≤ m ∧ m < (ms.length : Int)
  · obtain ⟨h0, h1⟩ := h
    obtain ⟨k, rfl⟩ : ∃ k : Nat, m = (k : Int) := ⟨m.toNat, by omega⟩
    have HV : Hid (bOf ms (k : Int) = (tE (ms.take k) : Int)) := by show _ = _; unfold bOf; rw [if_pos ⟨h0, h1⟩, tB_take ms k (by omega)]; rfl
    have hl : (ms.take k).length = k := by rw [List.length_take]; omega
    have HE := elements_any w A (ms.take k) cap (hM.take k) (hok.take k)
    rw [hl] at HE
    have HEH := Lib.hid HE
    obtain ⟨b, off, s, rfl, -⟩ := hM k (by omega)
    clear hM hok HE hl
    go_enter Try.func14, Try.ntmps14
    go_wp2_with fail
    refine HEH.out.mono ?_
    rintro e w1 ⟨rfl, hb1⟩
    have HB1 := Lib.hid hb1
    clear hb1
    go_wp2_with fail
    go_ret
    exact ⟨by rw [HV.out]; rfl, HB1.out⟩
  · have HV : Hid (bOf ms m = -1) := by show _ = _; unfold bOf; rw [if_neg h]
    clear hM hok
    by_cases h0 : m < 0
    · go_enter Try.func14, Try.ntmps14
      go_wp2_with fail
      go_ret
      exact ⟨by rw [HV.out]; rfl, Below.refl _ _⟩
    · have h1 : (ms.length : Int) ≤ m := by omega
      go_enter Try.func14, Try.ntmps14
      go_wp2_with fail
      go_ret
      exact ⟨by rw [HV.out]; rfl, Below.refl _ _⟩

set_option maxHeartbeats 1000000 in
theorem mutexOf_any (w : World) (A : Option Addr) (ms : List TM) (cap : Nat) (el : Int) (hM : MxR w A ms) (hok : TmOk ms) (hm : I64' el) :
    Calls Try.prog 13 #[.slice A ms.length cap, .int .i64 el] w fun e w' => e = .returned (.int .i64 (mOf ms el)) ∧ Below w.heap.size w w' := by
  unfold I64' at hm
  by_cases h0 : el < 0
  · have HV := Lib.hid (mOf_neg ms el h0)
    clear hM hok
    go_enter Try.func13, Try.ntmps13
    go_wp2_with fail
    go_ret
    exact ⟨by rw [HV.out]; rfl, Below.refl _ _⟩
  obtain ⟨x, rfl⟩ : ∃ x : Nat, el = (x : Int) := ⟨el.toNat, by omega⟩
  have HM := Lib.hid (fun W (h : Below w.heap.size w W) => hM.later h)
  have HOK := Lib.hid hok
  have hlen := hok.1
  have hx0 : ¬ ((x : Int) < 0) := by omega
  clear hM hok h0
  go_enter Try.func13, Try.ntmps13
  go_wp2_with fail
  go_loopw [5, 12] (fun v i wr => ∃ k : Nat, k ≤ ms.length ∧ tB ms k ≤ x ∧ i = .int .i64 (k : Int) ∧ v = .int .i64 (tB ms k : Int) ∧ Hid (Below w.heap.size w wr)) (fun _ i _ => ms.length - (intOf i).toNat)
  case atStart => exact ⟨0, Nat.zero_le _, Nat.zero_le _, rfl, rfl, Below.refl _ _⟩
  case round =>
    obtain ⟨k, hk, hkx, rfl, rfl, HB⟩ := hrel
    have hle := HOK.out.le k hk
    by_cases hlt : k < ms.length
    · obtain ⟨b, off, s, rfl, c0, c1, c2⟩ := HM.out wr HB k hlt
      have HW := Lib.hid (fun W => width_any s ms[k].re ms[k].sz W (HOK.out.2 k hlt))
      have HS := Lib.hid (tB_succ ms k hlt)
      have HL := HOK.out.le (k + 1) hlt
      have i0 : (0 : Int) ≤ (k : Int) := by omega
      have i1 : (k : Int) < (ms.length : Int) := by omega
      have hw64 : ms[k].w ≤ 64 := by rw [HS.out] at HL; have := HOK.out.2 k hlt; unfold TM.w; omega
      go_wp2_with fail
      have hb1 : Below wr.heap.size wr (wr.alloc (.cells #[.string s, .bool ms[k].re, .int .i64 (ms[k].sz : Int)] 33)) := (Below.refl _ _).alloc (Nat.le_refl _) _
      refine (HW.out _).mono ?_
      rintro e w2 ⟨rfl, hb2⟩
      have HB2 := Lib.hid (below_two HB (below_two hb1 hb2))
      clear hb1 hb2 HW c0 c1 c2
      by_cases hin : x < tB ms (k + 1)
      · have HV := Lib.hid (mOf_at ms x k hlt hkx hin)
        rw [HS.out] at hin
        generalize ms[k].w = q at *
        have hin' : (x : Int) < (tB ms k : Int) + (q : Int) := by omega
        clear hin
        go_wp2_with fail
        go_ret
        exact ⟨by rw [HV.out]; rfl, HB2.out⟩
      · have hge : tB ms (k + 1) ≤ x := by omega
        have hin2 := hin
        rw [HS.out] at hin2
        generalize ms[k].w = q at *
        have hin' : ¬ (x : Int) < (tB ms k : Int) + (q : Int) := by omega
        clear hin hin2
        go_wp2_with fail
        go_roundw
        case rel => exact ⟨k + 1, hlt, hge, by go_num, by rw [HS.out]; go_num, HB2.out⟩
        case measure => simp [intOf]; omega
    · obtain rfl : k = ms.length := by omega
      have HV := Lib.hid (mOf_out ms (x : Int) (by unfold tE; omega))
      go_wp2_with fail
      go_ret
      exact ⟨by rw [HV.out]; rfl, HB⟩

theorem exists_any (w : World) (A D : Option Addr) (ms : List TM) (cap n c : Nat) (el : Int) (hM : MxR w A ms) (hok : TmOk ms) (hm : I64' el) (hn : n = tE ms) :
    Calls Try.prog 33 #[.slice A ms.length cap, .slice D n c, .int .i64 el] w fun e w' => e = .returned (.bool (decide (0 ≤ mOf ms el))) ∧ Below w.heap.size w w' := by
  have HM := Lib.hid (mutexOf_any w A ms cap el hM hok hm)
  have hb := mOf_nonneg ms el
  have hl := hok.tE
  clear hM hok
  by_cases h : 0 ≤ mOf ms el
  · have h2 := (hb.1 h).2
    rw [← hn] at h2
    have HV : Hid (decide (0 ≤ mOf ms el) = true) := by show _ = _; simp [h]
    clear hb hn hl
    generalize mOf ms el = q at *
    go_enter Try.func33, Try.ntmps33
    go_wp2_with fail
    refine HM.out.mono ?_
    rintro e w1 ⟨rfl, hb1⟩
    have HB1 := Lib.hid hb1
    clear hb1
    go_wp2_with fail
    go_ret
    exact ⟨by rw [HV.out]; rfl, HB1.out⟩
  · have HV : Hid (decide (0 ≤ mOf ms el) = false) := by show _ = _; simp [h]
    have h' : mOf ms el < 0 := by omega
    clear hb hn hl
    generalize mOf ms el = q at *
    go_enter Try.func33, Try.ntmps33
    go_wp2_with fail
    refine HM.out.mono ?_
    rintro e w1 ⟨rfl, hb1⟩
    have HB1 := Lib.hid hb1
    clear hb1
    go_wp2_with fail
    go_ret
    exact ⟨by rw [HV.out]; rfl, HB1.out⟩
end Go.Proofs.Ytobpnpkcafacjaa
