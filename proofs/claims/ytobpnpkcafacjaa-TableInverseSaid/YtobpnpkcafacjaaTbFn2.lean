/- What New, clone, Free, Lock and Unlock of package table do. -/
import Derived.Test.YtobpnpkcafacjaaTbFn1
import Derived.Test.YtobpnpkcafacjaaTbLaw
namespace Go.Proofs.Ytobpnpkcafacjaa
open Go.RowKit
set_option maxRecDepth 100000

theorem new_any (w : World) (A : Option Addr) (ms : List TM) (cap : Nat) (hM : MxR w A ms) (hok : TmOk ms) :
    Calls Try.prog 12 #[.slice A ms.length cap] w fun e w' => ∃ D c, e = .returned (.slice D (tE ms) c) ∧ TbN w' w.heap.size D c (List.replicate (tE ms) (0, 0)) ∧ Below w.heap.size w w' := by
  have HE := Lib.hid (elements_any w A ms cap hM hok)
  have hle := hok.tE
  clear hM hok
  generalize tE ms = n at *
  go_enter Try.func12, Try.ntmps12
  go_wp2_with fail
  refine HE.out.mono ?_
  rintro e w1 ⟨rfl, hb1⟩
  have HB1 := Lib.hid hb1
  clear hb1 HE
  go_wp2_with (refine wpList_make_tb _ rfl _ _ rfl n rfl rfl (by omega) _ rfl ?_; intro w2 ht hb2 hz)
  have HT := Lib.hid ht
  have HB2 := Lib.hid (below_two HB1.out hb2)
  have hs1 := HB1.out.size
  clear ht hb2 hz
  go_wp2_with fail
  go_ret
  exact ⟨_, _, rfl, HT.out.base hs1, HB2.out⟩

theorem clone_any (w : World) (A : Option Addr) (c n : Nat) (hs : List TH) (hR : TbV w A c hs) (hn : n = hs.length) (hle : hs.length ≤ 1000000) :
    Calls Try.prog 32 #[.slice A n c] w fun e w' => ∃ D c', e = .returned (.slice D n c') ∧ TbN w' w.heap.size D c' hs ∧ Below w.heap.size w w' := by
  have hcl := hR.le
  have hnil := hR.nil
  have HR := Lib.hid hR
  have HN := Lib.hid hn
  rw [← hn] at hcl hle
  clear hR hn
  go_enter Try.func32, Try.ntmps32
  cases A with
  | none =>
    obtain rfl := hnil rfl
    obtain rfl : n = 0 := by omega
    go_wp2_with fail
    go_ret
    have h0 : hs = [] := List.length_eq_zero_iff.1 HN.out.symm
    exact ⟨none, 0, rfl, ⟨.inl h0, by rw [h0]; exact Nat.le_refl _, fun _ => rfl⟩, Below.refl _ _⟩
  | some a =>
    obtain ⟨b, off, ao⟩ := a
    go_wp2_with (refine wpList_append_tb _ rfl _ _ rfl _ rfl _ n c hs rfl HN.out HR.out (by rw [← HN.out]; omega) ?_; intro D c' w1 ht hb1)
    go_ret
    exact ⟨_, _, rfl, ht, hb1⟩

/-- reentrant, at an element -/
theorem tRe_at {ms : List TM} {e : Int} {j : Nat} (h : mOf ms e = (j : Int)) (hj : j < ms.length) : tRe ms e = ms[j].re := by
  unfold tRe
  rw [h, Int.toNat_natCast, List.getElem?_eq_getElem hj]
  rfl

set_option maxHeartbeats 1000000 in
theorem free_any (w : World) (A D : Option Addr) (ms : List TM) (hs : List TH) (cap c n : Nat) (el t : Int) (hM : MxR w A ms) (hok : TmOk ms) (hR : TbV w D c hs) (hn : n = hs.length) (hl : hs.length = tE ms) (he : I64' el) (ht0 : -9223372036854775808 ≤ t) (ht : t ≤ 4611686018427387904) :
    Calls Try.prog 25 #[.slice A ms.length cap, .slice D n c, .int .i64 el, .int .i64 t] w fun e w' => e = .returned (.bool (frV ms hs el t)) ∧ Below w.heap.size w w' := by
  have HX := Lib.hid (fun W (h : Below w.heap.size w W) => exists_any W A D ms cap n c el (hM.later h) hok he (hn.trans hl))
  have HMO := Lib.hid (fun W (h : Below w.heap.size w W) => mutexOf_any W A ms cap el (hM.later h) hok he)
  have HH := Lib.hid (fun W h => holds_any h t W ht ht0)
  by_cases ht1 : t < 0
  · have HV : Hid (frV ms hs el t = false) := by show _ = _; unfold frV; simp; omega
    clear hM hok hR hn hl HX HMO HH
    go_enter Try.func25, Try.ntmps25
    go_wp2_with fail
    go_ret
    exact ⟨by rw [HV.out]; rfl, Below.refl _ _⟩
  by_cases hin : 0 ≤ mOf ms el
  · obtain ⟨h0, h1⟩ := (mOf_nonneg ms el).1 hin
    obtain ⟨j, hj, hmj, -⟩ := mOf_in ms el h0 h1
    have hre := tRe_at hmj hj
    obtain ⟨x, rfl⟩ : ∃ x : Nat, el = (x : Int) := ⟨el.toNat, by omega⟩
    have hx : x < hs.length := by omega
    obtain ⟨b, off, rfl, c0, c1⟩ := hR.r x hx
    obtain ⟨b', off', s, rfl, m0, m1, m2⟩ := hM j hj
    have hat : tAt hs (x : Int) = hs[x] := (tAt_mem (e := (x : Int)) (by simpa using hx)).2
    have HFV : Hid (frV ms hs (x : Int) t = (hs[x].1 == 0 || (hs[x].1 == t + 1 && ms[j].re))) := by show _ = _; unfold frV; rw [hat, hre]; simp [hin]; omega
    have hin' : decide (0 ≤ mOf ms (x : Int)) = true := by simpa using hin
    rw [hin'] at HX
    have HH2 := HH.out
    rw [hmj] at HMO
    have i0 : (0 : Int) ≤ (j : Int) := by omega
    have i1 : (j : Int) < (ms.length : Int) := by omega
    have x0 : (0 : Int) ≤ (x : Int) := by omega
    have x1 : (x : Int) < (n : Int) := by omega
    have HH3 := Lib.hid (HH2 · hs[x])
    generalize hs[x] = h at *
    generalize ms[j].re = re at *
    obtain ⟨o, d⟩ := h
    dsimp only at *
    have HC := Lib.hid (fun W (hb : Below w.heap.size w W) => (⟨cell_later hb c0, cell_later hb c1, cell_later hb m1⟩ : W.cell? ⟨b, off + x * 2, none⟩ = some (.int .i64 o) ∧ W.cell? ⟨b, off + x * 2 + 1, none⟩ = some (.int .i64 d) ∧ W.cell? ⟨b', off' + j * 3 + 1, none⟩ = some (.bool re)))
    clear hM hok hR hn hl hin hin' h0 h1 hmj hre hat c0 c1 m0 m1 m2 HH HH2 hx hj
    go_enter Try.func25, Try.ntmps25
    go_wp2_with fail
    refine (HX.out _ (Below.refl _ _)).mono ?_
    rintro e w1 ⟨rfl, hb1⟩
    obtain ⟨c0, c1, m1⟩ := HC.out w1 hb1
    have HB1 := Lib.hid hb1
    clear hb1 HX m1
    by_cases ho : o = 0
    · have HV : Hid ((o == 0 || (o == t + 1 && re)) = true) := by show _ = _; simp [ho]
      have t0 := bT ho
      go_wp2_with fail
      go_ret
      exact ⟨by rw [HFV.out, HV.out]; rfl, HB1.out⟩
    · have t0 := bF ho
      by_cases hh : o = t + 1
      · subst hh
        have HV : Hid ((t + 1 == 0 || (t + 1 == t + 1 && re)) = re) := by show _ = _; rw [t0]; simp
        have HL : hlV (t + 1, d) t = true := by unfold hlV; simp; omega
        rw [HL] at HH3
        clear HL
        go_wp2_with fail
        refine (HH3.out _).mono ?_
        rintro e w2 ⟨rfl, hb2⟩
        have HB2 := Lib.hid (below_two HB1.out hb2)
        clear hb2 HH3 c0 c1
        go_wp2_with fail
        refine (HMO.out _ HB2.out).mono ?_
        rintro e w3 ⟨rfl, hb3⟩
        have HB3 := Lib.hid (below_two HB2.out hb3)
        obtain ⟨-, -, m1⟩ := HC.out w3 HB3.out
        clear hb3 HMO
        go_wp2_with fail
        go_ret
        exact ⟨by rw [HFV.out, HV.out]; rfl, HB3.out⟩
      · have HV : Hid ((o == 0 || (o == t + 1 && re)) = false) := by show _ = _; simp [ho, hh]
        have HL : hlV (o, d) t = false := by unfold hlV; simp [hh]
        rw [HL] at HH3
        clear HL
        go_wp2_with fail
        refine (HH3.out _).mono ?_
        rintro e w2 ⟨rfl, hb2⟩
        have HB2 := Lib.hid (below_two HB1.out hb2)
        clear hb2 HH3 c0 c1
        go_wp2_with fail
        go_ret
        exact ⟨by rw [HFV.out, HV.out]; rfl, HB2.out⟩
  · have HV : Hid (frV ms hs el t = false) := by show _ = _; unfold frV; simp [hin]
    have hin' : decide (0 ≤ mOf ms el) = false := by simpa using hin
    rw [hin'] at HX
    clear hM hok hR hn hl HMO HH hin hin'
    go_enter Try.func25, Try.ntmps25
    go_wp2_with fail
    refine (HX.out _ (Below.refl _ _)).mono ?_
    rintro e w1 ⟨rfl, hb1⟩
    have HB1 := Lib.hid hb1
    clear hb1 HX
    go_wp2_with fail
    go_ret
    exact ⟨by rw [HV.out]; rfl, HB1.out⟩
end Go.Proofs.Ytobpnpkcafacjaa
