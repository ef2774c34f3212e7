/- What a lock and an unlock do to depths and owners. No statement of the program is proved in this file. -/
import Derived.Test.YtobpnpkcafacjaaTbAwk
namespace Go.Proofs.Ytobpnpkcafacjaa
open Go.RowKit

theorem tAt_set (hs : List TH) (x : Nat) (y : TH) (hx : x < hs.length) (e : Nat) : tAt (hs.set x y) (e : Int) = if e = x then y else tAt hs (e : Int) := by
  unfold tAt
  rw [Int.toNat_natCast, List.getD_eq_getElem?_getD, List.getD_eq_getElem?_getD, List.getElem?_set]
  by_cases h : x = e
  · subst h
    rw [if_pos rfl, if_pos hx, if_pos rfl]; rfl
  · rw [if_neg h, if_neg (fun h2 => h h2.symm)]
theorem tAt_set_self (hs : List TH) (e : Int) (y : TH) (h0 : 0 ≤ e) (hx : e.toNat < hs.length) : tAt (hs.set e.toNat y) e = y := by
  have := tAt_set hs e.toNat y hx e.toNat
  rw [if_pos rfl, show ((e.toNat : Nat) : Int) = e by omega] at this
  exact this
/-- the value of one element changes by 1 -/
theorem pS_set (hs : List TH) (t : Int) (x : Nat) (y : TH) (hx : x < hs.length) (hv : vlV y t = vlV (tAt hs (x : Int)) t + 1) (k : Nat) : pS (hs.set x y) t k = pS hs t k + if x < k then 1 else 0 := by
  induction k with
  | zero => simp [pS]
  | succ k ih =>
    rw [pS_succ, pS_succ, ih, tAt_set hs x y hx]
    by_cases h : k = x
    · subst h
      rw [if_pos rfl, hv, if_neg (by omega), if_pos (by omega)]
      omega
    · rw [if_neg h]
      by_cases h2 : x < k
      · rw [if_pos h2, if_pos (by omega)]; omega
      · rw [if_neg h2, if_neg (by omega)]; omega
/-- what a lock writes counts 1 more -/
theorem lk_val {ms : List TM} {k : Int} {hs : List TH} (h : TG ms k hs) {e t : Int} (hf : frV ms hs e t = true) : vlV (t + 1, (tAt hs e).2 + 1) t = vlV (tAt hs e) t + 1 := by
  obtain ⟨f0, f1, f2⟩ := fr_facts hf
  obtain ⟨_, _, h3, h4, h5⟩ := h.at f1
  obtain ⟨o0, o1, o2, o3, o4, o5⟩ := ok_facts h3
  unfold vlV hlV
  generalize tAt hs e = q at *
  obtain ⟨a, b⟩ := q
  dsimp only at *
  rw [decide_eq_true f0]
  simp only [Bool.true_and, beq_self_eq_true, if_true, beq_iff_eq]
  rcases f2 with f2 | ⟨f2, _⟩
  · rw [if_neg (by omega), o3 f2]
  · rw [if_pos f2]
theorem mOf_iff (ms : List TM) (e : Int) (j : Nat) (hj : j < ms.length) (h0 : 0 ≤ e) (he : e < (tE ms : Int)) : mOf ms e = (j : Int) ↔ tB ms j ≤ e.toNat ∧ e.toNat < tB ms (j + 1) := by
  obtain ⟨i, hi, h1, h2⟩ := tO_find ms e.toNat (by omega)
  have h3 := mOf_at ms e.toNat i hi h1 h2
  rw [show ((e.toNat : Nat) : Int) = e by omega] at h3
  rw [h3]
  constructor
  · intro h
    obtain rfl : i = j := by omega
    exact ⟨h1, h2⟩
  · intro ⟨h4, h5⟩
    rcases Nat.lt_trichotomy i j with h | h | h
    · have := tB_mono ms (i + 1) j h (by omega); omega
    · rw [h]
    · have := tB_mono ms (j + 1) i h (by omega); omega
/-- what Depth says after a lock -/
def moreV (ms : List TM) (hs : List TH) (e t m : Int) : Int := if frV ms hs e t = true ∧ 0 ≤ m ∧ mOf ms e = m then 1 else 0
theorem dp_lk {ms : List TM} {k : Int} {hs : List TH} (h : TG ms k hs) (e t m : Int) : dpV ms (lkV ms hs e t) m t = dpV ms hs m t + moreV ms hs e t m := by
  unfold lkV moreV
  by_cases hf : frV ms hs e t = true
  · rw [if_pos hf]
    obtain ⟨f0, f1, f2⟩ := fr_facts hf
    obtain ⟨h1, h2, h3, h4, h5⟩ := h.at f1
    have hv := lk_val h hf
    rw [← h5] at hv
    rw [h5] at hv
    have hps := pS_set hs t e.toNat (t + 1, (tAt hs e).2 + 1) h2 (by rw [h5]; exact hv)
    unfold dpV
    by_cases hm : 0 ≤ m ∧ m < (ms.length : Int)
    · rw [if_pos hm, if_pos hm, hps, hps]
      have hj := mOf_iff ms e m.toNat (by omega) h1 (by have := h.1; omega)
      rw [show ((m.toNat : Nat) : Int) = m by omega] at hj
      have hB := tB_lt ms m.toNat (m.toNat + 1) (by omega) (by omega)
      by_cases hq : mOf ms e = m
      · obtain ⟨q1, q2⟩ := hj.1 hq
        rw [if_pos q2, if_neg (by omega), if_pos ⟨hf, hm.1, hq⟩]
        omega
      · rw [if_neg (c := frV ms hs e t = true ∧ 0 ≤ m ∧ mOf ms e = m) (fun hh => hq hh.2.2)]
        by_cases q1 : e.toNat < tB ms m.toNat
        · rw [if_pos (by omega), if_pos q1]; omega
        · by_cases q2 : e.toNat < tB ms (m.toNat + 1)
          · exact absurd (hj.2 ⟨by omega, q2⟩) hq
          · rw [if_neg q2, if_neg q1]; omega
    · rw [if_neg hm, if_neg hm, if_neg (fun hh => hm ⟨hh.2.1, by have := mOf_lt ms e; omega⟩)]
      rfl
  · rw [if_neg hf, if_neg (fun hh => hf hh.1)]
    omega
theorem lk_at {ms : List TM} {k : Int} {hs : List TH} (h : TG ms k hs) {e t : Int} (hf : frV ms hs e t = true) : tAt (lkV ms hs e t) e = (t + 1, (tAt hs e).2 + 1) := by
  obtain ⟨f0, f1, f2⟩ := fr_facts hf
  obtain ⟨h1, h2, _⟩ := h.at f1
  unfold lkV
  rw [if_pos hf, tAt_set_self hs e _ h1 h2]
/-- an unlock after a lock -/
theorem lk_ul {ms : List TM} {k : Int} {hs : List TH} (h : TG ms k hs) {e t : Int} (hf : frV ms hs e t = true) : ulB ms (lkV ms hs e t) e t = true ∧ ulV ms (lkV ms hs e t) e t = hs := by
  obtain ⟨f0, f1, f2⟩ := fr_facts hf
  obtain ⟨h1, h2, h3, h4, h5⟩ := h.at f1
  obtain ⟨o0, o1, o2, o3, o4, o5⟩ := ok_facts h3
  have ha := lk_at h hf
  have hb : ulB ms (lkV ms hs e t) e t = true := by
    unfold ulB hlV
    rw [ha]
    simp [f0, f1]
  refine ⟨hb, ?_⟩
  unfold ulV
  rw [if_pos hb, ha]
  unfold lkV
  rw [if_pos hf, List.set_set]
  have hq := (tAt_mem h2).2
  generalize tAt hs e = q at *
  obtain ⟨a, b⟩ := q
  dsimp only at *
  have hy : ((if b + 1 - 1 = 0 then 0 else t + 1, b + 1 - 1) : TH) = hs[e.toNat] := by
    rw [← hq, show b + 1 - 1 = b by omega]
    rcases f2 with f2 | ⟨f2, _⟩
    · rw [o3 f2, if_pos rfl, f2]
    · rw [if_neg (by have := o4 (by omega); omega), f2]
  rw [hy, List.set_getElem_self]
/-- another thread -/
theorem lk_other {ms : List TM} {k : Int} {hs : List TH} (h : TG ms k hs) {e a b : Int} (hf : frV ms hs e a = true) (hab : a ≠ b) : frV ms (lkV ms hs e a) e b = false ∧ ulB ms (lkV ms hs e a) e b = false := by
  obtain ⟨f0, f1, f2⟩ := fr_facts hf
  have ha := lk_at h hf
  unfold frV ulB hlV
  rw [ha]
  have e1 : (a + 1 == b + 1) = false := by simp; omega
  have e2 : (a + 1 == 0) = false := by simp; omega
  dsimp only
  rw [e1, e2]
  simp
/-- other elements -/
theorem lk_rest {ms : List TM} {hs : List TH} {e t : Int} (i : Nat) (h0 : 0 ≤ e) (hi : (i : Int) ≠ e) (h1 : i < (lkV ms hs e t).length) (h2 : i < hs.length) : (lkV ms hs e t)[i] = hs[i] := by
  unfold lkV at h1 ⊢
  split at h1
  · rename_i hf
    simp only [if_pos hf]
    exact List.getElem_set_ne (by omega) _
  · rename_i hf
    simp only [if_neg hf]
end Go.Proofs.Ytobpnpkcafacjaa
