/- Depth and Valid of package table as plain functions. No statement of the program is proved in this file. -/
import Derived.Test.YtobpnpkcafacjaaTbSpec
namespace Go.Proofs.Ytobpnpkcafacjaa

/-- what an element counts -/
def vlV (h : TH) (t : Int) : Int := if hlV h t = true then h.2 else 0
/-- the sum over the first elements -/
def pS (hs : List TH) (t : Int) : Nat → Int
  | 0 => 0
  | k + 1 => pS hs t k + vlV (tAt hs (k : Int)) t
theorem pS_succ (hs : List TH) (t : Int) (k : Nat) : pS hs t (k + 1) = pS hs t k + vlV (tAt hs (k : Int)) t := rfl
theorem vlV_bd {hs : List TH} (h : ThOk 1000000 hs) (t : Int) (e : Int) : 0 ≤ vlV (tAt hs e) t ∧ vlV (tAt hs e) t ≤ 1000000 := by
  unfold vlV
  split
  · rcases Nat.lt_or_ge e.toNat hs.length with h1 | h1
    · have := h _ (tAt_mem h1).1; omega
    · unfold tAt
      rw [List.getD_eq_getElem?_getD, List.getElem?_eq_none h1]
      exact ⟨Int.le_refl 0, by show (0 : Int) ≤ 1000000; omega⟩
  · omega
theorem pS_bd {hs : List TH} (h : ThOk 1000000 hs) (t : Int) (j k : Nat) (hj : j ≤ k) : 0 ≤ pS hs t k - pS hs t j ∧ pS hs t k - pS hs t j ≤ 1000000 * ((k - j : Nat) : Int) := by
  induction k with
  | zero => obtain rfl : j = 0 := by omega
            simp
  | succ k ih =>
    rcases Nat.lt_or_ge j (k + 1) with h1 | h1
    · have h2 := ih (by omega)
      have h3 := vlV_bd h t k
      rw [pS_succ]
      omega
    · obtain rfl : j = k + 1 := by omega
      simp
/-- Depth -/
def dpV (ms : List TM) (hs : List TH) (m t : Int) : Int := if 0 ≤ m ∧ m < (ms.length : Int) then pS hs t (tB ms (m.toNat + 1)) - pS hs t (tB ms m.toNat) else 0
/-- the sum of the reference over the first elements -/
def qS (ms : List TM) (hs : List TH) (m t : Int) : Nat → Int
  | 0 => 0
  | k + 1 => qS ms hs m t k + if mOf ms (k : Int) = m then vlV (tAt hs (k : Int)) t else 0
theorem qS_succ (ms : List TM) (hs : List TH) (m t : Int) (k : Nat) : qS ms hs m t (k + 1) = qS ms hs m t k + if mOf ms (k : Int) = m then vlV (tAt hs (k : Int)) t else 0 := rfl
theorem qS_bd {hs : List TH} (h : ThOk 1000000 hs) (ms : List TM) (m t : Int) (k : Nat) : 0 ≤ qS ms hs m t k ∧ qS ms hs m t k ≤ 1000000 * (k : Int) := by
  induction k with
  | zero => simp [qS]
  | succ k ih =>
    have h3 := vlV_bd h t k
    rw [qS_succ]
    split <;> omega
theorem qS_eq (ms : List TM) (hs : List TH) (m t : Int) : qS ms hs m t (tE ms) = dpV ms hs m t := by
  unfold dpV
  split
  · rename_i hm
    obtain ⟨j, rfl⟩ : ∃ j : Nat, m = (j : Int) := ⟨m.toNat, by omega⟩
    rw [Int.toNat_natCast]
    have hj : j < ms.length := by omega
    have key : ∀ k, k ≤ tE ms → qS ms hs (j : Int) t k = if k ≤ tB ms j then 0 else if k ≤ tB ms (j + 1) then pS hs t k - pS hs t (tB ms j) else pS hs t (tB ms (j + 1)) - pS hs t (tB ms j) := by
      have hB := tB_lt ms j (j + 1) (by omega) hj
      intro k
      induction k with
      | zero => intro _; simp [qS]
      | succ k ih =>
        intro hk
        have h1 := ih (by omega)
        rw [qS_succ, h1, pS_succ]
        obtain ⟨i, hi, h3, h4⟩ := tO_find ms k (by omega)
        rw [mOf_at ms k i hi h3 h4]
        rcases Nat.lt_or_ge k (tB ms j) with c1 | c1
        · have hij : i < j := by
            rcases Nat.lt_or_ge i j with h | h
            · exact h
            · have := tB_mono ms j i h (by omega); omega
          rw [if_pos (by omega), if_neg (by omega), if_pos (by omega)]
          rfl
        · rcases Nat.lt_or_ge k (tB ms (j + 1)) with c2 | c2
          · have hij : i = j := by
              rcases Nat.lt_trichotomy i j with h | h | h
              · have := tB_mono ms (i + 1) j h (by omega); omega
              · exact h
              · have := tB_mono ms (j + 1) i h (by omega); omega
            rw [if_pos (c := (i : Int) = (j : Int)) (by omega), if_neg (c := k + 1 ≤ tB ms j) (by omega), if_pos (c := k + 1 ≤ tB ms (j + 1)) (by omega)]
            by_cases c3 : k ≤ tB ms j
            · obtain rfl : k = tB ms j := by omega
              rw [if_pos (Nat.le_refl _)]
              omega
            · rw [if_neg c3, if_pos (by omega)]
              omega
          · have hij : j < i := by
              rcases Nat.lt_or_ge j i with h | h
              · exact h
              · have := tB_mono ms (i + 1) (j + 1) (by omega) (by omega); omega
            rw [if_neg (c := (i : Int) = (j : Int)) (by omega), if_neg (c := k ≤ tB ms j) (by omega), if_neg (c := k + 1 ≤ tB ms j) (by omega), if_neg (c := k + 1 ≤ tB ms (j + 1)) (by omega)]
            by_cases c3 : k ≤ tB ms (j + 1)
            · obtain rfl : k = tB ms (j + 1) := by omega
              rw [if_pos (Nat.le_refl _)]
              omega
            · rw [if_neg c3]
              omega
    have hB := tB_lt ms j (j + 1) (by omega) hj
    have hE := tB_mono ms (j + 1) ms.length hj (Nat.le_refl _)
    rw [key (tE ms) (Nat.le_refl _), if_neg (by unfold tE; omega)]
    split
    · have : tE ms = tB ms (j + 1) := by unfold tE at *; omega
      rw [this]
    · rfl
  · rename_i hm
    have key : ∀ k, k ≤ tE ms → qS ms hs m t k = 0 := by
      intro k
      induction k with
      | zero => intro _; rfl
      | succ k ih =>
        intro hk
        obtain ⟨i, hi, h3, h4⟩ := tO_find ms k (by omega)
        rw [qS_succ, ih (by omega), mOf_at ms k i hi h3 h4, if_neg (by omega)]
        rfl
    exact key _ (Nat.le_refl _)

/-- the depth that an owner may have -/
def dfV (h : TH) (r : Bool) : Bool := if h.1 = 0 then h.2 == 0 else if r = true then decide (1 ≤ h.2) else h.2 == 1
/-- an element that Valid accepts -/
def okV (ms : List TM) (th : Int) (h : TH) (e : Nat) : Bool := !decide (h.1 < 0) && !decide (th < h.1) && dfV h (tRe ms (e : Int))
/-- Valid -/
def vdV (ms : List TM) (hs : List TH) (th : Int) : Bool := decide (hs.length = tE ms) && decide (∀ e (h : e < hs.length), okV ms th hs[e] e = true)
/-- the reference's test -/
def badV (h : TH) (th : Int) (r : Bool) : Bool := decide (h.1 < 0) || decide (th < h.1) || ((h.2 == 0) != (h.1 == 0)) || decide (h.2 < 0) || (decide (1 < h.2) && !r)
theorem bad_ok (ms : List TM) (th : Int) (h : TH) (e : Nat) : badV h th (tRe ms (e : Int)) = !okV ms th h e := by
  unfold badV okV dfV
  generalize tRe ms (e : Int) = r
  obtain ⟨a, b⟩ := h
  dsimp only
  by_cases h1 : a < 0
  · simp [h1]
  · by_cases h2 : th < a
    · simp [h2]
    · by_cases h3 : a = 0
      · subst h3
        by_cases h4 : b = 0
        · subst h4; simp
        · have e4 : (b == 0) = false := by simpa using h4
          rw [e4]; simp
      · have e3 : (a == 0) = false := by simpa using h3
        rw [e3, if_neg h3]
        by_cases h4 : b = 0
        · subst h4; cases r <;> simp [h1]
        · have e4 : (b == 0) = false := by simpa using h4
          rw [e4]
          cases r
          · simp only [decide_eq_false h1, decide_eq_false h2, Bool.false_eq_true, if_false, Bool.not_false, Bool.and_true, Bool.true_and, bne_self_eq_false, Bool.false_or, Bool.or_false]
            by_cases h5 : b = 1
            · subst h5; rfl
            · have e5 : (b == 1) = false := by simpa using h5
              rw [e5]
              simp; omega
          · simp only [decide_eq_false h1, decide_eq_false h2, if_true, Bool.not_false, Bool.not_true, Bool.and_false, Bool.true_and, bne_self_eq_false, Bool.false_or, Bool.or_false]
            by_cases h5 : 1 ≤ b
            · simp [h5]; omega
            · simp [h5]; omega
end Go.Proofs.Ytobpnpkcafacjaa
