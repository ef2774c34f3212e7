/- Package table in plain functions: elements, owners, tables. No statement of the program is proved in this file. -/
import Derived.Test.YtobpnpkcafacjaaMdExl
namespace Go.Proofs.Ytobpnpkcafacjaa

/-- a mutex: its Size, and whether it is reentrant -/
structure TM where
  sz : Nat
  re : Bool
def TM.w (m : TM) : Nat := max m.sz 1
/-- the number of the elements of the first mutexes -/
def tB (ms : List TM) (k : Nat) : Nat := ((ms.take k).map TM.w).sum
def tE (ms : List TM) : Nat := tB ms ms.length
theorem tB_zero (ms : List TM) : tB ms 0 = 0 := rfl
theorem tB_succ (ms : List TM) (k : Nat) (h : k < ms.length) : tB ms (k + 1) = tB ms k + ms[k].w := by
  unfold tB
  rw [List.take_succ_eq_append_getElem h, List.map_append, List.sum_append]
  simp
theorem TM.w_pos (m : TM) : 1 ≤ m.w := by unfold TM.w; omega
theorem tB_mono (ms : List TM) (j k : Nat) (h : j ≤ k) (hk : k ≤ ms.length) : tB ms j ≤ tB ms k := by
  induction k with
  | zero => obtain rfl : j = 0 := by omega
            exact Nat.le_refl _
  | succ k ih =>
    rcases Nat.lt_or_ge j (k + 1) with h1 | h1
    · have := ih (by omega) (by omega)
      rw [tB_succ ms k (by omega)]
      omega
    · obtain rfl : j = k + 1 := by omega
      exact Nat.le_refl _
theorem tB_lt (ms : List TM) (j k : Nat) (h : j < k) (hk : k ≤ ms.length) : tB ms j < tB ms k := by
  have h1 := tB_mono ms (j + 1) k h hk
  have h2 := tB_succ ms j (by omega)
  have := (ms[j]'(by omega)).w_pos
  omega
theorem tB_take (ms : List TM) (m : Nat) (h : m ≤ ms.length) : tE (ms.take m) = tB ms m := by
  unfold tE tB
  rw [List.take_take, List.length_take, Nat.min_eq_left h, Nat.min_self]
/-- all Sizes are right ones -/
def TmOk (ms : List TM) : Prop := ms.length ≤ 12 ∧ ∀ i (h : i < ms.length), ms[i].sz ≤ 64
theorem TmOk.le {ms : List TM} (h : TmOk ms) (k : Nat) (hk : k ≤ ms.length) : tB ms k ≤ 64 * k := by
  induction k with
  | zero => simp [tB_zero]
  | succ k ih =>
    rw [tB_succ ms k (by omega)]
    have h1 := ih (by omega)
    have h2 := h.2 k (by omega)
    have h3 : ms[k].w ≤ 64 := by unfold TM.w; omega
    omega
theorem TmOk.take {ms : List TM} (h : TmOk ms) (k : Nat) : TmOk (ms.take k) := by
  refine ⟨by rw [List.length_take]; have := h.1; omega, fun i hi => ?_⟩
  rw [List.getElem_take]
  exact h.2 i _
theorem TmOk.tE {ms : List TM} (h : TmOk ms) : tE ms ≤ 768 := by
  have h1 := h.le ms.length (Nat.le_refl _)
  have h2 := h.1
  unfold Go.Proofs.Ytobpnpkcafacjaa.tE
  omega

/-- the numbers of the mutexes of all elements, of the first mutexes -/
def tO (ms : List TM) : Nat → List Nat
  | 0 => []
  | k + 1 => tO ms k ++ List.replicate (ms[k]?.elim 0 TM.w) k
theorem tO_succ (ms : List TM) (k : Nat) (h : k < ms.length) : tO ms (k + 1) = tO ms k ++ List.replicate ms[k].w k := by
  rw [tO, List.getElem?_eq_getElem h]
  rfl
theorem tO_len (ms : List TM) (k : Nat) (h : k ≤ ms.length) : (tO ms k).length = tB ms k := by
  induction k with
  | zero => rfl
  | succ k ih => rw [tO_succ ms k (by omega), List.length_append, List.length_replicate, ih (by omega), tB_succ ms k (by omega)]
/-- which mutex an element belongs to -/
theorem tO_at (ms : List TM) (k : Nat) (h : k ≤ ms.length) (e j : Nat) (hj : j < k) (h1 : tB ms j ≤ e) (h2 : e < tB ms (j + 1)) : (tO ms k)[e]? = some j := by
  induction k with
  | zero => omega
  | succ k ih =>
    have hl := tO_len ms k (by omega)
    rw [tO_succ ms k (by omega)]
    rcases Nat.lt_or_ge j k with h3 | h3
    · rw [List.getElem?_append_left (by rw [hl]; have := tB_mono ms (j + 1) k h3 (by omega); omega)]
      exact ih (by omega) h3
    · obtain rfl : j = k := by omega
      rw [tB_succ ms j (by omega)] at h2
      rw [List.getElem?_append_right (by omega), List.getElem?_replicate, if_pos (by omega)]
theorem tO_find (ms : List TM) (e : Nat) (h : e < tE ms) : ∃ j, j < ms.length ∧ tB ms j ≤ e ∧ e < tB ms (j + 1) := by
  have key : ∀ k, k ≤ ms.length → e < tB ms k → ∃ j, j < k ∧ tB ms j ≤ e ∧ e < tB ms (j + 1) := by
    intro k
    induction k with
    | zero => intro _ h; rw [tB_zero] at h; omega
    | succ k ih =>
      intro hk he
      rcases Nat.lt_or_ge e (tB ms k) with h1 | h1
      · obtain ⟨j, a, b, c⟩ := ih (by omega) h1
        exact ⟨j, by omega, b, c⟩
      · exact ⟨k, by omega, h1, he⟩
  exact key ms.length (Nat.le_refl _) h
/-- the mutex of an element -/
def mOf (ms : List TM) (e : Int) : Int := if 0 ≤ e then ((tO ms ms.length)[e.toNat]?).elim (-1) (fun j => (j : Int)) else -1
/-- the first element of a mutex -/
def bOf (ms : List TM) (m : Int) : Int := if 0 ≤ m ∧ m < (ms.length : Int) then (tB ms m.toNat : Int) else -1
theorem mOf_neg (ms : List TM) (e : Int) (h : e < 0) : mOf ms e = -1 := by unfold mOf; rw [if_neg (by omega)]
theorem mOf_out (ms : List TM) (e : Int) (h : (tE ms : Int) ≤ e) : mOf ms e = -1 := by
  unfold mOf
  rw [if_pos (by omega), List.getElem?_eq_none (by rw [tO_len ms _ (Nat.le_refl _)]; unfold tE at h; omega)]
  rfl
theorem mOf_at (ms : List TM) (e j : Nat) (hj : j < ms.length) (h1 : tB ms j ≤ e) (h2 : e < tB ms (j + 1)) : mOf ms (e : Int) = (j : Int) := by
  unfold mOf
  rw [if_pos (by omega), Int.toNat_natCast, tO_at ms _ (Nat.le_refl _) e j hj h1 h2]
  rfl
theorem mOf_own (ms : List TM) (e : Nat) (h : e < (tO ms ms.length).length) : mOf ms (e : Int) = ((tO ms ms.length)[e] : Int) := by
  unfold mOf
  rw [if_pos (by omega), Int.toNat_natCast, List.getElem?_eq_getElem h]
  rfl
/-- in range: there is such a mutex, and the element lies in it -/
theorem mOf_in (ms : List TM) (e : Int) (h0 : 0 ≤ e) (h : e < (tE ms : Int)) : ∃ j, j < ms.length ∧ mOf ms e = (j : Int) ∧ (tB ms j : Int) ≤ e ∧ e < (tB ms j : Int) + (ms[j]?.elim 0 TM.w : Nat) := by
  obtain ⟨j, hj, h1, h2⟩ := tO_find ms e.toNat (by omega)
  refine ⟨j, hj, ?_, by omega, ?_⟩
  · have := mOf_at ms e.toNat j hj h1 h2
    rwa [show ((e.toNat : Nat) : Int) = e by omega] at this
  · rw [tB_succ ms j hj] at h2
    rw [List.getElem?_eq_getElem hj]
    show e < (tB ms j : Int) + (ms[j].w : Nat)
    omega
theorem mOf_nonneg (ms : List TM) (e : Int) : (0 ≤ mOf ms e) ↔ (0 ≤ e ∧ e < (tE ms : Int)) := by
  constructor
  · intro h
    rcases (show e < 0 ∨ 0 ≤ e by omega) with h1 | h1
    · rw [mOf_neg ms e h1] at h; omega
    · rcases (show e < (tE ms : Int) ∨ (tE ms : Int) ≤ e by omega) with h2 | h2
      · exact ⟨h1, h2⟩
      · rw [mOf_out ms e h2] at h; omega
  · intro ⟨h1, h2⟩
    obtain ⟨j, _, e', _⟩ := mOf_in ms e h1 h2
    omega
theorem mOf_lt (ms : List TM) (e : Int) : -1 ≤ mOf ms e ∧ (mOf ms e < (ms.length : Int) ∨ mOf ms e = -1) := by
  rcases (show e < 0 ∨ 0 ≤ e by omega) with h1 | h1
  · rw [mOf_neg ms e h1]; omega
  · rcases (show e < (tE ms : Int) ∨ (tE ms : Int) ≤ e by omega) with h2 | h2
    · obtain ⟨j, hj, e', _⟩ := mOf_in ms e h1 h2
      omega
    · rw [mOf_out ms e h2]; omega
/-- searching the owners for a mutex -/
theorem bOf_hit (ms : List TM) (m : Int) (i : Nat) (hi : i < (tO ms ms.length).length) (hb : ∀ j (h : j < (tO ms ms.length).length), j < i → ((tO ms ms.length)[j] : Int) ≠ m) (h : ((tO ms ms.length)[i] : Int) = m) : bOf ms m = (i : Int) := by
  have hl := tO_len ms _ (Nat.le_refl ms.length)
  obtain ⟨j, hj, h1, h2⟩ := tO_find ms i (by unfold tE; omega)
  have e1 := tO_at ms _ (Nat.le_refl _) i j hj h1 h2
  rw [List.getElem?_eq_getElem hi] at e1
  injection e1 with e1
  rw [e1] at h
  subst h
  unfold bOf
  rw [if_pos (by omega), Int.toNat_natCast]
  rcases Nat.lt_or_ge (tB ms j) i with h3 | h3
  · have hlt : tB ms j < (tO ms ms.length).length := by omega
    have e2 := tO_at ms _ (Nat.le_refl _) (tB ms j) j hj (Nat.le_refl _) (tB_lt ms j (j + 1) (by omega) hj)
    rw [List.getElem?_eq_getElem hlt] at e2
    injection e2 with e2
    exact absurd (by rw [e2]) (hb _ hlt h3)
  · omega
theorem bOf_miss (ms : List TM) (m : Int) (hb : ∀ j (h : j < (tO ms ms.length).length), ((tO ms ms.length)[j] : Int) ≠ m) : bOf ms m = -1 := by
  have hl := tO_len ms _ (Nat.le_refl ms.length)
  unfold bOf
  split
  · rename_i hm
    have h1 : m.toNat < ms.length := by omega
    have h2 := tB_lt ms m.toNat (m.toNat + 1) (by omega) h1
    have h3 := tB_mono ms (m.toNat + 1) ms.length h1 (Nat.le_refl _)
    have hlt : tB ms m.toNat < (tO ms ms.length).length := by omega
    have e2 := tO_at ms _ (Nat.le_refl _) (tB ms m.toNat) m.toNat h1 (Nat.le_refl _) h2
    rw [List.getElem?_eq_getElem hlt] at e2
    injection e2 with e2
    exact absurd (by rw [e2]; omega) (hb _ hlt)
  · rfl
theorem bOf_bd (ms : List TM) (h : TmOk ms) (m : Int) : -1 ≤ bOf ms m ∧ bOf ms m ≤ 768 := by
  unfold bOf
  split
  · rename_i hm
    have h1 := tB_mono ms m.toNat ms.length (by omega) (Nat.le_refl _)
    have h2 := h.tE
    unfold tE at h2
    omega
  · omega

/-- an element of a table: its owner, its depth -/
abbrev TH := Int × Int
/-- an entry of the table -/
def tAt (hs : List TH) (e : Int) : TH := hs.getD e.toNat (0, 0)
/-- a mutex of an element is reentrant -/
def tRe (ms : List TM) (e : Int) : Bool := (ms[(mOf ms e).toNat]?).elim false TM.re
def hlV (h : TH) (t : Int) : Bool := decide (0 ≤ t) && (h.1 == t + 1)
/-- Free -/
def frV (ms : List TM) (hs : List TH) (e t : Int) : Bool := decide (0 ≤ t) && decide (0 ≤ mOf ms e) && ((tAt hs e).1 == 0 || ((tAt hs e).1 == t + 1 && tRe ms e))
/-- the table after Lock -/
def lkV (ms : List TM) (hs : List TH) (e t : Int) : List TH := if frV ms hs e t = true then hs.set e.toNat (t + 1, (tAt hs e).2 + 1) else hs
/-- whether Unlock does anything -/
def ulB (ms : List TM) (hs : List TH) (e t : Int) : Bool := decide (0 ≤ mOf ms e) && hlV (tAt hs e) t
def ulV (ms : List TM) (hs : List TH) (e t : Int) : List TH := if ulB ms hs e t = true then hs.set e.toNat (if (tAt hs e).2 - 1 = 0 then 0 else (tAt hs e).1, (tAt hs e).2 - 1) else hs
theorem lkV_len (ms : List TM) (hs : List TH) (e t : Int) : (lkV ms hs e t).length = hs.length := by unfold lkV; split <;> simp
theorem ulV_len (ms : List TM) (hs : List TH) (e t : Int) : (ulV ms hs e t).length = hs.length := by unfold ulV; split <;> simp
/-- bounds of a table -/
def ThOk (d : Int) (hs : List TH) : Prop := ∀ h ∈ hs, 0 ≤ h.1 ∧ h.1 ≤ 4611686018427387905 ∧ 0 ≤ h.2 ∧ h.2 ≤ d
theorem tAt_mem {hs : List TH} {e : Int} (h : e.toNat < hs.length) : tAt hs e ∈ hs ∧ tAt hs e = hs[e.toNat] := by
  unfold tAt
  rw [List.getD_eq_getElem?_getD, List.getElem?_eq_getElem h]
  exact ⟨List.getElem_mem h, rfl⟩
theorem mem_set_of {α : Type} {l : List α} {i : Nat} {a x : α} (h : x ∈ l.set i a) : x ∈ l ∨ x = a := List.mem_or_eq_of_mem_set h
theorem ThOk.lk {d : Int} {hs : List TH} (h : ThOk d hs) (ms : List TM) (e t : Int) (ht : 0 ≤ t ∧ t ≤ 4611686018427387904) (he : e.toNat < hs.length) : ThOk (d + 1) (lkV ms hs e t) := by
  intro x hx
  unfold lkV at hx
  have h1 := h _ (tAt_mem he).1
  split at hx
  · rcases mem_set_of hx with hx | rfl
    · have := h x hx; omega
    · dsimp only; omega
  · have := h x hx; omega
theorem ThOk.mono {d d' : Int} {hs : List TH} (h : ThOk d hs) (hd : d ≤ d') : ThOk d' hs := fun x hx => by have := h x hx; omega
end Go.Proofs.Ytobpnpkcafacjaa
