/- Good tables of the mutexes of the laws of layer 8, and some numbers. No statement of the program is proved in this file. -/
import Derived.Test.YtobpnpkcafacjaaTbVlr
import Derived.Laws.BitsLemmas
namespace Go.Proofs.Ytobpnpkcafacjaa
open Go.RowKit
set_option maxRecDepth 100000

theorem and3_bd (x : Int) : 0 ≤ Go.bits .and .i64 x 3 ∧ Go.bits .and .i64 x 3 ≤ 3 := by
  have h : ((BitVec.ofInt 64 x) &&& (BitVec.ofInt 64 3)).toNat ≤ 3 := by
    rw [BitVec.toNat_and]
    exact Nat.le_trans Nat.and_le_right (by decide)
  have e : Go.bits .and .i64 x 3 = IntKind.i64.wrap (((BitVec.ofInt 64 x) &&& (BitVec.ofInt 64 3)).toNat : Int) := rfl
  rw [e, IntKind.wrap_i64]
  omega
theorem shr5_bd (x : Int) (h0 : -9223372036854775808 ≤ x) (h1 : x ≤ 9223372036854775807) : -9223372036854775808 ≤ x / 2 ^ 5 ∧ x / 2 ^ 5 ≤ 9223372036854775807 := by
  have : (2 : Int) ^ 5 = 32 := rfl
  rw [this]
  omega

/-- a good table of the mutexes: at most four owners, depths at most k -/
def TG (ms : List TM) (k : Int) (hs : List TH) : Prop := hs.length = tE ms ∧ ∀ e (h : e < hs.length), okV ms 4 hs[e] e = true ∧ hs[e].2 ≤ k
theorem ok_facts {ms : List TM} {th : Int} {h : TH} {e : Nat} (hk : okV ms th h e = true) : 0 ≤ h.1 ∧ h.1 ≤ th ∧ 0 ≤ h.2 ∧ (h.1 = 0 → h.2 = 0) ∧ (h.1 ≠ 0 → 1 ≤ h.2) ∧ (tRe ms (e : Int) = false → h.2 ≤ 1) := by
  unfold okV dfV at hk
  generalize tRe ms (e : Int) = r at *
  obtain ⟨a, b⟩ := h
  dsimp only at *
  simp only [Bool.and_eq_true, Bool.not_eq_true', decide_eq_false_iff_not] at hk
  obtain ⟨⟨h1, h2⟩, h3⟩ := hk
  split at h3
  · rename_i h4
    have h5 : b = 0 := by simpa using h3
    exact ⟨by omega, by omega, by omega, fun _ => h5, fun h => absurd h4 h, fun _ => by omega⟩
  · rename_i h4
    split at h3
    · rename_i h5
      have h6 : 1 ≤ b := by simpa using h3
      exact ⟨by omega, by omega, by omega, fun h => absurd h h4, fun _ => h6, fun h => by rw [h5] at h; cases h⟩
    · have h6 : b = 1 := by simpa using h3
      exact ⟨by omega, by omega, by omega, fun h => absurd h h4, fun _ => by omega, fun _ => by omega⟩
theorem ok_of {ms : List TM} {th : Int} {h : TH} {e : Nat} (h0 : 0 ≤ h.1) (h1 : h.1 ≤ th) (h2 : h.1 = 0 → h.2 = 0) (h3 : h.1 ≠ 0 → 1 ≤ h.2) (h4 : tRe ms (e : Int) = false → h.2 ≤ 1) : okV ms th h e = true := by
  unfold okV dfV
  generalize tRe ms (e : Int) = r at *
  obtain ⟨a, b⟩ := h
  dsimp only at *
  rw [decide_eq_false (by omega : ¬ a < 0), decide_eq_false (by omega : ¬ th < a)]
  by_cases ha : a = 0
  · rw [if_pos ha, h2 ha]; rfl
  · rw [if_neg ha]
    have h5 := h3 ha
    cases r with
    | true => rw [if_pos rfl, decide_eq_true h5]; rfl
    | false =>
      have h6 := h4 rfl
      obtain rfl : b = 1 := by omega
      rfl
theorem TG.zero (ms : List TM) : TG ms 0 (List.replicate (tE ms) (0, 0)) := by
  refine ⟨List.length_replicate .., fun e h => ?_⟩
  rw [List.getElem_replicate]
  exact ⟨ok_of (Int.le_refl _) (by show (0 : Int) ≤ 4; omega) (fun _ => rfl) (fun h => absurd rfl h) (fun _ => by show (0 : Int) ≤ 1; omega), Int.le_refl _⟩
theorem TG.mono {ms : List TM} {k k' : Int} {hs : List TH} (h : TG ms k hs) (hk : k ≤ k') : TG ms k' hs := ⟨h.1, fun e he => ⟨(h.2 e he).1, Int.le_trans (h.2 e he).2 hk⟩⟩
theorem TG.at {ms : List TM} {k : Int} {hs : List TH} (h : TG ms k hs) {e : Int} (h0 : 0 ≤ mOf ms e) : 0 ≤ e ∧ e.toNat < hs.length ∧ okV ms 4 (tAt hs e) e.toNat = true ∧ (tAt hs e).2 ≤ k ∧ ((e.toNat : Nat) : Int) = e := by
  obtain ⟨h1, h2⟩ := (mOf_nonneg ms e).1 h0
  have h3 : e.toNat < hs.length := by rw [h.1]; omega
  have h4 := h.2 e.toNat h3
  rw [← (tAt_mem h3).2] at h4
  exact ⟨h1, h3, h4.1, h4.2, by omega⟩
theorem TG.set {ms : List TM} {k : Int} {hs : List TH} (h : TG ms k hs) (x : Nat) (y : TH) (h1 : okV ms 4 y x = true) (h2 : y.2 ≤ k) : TG ms k (hs.set x y) := by
  refine ⟨by rw [List.length_set]; exact h.1, fun e he => ?_⟩
  rw [List.length_set] at he
  rw [List.getElem_set]
  split
  · rename_i hx; subst hx; exact ⟨h1, h2⟩
  · exact h.2 e he
theorem fr_facts {ms : List TM} {hs : List TH} {e t : Int} (h : frV ms hs e t = true) : 0 ≤ t ∧ 0 ≤ mOf ms e ∧ ((tAt hs e).1 = 0 ∨ ((tAt hs e).1 = t + 1 ∧ tRe ms e = true)) := by
  unfold frV at h
  simp only [Bool.and_eq_true, Bool.or_eq_true, decide_eq_true_eq, beq_iff_eq] at h
  exact ⟨h.1.1, h.1.2, h.2⟩
theorem TG.lk {ms : List TM} {k : Int} {hs : List TH} (h : TG ms k hs) (e t : Int) (ht : t ≤ 3) : TG ms (k + 1) (lkV ms hs e t) := by
  unfold lkV
  split
  · rename_i hf
    obtain ⟨f0, f1, f2⟩ := fr_facts hf
    obtain ⟨_, _, h3, h4, h5⟩ := h.at f1
    obtain ⟨o0, o1, o2, o3, o4, o5⟩ := ok_facts h3
    rw [h5] at o5
    refine (h.mono (by omega)).set _ _ (ok_of (by dsimp only; omega) (by dsimp only; omega) (fun hh => by dsimp only at hh; omega) (fun _ => by dsimp only; omega) (fun hr => ?_)) (by dsimp only; omega)
    rw [h5] at hr
    dsimp only
    rcases f2 with f2 | ⟨_, f2⟩
    · have := o3 f2; omega
    · rw [f2] at hr; cases hr
  · exact h.mono (by omega)
theorem ul_facts {ms : List TM} {hs : List TH} {e t : Int} (h : ulB ms hs e t = true) : 0 ≤ mOf ms e ∧ 0 ≤ t ∧ (tAt hs e).1 = t + 1 := by
  unfold ulB hlV at h
  simp only [Bool.and_eq_true, decide_eq_true_eq, beq_iff_eq] at h
  exact ⟨h.1, h.2.1, h.2.2⟩
theorem TG.ul {ms : List TM} {k : Int} {hs : List TH} (h : TG ms k hs) (e t : Int) : TG ms k (ulV ms hs e t) := by
  unfold ulV
  split
  · rename_i hf
    obtain ⟨f0, f1, f2⟩ := ul_facts hf
    obtain ⟨_, _, h3, h4, h5⟩ := h.at f0
    obtain ⟨o0, o1, o2, o3, o4, o5⟩ := ok_facts h3
    have o6 := o4 (by omega)
    refine h.set _ _ (ok_of ?_ ?_ ?_ ?_ ?_) (by dsimp only; omega)
    · dsimp only; split <;> omega
    · dsimp only; split <;> omega
    · dsimp only
      split
      · rename_i h7; intro _; exact h7
      · intro h8; omega
    · dsimp only
      split
      · intro h8; exact absurd rfl h8
      · rename_i h7; intro _; omega
    · intro hr
      have := o5 hr
      dsimp only
      omega
  · exact h
theorem TG.th {ms : List TM} {k d : Int} {hs : List TH} (h : TG ms k hs) (hd : k ≤ d) : ThOk d hs := fun x hx => by
  obtain ⟨e, he, rfl⟩ := List.getElem_of_mem hx
  obtain ⟨h1, h2⟩ := h.2 e he
  obtain ⟨o0, o1, o2, -⟩ := ok_facts h1
  exact ⟨o0, by omega, o2, by omega⟩
theorem TG.vd {ms : List TM} {k : Int} {hs : List TH} (h : TG ms k hs) : vdV ms hs 4 = true := vd_good h.1 fun e he => (h.2 e he).1
end Go.Proofs.Ytobpnpkcafacjaa
