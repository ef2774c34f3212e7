/- What Name of the reference returns. -/
import Derived.Test.YtfhpihpdijighaaDoorRefLeaf
namespace Go.Proofs.YtfhpihpdijighaaDoor
open Go.RowKit

def charOk (i : Nat) (c : UInt8) : Bool := Tk.isLet c || (i != 0 && Tk.isDig c)
def charsOk (s : List UInt8) : Prop := ∀ i (h : i < s.length), charOk i s[i] = true
instance (s : List UInt8) : Decidable (charsOk s) := by unfold charsOk; infer_instance
/-- may a name be declared -/
def nameB (s : List UInt8) : Bool := decide (charsOk s) && (decide (1 ≤ s.length) && decide (s.length ≤ 16) && !Tk.resv s)

set_option maxRecDepth 100000 in
set_option maxHeartbeats 1000000 in
theorem name_any (s : List UInt8) (w : World) (hl : s.length ≤ 9223372036854775807) :
    Calls Tryd.prog 60 #[.string ⟨s.toArray⟩] w fun e w' => e = .returned (.bool (nameB s)) ∧ Below w.heap.size w w' := by
  go_enter Tryd.func60, Tryd.ntmps60
  go_wp2_with fail
  go_loop [3] (fun i => ∃ m : Nat, m ≤ s.length ∧ i = .int .i64 m ∧ Hid (∀ j (_ : j < m) (h : j < s.length), charOk j s[j] = true)) (fun i => s.length - (intOf i).toNat)
  case atStart => exact ⟨0, by omega, rfl, fun j hj => absurd hj (by omega)⟩
  case round =>
    obtain ⟨m, hm, rfl, hrel⟩ := hrel
    by_cases hlt : m < s.length
    · have hsz : m < (⟨s.toArray⟩ : ByteArray).size := by simpa [ByteArray.size] using hlt
      have hby : (⟨s.toArray⟩ : ByteArray)[m]'hsz = s[m] := rfl
      by_cases hL : Tk.isLet s[m] = true
      · have HE : Hid (∀ j (_ : j < m + 1) (h : j < s.length), charOk j s[j] = true) := by
          intro j hj h
          by_cases hjm : j = m
          · subst hjm
            simp [charOk, hL]
          · exact hrel.out j (by omega) h
        go_wp2_with (first | (go_at_call 39; refine (letter_any _ _).mono ?_; rintro e w' ⟨rfl, rfl⟩))
        go_round
        case rel => exact ⟨m + 1, by omega, by go_num, HE⟩
        case measure => simp [intOf]; omega
      · have hL' : Tk.isLet s[m] = false := by simpa using hL
        clear hL
        by_cases h0 : m = 0
        · have t0 := bT (show ((m : Nat) : Int) = 0 by omega)
          have HE : Hid (nameB s = false) := by
            have hn : ¬ charsOk s := fun h => by
              have := h m hlt
              unfold charOk at this
              rw [hL', show (m != 0) = false by simp [h0]] at this
              simp at this
            show nameB s = false
            unfold nameB
            rw [decide_eq_false hn]
            rfl
          clear h0
          go_wp2_with (first | (go_at_call 39; refine (letter_any _ _).mono ?_; rintro e w' ⟨rfl, rfl⟩))
          go_ret
          exact ⟨ret_bool HE.out.symm, Below.refl _ _⟩
        · have t0 := bF (show ((m : Nat) : Int) ≠ 0 by omega)
          by_cases hD : Tk.isDig s[m] = true
          · have HE : Hid (∀ j (_ : j < m + 1) (h : j < s.length), charOk j s[j] = true) := by
              intro j hj h
              by_cases hjm : j = m
              · subst hjm
                simp [charOk, hD, h0]
              · exact hrel.out j (by omega) h
            clear h0
            go_wp2_with (first | (go_at_call 39; refine (letter_any _ _).mono ?_; rintro e w' ⟨rfl, rfl⟩) | (go_at_call 40; refine (digit_any _ _).mono ?_; rintro e w' ⟨rfl, rfl⟩))
            go_round
            case rel => exact ⟨m + 1, by omega, by go_num, HE⟩
            case measure => simp [intOf]; omega
          · have hD' : Tk.isDig s[m] = false := by simpa using hD
            have HE : Hid (nameB s = false) := by
              have hn : ¬ charsOk s := fun h => by
                have := h m hlt
                simp [charOk, hL', hD'] at this
              show nameB s = false
              unfold nameB
              rw [decide_eq_false hn]
              rfl
            clear h0 hD
            go_wp2_with (first | (go_at_call 39; refine (letter_any _ _).mono ?_; rintro e w' ⟨rfl, rfl⟩) | (go_at_call 40; refine (digit_any _ _).mono ?_; rintro e w' ⟨rfl, rfl⟩))
            go_ret
            exact ⟨ret_bool HE.out.symm, Below.refl _ _⟩
    · have HE : Hid (nameB s = (decide (1 ≤ s.length) && decide (s.length ≤ 16) && !Tk.resv s)) := by
        have hn : charsOk s := fun j h => hrel.out j (by omega) h
        show nameB s = _
        unfold nameB
        rw [decide_eq_true hn]
        rfl
      by_cases g1 : 1 ≤ s.length
      · by_cases g2 : s.length ≤ 16
        · have d1 : decide ((s.length : Int) ≥ 1) = true := by simp; omega
          have d2 : decide ((s.length : Int) ≤ 16) = true := by simp; omega
          have HE2 : Hid (nameB s = !Tk.resv s) := by rw [HE.out, decide_eq_true g1, decide_eq_true g2]; rfl
          go_wp2_with fail
          refine (refReserved_any s w).mono ?_
          rintro e w1 ⟨rfl, hb1⟩
          go_wp2_with fail
          go_ret
          exact ⟨ret_bool HE2.out.symm, hb1⟩
        · have d2 : decide ((s.length : Int) ≤ 16) = false := decide_eq_false (by omega)
          have HE2 : Hid (nameB s = false) := by rw [HE.out, decide_eq_true g1, decide_eq_false g2]; rfl
          go_wp2_with fail
          go_ret
          exact ⟨ret_bool HE2.out.symm, Below.refl _ _⟩
      · have HE2 : Hid (nameB s = false) := by rw [HE.out, decide_eq_false g1]; rfl
        go_wp2_with fail
        go_ret
        exact ⟨ret_bool HE2.out.symm, Below.refl _ _⟩

end Go.Proofs.YtfhpihpdijighaaDoor
