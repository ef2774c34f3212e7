/- What scanSign of package token returns. -/
import Derived.Test.YtobpnpkcafacjaaTokName
namespace Go.Proofs.Ytobpnpkcafacjaa
open Go.RowKit

def NoTwo (l : List UInt8) (k : Nat) : Prop := ¬ (k + 2 ≤ l.length ∧ Tk.signs2.contains ((l.drop k).take 2) = true)
def NoOne (l : List UInt8) (k : Nat) : Prop := Tk.signs1.contains ((l.drop k).take 1) = false
/-- which signs have been tried when so many bytes are to be tried next -/
def Left (l : List UInt8) (k s : Nat) : Prop := s ≤ 2 ∧ (s ≤ 1 → NoTwo l k) ∧ (s = 0 → NoOne l k)

theorem len_of_sign2 (s : List UInt8) (h : Tk.signs2.contains s = true) : s.length = 2 := by
  simp [Tk.signs2] at h
  rcases h with h | h | h | h | h | h <;> simp [h]
theorem len_of_sign1 (s : List UInt8) (h : Tk.signs1.contains s = true) : s.length = 1 := by
  simp [Tk.signs1] at h
  rcases h with h | h | h | h | h | h | h | h | h | h | h | h | h | h | h | h | h <;> simp [h]
theorem sign_two (l : List UInt8) (k : Nat) (h : k + 2 ≤ l.length) (hs : Tk.isSg ((l.drop k).take 2) = true) :
    Value.tuple #[.agg #[.int .i64 4, .string ⟨((l.drop k).take 2).toArray⟩, .int .i64 0, .int .i64 (k : Int)], .int .i64 0] = scanVal (Tk.signAt l k) := by
  have h2 : Tk.signs2.contains ((l.drop k).take 2) = true := by
    rw [Tk.isSg, Bool.or_eq_true] at hs
    rcases hs with h2 | h1
    · exact h2
    · have := len_of_sign1 _ h1
      simp at this
      omega
  have hn : Tk.signAt l k = .ok ⟨4, (l.drop k).take 2, 0, k⟩ := by
    unfold Tk.signAt
    rw [if_pos ⟨h, h2⟩]
  rw [hn]
  rfl
theorem sign_one (l : List UInt8) (k : Nat) (_hk : k < l.length) (h : NoTwo l k) (hs : Tk.isSg ((l.drop k).take 1) = true) :
    Value.tuple #[.agg #[.int .i64 4, .string ⟨((l.drop k).take 1).toArray⟩, .int .i64 0, .int .i64 (k : Int)], .int .i64 0] = scanVal (Tk.signAt l k) := by
  have h1 : Tk.signs1.contains ((l.drop k).take 1) = true := by
    rw [Tk.isSg, Bool.or_eq_true] at hs
    rcases hs with h2 | h1
    · have := len_of_sign2 _ h2
      simp at this
      omega
    · exact h1
  have hn : Tk.signAt l k = .ok ⟨4, (l.drop k).take 1, 0, k⟩ := by
    unfold Tk.signAt
    rw [if_neg h, if_pos h1]
  rw [hn]
  rfl
theorem sign_none (l : List UInt8) (k : Nat) (h : Left l k 0) :
    Value.tuple #[.agg #[.int .i64 0, .string ⟨#[]⟩, .int .i64 0, .int .i64 0], .int .i64 1] = scanVal (Tk.signAt l k) := by
  have h1 := h.2.2 rfl
  have hn : Tk.signAt l k = .error 1 := by
    unfold Tk.signAt
    rw [if_neg (h.2.1 (by omega)), if_neg (by rw [h1]; simp)]
  rw [hn]
  rfl
theorem left_two (l : List UInt8) (k : Nat) : Left l k 2 := ⟨by omega, fun h => absurd h (by omega), fun h => absurd h (by omega)⟩
theorem left_short (l : List UInt8) (k : Nat) (h : ¬ k + 2 ≤ l.length) : Left l k 1 := ⟨by omega, fun _ h' => h h'.1, fun h => absurd h (by omega)⟩
theorem left_one (l : List UInt8) (k : Nat) (hs : Tk.isSg ((l.drop k).take 2) = false) : Left l k 1 :=
  ⟨by omega, fun _ h' => by rw [Tk.isSg, Bool.or_eq_false_iff] at hs; rw [hs.1] at h'; exact absurd h'.2 (by simp), fun h => absurd h (by omega)⟩
theorem left_none (l : List UInt8) (k : Nat) (h : Left l k 1) (hs : Tk.isSg ((l.drop k).take 1) = false) : Left l k 0 :=
  ⟨by omega, fun _ => h.2.1 (by omega), fun _ => by rw [Tk.isSg, Bool.or_eq_false_iff] at hs; exact hs.2⟩

end Go.Proofs.Ytobpnpkcafacjaa
