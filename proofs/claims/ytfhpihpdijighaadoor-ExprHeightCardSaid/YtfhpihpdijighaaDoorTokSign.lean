/- What scanSign of package token returns. -/
import Derived.Test.YtfhpihpdijighaaDoorTokName
namespace Go.Proofs.YtfhpihpdijighaaDoor
open Go.RowKit

def NoTwo (l : List UInt8) (k : Nat) : Prop := ¬ (k + 2 ≤ l.length ∧ Tk.signs2.contains ((l.drop k).take 2) = true)
def NoOne (l : List UInt8) (k : Nat) : Prop := Tk.signs1.contains ((l.drop k).take 1) = false
/-- which signs have been tried when so many bytes are to be tried next -/
def Left (l : List UInt8) (k s : Nat) : Prop := s ≤ 2 ∧ (s ≤ 1 → NoTwo l k) ∧ (s = 0 → NoOne l k)

theorem len_of_sign2 (s : List UInt8) (h : Tk.signs2.contains s = true) : s.length = 2 := by
  simp [Tk.signs2] at h
  rcases h with h | h | h | h | h | h <;> simp [h]
theorem len_of_sign1 (s : List UInt8) (h : Tk.signs1.contains s = true) : s.length = 1 := by
  simp [Tk.signs1] at h
  rcases h with h | h | h | h | h | h | h | h | h | h | h | h | h | h | h | h | h <;> simp [h]
theorem sign_two (l : List UInt8) (k : Nat) (h : k + 2 ≤ l.length) (hs : Tk.isSg ((l.drop k).take 2) = true) :
    Value.tuple #[.agg #[.int .i64 4, .string ⟨((l.drop k).take 2).toArray⟩, .int .i64 0, .int .i64 (k : Int)], .int .i64 0] = scanVal (Tk.signAt l k) := by
  have h2 : Tk.signs2.contains ((l.drop k).take 2) = true := by
    rw [Tk.isSg, Bool.or_eq_true] at hs
    rcases hs with h2 | h1
    · exact h2
    · have := len_of_sign1 _ h1
      simp at this
      omega
  have hn : Tk.signAt l k = .ok ⟨4, (l.drop k).take 2, 0, k⟩ := by
    unfold Tk.signAt
    rw [if_pos ⟨h, h2⟩]
  rw [hn]
  rfl
theorem sign_one (l : List UInt8) (k : Nat) (_hk : k < l.length) (h : NoTwo l k) (hs : Tk.isSg ((l.drop k).take 1) = true) :
    Value.tuple #[.agg #[.int .i64 4, .string ⟨((l.drop k).take 1).toArray⟩, .int .i64 0, .int .i64 (k : Int)], .int .i64 0] = scanVal (Tk.signAt l k) := by
  have h1 : Tk.signs1.contains ((l.drop k).take 1) = true := by
    rw [Tk.isSg, Bool.or_eq_true] at hs
    rcases hs with h2 | h1
    · have := len_of_sign2 _ h2
      simp at this
      omega
    · exact h1
  have hn : Tk.signAt l k = .ok ⟨4, (l.drop k).take 1, 0, k⟩ := by
    unfold Tk.signAt
    rw [if_neg h, if_pos h1]
  rw [hn]
  rfl
theorem sign_none (l : List UInt8) (k : Nat) (h : Left l k 0) :
    Value.tuple #[.agg #[.int .i64 0, .string ⟨#[]⟩, .int .i64 0, .int .i64 0], .int .i64 1] = scanVal (Tk.signAt l k) := by
  have h1 := h.2.2 rfl
  have hn : Tk.signAt l k = .error 1 := by
    unfold Tk.signAt
    rw [if_neg (h.2.1 (by omega)), if_neg (by rw [h1]; simp)]
  rw [hn]
  rfl
theorem left_two (l : List UInt8) (k : Nat) : Left l k 2 := ⟨by omega, fun h => absurd h (by omega), fun h => absurd h (by omega)⟩
theorem left_short (l : List UInt8) (k : Nat) (h : ¬ k + 2 ≤ l.length) : Left l k 1 := ⟨by omega, fun _ h' => h h'.1, fun h => absurd h (by omega)⟩
theorem left_one (l : List UInt8) (k : Nat) (hs : Tk.isSg ((l.drop k).take 2) = false) : Left l k 1 :=
  ⟨by omega, fun _ h' => by rw [Tk.isSg, Bool.or_eq_false_iff] at hs; rw [hs.1] at h'; exact absurd h'.2 (by simp), fun h => absurd h (by omega)⟩
theorem left_none (l : List UInt8) (k : Nat) (h : Left l k 1) (hs : Tk.isSg ((l.drop k).take 1) = false) : Left l k 0 :=
  ⟨by omega, fun _ => h.2.1 (by omega), fun _ => by rw [Tk.isSg, Bool.or_eq_false_iff] at hs; exact hs.2⟩

set_option maxHeartbeats 1000000 in
theorem scanSign_any (l : List UInt8) (ao : Option Addr) (cap k : Nat) (w : World) (hB : Byt w ao l) (hk : k < l.length) (hl : l.length ≤ 1000000) (hcap : l.length ≤ cap) :
    Calls Tryd.prog 95 #[.slice ao l.length cap, .int .i64 (k : Int)] w fun e w' => e = .returned (scanVal (Tk.signAt l k)) ∧ Below w.heap.size w w' := by
  obtain ⟨b, off, rfl, hc0⟩ := hB k hk
  have hbl : b < w.heap.size := World.block_lt_of_cell? _ _ hc0
  have HB := Lib.hid hB
  clear hB hc0
  go_enter Tryd.func95, Tryd.ntmps95
  go_wp2
  go_loop [6, 7] (fun i _ => ∃ s : Nat, s ≤ 2 ∧ i = .int .i64 s ∧ Hid (Left l k s)) (fun i _ => (intOf i).toNat)
  case atStart => exact ⟨2, by omega, rfl, left_two l k⟩
  case round =>
    obtain ⟨s, hs, rfl, hrel⟩ := hrel
    by_cases c2 : s = 2
    · subst c2
      by_cases h2 : k + 2 ≤ l.length
      · have hcv2 := fun cap' => conv_slice l b off k (k + 2) cap' (w.alloc (.cells #[.int .i64 0, .string ⟨#[]⟩, .int .i64 0, .int .i64 0] 26)) (HB.out.later ((Below.refl _ _).alloc (Nat.le_refl _) _)) (by omega) h2
        have es : k + 2 - k = 2 := by omega
        rw [es] at hcv2
        clear es
        go_wp2_with (first | (go_at_call 101; refine (isSign_any _ _).mono ?_; rintro e w' ⟨rfl, rfl⟩))
        · refine bodyPost_ret (v := .tuple #[.agg #[.int .i64 4, .string ⟨((l.drop k).take 2).toArray⟩, .int .i64 0, .int .i64 (k : Int)], .int .i64 0]) (by simp [results, Tryd.results95, go_sem]) rfl ⟨congrArg Ending.returned (sign_two l k h2 (by assumption)), ?_⟩
          exact (Below.refl _ _).alloc (Nat.le_refl _) _
        · go_round
          case rel => exact ⟨1, by omega, rfl, left_one l k (by assumption)⟩
          case measure => simp [intOf]
      · have h2' : l.length < k + 2 := by omega
        have HS := Lib.hid (left_short l k h2)
        clear h2
        go_wp2
        go_round
        case rel => exact ⟨1, by omega, rfl, HS⟩
        case measure => simp [intOf]
    · by_cases c1 : s = 1
      · subst c1
        clear c2 hs
        have hcv1 := fun cap' => conv_slice l b off k (k + 1) cap' (w.alloc (.cells #[.int .i64 0, .string ⟨#[]⟩, .int .i64 0, .int .i64 0] 26)) (HB.out.later ((Below.refl _ _).alloc (Nat.le_refl _) _)) (by omega) (by omega)
        have es : k + 1 - k = 1 := by omega
        rw [es] at hcv1
        clear es
        go_wp2_with (first | (go_at_call 101; refine (isSign_any _ _).mono ?_; rintro e w' ⟨rfl, rfl⟩))
        · refine bodyPost_ret (v := .tuple #[.agg #[.int .i64 4, .string ⟨((l.drop k).take 1).toArray⟩, .int .i64 0, .int .i64 (k : Int)], .int .i64 0]) (by simp [results, Tryd.results95, go_sem]) rfl ⟨congrArg Ending.returned (sign_one l k hk (hrel.out.2.1 (by omega)) (by assumption)), ?_⟩
          exact (Below.refl _ _).alloc (Nat.le_refl _) _
        · go_round
          case rel => exact ⟨0, by omega, rfl, left_none l k hrel.out (by assumption)⟩
          case measure => simp [intOf]
      · have hs0 : s = 0 := by omega
        subst hs0
        clear c1 c2 hs
        go_wp2
        refine bodyPost_ret (v := .tuple #[.agg #[.int .i64 0, .string ⟨#[]⟩, .int .i64 0, .int .i64 0], .int .i64 1]) (by simp [results, Tryd.results95, go_sem]) rfl ⟨congrArg Ending.returned (sign_none l k hrel.out), ?_⟩
        exact (Below.refl _ _).alloc (Nat.le_refl _) _

end Go.Proofs.YtfhpihpdijighaaDoor
