/- What lineEnd and skip of package token return, for a slice of bytes that can be read. -/
import Derived.Test.YtnofcanboaaejaaDoorTokLeaf
namespace Go.Proofs.YtnofcanboaaejaaDoor
open Go.RowKit

/-- the slice at ao holds the bytes l -/
def Byt (w : World) (ao : Option Addr) (l : List UInt8) : Prop :=
  ∀ i (h : i < l.length), ∃ b off, ao = some ⟨b, off, none⟩ ∧ w.cell? ⟨b, off + i, none⟩ = some (.int .u8 (l[i].toNat : Int))

theorem Byt.later {w w' : World} {ao : Option Addr} {l : List UInt8} (h : Byt w ao l) (hb : Below w.heap.size w w') : Byt w' ao l := by
  intro i hi
  obtain ⟨b, off, e, hc⟩ := h i hi
  exact ⟨b, off, e, cell_later hb hc⟩

theorem lineLen_at (l : List UInt8) (m : Nat) (h : m < l.length) : Tk.lineLen (l.drop m) = if l[m].toNat = 10 then 0 else Tk.lineLen (l.drop (m + 1)) + 1 := by
  rw [List.drop_eq_getElem_cons h, Tk.lineLen_c]

theorem bT {a b : Int} (h : a = b) : (a == b) = true := beq_iff_eq.2 h
theorem bF {a b : Int} (h : a ≠ b) : (a == b) = false := beq_eq_false_iff_ne.2 h
theorem nT {a b : Int} (h : a ≠ b) : (a != b) = true := bne_iff_ne.2 h
theorem nF {a b : Int} (h : a = b) : (a != b) = false := by simp [h]

theorem skip_space (l : List UInt8) (m : Nat) (h : m < l.length) (hs : l[m].toNat = 32 ∨ l[m].toNat = 9 ∨ l[m].toNat = 13 ∨ l[m].toNat = 10) : Tk.skipTo l m = Tk.skipTo l (m + 1) := by
  have hh : Tk.isSpc l[m] = true := by simp [Tk.isSpc]; omega
  unfold Tk.skipTo
  rw [List.drop_eq_getElem_cons h, Tk.sepLen_f, if_pos hh]
  omega
theorem skip_comment (l : List UInt8) (m : Nat) (h : m < l.length) (h' : m + 1 < l.length) (h1 : l[m].toNat = 47) (h2 : l[m + 1].toNat = 47) : Tk.skipTo l m = Tk.skipTo l (m + Tk.lineLen (l.drop m)) := by
  unfold Tk.skipTo
  have e : l.drop m = l[m] :: l[m + 1] :: l.drop (m + 2) := by rw [List.drop_eq_getElem_cons h, List.drop_eq_getElem_cons h']
  have := Tk.sepLen_slashes l[m] l[m + 1] (l.drop (m + 2)) h1 h2
  rw [← e, List.drop_drop] at this
  omega
theorem skip_stop (l : List UInt8) (m : Nat) (h : m < l.length) (hs : l[m].toNat ≠ 32 ∧ l[m].toNat ≠ 9 ∧ l[m].toNat ≠ 13 ∧ l[m].toNat ≠ 10) (hc : l[m].toNat = 47 → (h' : m + 1 < l.length) → l[m + 1].toNat ≠ 47) : Tk.skipTo l m = m := by
  have hh : Tk.isSpc l[m] = false := by simp [Tk.isSpc]; omega
  unfold Tk.skipTo
  rw [List.drop_eq_getElem_cons h, Tk.sepLen_f, if_neg (by simp [hh]), if_neg (c := _ ∧ _)]
  · rfl
  rintro ⟨h1, h2⟩
  by_cases h' : m + 1 < l.length
  · rw [List.drop_eq_getElem_cons h'] at h2
    simp only [List.head?_cons, Option.map_some, Option.some.injEq] at h2
    exact hc h1 h' h2
  · rw [List.drop_eq_nil_of_le (by omega)] at h2
    simp at h2
theorem skip_end (l : List UInt8) (m : Nat) (h : l.length ≤ m) : Tk.skipTo l m = m := by
  unfold Tk.skipTo
  rw [List.drop_eq_nil_of_le h]
  rfl
theorem lineLen_pos (l : List UInt8) (m : Nat) (h : m < l.length) (h1 : l[m].toNat ≠ 10) : 0 < Tk.lineLen (l.drop m) := by
  rw [lineLen_at l m h, if_neg h1]
  omega
theorem lineLen_drop (l : List UInt8) (m : Nat) (h : m ≤ l.length) : m + Tk.lineLen (l.drop m) ≤ l.length := by
  have := Tk.lineLen_le (l.drop m)
  simp at this
  omega

end Go.Proofs.YtnofcanboaaejaaDoor
