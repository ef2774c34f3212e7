/- What signs and strength of the reference return. -/
import Derived.Test.YtobpnpkcafacjaaRefLeaf
namespace Go.Proofs.Ytobpnpkcafacjaa
open Go.RowKit

/-- the slice at A holds the numbers xs -/
def IntS (w : World) (A : Option Addr) (xs : List Int) : Prop :=
  ∀ i (h : i < xs.length), ∃ b off, A = some ⟨b, off, none⟩ ∧ w.cell? ⟨b, off + i, none⟩ = some (.int .i64 xs[i])
theorem IntS.later {w w' : World} {A : Option Addr} {xs : List Int} (h : IntS w A xs) (hb : Below w.heap.size w w') : IntS w' A xs := by
  intro i hi
  obtain ⟨b, off, e, hc⟩ := h i hi
  exact ⟨b, off, e, cell_later hb hc⟩
theorem StrS.later {w w' : World} {A : Option Addr} {xs : List (List UInt8)} (h : StrS w A xs) (hb : Below w.heap.size w w') : StrS w' A xs := by
  intro i hi
  obtain ⟨b, off, e, hc⟩ := h i hi
  exact ⟨b, off, e, cell_later hb hc⟩

/-- the signs of a strength, and their operators -/
def sgS : Int → List (List UInt8)
  | 0 => [[124, 124]]
  | 1 => [[38, 38]]
  | 2 => [[61, 61], [33, 61], [60], [60, 61], [62], [62, 61]]
  | 3 => [[43], [45]]
  | _ => [[42], [47], [37]]
def sgO : Int → List Int
  | 0 => [17]
  | 1 => [16]
  | 2 => [14, 15, 10, 11, 12, 13]
  | 3 => [8, 9]
  | _ => [5, 6, 7]
def SignsPost (w : World) (level : Int) (e : Ending) (w' : World) : Prop :=
  ∃ b b', e = .returned (.tuple #[.slice (some ⟨b, 0, none⟩) (sgS level).length (sgS level).length, .slice (some ⟨b', 0, none⟩) (sgO level).length (sgO level).length]) ∧
    StrS w' (some ⟨b, 0, none⟩) (sgS level) ∧ IntS w' (some ⟨b', 0, none⟩) (sgO level) ∧ Below w.heap.size w w'

theorem strS_lit (w : World) (xs : List (List UInt8)) (vs : Array Value) (hv : vs = (xs.map fun s => Value.string ⟨s.toArray⟩).toArray) (o : Obj) (t : TypeId) : StrS ((w.alloc (.cells vs t)).alloc o) (some ⟨w.heap.size, 0, none⟩) xs := by
  subst hv
  exact (str_lit w xs t).later ((Below.refl _ _).alloc (Nat.le_refl _) _)
theorem intS_lit (w : World) (xs : List Int) (vs : Array Value) (hv : vs = (xs.map fun s => Value.int .i64 s).toArray) (g : Nat) (hg : g = w.heap.size) (t : TypeId) : IntS (w.alloc (.cells vs t)) (some ⟨g, 0, none⟩) xs := by
  subst hv hg
  intro i hi
  refine ⟨_, _, rfl, ?_⟩
  rw [Nat.zero_add, World.cell?_alloc_mark]
  simp [List.getElem?_eq_getElem hi]

/-- the strength of an operator -/
def strV (op : Int) : Nat :=
  if op = 17 then 0 else if op = 16 then 1 else if 10 ≤ op ∧ op ≤ 15 then 2 else if op = 8 ∨ op = 9 then 3 else if 5 ≤ op ∧ op ≤ 7 then 4 else if op = 3 ∨ op = 4 then 5 else 6
theorem str_found (op : Int) (k : Nat) (hk : k < 5) (h : op ∈ sgO (k : Int)) : strV op = k := by
  have hc : k = 0 ∨ k = 1 ∨ k = 2 ∨ k = 3 ∨ k = 4 := by omega
  rcases hc with rfl | rfl | rfl | rfl | rfl <;> simp [sgO] at h
  · subst h; decide
  · subst h; decide
  · rcases h with h | h | h | h | h | h <;> subst h <;> decide
  · rcases h with h | h <;> subst h <;> decide
  · rcases h with h | h | h <;> subst h <;> decide
theorem str_none (op : Int) (h : ∀ j : Nat, j < 5 → op ∉ sgO (j : Int)) : strV op = if op = 3 ∨ op = 4 then 5 else 6 := by
  have h0 := h 0 (by omega)
  have h1 := h 1 (by omega)
  have h2 := h 2 (by omega)
  have h3 := h 3 (by omega)
  have h4 := h 4 (by omega)
  simp [sgO] at h0 h1 h2 h3 h4
  unfold strV
  rw [if_neg (by omega), if_neg (by omega), if_neg (by omega), if_neg (by omega), if_neg (by omega)]
theorem sgO_len (level : Int) : (sgO level).length ≤ 6 := by
  unfold sgO
  split <;> simp
theorem int_not_in (xs : List Int) (s : Int) (m : Nat) (h : m < xs.length) (h0 : s ∉ xs.take m) (h1 : xs[m] ≠ s) : s ∉ xs.take (m + 1) := by
  rw [List.take_succ_eq_append_getElem h]
  simp only [List.mem_append, List.mem_singleton, not_or]
  exact ⟨h0, fun e => h1 e.symm⟩

end Go.Proofs.Ytobpnpkcafacjaa
