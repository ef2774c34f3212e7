/- Mutexes and tables in memory. No statement of the program is proved in this file. -/
import Derived.Test.YtobpnpkcafacjaaTbSpec
import Derived.Test.YtobpnpkcafacjaaRowG
import Derived.Lib.Hide
import Derived.Laws.OwnMore
import Derived.ArgAppend
import Derived.Deep.Upon
namespace Go.Proofs.Ytobpnpkcafacjaa
open Go.RowKit
set_option maxRecDepth 100000

def I64' (x : Int) : Prop := -9223372036854775808 ≤ x ∧ x ≤ 9223372036854775807
/-- the slice at A holds the mutexes ms -/
def MxR (w : World) (A : Option Addr) (ms : List TM) : Prop :=
  ∀ i (h : i < ms.length), ∃ b off s, A = some ⟨b, off, none⟩ ∧ w.cell? ⟨b, off + i * 3, none⟩ = some (.string s) ∧ w.cell? ⟨b, off + i * 3 + 1, none⟩ = some (.bool ms[i].re) ∧ w.cell? ⟨b, off + i * 3 + 2, none⟩ = some (.int .i64 (ms[i].sz : Int))
theorem MxR.later {w w' : World} {A : Option Addr} {ms : List TM} (h : MxR w A ms) (hb : Below w.heap.size w w') : MxR w' A ms := fun i hi => by
  obtain ⟨b, off, s, e, h0, h1, h2⟩ := h i hi
  exact ⟨b, off, s, e, cell_later hb h0, cell_later hb h1, cell_later hb h2⟩
theorem MxR.take {w : World} {A : Option Addr} {ms : List TM} (h : MxR w A ms) (k : Nat) : MxR w A (ms.take k) := fun i hi => by
  rw [List.length_take] at hi
  obtain ⟨b, off, s, e, h0, h1, h2⟩ := h i (by omega)
  exact ⟨b, off, s, e, h0, by rw [List.getElem_take]; exact h1, by rw [List.getElem_take]; exact h2⟩
/-- the slice at A holds the table hs -/
def TbR (w : World) (A : Option Addr) (hs : List TH) : Prop :=
  ∀ i (h : i < hs.length), ∃ b off, A = some ⟨b, off, none⟩ ∧ w.cell? ⟨b, off + i * 2, none⟩ = some (.int .i64 hs[i].1) ∧ w.cell? ⟨b, off + i * 2 + 1, none⟩ = some (.int .i64 hs[i].2)
theorem TbR.later {w w' : World} {A : Option Addr} {hs : List TH} (h : TbR w A hs) (hb : Below w.heap.size w w') : TbR w' A hs := fun i hi => by
  obtain ⟨b, off, e, h0, h1⟩ := h i hi
  exact ⟨b, off, e, cell_later hb h0, cell_later hb h1⟩
/-- the cells of a table -/
def tCs (hs : List TH) : List Value := hs.flatMap fun h => [.int .i64 h.1, .int .i64 h.2]
theorem tCs_len (hs : List TH) : (tCs hs).length = hs.length * 2 := by
  induction hs with
  | nil => rfl
  | cons h r ih =>
    have e : tCs (h :: r) = .int .i64 h.1 :: .int .i64 h.2 :: tCs r := by simp [tCs]
    rw [e]
    simp [ih]
    omega
theorem tCs_at (hs : List TH) (i : Nat) (h : i < hs.length) : (tCs hs)[i * 2]? = some (.int .i64 hs[i].1) ∧ (tCs hs)[i * 2 + 1]? = some (.int .i64 hs[i].2) := by
  induction hs generalizing i with
  | nil => simp at h
  | cons x r ih =>
    have e : tCs (x :: r) = .int .i64 x.1 :: .int .i64 x.2 :: tCs r := by simp [tCs]
    rw [e]
    cases i with
    | zero => simp
    | succ j =>
      have := ih j (by simpa using h)
      rw [show (j + 1) * 2 = j * 2 + 2 by omega]
      simpa using this
theorem tCs_one (hs : List TH) : ∀ u ∈ tCs hs, u.oneCell' = true := by
  intro u hu
  unfold tCs at hu
  obtain ⟨h, _, hu⟩ := List.mem_flatMap.1 hu
  simp at hu
  rcases hu with rfl | rfl <;> rfl
theorem tCs_set (hs : List TH) (i : Nat) (a b : Int) (h : i < hs.length) : ((tCs hs).set (i * 2) (.int .i64 a)).set (i * 2 + 1) (.int .i64 b) = tCs (hs.set i (a, b)) := by
  induction hs generalizing i with
  | nil => simp at h
  | cons x r ih =>
    have e : ∀ y (q : List TH), tCs (y :: q) = .int .i64 y.1 :: .int .i64 y.2 :: tCs q := fun y q => by simp [tCs]
    cases i with
    | zero => rw [List.set_cons_zero, e, e]; simp
    | succ j =>
      rw [List.set_cons_succ, e, e, show (j + 1) * 2 = j * 2 + 1 + 1 by omega, ← ih j (by simpa using h)]
      simp
theorem tCs_set1 (hs : List TH) (i : Nat) (b : Int) (h : i < hs.length) : (tCs hs).set (i * 2 + 1) (.int .i64 b) = tCs (hs.set i (hs[i].1, b)) := by
  rw [← tCs_set hs i hs[i].1 b h]
  congr 1
  have h1 := (tCs_at hs i h).1
  have hl : i * 2 < (tCs hs).length := by rw [tCs_len]; omega
  rw [List.getElem?_eq_getElem hl] at h1
  injection h1 with h1
  rw [← h1, List.set_getElem_self]
/-- the table hs in a block of the call's own, from block B on -/
def TbO (w : World) (B : Nat) (A : Option Addr) (c : Nat) (hs : List TH) : Prop :=
  hs = [] ∨ w.ownsRow B 30 2 (.slice A hs.length c) hs.length (tCs hs)
theorem TbO.later {w w' : World} {B c : Nat} {A : Option Addr} {hs : List TH} (h : TbO w B A c hs) (hb : Below w.heap.size w w') : TbO w' B A c hs := by
  rcases h with h | h
  · exact .inl h
  · exact .inr (owns_later h hb)
theorem TbO.row {w : World} {B c : Nat} {A : Option Addr} {hs : List TH} (h : TbO w B A c hs) (i : Nat) (hi : i < hs.length) : ∃ g, A = some ⟨g, 0, none⟩ ∧ B ≤ g ∧ g < w.heap.size ∧ w.cell? ⟨g, i * 2, none⟩ = some (.int .i64 hs[i].1) ∧ w.cell? ⟨g, i * 2 + 1, none⟩ = some (.int .i64 hs[i].2) ∧
    (∀ j, w.frozen? ⟨g, j, none⟩ = false) ∧ w.ownsRow B 30 2 (.slice (some ⟨g, 0, none⟩) hs.length c) hs.length (tCs hs) := by
  rcases h with h | h
  · subst h; simp at hi
  · have h' := h
    rcases h'.2 with ⟨_, h0⟩ | ⟨g, cap, cur, e, hB, hb, _⟩
    · omega
    · injection e with e1 _ e3
      subst e1 e3
      have hc := fun j hj => World.ownsRow.cellAt h j hj
      obtain ⟨q0, q1⟩ := tCs_at hs i hi
      exact ⟨g, rfl, hB, lt_of_block hb, (hc _ (by omega)).trans q0, (hc _ (by omega)).trans q1, fun j => frozen_of_row w g j _ _ hb, h⟩
theorem TbO.read {w : World} {B c : Nat} {A : Option Addr} {hs : List TH} (h : TbO w B A c hs) : TbR w A hs := fun i hi => by
  obtain ⟨g, e, _, _, h0, h1, _⟩ := h.row i hi
  exact ⟨g, 0, e, by rw [Nat.zero_add]; exact h0, by rw [Nat.zero_add]; exact h1⟩
theorem TbO.base {w : World} {B B' c : Nat} {A : Option Addr} {hs : List TH} (h : TbO w B A c hs) (hB : B' ≤ B) : TbO w B' A c hs := by
  rcases h with h | h
  · exact .inl h
  · refine .inr ⟨h.1, ?_⟩
    rcases h.2 with h0 | ⟨g, cap, cur, e, hg, r⟩
    · exact .inl h0
    · exact .inr ⟨g, cap, cur, e, Nat.le_trans hB hg, r⟩
theorem Try.infoHd : (Try.prog.info? 30).map (fun i => (i.zero, i.size, i.bytes)) = some (some (.agg #[.int .i64 0, .int .i64 0]), 2, 16) := by kernel_rfl
theorem Try.infoMx : (Try.prog.info? 33).map (fun i => (i.zero, i.size, i.bytes)) = some (some (.agg #[.string ⟨#[]⟩, .bool false, .int .i64 0]), 3, 32) := by kernel_rfl
theorem TbR.news {w : World} {b off : Nat} {hs : List TH} (h : TbR w (some ⟨b, off, none⟩) hs) : ∀ j u, (tCs hs)[j]? = some u → w.cell? ((⟨b, off, none⟩ : Addr).add j) = some u := fun j u hj => by
  rw [Go.WideShapes.add_plain]
  have hl : j < hs.length * 2 := by
    rcases Nat.lt_or_ge j (tCs hs).length with h1 | h1
    · rw [tCs_len] at h1; exact h1
    · rw [List.getElem?_eq_none h1] at hj; cases hj
  obtain ⟨b', off', e, h0, h1⟩ := h (j / 2) (by omega)
  injection e with e
  injection e with e1 e2
  subst e1 e2
  obtain ⟨q0, q1⟩ := tCs_at hs (j / 2) (by omega)
  rcases (show j = j / 2 * 2 ∨ j = j / 2 * 2 + 1 by omega) with e | e
  · rw [e] at hj ⊢
    rw [q0] at hj
    injection hj with hj
    rw [← hj]; exact h0
  · have e' : (⟨b, off + j, none⟩ : Addr) = ⟨b, off + j / 2 * 2 + 1, none⟩ := by rw [Nat.add_assoc, ← e]
    rw [e'] 
    rw [e, q1] at hj
    injection hj with hj
    rw [← hj]; exact h1
end Go.Proofs.Ytobpnpkcafacjaa
