/- A slice that holds tokens, and small lemmas. No statement of the program is proved in this file. -/
import Derived.Test.YtobpnpkcafacjaaTokLex
import Derived.Deep.QuietTactic
import Derived.BigQuiet
namespace Go.Proofs.Ytobpnpkcafacjaa
open Go.RowKit

/-- the slice at A holds the tokens ts -/
def TokS (w : World) (A : Option Addr) (ts : List Tk.Tok) : Prop :=
  ∀ i (h : i < ts.length), ∃ b, A = some ⟨b, 0, none⟩ ∧ w.cell? ⟨b, i * 4, none⟩ = some (.int .i64 (ts[i].kind : Int)) ∧ w.cell? ⟨b, i * 4 + 1, none⟩ = some (.string ⟨ts[i].text.toArray⟩) ∧
    w.cell? ⟨b, i * 4 + 2, none⟩ = some (.int .i64 (ts[i].num : Int)) ∧ w.cell? ⟨b, i * 4 + 3, none⟩ = some (.int .i64 (ts[i].pos : Int))

theorem TokS.later {w w' : World} {A : Option Addr} {ts : List Tk.Tok} (h : TokS w A ts) (hb : Below w.heap.size w w') : TokS w' A ts := by
  intro i hi
  obtain ⟨b, e, h0, h1, h2, h3⟩ := h i hi
  exact ⟨b, e, cell_later hb h0, cell_later hb h1, cell_later hb h2, cell_later hb h3⟩

theorem tokCells_length (ts : List Tk.Tok) : (tokCells ts).length = ts.length * 4 := by
  induction ts with
  | nil => rfl
  | cons t r ih =>
    have : tokCells (t :: r) = [.int .i64 (t.kind : Int), .string ⟨t.text.toArray⟩, .int .i64 (t.num : Int), .int .i64 (t.pos : Int)] ++ tokCells r := by simp [tokCells]
    rw [this]
    simp [ih]
    omega
theorem tokCells_at (ts : List Tk.Tok) (i : Nat) (h : i < ts.length) : (tokCells ts)[i * 4]? = some (.int .i64 (ts[i].kind : Int)) ∧ (tokCells ts)[i * 4 + 1]? = some (.string ⟨ts[i].text.toArray⟩) ∧
    (tokCells ts)[i * 4 + 2]? = some (.int .i64 (ts[i].num : Int)) ∧ (tokCells ts)[i * 4 + 3]? = some (.int .i64 (ts[i].pos : Int)) := by
  induction ts generalizing i with
  | nil => simp at h
  | cons t r ih =>
    have : tokCells (t :: r) = .int .i64 (t.kind : Int) :: .string ⟨t.text.toArray⟩ :: .int .i64 (t.num : Int) :: .int .i64 (t.pos : Int) :: tokCells r := by simp [tokCells]
    rw [this]
    cases i with
    | zero => simp
    | succ j =>
      have := ih j (by simpa using h)
      have e : (j + 1) * 4 = j * 4 + 4 := by omega
      rw [e]
      simpa using this
theorem news_one (W : World) (g : Nat) (hg : g = W.heap.size) (c0 : Value) (t : TypeId) (j : Nat) (u : Value) (hj : [c0][j]? = some u) :
    (W.alloc (.cells #[c0] t)).cell? ((⟨g, 0, none⟩ : Addr).add j) = some u := by
  subst hg
  have ha : (⟨W.heap.size, 0, none⟩ : Addr).add j = ⟨W.heap.size, j, none⟩ := by
    unfold Addr.add
    split
    · simp_all
    · simp
  rw [ha, World.cell?_alloc_mark, ← hj]
  simp
theorem one_one (c : ByteArray) : ∀ u ∈ [Value.string c], u.oneCell' = true := by
  intro u hu
  simp at hu
  subst hu
  rfl
/-- what an append to a row of the call's own leaves, behind two new blocks -/
theorem grown_two {w wr w5 : World} {e size n : Nat} {v : Value} {xs : List Value} {o o' : Obj} (ho : wr.ownsRow w.heap.size e size v n xs) (hw : Below w.heap.size w wr)
    (hg : ((wr.alloc o).alloc o').grownBy w5 v.ownBlock) : Below w.heap.size w w5 := by
  have h1 := hw.size
  exact ((hw.alloc h1 _).alloc (by simp; omega) _).grown hg (by simp; omega) (fun k hk => (owns_block ho k hk).1)

theorem Try.infoStr : (Try.prog.info? 9).map (fun i => (i.zero, i.size, i.bytes)) = some (some (.string ⟨#[]⟩), 1, 16) := by kernel_rfl

theorem below_drewN {B : Nat} {a w : World} (h : Below B a w) (n : Nat) : Below B a (w.drewN n) := ⟨h.os, h.tape, h.output, h.size, h.block⟩

theorem lexGo_len (f : Nat) (l : List UInt8) (k : Nat) (acc : List Tk.Tok) (h : acc.length ≤ 4000) : (Tk.lexGo f l k acc).1.length ≤ 4001 := by
  induction f generalizing k acc with
  | zero => simp [Tk.lexGo]
  | succ f ih =>
    rw [Tk.lexGo]
    split
    · simp; omega
    · split
      · simp
      · split
        · simp
        · exact ih _ _ (by simp; omega)
theorem lex_len (l : List UInt8) : (Tk.lex l).1.length ≤ 4001 := by
  unfold Tk.lex
  split
  · simp
  · exact lexGo_len _ _ _ _ (by simp)


end Go.Proofs.Ytobpnpkcafacjaa
