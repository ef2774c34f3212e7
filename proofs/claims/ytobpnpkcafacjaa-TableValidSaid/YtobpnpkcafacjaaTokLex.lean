/- What Lex of package token returns for every slice of bytes that can be read: the tokens or the error of the plain function Tk.lex. -/
import Derived.Test.YtobpnpkcafacjaaTokScan
namespace Go.Proofs.Ytobpnpkcafacjaa
open Go.RowKit

def tokCells (ts : List Tk.Tok) : List Value := ts.flatMap fun t => [.int .i64 (t.kind : Int), .string ⟨t.text.toArray⟩, .int .i64 (t.num : Int), .int .i64 (t.pos : Int)]
theorem tokCells_snoc (ts : List Tk.Tok) (t : Tk.Tok) : tokCells (ts ++ [t]) = tokCells ts ++ [.int .i64 (t.kind : Int), .string ⟨t.text.toArray⟩, .int .i64 (t.num : Int), .int .i64 (t.pos : Int)] := by
  simp [tokCells]

theorem tok_ok (l : List UInt8) (k : Nat) (t : Tk.Tok) (hk : k < l.length) (h : Tk.tokAt l k = .ok t) : 0 < t.text.length ∧ k + t.text.length ≤ l.length ∧ t.pos = k := by
  have hg : l.getD k 0 = l[k] := by simp [List.getD, List.getElem?_eq_getElem hk]
  have hp : ∀ (p : UInt8 → Bool), p l[k] = true → 0 < ((l.drop k).takeWhile p).length ∧ k + ((l.drop k).takeWhile p).length ≤ l.length := by
    intro p hp
    have h1 := run_at p l k hk
    rw [if_pos hp] at h1
    have h2 := (List.takeWhile_prefix p (l := l.drop k)).length_le
    simp at h2
    omega
  unfold Tk.tokAt at h
  rw [hg] at h
  split at h
  · rename_i hL
    unfold Tk.nameAt at h
    dsimp only at h
    split at h
    · cases h
    · injection h with h
      subst h
      have := hp Tk.isLD (by simp [Tk.isLD, hL])
      exact ⟨this.1, this.2, rfl⟩
  · split at h
    · rename_i hD
      unfold Tk.numAt at h
      dsimp only at h
      split at h
      · cases h
      · injection h with h
        subst h
        have := hp Tk.isDig hD
        exact ⟨this.1, this.2, rfl⟩
    · unfold Tk.signAt at h
      split at h
      · injection h with h
        subst h
        refine ⟨?_, ?_, rfl⟩
        all_goals (simp; omega)
      · split at h
        · injection h with h
          subst h
          refine ⟨?_, ?_, rfl⟩
          all_goals (simp; omega)
        · cases h
theorem tok_err (l : List UInt8) (k e : Nat) (h : Tk.tokAt l k = .error e) : 1 ≤ e ∧ e ≤ 3 := by
  unfold Tk.tokAt at h
  split at h
  · unfold Tk.nameAt at h
    dsimp only at h
    split at h
    · injection h with h; omega
    · cases h
  · split at h
    · unfold Tk.numAt at h
      dsimp only at h
      split at h
      · injection h with h; omega
      · cases h
    · unfold Tk.signAt at h
      split at h
      · cases h
      · split at h
        · cases h
        · injection h with h; omega

theorem lexGo_end (f : Nat) (l : List UInt8) (k : Nat) (acc : List Tk.Tok) (h : l.length ≤ k) : Tk.lexGo (f + 1) l k acc = (acc ++ [⟨5, [], 0, l.length⟩], l.length, 0) := by
  rw [Tk.lexGo, if_pos h]
theorem lexGo_err (f : Nat) (l : List UInt8) (k e : Nat) (acc : List Tk.Tok) (h : k < l.length) (he : Tk.tokAt l k = .error e) : Tk.lexGo (f + 1) l k acc = ([], k, e) := by
  rw [Tk.lexGo, if_neg (by omega), he]
theorem lexGo_many (f : Nat) (l : List UInt8) (k : Nat) (acc : List Tk.Tok) (t : Tk.Tok) (h : k < l.length) (he : Tk.tokAt l k = .ok t) (hn : acc.length = 4000) : Tk.lexGo (f + 1) l k acc = ([], k, 3) := by
  rw [Tk.lexGo, if_neg (by omega), he]
  dsimp only
  rw [if_pos hn]
theorem lexGo_step (f : Nat) (l : List UInt8) (k : Nat) (acc : List Tk.Tok) (t : Tk.Tok) (h : k < l.length) (he : Tk.tokAt l k = .ok t) (hn : acc.length ≠ 4000) :
    Tk.lexGo (f + 1) l k acc = Tk.lexGo f l (Tk.skipTo l (k + t.text.length)) (acc ++ [t]) := by
  rw [Tk.lexGo, if_neg (by omega), he]
  dsimp only
  rw [if_neg hn]

theorem owns_later {w w' : World} {base : Nat} {e : TypeId} {size n : Nat} {v : Value} {xs : List Value} (h : w.ownsRow base e size v n xs) (hb : Below w.heap.size w w') : w'.ownsRow base e size v n xs := by
  obtain ⟨hl, h⟩ := h
  refine ⟨hl, ?_⟩
  rcases h with h | ⟨g, cap, cur, e1, e2, hh, rest⟩
  · exact .inl h
  · exact .inr ⟨g, cap, cur, e1, e2, (hb.block g (lt_of_block hh)).trans hh, rest⟩
theorem owns_block {w : World} {base : Nat} {e : TypeId} {size n : Nat} {v : Value} {xs : List Value} (h : w.ownsRow base e size v n xs) (g : Nat) (hg : v.ownBlock = some g) : base ≤ g ∧ g < w.heap.size := by
  rcases h.2 with ⟨rfl, _⟩ | ⟨g', cap, cur, rfl, hb, hh, _⟩
  · cases hg
  · have : g' = g := by simpa [Value.ownBlock] using hg
    subst this
    exact ⟨hb, lt_of_block hh⟩

theorem owns_form {w : World} {base : Nat} {e : TypeId} {size n : Nat} {v : Value} {xs : List Value} (h : w.ownsRow base e size v n xs) : ∃ A c, v = .slice A n c := by
  rcases h.2 with ⟨rfl, rfl⟩ | ⟨g', cap, cur, rfl, _⟩
  · exact ⟨_, _, rfl⟩
  · exact ⟨_, _, rfl⟩

theorem news_four (W : World) (g : Nat) (hg : g = W.heap.size) (c0 c1 c2 c3 : Value) (t : TypeId) (j : Nat) (u : Value) (hj : [c0, c1, c2, c3][j]? = some u) :
    (W.alloc (.cells #[c0, c1, c2, c3] t)).cell? ((⟨g, 0, none⟩ : Addr).add j) = some u := by
  subst hg
  have ha : (⟨W.heap.size, 0, none⟩ : Addr).add j = ⟨W.heap.size, j, none⟩ := by
    unfold Addr.add
    split
    · simp_all
    · simp
  rw [ha, World.cell?_alloc_mark, ← hj]
  simp
theorem one_four (t : Tk.Tok) : ∀ u ∈ [Value.int .i64 (t.kind : Int), .string ⟨t.text.toArray⟩, .int .i64 (t.num : Int), .int .i64 (t.pos : Int)], u.oneCell' = true := by
  intro u hu
  simp at hu
  rcases hu with rfl | rfl | rfl | rfl <;> rfl

/-- what an append to a row of the call's own leaves, behind a call that changed nothing and two new blocks -/
theorem lex_after {w wr w2 w5 : World} {e size n : Nat} {v : Value} {xs : List Value} {c0 c1 c2 c3 : Value} {t : TypeId} {o : Obj} (ho : wr.ownsRow w.heap.size e size v n xs) (hw : Below w.heap.size w wr) (hb : Below wr.heap.size wr w2)
    (hg : ((w2.alloc (.cells #[c0, c1, c2, c3] t)).alloc o).grownBy w5 v.ownBlock) : w5.cell? ⟨w2.heap.size, 1, none⟩ = some c1 ∧ Below w.heap.size w w5 := by
  have h1 := hw.size
  have h2 := hb.size
  have hs : ((w2.alloc (.cells #[c0, c1, c2, c3] t)).alloc o).heap.size = w2.heap.size + 2 := by simp
  constructor
  · have hne : some w2.heap.size ≠ v.ownBlock := by
      intro h
      have := (owns_block ho _ h.symm).2
      omega
    have hc : w5.cell? ⟨w2.heap.size, 1, none⟩ = ((w2.alloc (.cells #[c0, c1, c2, c3] t)).alloc o).cell? ⟨w2.heap.size, 1, none⟩ := World.cell?_of_block (hg.block w2.heap.size (by rw [hs]; omega) hne)
    rw [hc, World.cell?_alloc_lt _ _ _ (by simp), World.cell?_alloc_mark]
    rfl
  · exact (((hw.trans (hb.mono h1)).alloc (by omega) _).alloc (by simp; omega) _).grown hg (by rw [hs]; omega) (fun k hk => (owns_block ho k hk).1)

end Go.Proofs.Ytobpnpkcafacjaa
