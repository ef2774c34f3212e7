/- What Lex of package token returns for every slice of bytes that can be read: the tokens or the error of the plain function Tk.lex. -/
import Derived.Test.YtfhpihpdijighaaDoorTokScan
namespace Go.Proofs.YtfhpihpdijighaaDoor
open Go.RowKit

def tokCells (ts : List Tk.Tok) : List Value := ts.flatMap fun t => [.int .i64 (t.kind : Int), .string ⟨t.text.toArray⟩, .int .i64 (t.num : Int), .int .i64 (t.pos : Int)]
theorem tokCells_snoc (ts : List Tk.Tok) (t : Tk.Tok) : tokCells (ts ++ [t]) = tokCells ts ++ [.int .i64 (t.kind : Int), .string ⟨t.text.toArray⟩, .int .i64 (t.num : Int), .int .i64 (t.pos : Int)] := by
  simp [tokCells]

theorem tok_ok (l : List UInt8) (k : Nat) (t : Tk.Tok) (hk : k < l.length) (h : Tk.tokAt l k = .ok t) : 0 < t.text.length ∧ k + t.text.length ≤ l.length ∧ t.pos = k := by
  have hg : l.getD k 0 = l[k] := by simp [List.getD, List.getElem?_eq_getElem hk]
  have hp : ∀ (p : UInt8 → Bool), p l[k] = true → 0 < ((l.drop k).takeWhile p).length ∧ k + ((l.drop k).takeWhile p).length ≤ l.length := by
    intro p hp
    have h1 := run_at p l k hk
    rw [if_pos hp] at h1
    have h2 := (List.takeWhile_prefix p (l := l.drop k)).length_le
    simp at h2
    omega
  unfold Tk.tokAt at h
  rw [hg] at h
  split at h
  · rename_i hL
    unfold Tk.nameAt at h
    dsimp only at h
    split at h
    · cases h
    · injection h with h
      subst h
      have := hp Tk.isLD (by simp [Tk.isLD, hL])
      exact ⟨this.1, this.2, rfl⟩
  · split at h
    · rename_i hD
      unfold Tk.numAt at h
      dsimp only at h
      split at h
      · cases h
      · injection h with h
        subst h
        have := hp Tk.isDig hD
        exact ⟨this.1, this.2, rfl⟩
    · unfold Tk.signAt at h
      split at h
      · injection h with h
        subst h
        refine ⟨?_, ?_, rfl⟩
        all_goals (simp; omega)
      · split at h
        · injection h with h
          subst h
          refine ⟨?_, ?_, rfl⟩
          all_goals (simp; omega)
        · cases h
theorem tok_err (l : List UInt8) (k e : Nat) (h : Tk.tokAt l k = .error e) : 1 ≤ e ∧ e ≤ 3 := by
  unfold Tk.tokAt at h
  split at h
  · unfold Tk.nameAt at h
    dsimp only at h
    split at h
    · injection h with h; omega
    · cases h
  · split at h
    · unfold Tk.numAt at h
      dsimp only at h
      split at h
      · injection h with h; omega
      · cases h
    · unfold Tk.signAt at h
      split at h
      · cases h
      · split at h
        · cases h
        · injection h with h; omega

theorem lexGo_end (f : Nat) (l : List UInt8) (k : Nat) (acc : List Tk.Tok) (h : l.length ≤ k) : Tk.lexGo (f + 1) l k acc = (acc ++ [⟨5, [], 0, l.length⟩], l.length, 0) := by
  rw [Tk.lexGo, if_pos h]
theorem lexGo_err (f : Nat) (l : List UInt8) (k e : Nat) (acc : List Tk.Tok) (h : k < l.length) (he : Tk.tokAt l k = .error e) : Tk.lexGo (f + 1) l k acc = ([], k, e) := by
  rw [Tk.lexGo, if_neg (by omega), he]
theorem lexGo_many (f : Nat) (l : List UInt8) (k : Nat) (acc : List Tk.Tok) (t : Tk.Tok) (h : k < l.length) (he : Tk.tokAt l k = .ok t) (hn : acc.length = 4000) : Tk.lexGo (f + 1) l k acc = ([], k, 3) := by
  rw [Tk.lexGo, if_neg (by omega), he]
  dsimp only
  rw [if_pos hn]
theorem lexGo_step (f : Nat) (l : List UInt8) (k : Nat) (acc : List Tk.Tok) (t : Tk.Tok) (h : k < l.length) (he : Tk.tokAt l k = .ok t) (hn : acc.length ≠ 4000) :
    Tk.lexGo (f + 1) l k acc = Tk.lexGo f l (Tk.skipTo l (k + t.text.length)) (acc ++ [t]) := by
  rw [Tk.lexGo, if_neg (by omega), he]
  dsimp only
  rw [if_neg hn]

/-- what Lex leaves: the tokens in memory of its own, the offset, the error -/
def LexPost (w : World) (R : List Tk.Tok × Nat × Nat) (e : Ending) (w' : World) : Prop :=
  ∃ v, e = .returned (.tuple #[v, .int .i64 (R.2.1 : Int), .int .i64 (R.2.2 : Int)]) ∧ w'.ownsRow w.heap.size 26 4 v R.1.length (tokCells R.1) ∧ Below w.heap.size w w'

theorem lexPost_err {w w' : World} {l : List UInt8} {k e0 : Nat} (h : Tk.lex l = ([], k, e0)) (hb : Below w.heap.size w w') :
    LexPost w (Tk.lex l) (.returned (.tuple #[.slice none 0 0, .int .i64 (k : Int), .int .i64 (e0 : Int)])) w' := by
  rw [h]
  exact ⟨_, rfl, World.ownsRow_nil _ _ _ _, hb⟩

theorem owns_later {w w' : World} {base : Nat} {e : TypeId} {size n : Nat} {v : Value} {xs : List Value} (h : w.ownsRow base e size v n xs) (hb : Below w.heap.size w w') : w'.ownsRow base e size v n xs := by
  obtain ⟨hl, h⟩ := h
  refine ⟨hl, ?_⟩
  rcases h with h | ⟨g, cap, cur, e1, e2, hh, rest⟩
  · exact .inl h
  · exact .inr ⟨g, cap, cur, e1, e2, (hb.block g (lt_of_block hh)).trans hh, rest⟩
theorem owns_block {w : World} {base : Nat} {e : TypeId} {size n : Nat} {v : Value} {xs : List Value} (h : w.ownsRow base e size v n xs) (g : Nat) (hg : v.ownBlock = some g) : base ≤ g ∧ g < w.heap.size := by
  rcases h.2 with ⟨rfl, _⟩ | ⟨g', cap, cur, rfl, hb, hh, _⟩
  · cases hg
  · have : g' = g := by simpa [Value.ownBlock] using hg
    subst this
    exact ⟨hb, lt_of_block hh⟩

theorem owns_form {w : World} {base : Nat} {e : TypeId} {size n : Nat} {v : Value} {xs : List Value} (h : w.ownsRow base e size v n xs) : ∃ A c, v = .slice A n c := by
  rcases h.2 with ⟨rfl, rfl⟩ | ⟨g', cap, cur, rfl, _⟩
  · exact ⟨_, _, rfl⟩
  · exact ⟨_, _, rfl⟩

theorem news_four (W : World) (g : Nat) (hg : g = W.heap.size) (c0 c1 c2 c3 : Value) (t : TypeId) (j : Nat) (u : Value) (hj : [c0, c1, c2, c3][j]? = some u) :
    (W.alloc (.cells #[c0, c1, c2, c3] t)).cell? ((⟨g, 0, none⟩ : Addr).add j) = some u := by
  subst hg
  have ha : (⟨W.heap.size, 0, none⟩ : Addr).add j = ⟨W.heap.size, j, none⟩ := by
    unfold Addr.add
    split
    · simp_all
    · simp
  rw [ha, World.cell?_alloc_mark, ← hj]
  simp
theorem one_four (t : Tk.Tok) : ∀ u ∈ [Value.int .i64 (t.kind : Int), .string ⟨t.text.toArray⟩, .int .i64 (t.num : Int), .int .i64 (t.pos : Int)], u.oneCell' = true := by
  intro u hu
  simp at hu
  rcases hu with rfl | rfl | rfl | rfl <;> rfl

/-- what an append to a row of the call's own leaves, behind a call that changed nothing and two new blocks -/
theorem lex_after {w wr w2 w5 : World} {e size n : Nat} {v : Value} {xs : List Value} {c0 c1 c2 c3 : Value} {t : TypeId} {o : Obj} (ho : wr.ownsRow w.heap.size e size v n xs) (hw : Below w.heap.size w wr) (hb : Below wr.heap.size wr w2)
    (hg : ((w2.alloc (.cells #[c0, c1, c2, c3] t)).alloc o).grownBy w5 v.ownBlock) : w5.cell? ⟨w2.heap.size, 1, none⟩ = some c1 ∧ Below w.heap.size w w5 := by
  have h1 := hw.size
  have h2 := hb.size
  have hs : ((w2.alloc (.cells #[c0, c1, c2, c3] t)).alloc o).heap.size = w2.heap.size + 2 := by simp
  constructor
  · have hne : some w2.heap.size ≠ v.ownBlock := by
      intro h
      have := (owns_block ho _ h.symm).2
      omega
    have hc : w5.cell? ⟨w2.heap.size, 1, none⟩ = ((w2.alloc (.cells #[c0, c1, c2, c3] t)).alloc o).cell? ⟨w2.heap.size, 1, none⟩ := World.cell?_of_block (hg.block w2.heap.size (by rw [hs]; omega) hne)
    rw [hc, World.cell?_alloc_lt _ _ _ (by simp), World.cell?_alloc_mark]
    rfl
  · exact (((hw.trans (hb.mono h1)).alloc (by omega) _).alloc (by simp; omega) _).grown hg (by rw [hs]; omega) (fun k hk => (owns_block ho k hk).1)

theorem Tryd.infoTok : (Tryd.prog.info? 26).map (fun i => (i.zero, i.size, i.bytes)) = some (some (.agg #[.int .i64 0, .string ⟨#[]⟩, .int .i64 0, .int .i64 0]), 4, 40) := by kernel_rfl

set_option maxRecDepth 100000 in
set_option maxHeartbeats 1000000 in
theorem lex_any (l : List UInt8) (ao : Option Addr) (cap : Nat) (w : World) (hB : Byt w ao l) (hl : l.length ≤ 262144) (hcap : l.length ≤ cap) :
    Calls Tryd.prog 75 #[.slice ao l.length cap] w (LexPost w (Tk.lex l)) := by
  obtain ⟨i0, hi, hz0, hz1, hz2⟩ := info_parts Tryd.infoTok
  have HB := Lib.hid hB
  clear hB
  have HR : Hid (Tk.lex l = Tk.lexGo (l.length + 1) l (Tk.skipTo l 0) []) := by unfold Tk.lex; rw [if_neg (by omega)]; rfl
  have hb0 : decide (262144 < (l.length : Int)) = false := by simp; omega
  have hk0 := Tk.skipTo_le l 0 (Nat.zero_le _)
  go_enter Tryd.func75, Tryd.ntmps75
  go_wp2_with (first | (go_at_call 85; refine (skip_any l _ cap _ w HB.out (by omega) (by omega) (by omega)).mono ?_; rintro e w' ⟨rfl, rfl⟩))
  clear hb0
  go_loopw [5, 6, 7, 8] (fun v i _ _ wr => ∃ (k f : Nat) (acc : List Tk.Tok), k ≤ l.length ∧ i = .int .i64 k ∧ acc.length ≤ 4000 ∧ l.length - k < f ∧ wr.ownsRow w.heap.size 26 4 v acc.length (tokCells acc) ∧ Below w.heap.size w wr ∧ Hid (Tk.lexGo f l k acc = Tk.lex l))
    (fun _ i _ _ _ => l.length - (intOf i).toNat)
  case atStart => exact ⟨Tk.skipTo l 0, l.length + 1, [], hk0, rfl, by simp, by omega, World.ownsRow_nil _ _ _ _, Below.refl _ _, HR.out.symm⟩
  case round =>
    obtain ⟨k, f, acc, hk, rfl, hacc, hf, hown, hbel, hgo⟩ := hrel
    clear HR hk0
    obtain ⟨f, rfl⟩ : ∃ g, f = g + 1 := ⟨f - 1, by omega⟩
    obtain ⟨sa, sc, rfl⟩ := owns_form hown
    by_cases hlt : k < l.length
    · have HW := Lib.hid (HB.out.later hbel)
      have HO := Lib.hid hown
      have HBE := Lib.hid hbel
      clear hown hbel
      cases ht : Tk.tokAt l k with
      | error e0 =>
        have he := tok_err l k e0 ht
        have HE := Lib.hid (lexGo_err f l k e0 acc hlt ht)
        have HT := Lib.hid ht
        clear ht
        have t0 := bF (show ((e0 : Nat) : Int) ≠ 0 by omega)
        have t1 := nT (show ((e0 : Nat) : Int) ≠ 0 by omega)
        go_wp2_with (first | (go_at_call 86; refine (scan_any l _ cap k _ HW.out hlt (by omega) hcap).mono ?_; rintro e w2 ⟨rfl, hb⟩; rw [HT.out]; unfold scanVal noTok))
        go_ret3
        exact lexPost_err (hgo.out.symm.trans HE.out) ((HBE.out.trans (hb.mono HBE.out.size)).alloc (Nat.le_trans HBE.out.size hb.size) _)
      | ok t =>
        obtain ⟨hp, hle, hpos⟩ := tok_ok l k t hlt ht
        have HT := Lib.hid ht
        have HP := Lib.hid hpos
        clear ht hpos
        by_cases hn : acc.length = 4000
        · have HE := Lib.hid (lexGo_many f l k acc t hlt HT.out hn)
          have tn := bT (show ((acc.length : Nat) : Int) = 4000 by omega)
          clear hn
          go_wp2_with (first | (go_at_call 86; refine (scan_any l _ cap k _ HW.out hlt (by omega) hcap).mono ?_; rintro e w2 ⟨rfl, hb⟩; rw [HT.out]; unfold scanVal tokVal))
          go_ret3
          exact lexPost_err (hgo.out.symm.trans HE.out) ((HBE.out.trans (hb.mono HBE.out.size)).alloc (Nat.le_trans HBE.out.size hb.size) _)
        · have HE := Lib.hid (lexGo_step f l k acc t hlt HT.out hn)
          have tn := bF (show ((acc.length : Nat) : Int) ≠ 4000 by omega)
          have hn' : acc.length < 4000 := by omega
          clear hn
          go_wp2_with (first | (go_at_call 86; refine (scan_any l _ cap k _ HW.out hlt (by omega) hcap).mono ?_; rintro e w2 ⟨rfl, hb⟩; rw [HT.out]; unfold scanVal tokVal) | (at_builtin; refine wpList_append_own _ rfl (.tmp 35) (.tmp 37) 23 rfl w.heap.size 26 i0 _ 4 40 Tryd.underlying23 hi hz0 hz1 hz2 rfl (by decide) _ acc.length (tokCells acc) rfl (((owns_later HO.out hb).alloc _).alloc _) ⟨w2.heap.size + 1, 0, none⟩ 1 1 [.int .i64 (t.kind : Int), .string ⟨t.text.toArray⟩, .int .i64 (t.num : Int), .int .i64 (t.pos : Int)] rfl rfl (news_four (w2.alloc _) (w2.heap.size + 1) (by simp) _ _ _ _ _) (one_four t) (by unfold maxLen; omega) (by omega) (by have := HBE.out.size; have := hb.size; simp; omega) ?_))
          intro v' w5 hown' hgrow _
          obtain ⟨hq, hbel5⟩ := lex_after HO.out HBE.out hb hgrow
          have HO' := Lib.hid hown'
          have HBE' := Lib.hid hbel5
          clear hown' hgrow hbel5
          go_wp2_with (first | (go_at_call 85; refine (skip_any l _ cap _ _ (HB.out.later HBE'.out) (by omega) (by omega) (by omega)).mono ?_; rintro e w' ⟨rfl, rfl⟩))
          go_roundw
          case rel =>
            have e1 : ((k : Int) + (t.text.length : Int)).toNat = k + t.text.length := by omega
            refine ⟨Tk.skipTo l (k + t.text.length), f, acc ++ [t], Tk.skipTo_le l _ hle, by rw [e1], by simp; omega, ?_, ?_, HBE'.out, (HE.out.symm.trans hgo.out : _ = _)⟩
            · have : k + t.text.length ≤ Tk.skipTo l (k + t.text.length) := by unfold Tk.skipTo; omega
              omega
            · have := HO'.out
              rw [← tokCells_snoc] at this
              simpa using this
          case measure =>
            have e1 : ((k : Int) + (t.text.length : Int)).toNat = k + t.text.length := by omega
            rw [e1]
            have : k + t.text.length ≤ Tk.skipTo l (k + t.text.length) := by unfold Tk.skipTo; omega
            simp [intOf]
            omega
    · have HE := Lib.hid (lexGo_end f l k acc (by omega))
      have HO := Lib.hid hown
      have HBE := Lib.hid hbel
      clear hown hbel
      go_wp2_with (first | (at_builtin; refine wpList_append_own _ rfl (.tmp 46) (.tmp 50) 23 rfl w.heap.size 26 i0 _ 4 40 Tryd.underlying23 hi hz0 hz1 hz2 rfl (by decide) _ acc.length (tokCells acc) rfl (HO.out.alloc _) ⟨wr.heap.size, 0, none⟩ 1 1 [.int .i64 5, .string ⟨#[]⟩, .int .i64 0, .int .i64 (l.length : Int)] rfl rfl (news_four wr wr.heap.size rfl _ _ _ _ _) (one_four ⟨5, [], 0, l.length⟩) (by unfold maxLen; omega) (by omega) (by have := HBE.out.size; simp; omega) ?_))
      intro v' w5 hown' hgrow _
      have hbel5 := (HBE.out.alloc HBE.out.size _).grown hgrow (Nat.le_trans HBE.out.size (by simp)) (fun k hk => (owns_block HO.out k hk).1)
      have HO' := Lib.hid hown'
      have HBE' := Lib.hid hbel5
      clear hown' hgrow hbel5
      go_wp2
      go_ret3
      have hR := hgo.out.symm.trans HE.out
      rw [hR]
      refine ⟨v', rfl, ?_, HBE'.out⟩
      have := HO'.out
      rw [show (acc ++ [(⟨5, [], 0, l.length⟩ : Tk.Tok)]).length = acc.length + 1 by simp, tokCells_snoc]
      exact this

end Go.Proofs.YtfhpihpdijighaaDoor
