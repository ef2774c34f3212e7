/- The texts of nested blocks, and which error each has. No statement of the program is proved in this file. -/
import Derived.Test.YtjjooekkieddbaaDoorLmQG
namespace Go.Proofs.YtjjooekkieddbaaDoor

theorem sgn_of {ts : List Tk.Tok} {k : Nat} {s : List UInt8} (h1 : Ps.kindAt ts k = 4) (h2 : Ps.textAt ts k = s) : Ps.sgn ts k = s := by
  unfold Ps.kindAt at h1
  unfold Ps.textAt at h2
  unfold Ps.sgn
  cases ht : ts[k]? with
  | none => rw [ht] at h1; cases h1
  | some t =>
    rw [ht] at h1 h2
    dsimp only at h1 h2 ⊢
    rw [if_pos h1, h2]
/-- a number before a brace is an expression -/
theorem ex_num {ts : List Tk.Tok} {k : Nat} (h1 : Ps.kindAt ts k = 2) (h2 : Ps.kindAt ts (k + 1) = 4) (h3 : Ps.textAt ts (k + 1) = [123]) : Pa.exS ts (.at_ k) = .at_ (k + 1) := by
  have e : Ps.PE ts 1 0 k = .ok (.mk 1 (Ps.numAt ts k) [] []) (k + 1) := by
    rw [Ps.PE_eq ts 1 0 k (by omega), Ps.PO_eq, if_pos h1]
    show Ps.PC ts 1 0 _ (k + 1) = _
    exact Ps.PC_stop ts 1 0 _ (k + 1) (by rw [sgn_of h2 h3]; decide)
  show (match Ps.PE ts 1 0 k with | .ok _ m => Pa.Sg.at_ m | .bad m e => .bad m e) = _
  rw [e]
def kIf : Nat × List UInt8 × Nat := (3, [105, 102], 0)
def kEl : Nat × List UInt8 × Nat := (3, [101, 108, 115, 101], 0)
def kWh : Nat × List UInt8 × Nat := (3, [119, 104, 105, 108, 101], 0)
/-- the text and the tokens of a piece -/
def dpP (c : Nat) : List UInt8 := if c = 0 then [105, 102, 32, 49, 32, 123] else if c = 1 then [105, 102, 32, 49, 32, 123, 32, 125, 32, 101, 108, 115, 101, 32, 123] else [119, 104, 105, 108, 101, 32, 48, 32, 123]
def dpQ (c : Nat) : List (Nat × List UInt8 × Nat) := if c = 0 then [kIf, (2, [49], 1), kSg 123] else if c = 1 then [kIf, (2, [49], 1), kSg 123, kSg 125, kEl, kSg 123] else [kWh, (2, [48], 0), kSg 123]
theorem lx_num (d : UInt8) (h : Tk.isDig d = true) (hl : Tk.isLet d = false) : LxA [32, d, 32, 123] [(2, [d], d.toNat - 48), kSg 123] :=
  LxA.sp.app ((LxN.num d h hl).app (c := 32) (s' := [123]) (by decide) (LxA.sp.app (LxA.sg 123 (by decide))))
theorem lx_if : LxA [105, 102, 32, 49, 32, 123] [kIf, (2, [49], 1), kSg 123] := (LxN.res [105, 102] (by decide) (by decide)).app (c := 32) (s' := [49, 32, 123]) (by decide) (lx_num 49 (by decide) (by decide))
theorem lx_piece (c : Nat) : LxA (dpP c) (dpQ c) := by
  unfold dpP dpQ
  split
  · exact lx_if
  split
  · exact lx_if.app (LxA.sp.app ((LxA.sg 125 (by decide)).app (LxA.sp.app ((LxN.res [101, 108, 115, 101] (by decide) (by decide)).app (c := 32) (s' := [123]) (by decide) (LxA.sp.app (LxA.sg 123 (by decide)))))))
  · exact (LxN.res [119, 104, 105, 108, 101] (by decide) (by decide)).app (c := 32) (s' := [48, 32, 123]) (by decide) (lx_num 48 (by decide) (by decide))
/-- the pieces of choices -/
def dpPs : List Nat → List UInt8
  | [] => []
  | c :: r => dpP c ++ dpPs r
def dpQs : List Nat → List (Nat × List UInt8 × Nat)
  | [] => []
  | c :: r => dpQ c ++ dpQs r
theorem lx_pieces (cs : List Nat) : LxA (dpPs cs) (dpQs cs) := by
  induction cs with
  | nil => exact LxA.nil
  | cons c r ih => exact (lx_piece c).app ih
theorem lx_back (n : Nat) : LxA (List.replicate n 125) (List.replicate n (kSg 125)) := by
  induction n with
  | zero => exact LxA.nil
  | succ n ih => exact (LxA.sg 125 (by decide)).app ih
theorem Rd.left {ts : List Tk.Tok} {k : Nat} {T T' : List (Nat × List UInt8 × Nat)} (h : Rd ts k (T ++ T')) : Rd ts k T := fun j hj => by
  have := h j (by rw [List.length_append]; omega)
  rwa [List.getElem_append_left hj] at this
theorem Rd.right {ts : List Tk.Tok} {k : Nat} {T T' : List (Nat × List UInt8 × Nat)} (h : Rd ts k (T ++ T')) : Rd ts (k + T.length) T' := fun j hj => by
  have := h (T.length + j) (by rw [List.length_append]; omega)
  rw [List.getElem_append_right (by omega)] at this
  simp only [Nat.add_sub_cancel_left] at this
  rw [Nat.add_assoc]
  exact this
theorem Rd.one {ts : List Tk.Tok} {k : Nat} {a : Nat × List UInt8 × Nat} {T : List (Nat × List UInt8 × Nat)} (h : Rd ts k (a :: T)) : Ps.kindAt ts k = a.1 ∧ Ps.textAt ts k = a.2.1 := ⟨(h 0 (by simp)).1, (h 0 (by simp)).2.1⟩
theorem Rd.tail {ts : List Tk.Tok} {k : Nat} {a : Nat × List UInt8 × Nat} {T : List (Nat × List UInt8 × Nat)} (h : Rd ts k (a :: T)) : Rd ts (k + 1) T := Rd.right (T := [a]) h
/-- a block that opens -/
theorem blk_open {ts : List Tk.Tok} {k : Nat} (h1 : Ps.kindAt ts k = 4) (h2 : Ps.textAt ts k = [123]) (f o : Nat) (ho : o < 24) :
    Pa.sBlock ts (f + 1) o (.at_ k) = Pa.sStmts ts (fun τ => Pa.sStmt ts (fun υ => Pa.sBlock ts f (o + 1) υ) τ) (ts.length + 1) (.at_ (k + 1)) [] := by
  have e := isS_yes (s := [123]) h1 h2
  rw [Pa.sBlock, if_pos e, lm_no ho, xp_yes e]
theorem blk_lim {ts : List Tk.Tok} {k : Nat} (h1 : Ps.kindAt ts k = 4) (h2 : Ps.textAt ts k = [123]) (f o : Nat) (ho : 24 ≤ o) : (Pa.sBlock ts (f + 1) o (.at_ k)).2 = .bad k 3 := by
  have e := isS_yes (s := [123]) h1 h2
  rw [Pa.sBlock, if_pos e, lm_yes ho]
  exact congrArg Prod.snd (sStmts_bad _ _ _ _ _ _)
theorem not_word {ts : List Tk.Tok} {k : Nat} {s s' : List UInt8} (h : Ps.textAt ts k = s) (hne : s ≠ s') : ¬ Pa.isS ts (.at_ k) s' = true := by
  rw [isS_txt h hne]
  decide
/-- an if, a while -/
theorem st_if {ts : List Tk.Tok} {k : Nat} (h1 : Ps.kindAt ts k = 3) (h2 : Ps.textAt ts k = [105, 102]) (blk : Pa.Sg → List St × Pa.Sg) : Pa.sStmt ts blk (.at_ k) = Pa.sIf ts blk (.at_ (k + 1)) := by
  unfold Pa.sStmt
  rw [if_neg (not_word h2 (by decide)), if_neg (not_word h2 (by decide)), if_neg (not_word h2 (by decide)), if_neg (not_word h2 (by decide)), if_pos (isS_yes (s := [105, 102]) h1 h2)]
  rfl
theorem st_wh {ts : List Tk.Tok} {k : Nat} (h1 : Ps.kindAt ts k = 3) (h2 : Ps.textAt ts k = [119, 104, 105, 108, 101]) (blk : Pa.Sg → List St × Pa.Sg) : Pa.sStmt ts blk (.at_ k) = Pa.sWhile ts blk (.at_ (k + 1)) := by
  unfold Pa.sStmt
  rw [if_neg (not_word h2 (by decide)), if_neg (not_word h2 (by decide)), if_neg (not_word h2 (by decide)), if_neg (not_word h2 (by decide)), if_neg (not_word h2 (by decide)), if_pos (isS_yes (s := [119, 104, 105, 108, 101]) h1 h2)]
  rfl
/-- the state behind the statement of a piece: its last block's, where no else follows -/
theorem st_piece {ts : List Tk.Tok} {k c : Nat} (h : Rd ts k (dpQ c)) (blk : Pa.Sg → List St × Pa.Sg) (q : Pa.Sg) (he : c = 1 → (blk (.at_ (k + 2))).2 = .at_ (k + 4)) (hq : (blk (.at_ (k + (dpQ c).length - 1))).2 = q) (hn : Pa.isS ts q [101, 108, 115, 101] = false) : (Pa.sStmt ts blk (.at_ k)).2 = q := by
  unfold dpQ at h hq
  split at h
  · rename_i hc
    rw [if_pos hc] at hq
    have a := h.one
    have b : Ps.kindAt ts (k + 1) = 2 := h.tail.one.1
    have d := h.tail.tail.one
    rw [st_if a.1 a.2]
    unfold Pa.sIf
    rw [ex_num b d.1 d.2]
    have hq' : (blk (.at_ (k + 1 + 1))).2 = q := hq
    rw [hq', if_neg (by rw [hn]; decide)]
  · rename_i hc
    rw [if_neg hc] at hq
    split at h
    · rename_i hc1
      rw [if_pos hc1] at hq
      have a := h.one
      have b : Ps.kindAt ts (k + 1) = 2 := h.tail.one.1
      have d := h.tail.tail.one
      have e := h.tail.tail.tail.tail.one
      rw [st_if a.1 a.2]
      unfold Pa.sIf
      have he' : (blk (.at_ (k + 1 + 1))).2 = .at_ (k + 4) := he hc1
      rw [ex_num b d.1 d.2, he', if_pos (isS_yes (s := [101, 108, 115, 101]) e.1 e.2)]
      exact hq
    · rename_i hc1
      rw [if_neg hc1] at hq
      have a := h.one
      have b : Ps.kindAt ts (k + 1) = 2 := h.tail.one.1
      have d := h.tail.tail.one
      rw [st_wh a.1 a.2]
      unfold Pa.sWhile
      rw [ex_num b d.1 d.2]
      exact hq
theorem dpQ_last {ts : List Tk.Tok} {k c : Nat} (h : Rd ts k (dpQ c)) : Ps.kindAt ts (k + (dpQ c).length - 1) = 4 ∧ Ps.textAt ts (k + (dpQ c).length - 1) = [123] := by
  unfold dpQ at h ⊢
  split at h
  · rename_i hc; rw [if_pos hc]; exact h.tail.tail.one
  · rename_i hc
    rw [if_neg hc]
    split at h
    · rename_i hc1; rw [if_pos hc1]; exact h.tail.tail.tail.tail.tail.one
    · rename_i hc1; rw [if_neg hc1]; exact h.tail.tail.one
theorem dpQ_word {ts : List Tk.Tok} {k c : Nat} (h : Rd ts k (dpQ c)) : Pa.isS ts (.at_ k) [125] = false := by
  unfold dpQ at h
  split at h
  · exact isS_txt h.one.2 (by decide)
  · split at h
    · exact isS_txt h.one.2 (by decide)
    · exact isS_txt h.one.2 (by decide)
theorem dpQ_empty {ts : List Tk.Tok} {k c : Nat} (h : Rd ts k (dpQ c)) (hc : c = 1) : Rd ts (k + 2) [kSg 123, kSg 125] ∧ Ps.kindAt ts (k + 2) = 4 ∧ Ps.textAt ts (k + 2) = [123] := by
  subst hc
  have h' : Rd ts k ([kIf, (2, [49], 1)] ++ ([kSg 123, kSg 125] ++ [kEl, kSg 123])) := h
  exact ⟨h'.right.left, h'.right.left.one⟩
theorem dpQ_pos (c : Nat) : 3 ≤ (dpQ c).length ∧ (dpQ c).length ≤ 6 := by
  unfold dpQ
  split
  · exact ⟨by decide, by decide⟩
  split
  · exact ⟨by decide, by decide⟩
  · exact ⟨by decide, by decide⟩
/-- the blocks fit -/
theorem nest_ok (ts : List Tk.Tok) (cs : List Nat) : ∀ (f o k F : Nat), f + (o + 1) = 25 → o + 1 + cs.length ≤ 24 → Rd ts k (dpQs cs ++ List.replicate (cs.length + 1) (kSg 125)) →
    (Pa.sStmts ts (fun τ => Pa.sStmt ts (fun υ => Pa.sBlock ts f (o + 1) υ) τ) (F + 2) (.at_ k) []).2 = .at_ (k + (dpQs cs).length + cs.length + 1) := by
  induction cs with
  | nil =>
    intro f o k F h1 h2 h
    have a := Rd.one (T := []) h
    rw [sStmts_end ts _ (F + 1) k [] (isS_yes (s := [125]) a.1 a.2)]
    rfl
  | cons c r ih =>
    intro f o k F h1 h2 h
    rw [List.length_cons] at h2
    have h' : Rd ts k (dpQ c ++ (dpQs r ++ List.replicate (r.length + 1 + 1) (kSg 125))) := by
      have : dpQs (c :: r) ++ List.replicate ((c :: r).length + 1) (kSg 125) = dpQ c ++ (dpQs r ++ List.replicate (r.length + 1 + 1) (kSg 125)) := by
        rw [dpQs, List.append_assoc]; rfl
      rwa [this] at h
    have hc := h'.left
    have hr := h'.right
    have hp := dpQ_pos c
    have hin : Rd ts (k + (dpQ c).length) (dpQs r ++ List.replicate (r.length + 1) (kSg 125)) := by
      rw [List.replicate_succ', ← List.append_assoc] at hr
      exact hr.left
    have hlastc : Rd ts (k + (dpQ c).length + (dpQs r).length + r.length + 1) [kSg 125] := by
      rw [List.replicate_succ', ← List.append_assoc] at hr
      have := hr.right
      rw [List.length_append, List.length_replicate] at this
      have e : k + (dpQ c).length + (dpQs r).length + r.length + 1 = k + (dpQ c).length + ((dpQs r).length + (r.length + 1)) := by omega
      rw [e]
      exact this
    obtain ⟨g, rfl⟩ : ∃ g, f = g + 1 := ⟨f - 1, by omega⟩
    have hl := dpQ_last hc
    have hb : (Pa.sBlock ts (g + 1) (o + 1) (.at_ (k + (dpQ c).length - 1))).2 = .at_ (k + (dpQ c).length + (dpQs r).length + r.length + 1) := by
      rw [blk_open hl.1 hl.2 g (o + 1) (by omega)]
      have hts : ∃ F', ts.length + 1 = F' + 2 := ⟨ts.length - 1, by
        have : Ps.kindAt ts k ≠ 5 ∨ True := .inr trivial
        have h0 : 0 < ts.length := by
          rcases Nat.eq_zero_or_pos ts.length with h0 | h0
          · have : ts = [] := List.length_eq_zero_iff.1 h0
            subst this
            exact absurd hl.1 (by simp [Ps.kindAt])
          · exact h0
        omega⟩
      obtain ⟨F', hF'⟩ := hts
      rw [hF']
      have e1 : k + (dpQ c).length - 1 + 1 = k + (dpQ c).length := by omega
      rw [e1]
      exact ih g (o + 1) (k + (dpQ c).length) F' (by omega) (by omega) hin
    have q := hlastc.one
    have hst := st_piece hc (fun υ => Pa.sBlock ts (g + 1) (o + 1) υ) _ (fun h1 => by
      have := dpQ_empty hc h1
      show (Pa.sBlock ts (g + 1) (o + 1) (.at_ (k + 2))).2 = _
      rw [blk_empty this.1 g (o + 1) (by omega)]) hb (isS_txt q.2 (by decide))
    rw [sStmts_go ts _ (F + 1) k [] (dpQ_word hc), hst]
    rw [sStmts_end ts _ F _ _ (isS_yes (s := [125]) q.1 q.2)]
    show Pa.Sg.at_ _ = Pa.Sg.at_ _
    rw [dpQs, List.length_append, List.length_cons]
    congr 1
    omega
theorem dead_else (ts : List Tk.Tok) (m e : Nat) (s : List UInt8) : Pa.isS ts (.bad m e) s = false := rfl
/-- one block too many -/
theorem nest_bad (ts : List Tk.Tok) (cs : List Nat) : ∀ (f o k F : Nat), f + (o + 1) = 25 → o + 1 ≤ 24 → 24 < o + 1 + cs.length → (∃ Y, Rd ts k (dpQs cs ++ Y)) →
    ∃ m, (Pa.sStmts ts (fun τ => Pa.sStmt ts (fun υ => Pa.sBlock ts f (o + 1) υ) τ) (F + 1) (.at_ k) []).2 = .bad m 3 := by
  induction cs with
  | nil => intro f o k F h1 h2 h3; simp at h3; omega
  | cons c r ih =>
    intro f o k F h1 h2 h3 ⟨Y, h⟩
    rw [List.length_cons] at h3
    have h' : Rd ts k (dpQ c ++ (dpQs r ++ Y)) := by
      rw [dpQs, List.append_assoc] at h
      exact h
    have hc := h'.left
    have hr := h'.right
    have hp := dpQ_pos c
    obtain ⟨g, rfl⟩ : ∃ g, f = g + 1 := ⟨f - 1, by omega⟩
    have hl := dpQ_last hc
    have key : ∃ m, (Pa.sStmt ts (fun υ => Pa.sBlock ts (g + 1) (o + 1) υ) (.at_ k)).2 = .bad m 3 := by
      rcases Nat.lt_or_ge (o + 1) 24 with ho | ho
      · have e1 : k + (dpQ c).length - 1 + 1 = k + (dpQ c).length := by omega
        obtain ⟨m, hm⟩ := ih g (o + 1) (k + (dpQ c).length) ts.length (by omega) (by omega) (by omega) ⟨Y, hr⟩
        refine ⟨m, st_piece hc (fun υ => Pa.sBlock ts (g + 1) (o + 1) υ) _ (fun h1 => ?_) ?_ (dead_else ts m 3 _)⟩
        · have := dpQ_empty hc h1
          show (Pa.sBlock ts (g + 1) (o + 1) (.at_ (k + 2))).2 = _
          rw [blk_empty this.1 g (o + 1) ho]
        · show (Pa.sBlock ts (g + 1) (o + 1) (.at_ (k + (dpQ c).length - 1))).2 = _
          rw [blk_open hl.1 hl.2 g (o + 1) ho, e1]
          exact hm
      · by_cases h1c : c = 1
        · have h2 := dpQ_empty hc h1c
          have hb := blk_lim h2.2.1 h2.2.2 g (o + 1) ho
          refine ⟨k + 2, ?_⟩
          subst h1c
          have h'' : Rd ts k [kIf, (2, [49], 1), kSg 123, kSg 125, kEl, kSg 123] := hc
          have a := h''.one
          have b : Ps.kindAt ts (k + 1) = 2 := h''.tail.one.1
          have d := h''.tail.tail.one
          rw [st_if a.1 a.2]
          unfold Pa.sIf
          rw [ex_num b d.1 d.2]
          have hb' : (Pa.sBlock ts (g + 1) (o + 1) (.at_ (k + 1 + 1))).2 = .bad (k + 2) 3 := hb
          rw [hb', if_neg (by rw [dead_else]; decide)]
        · exact ⟨_, st_piece hc (fun υ => Pa.sBlock ts (g + 1) (o + 1) υ) (.bad (k + (dpQ c).length - 1) 3) (fun h => absurd h h1c) (blk_lim hl.1 hl.2 g (o + 1) ho) (dead_else ts _ 3 _)⟩
    obtain ⟨m, hm⟩ := key
    refine ⟨m, ?_⟩
    rw [sStmts_go ts _ F k [] (dpQ_word hc), hm, sStmts_bad]
/-- the whole text -/
def dpTx (cs : List Nat) : List UInt8 := [102, 117, 110, 99, 32, 109, 97, 105, 110, 40, 41, 32, 123] ++ (dpPs cs ++ List.replicate (cs.length + 1) 125)
theorem lx_main : LxA [102, 117, 110, 99, 32, 109, 97, 105, 110, 40, 41, 32, 123] [kFun, kNm [109, 97, 105, 110], kSg 40, kSg 41, kSg 123] :=
  (LxN.res [102, 117, 110, 99] (by decide) (by decide)).app (c := 32) (s' := [109, 97, 105, 110, 40, 41, 32, 123]) (by decide) (LxA.sp.app ((LxN.nam [109, 97, 105, 110] (by decide) (by decide)).app (c := 40) (s' := [41, 32, 123]) (by decide) ((LxA.sg 40 (by decide)).app ((LxA.sg 41 (by decide)).app (LxA.sp.app (LxA.sg 123 (by decide)))))))
theorem dp_len (cs : List Nat) : (dpQs cs).length ≤ (dpPs cs).length ∧ (dpPs cs).length ≤ 15 * cs.length ∧ (dpQs cs).length ≤ 6 * cs.length := by
  induction cs with
  | nil => simp [dpQs, dpPs]
  | cons c r ih =>
    rw [dpQs, dpPs, List.length_append, List.length_append, List.length_cons]
    have : (dpQ c).length ≤ (dpP c).length ∧ (dpP c).length ≤ 15 ∧ (dpQ c).length ≤ 6 := by
      unfold dpQ dpP
      split
      · exact ⟨by decide, by decide, by decide⟩
      split
      · exact ⟨by decide, by decide, by decide⟩
      · exact ⟨by decide, by decide, by decide⟩
    omega
theorem dpTx_len (cs : List Nat) : (dpTx cs).length ≤ 16 * cs.length + 14 := by
  have := dp_len cs
  unfold dpTx
  simp
  omega
theorem deep_all (cs : List Nat) (hn : cs.length ≤ 100) : (progV (dpTx cs)).2.2 = if cs.length + 1 ≤ 24 then 0 else 3 := by
  have hl := dp_len cs
  have hT : LxA (dpTx cs) ([kFun, kNm [109, 97, 105, 110], kSg 40, kSg 41, kSg 123] ++ (dpQs cs ++ List.replicate (cs.length + 1) (kSg 125))) := lx_main.app ((lx_pieces cs).app (lx_back _))
  have hlT : (dpTx cs).length = (dpPs cs).length + cs.length + 14 := by unfold dpTx; simp; omega
  obtain ⟨A, e1, e2⟩ := hT.lex (by simp; omega) (by rw [hlT]; simp; omega) (by omega)
  rw [progV_of e2]
  generalize hts : A ++ [(⟨5, [], 0, (dpTx cs).length⟩ : Tk.Tok)] = ts
  have hk : ts.map kt = [kFun, kNm [109, 97, 105, 110], kSg 40, kSg 41, kSg 123] ++ ((dpQs cs ++ List.replicate (cs.length + 1) (kSg 125)) ++ [(5, [], 0)]) := by
    rw [← hts, List.map_append, e1]
    simp [kt]
  have hlen : ts.length = (dpQs cs).length + cs.length + 7 := by
    have := congrArg List.length hk
    simp at this
    omega
  have h3 : Rd ts 0 [kFun, kNm [109, 97, 105, 110], kSg 40, kSg 41, kSg 123] := Rd.of (X := []) hk
  have h5 : Rd ts 5 ((dpQs cs ++ List.replicate (cs.length + 1) (kSg 125)) ++ [(5, [], 0)]) := by
    have := Rd.of (ts := ts) (X := [kFun, kNm [109, 97, 105, 110], kSg 40, kSg 41, kSg 123]) (T := (dpQs cs ++ List.replicate (cs.length + 1) (kSg 125)) ++ [(5, [], 0)]) (Y := []) (by rw [hk]; simp)
    exact this
  have a : Ps.kindAt ts 0 = 3 ∧ Ps.textAt ts 0 = [102, 117, 110, 99] := h3.one
  have b : Ps.kindAt ts 1 = 1 := h3.tail.one.1
  have c : Ps.kindAt ts 2 = 4 ∧ Ps.textAt ts 2 = [40] := h3.tail.tail.one
  have d : Ps.kindAt ts 3 = 4 ∧ Ps.textAt ts 3 = [41] := h3.tail.tail.tail.one
  have e : Ps.kindAt ts 4 = 4 ∧ Ps.textAt ts 4 = [123] := h3.tail.tail.tail.tail.one
  have ef : (Pa.sFunc ts (.at_ 1)).2 = (Pa.sStmts ts (fun τ => Pa.sStmt ts (fun υ => Pa.sBlock ts 24 1 υ) τ) (ts.length + 1) (.at_ 5) []).2 := by
    show (Pa.sBlock ts 25 0 (Pa.sParams ts (Pa.tk ts (.at_ 1) 1)).2).2 = _
    have ep : Pa.sParams ts (.at_ 2) = ([], .at_ 4) := by
      unfold Pa.sParams
      rw [xp_yes (isS_yes (s := [40]) c.1 c.2), if_pos (isS_yes (s := [41]) d.1 d.2)]
      rfl
    rw [tk_yes (kdS_yes b), ep, blk_open e.1 e.2 24 0 (by omega)]
  have e7 : ts.length = (dpQs cs).length + cs.length + 6 + 1 := by omega
  split
  · rename_i hle
    have hm := nest_ok ts cs 24 0 5 (ts.length - 1) (by omega) (by omega) h5.left
    rw [show ts.length - 1 + 2 = ts.length + 1 by omega] at hm
    have h6 := h5.right
    rw [List.length_append, List.length_replicate] at h6
    have h7 : Ps.kindAt ts (5 + (dpQs cs).length + cs.length + 1) = 5 := by
      have := h6.one.1
      rw [show 5 + ((dpQs cs).length + (cs.length + 1)) = 5 + (dpQs cs).length + cs.length + 1 by omega] at this
      exact this
    rw [e7, fun_go a.1 a.2 _ _ (by decide), ef, hm, show (dpQs cs).length + cs.length + 6 = (dpQs cs).length + cs.length + 5 + 1 by omega, prog_end _ _ h7]
    rfl
  · rename_i hgt
    obtain ⟨m, hm⟩ := nest_bad ts cs 24 0 5 ts.length (by omega) (by omega) (by omega) ⟨_, by rw [List.append_assoc] at h5; exact h5⟩
    rw [e7, fun_go a.1 a.2 _ _ (by decide), ef, hm, Pa.sProg_dead _ _ _ _ rfl]
    rfl
end Go.Proofs.YtjjooekkieddbaaDoor
