/- Valid of package expr and ValidExpr of the reference are one plain function. No statement of the program is proved in this file. -/
import Derived.Test.YtbnbmibfjobacaaDoorGRt
namespace Go.Proofs.YtbnbmibfjobacaaDoor
open Go.RowKit

theorem node_shape (op num : Int) (name : List UInt8) (n : Nat) (hnm : nmD name = nameB name) : nodeV op num name n = shapeHead op num name n := by
  unfold nodeV
  by_cases h1 : op = 1
  · subst h1
    rw [if_pos rfl, head_six 1 num name n (by decide)]
    simp [Bool.and_assoc]
  · rw [if_neg h1]
    by_cases h2 : op = 2
    · subst h2
      rw [if_pos rfl, head_six 2 num name n (by decide), hnm]
      simp [Bool.and_assoc]
    · rw [if_neg h2]
      by_cases h3 : op = 3 ∨ op = 4
      · have hu : unB op = true := by unfold unB; rcases h3 with rfl | rfl <;> rfl
        have h5 : strV op = 5 := by rcases h3 with rfl | rfl <;> rfl
        rw [if_pos hu, head_five op num name n h5]
        cases (num == 0) <;> cases (name == []) <;> cases (n == 1) <;> rfl
      · have hu : unB op = false := by
          unfold unB
          rw [bF (show op ≠ 3 by omega), bF (show op ≠ 4 by omega)]
          rfl
        rw [hu, if_neg (by decide)]
        by_cases h5 : 5 ≤ op ∧ op ≤ 17
        · have hb : biB op = true := by unfold biB; rw [decide_eq_true h5.1, decide_eq_true h5.2]; rfl
          have hs : strV op ≠ 5 ∧ strV op ≠ 6 := by unfold strV; (repeat' split) <;> omega
          rw [hb, if_pos rfl, head_bin op num name n hs.1 hs.2]
          cases (num == 0) <;> cases (name == []) <;> cases (n == 2) <;> rfl
        · have hb : biB op = false := by
            unfold biB
            by_cases h : 5 ≤ op
            · rw [decide_eq_true h, decide_eq_false (by omega)]; rfl
            · rw [decide_eq_false h]; rfl
          have hs : strV op = 6 := by unfold strV; (repeat' split) <;> omega
          rw [hb, if_neg (by decide), head_six op num name n hs, bF h1, bF h2]
          rfl

theorem lexGo_pre (f : Nat) (l : List UInt8) : ∀ (k : Nat) (acc : List Tk.Tok), (Tk.lexGo f l k acc).1 = [] ∨ ∃ m, (Tk.lexGo f l k acc).1 = acc ++ m := by
  induction f with
  | zero => intro k acc; left; rw [Tk.lexGo]
  | succ f ih =>
    intro k acc
    rw [Tk.lexGo]
    split
    · right; exact ⟨_, rfl⟩
    · split
      · left; rfl
      · rename_i t ht
        split
        · left; rfl
        · rcases ih (Tk.skipTo l (k + t.text.length)) (acc ++ [t]) with h | ⟨m, h⟩
          · left; exact h
          · right; exact ⟨t :: m, by rw [h]; simp⟩
theorem name_ok {s : List UInt8} (h : nameB s = true) : NmOk s := by
  have h0 := h
  unfold nameB at h
  simp only [Bool.and_eq_true, decide_eq_true_eq, Bool.not_eq_true'] at h
  obtain ⟨hc, ⟨h1, h2⟩, h3⟩ := h
  refine ⟨?_, ?_, h2, h3, h0⟩
  · intro c hc'
    obtain ⟨i, hi, e⟩ := List.mem_iff_getElem.1 hc'
    have := hc i hi
    rw [e] at this
    unfold charOk at this
    unfold Tk.isLD
    revert this
    cases Tk.isLet c <;> simp
  · cases s with
    | nil => simp at h1
    | cons c r =>
      refine ⟨c, r, rfl, ?_⟩
      have := hc 0 (by simp)
      unfold charOk at this
      simpa using this
theorem nmD_of {s : List UInt8} (h : NmOk s) : nmD s = true := by
  obtain ⟨c, r, e, hc⟩ := h.head
  have hS : Starts s := ⟨c, r, e, by unfold startB; rw [hc]; rfl⟩
  have hl := h.len
  have hn : 0 < s.length := by rw [e]; simp
  have hlex : Tk.lex s = ([⟨1, s, 0, 0⟩, ⟨5, [], 0, s.length⟩], s.length, 0) := by
    unfold Tk.lex
    rw [if_neg (by omega)]
    have e1 : Tk.lexGo (s.length + 1) s (Tk.skipTo s 0) [] = lxs (s.length + 1) [] (s ++ []) [] := by
      unfold lxs Tk.skipTo
      rw [List.append_nil, List.nil_append, List.drop_zero]
      rfl
    rw [e1, lxs_tok s.length [] s [] [] _ (tok_nameT [] [] s h (.inl rfl)) rfl (by rw [e]; simp) (by rw [List.append_nil]; exact starts_sep hS) (by simp)]
    obtain ⟨f, hf⟩ : ∃ f, s.length = f + 1 := ⟨s.length - 1, by omega⟩
    rw [hf, lxs_end]
    simp [hf]
  unfold nmD
  rw [hlex]
  simp [Ps.kindAt, Ps.textAt]
theorem nmD_inv {s : List UInt8} (h : nmD s = true) : nameB s = true := by
  unfold nmD at h
  simp only [Bool.and_eq_true, beq_iff_eq] at h
  obtain ⟨h0, h1, h2⟩ := h
  have hk5 : ∀ ts : List Tk.Tok, ts = [] → Ps.kindAt ts 0 = 5 := by rintro _ rfl; rfl
  unfold Tk.lex at h0 h1 h2
  split at h0
  · exact absurd h0 (by decide)
  · rename_i hbig
    rw [if_neg hbig] at h1 h2
    obtain ⟨k0, hk0⟩ : ∃ k, k = Tk.skipTo s 0 := ⟨_, rfl⟩
    rw [← hk0] at h0 h1 h2
    rw [Tk.lexGo] at h1 h2
    split at h1
    · exact absurd (show (5 : Nat) = 1 from h1) (by decide)
    · rename_i hlt
      rw [if_neg hlt] at h2
      cases ht : Tk.tokAt s k0 with
      | error e =>
        rw [ht] at h1
        exact absurd (show (5 : Nat) = 1 from h1) (by decide)
      | ok t =>
        rw [ht] at h1 h2
        dsimp only at h1 h2
        rw [if_neg (by simp)] at h1 h2
        have hfirst : t.kind = 1 ∧ t.text = s := by
          rcases lexGo_pre s.length s (Tk.skipTo s (k0 + t.text.length)) ([] ++ [t]) with h | ⟨m, h⟩
          · rw [h] at h1
            exact absurd h1 (by decide)
          · rw [h] at h1 h2
            exact ⟨h1, h2⟩
        obtain ⟨hkd, htx⟩ := hfirst
        unfold Tk.tokAt at ht
        split at ht
        · rename_i hL
          unfold Tk.nameAt at ht
          dsimp only at ht
          split at ht
          · cases ht
          · rename_i h16
            injection ht with ht
            rw [← ht] at hkd htx
            dsimp only at hkd htx
            have hr : Tk.resv s = false := by
              rw [htx] at hkd
              cases hq : Tk.resv s with
              | false => rfl
              | true => rw [hq] at hkd; exact absurd hkd (by decide)
            have hle : ((s.drop k0).takeWhile Tk.isLD).length ≤ s.length - k0 := Nat.le_trans (List.takeWhile_sublist Tk.isLD).length_le (by simp)
            have hlen : ((s.drop k0).takeWhile Tk.isLD).length = s.length := by rw [htx]
            have hk : k0 = 0 := by omega
            subst hk
            rw [List.drop_zero] at htx h16
            rw [htx] at h16
            have hall : ∀ c ∈ s, Tk.isLD c = true := by
              intro c hc
              have hm : ∀ (p : UInt8 → Bool) (l : List UInt8), ∀ c ∈ l.takeWhile p, p c = true := by
                intro p l
                induction l with
                | nil => simp
                | cons a r ih =>
                  rw [List.takeWhile_cons]
                  split
                  · rename_i hp
                    intro c hc
                    rcases List.mem_cons.1 hc with rfl | hc
                    · exact hp
                    · exact ih c hc
                  · simp
              exact hm Tk.isLD s c (by rw [htx]; exact hc)
            cases s with
            | nil => simp at hlt
            | cons c r =>
              have hL' : Tk.isLet c = true := by simpa [List.getD] using hL
              unfold nameB
              rw [hr, decide_eq_true, decide_eq_true (show 1 ≤ (c :: r).length by simp), decide_eq_true (show (c :: r).length ≤ 16 by omega)]
              · rfl
              · intro i hi
                unfold charOk
                cases i with
                | zero => simp [hL']
                | succ i =>
                  have := hall ((c :: r)[i + 1]) (List.getElem_mem hi)
                  unfold Tk.isLD at this
                  simpa using this
        split at ht
        · unfold Tk.numAt at ht
          dsimp only at ht
          split at ht
          · cases ht
          · injection ht with ht
            rw [← ht] at hkd
            exact absurd (show (2 : Nat) = 1 from hkd) (by decide)
        · unfold Tk.signAt at ht
          split at ht
          · injection ht with ht
            rw [← ht] at hkd
            exact absurd (show (4 : Nat) = 1 from hkd) (by decide)
          split at ht
          · injection ht with ht
            rw [← ht] at hkd
            exact absurd (show (4 : Nat) = 1 from hkd) (by decide)
          · cases ht
theorem nmD_name (s : List UInt8) : nmD s = nameB s := by
  cases h : nameB s with
  | true => exact nmD_of (name_ok h)
  | false =>
    cases h2 : nmD s with
    | false => rfl
    | true => rw [nmD_inv h2] at h; cases h

mutual
theorem exV_sp : ∀ (E : Ex) (a : Nat), exV E a = (exShape E && decide (exDm E a ≤ 24))
  | .mk op num name args, a => by
    rw [exV_mk, exShape_mk, exDm_mk, exVs_sp op a 0 args]
    unfold visV
    rw [node_shape op num name args.length (nmD_name name)]
    have hd : decide (max a (exDms op a 0 args) ≤ 24) = (decide (a ≤ 24) && decide (exDms op a 0 args ≤ 24)) := by
      by_cases h1 : a ≤ 24 <;> by_cases h2 : exDms op a 0 args ≤ 24 <;> simp [h1, h2] <;> omega
    rw [hd]
    cases decide (a ≤ 24) <;> cases shapeHead op num name args.length <;> cases exShapes args <;> cases decide (exDms op a 0 args ≤ 24) <;> rfl
theorem exVs_sp (op : Int) (a : Nat) : ∀ (k : Nat) (args : List Ex), exVs op a k args = (exShapes args && decide (exDms op a k args ≤ 24))
  | _, [] => by rw [exVs, exShapes, exDms]; rfl
  | k, e :: r => by
    rw [exVs, exShapes, exDms, exV_sp e (a + addV op e.op k), exVs_sp op a (k + 1) r]
    have hd : decide (max (exDm e (a + addV op e.op k)) (exDms op a (k + 1) r) ≤ 24) = (decide (exDm e (a + addV op e.op k) ≤ 24) && decide (exDms op a (k + 1) r ≤ 24)) := by
      by_cases h1 : exDm e (a + addV op e.op k) ≤ 24 <;> by_cases h2 : exDms op a (k + 1) r ≤ 24 <;> simp [h1, h2] <;> omega
    rw [hd]
    cases exShape e <;> cases exShapes r <;> cases decide (exDm e (a + addV op e.op k) ≤ 24) <;> cases decide (exDms op a (k + 1) r ≤ 24) <;> rfl
end
/-- the numbers fit -/
inductive ExI : Ex → Prop
  | mk (op num : Int) (name : List UInt8) (args : List Ex) (hn : -9223372036854775808 ≤ num ∧ num ≤ 9223372036854775807) (hs : ∀ i (h : i < args.length), ExI args[i]) : ExI (.mk op num name args)
theorem shape_ok (E : Ex) (hI : ExI E) : exShape E = true → ExOk E := by
  induction hI with
  | mk op num name args hn hs ih =>
    intro h
    rw [exShape_mk, Bool.and_eq_true] at h
    have hk := (exShapes_all args).1 h.2
    refine .mk op num name args hn ?_ (fun i hi => ih i hi (hk i hi))
    have hh := h.1
    by_cases h6 : strV op = 6
    · rw [head_six op num name _ h6] at hh
      simp at hh
      left
      refine ⟨?_, ?_⟩
      · rcases hh.1 with h | h
        · exact .inl h.1
        · exact .inr h.1
      · simpa using hh.2
    · by_cases h5 : strV op = 5
      · rw [head_five op num name _ h5] at hh
        simp at hh
        right
        left
        refine ⟨?_, hh.1⟩
        unfold strV at h5
        revert h5
        (repeat' split) <;> omega
      · rw [head_bin op num name _ h5 h6] at hh
        simp at hh
        right
        right
        refine ⟨?_, ?_, hh.1⟩
        · unfold strV at h5 h6
          revert h5 h6
          (repeat' split) <;> omega
        · unfold strV at h5 h6
          revert h5 h6
          (repeat' split) <;> omega
/-- both answers are the same -/
theorem valid_same (E : Ex) (hI : ExI E) : exV E 0 = refVB E := by
  rw [exV_sp]
  unfold refVB
  cases h : exShape E with
  | false => rfl
  | true => rw [height_same E (shape_ok E hI h) 0, Nat.zero_add]
end Go.Proofs.YtbnbmibfjobacaaDoor
