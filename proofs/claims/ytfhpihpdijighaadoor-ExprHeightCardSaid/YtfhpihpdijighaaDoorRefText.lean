/- What the reference's text of an expression is: the plain function exText. -/
import Derived.Test.YtfhpihpdijighaaDoorRefInner
import Derived.Test.YtfhpihpdijighaaDoorTokS
import Derived.Deep.QuietTactic
import Derived.BigQuiet
namespace Go.Proofs.YtfhpihpdijighaaDoor
open Go.RowKit

/-- the sign of an operator, if it is a binary one -/
def signFind : List Int → List (List UInt8) → Int → Option (List UInt8)
  | o :: os, s :: ss, op => if o = op then some s else signFind os ss op
  | _, _, _ => none
def signOf (op : Int) : Option (List UInt8) := signFind (sgO (strV op : Int)) (sgS (strV op : Int)) op
/-- the text of an operator with the texts of its Args -/
def finText (op num : Int) (name : List UInt8) (ps : List (List UInt8)) : List UInt8 :=
  if op = 1 then numText num else if op = 2 then name else if op = 3 then 45 :: ps.getD 0 [] else if op = 4 then 33 :: ps.getD 0 [] else
  match signOf op with
  | some s => ps.getD 0 [] ++ [32] ++ s ++ [32] ++ ps.getD 1 []
  | none => []
mutual
def exText : Ex → List UInt8
  | .mk op num name args => finText op num name (exParts op 0 args)
def exParts (op : Int) : Nat → List Ex → List (List UInt8)
  | _, [] => []
  | k, e :: r => (if innerV op e.op k then 40 :: (exText e ++ [41]) else exText e) :: exParts op (k + 1) r
end
/-- the text of one Arg -/
def partText (op : Int) (k : Nat) (e : Ex) : List UInt8 := if innerV op e.op k then 40 :: (exText e ++ [41]) else exText e
theorem exText_mk (op num : Int) (name : List UInt8) (args : List Ex) : exText (.mk op num name args) = finText op num name (exParts op 0 args) := by rw [exText]
theorem exParts_cons (op : Int) (k : Nat) (e : Ex) (r : List Ex) : exParts op k (e :: r) = partText op k e :: exParts op (k + 1) r := by rw [exParts, partText]
theorem exParts_nil (op : Int) (k : Nat) : exParts op k [] = [] := by rw [exParts]
theorem exParts_len (op : Int) (k : Nat) (args : List Ex) : (exParts op k args).length = args.length := by
  induction args generalizing k with
  | nil => rw [exParts_nil]; rfl
  | cons e r ih => rw [exParts_cons, List.length_cons, ih, List.length_cons]
theorem exParts_snoc (op : Int) (k : Nat) (args : List Ex) (m : Nat) (h : m < args.length) : exParts op k (args.take (m + 1)) = exParts op k (args.take m) ++ [partText op (k + m) args[m]] := by
  induction args generalizing k m with
  | nil => simp at h
  | cons e r ih =>
    cases m with
    | zero => simp [exParts_cons, exParts_nil]
    | succ m =>
      have := ih (k + 1) m (by simpa using h)
      rw [List.take_succ_cons, List.take_succ_cons, exParts_cons, exParts_cons, this]
      simp
      congr 1
      omega
/-- the expressions that are printed -/
inductive ExOk : Ex → Prop
  | mk (op num : Int) (name : List UInt8) (args : List Ex) (hn : -9223372036854775808 ≤ num ∧ num ≤ 9223372036854775807)
      (ha : (op = 1 ∨ op = 2) ∧ args.length = 0 ∨ (op = 3 ∨ op = 4) ∧ args.length = 1 ∨ 5 ≤ op ∧ op ≤ 17 ∧ args.length = 2) (hs : ∀ i (h : i < args.length), ExOk args[i]) : ExOk (.mk op num name args)
theorem signOf_some (op : Int) (h : 5 ≤ op ∧ op ≤ 17) : ∃ s, signOf op = some s ∧ s.length ≤ 2 := by
  have hc : op = 5 ∨ op = 6 ∨ op = 7 ∨ op = 8 ∨ op = 9 ∨ op = 10 ∨ op = 11 ∨ op = 12 ∨ op = 13 ∨ op = 14 ∨ op = 15 ∨ op = 16 ∨ op = 17 := by omega
  rcases hc with rfl | rfl | rfl | rfl | rfl | rfl | rfl | rfl | rfl | rfl | rfl | rfl | rfl <;> exact ⟨_, rfl, by decide⟩
theorem signFind_at (os : List Int) (ss : List (List UInt8)) (op : Int) (m : Nat) (h : m < os.length) (h' : m < ss.length) (he : os[m] = op) (hn : op ∉ os.take m) : signFind os ss op = some ss[m] := by
  induction os generalizing ss m with
  | nil => simp at h
  | cons o os ih =>
    cases ss with
    | nil => simp at h'
    | cons s ss =>
      rw [signFind]
      cases m with
      | zero =>
        simp at he
        rw [if_pos he]
        rfl
      | succ m =>
        simp at hn he
        rw [if_neg (fun e => hn.1 e.symm), ih ss m (by simpa using h) (by simpa using h') he hn.2]
        simp
theorem sg_len (level : Int) : (sgS level).length = (sgO level).length := by
  unfold sgS sgO
  split <;> rfl
theorem sg_mem (op : Int) (h : 5 ≤ op ∧ op ≤ 17) : op ∈ sgO (strV op : Int) := by
  have hc : op = 5 ∨ op = 6 ∨ op = 7 ∨ op = 8 ∨ op = 9 ∨ op = 10 ∨ op = 11 ∨ op = 12 ∨ op = 13 ∨ op = 14 ∨ op = 15 ∨ op = 16 ∨ op = 17 := by omega
  rcases hc with rfl | rfl | rfl | rfl | rfl | rfl | rfl | rfl | rfl | rfl | rfl | rfl | rfl <;> decide
theorem sgS_len2 (level : Int) (m : Nat) (h : m < (sgS level).length) : ((sgS level)[m]).length ≤ 2 := by
  have hm := List.getElem_mem h
  generalize (sgS level)[m] = x at hm
  unfold sgS at hm
  split at hm <;> simp at hm <;> (first | (subst hm; decide) | (rcases hm with h | h | h | h | h | h <;> subst h <;> decide) | (rcases hm with h | h | h <;> subst h <;> decide) | (rcases hm with h | h <;> subst h <;> decide))
theorem size_arg (op num : Int) (name : List UInt8) (args : List Ex) (i : Nat) (h : i < args.length) : SizeOf.sizeOf args[i] < SizeOf.sizeOf (Ex.mk op num name args) := by
  have h1 := List.sizeOf_lt_of_mem (List.getElem_mem h)
  have h2 : SizeOf.sizeOf args < SizeOf.sizeOf (Ex.mk op num name args) := by simp; omega
  omega

theorem ExM.op_eq {w : World} {S : Nat → Prop} {E : Ex} {f : EF} (h : ExM w S E f) : f.op = E.op := by
  cases h
  rfl
theorem ExM.later {w w' : World} {S : Nat → Prop} {E : Ex} {f : EF} (h : ExM w S E f) (hb : Below w.heap.size w w') : ExM w' S E f := h.keep fun b _ hlt => hb.block b hlt
theorem part_le (op num : Int) (name : List UInt8) (args : List Ex) (hok : ExOk (.mk op num name args)) (i : Nat) (h : i < args.length) : (exText args[i]).length ≤ (exText (.mk op num name args)).length ∧ (partText op i args[i]).length ≤ (exText (.mk op num name args)).length := by
  have hp : (exText args[i]).length ≤ (partText op i args[i]).length := by
    unfold partText
    split
    · simp; omega
    · exact Nat.le_refl _
  suffices hq : (partText op i args[i]).length ≤ (exText (.mk op num name args)).length from ⟨Nat.le_trans hp hq, hq⟩
  rw [exText_mk]
  cases hok with
  | mk _ _ _ _ hn ha hs =>
    rcases ha with ⟨_, h0⟩ | ⟨ho, h1⟩ | ⟨o1, o2, h2⟩
    · omega
    · obtain ⟨a, rfl⟩ : ∃ a, args = [a] := List.length_eq_one_iff.1 h1
      have : i = 0 := by simpa using h
      subst this
      simp only [exParts_cons, exParts_nil, List.getElem_cons_zero]
      unfold finText
      rw [if_neg (by omega), if_neg (by omega)]
      rcases ho with rfl | rfl
      · simp
      · simp
    · obtain ⟨a, b, rfl⟩ : ∃ a b, args = [a, b] := by
        match args, h2 with
        | [a, b], _ => exact ⟨a, b, rfl⟩
      obtain ⟨s, hs, _⟩ := signOf_some op ⟨o1, o2⟩
      simp only [exParts_cons, exParts_nil]
      unfold finText
      rw [if_neg (by omega), if_neg (by omega), if_neg (by omega), if_neg (by omega), hs]
      have hi : i = 0 ∨ i = 1 := by simp at h; omega
      rcases hi with rfl | rfl
      · simp
      · simp
        omega

theorem inner_agg (w : World) (op num : Int) (name : List UInt8) (A : Option Addr) (n c b off k : Nat) (aop : Int) (hA : A = some ⟨b, off, none⟩) (hk : k < n) (hn : n ≤ 1000000) (hc : w.cell? ⟨b, off + k * 4, none⟩ = some (.int .i64 aop)) :
    Calls Tryd.prog 36 #[.agg #[.int .i64 op, .int .i64 num, .string ⟨name.toArray⟩, .slice A n c], .int .i64 (k : Int)] w fun e w' => e = .returned (.bool (innerV op aop k)) ∧ Below w.heap.size w w' :=
  inner_any w ⟨op, num, name, A, n, c⟩ b off k aop hA hk hn hc

def strCells (l : List (List UInt8)) : List Value := l.map fun s => Value.string ⟨s.toArray⟩
theorem strCells_snoc (l : List (List UInt8)) (s : List UInt8) : strCells (l ++ [s]) = strCells l ++ [.string ⟨s.toArray⟩] := by simp [strCells]

theorem owns_some {w : World} {base : Nat} {e : TypeId} {size n c : Nat} {A : Option Addr} {xs : List Value} (h : w.ownsRow base e size (.slice A n c) n xs) (hn : 0 < n) : ∃ g, A = some ⟨g, 0, none⟩ := by
  rcases h.2 with ⟨_, h0⟩ | ⟨g, cap, cur, e, _⟩
  · omega
  · injection e with e1
    exact ⟨g, e1⟩
/-- what an append to a row of the call's own leaves, behind one new block -/
theorem grown_row {w wr W w5 : World} {o0 o : Obj} {e size n : Nat} {v : Value} {xs : List Value} (ho : wr.ownsRow (w.heap.size + 1) e size v n xs) (hw : Below (w.alloc o0).heap.size (w.alloc o0) wr) (hb : Below wr.heap.size wr W)
    (hg : (W.alloc o).grownBy w5 v.ownBlock) : Below (w.alloc o0).heap.size (w.alloc o0) w5 := by
  have h1 := hw.size
  have h2 := hb.size
  exact ((hw.trans (hb.mono h1)).alloc (by omega) _).grown hg (by simp at *; omega) (fun k hk => by have := (owns_block ho k hk).1; simp; omega)

set_option maxRecDepth 100000 in
set_option maxHeartbeats 4000000 in
theorem text_fuel (N : Nat) : ∀ (E : Ex) (op num : Int) (name : List UInt8) (A : Option Addr) (n c : Nat) (w : World), SizeOf.sizeOf E < N → ExOk E → (exText E).length ≤ 1000000000 → ExM w (fun _ => True) E ⟨op, num, name, A, n, c⟩ →
    Calls Tryd.prog 30 #[.agg #[.int .i64 op, .int .i64 num, .string ⟨name.toArray⟩, .slice A n c]] w fun e w' => e = .returned (.string ⟨(exText E).toArray⟩) ∧ Below w.heap.size w w' := by
  induction N with
  | zero => intro E op num name A n c w h; omega
  | succ N ih =>
    intro E op num name A n c w hN hok hlen hM
    obtain ⟨i0, hi, hz0, hz1, hz2⟩ := info_parts Tryd.infoStr
    have IH := Lib.hid ih
    clear ih
    cases hM with
    | mk _ _ _ args _ _ F hc hs =>
    have HOK := Lib.hid hok
    have HLEN := Lib.hid hlen
    have HC := Lib.hid hc
    have HS := Lib.hid hs
    have hsz := fun i h => size_arg op num name args i h
    have HSZ := Lib.hid hsz
    have HPL := Lib.hid (part_le op num name args hok)
    have hal : args.length ≤ 2 := by
      cases hok with
      | mk _ _ _ _ hn ha hs => omega
    have HIO : Hid (∀ i (h : i < args.length), ExOk args[i]) := by
      cases hok with
      | mk _ _ _ _ hn ha hs => exact hs
    clear hok hlen hc hs hsz
    have hb0 : Below w.heap.size w (w.alloc (.cells #[.int .i64 op, .int .i64 num, .string ⟨name.toArray⟩, .slice A args.length c] 38)) := (Below.refl _ _).alloc (Nat.le_refl _) _
    have HB0 := Lib.hid hb0
    clear hb0
    go_enter Tryd.func30, Tryd.ntmps30
    go_wp2_with fail
    go_loopw [3, 4, 5] (fun v i _ wr => ∃ k : Nat, k ≤ args.length ∧ i = .int .i64 k ∧ wr.ownsRow (w.heap.size + 1) 9 1 v k (strCells (exParts op 0 (args.take k))) ∧ Below (w.alloc (.cells #[.int .i64 op, .int .i64 num, .string ⟨name.toArray⟩, .slice A args.length c] 38)).heap.size (w.alloc (.cells #[.int .i64 op, .int .i64 num, .string ⟨name.toArray⟩, .slice A args.length c] 38)) wr)
      (fun _ i _ _ => args.length - (intOf i).toNat)
    case atStart => exact ⟨0, Nat.zero_le _, rfl, by rw [List.take_zero, exParts_nil]; exact World.ownsRow_nil _ _ _ _, Below.refl _ _⟩
    case round =>
      obtain ⟨k, hk, rfl, hown, hbel⟩ := hrel
      obtain ⟨q0, q1, q2, q3, f0, f1, f2, f3, hz⟩ := four_later hbel
      have HO := Lib.hid hown
      have HBE := Lib.hid hbel
      have HBW := Lib.hid (below_two HB0.out hbel)
      clear hown hbel f0 f1 f2 f3
      by_cases hlt : k < args.length
      · obtain ⟨b, off, rfl, -, hat⟩ := HC.out k hlt
        have hat1 := hat.keep (HBW.out.block b hat.lt)
        obtain ⟨a0, a1, a2, a3⟩ := hat1
        obtain ⟨sa, sc, rfl⟩ := owns_form HO.out
        have HCH := Lib.hid ((HS.out k hlt).later HBW.out)
        have hopq : Hid ((F k).op = args[k].op) := (HS.out k hlt).op_eq
        have HPK := Lib.hid (HPL.out k hlt)
        go_wp2_with fail
        refine (IH.out args[k] (F k).op (F k).num (F k).name (F k).A (F k).n (F k).c wr (by have := HSZ.out k hlt; omega) (HIO.out k hlt) (Nat.le_trans HPK.out.1 HLEN.out) HCH.out).mono ?_
        rintro e w1 ⟨rfl, hb1⟩
        have q0' := cell_later hb1 q0
        have q1' := cell_later hb1 q1
        have q2' := cell_later hb1 q2
        have q3' := cell_later hb1 q3
        have a0' := cell_later hb1 a0
        have HB1 := Lib.hid hb1
        clear hb1 q0 q1 q2 q3 a0 a1 a2 a3
        have htl : Hid ((exText args[k]).length ≤ 1000000000) := Nat.le_trans HPK.out.1 HLEN.out
        have hpt : partText op k args[k] = if innerV op args[k].op k then 40 :: (exText args[k] ++ [41]) else exText args[k] := rfl
        rw [← hopq.out] at hpt
        have HPT0 := Lib.hid hpt
        clear hpt
        generalize exText args[k] = T at *
        go_wp2_with fail
        refine (inner_agg w1 op num name _ args.length c b off k (F k).op rfl hlt (by omega) a0').mono ?_
        rintro e w2 ⟨rfl, hb2⟩
        have HBX := Lib.hid (below_two HB1.out hb2)
        clear hb2 q0' q1' q2' q3' a0'
        have hTl := htl.out
        have happ := bapp
        by_cases hin : innerV op (F k).op k = true
        · have HPT : Hid (partText op k args[k] = 40 :: (T ++ [41])) := by rw [HPT0.out, if_pos hin]; rfl
          clear HPT0
          go_wp2_with (first | (at_builtin; refine wpList_append_own _ rfl (.tmp 28) (.tmp 30) 51 rfl (w.heap.size + 1) 9 i0 _ 1 16 Tryd.underlying51 hi hz0 hz1 hz2 rfl (by decide) _ k (strCells (exParts op 0 (args.take k))) rfl ((owns_later HO.out HBX.out).alloc _) ⟨w2.heap.size, 0, none⟩ 1 1 [.string ⟨(40 :: (T ++ [41])).toArray⟩] rfl rfl (news_one w2 w2.heap.size rfl _ _) (one_one _) (by unfold maxLen; omega) (by omega) (by have := HBX.out.size; simp; omega) ?_))
          intro v' w5 hown' hgrow _
          have hbel5 := grown_row HO.out HBE.out HBX.out hgrow
          have HO' := Lib.hid hown'
          have HBE' := Lib.hid hbel5
          clear hown' hgrow hbel5
          go_wp2_with fail
          go_roundw
          case rel =>
            refine ⟨k + 1, by omega, by go_num, ?_, HBE'.out⟩
            rw [exParts_snoc op 0 args k hlt, Nat.zero_add, strCells_snoc, HPT.out]
            exact HO'.out
          case measure => simp [intOf]; omega
        · have hin' : innerV op (F k).op k = false := by simpa using hin
          have HPT : Hid (partText op k args[k] = T) := by rw [HPT0.out, if_neg hin]; rfl
          clear HPT0 hin
          go_wp2_with (first | (at_builtin; refine wpList_append_own _ rfl (.tmp 28) (.tmp 30) 51 rfl (w.heap.size + 1) 9 i0 _ 1 16 Tryd.underlying51 hi hz0 hz1 hz2 rfl (by decide) _ k (strCells (exParts op 0 (args.take k))) rfl ((owns_later HO.out HBX.out).alloc _) ⟨w2.heap.size, 0, none⟩ 1 1 [.string ⟨(T).toArray⟩] rfl rfl (news_one w2 w2.heap.size rfl _ _) (one_one _) (by unfold maxLen; omega) (by omega) (by have := HBX.out.size; simp; omega) ?_))
          intro v' w5 hown' hgrow _
          have hbel5 := grown_row HO.out HBE.out HBX.out hgrow
          have HO' := Lib.hid hown'
          have HBE' := Lib.hid hbel5
          clear hown' hgrow hbel5
          go_wp2_with fail
          go_roundw
          case rel =>
            refine ⟨k + 1, by omega, by go_num, ?_, HBE'.out⟩
            rw [exParts_snoc op 0 args k hlt, Nat.zero_add, strCells_snoc, HPT.out]
            exact HO'.out
          case measure => simp [intOf]; omega
      · have hke : k = args.length := by omega
        have HO2 : Hid (wr.ownsRow (w.heap.size + 1) 9 1 u3 args.length (strCells (exParts op 0 args))) := by
          have := HO.out
          rw [List.take_of_length_le (by omega), hke] at this
          exact this
        clear HO
        have hokk := HOK.out
        obtain ⟨hnum, hcase⟩ : (-9223372036854775808 ≤ num ∧ num ≤ 9223372036854775807) ∧ ((op = 1 ∨ op = 2) ∧ args.length = 0 ∨ (op = 3 ∨ op = 4) ∧ args.length = 1 ∨ 5 ≤ op ∧ op ≤ 17 ∧ args.length = 2) := by
          cases hokk with
          | mk _ _ _ _ hn ha hs => exact ⟨hn, ha⟩
        clear hokk
        have hTX : exText (.mk op num name args) = finText op num name (exParts op 0 args) := exText_mk op num name args
        rw [hTX] at HLEN
        have HTX := Lib.hid hTX
        clear hTX HPL HSZ IH
        have happ := bapp
        have HP2 := Lib.hid (exParts_len op 0 args)
        generalize exParts op 0 args = ps at *
        by_cases c1 : op = 1
        · have HF : Hid (finText op num name ps = numText num) := if_pos c1
          have t1 := bT (show op = 1 by omega)
          have HNM := Lib.hid hnum
          clear c1 hcase hnum
          go_wp2_with fail
          refine (numberText_any num _ HNM.out.1 HNM.out.2).mono ?_
          rintro e w1 ⟨rfl, hb1⟩
          go_wp2_with fail
          go_ret
          exact ⟨by rw [HTX.out, HF.out]; rfl, below_two HBW.out hb1⟩
        · by_cases c2 : op = 2
          · have HF : Hid (finText op num name ps = name) := by unfold finText; rw [if_neg c1, if_pos c2]; rfl
            have t1 := bF (show op ≠ 1 by omega)
            have t2 := bT (show op = 2 by omega)
            clear c1 c2 hcase hnum
            go_wp2_with fail
            go_ret
            exact ⟨by rw [HTX.out, HF.out]; rfl, HBW.out⟩
          · by_cases c34 : op = 3 ∨ op = 4
            · have h1 : args.length = 1 := by omega
              have h1p : ps.length = 1 := by rw [HP2.out]; exact h1
              obtain ⟨p0, rfl⟩ : ∃ a, ps = [a] := List.length_eq_one_iff.1 h1p
              obtain ⟨sa, sc, rfl⟩ := owns_form HO2.out
              rw [h1] at HO2
              obtain ⟨g, hgv⟩ := owns_some HO2.out (by omega)
              subst hgv
              have r0 : wr.cell? ⟨g, 0, none⟩ = some (.string ⟨p0.toArray⟩) := World.ownsRow.cellAt HO2.out 0 (by omega)
              have hlen1 : (finText op num name [p0]).length = p0.length + 1 := by
                unfold finText
                rw [if_neg c1, if_neg c2]
                rcases c34 with h | h
                · rw [if_pos h]; rfl
                · rw [if_neg (by omega), if_pos h]; rfl
              have hpl : p0.length ≤ 1000000000 := by have := HLEN.out; omega
              have hpos1 : 0 < args.length := by omega
              clear hlen1
              by_cases c3 : op = 3
              · have HF : Hid (finText op num name [p0] = 45 :: p0) := by unfold finText; rw [if_neg c1, if_neg c2, if_pos c3]; rfl
                have t1 := bF (show op ≠ 1 by omega)
                have t2 := bF (show op ≠ 2 by omega)
                have t3 := bT (show op = 3 by omega)
                have H1 := Lib.hid h1
                clear c1 c2 c3 c34 hcase hnum h1p h1 hke
                go_wp2_with fail
                go_ret
                exact ⟨by rw [HTX.out, HF.out]; rfl, HBW.out⟩
              · have c4 : op = 4 := by omega
                have HF : Hid (finText op num name [p0] = 33 :: p0) := by unfold finText; rw [if_neg c1, if_neg c2, if_neg c3, if_pos c4]; rfl
                have t1 := bF (show op ≠ 1 by omega)
                have t2 := bF (show op ≠ 2 by omega)
                have t3 := bF (show op ≠ 3 by omega)
                have t4 := bT (show op = 4 by omega)
                clear c1 c2 c3 c4 c34 hcase hnum h1p h1 hke
                go_wp2_with fail
                go_ret
                exact ⟨by rw [HTX.out, HF.out]; rfl, HBW.out⟩
            · have hop : 5 ≤ op ∧ op ≤ 17 := by omega
              have h2 : args.length = 2 := by omega
              have h2p : ps.length = 2 := by rw [HP2.out]; exact h2
              obtain ⟨p0, p1, rfl⟩ : ∃ a b, ps = [a, b] := by
                match ps, h2p with
                | [a, b], _ => exact ⟨a, b, rfl⟩
              have t1 := bF (show op ≠ 1 by omega)
              have t2 := bF (show op ≠ 2 by omega)
              have t3 := bF (show op ≠ 3 by omega)
              have t4 := bF (show op ≠ 4 by omega)
              obtain ⟨sa, sc, rfl⟩ := owns_form HO2.out
              rw [h2] at HO2
              obtain ⟨g, hgv⟩ := owns_some HO2.out (by omega)
              subst hgv
              have r0 : wr.cell? ⟨g, 0, none⟩ = some (.string ⟨p0.toArray⟩) := World.ownsRow.cellAt HO2.out 0 (by omega)
              have r1 : wr.cell? ⟨g, 1, none⟩ = some (.string ⟨p1.toArray⟩) := World.ownsRow.cellAt HO2.out 1 (by omega)
              have hpos1 : 0 < args.length := by omega
              have hpos2 : 1 < args.length := by omega
              have HOP := Lib.hid hop
              have HLE2 : Hid (p0.length + p1.length ≤ 1000000000) := by
                have h := HLEN.out
                obtain ⟨sg, hsg, _⟩ := signOf_some op hop
                have hf : finText op num name [p0, p1] = p0 ++ [32] ++ sg ++ [32] ++ p1 := by
                  unfold finText
                  rw [if_neg c1, if_neg c2, if_neg (fun h => c34 (.inl h)), if_neg (fun h => c34 (.inr h)), hsg]
                  rfl
                rw [hf] at h
                simp at h
                show _ ≤ _
                omega
              have HFIN : Hid (∀ sg, signOf op = some sg → finText op num name [p0, p1] = p0 ++ [32] ++ sg ++ [32] ++ p1) := by
                intro sg hsg
                unfold finText
                rw [if_neg c1, if_neg c2, if_neg (fun h => c34 (.inl h)), if_neg (fun h => c34 (.inr h)), hsg]
                rfl
              clear hnum c1 c2 c34 hop h2 h2p hcase hke q1 q2
              go_wp2_with fail
              refine (strength_any op wr).mono ?_
              rintro e w1 ⟨rfl, hb1⟩
              have HB1 := Lib.hid hb1
              clear hb1
              go_wp2_with fail
              refine (signs_any (strV op : Int) w1).mono ?_
              rintro e w2 ⟨sb, ob, rfl, hSS, hII, hb2⟩
              have HB2 := Lib.hid (below_two HB1.out hb2)
              have s0 := cell_later HB2.out r0
              have s1 := cell_later HB2.out r1
              have s2 := cell_later HB2.out q0
              have HSS := Lib.hid hSS
              have HII := Lib.hid hII
              have HLL := Lib.hid (sg_len (strV op : Int))
              have hl6 := sgO_len (strV op : Int)
              have HMEM := Lib.hid (sg_mem op HOP.out)
              clear hb2 hSS hII r0 r1 q0 q3
              have HSO : Hid (∀ m (h : m < (sgO (strV op : Int)).length) (h' : m < (sgS (strV op : Int)).length), (sgO (strV op : Int))[m] = op → op ∉ (sgO (strV op : Int)).take m → signOf op = some (sgS (strV op : Int))[m]) := fun m h h' he hn => signFind_at _ _ op m h h' he hn
              have HS2 : Hid (∀ m (h : m < (sgS (strV op : Int)).length), ((sgS (strV op : Int))[m]).length ≤ 2) := fun m h => sgS_len2 _ m h
              generalize sgO (strV op : Int) = L at *
              generalize sgS (strV op : Int) = SS at *
              go_wp2_with fail
              go_loopw [8] (fun i wz => ∃ m nq : Nat, m ≤ L.length ∧ i = .int .i64 m ∧ Hid (op ∉ L.take m) ∧ w2.drewN nq = wz) (fun i _ => L.length - (intOf i).toNat)
              case atStart => exact ⟨0, 0, by omega, rfl, by show _ ∉ _; simp, rfl⟩
              case round =>
                obtain ⟨m, nq, hm, rfl, hrel2, rfl⟩ := hrel
                by_cases hlt2 : m < L.length
                · have hlt3 : m < SS.length := by rw [HLL.out]; exact hlt2
                  obtain ⟨b2, off2, hA2, hcI⟩ := HII.out m hlt2
                  obtain ⟨b3, off3, hA3, hcS⟩ := HSS.out m hlt3
                  injection hA2 with hA2
                  injection hA2 with e1 e2
                  subst e1 e2
                  injection hA3 with hA3
                  injection hA3 with e1 e2
                  subst e1 e2
                  rw [Nat.zero_add] at hcI hcS
                  have j0 : (0 : Int) ≤ (m : Int) := by omega
                  have j1 : (m : Int) < (L.length : Int) := by omega
                  have j2 : (m : Int) < (SS.length : Int) := by omega
                  by_cases he : L[m] = op
                  · have HE := Lib.hid (HFIN.out _ (HSO.out m hlt2 hlt3 he hrel2.out))
                    have hsl := HS2.out m hlt3
                    have t9 := bT he
                    clear he
                    have hl2 := HLE2.out
                    go_wp2_with fail
                    go_quiet (fail)
                    go_wp2_with fail
                    go_quiet (fail)
                    go_wp2_with fail
                    go_ret
                    refine ⟨?_, below_drewN (below_drewN (below_drewN (below_two HBW.out HB2.out) _) _) _⟩
                    rw [HTX.out, HE.out]
                    simp
                  · have t9 := bF he
                    have HE := Lib.hid (int_not_in L op m hlt2 hrel2.out he)
                    clear he
                    go_wp2_with fail
                    go_quiet (fail)
                    go_wp2_with fail
                    go_roundw
                    case rel => exact ⟨m + 1, _, by omega, by go_num, HE, rfl⟩
                    case measure => simp [intOf]; omega
                · exfalso
                  have := hrel2.out
                  rw [List.take_of_length_le (by omega)] at this
                  exact this HMEM.out

end Go.Proofs.YtfhpihpdijighaaDoor
