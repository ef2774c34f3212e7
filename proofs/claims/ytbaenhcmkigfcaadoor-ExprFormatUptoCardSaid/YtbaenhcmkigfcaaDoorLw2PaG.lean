/- The walk of ExprParentheses: true for all arguments. -/
import Derived.Test.YtbaenhcmkigfcaaDoorLw2SameG
import Derived.Test.YtbaenhcmkigfcaaDoorGRt
namespace Go.Proofs.YtbaenhcmkigfcaaDoor
open Go.RowKit

theorem nm_ok (k : Nat) (h : k < 3) : NmOk (nm3.getD k []) := by
  have hc : k = 0 ∨ k = 1 ∨ k = 2 := by omega
  rcases hc with rfl | rfl | rfl
  · exact ⟨by decide, ⟨97, [], rfl, by decide⟩, by decide, by decide, by decide⟩
  · exact ⟨by decide, ⟨98, [], rfl, by decide⟩, by decide, by decide, by decide⟩
  · exact ⟨by decide, ⟨120, [49], rfl, by decide⟩, by decide, by decide, by decide⟩
theorem un_ht (op : Int) (h5 : strV op = 5) (a : Ex) : exHt (.mk op 0 [] [a]) ≤ exHt a + 2 := by
  rw [exHt_mk, exHts_cons, exHts_nil, if_pos h5]
  unfold htPart
  split <;> omega
theorem bin_ht (op : Int) (h5 : strV op ≠ 5) (a b : Ex) : exHt (.mk op 0 [] [a, b]) ≤ max (exHt a) (exHt b) + 1 := by
  rw [exHt_mk, exHts_cons, exHts_cons, exHts_nil, if_neg h5]
  unfold htPart
  split <;> split <;> omega
theorem exprG_tk (xs : List Int) (d : Nat) : ∀ i, (∃ l, TkOf (exprG nm3 xs d i).1 l) ∧ exHt (exprG nm3 xs d i).1 ≤ 2 * d := by
  have leaf : ∀ i, (∃ l, TkOf (exprG.leafG nm3 xs i).1 l) ∧ exHt (exprG.leafG nm3 xs i).1 = 0 := by
    intro i
    unfold exprG.leafG
    split
    · refine ⟨⟨_, TkOf.name _ (nm_ok _ (nextV_lt _ _ _ (by decide)))⟩, ?_⟩
      rw [exHt_mk, exHts_nil, if_neg (by decide)]
    · dsimp only
      have hn : ∀ j, (numG xs j).1 ≤ 4611686018427387904 := fun j => by
        unfold numG
        split
        · have := nextV_lt xs (nextI xs j) 4611686018427387904 (by omega)
          dsimp only
          omega
        · have := nextV_lt xs (nextI xs j) 4 (by omega)
          dsimp only
          omega
      refine ⟨⟨_, TkOf.num _ (Nat.le_trans (hn _) (by omega))⟩, ?_⟩
      rw [exHt_mk, exHts_nil, if_neg (by decide)]
  induction d with
  | zero =>
    intro i
    have e : exprG nm3 xs 0 i = exprG.leafG nm3 xs (nextI xs i) := by rw [exprG]
    rw [e]
    obtain ⟨h1, h2⟩ := leaf (nextI xs i)
    exact ⟨h1, by omega⟩
  | succ d ih =>
    intro i
    by_cases h2 : nextV xs i 10 < 2
    · rw [exprG_leaf nm3 xs d i h2]
      obtain ⟨h1, h3⟩ := leaf (nextI xs i)
      exact ⟨h1, by omega⟩
    · by_cases h4 : nextV xs i 10 < 4
      · rw [exprG_un nm3 xs d i h2 h4]
        obtain ⟨⟨l, h5⟩, h6⟩ := ih (nextI xs i)
        have ho : 3 + nextV xs i 10 % 2 = 3 ∨ 3 + nextV xs i 10 % 2 = 4 := by omega
        refine ⟨⟨_, TkOf.un (3 + nextV xs i 10 % 2) ho _ l h5⟩, ?_⟩
        have h7 := un_ht (3 + (nextV xs i 10 % 2 : Nat)) (by rcases (show nextV xs i 10 % 2 = 0 ∨ nextV xs i 10 % 2 = 1 by omega) with e | e <;> rw [e] <;> rfl) (exprG nm3 xs d (nextI xs i)).1
        exact Nat.le_trans h7 (by omega)
      · rw [exprG_bin nm3 xs d i h2 h4]
        have hv := nextV_lt xs (nextI xs i) 13 (by omega)
        obtain ⟨⟨la, a1⟩, a2⟩ := ih (nextI xs (nextI xs i))
        obtain ⟨⟨lb, b1⟩, b2⟩ := ih (exprG nm3 xs d (nextI xs (nextI xs i))).2
        have ho : 5 ≤ 5 + nextV xs (nextI xs i) 13 ∧ 5 + nextV xs (nextI xs i) 13 ≤ 17 := by omega
        refine ⟨⟨_, TkOf.bin (5 + nextV xs (nextI xs i) 13) ho _ _ la lb a1 b1⟩, ?_⟩
        have h7 := bin_ht (5 + (nextV xs (nextI xs i) 13 : Nat)) (by have := (bin_facts (5 + nextV xs (nextI xs i) 13) ho).2.2; have e : ((5 + nextV xs (nextI xs i) 13 : Nat) : Int) = 5 + (nextV xs (nextI xs i) 13 : Nat) := rfl; rw [e] at this; omega) (exprG nm3 xs d (nextI xs (nextI xs i))).1 (exprG nm3 xs d (exprG nm3 xs d (nextI xs (nextI xs i))).2).1
        exact Nat.le_trans h7 (by omega)
theorem tk_shape {E : Ex} {l : List K3} (h : TkOf E l) : exShape E = true := by
  induction h with
  | num n hn =>
    rw [exShape_mk, head_six 1 (n : Int) [] _ (by decide)]
    simp [exShapes]
  | name s hs =>
    rw [exShape_mk, head_six 2 0 s _ (by decide), hs.nb]
    simp [exShapes]
  | un op ho a la ha ih =>
    rw [exShape_mk, head_five (op : Int) 0 [] _ (by rcases ho with rfl | rfl <;> rfl)]
    simp [exShapes, ih]
  | bin op ho a b la lb ha hb iha ihb =>
    have h4 := (bin_facts op ho).2.2
    rw [exShape_mk, head_bin (op : Int) 0 [] _ (by omega) (by omega)]
    simp [exShapes, iha, ihb]
theorem madeG_tk (xs : List Int) : (∃ l, TkOf (madeG xs) l) ∧ exHt (madeG xs) ≤ 10 := by
  have hn5 := nextV_lt (xs.take 100) 0 5 (by omega)
  obtain ⟨h1, h2⟩ := exprG_tk (xs.take 100) (1 + nextV (xs.take 100) 0 5) (nextI (xs.take 100) 0)
  exact ⟨h1, Nat.le_trans h2 (by omega)⟩
theorem madeG_text (xs : List Int) : refFT (madeG xs) = exText (madeG xs) := by
  obtain ⟨⟨l, h1⟩, h2⟩ := madeG_tk xs
  unfold refFT refVB
  rw [tk_shape h1, decide_eq_true (by omega)]
  rfl

set_option maxRecDepth 100000 in
set_option maxHeartbeats 4000000 in
theorem exprParen_any (xs : List Int) (A : Option Addr) (cap : Nat) (w : World) (hR : IntR w A xs) (hc : xs.length ≤ cap) (hm : xs.length ≤ 9223372036854775807) (hS : SgT w) :
    Calls Tryd.prog 7 #[.slice A xs.length cap] w fun e w' => e = .returned (.bool true) ∧ Below w.heap.size w w' := by
  have HS := Lib.hid hS
  have HMK := Lib.hid (madeExpr_any xs A cap w hR hc hm)
  obtain ⟨hOk, hB, hCn⟩ := madeG_ok xs
  obtain ⟨hTl, hHt⟩ := madeG_len xs
  obtain ⟨⟨l, hTk⟩, hH10⟩ := madeG_tk xs
  obtain ⟨m, hPV⟩ := dbl_parse hTk (by omega) (by omega)
  have HFT := Lib.hid (madeG_text xs)
  have HOk := Lib.hid hOk
  have HBB := Lib.hid hB
  have HPV := Lib.hid hPV
  generalize madeG xs = E at *
  clear hR hc hm hS hOk hB hTk hPV hCn
  have HHT : Hid (exHt E ≤ 1000000000) := by show _ ≤ _; omega
  have HTL : Hid ((exText E).length ≤ 1000000000) := by show _ ≤ _; omega
  go_enter Tryd.func7, Tryd.ntmps7
  go_wp2_with fail
  refine HMK.out.mono ?_
  rintro e w1 ⟨num, name, A1, n1, c1, rfl, hM, hb1⟩
  have HM : Hid (ExM w1 (fun _ => True) E ⟨E.op, num, name, A1, n1, c1⟩) := hM.more (fun _ _ => trivial)
  have HB1 := Lib.hid hb1
  clear hM hb1 HMK
  generalize E.op = op at *
  go_wp2_with fail
  refine (refFormat_any _ E op num name A1 n1 c1 (HM.out.later ((Below.refl _ _).alloc (Nat.le_refl _) _)) HBB.out HHT.out HOk.out HTL.out).mono ?_
  rw [HFT.out]
  rintro e w2 ⟨rfl, hb2⟩
  have hx2 := (hb2.block w1.heap.size (by simp)).trans (heap_alloc_new w1 _)
  have hk2 : ∀ b, b < w1.heap.size → w2.heap[b]? = w1.heap[b]? := fun b hb => (hb2.block b (by simp; omega)).trans (Below.heap_alloc w1 _ b hb)
  have HX2 := Lib.hid hx2
  have HM2 : Hid (ExM w2 (fun _ => True) E ⟨op, num, name, A1, n1, c1⟩) := HM.out.keep fun b _ hlt => hk2 b hlt
  have HB2 := Lib.hid (below_rev' hb2 (HB1.out.alloc HB1.out.size _))
  clear hb2 hk2 hx2 HM
  have happ := bapp
  have HDT : Hid (dblT (exText E) = 40 :: 40 :: (exText E ++ [41, 41])) := rfl
  generalize exText E = s at *
  go_wp2_with fail
  refine (tokens_any (40 :: 40 :: (s ++ [41, 41])) w2 (by simp; omega)).mono ?_
  rw [← HDT.out]
  rintro e w3 ⟨TA, tc, rfl, hT, hb3⟩
  have HT := Lib.hid hT
  have HX3 := Lib.hid ((hb3.block _ (lt_of_block HX2.out)).trans HX2.out)
  have HM3 := Lib.hid (HM2.out.later hb3)
  have HB3 := Lib.hid (below_rev' hb3 HB2.out)
  clear hT hb3 HX2 HM2 happ
  have hlx := lex_len (dblT s)
  generalize (Tk.lex (dblT s)).1 = ts at *
  go_wp2_with fail
  refine (parse_any ts TA tc 0 w3 HT.out (HS.out.later HB3.out) (by omega) (by omega)).mono ?_
  rw [HPV.out]
  rintro e w4 ⟨f, rfl, hM4, hb4⟩
  unfold EF.val
  dsimp only
  have HMY : Hid (ExM w4 (fun _ => True) E f) := hM4.more (fun _ _ => trivial)
  have HX4 := Lib.hid ((hb4.block _ (lt_of_block HX3.out)).trans HX3.out)
  have HM4 := Lib.hid (HM3.out.later hb4)
  have HB4 := Lib.hid (below_rev' hb4 HB3.out)
  clear hM4 hb4 HX3 HM3
  obtain ⟨x0, x1, x2, x3, -, -, -, -, xl⟩ := blk4 HX4.out
  go_wp2_with fail
  refine (sameE_any E ⟨op, num, name, A1, n1, c1⟩ f _ HBB.out (HM4.out.later ((Below.refl _ _).alloc (Nat.le_refl _) _)) (HMY.out.later ((Below.refl _ _).alloc (Nat.le_refl _) _))).mono ?_
  rintro e w5 ⟨rfl, hb5⟩
  have HB5 := Lib.hid (below_rev' hb5 (HB4.out.alloc HB4.out.size _))
  clear hb5
  go_wp2_with fail
  refine (awake_any _ (HS.out.later HB5.out)).mono ?_
  rintro e w6 ⟨rfl, hb6⟩
  have HB6 := Lib.hid (below_rev' hb6 HB5.out)
  clear hb6
  go_wp2_with fail
  go_ret
  exact ⟨rfl, HB6.out⟩
end Go.Proofs.YtbaenhcmkigfcaaDoor
