/- The walk of ValueVariables. -/
import Derived.Test.YtiaonhpiiibkdaaVlMade
namespace Go.Proofs.Ytiaonhpiiibkdaa
open Go.RowKit
set_option maxRecDepth 100000

/-- the value depends only on the variables that may occur -/
theorem evV_ext {ng nl : Nat} {gs gs' ls ls' : List Int} (hg : ∀ n : Int, 0 ≤ n → n < ng → varV gs n = varV gs' n) (hl : ∀ n : Int, 0 ≤ n → n < nl → varV ls n = varV ls' n) (E : Ex) (h : RsOk ng nl E) : evV gs ls E = evV gs' ls' E := by
  induction h with
  | mk op num name args hn _ ha hs ih =>
    rw [evV_mk, evV_mk]
    have hargs : evVs gs ls args = evVs gs' ls' args := by
      clear ha hs
      induction args with
      | nil => rw [evVs_nil, evVs_nil]
      | cons e r ihr =>
        rw [evVs_cons, evVs_cons]
        have h0 := ih 0 (by simp)
        simp only [List.getElem_cons_zero] at h0
        rw [h0, ihr (fun i hi => by have := ih (i + 1) (by simpa using hi); simpa using this)]
    rw [hargs]
    unfold finV
    by_cases h18 : op = 18
    · have h1 : varV ls num = varV ls' num := by
        rcases ha with ⟨h | ⟨_, h0, h1⟩ | ⟨h, _⟩, _⟩ | ⟨h, _⟩ | ⟨h, h', _⟩
        · omega
        · exact hl num h0 h1
        · omega
        · omega
        · omega
      rw [h1]
      subst h18
      rw [if_neg (by omega), if_pos rfl, if_neg (by omega), if_pos rfl]
    · by_cases h19 : op = 19
      · have h1 : varV gs num = varV gs' num := by
          rcases ha with ⟨h | ⟨h, _⟩ | ⟨_, h0, h1⟩, _⟩ | ⟨h, _⟩ | ⟨h, h', _⟩
          · omega
          · omega
          · exact hg num h0 h1
          · omega
          · omega
        rw [h1]
        subst h19
        rw [if_neg (by omega), if_neg (by omega), if_pos rfl, if_neg (by omega), if_neg (by omega)]
      · rw [if_neg h18, if_neg h18, if_neg h19, if_neg h19]
theorem evV_more (a b c d : Int) (E : Ex) (h : RsOk 2 1 E) : evV [b, c, d] [a, d] E = evV [b, c] [a] E := by
  refine evV_ext (ng := 2) (nl := 1) (fun n h0 h1 => ?_) (fun n h0 h1 => ?_) E h
  · have : n = 0 ∨ n = 1 := by omega
    rcases this with rfl | rfl <;> rfl
  · have : n = 0 := by omega
    subst this
    rfl
theorem lawEval3_any (W : World) (N : Nat) (hN : W.heap.size = N) (E : Ex) (f : EF) (a b c d : Int) (hM : ExM W (fun _ => True) E f) (hR : RsOk 3 2 E) (hC : exCnt E ≤ 10000000000) (ha : I64 a) (hb : I64 b) (hc : I64 c) (hd : I64 d) :
    Calls Try.prog 12 #[f.val, .slice (some ⟨N, 0, none⟩) 3 3, .slice (some ⟨N + 1, 0, none⟩) 2 2] ((W.alloc (.cells #[.int .i64 b, .int .i64 c, .int .i64 d] 3)).alloc (.cells #[.int .i64 a, .int .i64 d] 3)) fun e w' => e = .returned (.tuple #[.int .i64 (evV [b, c, d] [a, d] E).1, .int .i64 (evV [b, c, d] [a, d] E).2]) ∧ Below W.heap.size W w' := by
  subst hN
  have h1 : Below W.heap.size W (W.alloc (.cells #[.int .i64 b, .int .i64 c, .int .i64 d] 3)) := (Below.refl _ _).alloc (Nat.le_refl _) _
  have h2 : Below (W.alloc (.cells #[.int .i64 b, .int .i64 c, .int .i64 d] 3)).heap.size (W.alloc (.cells #[.int .i64 b, .int .i64 c, .int .i64 d] 3)) ((W.alloc (.cells #[.int .i64 b, .int .i64 c, .int .i64 d] 3)).alloc (.cells #[.int .i64 a, .int .i64 d] 3)) := (Below.refl _ _).alloc (Nat.le_refl _) _
  have hl := intR_new2 (W.alloc (.cells #[.int .i64 b, .int .i64 c, .int .i64 d] 3)) a d ha hd
  rw [show (W.alloc (.cells #[.int .i64 b, .int .i64 c, .int .i64 d] 3)).heap.size = W.heap.size + 1 by simp] at hl
  refine (evalF_any _ E f [b, c, d] [a, d] _ _ 3 2 ((hM.later h1).later h2) hR hC ((intR_new3 W b c d hb hc hd).later h2) hl (allI_3 hb hc hd) (allI_2 ha hd)).mono ?_
  rintro e w' ⟨he, hw⟩
  exact ⟨he, below_two (below_two h1 h2) hw⟩
set_option maxHeartbeats 8000000 in
theorem valueVariables_any (xs : List Int) (A : Option Addr) (cap : Nat) (a b c d : Int) (w : World) (hR : IntR w A xs) (hc : xs.length ≤ cap) (hm : xs.length ≤ 9223372036854775807) (ha : I64 a) (hb : I64 b) (hcc : I64 c) (hdd : I64 d) :
    Calls Try.prog 8 #[.slice A xs.length cap, .int .i64 a, .int .i64 b, .int .i64 c, .int .i64 d] w fun e w' => e = .returned (.bool true) ∧ Below w.heap.size w w' := by
  have HEX := Lib.hid (madeExpr_any xs A cap w hR hc hm)
  obtain ⟨m1, m2, m3⟩ := madeG_ok xs
  clear hR hc hm
  go_enter Try.func8, Try.ntmps8
  go_wp2_with fail
  refine HEX.out.mono ?_
  rintro e w1 ⟨num, name, A1, n1, c1, rfl, hM1, hb1⟩
  have HR1 := Lib.hid (resolved_any w1 (madeG xs) ⟨(madeG xs).op, num, name, A1, n1, c1⟩ m2 (hM1.more fun _ _ => trivial))
  have HB1 := Lib.hid hb1
  clear hM1 hb1 HEX m1 m2 m3
  go_wp2_with fail
  refine HR1.out.mono ?_
  rintro e w2 ⟨f, rfl, hf, hb2⟩
  have hbx := (Below.refl w2.heap.size w2).alloc (Nat.le_refl _) (.cells #[.int .i64 f.op, .int .i64 f.num, .string ⟨f.name.toArray⟩, .slice f.A f.n f.c] 25)
  have HX2 := Lib.hid (heap_alloc_new w2 (.cells #[.int .i64 f.op, .int .i64 f.num, .string ⟨f.name.toArray⟩, .slice f.A f.n f.c] 25))
  have HF2 : Hid (ExM (w2.alloc (.cells #[.int .i64 f.op, .int .i64 f.num, .string ⟨f.name.toArray⟩, .slice f.A f.n f.c] 25)) (fun _ => True) (vmE xs) f) := (hf.more fun _ _ => trivial).later hbx
  have HB2 := Lib.hid (below_two (below_two HB1.out hb2) hbx)
  unfold EF.val
  clear hf hb2 hbx HB1 HR1
  obtain ⟨v1, v2⟩ := vmE_ok (ng := 2) (nl := 1) (Nat.le_refl _) (Nat.le_refl _) xs
  obtain ⟨v3, -⟩ := vmE_ok (ng := 3) (nl := 2) (by omega) (by omega) xs
  generalize vmE xs = X at *
  have hs2 : (w2.alloc (.cells #[.int .i64 f.op, .int .i64 f.num, .string ⟨f.name.toArray⟩, .slice f.A f.n f.c] 25)).heap.size = w2.heap.size + 1 := by simp
  have HE := Lib.hid (lawEval_any _ _ hs2 X f a b c HF2.out v1 (by omega) ha hb hcc)
  have HF := Lib.hid (fun W hb' N (hN : W.heap.size = N) => lawEval3_any W N hN X f a b c d (HF2.out.later hb') v3 (by omega) ha hb hcc hdd)
  rw [evV_more a b c d X v1] at HF
  have HX3 := Lib.hid (fun W (hb' : Below (w2.alloc (.cells #[.int .i64 f.op, .int .i64 f.num, .string ⟨f.name.toArray⟩, .slice f.A f.n f.c] 25)).heap.size (w2.alloc (.cells #[.int .i64 f.op, .int .i64 f.num, .string ⟨f.name.toArray⟩, .slice f.A f.n f.c] 25)) W) => blk4 ((hb'.block w2.heap.size (by omega)).trans HX2.out))
  generalize evV [b, c] [a] X = R at *
  clear HX2 hs2
  go_wp2_with fail
  generalize hW : w2.alloc (.cells #[.int .i64 f.op, .int .i64 f.num, .string ⟨f.name.toArray⟩, .slice f.A f.n f.c] 25) = wx at *
  refine HE.out.mono ?_
  rintro e w3 ⟨rfl, hb3⟩
  obtain ⟨y0, y1, y2, y3, -⟩ := HX3.out w3 hb3
  have HB3 := Lib.hid (below_two HB2.out hb3)
  have HF3 := Lib.hid (HF.out w3 hb3 _ rfl)
  clear hW HE HX3 hb3 HB2 HF
  go_wp2_with fail
  refine HF3.out.mono ?_
  rintro e w4 ⟨rfl, hb4⟩
  have HB4 := Lib.hid (below_two HB3.out hb4)
  clear y0 y1 y2 y3 HB3 HF3 hb4
  go_wp2_with fail
  refine (awake7_any w4).mono ?_
  rintro e w5 ⟨rfl, hb5⟩
  have HB5 := Lib.hid (below_two HB4.out hb5)
  clear hb5 HB4
  go_wp2_with fail
  go_ret
  exact ⟨rfl, HB5.out⟩
end Go.Proofs.Ytiaonhpiiibkdaa
