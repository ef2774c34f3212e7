/- What Expr of the made inputs returns: an expression with the stated Args, of the plain function madeG. -/
import Derived.Test.YtiaonhpiiibkdaaExWalkM
namespace Go.Proofs.Ytiaonhpiiibkdaa
open Go.RowKit

def nm3 : List (List UInt8) := [[97], [98], [120, 49]]
/-- the expression that is made of numbers -/
def madeG (xs : List Int) : Ex := (exprG nm3 (xs.take 100) (1 + nextV (xs.take 100) 0 5) (nextI (xs.take 100) 0)).1
/-- the slice at A holds the numbers xs, which fit -/
def IntR (w : World) (A : Option Addr) (xs : List Int) : Prop :=
  ∀ i (h : i < xs.length), ∃ b off, A = some ⟨b, off, none⟩ ∧ w.cell? ⟨b, off + i, none⟩ = some (.int .i64 xs[i]) ∧ -9223372036854775808 ≤ xs[i] ∧ xs[i] ≤ 9223372036854775807
theorem IntR.later {w w' : World} {A : Option Addr} {xs : List Int} (h : IntR w A xs) (hb : Below w.heap.size w w') : IntR w' A xs := by
  intro i hi
  obtain ⟨b, off, e, hc, r⟩ := h i hi
  exact ⟨b, off, e, cell_later hb hc, r⟩

set_option maxHeartbeats 1000000 in
theorem cut_any (xs : List Int) (A : Option Addr) (cap : Nat) (w : World) (hR : IntR w A xs) (hc : xs.length ≤ cap) (hm : xs.length ≤ 9223372036854775807) :
    Calls Try.prog 20 #[.slice A xs.length cap, .int .i64 100] w fun e w' => e = .returned (.slice A (xs.take 100).length cap) ∧ w = w' := by
  by_cases h : 100 < xs.length
  · obtain ⟨b, off, rfl, -⟩ := hR 0 (by omega)
    have HL : Hid ((xs.take 100).length = 100) := by show _ = _; simp; omega
    have hcap : 100 ≤ cap := by omega
    clear hR
    go_enter Try.func20, Try.ntmps20
    go_wp2
    go_ret
    exact ⟨by rw [HL.out]; rfl, rfl⟩
  · have HL : Hid ((xs.take 100).length = xs.length) := by show _ = _; simp; omega
    clear hR
    go_enter Try.func20, Try.ntmps20
    go_wp2
    go_ret
    exact ⟨by rw [HL.out]; rfl, rfl⟩

/-- what Expr leaves -/
def MadePost (w : World) (E : Ex) (e : Ending) (w' : World) : Prop :=
  ∃ num name A n c, e = .returned (.agg #[.int .i64 E.op, .int .i64 num, .string ⟨name.toArray⟩, .slice A n c]) ∧ ExM w' (w.heap.size ≤ ·) E ⟨E.op, num, name, A, n, c⟩ ∧ Below w.heap.size w w'

theorem made_src {w : World} {A : Option Addr} {xs : List Int} {cap : Nat} (hR : IntR w A xs) (hx : xs.length ≤ 1000) (Z N : Obj) :
    Src (((w.alloc Z).alloc (.cells #[.slice A xs.length cap, .int .i64 0] 49)).alloc N) (w.heap.size + 1) xs 0 := by
  have hk : ∀ b, b < w.heap.size → (((w.alloc Z).alloc (.cells #[.slice A xs.length cap, .int .i64 0] 49)).alloc N).heap[b]? = w.heap[b]? := fun b hb =>
    (Below.heap_alloc _ _ b (by simp; omega)).trans ((Below.heap_alloc _ _ b (by simp; omega)).trans (Below.heap_alloc w Z b hb))
  refine ⟨A, cap, ?_, by omega, hx, fun k hkk => ?_⟩
  · refine (Below.heap_alloc _ _ _ (by simp)).trans ?_
    have := heap_alloc_new (w.alloc Z) (.cells #[.slice A xs.length cap, .int .i64 0] 49)
    rw [show (w.alloc Z).heap.size = w.heap.size + 1 by simp] at this
    exact this
  · obtain ⟨b, off, e, hc, r⟩ := hR k hkk
    have hbl : b < w.heap.size := World.block_lt_of_cell? _ _ hc
    exact ⟨b, off, e, by omega, (World.cell?_of_block (hk b hbl)).trans hc, r⟩
theorem made_names (W : World) (g : Nat) (hg : g ≠ W.heap.size) : StrN (W.alloc (.cells #[.string ⟨#[97]⟩, .string ⟨#[98]⟩, .string ⟨#[120, 49]⟩] 9)) g (some ⟨W.heap.size, 0, none⟩) nm3 := by
  intro i hi
  refine ⟨W.heap.size, 0, rfl, fun e => hg e.symm, ?_⟩
  rw [Nat.zero_add, World.cell?_alloc_mark]
  have hi3 : i < 3 := hi
  have hc : i = 0 ∨ i = 1 ∨ i = 2 := by omega
  rcases hc with rfl | rfl | rfl <;> rfl

set_option maxRecDepth 100000 in
set_option maxHeartbeats 4000000 in
theorem madeExpr_any (xs : List Int) (A : Option Addr) (cap : Nat) (w : World) (hR : IntR w A xs) (hc : xs.length ≤ cap) (hm : xs.length ≤ 9223372036854775807) :
    Calls Try.prog 11 #[.slice A xs.length cap] w (MadePost w (madeG xs)) := by
  have hb0 : Below w.heap.size w (w.alloc (.cells #[.int .i64 0, .int .i64 0, .string ⟨#[]⟩, .slice none 0 0] 25)) := (Below.refl _ _).alloc (Nat.le_refl _) _
  have HCUT := Lib.hid (cut_any xs A cap _ (hR.later hb0) hc hm)
  have hR2 : IntR w A (xs.take 100) := fun i hi => by
    have h1 : i < xs.length := by simp at hi; omega
    obtain ⟨b, off, e, h2, r⟩ := hR i h1
    exact ⟨b, off, e, by simpa using h2, by simpa using r⟩
  have hx : (xs.take 100).length ≤ 1000 := by simp; omega
  have HG : Hid (madeG xs = (exprG nm3 (xs.take 100) (1 + nextV (xs.take 100) 0 5) (nextI (xs.take 100) 0)).1) := rfl
  clear hR hc hm hb0
  generalize xs.take 100 = ys at *
  have HSRC := Lib.hid (fun (Z N : Obj) => made_src (cap := cap) hR2 hx Z N)
  have hn5 := nextV_lt ys 0 5 (by omega)
  clear hR2
  go_enter Try.func11, Try.ntmps11
  go_wp2_with fail
  refine HCUT.out.mono ?_
  rintro e w1 ⟨rfl, rfl⟩
  go_wp2_with fail
  refine (next_any _ (w.heap.size + 1) ys 0 5 (HSRC.out _ _) (by omega) (by omega)).mono ?_
  rintro e w2 ⟨rfl, hS2, hG2⟩
  rw [show (5 : Int).toNat = 5 from rfl]
  have hW3 : (((w.alloc (.cells #[.int .i64 0, .int .i64 0, .string ⟨#[]⟩, .slice none 0 0] 25)).alloc (.cells #[.slice A ys.length cap, .int .i64 0] 49)).alloc (.cells #[.string ⟨#[97]⟩, .string ⟨#[98]⟩, .string ⟨#[120, 49]⟩] 9)).heap.size = w.heap.size + 3 := by simp
  have hN0 := made_names ((w.alloc (.cells #[.int .i64 0, .int .i64 0, .string ⟨#[]⟩, .slice none 0 0] 25)).alloc (.cells #[.slice A ys.length cap, .int .i64 0] 49)) (w.heap.size + 1) (by simp)
  rw [show ((w.alloc (.cells #[.int .i64 0, .int .i64 0, .string ⟨#[]⟩, .slice none 0 0] 25)).alloc (.cells #[.slice A ys.length cap, .int .i64 0] 49)).heap.size = w.heap.size + 2 by simp] at hN0
  have HN2 := Lib.hid (hN0.grown hG2)
  have HS2 := Lib.hid hS2
  have HG2 := Lib.hid hG2
  clear hS2 hG2 hN0
  generalize hk5 : nextV ys 0 5 = k at *
  clear hk5
  go_wp2_with fail
  have HX := Lib.hid (srcExpr_any nm3 ys (w.heap.size + 1) (some ⟨w.heap.size + 2, 0, none⟩) 3 (by decide) (1 + k) (nextI ys 0) w2 (by omega) HS2.out HN2.out)
  rw [show (((1 + k : Nat) : Nat) : Int) = 1 + (k : Int) by omega] at HX
  refine HX.out.mono ?_
  rintro e w3 ⟨f, rfl, hE, -, hG3⟩
  rw [← HG.out] at hE
  have hG := grown_trans HG2.out hG3
  have hr : w3.heap[w.heap.size]? = some (.cells #[.int .i64 0, .int .i64 0, .string ⟨#[]⟩, .slice none 0 0] 25 (0, 0)) := by
    refine (hG.block _ (by omega) (fun e => by injection e with e; omega)).trans ?_
    refine (Below.heap_alloc _ _ _ (by simp; omega)).trans ((Below.heap_alloc _ _ _ (by simp)).trans (heap_alloc_new w _))
  have hs2 := HG2.out.size
  have hB3 : Below w.heap.size w w3 := ⟨hG.os, hG.tape, hG.output, by have := hG.size; omega, fun b hb => (hG.block b (by omega) (fun e => by injection e with e; omega)).trans ((Below.heap_alloc _ _ b (by simp; omega)).trans ((Below.heap_alloc _ _ b (by simp; omega)).trans (Below.heap_alloc w _ b hb)))⟩
  obtain ⟨q0, q1, q2, q3, f0, f1, f2, f3, hl⟩ := blk4 hr
  have hop := hE.op_eq
  have HE : Hid (ExM w3 (w.heap.size < ·) (madeG xs) f) := hE.more fun b hb => by omega
  have HB3 := Lib.hid hB3
  clear hE hG hG3 hB3 hr hs2 HX HN2 HS2 HG2 HSRC HCUT
  obtain ⟨op, num, name, A', n', c'⟩ := f
  dsimp only at hop
  have HOP := Lib.hid hop
  clear hop
  unfold EF.val
  dsimp only
  go_wp2_with fail
  refine bodyPost_ret (v := .agg #[.int .i64 op, .int .i64 num, .string ⟨name.toArray⟩, .slice A' n' c']) (by simp [results, Try.results11, go_sem, q0, q1, q2, q3]) rfl ?_
  refine ⟨num, name, A', n', c', by rw [HOP.out], ?_, ?_⟩
  · rw [← HOP.out]
    exact (HE.out.keep fun b hb hlt => set4_keep w3 w.heap.size _ _ _ _ b (by omega)).more fun b hb => by omega
  · obtain ⟨s1, s2, s3⟩ := set4_os w3 w.heap.size (.int .i64 op) (.int .i64 num) (.string ⟨name.toArray⟩) (.slice A' n' c')
    have hb := HB3.out
    exact ⟨s1.trans hb.os, s2.trans hb.tape, s3.trans hb.output, by have := set4_size w3 w.heap.size (.int .i64 op) (.int .i64 num) (.string ⟨name.toArray⟩) (.slice A' n' c'); have := hb.size; show w.heap.size ≤ (set4 w3 w.heap.size (.int .i64 op) (.int .i64 num) (.string ⟨name.toArray⟩) (.slice A' n' c')).heap.size; omega, fun b hbb => (set4_keep w3 w.heap.size (.int .i64 op) (.int .i64 num) (.string ⟨name.toArray⟩) (.slice A' n' c') b (by omega)).trans (hb.block b hbb)⟩

/-- made expressions have the stated Args, short names, few parts -/
theorem exprG_ok (xs : List Int) (d : Nat) : ∀ i, ExOk (exprG nm3 xs d i).1 ∧ ExB (exprG nm3 xs d i).1 ∧ exCnt (exprG nm3 xs d i).1 < 2 ^ (d + 1) := by
  have leaf : ∀ i, ExOk (exprG.leafG nm3 xs i).1 ∧ ExB (exprG.leafG nm3 xs i).1 ∧ exCnt (exprG.leafG nm3 xs i).1 = 1 := by
    intro i
    unfold exprG.leafG
    split
    · refine ⟨.mk _ _ _ _ (by omega) (.inl ⟨.inr rfl, rfl⟩) (fun j hj => absurd hj (by simp)), .mk _ _ _ _ (by simp) ?_ (fun j hj => absurd hj (by simp)), by rw [exCnt]; rfl⟩
      generalize nextV xs (nextI xs i) nm3.length = k
      have : ∀ k, (nm3.getD k []).length ≤ 2 := fun k => by
        by_cases h : k < 3
        · have : ∀ k, k < 3 → (nm3.getD k []).length ≤ 2 := by decide
          exact this k h
        · rw [List.getD_eq_getElem?_getD, List.getElem?_eq_none (by show 3 ≤ k; omega)]
          simp
      have := this k
      omega
    · dsimp only
      have hn : ∀ j, (numG xs j).1 ≤ 4611686018427387904 := fun j => by
        unfold numG
        split
        · have := nextV_lt xs (nextI xs j) 4611686018427387904 (by omega)
          dsimp only
          omega
        · have := nextV_lt xs (nextI xs j) 4 (by omega)
          dsimp only
          omega
      refine ⟨.mk _ _ _ _ ?_ (.inl ⟨.inl rfl, rfl⟩) (fun j hj => absurd hj (by simp)), .mk _ _ _ _ (by simp) (by simp) (fun j hj => absurd hj (by simp)), by rw [exCnt]; rfl⟩
      have := hn (if 0 < nm3.length then nextI xs i else i)
      omega
  induction d with
  | zero =>
    intro i
    obtain ⟨h1, h2, h3⟩ := leaf (nextI xs i)
    have e : exprG nm3 xs 0 i = exprG.leafG nm3 xs (nextI xs i) := by rw [exprG]
    rw [e]
    exact ⟨h1, h2, by rw [h3]; omega⟩
  | succ d ih =>
    intro i
    have hp : 2 ^ (d + 1 + 1) = 2 * 2 ^ (d + 1) := by rw [Nat.pow_succ]; omega
    by_cases h2 : nextV xs i 10 < 2
    · rw [exprG_leaf nm3 xs d i h2]
      obtain ⟨h1, h3, h4⟩ := leaf (nextI xs i)
      have : 0 < 2 ^ (d + 1) := Nat.pow_pos (by omega)
      exact ⟨h1, h3, by omega⟩
    · by_cases h4 : nextV xs i 10 < 4
      · rw [exprG_un nm3 xs d i h2 h4]
        obtain ⟨a1, a2, a3⟩ := ih (nextI xs i)
        refine ⟨.mk _ _ _ _ (by omega) (.inr (.inl ⟨by omega, rfl⟩)) (fun j hj => ?_), .mk _ _ _ _ (by simp) (by simp) (fun j hj => ?_), ?_⟩
        · have : j = 0 := by simpa using hj
          subst this
          exact a1
        · have : j = 0 := by simpa using hj
          subst this
          exact a2
        · rw [exCnt, exCnts, exCnts]
          omega
      · rw [exprG_bin nm3 xs d i h2 h4]
        have hv := nextV_lt xs (nextI xs i) 13 (by omega)
        obtain ⟨a1, a2, a3⟩ := ih (nextI xs (nextI xs i))
        obtain ⟨b1, b2, b3⟩ := ih (exprG nm3 xs d (nextI xs (nextI xs i))).2
        refine ⟨.mk _ _ _ _ (by omega) (.inr (.inr ⟨by omega, by omega, rfl⟩)) (fun j hj => ?_), .mk _ _ _ _ (by simp) (by simp) (fun j hj => ?_), ?_⟩
        · have : j = 0 ∨ j = 1 := by simp at hj; omega
          rcases this with rfl | rfl
          · exact a1
          · exact b1
        · have : j = 0 ∨ j = 1 := by simp at hj; omega
          rcases this with rfl | rfl
          · exact a2
          · exact b2
        · rw [exCnt, exCnts, exCnts, exCnts]
          omega
theorem madeG_ok (xs : List Int) : ExOk (madeG xs) ∧ ExB (madeG xs) ∧ exCnt (madeG xs) ≤ 64 := by
  have hn5 := nextV_lt (xs.take 100) 0 5 (by omega)
  obtain ⟨h1, h2, h3⟩ := exprG_ok (xs.take 100) (1 + nextV (xs.take 100) 0 5) (nextI (xs.take 100) 0)
  refine ⟨h1, h2, ?_⟩
  have : 2 ^ (1 + nextV (xs.take 100) 0 5 + 1) ≤ 2 ^ 6 := Nat.pow_le_pow_right (by omega) (by omega)
  have h4 : exCnt (madeG xs) < 2 ^ (1 + nextV (xs.take 100) 0 5 + 1) := h3
  omega

end Go.Proofs.Ytiaonhpiiibkdaa
