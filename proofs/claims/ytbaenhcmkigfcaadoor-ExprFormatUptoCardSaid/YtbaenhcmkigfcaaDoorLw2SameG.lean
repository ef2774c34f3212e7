/- The comparison of Parse with the reference answers true for every list of tokens in which no reserved word is a sign. -/
import Derived.Test.YtbaenhcmkigfcaaDoorLw2AwakeG
import Derived.Test.YtbaenhcmkigfcaaDoorGRfB
namespace Go.Proofs.YtbaenhcmkigfcaaDoor
open Go.RowKit

/-- the texts of the tokens can be counted -/
def TxOk (ts : List Tk.Tok) : Prop := ∀ k, (Ps.textAt ts k).length ≤ 1000000
theorem exB_fuel (ts : List Tk.Tok) (hX : TxOk ts) (f : Nat) : (∀ l o k y m, Ps.pE ts f l o k = .ok y m → ExB y) ∧ (∀ l o x k y m, ExB x → Ps.pC ts f l o x k = .ok y m → ExB y) ∧ (∀ o k y m, Ps.pO ts f o k = .ok y m → ExB y) := by
  induction f with
  | zero =>
    refine ⟨?_, ?_, ?_⟩
    · intro l o k y m h; rw [Ps.pE] at h; cases h
    · intro l o x k y m _ h; rw [Ps.pC] at h; cases h
    · intro o k y m h; rw [Ps.pO] at h; cases h
  | succ f ih =>
    obtain ⟨iE, iC, iO⟩ := ih
    refine ⟨?_, ?_, ?_⟩
    · intro l o k y m h
      rw [Ps.step_E] at h
      obtain ⟨x, k', h1, h2⟩ := Ps.bind_ok h
      exact iC _ _ _ _ _ _ (iO _ _ _ _ h1) h2
    · intro l o x k y m hx h
      rw [Ps.step_C] at h
      split at h
      · injection h with h _
        rw [← h]
        exact hx
      · obtain ⟨r, k', h1, h2⟩ := Ps.bind_ok h
        exact iC _ _ _ _ _ _ (ExB.two _ _ _ _ _ (by decide) hx (iE _ _ _ _ _ h1)) h2
    · intro o k y m h
      rw [Ps.step_O] at h
      split at h
      · injection h with h _
        rw [← h]
        exact ExB.leaf _ _ _ (by decide)
      split at h
      · injection h with h _
        rw [← h]
        exact ExB.leaf _ _ _ (Nat.le_trans (hX k) (by omega))
      split at h
      · cases h
      split at h
      · cases h
      split at h
      · obtain ⟨r, k', h1, h2⟩ := Ps.bind_ok h
        split at h2
        · injection h2 with h2 _
          rw [← h2]
          exact iE _ _ _ _ _ h1
        · cases h2
      · obtain ⟨r, k', h1, h2⟩ := Ps.bind_ok h
        injection h2 with h2 _
        rw [← h2]
        exact ExB.one _ _ _ _ (by decide) (iO _ _ _ _ h1)
theorem parseV_exB (ts : List Tk.Tok) (hX : TxOk ts) (a : Int) : ExB (parseV ts a).1 := by
  unfold parseV
  split
  · cases hR : Ps.PE ts 1 0 a.toNat with
    | bad m e => exact ExB.leaf _ _ _ (by decide)
    | ok x m => exact (exB_fuel ts hX _).1 _ _ _ _ _ hR
  · exact ExB.leaf _ _ _ (by decide)

set_option maxRecDepth 100000 in
set_option maxHeartbeats 4000000 in
theorem sameL_any (ts : List Tk.Tok) (A : Option Addr) (c : Nat) (at_ : Int) (w : World) (hT : TokS w A ts) (hS : SgT w) (hn : ts.length ≤ 1000000) (hat : -9223372036854775808 ≤ at_ ∧ at_ ≤ 9223372036854775807) (hW : WOk ts) (hX : TxOk ts) :
    Calls Tryd.prog 12 #[.slice A ts.length c, .int .i64 at_] w fun e w' => e = .returned (.bool true) ∧ Below w.heap.size w w' := by
  have HP := Lib.hid (parse_any ts A c at_ w hT hS hn hat)
  have HE := Lib.hid (fun W (hb : Below w.heap.size w W) => rexpr_any ts A c at_ W (hT.later hb) hn hW)
  have HX := Lib.hid (parseV_exB ts hX at_)
  obtain ⟨X, n0, e0, hV⟩ : ∃ X n0 e0, parseV ts at_ = (X, n0, e0) := ⟨_, _, _, rfl⟩
  rw [hV] at HP HE HX
  clear hV hT hS hat hW hX hn
  have t1 := bT (show n0 = n0 from rfl)
  have t2 := bT (show ((e0 : Nat) : Int) = e0 from rfl)
  go_enter Tryd.func12, Tryd.ntmps12
  go_wp2_with fail
  refine HP.out.mono ?_
  rintro e w1 ⟨f, rfl, hM, hb1⟩
  unfold EF.val
  dsimp only
  have HM : Hid (ExM w1 (fun _ => True) X f) := hM.more (fun _ _ => trivial)
  have HB1 := Lib.hid hb1
  clear hM hb1
  go_wp2_with fail
  refine (HE.out _ (HB1.out.alloc HB1.out.size _)).mono ?_
  rintro e w2 ⟨f', rfl, hM', hb2⟩
  unfold EF.val
  dsimp only
  have hx := (hb2.block w1.heap.size (by simp)).trans (heap_alloc_new w1 _)
  obtain ⟨x0, x1, x2, x3, -, -, -, -, xl⟩ := blk4 hx
  have hk : ∀ b, b < w1.heap.size → w2.heap[b]? = w1.heap[b]? := fun b hb => (hb2.block b (by simp; omega)).trans (Below.heap_alloc w1 _ b hb)
  have HM2 : Hid (ExM w2 (fun _ => True) X f) := HM.out.keep fun b _ hlt => hk b hlt
  have HM' : Hid (ExM w2 (fun _ => True) X f') := hM'.more (fun _ _ => trivial)
  have HB2 := Lib.hid (below_rev' hb2 (HB1.out.alloc HB1.out.size _))
  clear hM' hb2 hk hx HM
  go_wp2_with fail
  refine (sameE_any X f f' _ HX.out (HM2.out.later ((Below.refl _ _).alloc (Nat.le_refl _) _)) (HM'.out.later ((Below.refl _ _).alloc (Nat.le_refl _) _))).mono ?_
  rintro e w3 ⟨rfl, hb3⟩
  have HB3 := Lib.hid (below_rev' hb3 (HB2.out.alloc HB2.out.size _))
  clear hb3
  go_wp2_with fail
  go_ret
  exact ⟨rfl, HB3.out⟩
end Go.Proofs.YtbaenhcmkigfcaaDoor
