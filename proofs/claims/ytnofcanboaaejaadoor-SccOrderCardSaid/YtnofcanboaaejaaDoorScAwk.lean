/- What the law's awake does. -/
import Derived.Test.YtnofcanboaaejaaDoorScPrj
namespace Go.Proofs.YtnofcanboaaejaaDoor
open Go.RowKit
set_option maxRecDepth 100000

def pA : List (List Int) := [[0, 1], [1, 0], [1, 2]]
theorem awkV : toI (Sc.compV (Sc.rch (clV 3) pA) (clV 3)) = [[0, 1], [2]] ∧ toI (Sc.cycV (Sc.rch (clV 3) pA) (clV 3)) = [[0, 1]] ∧ reV 3 pA 0 2 = true ∧ reV 3 pA 2 0 = false ∧ reV 3 pA 0 0 = true := by
  unfold reV
  rw [Sc.rch_pk]
  refine ⟨by decide +kernel, by decide +kernel, by decide +kernel, by decide +kernel, by decide +kernel⟩
theorem small_ok {xs : List Int} (h : (xs.all fun x => decide (0 ≤ x) && decide (x < 1000)) = true) : I64s xs := fun x hx => by
  have := List.all_eq_true.1 h x hx
  simp at this
  omega
def row2 (a b : Int) : Obj := .cells #[.int .i64 a, .int .i64 b] 3
/-- the three pairs of awake -/
theorem awk_pairs (w : World) : LiR ((((w.alloc (.cells #[.int .i64 0, .int .i64 1] 3)).alloc (.cells #[.int .i64 1, .int .i64 0] 3)).alloc (.cells #[.int .i64 1, .int .i64 2] 3)).alloc (.cells #[.slice (some ⟨w.heap.size, 0, none⟩) 2 2, .slice (some ⟨w.heap.size + 1, 0, none⟩) 2 2, .slice (some ⟨w.heap.size + 2, 0, none⟩) 2 2] 22)) (some ⟨w.heap.size + 3, 0, none⟩) pA := by
  refine lit_li _ _ (by simp) [([0, 1], some ⟨w.heap.size, 0, none⟩, 2), ([1, 0], some ⟨w.heap.size + 1, 0, none⟩, 2), ([1, 2], some ⟨w.heap.size + 2, 0, none⟩, 2)] _ ?_
  have h1 : IntR (w.alloc (.cells #[.int .i64 0, .int .i64 1] 3)) (some ⟨w.heap.size, 0, none⟩) [0, 1] := lit_int w _ rfl [0, 1] _ (small_ok rfl)
  have h2 : IntR ((w.alloc (.cells #[.int .i64 0, .int .i64 1] 3)).alloc (.cells #[.int .i64 1, .int .i64 0] 3)) (some ⟨w.heap.size + 1, 0, none⟩) [1, 0] := lit_int _ _ (by simp) [1, 0] _ (small_ok rfl)
  have h3 : IntR (((w.alloc (.cells #[.int .i64 0, .int .i64 1] 3)).alloc (.cells #[.int .i64 1, .int .i64 0] 3)).alloc (.cells #[.int .i64 1, .int .i64 2] 3)) (some ⟨w.heap.size + 2, 0, none⟩) [1, 2] := lit_int _ _ (by simp) [1, 2] _ (small_ok rfl)
  intro p hp
  simp only [List.mem_cons, List.not_mem_nil, or_false] at hp
  rcases hp with rfl | rfl | rfl
  · exact (h1.later ((Below.refl _ _).alloc (Nat.le_refl _) _)).later ((Below.refl _ _).alloc (Nat.le_refl _) _)
  · exact h2.later ((Below.refl _ _).alloc (Nat.le_refl _) _)
  · exact h3
theorem awk_two (w : World) : LiR (((w.alloc (.cells #[.int .i64 0, .int .i64 1] 3)).alloc (.cells #[.int .i64 2] 3)).alloc (.cells #[.slice (some ⟨w.heap.size, 0, none⟩) 2 2, .slice (some ⟨w.heap.size + 1, 0, none⟩) 1 1] 22)) (some ⟨w.heap.size + 2, 0, none⟩) [[0, 1], [2]] := by
  refine lit_li _ _ (by simp) [([0, 1], some ⟨w.heap.size, 0, none⟩, 2), ([2], some ⟨w.heap.size + 1, 0, none⟩, 1)] _ ?_
  have h1 : IntR (w.alloc (.cells #[.int .i64 0, .int .i64 1] 3)) (some ⟨w.heap.size, 0, none⟩) [0, 1] := lit_int w _ rfl [0, 1] _ (small_ok rfl)
  have h2 : IntR ((w.alloc (.cells #[.int .i64 0, .int .i64 1] 3)).alloc (.cells #[.int .i64 2] 3)) (some ⟨w.heap.size + 1, 0, none⟩) [2] := lit_int _ _ (by simp) [2] _ (small_ok rfl)
  intro p hp
  simp only [List.mem_cons, List.not_mem_nil, or_false] at hp
  rcases hp with rfl | rfl
  · exact h1.later ((Below.refl _ _).alloc (Nat.le_refl _) _)
  · exact h2
theorem awk_one (w : World) : LiR ((w.alloc (.cells #[.int .i64 0, .int .i64 1] 3)).alloc (.cells #[.slice (some ⟨w.heap.size, 0, none⟩) 2 2] 22)) (some ⟨w.heap.size + 1, 0, none⟩) [[0, 1]] := by
  refine lit_li _ _ (by simp) [([0, 1], some ⟨w.heap.size, 0, none⟩, 2)] _ ?_
  intro p hp
  simp only [List.mem_cons, List.not_mem_nil, or_false] at hp
  subst hp
  exact lit_int w _ rfl [0, 1] _ (small_ok rfl)
theorem LiP.of {w : World} {P Q : List (List Int)} {e : Ending} {w' : World} (h : LiP w P e w') (e2 : P = Q) : LiP w Q e w' := e2 ▸ h
theorem below_alc {w w' : World} (h : Below w.heap.size w w') (o : Obj) : Below w.heap.size w (w'.alloc o) := h.alloc h.size o
set_option maxHeartbeats 1000000 in
theorem awake21_any (w : World) (hT : TzT w) :
    Calls Tryd.prog 16 #[] w fun e w' => e = .returned (.bool true) ∧ Below w.heap.size w w' := by
  have HT := Lib.hid hT
  clear hT
  have HL := Lib.hid (awk_pairs w)
  have HB : Hid (Below w.heap.size w ((((w.alloc (.cells #[.int .i64 0, .int .i64 1] 3)).alloc (.cells #[.int .i64 1, .int .i64 0] 3)).alloc (.cells #[.int .i64 1, .int .i64 2] 3)).alloc (.cells #[.slice (some ⟨w.heap.size, 0, none⟩) 2 2, .slice (some ⟨w.heap.size + 1, 0, none⟩) 2 2, .slice (some ⟨w.heap.size + 2, 0, none⟩) 2 2] 22))) := below_alc (below_alc (below_alc (below_alc (Below.refl _ _) _) _) _) _
  go_enter Tryd.func16, Tryd.ntmps16
  go_wp2_with fail
  generalize ((((w.alloc (.cells #[.int .i64 0, .int .i64 1] 3)).alloc (.cells #[.int .i64 1, .int .i64 0] 3)).alloc (.cells #[.int .i64 1, .int .i64 2] 3)).alloc (.cells #[.slice (some ⟨w.heap.size, 0, none⟩) 2 2, .slice (some ⟨w.heap.size + 1, 0, none⟩) 2 2, .slice (some ⟨w.heap.size + 2, 0, none⟩) 2 2] 22)) = w1 at *
  generalize (some (⟨w.heap.size + 3, 0, none⟩ : Addr)) = A at *
  have HLW := Lib.hid (fun W (h : Below w1.heap.size w1 W) => HL.out.later h)
  have HTZ := Lib.hid (fun W (h : Below w1.heap.size w1 W) => HT.out.later (sc_two HB.out h))
  clear HL
  refine (sccComponents_any _ 3 _ pA _ (HTZ.out _ (Below.refl _ _)) (HLW.out _ (Below.refl _ _)) (by decide)).mono ?_
  rintro e w2 h
  obtain ⟨A2, c2, rfl, h1, h2⟩ := h.of awkV.1
  clear h
  have HX := Lib.hid h1
  have HBB := Lib.hid h2
  clear h1 h2
  go_wp2_with fail
  refine (sameLists_any _ _ _ [[0, 1], [2]] [[0, 1], [2]] _ _ (HX.out.later (below_alc (below_alc (below_alc (Below.refl _ _) _) _) _)) (awk_two w2) ⟨by decide, by decide⟩ ⟨by decide, by decide⟩).mono ?_
  rintro e w3 ⟨rfl, hd⟩
  have HB3 : Hid (Below w1.heap.size w1 w3) := sc_two (below_alc (below_alc (below_alc HBB.out _) _) _) hd.below
  clear HX HBB hd
  rw [show (([[0, 1], [2]] : List (List Int)) == [[0, 1], [2]]) = true from rfl]
  go_wp2_with fail
  refine (sccCyclic_any _ 3 _ pA _ (HTZ.out _ HB3.out) (HLW.out _ HB3.out) (by decide)).mono ?_
  rintro e w4 h
  obtain ⟨A4, c4, rfl, h1, h2⟩ := h.of awkV.2.1
  clear h
  have HX := Lib.hid h1
  have HB4 := Lib.hid (sc_two HB3.out h2)
  clear h1 h2 HB3
  go_wp2_with fail
  refine (sameLists_any _ _ _ [[0, 1]] [[0, 1]] _ _ (HX.out.later (below_alc (below_alc (Below.refl _ _) _) _)) (awk_one w4) ⟨by decide, by decide⟩ ⟨by decide, by decide⟩).mono ?_
  rintro e w5 ⟨rfl, hd⟩
  have HB5 : Hid (Below w1.heap.size w1 w5) := sc_two (below_alc (below_alc HB4.out _) _) hd.below
  clear HX HB4 hd
  rw [show (([[0, 1]] : List (List Int)) == [[0, 1]]) = true from rfl]
  go_wp2_with fail
  refine (sccReaches_any _ 3 0 2 _ pA _ (HTZ.out _ HB5.out) (HLW.out _ HB5.out) (by decide)).mono ?_
  rintro e w6 ⟨rfl, hb⟩
  have HB6 := Lib.hid (sc_two HB5.out hb)
  clear HB5 hb
  rw [awkV.2.2.1]
  go_wp2_with fail
  refine (sccReaches_any _ 3 2 0 _ pA _ (HTZ.out _ HB6.out) (HLW.out _ HB6.out) (by decide)).mono ?_
  rintro e w7 ⟨rfl, hb⟩
  have HB7 := Lib.hid (sc_two HB6.out hb)
  clear HB6 hb
  rw [awkV.2.2.2.1]
  go_wp2_with fail
  refine (sccReaches_any _ 3 0 0 _ pA _ (HTZ.out _ HB7.out) (HLW.out _ HB7.out) (by decide)).mono ?_
  rintro e w8 ⟨rfl, hb⟩
  have HB8 := Lib.hid (sc_two HB.out (sc_two HB7.out hb))
  clear HB7 hb
  rw [awkV.2.2.2.2]
  go_wp2_with fail
  go_ret
  exact ⟨rfl, HB8.out⟩
end Go.Proofs.YtnofcanboaaejaaDoor
