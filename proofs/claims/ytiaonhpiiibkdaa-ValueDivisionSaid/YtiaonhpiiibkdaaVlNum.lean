/- What number and two of the laws of package value make. -/
import Derived.Test.YtiaonhpiiibkdaaVlSpec
import Derived.Test.YtiaonhpiiibkdaaVlRes
import Derived.Deep.RegionLaw
import Derived.RegionTactic
import Derived.Deep.RegionHeld3
namespace Go.Proofs.Ytiaonhpiiibkdaa
open Go.RowKit
set_option maxRecDepth 100000

/-- the expression of a number -/
def numE (n : Int) : Ex := if 0 ≤ n then .mk 1 n [] [] else .mk 9 0 [] [.mk 3 0 [] [.mk 1 (-(n + 1)) [] []], .mk 1 1 [] []]
def twoE (op a b : Int) : Ex := .mk op 0 [] [numE a, numE b]
theorem numE_ev (gs ls : List Int) (n : Int) (h : I64 n) : evV gs ls (numE n) = (n, 0) := by
  unfold numE
  unfold I64 at h
  split
  · rw [evV_mk]; unfold finV; rw [if_pos rfl]
  · simp only [evV_mk, evVs_cons, evVs_nil]
    simp [finV, opV]
    unfold wrap64
    omega
theorem numE_ok (ng nl : Nat) (n : Int) (h : I64 n) : RsOk ng nl (numE n) ∧ exCnt (numE n) ≤ 4 := by
  unfold numE
  have leaf : ∀ m, I64 m → RsOk ng nl (.mk 1 m [] []) := fun m hm => .mk _ _ _ _ hm (by simp) (.inl ⟨.inl rfl, rfl⟩) (fun j hj => absurd hj (by simp))
  unfold I64 at h
  split
  · refine ⟨leaf n h, ?_⟩
    rw [exCnt, exCnts]; omega
  · refine ⟨.mk _ _ _ _ (by omega) (by simp) (.inr (.inr ⟨by omega, by omega, rfl⟩)) (fun j hj => ?_), ?_⟩
    · have : j = 0 ∨ j = 1 := by simp at hj; omega
      rcases this with rfl | rfl
      · refine .mk _ _ _ _ (by omega) (by simp) (.inr (.inl ⟨.inl rfl, rfl⟩)) (fun i hi => ?_)
        have : i = 0 := by simpa using hi
        subst this
        exact leaf _ (by unfold I64; omega)
      · exact leaf 1 (by unfold I64; omega)
    · simp only [exCnt, exCnts]; omega
theorem twoE_ok (ng nl : Nat) (op a b : Int) (ho : 5 ≤ op ∧ op ≤ 17) (ha : I64 a) (hb : I64 b) : RsOk ng nl (twoE op a b) ∧ exCnt (twoE op a b) ≤ 9 := by
  obtain ⟨a1, a2⟩ := numE_ok ng nl a ha
  obtain ⟨b1, b2⟩ := numE_ok ng nl b hb
  unfold twoE
  refine ⟨.mk _ _ _ _ (by omega) (by simp) (.inr (.inr ⟨ho.1, ho.2, rfl⟩)) (fun j hj => ?_), ?_⟩
  · have : j = 0 ∨ j = 1 := by simp at hj; omega
    rcases this with rfl | rfl
    · exact a1
    · exact b1
  · rw [exCnt, exCnts, exCnts, exCnts]; omega
/-- the value of an operator of two numbers -/
def twoV (op a b : Int) : Int × Int := if (op = 6 ∨ op = 7) ∧ b = 0 then (0, 1) else (opV op a b, 0)
theorem twoE_ev (gs ls : List Int) (op a b : Int) (ho : 5 ≤ op ∧ op ≤ 17) (ha : I64 a) (hb : I64 b) : evV gs ls (twoE op a b) = twoV op a b := by
  unfold twoE
  rw [evV_mk, evVs_cons, evVs_cons, evVs_nil, numE_ev gs ls a ha, numE_ev gs ls b hb]
  unfold finV twoV
  rw [if_neg (by omega), if_neg (by omega), if_neg (by omega)]
  dsimp only
  rw [if_neg (by simp), if_neg (c := (0 : Int) ≠ 0) (by simp)]
  by_cases h16 : op = 16 ∧ a = 0
  · obtain ⟨rfl, rfl⟩ := h16
    simp [opV, trV]
  · rw [if_neg h16]
    by_cases h17 : op = 17 ∧ a ≠ 0
    · obtain ⟨rfl, h⟩ := h17
      simp [opV, trV, h]
    · rw [if_neg h17]

set_option maxHeartbeats 4000000 in
theorem number_any (n : Int) (w : World) (h : I64 n) : Calls Try.prog 17 #[.int .i64 n] w (ResPost w (numE n)) := by
  unfold I64 at h
  by_cases h0 : 0 ≤ n
  · have HV : Hid (numE n = .mk 1 n [] []) := by show _ = _; unfold numE; rw [if_pos h0]
    go_enter Try.func17, Try.ntmps17
    go_wp2
    refine bodyPost_ret (v := .agg #[.int .i64 1, .int .i64 n, .string ⟨#[]⟩, .slice none 0 0]) (by simp [results, Try.results17, go_sem]) rfl ?_
    refine ⟨⟨1, n, [], none, 0, 0⟩, rfl, ?_, (Below.refl _ _).alloc (Nat.le_refl _) _⟩
    rw [HV.out]
    exact ExM.leaf _ _ _ _ _ _ _
  · have HV : Hid (numE n = .mk 9 0 [] [.mk 3 0 [] [.mk 1 (-(n + 1)) [] []], .mk 1 1 [] []]) := by show _ = _; unfold numE; rw [if_neg h0]
    go_enter Try.func17, Try.ntmps17
    go_wp2
    refine bodyPost_ret (v := .agg #[.int .i64 9, .int .i64 0, .string ⟨#[]⟩, .slice (some ⟨w.heap.size + 1 + 1, 0, none⟩) 2 2]) (by simp [results, Try.results17, go_sem]) rfl ?_
    refine ⟨⟨9, 0, [], some ⟨w.heap.size + 2, 0, none⟩, 2, 2⟩, rfl, ?_, (((Below.refl _ _).alloc (Nat.le_refl _) _).alloc (by simp) _).alloc (by simp; omega) _⟩
    rw [HV.out]
    generalize hA0 : w.alloc (.cells #[.int .i64 9, .int .i64 0, .string ⟨#[]⟩, .slice (some ⟨w.heap.size + 1 + 1, 0, none⟩) 2 2] 25) = wa
    have hsa : wa.heap.size = w.heap.size + 1 := by rw [← hA0]; simp
    have e1 := heap_alloc_new wa (.cells #[.int .i64 1, .int .i64 (-(n + 1)), .string ⟨#[]⟩, .slice none 0 0] 25)
    have e2 := heap_alloc_new (wa.alloc (.cells #[.int .i64 1, .int .i64 (-(n + 1)), .string ⟨#[]⟩, .slice none 0 0] 25)) (.cells #[.int .i64 3, .int .i64 0, .string ⟨#[]⟩, .slice (some ⟨w.heap.size + 1, 0, none⟩) 1 1, .int .i64 1, .int .i64 1, .string ⟨#[]⟩, .slice none 0 0] 25)
    have e1' := (Below.heap_alloc (wa.alloc (.cells #[.int .i64 1, .int .i64 (-(n + 1)), .string ⟨#[]⟩, .slice none 0 0] 25)) (.cells #[.int .i64 3, .int .i64 0, .string ⟨#[]⟩, .slice (some ⟨w.heap.size + 1, 0, none⟩) 1 1, .int .i64 1, .int .i64 1, .string ⟨#[]⟩, .slice none 0 0] 25) wa.heap.size (by simp)).trans e1
    have hsb : (wa.alloc (.cells #[.int .i64 1, .int .i64 (-(n + 1)), .string ⟨#[]⟩, .slice none 0 0] 25)).heap.size = w.heap.size + 2 := by simp [hsa]
    rw [hsb] at e2
    rw [hsa] at e1'
    clear hA0 HV e1 hsa hsb
    generalize (wa.alloc (.cells #[.int .i64 1, .int .i64 (-(n + 1)), .string ⟨#[]⟩, .slice none 0 0] 25)).alloc (.cells #[.int .i64 3, .int .i64 0, .string ⟨#[]⟩, .slice (some ⟨w.heap.size + 1, 0, none⟩) 1 1, .int .i64 1, .int .i64 1, .string ⟨#[]⟩, .slice none 0 0] 25) = wb at *
    obtain ⟨a0, a1, a2, a3, -⟩ := blk4 e1'
    have q : ∀ j, wb.cell? ⟨w.heap.size + 2, j, none⟩ = _ := fun j => cell_of_row wb (w.heap.size + 2) j _ _ _ e2
    exact ExM.two (f := ⟨3, 0, [], some ⟨w.heap.size + 1, 0, none⟩, 1, 1⟩) (f' := ⟨1, 1, [], none, 0, 0⟩) 9 0 [] (w.heap.size + 2) 0 2 (by omega) ⟨q 0, q 1, q 2, q 3⟩ ⟨q 4, q 5, q 6, q 7⟩
      (ExM.one (f := ⟨1, -(n + 1), [], none, 0, 0⟩) 3 0 [] (w.heap.size + 1) 0 1 (by omega) ⟨a0, a1, a2, a3⟩ (ExM.leaf _ _ _ _ _ _ _)) (ExM.leaf _ _ _ _ _ _ _)

/-- what two leaves -/
theorem two_end {w w1 w2 : World} {op a b : Int} {f f' : EF} (hs1 : w.heap.size + 1 ≤ w1.heap.size) (hs2 : w1.heap.size ≤ w2.heap.size) (hblk : w2.heap[w.heap.size]? = some (.cells #[.int .i64 0, .int .i64 0, .string ⟨#[]⟩, .slice none 0 0] 25 (0, 0)))
    (h1 : ExM w2 (fun b => w.heap.size + 1 ≤ b) (numE a) f) (h2 : ExM w2 (fun b => w.heap.size + 1 ≤ b) (numE b) f') (hb : Below w.heap.size w w2) :
    ((set4 w2 w.heap.size (.int .i64 op) (.int .i64 0) (.string ⟨#[]⟩) (.slice (some ⟨w2.heap.size, 0, none⟩) 2 2)).alloc (.cells #[.int .i64 f.op, .int .i64 f.num, .string ⟨f.name.toArray⟩, .slice f.A f.n f.c, .int .i64 f'.op, .int .i64 f'.num, .string ⟨f'.name.toArray⟩, .slice f'.A f'.n f'.c] 25)).heap[w.heap.size]? = some (.cells #[.int .i64 op, .int .i64 0, .string ⟨#[]⟩, .slice (some ⟨w2.heap.size, 0, none⟩) 2 2] 25 (0, 0)) ∧
    ExM ((set4 w2 w.heap.size (.int .i64 op) (.int .i64 0) (.string ⟨#[]⟩) (.slice (some ⟨w2.heap.size, 0, none⟩) 2 2)).alloc (.cells #[.int .i64 f.op, .int .i64 f.num, .string ⟨f.name.toArray⟩, .slice f.A f.n f.c, .int .i64 f'.op, .int .i64 f'.num, .string ⟨f'.name.toArray⟩, .slice f'.A f'.n f'.c] 25)) (w.heap.size ≤ ·) (twoE op a b) ⟨op, 0, [], some ⟨w2.heap.size, 0, none⟩, 2, 2⟩ ∧
    Below w.heap.size w ((set4 w2 w.heap.size (.int .i64 op) (.int .i64 0) (.string ⟨#[]⟩) (.slice (some ⟨w2.heap.size, 0, none⟩) 2 2)).alloc (.cells #[.int .i64 f.op, .int .i64 f.num, .string ⟨f.name.toArray⟩, .slice f.A f.n f.c, .int .i64 f'.op, .int .i64 f'.num, .string ⟨f'.name.toArray⟩, .slice f'.A f'.n f'.c] 25)) := by
  have hsz := set4_size w2 w.heap.size (.int .i64 op) (.int .i64 0) (.string ⟨#[]⟩) (.slice (some ⟨w2.heap.size, 0, none⟩) 2 2)
  have h4 := set4_at hblk (.int .i64 op) (.int .i64 0) (.string ⟨#[]⟩) (.slice (some ⟨w2.heap.size, 0, none⟩) 2 2)
  have hk : ∀ b, b ≠ w.heap.size → (set4 w2 w.heap.size (.int .i64 op) (.int .i64 0) (.string ⟨#[]⟩) (.slice (some ⟨w2.heap.size, 0, none⟩) 2 2)).heap[b]? = w2.heap[b]? := fun b hb => set4_keep _ _ _ _ _ _ b hb
  obtain ⟨o1, o2, o3⟩ := set4_os w2 w.heap.size (.int .i64 op) (.int .i64 0) (.string ⟨#[]⟩) (.slice (some ⟨w2.heap.size, 0, none⟩) 2 2)
  generalize set4 w2 w.heap.size (.int .i64 op) (.int .i64 0) (.string ⟨#[]⟩) (.slice (some ⟨w2.heap.size, 0, none⟩) 2 2) = w4 at *
  have hn := heap_alloc_new w4 (.cells #[.int .i64 f.op, .int .i64 f.num, .string ⟨f.name.toArray⟩, .slice f.A f.n f.c, .int .i64 f'.op, .int .i64 f'.num, .string ⟨f'.name.toArray⟩, .slice f'.A f'.n f'.c] 25)
  have hal : ∀ b, b < w2.heap.size → (w4.alloc (.cells #[.int .i64 f.op, .int .i64 f.num, .string ⟨f.name.toArray⟩, .slice f.A f.n f.c, .int .i64 f'.op, .int .i64 f'.num, .string ⟨f'.name.toArray⟩, .slice f'.A f'.n f'.c] 25)).heap[b]? = w4.heap[b]? := fun b hb => Below.heap_alloc _ _ b (by omega)
  have hsa : (w4.alloc (.cells #[.int .i64 f.op, .int .i64 f.num, .string ⟨f.name.toArray⟩, .slice f.A f.n f.c, .int .i64 f'.op, .int .i64 f'.num, .string ⟨f'.name.toArray⟩, .slice f'.A f'.n f'.c] 25)).heap.size = w4.heap.size + 1 := by simp
  have hoo : ∀ o, (w4.alloc o).os = w4.os ∧ (w4.alloc o).tape = w4.tape ∧ (w4.alloc o).output = w4.output := fun o => ⟨rfl, rfl, rfl⟩
  obtain ⟨p1, p2, p3⟩ := hoo (.cells #[.int .i64 f.op, .int .i64 f.num, .string ⟨f.name.toArray⟩, .slice f.A f.n f.c, .int .i64 f'.op, .int .i64 f'.num, .string ⟨f'.name.toArray⟩, .slice f'.A f'.n f'.c] 25)
  clear hoo
  rw [hsz] at hn
  generalize w4.alloc (.cells #[.int .i64 f.op, .int .i64 f.num, .string ⟨f.name.toArray⟩, .slice f.A f.n f.c, .int .i64 f'.op, .int .i64 f'.num, .string ⟨f'.name.toArray⟩, .slice f'.A f'.n f'.c] 25) = w5 at *
  refine ⟨(hal _ (by omega)).trans h4, ?_, ⟨p1.trans (o1.trans hb.os), p2.trans (o2.trans hb.tape), p3.trans (o3.trans hb.output), by have := hb.size; omega, fun b hbb => (hal b (by omega)).trans ((hk b (by omega)).trans (hb.block b hbb))⟩⟩
  have q : ∀ j, w5.cell? ⟨w2.heap.size, j, none⟩ = _ := fun j => cell_of_row w5 w2.heap.size j _ _ _ hn
  have keep : ∀ {E g}, ExM w2 (fun b => w.heap.size + 1 ≤ b) E g → ExM w5 (w.heap.size ≤ ·) E g := fun h => (h.keep (fun b hb hlt => (hal b hlt).trans (hk b (by omega)))).more fun b hb => by omega
  exact ExM.two op 0 [] w2.heap.size 0 2 (by omega) ⟨q 0, q 1, q 2, q 3⟩ ⟨q 4, q 5, q 6, q 7⟩ (keep h1) (keep h2)

set_option maxHeartbeats 4000000 in
theorem two_any (op a b : Int) (w : World) (ha : I64 a) (hb : I64 b) : Calls Try.prog 16 #[.int .i64 op, .int .i64 a, .int .i64 b] w (ResPost w (twoE op a b)) := by
  have HA := Lib.hid (fun W => number_any a W ha)
  have HB := Lib.hid (fun W => number_any b W hb)
  clear ha hb
  go_enter Try.func16, Try.ntmps16
  go_wp2_with fail
  refine (HA.out _).mono ?_
  rintro e w1 ⟨f, rfl, hf, hb1⟩
  unfold EF.val
  have HF := Lib.hid hf
  have HB1 := Lib.hid hb1
  clear hf hb1
  go_wp2_with fail
  refine (HB.out _).mono ?_
  rintro e w2 ⟨f', rfl, hf', hb2⟩
  have hs1 : w.heap.size + 1 ≤ w1.heap.size := by have := HB1.out.size; simp at this; omega
  have hs2 := hb2.size
  have hblk : w2.heap[w.heap.size]? = some (.cells #[.int .i64 0, .int .i64 0, .string ⟨#[]⟩, .slice none 0 0] 25 (0, 0)) := (hb2.block _ (by omega)).trans ((HB1.out.block _ (by simp)).trans (heap_alloc_new w _))
  obtain ⟨r0, r1, r2, r3, g0, g1, g2, g3, hz⟩ := blk4 hblk
  have HF1 : Hid (ExM w2 (fun b => w.heap.size + 1 ≤ b) (numE a) f) := (HF.out.later hb2).more fun b hb => by simp at hb; omega
  have HF2 : Hid (ExM w2 (fun b => w.heap.size + 1 ≤ b) (numE b) f') := hf'.more fun b hb => by omega
  have HB2 := Lib.hid (below_two ((Below.refl w.heap.size w).alloc (Nat.le_refl _) (.cells #[.int .i64 0, .int .i64 0, .string ⟨#[]⟩, .slice none 0 0] 25)) (HB1.out.trans (hb2.mono HB1.out.size)))
  unfold EF.val
  clear HF hf' HB1 hb2 HA HB
  go_wp2_with fail
  have HTB := Lib.hid (two_end (w := w) (op := op) hs1 hs2 hblk HF1.out HF2.out HB2.out)
  obtain ⟨c0, c1, c2, c3, -⟩ := blk4 HTB.out.1
  unfold set4 at c0 c1 c2 c3
  refine bodyPost_ret (v := .agg #[.int .i64 op, .int .i64 0, .string ⟨#[]⟩, .slice (some ⟨w2.heap.size, 0, none⟩) 2 2]) (by simp only [results, Try.results16]; simp [go_sem, c0, c1, c2, c3]) rfl ?_
  exact ⟨⟨op, 0, [], some ⟨w2.heap.size, 0, none⟩, 2, 2⟩, rfl, HTB.out.2.1, HTB.out.2.2⟩
end Go.Proofs.Ytiaonhpiiibkdaa
