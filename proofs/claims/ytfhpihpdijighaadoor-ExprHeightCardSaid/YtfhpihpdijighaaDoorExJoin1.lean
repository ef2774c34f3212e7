/- What pieces of package expr returns. -/
import Derived.Test.YtfhpihpdijighaaDoorExJoin0
import Derived.Deep.RegionHeld3
namespace Go.Proofs.YtfhpihpdijighaaDoor
open Go.RowKit

/-- the pieces of an expression -/
def pcsOf (op : Int) (name : List UInt8) (args : List Ex) (F : Nat → EF) : List Pc :=
  match args with
  | [] => [pcStr name]
  | [a] => [pcStr (Ps.sgTab.getD op.toNat [])] ++ argPc op 0 a (F 0)
  | a :: b :: _ => (argPc op 0 a (F 0) ++ [pcStr (32 :: (Ps.sgTab.getD op.toNat [] ++ [32]))]) ++ argPc op 1 b (F 1)

theorem argPc_len (op : Int) (k : Nat) (x : Ex) (f : EF) : 1 ≤ (argPc op k x f).length ∧ (argPc op k x f).length ≤ 3 := by
  unfold argPc
  split <;> simp
/-- what an append of pieces leaves -/
theorem pc_app {w W w5 : World} {l m : List Pc} {v : Value} {gg cap : Nat} (hw : Below w.heap.size w W) (ho : W.ownsRow w.heap.size 78 5 v l.length (pcCells l)) (hown : w5.ownsRow w.heap.size 78 5 (.slice (some ⟨gg, 0, none⟩) (l.length + m.length) cap) (l.length + m.length) (pcCells l ++ pcCells m)) (hg : W.grownBy w5 v.ownBlock) :
    PcPost w (l ++ m) (.returned (.slice (some ⟨gg, 0, none⟩) (l.length + m.length) cap)) w5 := by
  rw [← pcCells_app] at hown
  have hl : (l ++ m).length = l.length + m.length := List.length_append
  refine ⟨gg, cap, by rw [hl], by rw [hl]; exact hown, ?_⟩
  exact hw.grown hg hw.size (fun k hk => (owns_block ho k hk).1)
theorem own_le {w : World} {base base' size n : Nat} {e : TypeId} {v : Value} {xs : List Value} (h : w.ownsRow base e size v n xs) (hb : base' ≤ base) : w.ownsRow base' e size v n xs := by
  obtain ⟨hl, h⟩ := h
  refine ⟨hl, ?_⟩
  rcases h with h | ⟨g, cap, cur, e1, e2, rest⟩
  · exact .inl h
  · exact .inr ⟨g, cap, cur, e1, Nat.le_trans hb e2, rest⟩
theorem own_cells {w : World} {base : Nat} {l : List Pc} {g c : Nat} (h : w.ownsRow base 78 5 (.slice (some ⟨g, 0, none⟩) l.length c) l.length (pcCells l)) : ∀ j u, (pcCells l)[j]? = some u → w.cell? ((⟨g, 0, none⟩ : Addr).add j) = some u := h.cells rfl

set_option maxRecDepth 100000 in
set_option maxHeartbeats 4000000 in
theorem piecesU_any (w : World) (opn : Nat) (num : Int) (name : List UInt8) (b off n c : Nat) (x : Ex) (f : EF) (hop : opn = 3 ∨ opn = 4) (hn1 : 1 ≤ n) (hn : n ≤ 1000000) (hat : EFat w b off f) (hx : f.op = x.op) (hS : SgT w) :
    Calls Tryd.prog 51 #[.agg #[.int .i64 (opn : Int), .int .i64 num, .string ⟨name.toArray⟩, .slice (some ⟨b, off, none⟩) n c]] w (PcPost w ([pcStr (Ps.sgTab.getD opn [])] ++ argPc (opn : Int) 0 x f)) := by
  obtain ⟨i0, hi, hz0, hz1, hz2⟩ := info_parts Tryd.infoPc
  have hb0 : Below w.heap.size w (w.alloc (.cells #[.int .i64 (opn : Int), .int .i64 num, .string ⟨name.toArray⟩, .slice (some ⟨b, off, none⟩) n c] 38)) := (Below.refl _ _).alloc (Nat.le_refl _) _
  have hol : opn < Ps.sgTab.length := by have : Ps.sgTab.length = 18 := rfl; omega
  have hg := hS opn hol
  have hgl := hS.lt
  have hsg : Ps.sgTab.getD opn [] = Ps.sgTab[opn] := by simp [List.getD, List.getElem?_eq_getElem hol]
  rw [← hsg] at hg
  have HARG : Hid (∀ W, Below w.heap.size w W → Calls Tryd.prog 69 #[.agg #[.int .i64 (opn : Int), .int .i64 num, .string ⟨name.toArray⟩, .slice (some ⟨b, off, none⟩) n c], .int .i64 0] W (PcPost W (argPc (opn : Int) 0 x f))) := fun W hb => argument_any W (opn : Int) num name _ n c b off 0 x f rfl (by omega) hn (by rw [Nat.zero_mul, Nat.add_zero]; exact hat.keep (hb.block b hat.lt)) hx
  have hal := argPc_len (opn : Int) 0 x f
  have HU : Hid (unB (opn : Int) = true) := by
    show unB _ = true
    rcases hop with rfl | rfl <;> rfl
  have t1 := bF (show ((opn : Nat) : Int) ≠ 1 by omega)
  have t2 := bF (show ((opn : Nat) : Int) ≠ 2 by omega)
  have o0 : (0 : Int) ≤ (opn : Int) := by omega
  have o1 : (opn : Int) < 18 := by omega
  have o2 : opn < 18 := by omega
  have hcc : (w.alloc (.cells #[.int .i64 (opn : Int), .int .i64 num, .string ⟨name.toArray⟩, .slice (some ⟨b, off, none⟩) n c] 38)).cell? ⟨0, opn, none⟩ = some (.string ⟨(Ps.sgTab.getD opn []).toArray⟩) := (World.cell?_alloc_lt _ _ _ hgl).trans hg
  have HB0 := Lib.hid hb0
  clear hb0 hat hx hS hop hsg hol hg
  generalize Ps.sgTab.getD opn [] = sg at *
  generalize argPc (opn : Int) 0 x f = AL at *
  go_enter Tryd.func51, Tryd.ntmps51
  go_wp2_with fail
  refine (isUnary_any _ _).mono ?_
  rintro e w1 ⟨rfl, rfl⟩
  rw [HU.out]
  go_wp2_with fail
  have HRA : Hid (∀ w3, Below ((w.alloc (.cells #[.int .i64 (opn : Int), .int .i64 num, .string ⟨name.toArray⟩, .slice (some ⟨b, off, none⟩) n c] 38)).alloc (.cells #[.string ⟨sg.toArray⟩, .int .i64 0, .int .i64 0, .string ⟨#[]⟩, .slice none 0 0] 78)).drew.heap.size ((w.alloc (.cells #[.int .i64 (opn : Int), .int .i64 num, .string ⟨name.toArray⟩, .slice (some ⟨b, off, none⟩) n c] 38)).alloc (.cells #[.string ⟨sg.toArray⟩, .int .i64 0, .int .i64 0, .string ⟨#[]⟩, .slice none 0 0] 78)).drew w3 → w3.ownsRow w.heap.size 78 5 (.slice (some ⟨w.heap.size + 1, 0, none⟩) 1 1) 1 (pcCells [pcStr sg])) := fun w3 h => by
    have h1 := World.ownsRow_lit (base := w.heap.size) (e := 78) (size := 5) (w.alloc (.cells #[.int .i64 (opn : Int), .int .i64 num, .string ⟨name.toArray⟩, .slice (some ⟨b, off, none⟩) n c] 38)) #[.string ⟨sg.toArray⟩, .int .i64 0, .int .i64 0, .string ⟨#[]⟩, .slice none 0 0] 1 (by simp) (by unfold maxLen; omega) (by simp)
    rw [show (w.alloc (.cells #[.int .i64 (opn : Int), .int .i64 num, .string ⟨name.toArray⟩, .slice (some ⟨b, off, none⟩) n c] 38)).heap.size = w.heap.size + 1 by simp] at h1
    exact owns_later h1.drew h
  have HRB : Hid (∀ w3 : World, w.heap.size ≤ w3.heap.size → (w3.alloc (.cells #[.string ⟨sg.toArray⟩, .int .i64 0, .int .i64 0, .string ⟨#[]⟩, .slice none 0 0] 78)).ownsRow w.heap.size 78 5 (.slice (some ⟨w3.heap.size, 0, none⟩) 1 1) 1 (pcCells [pcStr sg])) := fun w3 h =>
    World.ownsRow_lit (base := w.heap.size) (e := 78) (size := 5) w3 #[.string ⟨sg.toArray⟩, .int .i64 0, .int .i64 0, .string ⟨#[]⟩, .slice none 0 0] 1 h (by unfold maxLen; omega) (by simp)
  go_region_held3 (fun w' => w'.cell? ⟨w.heap.size, 0, none⟩ = some (.int .i64 (opn : Int)) ∧ w'.cell? ⟨w.heap.size, 1, none⟩ = some (.int .i64 num) ∧ w'.cell? ⟨w.heap.size, 2, none⟩ = some (.string ⟨name.toArray⟩) ∧ w'.cell? ⟨w.heap.size, 3, none⟩ = some (.slice (some ⟨b, off, none⟩) n c) ∧ w'.cell? ⟨0, opn, none⟩ = some (.string ⟨sg.toArray⟩))
    (first | go_keep | (go_split_ands; refine ⟨?_, ?_, ?_, ?_, ?_⟩ <;> (rw [hgrow.cell_far _ (by simp <;> omega) (by simp [Value.ownBlock] <;> omega)]; simp [*]; done)))
    (first
      | (go_at_call 69; obtain ⟨k0, k1, k2, k3, kc⟩ := ‹_ ∧ _ ∧ _ ∧ _ ∧ World.cell? _ ⟨0, opn, none⟩ = _›; refine (HARG.out _ (by first | exact HB0.out.drew | exact (HB0.out.alloc (by simp) _).drew | exact HB0.out.drew.alloc (by simp) _)).mono ?_; rintro e w3 ⟨g2, cc2, rfl, hown2, hb3⟩; have r0 := cell_later hb3 k0; have r1 := cell_later hb3 k1; have r2 := cell_later hb3 k2; have r3 := cell_later hb3 k3; have rc := cell_later hb3 kc; have hws : w.heap.size + 1 ≤ w3.heap.size := (by have := hb3.size; simp at this; omega); have HBW := Lib.hid (below_rev' hb3 (by first | exact HB0.out.drew | exact (HB0.out.alloc (by simp) _).drew)); have HO2 := Lib.hid hown2; have HB3 := Lib.hid hb3; clear k0 k1 k2 k3 kc hown2 hb3)
      | (refine step_append_lies _ (by rfl) _ _ _ (by rfl) w.heap.size 78 i0 _ 5 72 Tryd.underlying79 hi hz0 hz1 hz2 rfl (by omega) (.slice (some ⟨w.heap.size + 1, 0, none⟩) 1 1) 1 (pcCells [pcStr sg]) (by rfl) (HRA.out _ HB3.out) ⟨g2, 0, none⟩ AL.length cc2 (pcCells AL) (by rfl) (pcCells_len AL) (own_cells HO2.out) (pcCells_one AL) (by omega) (by unfold maxLen; omega) (by omega) (by omega) w3.heap.size rfl ?_; intro gg cap5 w5 hown5 hgrow hat5 hlt5)
      | (refine step_append_lies _ (by rfl) _ _ _ (by rfl) w.heap.size 78 i0 _ 5 72 Tryd.underlying79 hi hz0 hz1 hz2 rfl (by omega) (.slice (some ⟨w3.heap.size, 0, none⟩) 1 1) 1 (pcCells [pcStr sg]) (by rfl) (HRB.out w3 (by omega)) ⟨g2, 0, none⟩ AL.length cc2 (pcCells AL) (by rfl) (pcCells_len AL) (own_cells (HO2.out.alloc _)) (pcCells_one AL) (by omega) (by unfold maxLen; omega) (by omega) (by simp; omega) (w3.heap.size + 1) (by simp) ?_; intro gg cap5 w5 hown5 hgrow hat5 hlt5))
  all_goals
    clear r0 r1 r2 r3 rc
    go_wp2_with fail
    go_ret
    first
      | exact pc_app (l := [pcStr sg]) (m := AL) HBW.out (HRA.out _ HB3.out) hown5 hgrow
      | exact pc_app (l := [pcStr sg]) (m := AL) (HBW.out.alloc (by omega) _) (HRB.out w3 (by omega)) hown5 hgrow

theorem run_addP (a b : List UInt8) (h : a.length + b.length ≤ 4000000000) (w : World) : (Op.stringOp .add ⟨a.toArray⟩ ⟨b.toArray⟩).run Tryd.prog w = .ok (.string ⟨(a ++ b).toArray⟩) w := by
  rw [run_string_add_sum _ _ _ (by simp [ByteArray.size]; omega), bapp]
theorem sgTab_len (k : Nat) : (Ps.sgTab.getD k []).length ≤ 2 := by
  by_cases h : k < 18
  · have : ∀ k, k < 18 → (Ps.sgTab.getD k []).length ≤ 2 := by decide
    exact this k h
  · rw [List.getD_eq_getElem?_getD, List.getElem?_eq_none (by show 18 ≤ k; omega)]
    simp

set_option maxRecDepth 100000 in
set_option maxHeartbeats 8000000 in
theorem piecesB_any (w : World) (opn : Nat) (num : Int) (name : List UInt8) (b off n c : Nat) (x y : Ex) (f f' : EF) (hop : 5 ≤ opn ∧ opn ≤ 17) (hn1 : 2 ≤ n) (hn : n ≤ 1000000) (hat : EFat w b off f) (hat' : EFat w b (off + 4) f') (hx : f.op = x.op) (hy : f'.op = y.op) (hS : SgT w) :
    Calls Tryd.prog 51 #[.agg #[.int .i64 (opn : Int), .int .i64 num, .string ⟨name.toArray⟩, .slice (some ⟨b, off, none⟩) n c]] w (PcPost w ((argPc (opn : Int) 0 x f ++ [pcStr (32 :: (Ps.sgTab.getD opn [] ++ [32]))]) ++ argPc (opn : Int) 1 y f')) := by
  obtain ⟨i0, hi, hz0, hz1, hz2⟩ := info_parts Tryd.infoPc
  have hb0 : Below w.heap.size w (w.alloc (.cells #[.int .i64 (opn : Int), .int .i64 num, .string ⟨name.toArray⟩, .slice (some ⟨b, off, none⟩) n c] 38)) := (Below.refl _ _).alloc (Nat.le_refl _) _
  have hol : opn < Ps.sgTab.length := by have : Ps.sgTab.length = 18 := rfl; omega
  have hg := hS opn hol
  have hgl := hS.lt
  have hsg : Ps.sgTab.getD opn [] = Ps.sgTab[opn] := by simp [List.getD, List.getElem?_eq_getElem hol]
  rw [← hsg] at hg
  have HARG : Hid (∀ W, Below w.heap.size w W → Calls Tryd.prog 69 #[.agg #[.int .i64 (opn : Int), .int .i64 num, .string ⟨name.toArray⟩, .slice (some ⟨b, off, none⟩) n c], .int .i64 0] W (PcPost W (argPc (opn : Int) 0 x f))) := fun W hb => argument_any W (opn : Int) num name _ n c b off 0 x f rfl (by omega) hn (by rw [Nat.zero_mul, Nat.add_zero]; exact hat.keep (hb.block b hat.lt)) hx
  have HARG1 : Hid (∀ W, Below w.heap.size w W → Calls Tryd.prog 69 #[.agg #[.int .i64 (opn : Int), .int .i64 num, .string ⟨name.toArray⟩, .slice (some ⟨b, off, none⟩) n c], .int .i64 1] W (PcPost W (argPc (opn : Int) 1 y f'))) := fun W hb => argument_any W (opn : Int) num name _ n c b off 1 y f' rfl (by omega) hn (by rw [Nat.one_mul]; exact hat'.keep (hb.block b hat'.lt)) hy
  have hal := argPc_len (opn : Int) 0 x f
  have hal1 := argPc_len (opn : Int) 1 y f'
  have HU : Hid (unB (opn : Int) = false) := by
    show unB _ = false
    unfold unB
    rw [bF (show ((opn : Nat) : Int) ≠ 3 by omega), bF (show ((opn : Nat) : Int) ≠ 4 by omega)]
    rfl
  have t1 := bF (show ((opn : Nat) : Int) ≠ 1 by omega)
  have t2 := bF (show ((opn : Nat) : Int) ≠ 2 by omega)
  have o0 : (0 : Int) ≤ (opn : Int) := by omega
  have o1 : (opn : Int) < 18 := by omega
  have o2 : opn < 18 := by omega
  have hcc : (w.alloc (.cells #[.int .i64 (opn : Int), .int .i64 num, .string ⟨name.toArray⟩, .slice (some ⟨b, off, none⟩) n c] 38)).cell? ⟨0, opn, none⟩ = some (.string ⟨(Ps.sgTab.getD opn []).toArray⟩) := (World.cell?_alloc_lt _ _ _ hgl).trans hg
  have HB0 := Lib.hid hb0
  have hsl := sgTab_len opn
  clear hb0 hat hat' hx hy hS hop hsg hol hg
  generalize Ps.sgTab.getD opn [] = sg at *
  generalize argPc (opn : Int) 0 x f = AL at *
  generalize argPc (opn : Int) 1 y f' = BL at *
  have s1 := fun W => run_addP [32] sg (by simp; omega) W
  have s2 := fun W => run_addP (32 :: sg) [32] (by simp; omega) W
  simp only [List.cons_append, List.nil_append] at s1 s2
  go_enter Tryd.func51, Tryd.ntmps51
  go_wp2_with fail
  refine (isUnary_any _ _).mono ?_
  rintro e w1 ⟨rfl, rfl⟩
  rw [HU.out]
  go_wp2_with fail
  have HRA : Hid (∀ w3, Below ((w.alloc (.cells #[.int .i64 (opn : Int), .int .i64 num, .string ⟨name.toArray⟩, .slice (some ⟨b, off, none⟩) n c] 38)).alloc (.cells #[.string ⟨(32 :: (sg ++ [32])).toArray⟩, .int .i64 0, .int .i64 0, .string ⟨#[]⟩, .slice none 0 0] 78)).drew.heap.size ((w.alloc (.cells #[.int .i64 (opn : Int), .int .i64 num, .string ⟨name.toArray⟩, .slice (some ⟨b, off, none⟩) n c] 38)).alloc (.cells #[.string ⟨(32 :: (sg ++ [32])).toArray⟩, .int .i64 0, .int .i64 0, .string ⟨#[]⟩, .slice none 0 0] 78)).drew w3 → w3.heap[w.heap.size + 1]? = some (.cells #[.string ⟨(32 :: (sg ++ [32])).toArray⟩, .int .i64 0, .int .i64 0, .string ⟨#[]⟩, .slice none 0 0] 78 (0, 0))) := fun w3 h => by
    refine (h.block _ (by simp)).trans ?_
    have := heap_alloc_new (w.alloc (.cells #[.int .i64 (opn : Int), .int .i64 num, .string ⟨name.toArray⟩, .slice (some ⟨b, off, none⟩) n c] 38)) (.cells #[.string ⟨(32 :: (sg ++ [32])).toArray⟩, .int .i64 0, .int .i64 0, .string ⟨#[]⟩, .slice none 0 0] 78)
    rw [show (w.alloc (.cells #[.int .i64 (opn : Int), .int .i64 num, .string ⟨name.toArray⟩, .slice (some ⟨b, off, none⟩) n c] 38)).heap.size = w.heap.size + 1 by simp] at this
    exact this
  go_region_held3 (fun w' => w'.cell? ⟨w.heap.size, 0, none⟩ = some (.int .i64 (opn : Int)) ∧ w'.cell? ⟨w.heap.size, 1, none⟩ = some (.int .i64 num) ∧ w'.cell? ⟨w.heap.size, 2, none⟩ = some (.string ⟨name.toArray⟩) ∧ w'.cell? ⟨w.heap.size, 3, none⟩ = some (.slice (some ⟨b, off, none⟩) n c) ∧ w'.cell? ⟨0, opn, none⟩ = some (.string ⟨sg.toArray⟩))
    (first | go_keep | (go_split_ands; refine ⟨?_, ?_, ?_, ?_, ?_⟩ <;> (rw [hgrow.cell_far _ (by simp <;> omega) (by simp [Value.ownBlock] <;> omega)]; simp [*]; done)))
    (first
      | (go_at_call 69; obtain ⟨k0, k1, k2, k3, kc⟩ := ‹_ ∧ _ ∧ _ ∧ _ ∧ World.cell? _ ⟨0, opn, none⟩ = _›; refine (HARG.out _ (by first | exact HB0.out.drew | exact (HB0.out.alloc (by simp) _).drew | exact HB0.out.drew.alloc (by simp) _)).mono ?_; rintro e w3 ⟨g2, cc2, rfl, hown2, hb3⟩; have r0 := cell_later hb3 k0; have r1 := cell_later hb3 k1; have r2 := cell_later hb3 k2; have r3 := cell_later hb3 k3; have rc := cell_later hb3 kc; have hg2 : w.heap.size + 1 ≤ g2 := (by have := (owns_block hown2 g2 rfl).1; simp at this; omega); have hws : w.heap.size + 1 ≤ w3.heap.size := (by have := hb3.size; simp at this; omega); have HBW := Lib.hid (below_rev' hb3 (by first | exact HB0.out.drew | exact (HB0.out.alloc (by simp) _).drew)); have HO2 := Lib.hid (own_le (base' := w.heap.size) hown2 (by simp <;> omega)); have HB3 := Lib.hid hb3; clear k0 k1 k2 k3 kc hown2 hb3)
      | (refine step_append_lies _ (by rfl) _ _ _ (by rfl) w.heap.size 78 i0 _ 5 72 Tryd.underlying79 hi hz0 hz1 hz2 rfl (by omega) (.slice (some ⟨g2, 0, none⟩) AL.length cc2) AL.length (pcCells AL) (by rfl) HO2.out ⟨w.heap.size + 1, 0, none⟩ 1 1 (pcCells [pcStr (32 :: (sg ++ [32]))]) (by rfl) (by rfl) (World.news_of_block (HRA.out _ HB3.out)) (pcCells_one _) (by omega) (by unfold maxLen; omega) (by omega) (by omega) w3.heap.size rfl ?_; intro gg cap5 w5 hown5 hgrow hat5 hlt5)
      | (refine step_append_lies _ (by rfl) _ _ _ (by rfl) w.heap.size 78 i0 _ 5 72 Tryd.underlying79 hi hz0 hz1 hz2 rfl (by omega) (.slice (some ⟨g2, 0, none⟩) AL.length cc2) AL.length (pcCells AL) (by rfl) (HO2.out.alloc _) ⟨w3.heap.size, 0, none⟩ 1 1 (pcCells [pcStr (32 :: (sg ++ [32]))]) (by rfl) (by rfl) (World.news_of_block (heap_alloc_new w3 _)) (pcCells_one _) (by omega) (by unfold maxLen; omega) (by omega) (by simp; omega) (w3.heap.size + 1) (by simp) ?_; intro gg cap5 w5 hown5 hgrow hat5 hlt5))
  all_goals
    have HBP : Hid (Below w.heap.size w w5) := (by
      first
        | exact HBW.out.grown hgrow HBW.out.size (fun k hk => (owns_block HO2.out k hk).1)
        | exact (HBW.out.alloc (by omega) _).grown hgrow (by simp; omega) (fun k hk => (owns_block HO2.out k hk).1))
    have HOP : Hid (w5.ownsRow w.heap.size 78 5 (.slice (some ⟨gg, 0, none⟩) (AL.length + 1) cap5) (AL.length + 1) (pcCells (AL ++ [pcStr (32 :: (sg ++ [32]))]))) := (by rw [pcCells_app]; exact hown5)
    have q0 : w5.cell? ⟨w.heap.size, 0, none⟩ = some (.int .i64 (opn : Int)) := (by
      first
        | exact (hgrow.cell_far ⟨w.heap.size, 0, none⟩ (show w.heap.size < w3.heap.size by omega) (show some w.heap.size ≠ some g2 by intro e; injection e with e; omega)).trans r0
        | exact (hgrow.cell_far ⟨w.heap.size, 0, none⟩ (show w.heap.size < _ by simp; omega) (show some w.heap.size ≠ some g2 by intro e; injection e with e; omega)).trans ((World.cell?_alloc_lt _ _ _ (show w.heap.size < w3.heap.size by omega)).trans r0))
    have q1 : w5.cell? ⟨w.heap.size, 1, none⟩ = some (.int .i64 num) := (by
      first
        | exact (hgrow.cell_far ⟨w.heap.size, 1, none⟩ (show w.heap.size < w3.heap.size by omega) (show some w.heap.size ≠ some g2 by intro e; injection e with e; omega)).trans r1
        | exact (hgrow.cell_far ⟨w.heap.size, 1, none⟩ (show w.heap.size < _ by simp; omega) (show some w.heap.size ≠ some g2 by intro e; injection e with e; omega)).trans ((World.cell?_alloc_lt _ _ _ (show w.heap.size < w3.heap.size by omega)).trans r1))
    have q2 : w5.cell? ⟨w.heap.size, 2, none⟩ = some (.string ⟨name.toArray⟩) := (by
      first
        | exact (hgrow.cell_far ⟨w.heap.size, 2, none⟩ (show w.heap.size < w3.heap.size by omega) (show some w.heap.size ≠ some g2 by intro e; injection e with e; omega)).trans r2
        | exact (hgrow.cell_far ⟨w.heap.size, 2, none⟩ (show w.heap.size < _ by simp; omega) (show some w.heap.size ≠ some g2 by intro e; injection e with e; omega)).trans ((World.cell?_alloc_lt _ _ _ (show w.heap.size < w3.heap.size by omega)).trans r2))
    have q3 : w5.cell? ⟨w.heap.size, 3, none⟩ = some (.slice (some ⟨b, off, none⟩) n c) := (by
      first
        | exact (hgrow.cell_far ⟨w.heap.size, 3, none⟩ (show w.heap.size < w3.heap.size by omega) (show some w.heap.size ≠ some g2 by intro e; injection e with e; omega)).trans r3
        | exact (hgrow.cell_far ⟨w.heap.size, 3, none⟩ (show w.heap.size < _ by simp; omega) (show some w.heap.size ≠ some g2 by intro e; injection e with e; omega)).trans ((World.cell?_alloc_lt _ _ _ (show w.heap.size < w3.heap.size by omega)).trans r3))
    clear r0 r1 r2 r3 rc s1 s2 hown5 hgrow hat5 hlt5 HRA
    go_wp2_with fail
    refine (HARG1.out _ HBP.out).mono ?_
    rintro e w6 ⟨g3, cc3, rfl, hown3, hb6⟩
    have HO6 := Lib.hid (owns_later HOP.out hb6)
    have HN6 := Lib.hid hown3
    have HB6 := Lib.hid (below_rev' hb6 HBP.out)
    clear hown3 hb6 q0 q1 q2 q3
    have hal2 : (AL ++ [pcStr (32 :: (sg ++ [32]))]).length = AL.length + 1 := by simp
    go_wp2_with (first | (at_builtin; refine wpList_append_lies _ rfl _ _ _ rfl w.heap.size 78 i0 _ 5 72 Tryd.underlying79 hi hz0 hz1 hz2 rfl (by omega) (.slice (some ⟨gg, 0, none⟩) (AL.length + 1) cap5) (AL.length + 1) (pcCells (AL ++ [pcStr (32 :: (sg ++ [32]))])) rfl HO6.out ⟨g3, 0, none⟩ BL.length cc3 (pcCells BL) rfl (pcCells_len BL) (own_cells HN6.out) (pcCells_one BL) (by omega) (by unfold maxLen; omega) (by omega) HB6.out.size w6.heap.size rfl ?_))
    intro g7 cap7 w7 hown7 hgrow7 hat7 hlt7
    have HO7 := Lib.hid hown7
    have HG7 := Lib.hid hgrow7
    clear hown7 hgrow7 hat7 hlt7 hal2
    go_wp2_with fail
    go_ret
    have h := pc_app (w := w) (w5 := w7) (l := AL ++ [pcStr (32 :: (sg ++ [32]))]) (m := BL) (v := .slice (some ⟨gg, 0, none⟩) (AL.length + 1) cap5) (gg := g7) (cap := cap7) HB6.out
    rw [show (AL ++ [pcStr (32 :: (sg ++ [32]))]).length = AL.length + 1 by simp] at h
    exact h HO6.out HO7.out HG7.out

end Go.Proofs.YtfhpihpdijighaaDoor
