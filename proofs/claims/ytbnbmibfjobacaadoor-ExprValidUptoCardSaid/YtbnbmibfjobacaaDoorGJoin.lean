/- What argument and pieces of package expr return: the parts of an expression's text. What pieces of package expr returns. What pieces of package expr returns, and that its pieces make up the text. What join and Format of package expr return: the text of an expression. What Expr of the made inputs returns: an expression with the stated Args, of the plain function madeG. -/
import Derived.Test.YtbnbmibfjobacaaDoorGWalk
import Derived.Test.YtbnbmibfjobacaaDoorShelf
import Derived.Deep.LoopGhost
import Derived.Deep.AppendLies
import Derived.Lib.OwnBridge
import Derived.Deep.RegionHeld3
import Derived.Lib.OwnKind
namespace Go.Proofs.YtbnbmibfjobacaaDoor
open Go.RowKit

/-- a piece of a text: a text, or an expression -/
structure Pc where
  t : List UInt8
  x : Ex
  f : EF
def Pc.cells (i : Pc) : List Value := [.string ⟨i.t.toArray⟩, .int .i64 i.f.op, .int .i64 i.f.num, .string ⟨i.f.name.toArray⟩, .slice i.f.A i.f.n i.f.c]
def pcCells (l : List Pc) : List Value := l.flatMap Pc.cells
def pcStr (s : List UInt8) : Pc := ⟨s, .mk 0 0 [] [], ⟨0, 0, [], none, 0, 0⟩⟩
def pcT (i : Pc) : List UInt8 := if i.x.op = 0 then i.t else exText i.x
def pcsT (l : List Pc) : List UInt8 := l.flatMap pcT
def pcM (i : Pc) : Nat := if i.x.op = 0 then 1 else 8 * exCnt i.x
def pcsM : List Pc → Nat
  | [] => 0
  | i :: r => pcM i + pcsM r
/-- expressions that are printed -/
inductive ExG : Ex → Prop
  | mk (op num : Int) (name : List UInt8) (args : List Ex) (hn : -9223372036854775808 ≤ num ∧ num ≤ 9223372036854775807)
      (ha : op = 2 ∧ args.length = 0 ∨ (op = 3 ∨ op = 4) ∧ args.length = 1 ∨ 5 ≤ op ∧ op ≤ 17 ∧ args.length = 2) (hs : ∀ i (h : i < args.length), ExG args[i]) : ExG (.mk op num name args)
theorem ExG.op {x : Ex} (h : ExG x) : 2 ≤ x.op ∧ x.op ≤ 17 := by
  cases h with
  | mk op num name args hn ha hs =>
    show 2 ≤ op ∧ op ≤ 17
    omega
def PcOk (w : World) (i : Pc) : Prop := (i.x.op = 0 ∧ i.f.op = 0) ∨ (ExM w (fun _ => True) i.x i.f ∧ ExG i.x)
theorem pcStr_ok (w : World) (s : List UInt8) : PcOk w (pcStr s) := .inl ⟨rfl, rfl⟩
theorem pcStr_T (s : List UInt8) : pcT (pcStr s) = s := rfl
theorem pcStr_M (s : List UInt8) : pcM (pcStr s) = 1 := rfl
theorem pcCells_len (l : List Pc) : (pcCells l).length = l.length * 5 := by
  induction l with
  | nil => rfl
  | cons i r ih =>
    have : pcCells (i :: r) = i.cells ++ pcCells r := rfl
    rw [this, List.length_append, ih]
    simp [Pc.cells]
    omega
theorem pcCells_app (l m : List Pc) : pcCells (l ++ m) = pcCells l ++ pcCells m := by simp [pcCells]
theorem pcsT_app (l m : List Pc) : pcsT (l ++ m) = pcsT l ++ pcsT m := by simp [pcsT]
theorem pcsM_app (l m : List Pc) : pcsM (l ++ m) = pcsM l + pcsM m := by
  induction l with
  | nil => simp [pcsM]
  | cons i r ih => rw [List.cons_append, pcsM, pcsM, ih]; omega
theorem pcCells_one (l : List Pc) : ∀ u ∈ pcCells l, u.oneCell' = true := by
  intro u hu
  unfold pcCells at hu
  rw [List.mem_flatMap] at hu
  obtain ⟨i, _, hi⟩ := hu
  simp [Pc.cells] at hi
  rcases hi with rfl | rfl | rfl | rfl | rfl <;> rfl

theorem blk5' {w : World} {b : Nat} {c0 c1 c2 c3 c4 : Value} {t : TypeId} (h : w.heap[b]? = some (.cells #[c0, c1, c2, c3, c4] t (0, 0))) :
    w.cell? ⟨b, 0, none⟩ = some c0 ∧ w.cell? ⟨b, 1, none⟩ = some c1 ∧ w.cell? ⟨b, 2, none⟩ = some c2 ∧ w.cell? ⟨b, 3, none⟩ = some c3 ∧ w.cell? ⟨b, 4, none⟩ = some c4 := by
  refine ⟨?_, ?_, ?_, ?_, ?_⟩
  · rw [cell_of_row w b 0 _ _ _ h]; rfl
  · rw [cell_of_row w b 1 _ _ _ h]; rfl
  · rw [cell_of_row w b 2 _ _ _ h]; rfl
  · rw [cell_of_row w b 3 _ _ _ h]; rfl
  · rw [cell_of_row w b 4 _ _ _ h]; rfl
/-- the pieces of Arg number k -/
def argPc (op : Int) (k : Nat) (x : Ex) (f : EF) : List Pc := if inPar op x.op k then [pcStr [40], ⟨[], x, f⟩, pcStr [41]] else [⟨[], x, f⟩]
/-- what a call leaves that makes pieces -/
def PcPost (w : World) (l : List Pc) (e : Ending) (w' : World) : Prop :=
  ∃ g c, e = .returned (.slice (some ⟨g, 0, none⟩) l.length c) ∧ w'.ownsRow w.heap.size 116 5 (.slice (some ⟨g, 0, none⟩) l.length c) l.length (pcCells l) ∧ Below w.heap.size w w'

theorem Tryd.infoPc : (Tryd.prog.info? 116).map (fun i => (i.zero, i.size, i.bytes)) = some (some (.agg #[.string ⟨#[]⟩, .int .i64 0, .int .i64 0, .string ⟨#[]⟩, .slice none 0 0]), 5, 72) := by kernel_rfl

theorem pc_lit {w W : World} (hb : Below w.heap.size w W) (l : List Pc) (hl : l.length ≤ 10) (cs : Array Value) (hcs : cs.toList = pcCells l) (n : Nat) (hn : n = l.length) :
    PcPost w l (.returned (.slice (some ⟨W.heap.size, 0, none⟩) n n)) (W.alloc (.cells cs 116)) := by
  subst hn
  have := World.ownsRow_lit (base := w.heap.size) (e := 116) (size := 5) W cs l.length hb.size (by unfold maxLen; omega) (by have := congrArg List.length hcs; rw [pcCells_len] at this; simpa using this)
  rw [hcs] at this
  exact ⟨_, _, rfl, this, hb.alloc hb.size _⟩

set_option maxRecDepth 100000 in
set_option maxHeartbeats 2000000 in
theorem argument_any (w : World) (op num : Int) (name : List UInt8) (A : Option Addr) (n c b off k : Nat) (x : Ex) (f : EF) (hA : A = some ⟨b, off, none⟩) (hk : k < n) (hn : n ≤ 1000000) (hat : EFat w b (off + k * 4) f) (hx : f.op = x.op) :
    Calls Tryd.prog 105 #[.agg #[.int .i64 op, .int .i64 num, .string ⟨name.toArray⟩, .slice A n c], .int .i64 (k : Int)] w (PcPost w (argPc op k x f)) := by
  have hbl := hat.lt
  obtain ⟨a0, a1, a2, a3⟩ := hat
  have HI := Lib.hid (fun W (hb : Below w.heap.size w W) => inPar_any W op num name A n c b off k f.op hA hk (by omega) (cell_later hb a0))
  have hb2 : Below w.heap.size w ((w.alloc (.cells #[.int .i64 op, .int .i64 num, .string ⟨name.toArray⟩, .slice A n c] 25)).alloc (.cells #[.string ⟨#[]⟩, .int .i64 f.op, .int .i64 f.num, .string ⟨f.name.toArray⟩, .slice f.A f.n f.c] 116)) := ((Below.refl _ _).alloc (Nat.le_refl _) _).alloc (by simp) _
  have HB2 := Lib.hid hb2
  have HX := Lib.hid hx
  clear hb2 hx
  subst hA
  have i0 : (0 : Int) ≤ (k : Int) := by omega
  have i1 : (k : Int) < (n : Int) := by omega
  go_enter Tryd.func105, Tryd.ntmps105
  go_wp2_with fail
  refine (HI.out _ HB2.out).mono ?_
  rintro e w1 ⟨rfl, hb1⟩
  have hs2 : ((w.alloc (.cells #[.int .i64 op, .int .i64 num, .string ⟨name.toArray⟩, .slice (some ⟨b, off, none⟩) n c] 25)).alloc (.cells #[.string ⟨#[]⟩, .int .i64 f.op, .int .i64 f.num, .string ⟨f.name.toArray⟩, .slice f.A f.n f.c] 116)).heap.size = w.heap.size + 2 := by simp
  have hq : w1.heap[w.heap.size + 1]? = some (.cells #[.string ⟨#[]⟩, .int .i64 f.op, .int .i64 f.num, .string ⟨f.name.toArray⟩, .slice f.A f.n f.c] 116 (0, 0)) := by
    refine (hb1.block _ (by omega)).trans ?_
    have := heap_alloc_new (w.alloc (.cells #[.int .i64 op, .int .i64 num, .string ⟨name.toArray⟩, .slice (some ⟨b, off, none⟩) n c] 25)) (.cells #[.string ⟨#[]⟩, .int .i64 f.op, .int .i64 f.num, .string ⟨f.name.toArray⟩, .slice f.A f.n f.c] 116)
    simpa using this
  obtain ⟨c0, c1, c2, c3, c4⟩ := blk5' hq
  have HB1 := Lib.hid (below_rev' hb1 HB2.out)
  clear hb1 hq hs2 a0 a1 a2 a3
  cases hi : inPar op f.op k with
  | true =>
    have HL : Hid (argPc op k x f = [pcStr [40], ⟨[], x, f⟩, pcStr [41]]) := by
      show argPc op k x f = _
      unfold argPc
      rw [← HX.out, hi]
      rfl
    go_wp2_with fail
    go_ret
    rw [HL.out]
    exact pc_lit HB1.out _ (by simp) _ rfl 3 rfl
  | false =>
    have HL : Hid (argPc op k x f = [⟨[], x, f⟩]) := by
      show argPc op k x f = _
      unfold argPc
      rw [← HX.out, hi]
      rfl
    go_wp2_with fail
    go_ret
    rw [HL.out]
    exact pc_lit HB1.out _ (by simp) _ rfl 1 rfl

end Go.Proofs.YtbnbmibfjobacaaDoor

namespace Go.Proofs.YtbnbmibfjobacaaDoor
open Go.RowKit

/-- the pieces of an expression -/
def pcsOf (op : Int) (name : List UInt8) (args : List Ex) (F : Nat → EF) : List Pc :=
  match args with
  | [] => [pcStr name]
  | [a] => [pcStr (Ps.sgTab.getD op.toNat [])] ++ argPc op 0 a (F 0)
  | a :: b :: _ => (argPc op 0 a (F 0) ++ [pcStr (32 :: (Ps.sgTab.getD op.toNat [] ++ [32]))]) ++ argPc op 1 b (F 1)

theorem argPc_len (op : Int) (k : Nat) (x : Ex) (f : EF) : 1 ≤ (argPc op k x f).length ∧ (argPc op k x f).length ≤ 3 := by
  unfold argPc
  split <;> simp
/-- what an append of pieces leaves -/
theorem pc_app {w W w5 : World} {l m : List Pc} {v : Value} {gg cap : Nat} (hw : Below w.heap.size w W) (ho : W.ownsRow w.heap.size 116 5 v l.length (pcCells l)) (hown : w5.ownsRow w.heap.size 116 5 (.slice (some ⟨gg, 0, none⟩) (l.length + m.length) cap) (l.length + m.length) (pcCells l ++ pcCells m)) (hg : W.grownBy w5 v.ownBlock) :
    PcPost w (l ++ m) (.returned (.slice (some ⟨gg, 0, none⟩) (l.length + m.length) cap)) w5 := by
  rw [← pcCells_app] at hown
  have hl : (l ++ m).length = l.length + m.length := List.length_append
  refine ⟨gg, cap, by rw [hl], by rw [hl]; exact hown, ?_⟩
  exact hw.grown hg hw.size (fun k hk => (owns_block ho k hk).1)
theorem own_le {w : World} {base base' size n : Nat} {e : TypeId} {v : Value} {xs : List Value} (h : w.ownsRow base e size v n xs) (hb : base' ≤ base) : w.ownsRow base' e size v n xs := by
  obtain ⟨hl, h⟩ := h
  refine ⟨hl, ?_⟩
  rcases h with h | ⟨g, cap, cur, e1, e2, rest⟩
  · exact .inl h
  · exact .inr ⟨g, cap, cur, e1, Nat.le_trans hb e2, rest⟩
theorem own_cells {w : World} {base : Nat} {l : List Pc} {g c : Nat} (h : w.ownsRow base 116 5 (.slice (some ⟨g, 0, none⟩) l.length c) l.length (pcCells l)) : ∀ j u, (pcCells l)[j]? = some u → w.cell? ((⟨g, 0, none⟩ : Addr).add j) = some u := h.cells rfl

set_option maxRecDepth 100000 in
set_option maxHeartbeats 4000000 in
theorem piecesU_any (w : World) (opn : Nat) (num : Int) (name : List UInt8) (b off n c : Nat) (x : Ex) (f : EF) (hop : opn = 3 ∨ opn = 4) (hn1 : 1 ≤ n) (hn : n ≤ 1000000) (hat : EFat w b off f) (hx : f.op = x.op) (hS : SgT w) :
    Calls Tryd.prog 77 #[.agg #[.int .i64 (opn : Int), .int .i64 num, .string ⟨name.toArray⟩, .slice (some ⟨b, off, none⟩) n c]] w (PcPost w ([pcStr (Ps.sgTab.getD opn [])] ++ argPc (opn : Int) 0 x f)) := by
  obtain ⟨i0, hi, hz0, hz1, hz2⟩ := info_parts Tryd.infoPc
  have hb0 : Below w.heap.size w (w.alloc (.cells #[.int .i64 (opn : Int), .int .i64 num, .string ⟨name.toArray⟩, .slice (some ⟨b, off, none⟩) n c] 25)) := (Below.refl _ _).alloc (Nat.le_refl _) _
  have hol : opn < Ps.sgTab.length := by have : Ps.sgTab.length = 18 := rfl; omega
  have hg := hS opn hol
  have hgl := hS.lt
  have hsg : Ps.sgTab.getD opn [] = Ps.sgTab[opn] := by simp [List.getD, List.getElem?_eq_getElem hol]
  rw [← hsg] at hg
  have HARG : Hid (∀ W, Below w.heap.size w W → Calls Tryd.prog 105 #[.agg #[.int .i64 (opn : Int), .int .i64 num, .string ⟨name.toArray⟩, .slice (some ⟨b, off, none⟩) n c], .int .i64 0] W (PcPost W (argPc (opn : Int) 0 x f))) := fun W hb => argument_any W (opn : Int) num name _ n c b off 0 x f rfl (by omega) hn (by rw [Nat.zero_mul, Nat.add_zero]; exact hat.keep (hb.block b hat.lt)) hx
  have hal := argPc_len (opn : Int) 0 x f
  have HU : Hid (unB (opn : Int) = true) := by
    show unB _ = true
    rcases hop with rfl | rfl <;> rfl
  have t1 := bF (show ((opn : Nat) : Int) ≠ 1 by omega)
  have t2 := bF (show ((opn : Nat) : Int) ≠ 2 by omega)
  have o0 : (0 : Int) ≤ (opn : Int) := by omega
  have o1 : (opn : Int) < 18 := by omega
  have o2 : opn < 18 := by omega
  have hcc : (w.alloc (.cells #[.int .i64 (opn : Int), .int .i64 num, .string ⟨name.toArray⟩, .slice (some ⟨b, off, none⟩) n c] 25)).cell? ⟨0, opn, none⟩ = some (.string ⟨(Ps.sgTab.getD opn []).toArray⟩) := (World.cell?_alloc_lt _ _ _ hgl).trans hg
  have HB0 := Lib.hid hb0
  clear hb0 hat hx hS hop hsg hol hg
  generalize Ps.sgTab.getD opn [] = sg at *
  generalize argPc (opn : Int) 0 x f = AL at *
  go_enter Tryd.func77, Tryd.ntmps77
  go_wp2_with fail
  refine (isUnary_any _ _).mono ?_
  rintro e w1 ⟨rfl, rfl⟩
  rw [HU.out]
  go_wp2_with fail
  have HRA : Hid (∀ w3, Below ((w.alloc (.cells #[.int .i64 (opn : Int), .int .i64 num, .string ⟨name.toArray⟩, .slice (some ⟨b, off, none⟩) n c] 25)).alloc (.cells #[.string ⟨sg.toArray⟩, .int .i64 0, .int .i64 0, .string ⟨#[]⟩, .slice none 0 0] 116)).drew.heap.size ((w.alloc (.cells #[.int .i64 (opn : Int), .int .i64 num, .string ⟨name.toArray⟩, .slice (some ⟨b, off, none⟩) n c] 25)).alloc (.cells #[.string ⟨sg.toArray⟩, .int .i64 0, .int .i64 0, .string ⟨#[]⟩, .slice none 0 0] 116)).drew w3 → w3.ownsRow w.heap.size 116 5 (.slice (some ⟨w.heap.size + 1, 0, none⟩) 1 1) 1 (pcCells [pcStr sg])) := fun w3 h => by
    have h1 := World.ownsRow_lit (base := w.heap.size) (e := 116) (size := 5) (w.alloc (.cells #[.int .i64 (opn : Int), .int .i64 num, .string ⟨name.toArray⟩, .slice (some ⟨b, off, none⟩) n c] 25)) #[.string ⟨sg.toArray⟩, .int .i64 0, .int .i64 0, .string ⟨#[]⟩, .slice none 0 0] 1 (by simp) (by unfold maxLen; omega) (by simp)
    rw [show (w.alloc (.cells #[.int .i64 (opn : Int), .int .i64 num, .string ⟨name.toArray⟩, .slice (some ⟨b, off, none⟩) n c] 25)).heap.size = w.heap.size + 1 by simp] at h1
    exact owns_later h1.drew h
  have HRB : Hid (∀ w3 : World, w.heap.size ≤ w3.heap.size → (w3.alloc (.cells #[.string ⟨sg.toArray⟩, .int .i64 0, .int .i64 0, .string ⟨#[]⟩, .slice none 0 0] 116)).ownsRow w.heap.size 116 5 (.slice (some ⟨w3.heap.size, 0, none⟩) 1 1) 1 (pcCells [pcStr sg])) := fun w3 h =>
    World.ownsRow_lit (base := w.heap.size) (e := 116) (size := 5) w3 #[.string ⟨sg.toArray⟩, .int .i64 0, .int .i64 0, .string ⟨#[]⟩, .slice none 0 0] 1 h (by unfold maxLen; omega) (by simp)
  go_region_held3 (fun w' => w'.cell? ⟨w.heap.size, 0, none⟩ = some (.int .i64 (opn : Int)) ∧ w'.cell? ⟨w.heap.size, 1, none⟩ = some (.int .i64 num) ∧ w'.cell? ⟨w.heap.size, 2, none⟩ = some (.string ⟨name.toArray⟩) ∧ w'.cell? ⟨w.heap.size, 3, none⟩ = some (.slice (some ⟨b, off, none⟩) n c) ∧ w'.cell? ⟨0, opn, none⟩ = some (.string ⟨sg.toArray⟩))
    (first | go_keep | (go_split_ands; refine ⟨?_, ?_, ?_, ?_, ?_⟩ <;> (rw [hgrow.cell_far _ (by simp <;> omega) (by simp [Value.ownBlock] <;> omega)]; simp [*]; done)))
    (first
      | (go_at_call 105; obtain ⟨k0, k1, k2, k3, kc⟩ := ‹_ ∧ _ ∧ _ ∧ _ ∧ World.cell? _ ⟨0, opn, none⟩ = _›; refine (HARG.out _ (by first | exact HB0.out.drew | exact (HB0.out.alloc (by simp) _).drew | exact HB0.out.drew.alloc (by simp) _)).mono ?_; rintro e w3 ⟨g2, cc2, rfl, hown2, hb3⟩; have r0 := cell_later hb3 k0; have r1 := cell_later hb3 k1; have r2 := cell_later hb3 k2; have r3 := cell_later hb3 k3; have rc := cell_later hb3 kc; have hws : w.heap.size + 1 ≤ w3.heap.size := (by have := hb3.size; simp at this; omega); have HBW := Lib.hid (below_rev' hb3 (by first | exact HB0.out.drew | exact (HB0.out.alloc (by simp) _).drew)); have HO2 := Lib.hid hown2; have HB3 := Lib.hid hb3; clear k0 k1 k2 k3 kc hown2 hb3)
      | (refine step_append_lies _ (by rfl) _ _ _ (by rfl) w.heap.size 116 i0 _ 5 72 Tryd.underlying117 hi hz0 hz1 hz2 rfl (by omega) (.slice (some ⟨w.heap.size + 1, 0, none⟩) 1 1) 1 (pcCells [pcStr sg]) (by rfl) (HRA.out _ HB3.out) ⟨g2, 0, none⟩ AL.length cc2 (pcCells AL) (by rfl) (pcCells_len AL) (own_cells HO2.out) (pcCells_one AL) (by omega) (by unfold maxLen; omega) (by omega) (by omega) w3.heap.size rfl ?_; intro gg cap5 w5 hown5 hgrow hat5 hlt5)
      | (refine step_append_lies _ (by rfl) _ _ _ (by rfl) w.heap.size 116 i0 _ 5 72 Tryd.underlying117 hi hz0 hz1 hz2 rfl (by omega) (.slice (some ⟨w3.heap.size, 0, none⟩) 1 1) 1 (pcCells [pcStr sg]) (by rfl) (HRB.out w3 (by omega)) ⟨g2, 0, none⟩ AL.length cc2 (pcCells AL) (by rfl) (pcCells_len AL) (own_cells (HO2.out.alloc _)) (pcCells_one AL) (by omega) (by unfold maxLen; omega) (by omega) (by simp; omega) (w3.heap.size + 1) (by simp) ?_; intro gg cap5 w5 hown5 hgrow hat5 hlt5))
  all_goals
    clear r0 r1 r2 r3 rc
    go_wp2_with fail
    go_ret
    first
      | exact pc_app (l := [pcStr sg]) (m := AL) HBW.out (HRA.out _ HB3.out) hown5 hgrow
      | exact pc_app (l := [pcStr sg]) (m := AL) (HBW.out.alloc (by omega) _) (HRB.out w3 (by omega)) hown5 hgrow

theorem run_addP (a b : List UInt8) (h : a.length + b.length ≤ 4000000000) (w : World) : (Op.stringOp .add ⟨a.toArray⟩ ⟨b.toArray⟩).run Tryd.prog w = .ok (.string ⟨(a ++ b).toArray⟩) w := by
  rw [run_string_add_sum _ _ _ (by simp [ByteArray.size]; omega), bapp]
theorem sgTab_len (k : Nat) : (Ps.sgTab.getD k []).length ≤ 2 := by
  by_cases h : k < 18
  · have : ∀ k, k < 18 → (Ps.sgTab.getD k []).length ≤ 2 := by decide
    exact this k h
  · rw [List.getD_eq_getElem?_getD, List.getElem?_eq_none (by show 18 ≤ k; omega)]
    simp

set_option maxRecDepth 100000 in
set_option maxHeartbeats 8000000 in
theorem piecesB_any (w : World) (opn : Nat) (num : Int) (name : List UInt8) (b off n c : Nat) (x y : Ex) (f f' : EF) (hop : 5 ≤ opn ∧ opn ≤ 17) (hn1 : 2 ≤ n) (hn : n ≤ 1000000) (hat : EFat w b off f) (hat' : EFat w b (off + 4) f') (hx : f.op = x.op) (hy : f'.op = y.op) (hS : SgT w) :
    Calls Tryd.prog 77 #[.agg #[.int .i64 (opn : Int), .int .i64 num, .string ⟨name.toArray⟩, .slice (some ⟨b, off, none⟩) n c]] w (PcPost w ((argPc (opn : Int) 0 x f ++ [pcStr (32 :: (Ps.sgTab.getD opn [] ++ [32]))]) ++ argPc (opn : Int) 1 y f')) := by
  obtain ⟨i0, hi, hz0, hz1, hz2⟩ := info_parts Tryd.infoPc
  have hb0 : Below w.heap.size w (w.alloc (.cells #[.int .i64 (opn : Int), .int .i64 num, .string ⟨name.toArray⟩, .slice (some ⟨b, off, none⟩) n c] 25)) := (Below.refl _ _).alloc (Nat.le_refl _) _
  have hol : opn < Ps.sgTab.length := by have : Ps.sgTab.length = 18 := rfl; omega
  have hg := hS opn hol
  have hgl := hS.lt
  have hsg : Ps.sgTab.getD opn [] = Ps.sgTab[opn] := by simp [List.getD, List.getElem?_eq_getElem hol]
  rw [← hsg] at hg
  have HARG : Hid (∀ W, Below w.heap.size w W → Calls Tryd.prog 105 #[.agg #[.int .i64 (opn : Int), .int .i64 num, .string ⟨name.toArray⟩, .slice (some ⟨b, off, none⟩) n c], .int .i64 0] W (PcPost W (argPc (opn : Int) 0 x f))) := fun W hb => argument_any W (opn : Int) num name _ n c b off 0 x f rfl (by omega) hn (by rw [Nat.zero_mul, Nat.add_zero]; exact hat.keep (hb.block b hat.lt)) hx
  have HARG1 : Hid (∀ W, Below w.heap.size w W → Calls Tryd.prog 105 #[.agg #[.int .i64 (opn : Int), .int .i64 num, .string ⟨name.toArray⟩, .slice (some ⟨b, off, none⟩) n c], .int .i64 1] W (PcPost W (argPc (opn : Int) 1 y f'))) := fun W hb => argument_any W (opn : Int) num name _ n c b off 1 y f' rfl (by omega) hn (by rw [Nat.one_mul]; exact hat'.keep (hb.block b hat'.lt)) hy
  have hal := argPc_len (opn : Int) 0 x f
  have hal1 := argPc_len (opn : Int) 1 y f'
  have HU : Hid (unB (opn : Int) = false) := by
    show unB _ = false
    unfold unB
    rw [bF (show ((opn : Nat) : Int) ≠ 3 by omega), bF (show ((opn : Nat) : Int) ≠ 4 by omega)]
    rfl
  have t1 := bF (show ((opn : Nat) : Int) ≠ 1 by omega)
  have t2 := bF (show ((opn : Nat) : Int) ≠ 2 by omega)
  have o0 : (0 : Int) ≤ (opn : Int) := by omega
  have o1 : (opn : Int) < 18 := by omega
  have o2 : opn < 18 := by omega
  have hcc : (w.alloc (.cells #[.int .i64 (opn : Int), .int .i64 num, .string ⟨name.toArray⟩, .slice (some ⟨b, off, none⟩) n c] 25)).cell? ⟨0, opn, none⟩ = some (.string ⟨(Ps.sgTab.getD opn []).toArray⟩) := (World.cell?_alloc_lt _ _ _ hgl).trans hg
  have HB0 := Lib.hid hb0
  have hsl := sgTab_len opn
  clear hb0 hat hat' hx hy hS hop hsg hol hg
  generalize Ps.sgTab.getD opn [] = sg at *
  generalize argPc (opn : Int) 0 x f = AL at *
  generalize argPc (opn : Int) 1 y f' = BL at *
  have s1 := fun W => run_addP [32] sg (by simp; omega) W
  have s2 := fun W => run_addP (32 :: sg) [32] (by simp; omega) W
  simp only [List.cons_append, List.nil_append] at s1 s2
  go_enter Tryd.func77, Tryd.ntmps77
  go_wp2_with fail
  refine (isUnary_any _ _).mono ?_
  rintro e w1 ⟨rfl, rfl⟩
  rw [HU.out]
  go_wp2_with fail
  have HRA : Hid (∀ w3, Below ((w.alloc (.cells #[.int .i64 (opn : Int), .int .i64 num, .string ⟨name.toArray⟩, .slice (some ⟨b, off, none⟩) n c] 25)).alloc (.cells #[.string ⟨(32 :: (sg ++ [32])).toArray⟩, .int .i64 0, .int .i64 0, .string ⟨#[]⟩, .slice none 0 0] 116)).drew.heap.size ((w.alloc (.cells #[.int .i64 (opn : Int), .int .i64 num, .string ⟨name.toArray⟩, .slice (some ⟨b, off, none⟩) n c] 25)).alloc (.cells #[.string ⟨(32 :: (sg ++ [32])).toArray⟩, .int .i64 0, .int .i64 0, .string ⟨#[]⟩, .slice none 0 0] 116)).drew w3 → w3.heap[w.heap.size + 1]? = some (.cells #[.string ⟨(32 :: (sg ++ [32])).toArray⟩, .int .i64 0, .int .i64 0, .string ⟨#[]⟩, .slice none 0 0] 116 (0, 0))) := fun w3 h => by
    refine (h.block _ (by simp)).trans ?_
    have := heap_alloc_new (w.alloc (.cells #[.int .i64 (opn : Int), .int .i64 num, .string ⟨name.toArray⟩, .slice (some ⟨b, off, none⟩) n c] 25)) (.cells #[.string ⟨(32 :: (sg ++ [32])).toArray⟩, .int .i64 0, .int .i64 0, .string ⟨#[]⟩, .slice none 0 0] 116)
    rw [show (w.alloc (.cells #[.int .i64 (opn : Int), .int .i64 num, .string ⟨name.toArray⟩, .slice (some ⟨b, off, none⟩) n c] 25)).heap.size = w.heap.size + 1 by simp] at this
    exact this
  go_region_held3 (fun w' => w'.cell? ⟨w.heap.size, 0, none⟩ = some (.int .i64 (opn : Int)) ∧ w'.cell? ⟨w.heap.size, 1, none⟩ = some (.int .i64 num) ∧ w'.cell? ⟨w.heap.size, 2, none⟩ = some (.string ⟨name.toArray⟩) ∧ w'.cell? ⟨w.heap.size, 3, none⟩ = some (.slice (some ⟨b, off, none⟩) n c) ∧ w'.cell? ⟨0, opn, none⟩ = some (.string ⟨sg.toArray⟩))
    (first | go_keep | (go_split_ands; refine ⟨?_, ?_, ?_, ?_, ?_⟩ <;> (rw [hgrow.cell_far _ (by simp <;> omega) (by simp [Value.ownBlock] <;> omega)]; simp [*]; done)))
    (first
      | (go_at_call 105; obtain ⟨k0, k1, k2, k3, kc⟩ := ‹_ ∧ _ ∧ _ ∧ _ ∧ World.cell? _ ⟨0, opn, none⟩ = _›; refine (HARG.out _ (by first | exact HB0.out.drew | exact (HB0.out.alloc (by simp) _).drew | exact HB0.out.drew.alloc (by simp) _)).mono ?_; rintro e w3 ⟨g2, cc2, rfl, hown2, hb3⟩; have r0 := cell_later hb3 k0; have r1 := cell_later hb3 k1; have r2 := cell_later hb3 k2; have r3 := cell_later hb3 k3; have rc := cell_later hb3 kc; have hg2 : w.heap.size + 1 ≤ g2 := (by have := (owns_block hown2 g2 rfl).1; simp at this; omega); have hws : w.heap.size + 1 ≤ w3.heap.size := (by have := hb3.size; simp at this; omega); have HBW := Lib.hid (below_rev' hb3 (by first | exact HB0.out.drew | exact (HB0.out.alloc (by simp) _).drew)); have HO2 := Lib.hid (own_le (base' := w.heap.size) hown2 (by simp <;> omega)); have HB3 := Lib.hid hb3; clear k0 k1 k2 k3 kc hown2 hb3)
      | (refine step_append_lies _ (by rfl) _ _ _ (by rfl) w.heap.size 116 i0 _ 5 72 Tryd.underlying117 hi hz0 hz1 hz2 rfl (by omega) (.slice (some ⟨g2, 0, none⟩) AL.length cc2) AL.length (pcCells AL) (by rfl) HO2.out ⟨w.heap.size + 1, 0, none⟩ 1 1 (pcCells [pcStr (32 :: (sg ++ [32]))]) (by rfl) (by rfl) (World.news_of_block (HRA.out _ HB3.out)) (pcCells_one _) (by omega) (by unfold maxLen; omega) (by omega) (by omega) w3.heap.size rfl ?_; intro gg cap5 w5 hown5 hgrow hat5 hlt5)
      | (refine step_append_lies _ (by rfl) _ _ _ (by rfl) w.heap.size 116 i0 _ 5 72 Tryd.underlying117 hi hz0 hz1 hz2 rfl (by omega) (.slice (some ⟨g2, 0, none⟩) AL.length cc2) AL.length (pcCells AL) (by rfl) (HO2.out.alloc _) ⟨w3.heap.size, 0, none⟩ 1 1 (pcCells [pcStr (32 :: (sg ++ [32]))]) (by rfl) (by rfl) (World.news_of_block (heap_alloc_new w3 _)) (pcCells_one _) (by omega) (by unfold maxLen; omega) (by omega) (by simp; omega) (w3.heap.size + 1) (by simp) ?_; intro gg cap5 w5 hown5 hgrow hat5 hlt5))
  all_goals
    have HBP : Hid (Below w.heap.size w w5) := (by
      first
        | exact HBW.out.grown hgrow HBW.out.size (fun k hk => (owns_block HO2.out k hk).1)
        | exact (HBW.out.alloc (by omega) _).grown hgrow (by simp; omega) (fun k hk => (owns_block HO2.out k hk).1))
    have HOP : Hid (w5.ownsRow w.heap.size 116 5 (.slice (some ⟨gg, 0, none⟩) (AL.length + 1) cap5) (AL.length + 1) (pcCells (AL ++ [pcStr (32 :: (sg ++ [32]))]))) := (by rw [pcCells_app]; exact hown5)
    have q0 : w5.cell? ⟨w.heap.size, 0, none⟩ = some (.int .i64 (opn : Int)) := (by
      first
        | exact (hgrow.cell_far ⟨w.heap.size, 0, none⟩ (show w.heap.size < w3.heap.size by omega) (show some w.heap.size ≠ some g2 by intro e; injection e with e; omega)).trans r0
        | exact (hgrow.cell_far ⟨w.heap.size, 0, none⟩ (show w.heap.size < _ by simp; omega) (show some w.heap.size ≠ some g2 by intro e; injection e with e; omega)).trans ((World.cell?_alloc_lt _ _ _ (show w.heap.size < w3.heap.size by omega)).trans r0))
    have q1 : w5.cell? ⟨w.heap.size, 1, none⟩ = some (.int .i64 num) := (by
      first
        | exact (hgrow.cell_far ⟨w.heap.size, 1, none⟩ (show w.heap.size < w3.heap.size by omega) (show some w.heap.size ≠ some g2 by intro e; injection e with e; omega)).trans r1
        | exact (hgrow.cell_far ⟨w.heap.size, 1, none⟩ (show w.heap.size < _ by simp; omega) (show some w.heap.size ≠ some g2 by intro e; injection e with e; omega)).trans ((World.cell?_alloc_lt _ _ _ (show w.heap.size < w3.heap.size by omega)).trans r1))
    have q2 : w5.cell? ⟨w.heap.size, 2, none⟩ = some (.string ⟨name.toArray⟩) := (by
      first
        | exact (hgrow.cell_far ⟨w.heap.size, 2, none⟩ (show w.heap.size < w3.heap.size by omega) (show some w.heap.size ≠ some g2 by intro e; injection e with e; omega)).trans r2
        | exact (hgrow.cell_far ⟨w.heap.size, 2, none⟩ (show w.heap.size < _ by simp; omega) (show some w.heap.size ≠ some g2 by intro e; injection e with e; omega)).trans ((World.cell?_alloc_lt _ _ _ (show w.heap.size < w3.heap.size by omega)).trans r2))
    have q3 : w5.cell? ⟨w.heap.size, 3, none⟩ = some (.slice (some ⟨b, off, none⟩) n c) := (by
      first
        | exact (hgrow.cell_far ⟨w.heap.size, 3, none⟩ (show w.heap.size < w3.heap.size by omega) (show some w.heap.size ≠ some g2 by intro e; injection e with e; omega)).trans r3
        | exact (hgrow.cell_far ⟨w.heap.size, 3, none⟩ (show w.heap.size < _ by simp; omega) (show some w.heap.size ≠ some g2 by intro e; injection e with e; omega)).trans ((World.cell?_alloc_lt _ _ _ (show w.heap.size < w3.heap.size by omega)).trans r3))
    clear r0 r1 r2 r3 rc s1 s2 hown5 hgrow hat5 hlt5 HRA
    go_wp2_with fail
    refine (HARG1.out _ HBP.out).mono ?_
    rintro e w6 ⟨g3, cc3, rfl, hown3, hb6⟩
    have HO6 := Lib.hid (owns_later HOP.out hb6)
    have HN6 := Lib.hid hown3
    have HB6 := Lib.hid (below_rev' hb6 HBP.out)
    clear hown3 hb6 q0 q1 q2 q3
    have hal2 : (AL ++ [pcStr (32 :: (sg ++ [32]))]).length = AL.length + 1 := by simp
    go_wp2_with (first | (at_builtin; refine wpList_append_lies _ rfl _ _ _ rfl w.heap.size 116 i0 _ 5 72 Tryd.underlying117 hi hz0 hz1 hz2 rfl (by omega) (.slice (some ⟨gg, 0, none⟩) (AL.length + 1) cap5) (AL.length + 1) (pcCells (AL ++ [pcStr (32 :: (sg ++ [32]))])) rfl HO6.out ⟨g3, 0, none⟩ BL.length cc3 (pcCells BL) rfl (pcCells_len BL) (own_cells HN6.out) (pcCells_one BL) (by omega) (by unfold maxLen; omega) (by omega) HB6.out.size w6.heap.size rfl ?_))
    intro g7 cap7 w7 hown7 hgrow7 hat7 hlt7
    have HO7 := Lib.hid hown7
    have HG7 := Lib.hid hgrow7
    clear hown7 hgrow7 hat7 hlt7 hal2
    go_wp2_with fail
    go_ret
    have h := pc_app (w := w) (w5 := w7) (l := AL ++ [pcStr (32 :: (sg ++ [32]))]) (m := BL) (v := .slice (some ⟨gg, 0, none⟩) (AL.length + 1) cap5) (gg := g7) (cap := cap7) HB6.out
    rw [show (AL ++ [pcStr (32 :: (sg ++ [32]))]).length = AL.length + 1 by simp] at h
    exact h HO6.out HO7.out HG7.out

end Go.Proofs.YtbnbmibfjobacaaDoor

namespace Go.Proofs.YtbnbmibfjobacaaDoor
open Go.RowKit

theorem inPar_inner (op aop : Int) (k : Nat) (h : 1 ≤ op ∧ op ≤ 17) (h' : 1 ≤ aop ∧ aop ≤ 17) : innerV op aop k = inPar op aop k := by
  have e1 : Ps.strD op = strV op + 1 := if_pos h
  have e2 : Ps.strD aop = strV aop + 1 := if_pos h'
  unfold innerV inPar
  rw [e1, e2, Bool.eq_iff_iff]
  simp
theorem argPc_T (op : Int) (k : Nat) (x : Ex) (f : EF) (h : 1 ≤ op ∧ op ≤ 17) (h' : 1 ≤ x.op ∧ x.op ≤ 17) : pcsT (argPc op k x f) = partText op k x := by
  have hx : ∀ t, pcT ⟨t, x, f⟩ = exText x := fun t => if_neg (by show ¬ x.op = 0; omega)
  unfold argPc partText
  rw [inPar_inner op x.op k h h']
  split
  · show pcT (pcStr [40]) ++ (pcT ⟨[], x, f⟩ ++ (pcT (pcStr [41]) ++ [])) = _
    rw [hx]
    simp [pcStr_T]
  · show pcT ⟨[], x, f⟩ ++ [] = _
    rw [hx]
    simp
theorem argPc_M (op : Int) (k : Nat) (x : Ex) (f : EF) (h' : 1 ≤ x.op) : pcsM (argPc op k x f) ≤ 8 * exCnt x + 2 := by
  have hx : ∀ t, pcM ⟨t, x, f⟩ = 8 * exCnt x := fun t => if_neg (by show ¬ x.op = 0; omega)
  unfold argPc
  split
  · show pcM (pcStr [40]) + (pcM ⟨[], x, f⟩ + (pcM (pcStr [41]) + 0)) ≤ _
    rw [hx, pcStr_M, pcStr_M]
    omega
  · show pcM ⟨[], x, f⟩ + 0 ≤ _
    rw [hx]
    omega
theorem argPc_ok (w : World) (op : Int) (k : Nat) (x : Ex) (f : EF) (h : ExM w (fun _ => True) x f) (hg : ExG x) : ∀ i ∈ argPc op k x f, PcOk w i := by
  intro i hi
  unfold argPc at hi
  split at hi
  · simp at hi
    rcases hi with rfl | rfl | rfl
    · exact pcStr_ok w _
    · exact .inr ⟨h, hg⟩
    · exact pcStr_ok w _
  · simp at hi
    subst hi
    exact .inr ⟨h, hg⟩
theorem sign_tab (op : Int) (h : 5 ≤ op ∧ op ≤ 17) : signOf op = some (Ps.sgTab.getD op.toNat []) := by
  have hc : op = 5 ∨ op = 6 ∨ op = 7 ∨ op = 8 ∨ op = 9 ∨ op = 10 ∨ op = 11 ∨ op = 12 ∨ op = 13 ∨ op = 14 ∨ op = 15 ∨ op = 16 ∨ op = 17 := by omega
  rcases hc with rfl | rfl | rfl | rfl | rfl | rfl | rfl | rfl | rfl | rfl | rfl | rfl | rfl <;> rfl

/-- the pieces make up the text, are fewer than the expression, and can be printed -/
theorem pcs_all (w : World) (op num : Int) (name : List UInt8) (args : List Ex) (F : Nat → EF) (hg : ExG (.mk op num name args)) (hs : ∀ i (h : i < args.length), ExM w (fun _ => True) args[i] (F i)) :
    pcsT (pcsOf op name args F) = exText (.mk op num name args) ∧ pcsM (pcsOf op name args F) < 8 * exCnt (.mk op num name args) ∧ (∀ i ∈ pcsOf op name args F, PcOk w i) ∧ (pcsOf op name args F).length ≤ 7 := by
  cases hg with
  | mk _ _ _ _ hn ha hgs =>
    rw [exText_mk, exCnt_mk]
    rcases ha with ⟨rfl, h0⟩ | ⟨ho, h1⟩ | ⟨o1, o2, h2⟩
    · obtain rfl : args = [] := List.length_eq_zero_iff.1 h0
      refine ⟨?_, ?_, ?_, by simp [pcsOf]⟩
      · simp [pcsOf, pcsT, pcStr_T, finText]
      · simp [pcsOf, pcsM, pcStr_M]
        omega
      · intro i hi
        simp [pcsOf] at hi
        subst hi
        exact pcStr_ok w _
    · obtain ⟨a, rfl⟩ : ∃ a, args = [a] := List.length_eq_one_iff.1 h1
      have hga := hgs 0 (by simp)
      have hao : 2 ≤ a.op ∧ a.op ≤ 17 := hga.op
      have hal := argPc_len op 0 a (F 0)
      refine ⟨?_, ?_, ?_, by simp [pcsOf]; omega⟩
      · show pcsT ([pcStr _] ++ argPc op 0 a (F 0)) = _
        rw [pcsT_app, argPc_T op 0 a (F 0) (by omega) (by omega)]
        simp only [exParts_cons, exParts_nil]
        unfold finText
        rw [if_neg (by omega), if_neg (by omega)]
        rcases ho with rfl | rfl <;> rfl
      · show pcsM ([pcStr _] ++ argPc op 0 a (F 0)) < _
        have := argPc_M op 0 a (F 0) (by omega)
        rw [pcsM_app]
        simp only [pcsM, pcStr_M, exCnts]
        omega
      · intro i hi
        rcases List.mem_append.1 (show i ∈ [pcStr _] ++ argPc op 0 a (F 0) from hi) with h | h
        · rw [List.mem_singleton.1 h]
          exact pcStr_ok w _
        · exact argPc_ok w op 0 a (F 0) (hs 0 (by simp)) hga i h
    · obtain ⟨a, b, rfl⟩ : ∃ a b, args = [a, b] := by
        match args, h2 with
        | [a, b], _ => exact ⟨a, b, rfl⟩
      have hga := hgs 0 (by simp)
      have hgb := hgs 1 (by simp)
      have hao : 2 ≤ a.op ∧ a.op ≤ 17 := hga.op
      have hbo : 2 ≤ b.op ∧ b.op ≤ 17 := hgb.op
      have hal := argPc_len op 0 a (F 0)
      have hbl := argPc_len op 1 b (F 1)
      refine ⟨?_, ?_, ?_, by simp [pcsOf]; omega⟩
      · show pcsT ((argPc op 0 a (F 0) ++ [pcStr _]) ++ argPc op 1 b (F 1)) = _
        rw [pcsT_app, pcsT_app, argPc_T op 0 a (F 0) (by omega) (by omega), argPc_T op 1 b (F 1) (by omega) (by omega)]
        simp only [exParts_cons, exParts_nil]
        unfold finText
        rw [if_neg (by omega), if_neg (by omega), if_neg (by omega), if_neg (by omega), sign_tab op ⟨o1, o2⟩]
        simp [pcsT, pcStr_T]
      · show pcsM ((argPc op 0 a (F 0) ++ [pcStr _]) ++ argPc op 1 b (F 1)) < _
        have h3 := argPc_M op 0 a (F 0) (by omega)
        have h4 := argPc_M op 1 b (F 1) (by omega)
        rw [pcsM_app, pcsM_app]
        simp only [pcsM, pcStr_M, exCnts]
        omega
      · intro i hi
        rcases List.mem_append.1 (show i ∈ (argPc op 0 a (F 0) ++ [pcStr _]) ++ argPc op 1 b (F 1) from hi) with h | h
        · rcases List.mem_append.1 h with h | h
          · exact argPc_ok w op 0 a (F 0) (hs 0 (by simp)) hga i h
          · rw [List.mem_singleton.1 h]
            exact pcStr_ok w _
        · exact argPc_ok w op 1 b (F 1) (hs 1 (by simp)) hgb i h

set_option maxRecDepth 100000 in
set_option maxHeartbeats 1000000 in
theorem piecesN_any (w : World) (num : Int) (name : List UInt8) (A : Option Addr) (n c : Nat) :
    Calls Tryd.prog 77 #[.agg #[.int .i64 2, .int .i64 num, .string ⟨name.toArray⟩, .slice A n c]] w (PcPost w [pcStr name]) := by
  have hb0 : Below w.heap.size w (w.alloc (.cells #[.int .i64 2, .int .i64 num, .string ⟨name.toArray⟩, .slice A n c] 25)) := (Below.refl _ _).alloc (Nat.le_refl _) _
  have HB0 := Lib.hid hb0
  clear hb0
  go_enter Tryd.func77, Tryd.ntmps77
  go_wp2_with fail
  go_ret
  have h := pc_lit HB0.out [pcStr name] (by simp) #[.string ⟨name.toArray⟩, .int .i64 0, .int .i64 0, .string ⟨#[]⟩, .slice none 0 0] rfl 1 rfl
  rw [show (w.alloc (.cells #[.int .i64 2, .int .i64 num, .string ⟨name.toArray⟩, .slice A n c] 25)).heap.size = w.heap.size + 1 by simp] at h
  exact h
theorem pieces_any (w : World) (op num : Int) (name : List UInt8) (args : List Ex) (A : Option Addr) (c : Nat) (F : Nat → EF) (hg : ExG (.mk op num name args)) (hal : args.length ≤ 1000000)
    (hc : ∀ i, i < args.length → ∃ b off, A = some ⟨b, off, none⟩ ∧ True ∧ EFat w b (off + i * 4) (F i)) (hs : ∀ i (h : i < args.length), ExM w (fun _ => True) args[i] (F i)) (hS : SgT w) :
    Calls Tryd.prog 77 #[.agg #[.int .i64 op, .int .i64 num, .string ⟨name.toArray⟩, .slice A args.length c]] w (PcPost w (pcsOf op name args F)) := by
  cases hg with
  | mk _ _ _ _ hn ha hgs =>
    rcases ha with ⟨rfl, h0⟩ | ⟨ho, h1⟩ | ⟨o1, o2, h2⟩
    · obtain rfl : args = [] := List.length_eq_zero_iff.1 h0
      exact piecesN_any w num name A 0 c
    · obtain ⟨a, rfl⟩ : ∃ a, args = [a] := List.length_eq_one_iff.1 h1
      obtain ⟨k, rfl⟩ := Int.eq_ofNat_of_zero_le (show 0 ≤ op by omega)
      obtain ⟨b, off, rfl, -, hat⟩ := hc 0 (by simp)
      rw [Nat.zero_mul, Nat.add_zero] at hat
      exact piecesU_any w k num name b off 1 c a (F 0) (by omega) (by omega) (by omega) hat (hs 0 (by simp)).op_eq hS
    · obtain ⟨a, b', rfl⟩ : ∃ a b, args = [a, b] := by
        match args, h2 with
        | [a, b], _ => exact ⟨a, b, rfl⟩
      obtain ⟨k, rfl⟩ := Int.eq_ofNat_of_zero_le (show 0 ≤ op by omega)
      obtain ⟨b, off, rfl, -, hat⟩ := hc 0 (by simp)
      obtain ⟨b1, off1, e1, -, hat1⟩ := hc 1 (by simp)
      injection e1 with e1
      injection e1 with e2 e3
      subst e2 e3
      rw [Nat.zero_mul, Nat.add_zero] at hat
      rw [Nat.one_mul] at hat1
      exact piecesB_any w k num name b off 2 c a b' (F 0) (F 1) (by omega) (by omega) (by omega) hat hat1 (hs 0 (by simp)).op_eq (hs 1 (by simp)).op_eq hS

end Go.Proofs.YtbnbmibfjobacaaDoor

namespace Go.Proofs.YtbnbmibfjobacaaDoor
open Go.RowKit

theorem join_flat (xs : List (List UInt8)) : Lib.join xs [] = xs.flatten := by
  unfold Lib.join
  induction xs with
  | nil => rfl
  | cons x r ih =>
    cases r with
    | nil => simp [List.intercalate]
    | cons y r =>
      rw [List.flatten_cons, ← ih]
      simp [List.intercalate, List.intersperse]
theorem join_own0 (xs : List (List UInt8)) (g c base : Nat) (w : World) (h : w.ownsRow base 9 1 (.slice (some ⟨g, 0, none⟩) xs.length c) xs.length (xs.map fun s => Value.string ⟨s.toArray⟩)) (hn : xs.length ≤ 100000000000) (hlen : xs.flatten.length ≤ 1000000000) :
    Calls Tryd.prog 79 #[.slice (some ⟨g, 0, none⟩) xs.length c, .string ⟨#[]⟩] w fun e w' => e = .returned (.string ⟨xs.flatten.toArray⟩) ∧ Below w.heap.size w w' := by
  have h' := h
  obtain ⟨_, h2⟩ := h'
  rcases h2 with ⟨e0, hz⟩ | ⟨g', cap, cur, e, _, hh, hcap, _⟩
  · cases e0
  · injection e with e1 _ e3
    injection e1 with e1
    injection e1 with e1
    subst e1 e3
    have hmap : (xs.map fun s => (⟨s.toArray⟩ : ByteArray)).map (·.data.toList) = xs := by
      rw [List.map_map]
      exact (List.map_congr_left (g := id) (fun a _ => by simp)).trans (List.map_id xs)
    have hl' : (xs.map fun s => (⟨s.toArray⟩ : ByteArray)).length = xs.length := by simp
    have hj := Tryd.strings_Join g 0 c (xs.map fun s => (⟨s.toArray⟩ : ByteArray)) ⟨#[]⟩ w (by
      intro j x hx
      have hjl : j < xs.length := by
        have := (List.getElem?_eq_some_iff.1 hx).1
        simpa using this
      have := World.ownsRow.cellAt h j (by omega)
      rw [Nat.zero_add, this]
      simp [List.getElem?_eq_getElem hjl] at hx ⊢
      exact hx) (lt_of_block hh) (by rw [hl']; omega) (by rw [hl']; exact hcap) (by rw [hmap, show (⟨#[]⟩ : ByteArray).data.toList = [] from rfl, join_flat]; omega)
    rw [hmap, hl', show (⟨#[]⟩ : ByteArray).data.toList = [] from rfl, join_flat] at hj
    exact hj
theorem reverse_own (xs : List (List UInt8)) (g c base : Nat) (w0 w : World) (hb : Below base w0 w) (h : w.ownsRow base 9 1 (.slice (some ⟨g, 0, none⟩) xs.length c) xs.length (xs.map fun s => Value.string ⟨s.toArray⟩)) (hn : xs.length ≤ 100000000000) :
    Calls Tryd.prog 78 #[.slice (some ⟨g, 0, none⟩) xs.length c] w fun e w' => e = .returned (.tuple #[]) ∧ w'.ownsRow base 9 1 (.slice (some ⟨g, 0, none⟩) xs.length c) xs.length (xs.reverse.map fun s => Value.string ⟨s.toArray⟩) ∧ Below base w0 w' := by
  have h0 : w.ownsRow base 9 1 (.slice (some ⟨g, 0, none⟩) xs.length c) xs.length (xs.map Proofs.encStr) := h
  obtain ⟨g', cap', e, hbg, _, _, _, _, hH⟩ := Lib.holds_of_ownsRow h0 (by intro e; cases e)
  injection e with e1 _ e3
  injection e1 with e1
  injection e1 with e1
  subst e1 e3
  refine (Tryd.slices_Reverse_string g 0 c xs w hH (by omega)).mono ?_
  rintro e w' ⟨rfl, q, rfl⟩
  refine ⟨rfl, ?_, Lib.below_putRow hb hbg⟩
  have := Lib.ownsRow_putRow (q := q) (ys := xs.reverse) h0 (by simp) (Nat.le_refl _)
  rw [List.take_of_length_le (by simp)] at this
  exact this

/-- what holds at the head of join's loop -/
def JnRel (w : World) (C : Nat) (T : List UInt8) (g : Nat) (l : List Pc) (ts : List (List UInt8)) (v3 v4 : Value) (wr : World) : Prop :=
  g = pcsM l ∧ ts.length + pcsM l ≤ C ∧ l.length ≤ pcsM l ∧ 0 < l.length + ts.length ∧ wr.ownsRow (w.heap.size + 1) 116 5 v4 l.length (pcCells l) ∧ wr.ownsRow (w.heap.size + 1) 9 1 v3 ts.length (ts.map fun s => Value.string ⟨s.toArray⟩) ∧
    (∀ i ∈ l, PcOk w i) ∧ Below w.heap.size w wr ∧ pcsT l ++ ts.reverse.flatten = T
theorem pcsM_len (l : List Pc) : l.length ≤ pcsM l := by
  induction l with
  | nil => simp
  | cons i r ih =>
    rw [pcsM]
    have : 1 ≤ pcM i := by
      unfold pcM
      split
      · omega
      · have := exCnt_pos i.x; omega
    simp
    omega
theorem pc_item (l : List Pc) (i : Pc) (j : Nat) (hj : j < 5) : (pcCells (l ++ [i]))[l.length * 5 + j]? = i.cells[j]? := by
  rw [pcCells_app, List.getElem?_append_right (by rw [pcCells_len]; omega), pcCells_len]
  have : pcCells [i] = i.cells := by simp [pcCells]
  rw [this]
  congr 1
  omega
/-- rows of different types lie in different blocks -/
theorem rows_apart {w : World} {B n m sz sz' : Nat} {e e' : TypeId} {v v' : Value} {xs ys : List Value} (h : w.ownsRow B e sz v n xs) (h' : w.ownsRow B e' sz' v' m ys) (hne : e ≠ e') : v.ownBlock = none ∨ v.ownBlock ≠ v'.ownBlock := by
  cases hv : v.ownBlock with
  | none => exact .inl rfl
  | some g =>
    refine .inr fun hg => ?_
    obtain ⟨c, fz, h1⟩ := Lib.ownsRow_kind h g hv
    obtain ⟨c', fz', h2⟩ := Lib.ownsRow_kind h' g hg.symm
    rw [h1] at h2
    injection h2 with h2
    injection h2 with _ h2
    exact hne h2

set_option maxRecDepth 100000 in
set_option maxHeartbeats 8000000 in
theorem join_any (w : World) (E : Ex) (op num : Int) (name : List UInt8) (A : Option Addr) (n c : Nat) (hM : ExM w (fun _ => True) E ⟨op, num, name, A, n, c⟩) (hG : ExG E) (hC : exCnt E ≤ 1000000000) (hT : (exText E).length ≤ 1000000000) (hS : SgT w) :
    Calls Tryd.prog 44 #[.agg #[.int .i64 op, .int .i64 num, .string ⟨name.toArray⟩, .slice A n c]] w fun e w' => e = .returned (.string ⟨(exText E).toArray⟩) ∧ Below w.heap.size w w' := by
  obtain ⟨i0, hi, hz0, hz1, hz2⟩ := info_parts Tryd.infoPc
  obtain ⟨j0, hj, hy0, hy1, hy2⟩ := info_parts Tryd.infoStr
  have hop := hG.op
  have HR0 : Hid (∃ l ts, JnRel w (8 * exCnt E) (exText E) (8 * exCnt E) l ts (.slice none 0 0) (.slice (some ⟨w.heap.size + 1, 0, none⟩) 1 1) ((w.alloc (.cells #[.int .i64 op, .int .i64 num, .string ⟨name.toArray⟩, .slice A n c] 25)).alloc (.cells #[.string ⟨#[]⟩, .int .i64 op, .int .i64 num, .string ⟨name.toArray⟩, .slice A n c] 116))) := by
    have hpm : pcsM [⟨[], E, ⟨op, num, name, A, n, c⟩⟩] = 8 * exCnt E := by
      show pcM _ + 0 = _
      unfold pcM
      rw [if_neg (by show ¬ E.op = 0; omega)]
      rfl
    have hpt : pcsT [⟨[], E, ⟨op, num, name, A, n, c⟩⟩] = exText E := by
      show pcT _ ++ [] = _
      unfold pcT
      rw [if_neg (by show ¬ E.op = 0; omega)]
      simp
    refine ⟨[⟨[], E, ⟨op, num, name, A, n, c⟩⟩], [], hpm.symm, by rw [hpm]; simp, pcsM_len _, by simp, ?_, World.ownsRow_nil _ _ _ _, ?_, ((Below.refl _ _).alloc (Nat.le_refl _) _).alloc (by simp) _, by rw [hpt]; simp⟩
    · have := World.ownsRow_lit (base := w.heap.size + 1) (e := 116) (size := 5) (w.alloc (.cells #[.int .i64 op, .int .i64 num, .string ⟨name.toArray⟩, .slice A n c] 25)) #[.string ⟨#[]⟩, .int .i64 op, .int .i64 num, .string ⟨name.toArray⟩, .slice A n c] 1 (by simp) (by unfold maxLen; omega) (by simp)
      rw [show (w.alloc (.cells #[.int .i64 op, .int .i64 num, .string ⟨name.toArray⟩, .slice A n c] 25)).heap.size = w.heap.size + 1 by simp] at this
      exact this
    · intro i hi
      simp at hi
      subst hi
      exact .inr ⟨hM, hG⟩
  have hC8 : 8 * exCnt E ≤ 8000000000 := by omega
  have HT := Lib.hid hT
  have HS := Lib.hid hS
  generalize exText E = T at *
  generalize 8 * exCnt E = C at *
  clear hM hG hC hT hS hop
  go_enter Tryd.func44, Tryd.ntmps44
  go_wp2_with fail
  go_loopg [3, 4] C (fun g v3 v4 wr => Hid (∃ l ts, JnRel w C T g l ts v3 v4 wr))
  case atStart => exact HR0
  case round =>
    clear HR0
    obtain ⟨l, ts, hg, hsum, hlm, hne0, hown, htx, hok, hbel, htext⟩ := hrel.out
    clear hrel
    rcases List.eq_nil_or_concat l with rfl | ⟨l, it, rfl⟩
    · have htn : 0 < ts.length := by simpa using hne0
      obtain ⟨sa4, sc4, rfl⟩ := owns_form hown
      obtain ⟨sa3, sc3, rfl⟩ := owns_form htx
      obtain ⟨g3, rfl⟩ := owns_some htx htn
      have HTX : Hid (ts.reverse.flatten = T) := by
        show _ = T
        simpa [pcsT] using htext
      have htl : ts.length ≤ 8000000000 := by omega
      have HO3 := Lib.hid (own_le (base' := w.heap.size) htx (by omega))
      have HBE := Lib.hid hbel
      clear hown htx hok hbel htext hsum hg hlm hne0
      dsimp only [List.length_nil]
      go_wp2_with fail
      refine (reverse_own ts g3 sc3 w.heap.size w wr HBE.out HO3.out (by omega)).mono ?_
      rintro e w2 ⟨rfl, ho2, hb2⟩
      have HO2 := Lib.hid ho2
      have HB2 := Lib.hid hb2
      clear ho2 hb2
      go_wp2_with fail
      have hrl : ts.reverse.length = ts.length := List.length_reverse
      have HJ := Lib.hid (join_own0 ts.reverse g3 sc3 w.heap.size w2)
      rw [hrl] at HJ
      refine (HJ.out HO2.out (by omega) (by rw [HTX.out]; exact HT.out)).mono ?_
      rintro e w3 ⟨rfl, hb3⟩
      rw [HTX.out]
      have HB3 := Lib.hid (below_rev' hb3 HB2.out)
      clear hb3 hrl
      go_wp2_with fail
      go_ret
      exact ⟨rfl, HB3.out⟩
    · rw [List.concat_eq_append] at *
      obtain ⟨s, x, fi⟩ := it
      have hlen : (l ++ [(⟨s, x, fi⟩ : Pc)]).length = l.length + 1 := by simp
      rw [hlen] at hown hlm
      obtain ⟨sa, cap, rfl⟩ := owns_form hown
      obtain ⟨gb, rfl⟩ := owns_some hown (by omega)
      obtain ⟨sa3, sc3, rfl⟩ := owns_form htx
      have hll : l.length + 1 ≤ 8000000000 := by omega
      have htl : ts.length ≤ 8000000000 := by omega
      have q : ∀ j, j < 5 → wr.cell? ⟨gb, l.length * 5 + j, none⟩ = [Value.string ⟨s.toArray⟩, .int .i64 fi.op, .int .i64 fi.num, .string ⟨fi.name.toArray⟩, .slice fi.A fi.n fi.c][j]? := fun j hj => (World.ownsRow.cellAt hown _ (by omega)).trans (pc_item l ⟨s, x, fi⟩ j hj)
      have q0 : wr.cell? ⟨gb, l.length * 5, none⟩ = some (.string ⟨s.toArray⟩) := q 0 (by omega)
      have q1 : wr.cell? ⟨gb, l.length * 5 + 1, none⟩ = some (.int .i64 fi.op) := q 1 (by omega)
      have q2 : wr.cell? ⟨gb, l.length * 5 + 2, none⟩ = some (.int .i64 fi.num) := q 2 (by omega)
      have q3 : wr.cell? ⟨gb, l.length * 5 + 3, none⟩ = some (.string ⟨fi.name.toArray⟩) := q 3 (by omega)
      have q4 : wr.cell? ⟨gb, l.length * 5 + 4, none⟩ = some (.slice fi.A fi.n fi.c) := q 4 (by omega)
      have hown2 : wr.ownsRow (w.heap.size + 1) 116 5 (.slice (some ⟨gb, 0, none⟩) l.length cap) l.length (pcCells l) := by
        refine ownsRow_pop (last := (⟨s, x, fi⟩ : Pc).cells) (pcCells_len l) ?_
        have e1 : pcCells [(⟨s, x, fi⟩ : Pc)] = (⟨s, x, fi⟩ : Pc).cells := by simp [pcCells]
        rw [← e1, ← pcCells_app]
        exact hown
      have hcap : l.length + 1 ≤ cap := by
        rcases hown.2 with ⟨h0, _⟩ | ⟨g', cap', cur, e', _, _, hle, _⟩
        · cases h0
        · injection e' with _ _ e3
          omega
      have hit : PcOk w ⟨s, x, fi⟩ := hok _ (by simp)
      have HOK : Hid (∀ i ∈ l, PcOk w i) := fun i hi => hok i (by simp [hi])
      have HSM : Hid (ts.length + (pcsM l + pcM ⟨s, x, fi⟩) ≤ C ∧ gk = pcsM l + pcM ⟨s, x, fi⟩) := by
        rw [pcsM_app] at hsum hg
        simp only [pcsM] at hsum hg
        exact ⟨by omega, by omega⟩
      have HTT : Hid (pcsT l ++ (pcT ⟨s, x, fi⟩ ++ ts.reverse.flatten) = T) := by
        rw [pcsT_app, show pcsT [(⟨s, x, fi⟩ : Pc)] = pcT ⟨s, x, fi⟩ by simp [pcsT], List.append_assoc] at htext
        exact htext
      have HO := Lib.hid hown2
      have HX3 := Lib.hid htx
      have HBE := Lib.hid hbel
      have hws : w.heap.size ≤ wr.heap.size := hbel.size
      clear hown hown2 htx hok hbel htext hsum hg q hlen hlm hne0
      rcases hit with ⟨hx0, hf0⟩ | ⟨hMx, hGx⟩
      · dsimp only at hx0 hf0
        have t0 := bT hf0
        have HPM : Hid (pcM ⟨s, x, fi⟩ = 1) := if_pos hx0
        have HPT : Hid (pcT ⟨s, x, fi⟩ = s) := if_pos hx0
        clear hx0 hf0
        go_wp2_with (first | (at_builtin; refine wpList_append_lies _ rfl _ _ _ rfl (w.heap.size + 1) 9 j0 _ 1 16 Tryd.underlying33 hj hy0 hy1 hy2 rfl (by decide) (.slice sa3 ts.length sc3) ts.length (ts.map fun s => Value.string ⟨s.toArray⟩) rfl ((HX3.out.alloc _).alloc _) ⟨wr.heap.size + 1, 0, none⟩ 1 1 [.string ⟨s.toArray⟩] rfl rfl (news_one (wr.alloc _) (wr.heap.size + 1) (by simp) _ _) (one_one _) (by omega) (by unfold maxLen; omega) (by omega) (by simp; omega) (wr.heap.size + 2) (by simp) ?_))
        intro g5 cap5 w5 hown5 hgrow hat5 hlt5
        have HO5 := Lib.hid hown5
        have HP5 := Lib.hid (World.ownsRow.kept ((HO.out.alloc _).alloc _) hgrow (rows_apart HO.out HX3.out (by decide)))
        have HB5 : Hid (Below w.heap.size w w5) := (((HBE.out.alloc hws _).alloc (by simp; omega) _).grown hgrow (by simp; omega) (fun k hk => by have := (owns_block HX3.out k hk).1; omega))
        clear hown5 hgrow hat5 hlt5 q0 q1 q2 q3 q4
        go_wp2_with fail
        go_roundg (pcsM l)
        case rel =>
          have h1 := HSM.out
          have h2 := HPM.out
          refine ⟨l, ts ++ [s], rfl, ?_, pcsM_len l, by simp <;> omega, HP5.out, ?_, HOK.out, HB5.out, ?_⟩
          · simp
            omega
          · have h3 := HO5.out
            have e1 : (ts ++ [s]).length = ts.length + 1 := by simp
            rw [e1, List.map_append]
            exact h3
          · have h4 := HTT.out
            rw [HPT.out] at h4
            simpa using h4
        case measure =>
          have h1 := HSM.out
          have h2 := HPM.out
          omega
      · cases hMx with
        | mk op' num' name' args A' c' F hcc hss =>
        have hop := hGx.op
        have hop' : 2 ≤ op' ∧ op' ≤ 17 := hop
        have t0 := bF (show op' ≠ 0 by omega)
        have hx0 : ¬ (⟨s, .mk op' num' name' args, ⟨op', num', name', A', args.length, c'⟩⟩ : Pc).x.op = 0 := by show ¬ op' = 0; omega
        have HPM : Hid (pcM ⟨s, .mk op' num' name' args, ⟨op', num', name', A', args.length, c'⟩⟩ = 8 * exCnt (.mk op' num' name' args)) := if_neg hx0
        have HPT : Hid (pcT ⟨s, .mk op' num' name' args, ⟨op', num', name', A', args.length, c'⟩⟩ = exText (.mk op' num' name' args)) := if_neg hx0
        have hal : args.length ≤ 2 := by
          cases hGx with
          | mk _ _ _ _ hn ha hs => omega
        have HPA := Lib.hid (pcs_all w op' num' name' args F hGx hss)
        have hpl : 1 ≤ (pcsOf op' name' args F).length ∧ (pcsOf op' name' args F).length ≤ 7 := by
          refine ⟨?_, HPA.out.2.2.2⟩
          unfold pcsOf
          split
          · simp
          · simp
          · have := argPc_len op' 0
            simp
            omega
        have hbW : Below w.heap.size w (wr.alloc (.cells #[.string ⟨s.toArray⟩, .int .i64 op', .int .i64 num', .string ⟨name'.toArray⟩, .slice A' args.length c'] 116)) := HBE.out.alloc hws _
        have HPC := Lib.hid (pieces_any (wr.alloc (.cells #[.string ⟨s.toArray⟩, .int .i64 op', .int .i64 num', .string ⟨name'.toArray⟩, .slice A' args.length c'] 116)) op' num' name' args A' c' F hGx (by omega) (fun i hi => by
          obtain ⟨b, off, e, h1, hat⟩ := hcc i hi
          exact ⟨b, off, e, h1, hat.keep (hbW.block b hat.lt)⟩) (fun i hi => (hss i hi).later hbW) (HS.out.later hbW))
        have HBW := Lib.hid hbW
        clear hcc hss hGx hop hop' hx0 hbW
        dsimp only at q0 q1 q2 q3 q4
        generalize pcsOf op' name' args F = PL at *
        go_wp2_with fail
        refine HPC.out.mono ?_
        rintro e w2 ⟨g2, cc2, rfl, hown2, hb2⟩
        have HO2 := Lib.hid (owns_later (HO.out.alloc _) hb2)
        have HX2 := Lib.hid (owns_later (HX3.out.alloc _) hb2)
        have HN2 := Lib.hid hown2
        have HB2 := Lib.hid (below_rev' hb2 HBW.out)
        have hw2 : w.heap.size + 1 ≤ w2.heap.size := by have := hb2.size; simp at this; omega
        clear hown2 hb2 q0 q1 q2 q3 q4
        go_wp2_with (first | (at_builtin; refine wpList_append_lies _ rfl _ _ _ rfl (w.heap.size + 1) 116 i0 _ 5 72 Tryd.underlying117 hi hz0 hz1 hz2 rfl (by decide) (.slice (some ⟨gb, 0, none⟩) l.length cap) l.length (pcCells l) rfl HO2.out ⟨g2, 0, none⟩ PL.length cc2 (pcCells PL) rfl (pcCells_len PL) (own_cells HN2.out) (pcCells_one PL) (by omega) (by unfold maxLen; omega) (by omega) hw2 w2.heap.size rfl ?_))
        intro g5 cap5 w5 hown5 hgrow hat5 hlt5
        have HO5 := Lib.hid hown5
        have HP5 := Lib.hid (World.ownsRow.kept HX2.out hgrow (rows_apart HX2.out HO2.out (by decide)))
        have HB5 : Hid (Below w.heap.size w w5) := HB2.out.grown hgrow HB2.out.size (fun k hk => by have := (owns_block HO2.out k hk).1; omega)
        clear hown5 hgrow hat5 hlt5
        go_wp2_with fail
        go_roundg (pcsM (l ++ PL))
        case rel =>
          have h1 := HSM.out
          have h2 := HPM.out
          obtain ⟨p1, p2, p3, p4⟩ := HPA.out
          refine ⟨l ++ PL, ts, rfl, ?_, pcsM_len _, by simp; omega, ?_, HP5.out, ?_, HB5.out, ?_⟩
          · rw [pcsM_app]
            omega
          · rw [List.length_append, pcCells_app]
            exact HO5.out
          · intro i hi
            rcases List.mem_append.1 hi with h | h
            · exact HOK.out i h
            · exact p3 i h
          · have h4 := HTT.out
            rw [HPT.out, ← p1] at h4
            rw [pcsT_app, List.append_assoc]
            exact h4
        case measure =>
          have h1 := HSM.out
          have h2 := HPM.out
          obtain ⟨p1, p2, p3, p4⟩ := HPA.out
          rw [pcsM_app]
          omega

set_option maxRecDepth 100000 in
set_option maxHeartbeats 1000000 in
/-- Format of a valid expression without numbers -/
theorem format_any (w : World) (E : Ex) (op num : Int) (name : List UInt8) (A : Option Addr) (n c : Nat) (hM : ExM w (fun _ => True) E ⟨op, num, name, A, n, c⟩) (hB : ExB E) (hG : ExG E) (hV : exV E 0 = true) (hC : exCnt E ≤ 1000000000) (hT : (exText E).length ≤ 1000000000) (hS : SgT w) :
    Calls Tryd.prog 27 #[.agg #[.int .i64 op, .int .i64 num, .string ⟨name.toArray⟩, .slice A n c]] w fun e w' => e = .returned (.string ⟨(exText E).toArray⟩) ∧ Below w.heap.size w w' := by
  have hb0 : Below w.heap.size w (w.alloc (.cells #[.int .i64 op, .int .i64 num, .string ⟨name.toArray⟩, .slice A n c] 25)) := (Below.refl _ _).alloc (Nat.le_refl _) _
  have HV := Lib.hid (valid_any _ E op num name A n c (hM.later hb0) hB (by omega))
  have HJ := Lib.hid (fun W (hb : Below w.heap.size w W) => join_any W E op num name A n c (hM.later hb) hG hC hT (hS.later hb))
  have HB0 := Lib.hid hb0
  have HVV := Lib.hid hV
  clear hM hB hG hC hT hS hb0 hV
  generalize exText E = T at *
  go_enter Tryd.func27, Tryd.ntmps27
  go_wp2_with fail
  refine HV.out.mono ?_
  rintro e w1 ⟨rfl, hb1⟩
  rw [HVV.out]
  obtain ⟨q0, q1, q2, q3, -, -, -, -, -⟩ := blk4 ((hb1.block _ (by simp)).trans (heap_alloc_new w _))
  have HB1 := Lib.hid (below_rev' hb1 HB0.out)
  clear hb1
  go_wp2_with fail
  refine (HJ.out w1 HB1.out).mono ?_
  rintro e w2 ⟨rfl, hb2⟩
  have HB2 := Lib.hid (below_rev' hb2 HB1.out)
  clear hb2
  go_wp2_with fail
  go_ret
  exact ⟨rfl, HB2.out⟩

end Go.Proofs.YtbnbmibfjobacaaDoor

namespace Go.Proofs.YtbnbmibfjobacaaDoor
open Go.RowKit

def nm3 : List (List UInt8) := [[97], [98], [120, 49]]
/-- the expression that is made of numbers -/
def madeG (xs : List Int) : Ex := (exprG nm3 (xs.take 100) (1 + nextV (xs.take 100) 0 5) (nextI (xs.take 100) 0)).1
/-- the slice at A holds the numbers xs, which fit -/
def IntR (w : World) (A : Option Addr) (xs : List Int) : Prop :=
  ∀ i (h : i < xs.length), ∃ b off, A = some ⟨b, off, none⟩ ∧ w.cell? ⟨b, off + i, none⟩ = some (.int .i64 xs[i]) ∧ -9223372036854775808 ≤ xs[i] ∧ xs[i] ≤ 9223372036854775807
theorem IntR.later {w w' : World} {A : Option Addr} {xs : List Int} (h : IntR w A xs) (hb : Below w.heap.size w w') : IntR w' A xs := by
  intro i hi
  obtain ⟨b, off, e, hc, r⟩ := h i hi
  exact ⟨b, off, e, cell_later hb hc, r⟩

set_option maxHeartbeats 1000000 in
theorem cut_any (xs : List Int) (A : Option Addr) (cap : Nat) (w : World) (hR : IntR w A xs) (hc : xs.length ≤ cap) (hm : xs.length ≤ 9223372036854775807) :
    Calls Tryd.prog 15 #[.slice A xs.length cap, .int .i64 100] w fun e w' => e = .returned (.slice A (xs.take 100).length cap) ∧ w = w' := by
  by_cases h : 100 < xs.length
  · obtain ⟨b, off, rfl, -⟩ := hR 0 (by omega)
    have HL : Hid ((xs.take 100).length = 100) := by show _ = _; simp; omega
    have hcap : 100 ≤ cap := by omega
    clear hR
    go_enter Tryd.func15, Tryd.ntmps15
    go_wp2
    go_ret
    exact ⟨by rw [HL.out]; rfl, rfl⟩
  · have HL : Hid ((xs.take 100).length = xs.length) := by show _ = _; simp; omega
    clear hR
    go_enter Tryd.func15, Tryd.ntmps15
    go_wp2
    go_ret
    exact ⟨by rw [HL.out]; rfl, rfl⟩

/-- what Expr leaves -/
def MadePost (w : World) (E : Ex) (e : Ending) (w' : World) : Prop :=
  ∃ num name A n c, e = .returned (.agg #[.int .i64 E.op, .int .i64 num, .string ⟨name.toArray⟩, .slice A n c]) ∧ ExM w' (w.heap.size ≤ ·) E ⟨E.op, num, name, A, n, c⟩ ∧ Below w.heap.size w w'

theorem made_src {w : World} {A : Option Addr} {xs : List Int} {cap : Nat} (hR : IntR w A xs) (hx : xs.length ≤ 1000) (Z N : Obj) :
    Src (((w.alloc Z).alloc (.cells #[.slice A xs.length cap, .int .i64 0] 38)).alloc N) (w.heap.size + 1) xs 0 := by
  have hk : ∀ b, b < w.heap.size → (((w.alloc Z).alloc (.cells #[.slice A xs.length cap, .int .i64 0] 38)).alloc N).heap[b]? = w.heap[b]? := fun b hb =>
    (Below.heap_alloc _ _ b (by simp; omega)).trans ((Below.heap_alloc _ _ b (by simp; omega)).trans (Below.heap_alloc w Z b hb))
  refine ⟨A, cap, ?_, by omega, hx, fun k hkk => ?_⟩
  · refine (Below.heap_alloc _ _ _ (by simp)).trans ?_
    have := heap_alloc_new (w.alloc Z) (.cells #[.slice A xs.length cap, .int .i64 0] 38)
    rw [show (w.alloc Z).heap.size = w.heap.size + 1 by simp] at this
    exact this
  · obtain ⟨b, off, e, hc, r⟩ := hR k hkk
    have hbl : b < w.heap.size := World.block_lt_of_cell? _ _ hc
    exact ⟨b, off, e, by omega, (World.cell?_of_block (hk b hbl)).trans hc, r⟩
theorem made_names (W : World) (g : Nat) (hg : g ≠ W.heap.size) : StrN (W.alloc (.cells #[.string ⟨#[97]⟩, .string ⟨#[98]⟩, .string ⟨#[120, 49]⟩] 9)) g (some ⟨W.heap.size, 0, none⟩) nm3 := by
  intro i hi
  refine ⟨W.heap.size, 0, rfl, fun e => hg e.symm, ?_⟩
  rw [Nat.zero_add, World.cell?_alloc_mark]
  have hi3 : i < 3 := hi
  have hc : i = 0 ∨ i = 1 ∨ i = 2 := by omega
  rcases hc with rfl | rfl | rfl <;> rfl

set_option maxRecDepth 100000 in
set_option maxHeartbeats 4000000 in
theorem madeExpr_any (xs : List Int) (A : Option Addr) (cap : Nat) (w : World) (hR : IntR w A xs) (hc : xs.length ≤ cap) (hm : xs.length ≤ 9223372036854775807) :
    Calls Tryd.prog 8 #[.slice A xs.length cap] w (MadePost w (madeG xs)) := by
  have hb0 : Below w.heap.size w (w.alloc (.cells #[.int .i64 0, .int .i64 0, .string ⟨#[]⟩, .slice none 0 0] 25)) := (Below.refl _ _).alloc (Nat.le_refl _) _
  have HCUT := Lib.hid (cut_any xs A cap _ (hR.later hb0) hc hm)
  have hR2 : IntR w A (xs.take 100) := fun i hi => by
    have h1 : i < xs.length := by simp at hi; omega
    obtain ⟨b, off, e, h2, r⟩ := hR i h1
    exact ⟨b, off, e, by simpa using h2, by simpa using r⟩
  have hx : (xs.take 100).length ≤ 1000 := by simp; omega
  have HG : Hid (madeG xs = (exprG nm3 (xs.take 100) (1 + nextV (xs.take 100) 0 5) (nextI (xs.take 100) 0)).1) := rfl
  clear hR hc hm hb0
  generalize xs.take 100 = ys at *
  have HSRC := Lib.hid (fun (Z N : Obj) => made_src (cap := cap) hR2 hx Z N)
  have hn5 := nextV_lt ys 0 5 (by omega)
  clear hR2
  go_enter Tryd.func8, Tryd.ntmps8
  go_wp2_with fail
  refine HCUT.out.mono ?_
  rintro e w1 ⟨rfl, rfl⟩
  go_wp2_with fail
  refine (next_any _ (w.heap.size + 1) ys 0 5 (HSRC.out _ _) (by omega) (by omega)).mono ?_
  rintro e w2 ⟨rfl, hS2, hG2⟩
  rw [show (5 : Int).toNat = 5 from rfl]
  have hW3 : (((w.alloc (.cells #[.int .i64 0, .int .i64 0, .string ⟨#[]⟩, .slice none 0 0] 25)).alloc (.cells #[.slice A ys.length cap, .int .i64 0] 38)).alloc (.cells #[.string ⟨#[97]⟩, .string ⟨#[98]⟩, .string ⟨#[120, 49]⟩] 9)).heap.size = w.heap.size + 3 := by simp
  have hN0 := made_names ((w.alloc (.cells #[.int .i64 0, .int .i64 0, .string ⟨#[]⟩, .slice none 0 0] 25)).alloc (.cells #[.slice A ys.length cap, .int .i64 0] 38)) (w.heap.size + 1) (by simp)
  rw [show ((w.alloc (.cells #[.int .i64 0, .int .i64 0, .string ⟨#[]⟩, .slice none 0 0] 25)).alloc (.cells #[.slice A ys.length cap, .int .i64 0] 38)).heap.size = w.heap.size + 2 by simp] at hN0
  have HN2 := Lib.hid (hN0.grown hG2)
  have HS2 := Lib.hid hS2
  have HG2 := Lib.hid hG2
  clear hS2 hG2 hN0
  generalize hk5 : nextV ys 0 5 = k at *
  clear hk5
  go_wp2_with fail
  have HX := Lib.hid (srcExpr_any nm3 ys (w.heap.size + 1) (some ⟨w.heap.size + 2, 0, none⟩) 3 (by decide) (1 + k) (nextI ys 0) w2 (by omega) HS2.out HN2.out)
  rw [show (((1 + k : Nat) : Nat) : Int) = 1 + (k : Int) by omega] at HX
  refine HX.out.mono ?_
  rintro e w3 ⟨f, rfl, hE, -, hG3⟩
  rw [← HG.out] at hE
  have hG := grown_trans HG2.out hG3
  have hr : w3.heap[w.heap.size]? = some (.cells #[.int .i64 0, .int .i64 0, .string ⟨#[]⟩, .slice none 0 0] 25 (0, 0)) := by
    refine (hG.block _ (by omega) (fun e => by injection e with e; omega)).trans ?_
    refine (Below.heap_alloc _ _ _ (by simp; omega)).trans ((Below.heap_alloc _ _ _ (by simp)).trans (heap_alloc_new w _))
  have hs2 := HG2.out.size
  have hB3 : Below w.heap.size w w3 := ⟨hG.os, hG.tape, hG.output, by have := hG.size; omega, fun b hb => (hG.block b (by omega) (fun e => by injection e with e; omega)).trans ((Below.heap_alloc _ _ b (by simp; omega)).trans ((Below.heap_alloc _ _ b (by simp; omega)).trans (Below.heap_alloc w _ b hb)))⟩
  obtain ⟨q0, q1, q2, q3, f0, f1, f2, f3, hl⟩ := blk4 hr
  have hop := hE.op_eq
  have HE : Hid (ExM w3 (w.heap.size < ·) (madeG xs) f) := hE.more fun b hb => by omega
  have HB3 := Lib.hid hB3
  clear hE hG hG3 hB3 hr hs2 HX HN2 HS2 HG2 HSRC HCUT
  obtain ⟨op, num, name, A', n', c'⟩ := f
  dsimp only at hop
  have HOP := Lib.hid hop
  clear hop
  unfold EF.val
  dsimp only
  go_wp2_with fail
  refine bodyPost_ret (v := .agg #[.int .i64 op, .int .i64 num, .string ⟨name.toArray⟩, .slice A' n' c']) (by simp [results, Tryd.results8, go_sem, q0, q1, q2, q3]) rfl ?_
  refine ⟨num, name, A', n', c', by rw [HOP.out], ?_, ?_⟩
  · rw [← HOP.out]
    exact (HE.out.keep fun b hb hlt => set4_keep w3 w.heap.size _ _ _ _ b (by omega)).more fun b hb => by omega
  · obtain ⟨s1, s2, s3⟩ := set4_os w3 w.heap.size (.int .i64 op) (.int .i64 num) (.string ⟨name.toArray⟩) (.slice A' n' c')
    have hb := HB3.out
    exact ⟨s1.trans hb.os, s2.trans hb.tape, s3.trans hb.output, by have := set4_size w3 w.heap.size (.int .i64 op) (.int .i64 num) (.string ⟨name.toArray⟩) (.slice A' n' c'); have := hb.size; show w.heap.size ≤ (set4 w3 w.heap.size (.int .i64 op) (.int .i64 num) (.string ⟨name.toArray⟩) (.slice A' n' c')).heap.size; omega, fun b hbb => (set4_keep w3 w.heap.size (.int .i64 op) (.int .i64 num) (.string ⟨name.toArray⟩) (.slice A' n' c') b (by omega)).trans (hb.block b hbb)⟩

/-- made expressions have the stated Args, short names, few parts -/
theorem exprG_ok (xs : List Int) (d : Nat) : ∀ i, ExOk (exprG nm3 xs d i).1 ∧ ExB (exprG nm3 xs d i).1 ∧ exCnt (exprG nm3 xs d i).1 < 2 ^ (d + 1) := by
  have leaf : ∀ i, ExOk (exprG.leafG nm3 xs i).1 ∧ ExB (exprG.leafG nm3 xs i).1 ∧ exCnt (exprG.leafG nm3 xs i).1 = 1 := by
    intro i
    unfold exprG.leafG
    split
    · refine ⟨.mk _ _ _ _ (by omega) (.inl ⟨.inr rfl, rfl⟩) (fun j hj => absurd hj (by simp)), .mk _ _ _ _ (by simp) ?_ (fun j hj => absurd hj (by simp)), by rw [exCnt]; rfl⟩
      generalize nextV xs (nextI xs i) nm3.length = k
      have : ∀ k, (nm3.getD k []).length ≤ 2 := fun k => by
        by_cases h : k < 3
        · have : ∀ k, k < 3 → (nm3.getD k []).length ≤ 2 := by decide
          exact this k h
        · rw [List.getD_eq_getElem?_getD, List.getElem?_eq_none (by show 3 ≤ k; omega)]
          simp
      have := this k
      omega
    · dsimp only
      have hn : ∀ j, (numG xs j).1 ≤ 4611686018427387904 := fun j => by
        unfold numG
        split
        · have := nextV_lt xs (nextI xs j) 4611686018427387904 (by omega)
          dsimp only
          omega
        · have := nextV_lt xs (nextI xs j) 4 (by omega)
          dsimp only
          omega
      refine ⟨.mk _ _ _ _ ?_ (.inl ⟨.inl rfl, rfl⟩) (fun j hj => absurd hj (by simp)), .mk _ _ _ _ (by simp) (by simp) (fun j hj => absurd hj (by simp)), by rw [exCnt]; rfl⟩
      have := hn (if 0 < nm3.length then nextI xs i else i)
      omega
  induction d with
  | zero =>
    intro i
    obtain ⟨h1, h2, h3⟩ := leaf (nextI xs i)
    have e : exprG nm3 xs 0 i = exprG.leafG nm3 xs (nextI xs i) := by rw [exprG]
    rw [e]
    exact ⟨h1, h2, by rw [h3]; omega⟩
  | succ d ih =>
    intro i
    have hp : 2 ^ (d + 1 + 1) = 2 * 2 ^ (d + 1) := by rw [Nat.pow_succ]; omega
    by_cases h2 : nextV xs i 10 < 2
    · rw [exprG_leaf nm3 xs d i h2]
      obtain ⟨h1, h3, h4⟩ := leaf (nextI xs i)
      have : 0 < 2 ^ (d + 1) := Nat.pow_pos (by omega)
      exact ⟨h1, h3, by omega⟩
    · by_cases h4 : nextV xs i 10 < 4
      · rw [exprG_un nm3 xs d i h2 h4]
        obtain ⟨a1, a2, a3⟩ := ih (nextI xs i)
        refine ⟨.mk _ _ _ _ (by omega) (.inr (.inl ⟨by omega, rfl⟩)) (fun j hj => ?_), .mk _ _ _ _ (by simp) (by simp) (fun j hj => ?_), ?_⟩
        · have : j = 0 := by simpa using hj
          subst this
          exact a1
        · have : j = 0 := by simpa using hj
          subst this
          exact a2
        · rw [exCnt, exCnts, exCnts]
          omega
      · rw [exprG_bin nm3 xs d i h2 h4]
        have hv := nextV_lt xs (nextI xs i) 13 (by omega)
        obtain ⟨a1, a2, a3⟩ := ih (nextI xs (nextI xs i))
        obtain ⟨b1, b2, b3⟩ := ih (exprG nm3 xs d (nextI xs (nextI xs i))).2
        refine ⟨.mk _ _ _ _ (by omega) (.inr (.inr ⟨by omega, by omega, rfl⟩)) (fun j hj => ?_), .mk _ _ _ _ (by simp) (by simp) (fun j hj => ?_), ?_⟩
        · have : j = 0 ∨ j = 1 := by simp at hj; omega
          rcases this with rfl | rfl
          · exact a1
          · exact b1
        · have : j = 0 ∨ j = 1 := by simp at hj; omega
          rcases this with rfl | rfl
          · exact a2
          · exact b2
        · rw [exCnt, exCnts, exCnts, exCnts]
          omega
theorem madeG_ok (xs : List Int) : ExOk (madeG xs) ∧ ExB (madeG xs) ∧ exCnt (madeG xs) ≤ 64 := by
  have hn5 := nextV_lt (xs.take 100) 0 5 (by omega)
  obtain ⟨h1, h2, h3⟩ := exprG_ok (xs.take 100) (1 + nextV (xs.take 100) 0 5) (nextI (xs.take 100) 0)
  refine ⟨h1, h2, ?_⟩
  have : 2 ^ (1 + nextV (xs.take 100) 0 5 + 1) ≤ 2 ^ 6 := Nat.pow_le_pow_right (by omega) (by omega)
  have h4 : exCnt (madeG xs) < 2 ^ (1 + nextV (xs.take 100) 0 5 + 1) := h3
  omega

/-- the two heights are the same -/
theorem height_same (E : Ex) (h : ExOk E) : ∀ a, exDm E a = a + exHt E := by
  induction h with
  | mk op num name args hn ha hs ih =>
    intro a
    rw [exDm_mk, exHt_mk]
    rcases ha with ⟨ho, h0⟩ | ⟨ho, h1⟩ | ⟨o1, o2, h2⟩
    · obtain rfl : args = [] := List.length_eq_zero_iff.1 h0
      rw [exDms, exHts_nil]
      have : strV op ≠ 5 := by rcases ho with rfl | rfl <;> decide
      rw [if_neg this]
      omega
    · obtain ⟨x, rfl⟩ : ∃ x, args = [x] := List.length_eq_one_iff.1 h1
      have hx := ih 0 (by simp)
      simp only [List.getElem_cons_zero] at hx
      have hxo : 1 ≤ x.op ∧ x.op ≤ 17 := by
        have := hs 0 (by simp)
        simp only [List.getElem_cons_zero] at this
        cases this with
        | mk op' _ _ _ _ ha' _ => show 1 ≤ op' ∧ op' ≤ 17; omega
      rw [exDms, exDms, exHts_cons, exHts_nil, hx]
      have h5 : strV op = 5 := by rcases ho with rfl | rfl <;> rfl
      have hu : unB op = true := by rcases ho with rfl | rfl <;> rfl
      rw [if_pos h5]
      unfold htPart addV
      rw [hu, inPar_inner op x.op 0 (by omega) hxo]
      simp only [if_true]
      split <;> omega
    · obtain ⟨x, y, rfl⟩ : ∃ x y, args = [x, y] := by
        match args, h2 with
        | [x, y], _ => exact ⟨x, y, rfl⟩
      have hx := ih 0 (by simp)
      have hy := ih 1 (by simp)
      simp only [List.getElem_cons_zero, List.getElem_cons_succ] at hx hy
      have hop : ∀ z, ExOk z → 1 ≤ z.op ∧ z.op ≤ 17 := fun z hz => by
        cases hz with
        | mk op' _ _ _ _ ha' _ => show 1 ≤ op' ∧ op' ≤ 17; omega
      have hxo := hop x (by simpa using hs 0 (by simp))
      have hyo := hop y (by simpa using hs 1 (by simp))
      rw [exDms, exDms, exDms, exHts_cons, exHts_cons, exHts_nil, hx, hy]
      have h5 : strV op ≠ 5 := by unfold strV; (repeat' split) <;> omega
      have hu : unB op = false := by
        unfold unB
        rw [bF (show op ≠ 3 by omega), bF (show op ≠ 4 by omega)]
        rfl
      rw [if_neg h5]
      unfold htPart addV
      rw [hu, inPar_inner op x.op 0 (by omega) hxo, inPar_inner op y.op 1 (by omega) hyo]
      simp only [Bool.false_eq_true, if_false, Nat.zero_add]
      split <;> split <;> omega
theorem height_le (E : Ex) (h : ExOk E) : exHt E ≤ 2 * exCnt E := by
  induction h with
  | mk op num name args hn ha hs ih =>
    rw [exHt_mk, exCnt_mk]
    rcases ha with ⟨ho, h0⟩ | ⟨ho, h1⟩ | ⟨o1, o2, h2⟩
    · obtain rfl : args = [] := List.length_eq_zero_iff.1 h0
      rw [exHts_nil]
      split <;> omega
    · obtain ⟨x, rfl⟩ : ∃ x, args = [x] := List.length_eq_one_iff.1 h1
      have hx := ih 0 (by simp)
      simp only [List.getElem_cons_zero] at hx
      rw [exHts_cons, exHts_nil, exCnts, exCnts]
      unfold htPart
      split <;> split <;> omega
    · obtain ⟨x, y, rfl⟩ : ∃ x y, args = [x, y] := by
        match args, h2 with
        | [x, y], _ => exact ⟨x, y, rfl⟩
      have hx := ih 0 (by simp)
      have hy := ih 1 (by simp)
      simp only [List.getElem_cons_zero, List.getElem_cons_succ] at hx hy
      rw [exHts_cons, exHts_cons, exHts_nil, exCnts, exCnts, exCnts]
      unfold htPart
      split <;> split <;> split <;> omega

end Go.Proofs.YtbnbmibfjobacaaDoor
