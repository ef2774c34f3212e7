/- What argument and pieces of package expr return: the parts of an expression's text. -/
import Derived.Test.YtfhpihpdijighaaDoorExWalkM
import Derived.Test.YtfhpihpdijighaaDoorShelf
import Derived.Deep.LoopGhost
import Derived.Deep.AppendLies
import Derived.Lib.OwnBridge
namespace Go.Proofs.YtfhpihpdijighaaDoor
open Go.RowKit

/-- a piece of a text: a text, or an expression -/
structure Pc where
  t : List UInt8
  x : Ex
  f : EF
def Pc.cells (i : Pc) : List Value := [.string ⟨i.t.toArray⟩, .int .i64 i.f.op, .int .i64 i.f.num, .string ⟨i.f.name.toArray⟩, .slice i.f.A i.f.n i.f.c]
def pcCells (l : List Pc) : List Value := l.flatMap Pc.cells
def pcStr (s : List UInt8) : Pc := ⟨s, .mk 0 0 [] [], ⟨0, 0, [], none, 0, 0⟩⟩
def pcT (i : Pc) : List UInt8 := if i.x.op = 0 then i.t else exText i.x
def pcsT (l : List Pc) : List UInt8 := l.flatMap pcT
def pcM (i : Pc) : Nat := if i.x.op = 0 then 1 else 8 * exCnt i.x
def pcsM : List Pc → Nat
  | [] => 0
  | i :: r => pcM i + pcsM r
/-- expressions that are printed -/
inductive ExG : Ex → Prop
  | mk (op num : Int) (name : List UInt8) (args : List Ex) (hn : -9223372036854775808 ≤ num ∧ num ≤ 9223372036854775807)
      (ha : op = 2 ∧ args.length = 0 ∨ (op = 3 ∨ op = 4) ∧ args.length = 1 ∨ 5 ≤ op ∧ op ≤ 17 ∧ args.length = 2) (hs : ∀ i (h : i < args.length), ExG args[i]) : ExG (.mk op num name args)
theorem ExG.op {x : Ex} (h : ExG x) : 2 ≤ x.op ∧ x.op ≤ 17 := by
  cases h with
  | mk op num name args hn ha hs =>
    show 2 ≤ op ∧ op ≤ 17
    omega
def PcOk (w : World) (i : Pc) : Prop := (i.x.op = 0 ∧ i.f.op = 0) ∨ (ExM w (fun _ => True) i.x i.f ∧ ExG i.x)
theorem pcStr_ok (w : World) (s : List UInt8) : PcOk w (pcStr s) := .inl ⟨rfl, rfl⟩
theorem pcStr_T (s : List UInt8) : pcT (pcStr s) = s := rfl
theorem pcStr_M (s : List UInt8) : pcM (pcStr s) = 1 := rfl
theorem pcCells_len (l : List Pc) : (pcCells l).length = l.length * 5 := by
  induction l with
  | nil => rfl
  | cons i r ih =>
    have : pcCells (i :: r) = i.cells ++ pcCells r := rfl
    rw [this, List.length_append, ih]
    simp [Pc.cells]
    omega
theorem pcCells_app (l m : List Pc) : pcCells (l ++ m) = pcCells l ++ pcCells m := by simp [pcCells]
theorem pcsT_app (l m : List Pc) : pcsT (l ++ m) = pcsT l ++ pcsT m := by simp [pcsT]
theorem pcsM_app (l m : List Pc) : pcsM (l ++ m) = pcsM l + pcsM m := by
  induction l with
  | nil => simp [pcsM]
  | cons i r ih => rw [List.cons_append, pcsM, pcsM, ih]; omega
theorem pcCells_one (l : List Pc) : ∀ u ∈ pcCells l, u.oneCell' = true := by
  intro u hu
  unfold pcCells at hu
  rw [List.mem_flatMap] at hu
  obtain ⟨i, _, hi⟩ := hu
  simp [Pc.cells] at hi
  rcases hi with rfl | rfl | rfl | rfl | rfl <;> rfl

theorem blk5' {w : World} {b : Nat} {c0 c1 c2 c3 c4 : Value} {t : TypeId} (h : w.heap[b]? = some (.cells #[c0, c1, c2, c3, c4] t (0, 0))) :
    w.cell? ⟨b, 0, none⟩ = some c0 ∧ w.cell? ⟨b, 1, none⟩ = some c1 ∧ w.cell? ⟨b, 2, none⟩ = some c2 ∧ w.cell? ⟨b, 3, none⟩ = some c3 ∧ w.cell? ⟨b, 4, none⟩ = some c4 := by
  refine ⟨?_, ?_, ?_, ?_, ?_⟩
  · rw [cell_of_row w b 0 _ _ _ h]; rfl
  · rw [cell_of_row w b 1 _ _ _ h]; rfl
  · rw [cell_of_row w b 2 _ _ _ h]; rfl
  · rw [cell_of_row w b 3 _ _ _ h]; rfl
  · rw [cell_of_row w b 4 _ _ _ h]; rfl
/-- the pieces of Arg number k -/
def argPc (op : Int) (k : Nat) (x : Ex) (f : EF) : List Pc := if inPar op x.op k then [pcStr [40], ⟨[], x, f⟩, pcStr [41]] else [⟨[], x, f⟩]
/-- what a call leaves that makes pieces -/
def PcPost (w : World) (l : List Pc) (e : Ending) (w' : World) : Prop :=
  ∃ g c, e = .returned (.slice (some ⟨g, 0, none⟩) l.length c) ∧ w'.ownsRow w.heap.size 78 5 (.slice (some ⟨g, 0, none⟩) l.length c) l.length (pcCells l) ∧ Below w.heap.size w w'

theorem Tryd.infoPc : (Tryd.prog.info? 78).map (fun i => (i.zero, i.size, i.bytes)) = some (some (.agg #[.string ⟨#[]⟩, .int .i64 0, .int .i64 0, .string ⟨#[]⟩, .slice none 0 0]), 5, 72) := by kernel_rfl

theorem pc_lit {w W : World} (hb : Below w.heap.size w W) (l : List Pc) (hl : l.length ≤ 10) (cs : Array Value) (hcs : cs.toList = pcCells l) (n : Nat) (hn : n = l.length) :
    PcPost w l (.returned (.slice (some ⟨W.heap.size, 0, none⟩) n n)) (W.alloc (.cells cs 78)) := by
  subst hn
  have := World.ownsRow_lit (base := w.heap.size) (e := 78) (size := 5) W cs l.length hb.size (by unfold maxLen; omega) (by have := congrArg List.length hcs; rw [pcCells_len] at this; simpa using this)
  rw [hcs] at this
  exact ⟨_, _, rfl, this, hb.alloc hb.size _⟩

set_option maxRecDepth 100000 in
set_option maxHeartbeats 2000000 in
theorem argument_any (w : World) (op num : Int) (name : List UInt8) (A : Option Addr) (n c b off k : Nat) (x : Ex) (f : EF) (hA : A = some ⟨b, off, none⟩) (hk : k < n) (hn : n ≤ 1000000) (hat : EFat w b (off + k * 4) f) (hx : f.op = x.op) :
    Calls Tryd.prog 69 #[.agg #[.int .i64 op, .int .i64 num, .string ⟨name.toArray⟩, .slice A n c], .int .i64 (k : Int)] w (PcPost w (argPc op k x f)) := by
  have hbl := hat.lt
  obtain ⟨a0, a1, a2, a3⟩ := hat
  have HI := Lib.hid (fun W (hb : Below w.heap.size w W) => inPar_any W op num name A n c b off k f.op hA hk (by omega) (cell_later hb a0))
  have hb2 : Below w.heap.size w ((w.alloc (.cells #[.int .i64 op, .int .i64 num, .string ⟨name.toArray⟩, .slice A n c] 38)).alloc (.cells #[.string ⟨#[]⟩, .int .i64 f.op, .int .i64 f.num, .string ⟨f.name.toArray⟩, .slice f.A f.n f.c] 78)) := ((Below.refl _ _).alloc (Nat.le_refl _) _).alloc (by simp) _
  have HB2 := Lib.hid hb2
  have HX := Lib.hid hx
  clear hb2 hx
  subst hA
  have i0 : (0 : Int) ≤ (k : Int) := by omega
  have i1 : (k : Int) < (n : Int) := by omega
  go_enter Tryd.func69, Tryd.ntmps69
  go_wp2_with fail
  refine (HI.out _ HB2.out).mono ?_
  rintro e w1 ⟨rfl, hb1⟩
  have hs2 : ((w.alloc (.cells #[.int .i64 op, .int .i64 num, .string ⟨name.toArray⟩, .slice (some ⟨b, off, none⟩) n c] 38)).alloc (.cells #[.string ⟨#[]⟩, .int .i64 f.op, .int .i64 f.num, .string ⟨f.name.toArray⟩, .slice f.A f.n f.c] 78)).heap.size = w.heap.size + 2 := by simp
  have hq : w1.heap[w.heap.size + 1]? = some (.cells #[.string ⟨#[]⟩, .int .i64 f.op, .int .i64 f.num, .string ⟨f.name.toArray⟩, .slice f.A f.n f.c] 78 (0, 0)) := by
    refine (hb1.block _ (by omega)).trans ?_
    have := heap_alloc_new (w.alloc (.cells #[.int .i64 op, .int .i64 num, .string ⟨name.toArray⟩, .slice (some ⟨b, off, none⟩) n c] 38)) (.cells #[.string ⟨#[]⟩, .int .i64 f.op, .int .i64 f.num, .string ⟨f.name.toArray⟩, .slice f.A f.n f.c] 78)
    simpa using this
  obtain ⟨c0, c1, c2, c3, c4⟩ := blk5' hq
  have HB1 := Lib.hid (below_rev' hb1 HB2.out)
  clear hb1 hq hs2 a0 a1 a2 a3
  cases hi : inPar op f.op k with
  | true =>
    have HL : Hid (argPc op k x f = [pcStr [40], ⟨[], x, f⟩, pcStr [41]]) := by
      show argPc op k x f = _
      unfold argPc
      rw [← HX.out, hi]
      rfl
    go_wp2_with fail
    go_ret
    rw [HL.out]
    exact pc_lit HB1.out _ (by simp) _ rfl 3 rfl
  | false =>
    have HL : Hid (argPc op k x f = [⟨[], x, f⟩]) := by
      show argPc op k x f = _
      unfold argPc
      rw [← HX.out, hi]
      rfl
    go_wp2_with fail
    go_ret
    rw [HL.out]
    exact pc_lit HB1.out _ (by simp) _ rfl 1 rfl

end Go.Proofs.YtfhpihpdijighaaDoor
