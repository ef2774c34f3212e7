/- Relations and sets in memory: rows of numbers. No statement of the program is proved in this file. -/
import Derived.Test.YtdajomkhjaccbaaDhLeaf
import Derived.Lib.Hide
import Derived.Lib.OwnBridge
import Derived.Laws.OwnMore
import Derived.ArgAppend
import Derived.Deep.Upon
import Derived.Deep.AppendLies
import Derived.Deep.QuietTactic
import Derived.BigQuiet
import Derived.StillTailTactics
namespace Go.Proofs.Ytdajomkhjaccbaa
open Go.RowKit
set_option maxRecDepth 100000

theorem Try.infoI : (Try.prog.info? 3).map (fun i => (i.zero, i.size, i.bytes)) = some (some (.int .i64 0), 1, 8) := by kernel_rfl
def cells (r : List Nat) : List Value := r.map fun (k : Nat) => Value.int .i64 (k : Int)
theorem cells_len (r : List Nat) : (cells r).length = r.length := by simp [cells]
theorem lt_of_blk {w : World} {g : Nat} {o : Obj} (h : w.heap[g]? = some o) : g < w.heap.size := by
  rcases Nat.lt_or_ge g w.heap.size with h1 | h1
  · exact h1
  · rw [Array.getElem?_eq_none h1] at h; cases h
theorem owns_after {w w' : World} {base : Nat} {e : TypeId} {size n : Nat} {v : Value} {xs : List Value} (h : w.ownsRow base e size v n xs) (hb : Below w.heap.size w w') : w'.ownsRow base e size v n xs := by
  obtain ⟨hl, h⟩ := h
  refine ⟨hl, ?_⟩
  rcases h with h | ⟨g, cap, cur, e1, e2, hh, rest⟩
  · exact .inl h
  · exact .inr ⟨g, cap, cur, e1, e2, (hb.block g (lt_of_blk hh)).trans hh, rest⟩
/-- the relation r is read at A -/
def RlR (w : World) (A : Option Addr) (r : List Nat) : Prop := ∀ i (h : i < r.length), ∃ b, A = some ⟨b, 0, none⟩ ∧ w.cell? ⟨b, i, none⟩ = some (.int .i64 (r[i] : Int))
theorem RlR.later {w w' : World} {A : Option Addr} {r : List Nat} (h : RlR w A r) (hb : Below w.heap.size w w') : RlR w' A r := fun i hi => by
  obtain ⟨b, e, hc⟩ := h i hi
  exact ⟨b, e, cell_later hb hc⟩
/-- a row of numbers of the call's own -/
def RlO (w : World) (B : Nat) (v : Value) (r : List Nat) : Prop := w.ownsRow B 3 1 v r.length (cells r)
theorem RlO.read {w : World} {B n c : Nat} {A : Option Addr} {r : List Nat} (h : RlO w B (.slice A n c) r) : RlR w A r := fun i hi => by
  have h' := h
  rcases h'.2 with ⟨_, h0⟩ | ⟨g, cap, cur, e, _⟩
  · omega
  · injection e with e1 e2 e3
    subst e1 e3
    refine ⟨g, rfl, (World.ownsRow.cellAt (e2 ▸ h) i (by omega)).trans ?_⟩
    unfold cells
    rw [List.getElem?_map, List.getElem?_eq_getElem hi]
    rfl
theorem RlO.later {w w' : World} {B : Nat} {v : Value} {r : List Nat} (h : RlO w B v r) (hb : Below w.heap.size w w') : RlO w' B v r := owns_after h hb
theorem RlO.at {w : World} {B g n c : Nat} {r : List Nat} (h : RlO w B (.slice (some ⟨g, 0, none⟩) n c) r) (i : Nat) (hi : i < r.length) : w.cell? ⟨g, i, none⟩ = some (.int .i64 (r[i] : Int)) ∧ w.frozen? ⟨g, i, none⟩ = false := by
  obtain ⟨b, e, hc⟩ := h.read i hi
  injection e with e
  injection e with e
  subst e
  refine ⟨hc, ?_⟩
  rcases h.2 with ⟨_, h0⟩ | ⟨g', cap, cur, e', _, hg, _⟩
  · omega
  · injection e' with e1
    injection e1 with e1
    injection e1 with e1
    subst e1
    exact frozen_of_row w g i cur _ hg
theorem RlO.store {w : World} {B g n c : Nat} {r : List Nat} (h : RlO w B (.slice (some ⟨g, 0, none⟩) n c) r) (hn : n = r.length) (i v : Nat) : RlO (w.setCell ⟨g, i, none⟩ (.int .i64 (v : Int))) B (.slice (some ⟨g, 0, none⟩) n c) (r.set i v) := by
  subst hn
  have h1 := (World.ownsRow.stored h i (.int .i64 (v : Int))).1
  unfold RlO
  rw [List.length_set]
  have e : cells (r.set i v) = (cells r).set i (.int .i64 (v : Int)) := by unfold cells; rw [List.map_set]
  rw [e]
  exact h1
theorem RlO.lt {w : World} {B g n c : Nat} {r : List Nat} (h : RlO w B (.slice (some ⟨g, 0, none⟩) n c) r) : B ≤ g ∧ g < w.heap.size := World.ownsRow.lt h g rfl

theorem wpList_make_rl (w : World) {ops : Array Oper} {rest : List Oper} {o : Oper} {a : Act} {Q : Exit → Act → World → Prop} (hg : o.guard = none) (l c : Operand) (hop : o.op = Op.makeSlice 24 l c)
    (n : Nat) (hl : a.eval l = .int .i64 (n : Int)) (hc : a.eval c = .int .i64 (n : Int)) (hn : n ≤ 1000000) (H : Nat) (hH : w.heap.size = H)
    (hK : ∀ w', RlO w' H (.slice (some ⟨H, 0, none⟩) n n) (List.replicate n 0) → Below w.heap.size w w' → w'.heap.size = H + 1 → wpList Try.prog ops Q rest (a.put o.dst (.slice (some ⟨H, 0, none⟩) n n)) w') : wpList Try.prog ops Q (o :: rest) a w := by
  refine wpList_plain hg fun K hK' => ?_
  subst hH
  obtain ⟨i, hi, hzz⟩ := Option.map_eq_some_iff.1 Try.infoI
  simp only [Prod.mk.injEq] at hzz
  obtain ⟨hz, hs, hb⟩ := hzz
  have hr := run_make (P := Try.prog) w 24 3 i _ Try.underlying24 hi hz .i64 .i64 (n : Int) (n : Int) (by omega) (Int.le_refl _) (by rw [hb]; omega) (by omega)
  rw [hs, Int.toNat_natCast] at hr
  unfold Oper.wp
  simp only [execOp, hop, hl, hc]
  simp [hr, Result.andThen]
  have hbl := (Below.refl w.heap.size w).alloc (Nat.le_refl _) (.cells (madeCells #[Value.int .i64 0] n) 3)
  refine hK' _ _ (hK _ ?_ hbl (by simp))
  have e : (madeCells #[Value.int .i64 0] n).toList = cells (List.replicate n 0) := by
    rw [toList_madeCells_one]; unfold cells; rw [List.map_replicate]; rfl
  refine ⟨by rw [cells_len]; simp, .inr ⟨w.heap.size, n, madeCells #[Value.int .i64 0] n, by simp, Nat.le_refl _, heap_alloc_new w _, by simp, by unfold maxLen; omega, by rw [size_madeCells]; simp, ?_⟩⟩
  rw [e, List.take_of_length_le (by rw [cells_len]; simp)]

/-- a row whose first k numbers are given by f, the others are 0 -/
def rowF (f : Nat → Nat) (n k : Nat) : List Nat := (List.range n).map fun i => if i < k then f i else 0
theorem rowF_len (f : Nat → Nat) (n k : Nat) : (rowF f n k).length = n := by simp [rowF]
theorem rowF_zero (f : Nat → Nat) (n : Nat) : rowF f n 0 = List.replicate n 0 := by
  unfold rowF
  refine List.ext_getElem (by simp) fun i h1 h2 => ?_
  simp
theorem rowF_end (f : Nat → Nat) (n : Nat) : rowF f n n = (List.range n).map f := by
  unfold rowF
  refine List.map_congr_left fun i hi => ?_
  rw [if_pos (List.mem_range.1 hi)]
theorem rowF_get (f : Nat → Nat) (n k i : Nat) (h : i < (rowF f n k).length) : (rowF f n k)[i] = if i < k then f i else 0 := by
  simp only [rowF, List.getElem_map, List.getElem_range]
theorem rowF_set (f : Nat → Nat) (n k : Nat) : (rowF f n k).set k (f k) = rowF f n (k + 1) := by
  refine List.ext_getElem (by simp [rowF]) fun i h1 h2 => ?_
  rw [List.getElem_set, rowF_get]
  by_cases h : k = i
  · subst h; rw [if_pos rfl, rowF_get, if_pos (by omega)]
  · rw [if_neg h, rowF_get]
    by_cases h' : i < k
    · rw [if_pos h', if_pos (by omega)]
    · rw [if_neg h', if_neg (by omega)]
theorem rowF_skip (f : Nat → Nat) (n k : Nat) (hf : f k = 0) : rowF f n k = rowF f n (k + 1) := by
  unfold rowF
  refine List.map_congr_left fun i _ => ?_
  by_cases h' : i < k
  · rw [if_pos h', if_pos (by omega)]
  · rw [if_neg h']
    by_cases h : k = i
    · subst h; simp [hf]
    · rw [if_neg (by omega)]
theorem cmV_range (a b : List Nat) : cmV a b = (List.range a.length).map fun d => apV b (a.getD d 0) := by
  unfold cmV
  refine List.ext_getElem (by simp) fun i h1 h2 => ?_
  have : i < a.length := by simpa using h1
  simp [this]
end Go.Proofs.Ytdajomkhjaccbaa
