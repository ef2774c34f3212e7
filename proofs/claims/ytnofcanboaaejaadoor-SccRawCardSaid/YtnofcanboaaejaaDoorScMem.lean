/- Lists of lists of numbers, rows of bools and matrices in memory. No statement of the program is proved in this file. -/
import Derived.Test.YtnofcanboaaejaaDoorScSpec
import Derived.Test.YtnofcanboaaejaaDoorIntRow
import Derived.Test.YtnofcanboaaejaaDoorRowB
import Derived.Lib.Hide
import Derived.Lib.OwnBridge
import Derived.Laws.OwnMore
import Derived.ArgAppend
import Derived.Deep.Upon
import Derived.Deep.AppendLies
import Derived.Deep.QuietTactic
import Derived.BigQuiet
import Derived.StillTailTactics
namespace Go.Proofs.YtnofcanboaaejaaDoor
open Go.RowKit
set_option maxRecDepth 100000

theorem sc_two {w w1 w2 : World} (h1 : Below w.heap.size w w1) (h2 : Below w1.heap.size w1 w2) : Below w.heap.size w w2 := h1.trans (h2.mono h1.size)
theorem sc_drewN {B : Nat} {a w : World} (h : Below B a w) (n : Nat) : Below B a (w.drewN n) := ⟨h.os, h.tape, h.output, h.size, h.block⟩
theorem sc_lt {w : World} {g : Nat} {o : Obj} (h : w.heap[g]? = some o) : g < w.heap.size := by
  rcases Nat.lt_or_ge g w.heap.size with h1 | h1
  · exact h1
  · rw [Array.getElem?_eq_none h1] at h; cases h
theorem sc_news (W : World) (g : Nat) (hg : g = W.heap.size) (cs : List Value) (t : TypeId) (j : Nat) (u : Value) (hj : cs[j]? = some u) : (W.alloc (.cells cs.toArray t)).cell? ((⟨g, 0, none⟩ : Addr).add j) = some u := by
  subst hg
  rw [Go.WideShapes.add_plain, Nat.zero_add, World.cell?_alloc_mark]
  simpa using hj
theorem sc_lies {v : Value} {g n c H : Nat} {w : World} (h : v.ownBlock = some g ∨ g = H) (hH : w.heap.size = H) : (Value.slice (some ⟨g, 0, none⟩) n c).ownBlock = v.ownBlock ∨ ∃ k, (Value.slice (some ⟨g, 0, none⟩) n c).ownBlock = some k ∧ w.heap.size ≤ k :=
  lies_own (by rw [hH]; exact h)
theorem Tryd.infoN : (Tryd.prog.info? 3).map (fun i => (i.zero, i.size, i.bytes)) = some (some (.int .i64 0), 1, 8) := by kernel_rfl
theorem Tryd.infoNs : (Tryd.prog.info? 22).map (fun i => (i.zero, i.size, i.bytes)) = some (some (.slice none 0 0), 1, 24) := by kernel_rfl
theorem Tryd.infoB : (Tryd.prog.info? 4).map (fun i => (i.zero, i.size, i.bytes)) = some (some (.bool false), 1, 1) := by kernel_rfl
theorem Tryd.infoBs : (Tryd.prog.info? 35).map (fun i => (i.zero, i.size, i.bytes)) = some (some (.slice none 0 0), 1, 24) := by kernel_rfl

/-- the cells of a row of numbers -/
def iCs (xs : List Int) : List Value := xs.map (.int .i64)
theorem iCs_len (xs : List Int) : (iCs xs).length = xs.length := by simp [iCs]
theorem iCs_one (xs : List Int) : ∀ u ∈ iCs xs, u.oneCell' = true := fun u hu => by
  obtain ⟨x, _, rfl⟩ := List.mem_map.1 hu
  rfl
def I64s (xs : List Int) : Prop := ∀ x ∈ xs, -9223372036854775808 ≤ x ∧ x ≤ 9223372036854775807
/-- a row of numbers of the call's own -/
def IntO (w : World) (B : Nat) (v : Value) (xs : List Int) : Prop := w.ownsRow B 3 1 v xs.length (iCs xs)
theorem IntO.read {w : World} {B n c : Nat} {A : Option Addr} {xs : List Int} (h : IntO w B (.slice A n c) xs) (hx : I64s xs) : IntR w A xs := fun i hi => by
  have h' := h
  rcases h'.2 with ⟨_, h0⟩ | ⟨g, cap, cur, e, _⟩
  · omega
  · injection e with e1 e2 e3
    subst e1 e3
    refine ⟨g, 0, rfl, ?_, hx _ (List.getElem_mem hi)⟩
    rw [Nat.zero_add]
    refine (World.ownsRow.cellAt (e2 ▸ h) i (by omega)).trans ?_
    unfold iCs
    rw [List.getElem?_map, List.getElem?_eq_getElem hi]
    rfl
/-- an element of a list of lists: the numbers, and where they lie -/
abbrev LiE := List Int × Option Addr × Nat
def LiIn (w : World) (S : Nat → Prop) (p : LiE) : Prop :=
  ∀ i (h : i < p.1.length), ∃ b off, p.2.1 = some ⟨b, off, none⟩ ∧ S b ∧ w.cell? ⟨b, off + i, none⟩ = some (.int .i64 p.1[i]) ∧ -9223372036854775808 ≤ p.1[i] ∧ p.1[i] ≤ 9223372036854775807
theorem LiIn.of {w : World} {A : Option Addr} {xs : List Int} {c : Nat} {S : Nat → Prop} (h : IntR w A xs) (hS : ∀ b off, A = some ⟨b, off, none⟩ → b < w.heap.size → S b) : LiIn w S (xs, A, c) := fun i hi => by
  obtain ⟨b, off, e, hc, r⟩ := h i hi
  exact ⟨b, off, e, hS b off e (World.block_lt_of_cell? _ _ hc), hc, r⟩
theorem LiIn.read {w : World} {S : Nat → Prop} {p : LiE} (h : LiIn w S p) : IntR w p.2.1 p.1 := fun i hi => by
  obtain ⟨b, off, e, _, hc, r⟩ := h i hi
  exact ⟨b, off, e, hc, r⟩
def liK : RowK LiE where
  cl := fun p => [.slice p.2.1 p.1.length p.2.2]
  sz := 1
  hsz := fun _ => rfl
  one := fun p u hu => by
    simp at hu
    rw [hu]; rfl
  In := LiIn
  keep := fun h hk i hi => by
    obtain ⟨b, off, e, hS, hc, r⟩ := h i hi
    exact ⟨b, off, e, hS, (World.cell?_of_block (hk b hS (World.block_lt_of_cell? _ _ hc))).trans hc, r⟩
  more := fun h hs i hi => by
    obtain ⟨b, off, e, hS, hc, r⟩ := h i hi
    exact ⟨b, off, e, hs b hS (World.block_lt_of_cell? _ _ hc), hc, r⟩
/-- the list of lists P is read at A -/
def LiR (w : World) (A : Option Addr) (P : List (List Int)) : Prop :=
  ∀ i (h : i < P.length), ∃ b off Ai ci, A = some ⟨b, off, none⟩ ∧ w.cell? ⟨b, off + i, none⟩ = some (.slice Ai P[i].length ci) ∧ IntR w Ai P[i]
theorem LiR.later {w w' : World} {A : Option Addr} {P : List (List Int)} (h : LiR w A P) (hb : Below w.heap.size w w') : LiR w' A P := fun i hi => by
  obtain ⟨b, off, Ai, ci, e, hc, hr⟩ := h i hi
  exact ⟨b, off, Ai, ci, e, cell_later hb hc, hr.later hb⟩
theorem li_read {w : World} {B n c : Nat} {A : Option Addr} {L : List LiE} (h : w.ownsRow B 22 1 (.slice A n c) L.length (liK.cs L)) (hr : ∀ p ∈ L, IntR w p.2.1 p.1) : LiR w A (L.map (·.1)) := fun i hi => by
  have hi' : i < L.length := by simpa using hi
  rcases h.2 with ⟨_, h0⟩ | ⟨g, cap, cur, e, _⟩
  · omega
  · injection e with e1 e2 e3
    subst e1 e3
    have hc := World.ownsRow.cellAt (e2 ▸ h) i (by omega)
    have h1 := liK.cs_at L i 0 hi' (by decide)
    rw [show i * liK.sz + 0 = i from by show i * 1 + 0 = i; omega] at h1
    refine ⟨g, 0, L[i].2.1, L[i].2.2, rfl, ?_, ?_⟩
    · rw [Nat.zero_add, hc, h1]
      simp only [List.getElem_map]
      rfl
    · simp only [List.getElem_map]
      exact hr _ (List.getElem_mem hi')
theorem li_own {w : World} {B n c : Nat} {A : Option Addr} {L : List LiE} (h : OwnR liK 22 w B (.slice A n c) L) : LiR w A (L.map (·.1)) := li_read h.1 fun p hp => (h.2 p hp).read
/-- what a call returns: a list of lists -/
def LiP (w : World) (P : List (List Int)) (e : Ending) (w' : World) : Prop :=
  ∃ A c, e = .returned (.slice A P.length c) ∧ LiR w' A P ∧ Below w.heap.size w w'

theorem wpList_make_one {T e : TypeId} (u : Value) (b : Nat) (hT : Tryd.prog.underlying T = some (.slice e)) (hinf : (Tryd.prog.info? e).map (fun i => (i.zero, i.size, i.bytes)) = some (some u, 1, b)) (hb24 : b ≤ 24) (hu : u.cells = #[u])
    (w : World) {ops : Array Oper} {rest : List Oper} {o : Oper} {a : Act} {Q : Exit → Act → World → Prop} (hg : o.guard = none) (l c : Operand) (hop : o.op = Op.makeSlice T l c)
    (n : Nat) (hl : a.eval l = .int .i64 (n : Int)) (hc : a.eval c = .int .i64 (n : Int)) (hn : n ≤ 1000000) (H : Nat) (hH : w.heap.size = H)
    (hK : ∀ w', w'.ownsRow H e 1 (.slice (some ⟨H, 0, none⟩) n n) n (List.replicate n u) → (∀ i, i < n → w'.cell? ⟨H, i, none⟩ = some u ∧ w'.frozen? ⟨H, i, none⟩ = false) → Below w.heap.size w w' → w'.heap.size = H + 1 → wpList Tryd.prog ops Q rest (a.put o.dst (.slice (some ⟨H, 0, none⟩) n n)) w') : wpList Tryd.prog ops Q (o :: rest) a w := by
  refine wpList_plain hg fun K hK' => ?_
  subst hH
  obtain ⟨i, hi, hzz⟩ := Option.map_eq_some_iff.1 hinf
  simp only [Prod.mk.injEq] at hzz
  obtain ⟨hz, hs, hb⟩ := hzz
  have hbn : n * b ≤ n * 24 := Nat.mul_le_mul_left n hb24
  have hr := run_make (P := Tryd.prog) w T e i _ hT hi hz .i64 .i64 (n : Int) (n : Int) (by omega) (Int.le_refl _) (by rw [hb]; first | omega | (rw [Int.mul_comm]; omega) | (have := hbn; push_cast at *; rw [Int.mul_comm]; omega)) (by omega)
  rw [hs, Int.toNat_natCast] at hr
  unfold Oper.wp
  simp only [execOp, hop, hl, hc]
  simp [hr, Result.andThen]
  have hbl := (Below.refl w.heap.size w).alloc (Nat.le_refl _) (.cells (madeCells u.cells n) e)
  have e1 : (madeCells u.cells n).toList = List.replicate n u := by
    rw [hu, toList_madeCells_one]
  have hh : (w.alloc (.cells (madeCells u.cells n) e)).heap[w.heap.size]? = some (.cells (madeCells u.cells n) e (0, 0)) := heap_alloc_new w _
  refine hK' _ _ (hK _ ?_ ?_ hbl (by simp))
  · refine ⟨by simp, .inr ⟨w.heap.size, n, madeCells u.cells n, by simp, Nat.le_refl _, hh, by simp, by unfold maxLen; omega, by rw [size_madeCells]; simp, ?_⟩⟩
    rw [e1, List.take_of_length_le (by simp)]
  · intro j hj
    refine ⟨?_, frozen_of_row _ _ _ _ _ hh⟩
    have e2 : (madeCells u.cells n)[j]? = some u := by
      rw [← Array.getElem?_toList, e1]
      simp [hj]
    rw [World.cell?_alloc_mark]
    exact e2

theorem below_grown {B : Nat} {w w1 w2 : World} {r : Option Nat} (h : Below B w w1) (hg : w1.grownBy w2 r) (hr : ∀ k, r = some k → B ≤ k) (hB : B ≤ w1.heap.size) : Below B w w2 :=
  ⟨hg.os.trans h.os, hg.tape.trans h.tape, hg.output.trans h.output, Nat.le_trans h.size hg.size, fun k hk => (hg.block k (by omega) (fun e => by have := hr k e.symm; omega)).trans (h.block k hk)⟩
/-- a new row of numbers, behind which one block has been made -/
theorem li_new (W : World) (g c : Nat) (hg : g = W.heap.size) (xs : List Int) (t : TypeId) (o : Obj) (S : Nat → Prop) (hS : S g) (hx : I64s xs) : LiIn ((W.alloc (.cells (iCs xs).toArray t)).alloc o) S (xs, some ⟨g, 0, none⟩, c) := fun i hi => by
  refine ⟨g, 0, rfl, hS, ?_, hx _ (List.getElem_mem hi)⟩
  have hi' : i < xs.length := hi
  subst hg
  rw [World.cell?_alloc_lt _ _ _ (by simp), Nat.zero_add, World.cell?_alloc_mark]
  simp [iCs, hi']
theorem nums_ok {x y n : Nat} (hx : x < n) (hy : y < n) (hn : n ≤ 1000000) : I64s [(x : Int), (y : Int)] := fun z hz => by
  simp at hz
  omega

/-- the row of bools at block g -/
def BlR (w : World) (g n : Nat) (f : Nat → Bool) : Prop := ∀ i, i < n → w.cell? ⟨g, i, none⟩ = some (.bool (f i)) ∧ w.frozen? ⟨g, i, none⟩ = false
theorem frozen_of_blk {w w' : World} {a : Addr} (h : w'.heap[a.block]? = w.heap[a.block]?) : w'.frozen? a = w.frozen? a := World.frozen?_of_block h
theorem BlR.keep {w w' : World} {g n : Nat} {f : Nat → Bool} (h : BlR w g n f) (hk : w'.heap[g]? = w.heap[g]?) : BlR w' g n f := fun i hi =>
  ⟨(World.cell?_of_block hk).trans (h i hi).1, (World.frozen?_of_block hk).trans (h i hi).2⟩
theorem BlR.later {w w' : World} {g n : Nat} {f : Nat → Bool} (h : BlR w g n f) (hb : Below w.heap.size w w') : BlR w' g n f := fun i hi => by
  have hl := World.block_lt_of_cell? _ _ (h i hi).1
  have hk := hb.block g hl
  exact ⟨(World.cell?_of_block hk).trans (h i hi).1, (World.frozen?_of_block hk).trans (h i hi).2⟩
theorem BlR.put {w : World} {g n k : Nat} {f f' : Nat → Bool} (h : BlR w g n f) (v : Bool) (hk : k < n) (hf : ∀ j, j < n → f' j = if j = k then v else f j) : BlR (w.setCell ⟨g, k, none⟩ (.bool v)) g n f' := fun i hi => by
  obtain ⟨hc, hz⟩ := h i hi
  refine ⟨?_, by rw [World.frozen?_setCell]; exact hz⟩
  rw [hf i hi]
  by_cases e : i = k
  · subst e
    rw [if_pos rfl]
    exact World.cell?_setCell_same _ _ _ hc
  · rw [if_neg e, World.cell?_setCell_other _ _ _ _ (by intro h; injection h with h1 h2; exact e h2.symm)]
    exact hc
/-- the matrix: its rows lie behind block G -/
structure MxM (w : World) (G n : Nat) (M : Nat → Nat → Bool) : Prop where
  row : ∀ i, i < n → w.cell? ⟨G, i, none⟩ = some (.slice (some ⟨G + 1 + i, 0, none⟩) n n)
  cel : ∀ i, i < n → BlR w (G + 1 + i) n (M i)
theorem MxM.later {w w' : World} {G n : Nat} {M : Nat → Nat → Bool} (h : MxM w G n M) (hb : Below w.heap.size w w') : MxM w' G n M :=
  ⟨fun i hi => cell_later hb (h.row i hi), fun i hi => (h.cel i hi).later hb⟩
theorem MxM.keep {w w' : World} {G n : Nat} {M : Nat → Nat → Bool} (h : MxM w G n M) (hk : ∀ b, G ≤ b → b ≤ G + n → w'.heap[b]? = w.heap[b]?) : MxM w' G n M :=
  ⟨fun i hi => (World.cell?_of_block (hk G (Nat.le_refl _) (by omega))).trans (h.row i hi), fun i hi => (h.cel i hi).keep (hk _ (by omega) (by omega))⟩
theorem MxM.put {w : World} {G n i j : Nat} {M : Nat → Nat → Bool} (h : MxM w G n M) (hi : i < n) (hj : j < n) (v : Bool) : MxM (w.setCell ⟨G + 1 + i, j, none⟩ (.bool v)) G n (Sc.put M i j v) := by
  refine ⟨fun a ha => ?_, fun a ha => ?_⟩
  · rw [World.cell?_setCell_other _ _ _ _ (by intro h; injection h with h1 h2; omega)]
    exact h.row a ha
  · by_cases e : a = i
    · subst e
      refine (h.cel a ha).put v hj fun b _ => ?_
      unfold Sc.put
      by_cases e2 : b = j
      · rw [if_pos ⟨rfl, e2⟩, if_pos e2]
      · rw [if_neg (fun h => e2 h.2), if_neg e2]
    · have e1 : Sc.put M i j v a = M a := by funext b; exact Sc.put_far M i j v fun h => e h.1
      rw [e1]
      exact (h.cel a ha).keep (heap_setCell_other _ _ _ _ (by show G + 1 + a ≠ G + 1 + i; omega))
theorem MxM.ext {w : World} {G n : Nat} {M M' : Nat → Nat → Bool} (h : MxM w G n M) (he : ∀ a b, a < n → b < n → M a b = M' a b) : MxM w G n M' :=
  ⟨h.row, fun i hi j hj => by rw [← he i j hi hj]; exact h.cel i hi j hj⟩
/-- the first k rows are made -/
structure MxB (w : World) (G n k : Nat) : Prop where
  row : ∀ i, i < n → w.cell? ⟨G, i, none⟩ = some (if i < k then .slice (some ⟨G + 1 + i, 0, none⟩) n n else .slice none 0 0) ∧ w.frozen? ⟨G, i, none⟩ = false
  cel : ∀ i, i < k → BlR w (G + 1 + i) n (fun _ => false)
theorem MxB.next {w w' : World} {G n k : Nat} (h : MxB w G n k) (hk : k < n) (hb : Below w.heap.size w w') (hG : w.heap.size = G + 1 + k) (hr : BlR w' (G + 1 + k) n fun _ => false) : MxB (w'.setCell ⟨G, k, none⟩ (.slice (some ⟨G + 1 + k, 0, none⟩) n n)) G n (k + 1) := by
  refine ⟨fun i hi => ?_, fun i hi => ?_⟩
  · have hc := cell_later hb (h.row i hi).1
    refine ⟨?_, ?_⟩
    · by_cases e : i = k
      · subst e
        rw [if_pos (by omega)]
        exact World.cell?_setCell_same _ _ _ hc
      · rw [World.cell?_setCell_other _ _ _ _ (by intro h; injection h with h1 h2; exact e h2.symm), hc]
        by_cases e2 : i < k
        · rw [if_pos e2, if_pos (by omega)]
        · rw [if_neg e2, if_neg (by omega)]
    · rw [World.frozen?_setCell, World.frozen?_of_block (hb.block G (World.block_lt_of_cell? _ _ (h.row i hi).1))]
      exact (h.row i hi).2
  · refine BlR.keep ?_ (heap_setCell_other _ _ _ _ (by show G + 1 + i ≠ G; omega))
    by_cases e : i = k
    · subst e; exact hr
    · exact (h.cel i (by omega)).later hb
theorem MxB.open {w w' : World} {G n k : Nat} (h : MxB w G n k) (hk : k < n) (hb : Below w.heap.size w w') : w'.cell? ⟨G, k, none⟩ = some (.slice none 0 0) ∧ w'.frozen? ⟨G, k, none⟩ = false := by
  obtain ⟨hc, hf⟩ := h.row k hk
  rw [if_neg (Nat.lt_irrefl _)] at hc
  exact ⟨cell_later hb hc, (World.frozen?_of_block (hb.block G (World.block_lt_of_cell? _ _ hc))).trans hf⟩
theorem MxB.done {w : World} {G n : Nat} (h : MxB w G n n) : MxM w G n fun _ _ => false :=
  ⟨fun i hi => by have := (h.row i hi).1; rwa [if_pos hi] at this, fun i hi => h.cel i hi⟩
theorem MxM.cell {w : World} {G n : Nat} {M : Nat → Nat → Bool} (h : MxM w G n M) {i j : Nat} (hi : i < n) (hj : j < n) : w.cell? ⟨G + 1 + i, j, none⟩ = some (.bool (M i j)) := (h.cel i hi j hj).1
end Go.Proofs.YtnofcanboaaejaaDoor
