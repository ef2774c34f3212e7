/- The walk of ExprValid: true for all arguments that are not too great. -/
import Derived.Test.YtbnbmibfjobacaaDoorLw2AwakeG
import Derived.Test.YtbnbmibfjobacaaDoorMdExG
import Derived.Test.YtbnbmibfjobacaaDoorVdBothG
import Derived.Test.YtbnbmibfjobacaaDoorAppG
namespace Go.Proofs.YtbnbmibfjobacaaDoor
open Go.RowKit

theorem ok_exI2 {E : Ex} (h : ExOk E) : ExI E := by
  induction h with
  | mk op num name args hn ha _ ih => exact .mk op num name args hn ih
theorem exM_inv {w : World} {S : Nat → Prop} {op num : Int} {name : List UInt8} {args : List Ex} {op' num' : Int} {name' : List UInt8} {A : Option Addr} {n c : Nat} (h : ExM w S (.mk op num name args) ⟨op', num', name', A, n, c⟩) :
    op' = op ∧ num' = num ∧ name' = name ∧ n = args.length ∧ ∃ F : Nat → EF, (∀ i, i < args.length → ∃ b off, A = some ⟨b, off, none⟩ ∧ EFat w b (off + i * 4) (F i)) ∧ ∀ i (h : i < args.length), ExM w S args[i] (F i) := by
  cases h with
  | mk _ _ _ _ _ _ F hc hs =>
    refine ⟨rfl, rfl, rfl, rfl, F, fun i hi => ?_, hs⟩
    obtain ⟨b, off, e, _, h⟩ := hc i hi
    exact ⟨b, off, e, h⟩
/-- the cells of arguments -/
def efCells (F : Nat → EF) : Nat → List Value
  | 0 => []
  | n + 1 => efCells F n ++ [.int .i64 (F n).op, .int .i64 (F n).num, .string ⟨(F n).name.toArray⟩, .slice (F n).A (F n).n (F n).c]
theorem efCells_len (F : Nat → EF) (n : Nat) : (efCells F n).length = n * 4 := by
  induction n with
  | zero => rfl
  | succ n ih => rw [efCells, List.length_append, ih]; simp; omega
theorem efCells_one (F : Nat → EF) (n : Nat) : ∀ u ∈ efCells F n, u.oneCell' = true := by
  induction n with
  | zero => intro u h; simp [efCells] at h
  | succ n ih =>
    intro u h
    rw [efCells, List.mem_append] at h
    rcases h with h | h
    · exact ih u h
    · simp at h
      rcases h with rfl | rfl | rfl | rfl <;> rfl
theorem efCells_at (F : Nat → EF) (n i j : Nat) (hi : i < n) (hj : j < 4) : (efCells F n)[i * 4 + j]? = [Value.int .i64 (F i).op, .int .i64 (F i).num, .string ⟨(F i).name.toArray⟩, .slice (F i).A (F i).n (F i).c][j]? := by
  induction n with
  | zero => omega
  | succ n ih =>
    have hl := efCells_len F n
    rw [efCells]
    by_cases h : i < n
    · rw [List.getElem?_append_left (by omega), ih h]
    · obtain rfl : i = n := by omega
      rw [List.getElem?_append_right (by omega), hl]
      congr 1
      omega
/-- the cells of the arguments in memory -/
theorem efCells_src {w : World} {A : Option Addr} {F : Nat → EF} {n : Nat} (h : ∀ i, i < n → ∃ b off, A = some ⟨b, off, none⟩ ∧ EFat w b (off + i * 4) (F i)) (j : Nat) (u : Value) (hj : (efCells F n)[j]? = some u) : ∃ ad, A = some ad ∧ w.cell? (ad.add j) = some u := by
  have hl := efCells_len F n
  have hjn : j < n * 4 := by
    rcases Nat.lt_or_ge j (n * 4) with h' | h'
    · exact h'
    · rw [List.getElem?_eq_none (by omega)] at hj; cases hj
  have hi : j / 4 < n := by omega
  have hj4 : j % 4 < 4 := by omega
  have e : j = j / 4 * 4 + j % 4 := by omega
  obtain ⟨b, off, rfl, h0, h1, h2, h3⟩ := h (j / 4) hi
  have ha := efCells_at F n (j / 4) (j % 4) hi hj4
  rw [← e, hj] at ha
  refine ⟨_, rfl, ?_⟩
  rw [Go.WideShapes.add_plain, show off + j = off + j / 4 * 4 + j % 4 by omega]
  generalize j % 4 = r at *
  have hr : r = 0 ∨ r = 1 ∨ r = 2 ∨ r = 3 := by omega
  rcases hr with rfl | rfl | rfl | rfl
  · rw [ha]; exact h0
  · rw [ha]; exact h1
  · rw [ha]; exact h2
  · rw [ha]; exact h3
/-- a row of the call's own holds the arguments -/
theorem ef_of_own {w : World} {B g n cap : Nat} {t : TypeId} {F : Nat → EF} (h : w.ownsRow B t 4 (.slice (some ⟨g, 0, none⟩) n cap) n (efCells F n)) (i : Nat) (hi : i < n) : EFat w g (0 + i * 4) (F i) := by
  have q : ∀ j, j < 4 → w.cell? ⟨g, i * 4 + j, none⟩ = [Value.int .i64 (F i).op, .int .i64 (F i).num, .string ⟨(F i).name.toArray⟩, .slice (F i).A (F i).n (F i).c][j]? := fun j hj =>
    (World.ownsRow.cellAt h _ (by omega)).trans (efCells_at F n i j hi hj)
  rw [Nat.zero_add]
  exact ⟨q 0 (by omega), q 1 (by omega), q 2 (by omega), q 3 (by omega)⟩


theorem ef_own {w : World} {B n cap : Nat} {t : TypeId} {A : Option Addr} {F : Nat → EF} (h : w.ownsRow B t 4 (.slice A n cap) n (efCells F n)) (i : Nat) (hi : i < n) : ∃ b off, A = some ⟨b, off, none⟩ ∧ B ≤ b ∧ EFat w b (off + i * 4) (F i) := by
  rcases h.2 with ⟨_, h0⟩ | ⟨g, cap', cur, e, hg, _⟩
  · omega
  · simp only [Value.slice.injEq] at e
    obtain ⟨rfl, -, rfl⟩ := e
    exact ⟨g, 0, rfl, hg, ef_of_own h i hi⟩
theorem efCells_congr (F G : Nat → EF) (n : Nat) (h : ∀ i, i < n → F i = G i) : efCells F n = efCells G n := by
  induction n with
  | zero => rfl
  | succ n ih => rw [efCells, efCells, ih (fun i hi => h i (by omega)), h n (by omega)]
theorem ExM.low {w : World} {S : Nat → Prop} {E : Ex} {f : EF} (h : ExM w S E f) : ExM w (· < w.heap.size) E f := by
  induction h with
  | mk op num name args A c F hc hs ih =>
    refine .mk op num name args A c F (fun i hi => ?_) ih
    obtain ⟨b, off, e, _, hat⟩ := hc i hi
    exact ⟨b, off, e, hat.lt, hat⟩
/-- a tree whose parts lie in blocks of S -/
structure VdS (w : World) (S : Nat → Prop) (K : Nat) (E : Ex) (f : EF) : Prop where
  m : ExM w S E f
  i : ExI E
  b : ExB E
  c : exCnt E ≤ K
theorem VdS.ok {w : World} {S : Nat → Prop} {K : Nat} {E : Ex} {f : EF} (h : VdS w S K E f) : VdOk w K E f := ⟨h.m.more (fun _ _ => trivial), h.i, h.b, h.c⟩
theorem VdS.keep {w w' : World} {X K : Nat} {E : Ex} {f : EF} (h : VdS w (· < X) K E f) (hb : Below X w w') : VdS w' (· < X) K E f := ⟨h.m.keep fun b hb' _ => hb.block b hb', h.i, h.b, h.c⟩
theorem blkset0 {w : World} {X : Nat} {c0 c1 c2 c3 : Value} {t : TypeId} (u : Value) (h : w.heap[X]? = some (.cells #[c0, c1, c2, c3] t (0, 0))) : (w.setCell ⟨X, 0, none⟩ u).heap[X]? = some (.cells #[u, c1, c2, c3] t (0, 0)) := by
  simp [World.setCell, Array.getElem?_modify]; exact ⟨_, h, rfl⟩
theorem blkset1 {w : World} {X : Nat} {c0 c1 c2 c3 : Value} {t : TypeId} (u : Value) (h : w.heap[X]? = some (.cells #[c0, c1, c2, c3] t (0, 0))) : (w.setCell ⟨X, 1, none⟩ u).heap[X]? = some (.cells #[c0, u, c2, c3] t (0, 0)) := by
  simp [World.setCell, Array.getElem?_modify]; exact ⟨_, h, rfl⟩
theorem blkset2 {w : World} {X : Nat} {c0 c1 c2 c3 : Value} {t : TypeId} (u : Value) (h : w.heap[X]? = some (.cells #[c0, c1, c2, c3] t (0, 0))) : (w.setCell ⟨X, 2, none⟩ u).heap[X]? = some (.cells #[c0, c1, u, c3] t (0, 0)) := by
  simp [World.setCell, Array.getElem?_modify]; exact ⟨_, h, rfl⟩
theorem blkset3 {w : World} {X : Nat} {c0 c1 c2 c3 : Value} {t : TypeId} (u : Value) (h : w.heap[X]? = some (.cells #[c0, c1, c2, c3] t (0, 0))) : (w.setCell ⟨X, 3, none⟩ u).heap[X]? = some (.cells #[c0, c1, c2, u] t (0, 0)) := by
  simp [World.setCell, Array.getElem?_modify]; exact ⟨_, h, rfl⟩
theorem Tryd.infoEx : (Tryd.prog.info? 25).map (fun i => (i.zero, i.size, i.bytes)) = some (some (.agg #[.int .i64 0, .int .i64 0, .string ⟨#[]⟩, .slice none 0 0]), 4, 56) := by kernel_rfl

theorem vd_set2 (w : World) (X i j : Nat) (u v : Value) : Below X w ((w.setCell ⟨X, i, none⟩ u).setCell ⟨X, j, none⟩ v) := ((Below.refl X w).setCell (Nat.le_refl X) u).setCell (Nat.le_refl X) v
theorem vd_set1 (w : World) (X i : Nat) (u : Value) : Below X w (w.setCell ⟨X, i, none⟩ u) := (Below.refl X w).setCell (Nat.le_refl X) u
theorem VdS.keep' {w w' : World} {S : Nat → Prop} {K : Nat} {E : Ex} {f : EF} (h : VdS w S K E f) (hk : ∀ b, S b → b < w.heap.size → w'.heap[b]? = w.heap[b]?) : VdS w' S K E f := ⟨h.m.keep hk, h.i, h.b, h.c⟩
theorem VdS.more {w : World} {S S' : Nat → Prop} {K K' : Nat} {E : Ex} {f : EF} (h : VdS w S K E f) (hs : ∀ b, S b → S' b) (hK : K ≤ K') : VdS w S' K' E f := ⟨h.m.more hs, h.i, h.b, Nat.le_trans h.c hK⟩
theorem ef_set0 (F : Nat → EF) (r : EF) (n : Nat) (h : n = 1 ∨ n = 2) : ((((efCells F n).set 0 (.int .i64 r.op)).set 1 (.int .i64 r.num)).set 2 (.string ⟨r.name.toArray⟩)).set 3 (.slice r.A r.n r.c) = efCells (fun i => if i = 0 then r else F i) n := by
  rcases h with rfl | rfl <;> simp [efCells]
theorem ef_snoc (F : Nat → EF) (r : EF) (n : Nat) : efCells F n ++ [.int .i64 r.op, .int .i64 r.num, .string ⟨r.name.toArray⟩, .slice r.A r.n r.c] = efCells (fun i => if i = n then r else F i) (n + 1) := by
  rw [efCells, efCells_congr (fun i => if i = n then r else F i) F n (fun i hi => if_neg (by omega)), if_pos rfl]
theorem own_set4 {w : World} {B g n c : Nat} {t : TypeId} {xs : List Value} (h : w.ownsRow B t 4 (.slice (some ⟨g, 0, none⟩) n c) n xs) (u0 u1 u2 u3 : Value) :
    (set4 w g u0 u1 u2 u3).ownsRow B t 4 (.slice (some ⟨g, 0, none⟩) n c) n ((((xs.set 0 u0).set 1 u1).set 2 u2).set 3 u3) :=
  ((((h.stored 0 u0).1.stored 1 u1).1.stored 2 u2).1.stored 3 u3).1
theorem vd_set4 {a w : World} {B g : Nat} (h : Below B a w) (hg : B ≤ g) (u0 u1 u2 u3 : Value) : Below B a (set4 w g u0 u1 u2 u3) :=
  (((h.setCell (p := ⟨g, 0, none⟩) hg u0).setCell (p := ⟨g, 1, none⟩) hg u1).setCell (p := ⟨g, 2, none⟩) hg u2).setCell (p := ⟨g, 3, none⟩) hg u3
theorem vd_set5 (w : World) (X g i : Nat) (hg : X ≤ g) (u0 u1 u2 u3 v : Value) : Below X w ((set4 w g u0 u1 u2 u3).setCell ⟨X, i, none⟩ v) := (vd_set4 (Below.refl X w) hg u0 u1 u2 u3).setCell (Nat.le_refl X) v
theorem own_addr {w : World} {B n c : Nat} {t : TypeId} {A : Option Addr} {xs : List Value} (h : w.ownsRow B t 4 (.slice A n c) n xs) (hn : 0 < n) : ∃ g, A = some ⟨g, 0, none⟩ ∧ B ≤ g ∧ g < w.heap.size := by
  rcases h.2 with ⟨_, h0⟩ | ⟨g, cap', cur, e, hg, hb, _⟩
  · omega
  · simp only [Value.slice.injEq] at e
    exact ⟨g, e.1, hg, lt_of_block hb⟩
/-- the first argument is another one -/
theorem vd_first {w : World} {K g n c : Nat} (op num : Int) (name : List UInt8) (hn : -9223372036854775808 ≤ num ∧ num ≤ 9223372036854775807) (hl : name.length ≤ 9223372036854775807) (args : List Ex) (ha : args.length ≤ 3) (hla : args.length = n) (Y : Ex) (r : EF) (F : Nat → EF)
    (hat : ∀ i, i < n → EFat w g (0 + i * 4) (if i = 0 then r else F i)) (hk : ∀ i (h : i < args.length), VdOk w K args[i] (F i)) (hY : VdOk w K Y r) : VdOk w (3 * K + 1) (.mk op num name (args.set 0 Y)) ⟨op, num, name, some ⟨g, 0, none⟩, n, c⟩ := by
  have hls : (args.set 0 Y).length = n := by rw [List.length_set]; exact hla
  have := VdOk.row (K := K) op num name hn hl (args.set 0 Y) (by omega) (some ⟨g, 0, none⟩) c (fun i => if i = 0 then r else F i) (fun i hi => ⟨g, 0, rfl, hat i (by omega)⟩) (fun i hi => ?_)
  · rw [hls] at this
    exact this
  · by_cases h0 : i = 0
    · subst h0
      rw [List.getElem_set_self]
      exact hY
    · rw [List.getElem_set_ne (by omega), if_neg h0]
      exact hk i (by omega)
/-- one argument more -/
theorem vd_more {w : World} {K n c : Nat} {A : Option Addr} (op num : Int) (name : List UInt8) (hn : -9223372036854775808 ≤ num ∧ num ≤ 9223372036854775807) (hl : name.length ≤ 9223372036854775807) (args : List Ex) (ha : args.length ≤ 2) (hla : args.length = n) (Y : Ex) (r : EF) (F : Nat → EF)
    (hat : ∀ i, i < n + 1 → ∃ b off, A = some ⟨b, off, none⟩ ∧ EFat w b (off + i * 4) (if i = n then r else F i)) (hk : ∀ i (h : i < args.length), VdOk w K args[i] (F i)) (hY : VdOk w K Y r) : VdOk w (3 * K + 1) (.mk op num name (args ++ [Y])) ⟨op, num, name, A, n + 1, c⟩ := by
  have hls : (args ++ [Y]).length = n + 1 := by rw [List.length_append, hla]; rfl
  have := VdOk.row (K := K) op num name hn hl (args ++ [Y]) (by omega) A c (fun i => if i = n then r else F i) (fun i hi => hat i (by omega)) (fun i hi => ?_)
  · rw [hls] at this
    exact this
  · by_cases h0 : i < args.length
    · rw [List.getElem_append_left h0, if_neg (by omega)]
      exact hk i h0
    · have : i = n := by omega
      subst this
      rw [if_pos rfl, List.getElem_append_right (by omega)]
      simp only [hla, Nat.sub_self, List.getElem_cons_zero]
      exact hY
/-- the loop of negations -/
def VdLoop (w1 : World) (X k : Nat) (a : Value) (wr : World) : Prop :=
  ∃ (E : Ex) (f : EF), wr.heap[X]? = some (.cells #[.int .i64 f.op, .int .i64 f.num, .string ⟨f.name.toArray⟩, .slice f.A f.n f.c] 25 (0, 0)) ∧ VdS wr (· ≠ X) (1048576 + k) E f ∧ Below X w1 wr ∧ (k = 0 ∨ a = .slice f.A f.n f.c) ∧ ∃ A n c, a = .slice A n c
theorem vd_neg {w1 wr : World} {X k : Nat} {E : Ex} {f : EF} (hX : wr.heap[X]? = some (.cells #[.int .i64 f.op, .int .i64 f.num, .string ⟨f.name.toArray⟩, .slice f.A f.n f.c] 25 (0, 0))) (hV : VdS wr (· ≠ X) (1048576 + k) E f) (hB : Below X w1 wr) :
    VdLoop w1 X (k + 1) (.slice (some ⟨wr.heap.size, 0, none⟩) 1 1) ((set4 wr X (.int .i64 3) (.int .i64 0) (.string ⟨#[]⟩) (.slice (some ⟨wr.heap.size, 0, none⟩) 1 1)).alloc (.cells #[.int .i64 f.op, .int .i64 f.num, .string ⟨f.name.toArray⟩, .slice f.A f.n f.c] 25)) := by
  have hlt := lt_of_block hX
  have hs := set4_size wr X (.int .i64 3) (.int .i64 0) (.string ⟨#[]⟩) (.slice (some ⟨wr.heap.size, 0, none⟩) 1 1)
  have hk : ∀ b, b ≠ X → b < wr.heap.size → ((set4 wr X (.int .i64 3) (.int .i64 0) (.string ⟨#[]⟩) (.slice (some ⟨wr.heap.size, 0, none⟩) 1 1)).alloc (.cells #[.int .i64 f.op, .int .i64 f.num, .string ⟨f.name.toArray⟩, .slice f.A f.n f.c] 25)).heap[b]? = wr.heap[b]? := fun b hb hl => set4_alloc_keep _ _ _ _ _ _ _ b hb hl
  have hat : EFat ((set4 wr X (.int .i64 3) (.int .i64 0) (.string ⟨#[]⟩) (.slice (some ⟨wr.heap.size, 0, none⟩) 1 1)).alloc (.cells #[.int .i64 f.op, .int .i64 f.num, .string ⟨f.name.toArray⟩, .slice f.A f.n f.c] 25)) wr.heap.size 0 f := efat_new wr X _ _ _ _ [.int .i64 f.op, .int .i64 f.num, .string ⟨f.name.toArray⟩, .slice f.A f.n f.c] 25 0 f ⟨rfl, rfl, rfl, rfl⟩
  have hV' := hV.keep' hk
  refine ⟨.mk 3 0 [] [E], ⟨3, 0, [], some ⟨wr.heap.size, 0, none⟩, 1, 1⟩, (Below.heap_alloc _ _ X (by omega)).trans (blkset3 _ (blkset2 _ (blkset1 _ (blkset0 _ hX)))), ⟨?_, ?_, ?_, ?_⟩, (vd_set4 hB (Nat.le_refl _) _ _ _ _).alloc (by omega) _, .inr rfl, _, _, _, rfl⟩
  · exact .one 3 0 [] wr.heap.size 0 1 (by omega) hat hV'.m
  · refine .mk 3 0 [] [E] (by omega) (fun i hi => ?_)
    obtain rfl : i = 0 := by simpa using hi
    exact hV.i
  · refine .mk 3 0 [] [E] (by simp) (by simp) (fun i hi => ?_)
    obtain rfl : i = 0 := by simpa using hi
    exact hV.b
  · have := hV.c
    rw [exCnt_mk, exCnts, exCnts]
    omega

set_option maxRecDepth 100000 in
set_option maxHeartbeats 4000000 in
theorem exprValid_any (xs : List Int) (A : Option Addr) (cap : Nat) (w : World) (hR : IntR w A xs) (hc : xs.length ≤ cap) (hm : xs.length ≤ 9223372036854775807) (Y : Ex) (ro rn : Int) (rname : List UInt8) (RA : Option Addr) (rl rc : Nat) (hY : VdOk w 1048576 Y ⟨ro, rn, rname, RA, rl, rc⟩)
    (which n : Int) (hw : -9223372036854775808 ≤ which ∧ which ≤ 9223372036854775807) (hn : -9223372036854775808 ≤ n ∧ n ≤ 9223372036854775807) (hS : SgT w) :
    Calls Tryd.prog 3 #[.slice A xs.length cap, .agg #[.int .i64 ro, .int .i64 rn, .string ⟨rname.toArray⟩, .slice RA rl rc], .int .i64 which, .int .i64 n] w fun e w' => e = .returned (.bool true) ∧ Below w.heap.size w w' := by
  have HS := Lib.hid hS
  have HY := Lib.hid hY
  have HW := Lib.hid hw
  have HN := Lib.hid hn
  have HMK := Lib.hid (fun W (hb : Below w.heap.size w W) => madeExpr_any xs A cap W (hR.later hb) hc hm)
  obtain ⟨hOk, hB, hCn⟩ := madeG_ok xs
  have hV : refVB (madeG xs) = true := by
    have hMd := exprG_md nm3 (by decide) (xs.take 100) (1 + nextV (xs.take 100) 0 5) (nextI (xs.take 100) 0)
    have hn5 := nextV_lt (xs.take 100) 0 5 (by omega)
    have hht := hMd.ht
    unfold refVB madeG
    rw [hMd.sh, decide_eq_true (by omega)]
    rfl
  have HOk := Lib.hid hOk
  have HBB := Lib.hid hB
  have HV := Lib.hid hV
  have HCN : Hid (exCnt (madeG xs) ≤ 1048576) := by show _ ≤ _; omega
  generalize madeG xs = E at *
  clear hR hc hm hS hOk hB hCn hY hV hw hn
  go_enter Tryd.func3, Tryd.ntmps3
  go_wp2_with fail
  refine (HMK.out _ (by first | exact Below.refl _ _ | exact (Below.refl _ _).alloc (Nat.le_refl _) _)).mono ?_
  rintro e w1 ⟨num, name, A1, n1, c1, rfl, hM, hb1⟩
  have HM : Hid (VdOk w1 1048576 E ⟨E.op, num, name, A1, n1, c1⟩) := ⟨hM.more (fun _ _ => trivial), ok_exI2 HOk.out, HBB.out, HCN.out⟩
  have hz1 := (hb1.block w.heap.size (by simp)).trans (heap_alloc_new w _)
  have HZ1 := Lib.hid hz1
  have HB1 : Hid (Below w.heap.size w w1) := below_rev' hb1 ((Below.refl _ _).alloc (Nat.le_refl _) _)
  clear hM hb1 HMK hz1
  obtain ⟨op, num0, name0, args⟩ := E
  obtain ⟨e1, e2, e3, e4, F, hF, hFM⟩ := exM_inv HM.out.m
  subst e2 e3 e4
  have hal : args.length ≤ 2 := by
    cases HOk.out with
    | mk _ _ _ _ _ ha _ => omega
  have HF := Lib.hid hF
  have hKids : ∀ i (h : i < args.length), VdS w1 (· < w1.heap.size) 1048576 args[i] (F i) := by
    intro i hi
    refine ⟨(hFM i hi).low, ?_, ?_, ?_⟩
    · cases ok_exI2 HOk.out with
      | mk _ _ _ _ _ h => exact h i hi
    · cases HBB.out with
      | mk _ _ _ _ _ _ h => exact h i hi
    · have h1 := HCN.out
      rw [exCnt_mk] at h1
      have h2 := exCnts_at args i hi
      omega
  have HK := Lib.hid hKids
  have HNB : Hid (-9223372036854775808 ≤ num ∧ num ≤ 9223372036854775807) := by
    cases HOk.out with
    | mk _ _ _ _ hn _ _ => exact hn
  have HNL : Hid (name.length ≤ 9223372036854775807) := by
    cases HBB.out with
    | mk _ _ _ _ _ hn _ => exact hn
  have hY1 : VdS w1 (· < w1.heap.size) 1048576 Y ⟨ro, rn, rname, RA, rl, rc⟩ := ⟨(HY.out.m.later HB1.out).low, HY.out.i, HY.out.b, HY.out.c⟩
  have HY1 := Lib.hid hY1
  have HRN : Hid (rname.length ≤ 9223372036854775807) := by
    obtain ⟨m, _, b, _⟩ := HY.out
    cases m with
    | mk _ _ _ _ _ _ _ _ _ =>
      cases b with
      | mk _ _ _ _ _ h _ => exact h
  have HE1 : Hid (VdS w1 (· < w1.heap.size) 1048576 (.mk op num name args) ⟨op, num, name, A1, args.length, c1⟩) := ⟨HM.out.m.low, HM.out.i, HM.out.b, HM.out.c⟩
  clear e1 hF hFM hKids hY1 HY
  dsimp only [Ex.op]
  have hA1 : Below w1.heap.size w1 (w1.alloc (.cells #[.int .i64 op, .int .i64 num, .string ⟨name.toArray⟩, .slice A1 args.length c1] 25)) := (Below.refl _ _).alloc (Nat.le_refl _) _
  have HX1 := Lib.hid (heap_alloc_new w1 (.cells #[.int .i64 op, .int .i64 num, .string ⟨name.toArray⟩, .slice A1 args.length c1] 25))
  have HA1 := Lib.hid hA1
  have HSZ : Hid (w.heap.size < w1.heap.size) := lt_of_block HZ1.out
  go_wp2_with fail
  generalize w1.alloc (.cells #[.int .i64 op, .int .i64 num, .string ⟨name.toArray⟩, .slice A1 args.length c1] 25) = W1 at *
  clear hA1
  have HZ2 := Lib.hid ((HA1.out.block _ HSZ.out).trans HZ1.out)
  have HRY : Hid (∀ W, Below W1.heap.size W1 W → Calls Tryd.prog 10 #[.agg #[.int .i64 ro, .int .i64 rn, .string ⟨rname.toArray⟩, .slice RA rl rc]] W fun e w' => e = .returned (.bool (refVB Y)) ∧ Below W.heap.size W w') := fun W hb => valid_r W 1048576 (by omega) Y ro rn rname RA rl rc ((HY1.out.keep HA1.out).ok.later hb)
  have HLY : Hid (∀ W, Below W1.heap.size W1 W → Calls Tryd.prog 9 #[.agg #[.int .i64 ro, .int .i64 rn, .string ⟨rname.toArray⟩, .slice RA rl rc]] W fun e w' => e = .returned (.bool (refVB Y)) ∧ Below W.heap.size W w') := fun W hb => valid_l W 1048576 (by omega) Y ro rn rname RA rl rc ((HY1.out.keep HA1.out).ok.later hb)
  have HLX : Hid (∀ W, Below W1.heap.size W1 W → Calls Tryd.prog 9 #[.agg #[.int .i64 op, .int .i64 num, .string ⟨name.toArray⟩, .slice A1 args.length c1]] W fun e w' => e = .returned (.bool true) ∧ Below W.heap.size W w') := fun W hb => by
    have := valid_l W 1048576 (by omega) (.mk op num name args) op num name A1 args.length c1 ((HM.out.later HA1.out).later hb)
    rw [HV.out] at this
    exact this
  generalize refVB Y = vY at *
  have hvY : (vY == vY) = true := by simp
  have hvN : (vY != vY) = false := by simp
  obtain ⟨x0, x1, x2, x3, -, -, -, -, -⟩ := blk4 HX1.out
  obtain ⟨z0, z1, z2, z3, -, -, -, -, -⟩ := blk4 HZ2.out
  have hbb : Below W1.heap.size W1 W1 := Below.refl _ _
  go_region_held3 (fun w' => w'.cell? ⟨w1.heap.size, 0, none⟩ = some (.int .i64 op) ∧ w'.cell? ⟨w1.heap.size, 1, none⟩ = some (.int .i64 num) ∧ w'.cell? ⟨w1.heap.size, 2, none⟩ = some (.string ⟨name.toArray⟩) ∧ w'.cell? ⟨w1.heap.size, 3, none⟩ = some (.slice A1 args.length c1) ∧ w'.cell? ⟨w.heap.size, 0, none⟩ = some (.int .i64 ro) ∧ w'.cell? ⟨w.heap.size, 1, none⟩ = some (.int .i64 rn) ∧ w'.cell? ⟨w.heap.size, 2, none⟩ = some (.string ⟨rname.toArray⟩) ∧ w'.cell? ⟨w.heap.size, 3, none⟩ = some (.slice RA rl rc) ∧ Below W1.heap.size W1 w')
    (refine ⟨?_, ?_, ?_, ?_, ?_, ?_, ?_, ?_, ?_⟩ <;> first | assumption | (refine Below.drew ?_; assumption))
    (first
      | (go_at_call 9; obtain ⟨r0, r1, r2, r3, r4, r5, r6, r7, rb⟩ := ‹_ ∧ _ ∧ _ ∧ _ ∧ _ ∧ _ ∧ _ ∧ _ ∧ Below W1.heap.size W1 _›; (first | (with_reducible refine (HLX.out _ rb).mono ?_) | (with_reducible refine (HLY.out _ rb).mono ?_)); rintro e w' ⟨rfl, hb⟩; have u0 := cell_later hb r0; have u1 := cell_later hb r1; have u2 := cell_later hb r2; have u3 := cell_later hb r3; have u4 := cell_later hb r4; have u5 := cell_later hb r5; have u6 := cell_later hb r6; have u7 := cell_later hb r7; have ub := below_rev' hb rb; clear r0 r1 r2 r3 r4 r5 r6 r7 rb hb)
      | (go_at_call 10; obtain ⟨r0, r1, r2, r3, r4, r5, r6, r7, rb⟩ := ‹_ ∧ _ ∧ _ ∧ _ ∧ _ ∧ _ ∧ _ ∧ _ ∧ Below W1.heap.size W1 _›; (with_reducible refine (HRY.out _ rb).mono ?_); rintro e w' ⟨rfl, hb⟩; have u0 := cell_later hb r0; have u1 := cell_later hb r1; have u2 := cell_later hb r2; have u3 := cell_later hb r3; have u4 := cell_later hb r4; have u5 := cell_later hb r5; have u6 := cell_later hb r6; have u7 := cell_later hb r7; have ub := below_rev' hb rb; clear r0 r1 r2 r3 r4 r5 r6 r7 rb hb))
  have HX3 := Lib.hid ((ub.block _ (lt_of_block HX1.out)).trans HX1.out)
  have HZ3 := Lib.hid ((ub.block _ (lt_of_block HZ2.out)).trans HZ2.out)
  have HB3 := Lib.hid (HA1.out.trans (ub.mono HA1.out.size))
  clear u0 u1 u2 u3 u4 u5 u6 u7 ub HLX HLY HRY hvY hvN HX1 HZ2 HA1 HZ1 HM HV HBB HOk HCN
  obtain ⟨x0, x1, x2, x3, -, -, -, -, hXl⟩ := blk4 HX3.out
  obtain ⟨i0, hi, hz0, hz1, hz2⟩ := info_parts Tryd.infoEx
  have HSRC : Hid (∀ j u, (efCells F args.length)[j]? = some u → ∃ ad, A1 = some ad ∧ (w'.alloc (.cells #[] 25)).cell? (ad.add j) = some u) := efCells_src fun i hi => by
    obtain ⟨b, off, e, hat⟩ := HF.out i hi
    exact ⟨b, off, e, hat.keep ((Below.heap_alloc _ _ _ (by have := hat.lt; omega)).trans (HB3.out.block b hat.lt))⟩
  go_wp2_with (first | (at_builtin; refine wpList_append_src _ rfl (.tmp 24) (.tmp 26) 23 rfl w'.heap.size 25 i0 _ 4 56 Tryd.underlying23 hi hz0 hz1 hz2 rfl (by decide) _ 0 [] rfl (World.ownsRow_lit w' #[] 0 (Nat.le_refl _) (by unfold maxLen; omega) rfl) A1 args.length c1 (efCells F args.length) rfl (efCells_len _ _) HSRC.out (efCells_one _ _) (by unfold maxLen; omega) (by omega) (by simp) ?_))
  intro v5 w5 hown hgrow
  have hb5 : Below w'.heap.size w' w5 := ((Below.refl _ _).alloc (Nat.le_refl _) _).grown hgrow (by simp) (fun k hk => by simp [Value.ownBlock] at hk; omega)
  obtain ⟨A5, c5, rfl⟩ := owns_form hown
  have HO := Lib.hid hown
  have HX5 := Lib.hid ((hb5.block _ (lt_of_block HX3.out)).trans HX3.out)
  have HZ5 := Lib.hid ((hb5.block _ (lt_of_block HZ3.out)).trans HZ3.out)
  have HB5 := Lib.hid (HB3.out.trans (hb5.mono HB3.out.size))
  have HK5 := Lib.hid (fun i hi => (HK.out i hi).keep HB5.out)
  have HY5 := Lib.hid (HY1.out.keep HB5.out)
  have HE5 : Hid (VdS w5 (· < w1.heap.size) 1048576 (.mk op num name args) ⟨op, num, name, A1, args.length, c1⟩) := HE1.out.keep HB5.out
  have HO5 : Hid (w'.heap.size ≤ w5.heap.size ∧ w1.heap.size < w5.heap.size) := ⟨hb5.size, by have := hb5.size; omega⟩
  have HOE : Hid (∀ i, i < args.length → ∃ b off, A5 = some ⟨b, off, none⟩ ∧ w1.heap.size < b ∧ EFat w5 b (off + i * 4) (F i)) := fun i hi => by
    obtain ⟨b, off, e, hb, hat⟩ := ef_own hown i hi
    exact ⟨b, off, e, by omega, hat⟩
  have hX5l : w1.heap.size < w'.heap.size := hXl
  clear hown hgrow hb5 HX3 HZ3 HB3 HSRC x0 x1 x2 x3 hXl HF HK HY1
  go_wp2_with fail
  refine (within_big which 6 w5 HW.out (by omega) (by omega)).mono ?_
  rintro e w6 ⟨rfl, rfl⟩
  rw [show (6 : Int).toNat = 6 from rfl]
  have hq := within_lt which 6 (by omega)
  generalize within which 6 = q at *
  obtain ⟨x0, x1, x2, x3, f0, f1, f2, f3, -⟩ := blk4 HX5.out
  obtain ⟨z0, z1, z2, z3, -, -, -, -, -⟩ := blk4 HZ5.out
  have hqc : q = 0 ∨ q = 1 ∨ q = 2 ∨ q = 3 ∨ q = 4 ∨ q = 5 := by omega
  rcases hqc with h | h | h | h | h | h
  · have t0 := bT (show ((q : Nat) : Int) = 0 by omega)
    clear h
    go_wp2_with fail
    refine (within_big n 22 w5 HN.out (by omega) (by omega)).mono ?_
    rintro e w6 ⟨rfl, rfl⟩
    rw [show (22 : Int).toNat = 22 from rfl]
    have hq2 := within_lt n 22 (by omega)
    generalize within n 22 = q2 at *
    go_wp2_with fail
    have hXE : ((w5.setCell ⟨w1.heap.size, 0, none⟩ (.int .i64 ((q2 : Int) - 1))).setCell ⟨w1.heap.size, 3, none⟩ (.slice A5 args.length c5)).heap[w1.heap.size]? = some (.cells #[.int .i64 ((q2 : Int) - 1), .int .i64 num, .string ⟨name.toArray⟩, .slice A5 args.length c5] 25 (0, 0)) := blkset3 _ (blkset0 _ HX5.out)
    have hBE : Below w1.heap.size w1 ((w5.setCell ⟨w1.heap.size, 0, none⟩ (.int .i64 ((q2 : Int) - 1))).setCell ⟨w1.heap.size, 3, none⟩ (.slice A5 args.length c5)) := (HB5.out.setCell (Nat.le_refl _) _).setCell (Nat.le_refl _) _
    have hVE : VdOk ((w5.setCell ⟨w1.heap.size, 0, none⟩ (.int .i64 ((q2 : Int) - 1))).setCell ⟨w1.heap.size, 3, none⟩ (.slice A5 args.length c5)) 3145729 (.mk ((q2 : Int) - 1) num name args) ⟨((q2 : Int) - 1), num, name, A5, args.length, c5⟩ := VdOk.row (K := 1048576) ((q2 : Int) - 1) num name HNB.out HNL.out args (by omega) A5 c5 F (fun i hi => by obtain ⟨b, off, e, hb, hat⟩ := HOE.out i hi; exact ⟨b, off, e, hat.keep ((Below.heap_setCell _ _ _ b (by show b ≠ w1.heap.size; omega)).trans (Below.heap_setCell _ _ _ b (by show b ≠ w1.heap.size; omega)))⟩) (fun i hi => ((HK5.out i hi).keep (vd_set2 _ _ _ _ _ _)).ok)
    generalize (w5.setCell ⟨w1.heap.size, 0, none⟩ (.int .i64 ((q2 : Int) - 1))).setCell ⟨w1.heap.size, 3, none⟩ (.slice A5 args.length c5) = WE at *
    have HVE := Lib.hid hVE
    have HBE := Lib.hid (HB1.out.trans (hBE.mono HB1.out.size))
    clear hVE hBE
    have HRE : Hid (∀ W, Below WE.heap.size WE W → Calls Tryd.prog 10 #[.agg #[.int .i64 ((q2 : Int) - 1), .int .i64 num, .string ⟨name.toArray⟩, .slice A5 args.length c5]] W fun e w' => e = .returned (.bool (refVB (.mk ((q2 : Int) - 1) num name args))) ∧ Below W.heap.size W w') := fun W hb => valid_r W 3145729 (by omega) _ _ _ _ _ _ _ (HVE.out.later hb)
    have HLE : Hid (∀ W, Below WE.heap.size WE W → Calls Tryd.prog 9 #[.agg #[.int .i64 ((q2 : Int) - 1), .int .i64 num, .string ⟨name.toArray⟩, .slice A5 args.length c5]] W fun e w' => e = .returned (.bool (refVB (.mk ((q2 : Int) - 1) num name args))) ∧ Below W.heap.size W w') := fun W hb => valid_l W 3145729 (by omega) _ _ _ _ _ _ _ (HVE.out.later hb)
    have HAW : Hid (∀ W, Below WE.heap.size WE W → Calls Tryd.prog 12 #[] W fun e w' => e = .returned (.bool true) ∧ Below W.heap.size W w') := fun W hb => awake_any W (HS.out.later (below_rev' hb HBE.out))
    clear HVE
    generalize refVB (.mk ((q2 : Int) - 1) num name args) = vE at *
    have hvE : (vE == vE) = true := by simp
    obtain ⟨y0, y1, y2, y3, -, -, -, -, -⟩ := blk4 hXE
    have hbE : Below WE.heap.size WE WE := Below.refl _ _
    clear hXE
    go_region_held3 (fun w' => w'.cell? ⟨w1.heap.size, 0, none⟩ = some (.int .i64 ((q2 : Int) - 1)) ∧ w'.cell? ⟨w1.heap.size, 1, none⟩ = some (.int .i64 num) ∧ w'.cell? ⟨w1.heap.size, 2, none⟩ = some (.string ⟨name.toArray⟩) ∧ w'.cell? ⟨w1.heap.size, 3, none⟩ = some (.slice A5 args.length c5) ∧ Below WE.heap.size WE w')
      (refine ⟨?_, ?_, ?_, ?_, ?_⟩ <;> first | assumption | (refine Below.drew ?_; assumption))
      (first
        | (go_at_call 9; obtain ⟨r0, r1, r2, r3, rb⟩ := ‹_ ∧ _ ∧ _ ∧ _ ∧ Below WE.heap.size WE _›; (with_reducible refine (HLE.out _ rb).mono ?_); rintro e w' ⟨rfl, hb⟩; have u0 := cell_later hb r0; have u1 := cell_later hb r1; have u2 := cell_later hb r2; have u3 := cell_later hb r3; have ub := below_rev' hb rb; clear r0 r1 r2 r3 rb hb)
        | (go_at_call 10; obtain ⟨r0, r1, r2, r3, rb⟩ := ‹_ ∧ _ ∧ _ ∧ _ ∧ Below WE.heap.size WE _›; (with_reducible refine (HRE.out _ rb).mono ?_); rintro e w' ⟨rfl, hb⟩; have u0 := cell_later hb r0; have u1 := cell_later hb r1; have u2 := cell_later hb r2; have u3 := cell_later hb r3; have ub := below_rev' hb rb; clear r0 r1 r2 r3 rb hb)
        | (go_at_call 12; obtain ⟨r0, r1, r2, r3, rb⟩ := ‹_ ∧ _ ∧ _ ∧ _ ∧ Below WE.heap.size WE _›; (with_reducible refine (HAW.out _ rb).mono ?_); rintro e w' ⟨rfl, hb⟩; have u0 := cell_later hb r0; have u1 := cell_later hb r1; have u2 := cell_later hb r2; have u3 := cell_later hb r3; have ub := below_rev' hb rb; clear r0 r1 r2 r3 rb hb))
    have HUB := Lib.hid (below_rev' ub HBE.out)
    clear u0 u1 u2 u3 ub
    go_wp2_with fail
    go_ret
    exact ⟨rfl, HUB.out⟩
  · have t0 := bF (show ((q : Nat) : Int) ≠ 0 by omega)
    have t1 := bT (show ((q : Nat) : Int) = 1 by omega)
    clear h
    go_wp2_with fail
    have hXE : ((w5.setCell ⟨w1.heap.size, 1, none⟩ (.int .i64 n)).setCell ⟨w1.heap.size, 3, none⟩ (.slice A5 args.length c5)).heap[w1.heap.size]? = some (.cells #[.int .i64 op, .int .i64 n, .string ⟨name.toArray⟩, .slice A5 args.length c5] 25 (0, 0)) := blkset3 _ (blkset1 _ HX5.out)
    have hBE : Below w1.heap.size w1 ((w5.setCell ⟨w1.heap.size, 1, none⟩ (.int .i64 n)).setCell ⟨w1.heap.size, 3, none⟩ (.slice A5 args.length c5)) := (HB5.out.setCell (Nat.le_refl _) _).setCell (Nat.le_refl _) _
    have hVE : VdOk ((w5.setCell ⟨w1.heap.size, 1, none⟩ (.int .i64 n)).setCell ⟨w1.heap.size, 3, none⟩ (.slice A5 args.length c5)) 3145729 (.mk op n name args) ⟨op, n, name, A5, args.length, c5⟩ := VdOk.row (K := 1048576) op n name HN.out HNL.out args (by omega) A5 c5 F (fun i hi => by obtain ⟨b, off, e, hb, hat⟩ := HOE.out i hi; exact ⟨b, off, e, hat.keep ((Below.heap_setCell _ _ _ b (by show b ≠ w1.heap.size; omega)).trans (Below.heap_setCell _ _ _ b (by show b ≠ w1.heap.size; omega)))⟩) (fun i hi => ((HK5.out i hi).keep (vd_set2 _ _ _ _ _ _)).ok)
    generalize (w5.setCell ⟨w1.heap.size, 1, none⟩ (.int .i64 n)).setCell ⟨w1.heap.size, 3, none⟩ (.slice A5 args.length c5) = WE at *
    have HVE := Lib.hid hVE
    have HBE := Lib.hid (HB1.out.trans (hBE.mono HB1.out.size))
    clear hVE hBE
    have HRE : Hid (∀ W, Below WE.heap.size WE W → Calls Tryd.prog 10 #[.agg #[.int .i64 op, .int .i64 n, .string ⟨name.toArray⟩, .slice A5 args.length c5]] W fun e w' => e = .returned (.bool (refVB (.mk op n name args))) ∧ Below W.heap.size W w') := fun W hb => valid_r W 3145729 (by omega) _ _ _ _ _ _ _ (HVE.out.later hb)
    have HLE : Hid (∀ W, Below WE.heap.size WE W → Calls Tryd.prog 9 #[.agg #[.int .i64 op, .int .i64 n, .string ⟨name.toArray⟩, .slice A5 args.length c5]] W fun e w' => e = .returned (.bool (refVB (.mk op n name args))) ∧ Below W.heap.size W w') := fun W hb => valid_l W 3145729 (by omega) _ _ _ _ _ _ _ (HVE.out.later hb)
    have HAW : Hid (∀ W, Below WE.heap.size WE W → Calls Tryd.prog 12 #[] W fun e w' => e = .returned (.bool true) ∧ Below W.heap.size W w') := fun W hb => awake_any W (HS.out.later (below_rev' hb HBE.out))
    clear HVE
    generalize refVB (.mk op n name args) = vE at *
    have hvE : (vE == vE) = true := by simp
    obtain ⟨y0, y1, y2, y3, -, -, -, -, -⟩ := blk4 hXE
    have hbE : Below WE.heap.size WE WE := Below.refl _ _
    clear hXE
    go_region_held3 (fun w' => w'.cell? ⟨w1.heap.size, 0, none⟩ = some (.int .i64 op) ∧ w'.cell? ⟨w1.heap.size, 1, none⟩ = some (.int .i64 n) ∧ w'.cell? ⟨w1.heap.size, 2, none⟩ = some (.string ⟨name.toArray⟩) ∧ w'.cell? ⟨w1.heap.size, 3, none⟩ = some (.slice A5 args.length c5) ∧ Below WE.heap.size WE w')
      (refine ⟨?_, ?_, ?_, ?_, ?_⟩ <;> first | assumption | (refine Below.drew ?_; assumption))
      (first
        | (go_at_call 9; obtain ⟨r0, r1, r2, r3, rb⟩ := ‹_ ∧ _ ∧ _ ∧ _ ∧ Below WE.heap.size WE _›; (with_reducible refine (HLE.out _ rb).mono ?_); rintro e w' ⟨rfl, hb⟩; have u0 := cell_later hb r0; have u1 := cell_later hb r1; have u2 := cell_later hb r2; have u3 := cell_later hb r3; have ub := below_rev' hb rb; clear r0 r1 r2 r3 rb hb)
        | (go_at_call 10; obtain ⟨r0, r1, r2, r3, rb⟩ := ‹_ ∧ _ ∧ _ ∧ _ ∧ Below WE.heap.size WE _›; (with_reducible refine (HRE.out _ rb).mono ?_); rintro e w' ⟨rfl, hb⟩; have u0 := cell_later hb r0; have u1 := cell_later hb r1; have u2 := cell_later hb r2; have u3 := cell_later hb r3; have ub := below_rev' hb rb; clear r0 r1 r2 r3 rb hb)
        | (go_at_call 12; obtain ⟨r0, r1, r2, r3, rb⟩ := ‹_ ∧ _ ∧ _ ∧ _ ∧ Below WE.heap.size WE _›; (with_reducible refine (HAW.out _ rb).mono ?_); rintro e w' ⟨rfl, hb⟩; have u0 := cell_later hb r0; have u1 := cell_later hb r1; have u2 := cell_later hb r2; have u3 := cell_later hb r3; have ub := below_rev' hb rb; clear r0 r1 r2 r3 rb hb))
    have HUB := Lib.hid (below_rev' ub HBE.out)
    clear u0 u1 u2 u3 ub
    go_wp2_with fail
    go_ret
    exact ⟨rfl, HUB.out⟩
  · have t0 := bF (show ((q : Nat) : Int) ≠ 0 by omega)
    have t1 := bF (show ((q : Nat) : Int) ≠ 1 by omega)
    have t2 := bT (show ((q : Nat) : Int) = 2 by omega)
    clear h
    go_wp2_with fail
    have hXE : ((w5.setCell ⟨w1.heap.size, 2, none⟩ (.string ⟨rname.toArray⟩)).setCell ⟨w1.heap.size, 3, none⟩ (.slice A5 args.length c5)).heap[w1.heap.size]? = some (.cells #[.int .i64 op, .int .i64 num, .string ⟨rname.toArray⟩, .slice A5 args.length c5] 25 (0, 0)) := blkset3 _ (blkset2 _ HX5.out)
    have hBE : Below w1.heap.size w1 ((w5.setCell ⟨w1.heap.size, 2, none⟩ (.string ⟨rname.toArray⟩)).setCell ⟨w1.heap.size, 3, none⟩ (.slice A5 args.length c5)) := (HB5.out.setCell (Nat.le_refl _) _).setCell (Nat.le_refl _) _
    have hVE : VdOk ((w5.setCell ⟨w1.heap.size, 2, none⟩ (.string ⟨rname.toArray⟩)).setCell ⟨w1.heap.size, 3, none⟩ (.slice A5 args.length c5)) 3145729 (.mk op num rname args) ⟨op, num, rname, A5, args.length, c5⟩ := VdOk.row (K := 1048576) op num rname HNB.out HRN.out args (by omega) A5 c5 F (fun i hi => by obtain ⟨b, off, e, hb, hat⟩ := HOE.out i hi; exact ⟨b, off, e, hat.keep ((Below.heap_setCell _ _ _ b (by show b ≠ w1.heap.size; omega)).trans (Below.heap_setCell _ _ _ b (by show b ≠ w1.heap.size; omega)))⟩) (fun i hi => ((HK5.out i hi).keep (vd_set2 _ _ _ _ _ _)).ok)
    generalize (w5.setCell ⟨w1.heap.size, 2, none⟩ (.string ⟨rname.toArray⟩)).setCell ⟨w1.heap.size, 3, none⟩ (.slice A5 args.length c5) = WE at *
    have HVE := Lib.hid hVE
    have HBE := Lib.hid (HB1.out.trans (hBE.mono HB1.out.size))
    clear hVE hBE
    have HRE : Hid (∀ W, Below WE.heap.size WE W → Calls Tryd.prog 10 #[.agg #[.int .i64 op, .int .i64 num, .string ⟨rname.toArray⟩, .slice A5 args.length c5]] W fun e w' => e = .returned (.bool (refVB (.mk op num rname args))) ∧ Below W.heap.size W w') := fun W hb => valid_r W 3145729 (by omega) _ _ _ _ _ _ _ (HVE.out.later hb)
    have HLE : Hid (∀ W, Below WE.heap.size WE W → Calls Tryd.prog 9 #[.agg #[.int .i64 op, .int .i64 num, .string ⟨rname.toArray⟩, .slice A5 args.length c5]] W fun e w' => e = .returned (.bool (refVB (.mk op num rname args))) ∧ Below W.heap.size W w') := fun W hb => valid_l W 3145729 (by omega) _ _ _ _ _ _ _ (HVE.out.later hb)
    have HAW : Hid (∀ W, Below WE.heap.size WE W → Calls Tryd.prog 12 #[] W fun e w' => e = .returned (.bool true) ∧ Below W.heap.size W w') := fun W hb => awake_any W (HS.out.later (below_rev' hb HBE.out))
    clear HVE
    generalize refVB (.mk op num rname args) = vE at *
    have hvE : (vE == vE) = true := by simp
    obtain ⟨y0, y1, y2, y3, -, -, -, -, -⟩ := blk4 hXE
    have hbE : Below WE.heap.size WE WE := Below.refl _ _
    clear hXE
    go_region_held3 (fun w' => w'.cell? ⟨w1.heap.size, 0, none⟩ = some (.int .i64 op) ∧ w'.cell? ⟨w1.heap.size, 1, none⟩ = some (.int .i64 num) ∧ w'.cell? ⟨w1.heap.size, 2, none⟩ = some (.string ⟨rname.toArray⟩) ∧ w'.cell? ⟨w1.heap.size, 3, none⟩ = some (.slice A5 args.length c5) ∧ Below WE.heap.size WE w')
      (refine ⟨?_, ?_, ?_, ?_, ?_⟩ <;> first | assumption | (refine Below.drew ?_; assumption))
      (first
        | (go_at_call 9; obtain ⟨r0, r1, r2, r3, rb⟩ := ‹_ ∧ _ ∧ _ ∧ _ ∧ Below WE.heap.size WE _›; (with_reducible refine (HLE.out _ rb).mono ?_); rintro e w' ⟨rfl, hb⟩; have u0 := cell_later hb r0; have u1 := cell_later hb r1; have u2 := cell_later hb r2; have u3 := cell_later hb r3; have ub := below_rev' hb rb; clear r0 r1 r2 r3 rb hb)
        | (go_at_call 10; obtain ⟨r0, r1, r2, r3, rb⟩ := ‹_ ∧ _ ∧ _ ∧ _ ∧ Below WE.heap.size WE _›; (with_reducible refine (HRE.out _ rb).mono ?_); rintro e w' ⟨rfl, hb⟩; have u0 := cell_later hb r0; have u1 := cell_later hb r1; have u2 := cell_later hb r2; have u3 := cell_later hb r3; have ub := below_rev' hb rb; clear r0 r1 r2 r3 rb hb)
        | (go_at_call 12; obtain ⟨r0, r1, r2, r3, rb⟩ := ‹_ ∧ _ ∧ _ ∧ _ ∧ Below WE.heap.size WE _›; (with_reducible refine (HAW.out _ rb).mono ?_); rintro e w' ⟨rfl, hb⟩; have u0 := cell_later hb r0; have u1 := cell_later hb r1; have u2 := cell_later hb r2; have u3 := cell_later hb r3; have ub := below_rev' hb rb; clear r0 r1 r2 r3 rb hb))
    have HUB := Lib.hid (below_rev' ub HBE.out)
    clear u0 u1 u2 u3 ub
    go_wp2_with fail
    go_ret
    exact ⟨rfl, HUB.out⟩
  · have t0 := bF (show ((q : Nat) : Int) ≠ 0 by omega)
    have t1 := bF (show ((q : Nat) : Int) ≠ 1 by omega)
    have t2 := bF (show ((q : Nat) : Int) ≠ 2 by omega)
    have t3 := bT (show ((q : Nat) : Int) = 3 by omega)
    clear h
    by_cases h0 : args.length = 0
    · skip
      obtain rfl : args = [] := List.length_eq_zero_iff.1 h0
      clear h0
      go_wp2_with fail
      have hXE : (w5.setCell ⟨w1.heap.size, 3, none⟩ (.slice A5 0 c5)).heap[w1.heap.size]? = some (.cells #[.int .i64 op, .int .i64 num, .string ⟨name.toArray⟩, .slice A5 0 c5] 25 (0, 0)) := blkset3 _ HX5.out
      have hBE : Below w1.heap.size w1 (w5.setCell ⟨w1.heap.size, 3, none⟩ (.slice A5 0 c5)) := HB5.out.setCell (Nat.le_refl _) _
      have hVE : VdOk (w5.setCell ⟨w1.heap.size, 3, none⟩ (.slice A5 0 c5)) 3145729 (.mk op num name []) ⟨op, num, name, A5, 0, c5⟩ := VdOk.row (K := 1048576) op num name HNB.out HNL.out [] (by simp) A5 c5 F (fun i hi => absurd hi (by simp)) (fun i hi => absurd hi (by simp))
      generalize w5.setCell ⟨w1.heap.size, 3, none⟩ (.slice A5 0 c5) = WE at *
      have HVE := Lib.hid hVE
      have HBE := Lib.hid (HB1.out.trans (hBE.mono HB1.out.size))
      clear hVE hBE
      have HRE : Hid (∀ W, Below WE.heap.size WE W → Calls Tryd.prog 10 #[.agg #[.int .i64 op, .int .i64 num, .string ⟨name.toArray⟩, .slice A5 0 c5]] W fun e w' => e = .returned (.bool (refVB (.mk op num name []))) ∧ Below W.heap.size W w') := fun W hb => valid_r W 3145729 (by omega) _ _ _ _ _ _ _ (HVE.out.later hb)
      have HLE : Hid (∀ W, Below WE.heap.size WE W → Calls Tryd.prog 9 #[.agg #[.int .i64 op, .int .i64 num, .string ⟨name.toArray⟩, .slice A5 0 c5]] W fun e w' => e = .returned (.bool (refVB (.mk op num name []))) ∧ Below W.heap.size W w') := fun W hb => valid_l W 3145729 (by omega) _ _ _ _ _ _ _ (HVE.out.later hb)
      have HAW : Hid (∀ W, Below WE.heap.size WE W → Calls Tryd.prog 12 #[] W fun e w' => e = .returned (.bool true) ∧ Below W.heap.size W w') := fun W hb => awake_any W (HS.out.later (below_rev' hb HBE.out))
      clear HVE
      generalize refVB (.mk op num name []) = vE at *
      have hvE : (vE == vE) = true := by simp
      obtain ⟨y0, y1, y2, y3, -, -, -, -, -⟩ := blk4 hXE
      have hbE : Below WE.heap.size WE WE := Below.refl _ _
      clear hXE
      go_region_held3 (fun w' => w'.cell? ⟨w1.heap.size, 0, none⟩ = some (.int .i64 op) ∧ w'.cell? ⟨w1.heap.size, 1, none⟩ = some (.int .i64 num) ∧ w'.cell? ⟨w1.heap.size, 2, none⟩ = some (.string ⟨name.toArray⟩) ∧ w'.cell? ⟨w1.heap.size, 3, none⟩ = some (.slice A5 0 c5) ∧ Below WE.heap.size WE w')
        (refine ⟨?_, ?_, ?_, ?_, ?_⟩ <;> first | assumption | (refine Below.drew ?_; assumption))
        (first
          | (go_at_call 9; obtain ⟨r0, r1, r2, r3, rb⟩ := ‹_ ∧ _ ∧ _ ∧ _ ∧ Below WE.heap.size WE _›; (with_reducible refine (HLE.out _ rb).mono ?_); rintro e w' ⟨rfl, hb⟩; have u0 := cell_later hb r0; have u1 := cell_later hb r1; have u2 := cell_later hb r2; have u3 := cell_later hb r3; have ub := below_rev' hb rb; clear r0 r1 r2 r3 rb hb)
          | (go_at_call 10; obtain ⟨r0, r1, r2, r3, rb⟩ := ‹_ ∧ _ ∧ _ ∧ _ ∧ Below WE.heap.size WE _›; (with_reducible refine (HRE.out _ rb).mono ?_); rintro e w' ⟨rfl, hb⟩; have u0 := cell_later hb r0; have u1 := cell_later hb r1; have u2 := cell_later hb r2; have u3 := cell_later hb r3; have ub := below_rev' hb rb; clear r0 r1 r2 r3 rb hb)
          | (go_at_call 12; obtain ⟨r0, r1, r2, r3, rb⟩ := ‹_ ∧ _ ∧ _ ∧ _ ∧ Below WE.heap.size WE _›; (with_reducible refine (HAW.out _ rb).mono ?_); rintro e w' ⟨rfl, hb⟩; have u0 := cell_later hb r0; have u1 := cell_later hb r1; have u2 := cell_later hb r2; have u3 := cell_later hb r3; have ub := below_rev' hb rb; clear r0 r1 r2 r3 rb hb))
      have HUB := Lib.hid (below_rev' ub HBE.out)
      clear u0 u1 u2 u3 ub
      go_wp2_with fail
      go_ret
      exact ⟨rfl, HUB.out⟩
    · have d1 : decide ((args.length : Int) > 0) = true := by simp; omega
      have hpos : 0 < args.length := by omega
      obtain ⟨g, rfl, hg, hgl⟩ := own_addr HO.out hpos
      have hq0 := World.ownsRow.frozenAt HO.out 0
      have hq1 := World.ownsRow.frozenAt HO.out 1
      have hq2 := World.ownsRow.frozenAt HO.out 2
      have hq3 := World.ownsRow.frozenAt HO.out 3
      obtain ⟨a0, a1, a2, a3⟩ := ef_of_own HO.out 0 hpos
      simp only [Nat.zero_mul, Nat.zero_add] at a0 a1 a2 a3
      have hgX : g ≠ w1.heap.size := by omega
      go_wp2_with fail
      have hO4 := own_set4 HO.out (.int .i64 ro) (.int .i64 rn) (.string ⟨rname.toArray⟩) (.slice RA rl rc)
      rw [ef_set0 F ⟨ro, rn, rname, RA, rl, rc⟩ args.length (by omega)] at hO4
      try unfold set4 at hO4
      try unfold set4
      have hXE : (((((w5.setCell ⟨g, 0, none⟩ (.int .i64 ro)).setCell ⟨g, 1, none⟩ (.int .i64 rn)).setCell ⟨g, 2, none⟩ (.string ⟨rname.toArray⟩)).setCell ⟨g, 3, none⟩ (.slice RA rl rc)).setCell ⟨w1.heap.size, 3, none⟩ (.slice (some ⟨g, 0, none⟩) args.length c5)).heap[w1.heap.size]? = some (.cells #[.int .i64 op, .int .i64 num, .string ⟨name.toArray⟩, .slice (some ⟨g, 0, none⟩) args.length c5] 25 (0, 0)) := blkset3 _ ((set4_keep w5 g _ _ _ _ _ (fun e => hgX e.symm)).trans HX5.out)
      have hBE : Below w1.heap.size w1 (((((w5.setCell ⟨g, 0, none⟩ (.int .i64 ro)).setCell ⟨g, 1, none⟩ (.int .i64 rn)).setCell ⟨g, 2, none⟩ (.string ⟨rname.toArray⟩)).setCell ⟨g, 3, none⟩ (.slice RA rl rc)).setCell ⟨w1.heap.size, 3, none⟩ (.slice (some ⟨g, 0, none⟩) args.length c5)) := (vd_set4 HB5.out (by omega) _ _ _ _).setCell (Nat.le_refl _) _
      have hVE : VdOk (((((w5.setCell ⟨g, 0, none⟩ (.int .i64 ro)).setCell ⟨g, 1, none⟩ (.int .i64 rn)).setCell ⟨g, 2, none⟩ (.string ⟨rname.toArray⟩)).setCell ⟨g, 3, none⟩ (.slice RA rl rc)).setCell ⟨w1.heap.size, 3, none⟩ (.slice (some ⟨g, 0, none⟩) args.length c5)) 3145729 (.mk op num name (args.set 0 Y)) ⟨op, num, name, (some ⟨g, 0, none⟩), args.length, c5⟩ := vd_first (K := 1048576) op num name HNB.out HNL.out args (by omega) rfl Y ⟨ro, rn, rname, RA, rl, rc⟩ F (fun i hi => (ef_of_own hO4 i hi).keep (Below.heap_setCell _ _ _ g hgX)) (fun i hi => ((HK5.out i hi).keep (vd_set5 w5 w1.heap.size g 3 (by omega) _ _ _ _ _)).ok) ((HY5.out.keep (vd_set5 w5 w1.heap.size g 3 (by omega) _ _ _ _ _)).ok)
      generalize ((((w5.setCell ⟨g, 0, none⟩ (.int .i64 ro)).setCell ⟨g, 1, none⟩ (.int .i64 rn)).setCell ⟨g, 2, none⟩ (.string ⟨rname.toArray⟩)).setCell ⟨g, 3, none⟩ (.slice RA rl rc)).setCell ⟨w1.heap.size, 3, none⟩ (.slice (some ⟨g, 0, none⟩) args.length c5) = WE at *
      have HVE := Lib.hid hVE
      have HBE := Lib.hid (HB1.out.trans (hBE.mono HB1.out.size))
      clear hVE hBE
      have HRE : Hid (∀ W, Below WE.heap.size WE W → Calls Tryd.prog 10 #[.agg #[.int .i64 op, .int .i64 num, .string ⟨name.toArray⟩, .slice (some ⟨g, 0, none⟩) args.length c5]] W fun e w' => e = .returned (.bool (refVB (.mk op num name (args.set 0 Y)))) ∧ Below W.heap.size W w') := fun W hb => valid_r W 3145729 (by omega) _ _ _ _ _ _ _ (HVE.out.later hb)
      have HLE : Hid (∀ W, Below WE.heap.size WE W → Calls Tryd.prog 9 #[.agg #[.int .i64 op, .int .i64 num, .string ⟨name.toArray⟩, .slice (some ⟨g, 0, none⟩) args.length c5]] W fun e w' => e = .returned (.bool (refVB (.mk op num name (args.set 0 Y)))) ∧ Below W.heap.size W w') := fun W hb => valid_l W 3145729 (by omega) _ _ _ _ _ _ _ (HVE.out.later hb)
      have HAW : Hid (∀ W, Below WE.heap.size WE W → Calls Tryd.prog 12 #[] W fun e w' => e = .returned (.bool true) ∧ Below W.heap.size W w') := fun W hb => awake_any W (HS.out.later (below_rev' hb HBE.out))
      clear HVE
      generalize refVB (.mk op num name (args.set 0 Y)) = vE at *
      have hvE : (vE == vE) = true := by simp
      obtain ⟨y0, y1, y2, y3, -, -, -, -, -⟩ := blk4 hXE
      have hbE : Below WE.heap.size WE WE := Below.refl _ _
      clear hXE
      go_region_held3 (fun w' => w'.cell? ⟨w1.heap.size, 0, none⟩ = some (.int .i64 op) ∧ w'.cell? ⟨w1.heap.size, 1, none⟩ = some (.int .i64 num) ∧ w'.cell? ⟨w1.heap.size, 2, none⟩ = some (.string ⟨name.toArray⟩) ∧ w'.cell? ⟨w1.heap.size, 3, none⟩ = some (.slice (some ⟨g, 0, none⟩) args.length c5) ∧ Below WE.heap.size WE w')
        (refine ⟨?_, ?_, ?_, ?_, ?_⟩ <;> first | assumption | (refine Below.drew ?_; assumption))
        (first
          | (go_at_call 9; obtain ⟨r0, r1, r2, r3, rb⟩ := ‹_ ∧ _ ∧ _ ∧ _ ∧ Below WE.heap.size WE _›; (with_reducible refine (HLE.out _ rb).mono ?_); rintro e w' ⟨rfl, hb⟩; have u0 := cell_later hb r0; have u1 := cell_later hb r1; have u2 := cell_later hb r2; have u3 := cell_later hb r3; have ub := below_rev' hb rb; clear r0 r1 r2 r3 rb hb)
          | (go_at_call 10; obtain ⟨r0, r1, r2, r3, rb⟩ := ‹_ ∧ _ ∧ _ ∧ _ ∧ Below WE.heap.size WE _›; (with_reducible refine (HRE.out _ rb).mono ?_); rintro e w' ⟨rfl, hb⟩; have u0 := cell_later hb r0; have u1 := cell_later hb r1; have u2 := cell_later hb r2; have u3 := cell_later hb r3; have ub := below_rev' hb rb; clear r0 r1 r2 r3 rb hb)
          | (go_at_call 12; obtain ⟨r0, r1, r2, r3, rb⟩ := ‹_ ∧ _ ∧ _ ∧ _ ∧ Below WE.heap.size WE _›; (with_reducible refine (HAW.out _ rb).mono ?_); rintro e w' ⟨rfl, hb⟩; have u0 := cell_later hb r0; have u1 := cell_later hb r1; have u2 := cell_later hb r2; have u3 := cell_later hb r3; have ub := below_rev' hb rb; clear r0 r1 r2 r3 rb hb))
      have HUB := Lib.hid (below_rev' ub HBE.out)
      clear u0 u1 u2 u3 ub
      go_wp2_with fail
      go_ret
      exact ⟨rfl, HUB.out⟩
  · have t0 := bF (show ((q : Nat) : Int) ≠ 0 by omega)
    have t1 := bF (show ((q : Nat) : Int) ≠ 1 by omega)
    have t2 := bF (show ((q : Nat) : Int) ≠ 2 by omega)
    have t3 := bF (show ((q : Nat) : Int) ≠ 3 by omega)
    have t4 := bT (show ((q : Nat) : Int) = 4 by omega)
    clear h
    obtain ⟨i0, hi, hz0, hz1, hz2⟩ := info_parts Tryd.infoEx
    go_wp2_with (first | (at_builtin; refine wpList_append_own _ rfl (.tmp 67) (.tmp 69) 23 rfl w'.heap.size 25 i0 _ 4 56 Tryd.underlying23 hi hz0 hz1 hz2 rfl (by decide) _ args.length (efCells F args.length) rfl (HO.out.alloc _) ⟨w5.heap.size, 0, none⟩ 1 1 [.int .i64 ro, .int .i64 rn, .string ⟨rname.toArray⟩, .slice RA rl rc] rfl rfl (news_four w5 w5.heap.size rfl _ _ _ _ _) (by intro u hu; simp at hu; rcases hu with rfl | rfl | rfl | rfl <;> rfl) (by unfold maxLen; omega) (by omega) (by have := HO5.out; simp; omega) ?_))
    intro v7 w7 hown7 hgrow7 _
    rw [ef_snoc F ⟨ro, rn, rname, RA, rl, rc⟩ args.length] at hown7
    have hne : ∀ k, Value.ownBlock (.slice A5 args.length c5) = some k → w1.heap.size < k := fun k hk => by have := (HO.out.lt k hk).1; omega
    have hb7 : Below w1.heap.size w1 w7 := (HB5.out.alloc (by have := HO5.out; omega) _).grown hgrow7 (by have := HO5.out; simp; omega) (fun k hk => by have := hne k hk; omega)
    have hX7 := (hgrow7.block w1.heap.size (by have := HO5.out; simp; omega) (fun e => by have := hne _ e.symm; omega)).trans ((Below.heap_alloc w5 _ _ (by have := HO5.out; omega)).trans HX5.out)
    obtain ⟨A7, c7, rfl⟩ := owns_form hown7
    have HO7 := Lib.hid hown7
    have HB7 := Lib.hid hb7
    have HX7 := Lib.hid hX7
    obtain ⟨x0, x1, x2, x3, f0, f1, f2, f3, -⟩ := blk4 hX7
    clear hown7 hgrow7 hne hb7 hX7
    go_wp2_with fail
    have hXE : (w7.setCell ⟨w1.heap.size, 3, none⟩ (.slice A7 (args.length + 1) c7)).heap[w1.heap.size]? = some (.cells #[.int .i64 op, .int .i64 num, .string ⟨name.toArray⟩, .slice A7 (args.length + 1) c7] 25 (0, 0)) := blkset3 _ HX7.out
    have hBE : Below w1.heap.size w1 (w7.setCell ⟨w1.heap.size, 3, none⟩ (.slice A7 (args.length + 1) c7)) := HB7.out.setCell (Nat.le_refl _) _
    have hVE : VdOk (w7.setCell ⟨w1.heap.size, 3, none⟩ (.slice A7 (args.length + 1) c7)) 3145729 (.mk op num name (args ++ [Y])) ⟨op, num, name, A7, (args.length + 1), c7⟩ := vd_more (K := 1048576) op num name HNB.out HNL.out args (by omega) rfl Y ⟨ro, rn, rname, RA, rl, rc⟩ F (fun i hi => by obtain ⟨b, off, e, hb, hat⟩ := ef_own HO7.out i hi; exact ⟨b, off, e, hat.keep (Below.heap_setCell _ _ _ b (by show b ≠ w1.heap.size; omega))⟩) (fun i hi => (VdS.keep (VdS.keep' (HK5.out i hi) (fun b hb _ => (HB7.out.block b hb).trans (HB5.out.block b hb).symm)) (vd_set1 _ _ _ _)).ok) ((VdS.keep (VdS.keep' HY5.out (fun b hb _ => (HB7.out.block b hb).trans (HB5.out.block b hb).symm)) (vd_set1 _ _ _ _)).ok)
    generalize w7.setCell ⟨w1.heap.size, 3, none⟩ (.slice A7 (args.length + 1) c7) = WE at *
    have HVE := Lib.hid hVE
    have HBE := Lib.hid (HB1.out.trans (hBE.mono HB1.out.size))
    clear hVE hBE
    have HRE : Hid (∀ W, Below WE.heap.size WE W → Calls Tryd.prog 10 #[.agg #[.int .i64 op, .int .i64 num, .string ⟨name.toArray⟩, .slice A7 (args.length + 1) c7]] W fun e w' => e = .returned (.bool (refVB (.mk op num name (args ++ [Y])))) ∧ Below W.heap.size W w') := fun W hb => valid_r W 3145729 (by omega) _ _ _ _ _ _ _ (HVE.out.later hb)
    have HLE : Hid (∀ W, Below WE.heap.size WE W → Calls Tryd.prog 9 #[.agg #[.int .i64 op, .int .i64 num, .string ⟨name.toArray⟩, .slice A7 (args.length + 1) c7]] W fun e w' => e = .returned (.bool (refVB (.mk op num name (args ++ [Y])))) ∧ Below W.heap.size W w') := fun W hb => valid_l W 3145729 (by omega) _ _ _ _ _ _ _ (HVE.out.later hb)
    have HAW : Hid (∀ W, Below WE.heap.size WE W → Calls Tryd.prog 12 #[] W fun e w' => e = .returned (.bool true) ∧ Below W.heap.size W w') := fun W hb => awake_any W (HS.out.later (below_rev' hb HBE.out))
    clear HVE
    generalize refVB (.mk op num name (args ++ [Y])) = vE at *
    have hvE : (vE == vE) = true := by simp
    obtain ⟨y0, y1, y2, y3, -, -, -, -, -⟩ := blk4 hXE
    have hbE : Below WE.heap.size WE WE := Below.refl _ _
    clear hXE
    go_region_held3 (fun w' => w'.cell? ⟨w1.heap.size, 0, none⟩ = some (.int .i64 op) ∧ w'.cell? ⟨w1.heap.size, 1, none⟩ = some (.int .i64 num) ∧ w'.cell? ⟨w1.heap.size, 2, none⟩ = some (.string ⟨name.toArray⟩) ∧ w'.cell? ⟨w1.heap.size, 3, none⟩ = some (.slice A7 (args.length + 1) c7) ∧ Below WE.heap.size WE w')
      (refine ⟨?_, ?_, ?_, ?_, ?_⟩ <;> first | assumption | (refine Below.drew ?_; assumption))
      (first
        | (go_at_call 9; obtain ⟨r0, r1, r2, r3, rb⟩ := ‹_ ∧ _ ∧ _ ∧ _ ∧ Below WE.heap.size WE _›; (with_reducible refine (HLE.out _ rb).mono ?_); rintro e w' ⟨rfl, hb⟩; have u0 := cell_later hb r0; have u1 := cell_later hb r1; have u2 := cell_later hb r2; have u3 := cell_later hb r3; have ub := below_rev' hb rb; clear r0 r1 r2 r3 rb hb)
        | (go_at_call 10; obtain ⟨r0, r1, r2, r3, rb⟩ := ‹_ ∧ _ ∧ _ ∧ _ ∧ Below WE.heap.size WE _›; (with_reducible refine (HRE.out _ rb).mono ?_); rintro e w' ⟨rfl, hb⟩; have u0 := cell_later hb r0; have u1 := cell_later hb r1; have u2 := cell_later hb r2; have u3 := cell_later hb r3; have ub := below_rev' hb rb; clear r0 r1 r2 r3 rb hb)
        | (go_at_call 12; obtain ⟨r0, r1, r2, r3, rb⟩ := ‹_ ∧ _ ∧ _ ∧ _ ∧ Below WE.heap.size WE _›; (with_reducible refine (HAW.out _ rb).mono ?_); rintro e w' ⟨rfl, hb⟩; have u0 := cell_later hb r0; have u1 := cell_later hb r1; have u2 := cell_later hb r2; have u3 := cell_later hb r3; have ub := below_rev' hb rb; clear r0 r1 r2 r3 rb hb))
    have HUB := Lib.hid (below_rev' ub HBE.out)
    clear u0 u1 u2 u3 ub
    go_wp2_with fail
    go_ret
    exact ⟨rfl, HUB.out⟩
  · have t0 := bF (show ((q : Nat) : Int) ≠ 0 by omega)
    have t1 := bF (show ((q : Nat) : Int) ≠ 1 by omega)
    have t2 := bF (show ((q : Nat) : Int) ≠ 2 by omega)
    have t3 := bF (show ((q : Nat) : Int) ≠ 3 by omega)
    have t4 := bF (show ((q : Nat) : Int) ≠ 4 by omega)
    clear h
    have hq8 := within_lt n 8 (by omega)
    have HW8 := Lib.hid (fun W => within_big n 8 W HN.out (by omega) (by omega))
    rw [show (8 : Int).toNat = 8 from rfl] at HW8
    generalize within n 8 = q8 at *
    have HL0 : Hid (VdLoop w1 w1.heap.size 0 (.slice A5 args.length c5) w5) := ⟨.mk op num name args, ⟨op, num, name, A1, args.length, c1⟩, HX5.out, HE5.out.more (fun b hb => by omega) (by omega), HB5.out, .inl rfl, _, _, _, rfl⟩
    go_wp2_with fail
    clear x0 x1 x2 x3 f0 f1 f2 f3 z0 z1 z2 z3
    go_loopw [10, 11] (fun v i wr => ∃ k : Nat, k ≤ 20 + q8 ∧ i = .int .i64 (k : Int) ∧ Hid (VdLoop w1 w1.heap.size k v wr)) (fun _ i _ => 40 - (intOf i).toNat)
    case atStart => exact ⟨0, by omega, rfl, HL0.out⟩
    case round =>
      obtain ⟨k, hk, rfl, hrel⟩ := hrel
      obtain ⟨E, f, hX, hV, hB, hz, A, m, c, rfl⟩ := hrel.out
      clear hrel
      have HXr := Lib.hid hX
      have HVr := Lib.hid hV
      have HBr := Lib.hid hB
      have HZr := Lib.hid hz
      clear hX hV hB hz
      obtain ⟨fo, fn, fname, fA, fl, fc⟩ := f
      dsimp only at HXr HZr
      obtain ⟨x0, x1, x2, x3, f0, f1, f2, f3, hl⟩ := blk4 HXr.out
      by_cases hlt : k < 20 + q8
      · have d1 : decide ((k : Int) < 20 + (q8 : Int)) = true := decide_eq_true (by omega)
        go_wp2_with fail
        refine (HW8.out wr).mono ?_
        rintro e w6 ⟨rfl, rfl⟩
        go_wp2_with fail
        go_roundw
        case rel =>
          refine ⟨k + 1, by omega, by go_num, ?_⟩
          exact vd_neg (f := ⟨fo, fn, fname, fA, fl, fc⟩) HXr.out HVr.out HBr.out
        case measure => simp [intOf]; omega
      · have d1 : decide ((k : Int) < 20 + (q8 : Int)) = false := decide_eq_false (by omega)
        have hz := HZr.out.resolve_left (by omega)
        simp only [Value.slice.injEq] at hz
        obtain ⟨rfl, rfl, rfl⟩ := hz
        go_wp2_with fail
        refine (HW8.out wr).mono ?_
        rintro e w6 ⟨rfl, rfl⟩
        go_wp2_with fail
        have hXE : (wr.setCell ⟨w1.heap.size, 3, none⟩ (.slice A m c)).heap[w1.heap.size]? = some (.cells #[.int .i64 fo, .int .i64 fn, .string ⟨fname.toArray⟩, .slice A m c] 25 (0, 0)) := blkset3 _ HXr.out
        have hBE : Below w1.heap.size w1 (wr.setCell ⟨w1.heap.size, 3, none⟩ (.slice A m c)) := HBr.out.setCell (Nat.le_refl _) _
        have hVE : VdOk (wr.setCell ⟨w1.heap.size, 3, none⟩ (.slice A m c)) 3145729 E ⟨fo, fn, fname, A, m, c⟩ := ((HVr.out.keep' (fun b hb _ => Below.heap_setCell _ _ _ b hb)).more (S' := fun _ => True) (K' := 3145729) (fun _ _ => trivial) (by omega)).ok
        generalize wr.setCell ⟨w1.heap.size, 3, none⟩ (.slice A m c) = WE at *
        have HVE := Lib.hid hVE
        have HBE := Lib.hid (HB1.out.trans (hBE.mono HB1.out.size))
        clear hVE hBE
        have HRE : Hid (∀ W, Below WE.heap.size WE W → Calls Tryd.prog 10 #[.agg #[.int .i64 fo, .int .i64 fn, .string ⟨fname.toArray⟩, .slice A m c]] W fun e w' => e = .returned (.bool (refVB E)) ∧ Below W.heap.size W w') := fun W hb => valid_r W 3145729 (by omega) _ _ _ _ _ _ _ (HVE.out.later hb)
        have HLE : Hid (∀ W, Below WE.heap.size WE W → Calls Tryd.prog 9 #[.agg #[.int .i64 fo, .int .i64 fn, .string ⟨fname.toArray⟩, .slice A m c]] W fun e w' => e = .returned (.bool (refVB E)) ∧ Below W.heap.size W w') := fun W hb => valid_l W 3145729 (by omega) _ _ _ _ _ _ _ (HVE.out.later hb)
        have HAW : Hid (∀ W, Below WE.heap.size WE W → Calls Tryd.prog 12 #[] W fun e w' => e = .returned (.bool true) ∧ Below W.heap.size W w') := fun W hb => awake_any W (HS.out.later (below_rev' hb HBE.out))
        clear HVE
        generalize refVB E = vE at *
        have hvE : (vE == vE) = true := by simp
        obtain ⟨y0, y1, y2, y3, -, -, -, -, -⟩ := blk4 hXE
        have hbE : Below WE.heap.size WE WE := Below.refl _ _
        clear hXE
        go_region_held3 (fun w' => w'.cell? ⟨w1.heap.size, 0, none⟩ = some (.int .i64 fo) ∧ w'.cell? ⟨w1.heap.size, 1, none⟩ = some (.int .i64 fn) ∧ w'.cell? ⟨w1.heap.size, 2, none⟩ = some (.string ⟨fname.toArray⟩) ∧ w'.cell? ⟨w1.heap.size, 3, none⟩ = some (.slice A m c) ∧ Below WE.heap.size WE w')
          (refine ⟨?_, ?_, ?_, ?_, ?_⟩ <;> first | assumption | (refine Below.drew ?_; assumption))
          (first
            | (go_at_call 9; obtain ⟨r0, r1, r2, r3, rb⟩ := ‹_ ∧ _ ∧ _ ∧ _ ∧ Below WE.heap.size WE _›; (with_reducible refine (HLE.out _ rb).mono ?_); rintro e w' ⟨rfl, hb⟩; have u0 := cell_later hb r0; have u1 := cell_later hb r1; have u2 := cell_later hb r2; have u3 := cell_later hb r3; have ub := below_rev' hb rb; clear r0 r1 r2 r3 rb hb)
            | (go_at_call 10; obtain ⟨r0, r1, r2, r3, rb⟩ := ‹_ ∧ _ ∧ _ ∧ _ ∧ Below WE.heap.size WE _›; (with_reducible refine (HRE.out _ rb).mono ?_); rintro e w' ⟨rfl, hb⟩; have u0 := cell_later hb r0; have u1 := cell_later hb r1; have u2 := cell_later hb r2; have u3 := cell_later hb r3; have ub := below_rev' hb rb; clear r0 r1 r2 r3 rb hb)
            | (go_at_call 12; obtain ⟨r0, r1, r2, r3, rb⟩ := ‹_ ∧ _ ∧ _ ∧ _ ∧ Below WE.heap.size WE _›; (with_reducible refine (HAW.out _ rb).mono ?_); rintro e w' ⟨rfl, hb⟩; have u0 := cell_later hb r0; have u1 := cell_later hb r1; have u2 := cell_later hb r2; have u3 := cell_later hb r3; have ub := below_rev' hb rb; clear r0 r1 r2 r3 rb hb))
        have HUB := Lib.hid (below_rev' ub HBE.out)
        clear u0 u1 u2 u3 ub
        go_wp2_with fail
        go_ret
        exact ⟨rfl, HUB.out⟩
end Go.Proofs.YtbnbmibfjobacaaDoor
