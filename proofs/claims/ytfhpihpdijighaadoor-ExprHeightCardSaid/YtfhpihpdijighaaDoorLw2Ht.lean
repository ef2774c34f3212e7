/- The walk of ExprHeight: true for all lists of numbers. -/
import Derived.Test.YtfhpihpdijighaaDoorMdExpr
import Derived.Test.YtfhpihpdijighaaDoorLw2Awake
import Derived.Deep.DeepCutAuto
namespace Go.Proofs.YtfhpihpdijighaaDoor
open Go.RowKit

/-- the product of two made expressions -/
def mulG (xs ys : List Int) : Ex := .mk 5 0 [] [madeG xs, madeG ys]
theorem mulG_ok (xs ys : List Int) : ExOk (mulG xs ys) ∧ ExB (mulG xs ys) ∧ exCnt (mulG xs ys) ≤ 129 := by
  obtain ⟨a1, a2, a3⟩ := madeG_ok xs
  obtain ⟨b1, b2, b3⟩ := madeG_ok ys
  refine ⟨.mk _ _ _ _ (by omega) (.inr (.inr ⟨by omega, by omega, rfl⟩)) (fun j hj => ?_), ExB.two _ _ _ _ _ (by simp) a2 b2, ?_⟩
  · have : j = 0 ∨ j = 1 := by simp at hj; omega
    rcases this with rfl | rfl
    · exact a1
    · exact b1
  · unfold mulG
    rw [exCnt, exCnts, exCnts, exCnts]
    omega
theorem mulG_ht (xs ys : List Int) : exHt (madeG xs) ≤ exHt (mulG xs ys) := by
  unfold mulG
  rw [exHt_mk, exHts_cons, exHts_cons, exHts_nil]
  unfold htPart
  omega

/-- what is known behind the two expressions -/
def HtMid (w1 : World) (xs ys : List Int) (XB : Obj) (s6 : Value) (wc : World) : Prop :=
  ∃ yb B, s6 = .pointer (some ⟨yb, 0, none⟩) ∧ wc.heap[yb]? = some (.cells #[.int .i64 5, .int .i64 0, .string ⟨#[]⟩, .slice (some ⟨B, 0, none⟩) 2 2] 38 (0, 0)) ∧ wc.heap[w1.heap.size]? = some XB ∧ ExM wc (fun _ => True) (mulG xs ys) ⟨5, 0, [], some ⟨B, 0, none⟩, 2, 2⟩ ∧ Below w1.heap.size w1 wc

theorem ht_mid {w1 w2 wc : World} {xs ys : List Int} {XB : Obj} {yb B : Nat} {f f' : EF} (hx : ExM w1 (fun _ => True) (madeG xs) f) (hXB : w2.heap[w1.heap.size]? = some XB) (hy : ExM w2 (fun _ => True) (madeG ys) f') (hB2 : Below w1.heap.size w1 w2)
    (hk : ∀ b, b < w2.heap.size → b ≠ yb → wc.heap[b]? = w2.heap[b]?) (hyb : wc.heap[yb]? = some (.cells #[.int .i64 5, .int .i64 0, .string ⟨#[]⟩, .slice (some ⟨B, 0, none⟩) 2 2] 38 (0, 0))) (hB : wc.heap[B]? = some (.cells #[.int .i64 f.op, .int .i64 f.num, .string ⟨f.name.toArray⟩, .slice f.A f.n f.c, .int .i64 f'.op, .int .i64 f'.num, .string ⟨f'.name.toArray⟩, .slice f'.A f'.n f'.c] 38 (0, 0)))
    (hyw : w1.heap.size < yb) (hyn : ∀ b, b < w2.heap.size → b = yb → w2.heap[b]? = some (.cells #[.int .i64 0, .int .i64 0, .string ⟨#[]⟩, .slice none 0 0] 38 (0, 0)) ∧ ExM w2 (· ≠ yb) (madeG ys) f') (hos : wc.os = w2.os) (htp : wc.tape = w2.tape) (hou : wc.output = w2.output) (hsz : w2.heap.size ≤ wc.heap.size) :
    HtMid w1 xs ys XB (.pointer (some ⟨yb, 0, none⟩)) wc := by
  have e : ∀ o', wc.cell? ⟨B, o', none⟩ = [Value.int .i64 f.op, .int .i64 f.num, .string ⟨f.name.toArray⟩, .slice f.A f.n f.c, .int .i64 f'.op, .int .i64 f'.num, .string ⟨f'.name.toArray⟩, .slice f'.A f'.n f'.c][o']? := fun o' => by
    rw [cell_of_row wc B o' _ _ _ hB]
    simp
  have h1l : w1.heap.size < w2.heap.size := lt_of_block hXB
  refine ⟨yb, B, rfl, hyb, (hk _ h1l (by omega)).trans hXB, ?_, ⟨hos.trans hB2.os, htp.trans hB2.tape, hou.trans hB2.output, by omega, fun b hb => (hk b (by omega) (by omega)).trans (hB2.block b hb)⟩⟩
  refine ExM.two _ _ _ B 0 2 trivial ⟨(e 0).trans rfl, (e 1).trans rfl, (e 2).trans rfl, (e 3).trans rfl⟩ ⟨(e 4).trans rfl, (e 5).trans rfl, (e 6).trans rfl, (e 7).trans rfl⟩ ?_ ?_
  · exact (hx.inside.keep fun b hb hlt => (hk b (by omega) (by have := hb.2; omega)).trans (hB2.block b hlt)).more fun _ _ => trivial
  · by_cases hy2 : yb < w2.heap.size
    · exact (((hyn yb hy2 rfl).2).keep fun b hb hlt => hk b hlt hb).more fun _ _ => trivial
    · exact hy.keep fun b _ hlt => hk b hlt (by omega)

theorem ht_one {w1 w2 : World} {xs ys : List Int} {f f' : EF} (hx : ExM w1 (fun _ => True) (madeG xs) f) (hb : Below (w1.alloc (.cells #[.int .i64 f.op, .int .i64 f.num, .string ⟨f.name.toArray⟩, .slice f.A f.n f.c] 38)).drew.heap.size (w1.alloc (.cells #[.int .i64 f.op, .int .i64 f.num, .string ⟨f.name.toArray⟩, .slice f.A f.n f.c] 38)).drew w2) (hy : ExM w2 (fun _ => True) (madeG ys) f') :
    HtMid w1 xs ys (.cells #[.int .i64 f.op, .int .i64 f.num, .string ⟨f.name.toArray⟩, .slice f.A f.n f.c] 38 (0, 0)) (.pointer (some ⟨w2.heap.size + 1, 0, none⟩)) ((w2.alloc (.cells #[.int .i64 f.op, .int .i64 f.num, .string ⟨f.name.toArray⟩, .slice f.A f.n f.c, .int .i64 f'.op, .int .i64 f'.num, .string ⟨f'.name.toArray⟩, .slice f'.A f'.n f'.c] 38)).alloc (.cells #[.int .i64 5, .int .i64 0, .string ⟨#[]⟩, .slice (some ⟨w2.heap.size, 0, none⟩) 2 2] 38)) := by
  have hs : (w1.alloc (.cells #[.int .i64 f.op, .int .i64 f.num, .string ⟨f.name.toArray⟩, .slice f.A f.n f.c] 38)).drew.heap.size = w1.heap.size + 1 := by simp
  have hb2 := hb.size
  have hXB : w2.heap[w1.heap.size]? = some (.cells #[.int .i64 f.op, .int .i64 f.num, .string ⟨f.name.toArray⟩, .slice f.A f.n f.c] 38 (0, 0)) := (hb.block _ (by omega)).trans (heap_alloc_new w1 _)
  refine ht_mid (w2 := w2) (yb := w2.heap.size + 1) (B := w2.heap.size) hx hXB hy (below_rev' hb (((Below.refl _ _).alloc (Nat.le_refl _) _).drew)) (fun b hbb _ => (Below.heap_alloc _ _ b (by simp; omega)).trans (Below.heap_alloc w2 _ b hbb)) ?_ ((Below.heap_alloc _ _ _ (by simp)).trans (heap_alloc_new w2 _)) (by omega) (fun b h1 h2 => by omega) rfl rfl rfl (by simp; omega)
  have := heap_alloc_new (w2.alloc (.cells #[.int .i64 f.op, .int .i64 f.num, .string ⟨f.name.toArray⟩, .slice f.A f.n f.c, .int .i64 f'.op, .int .i64 f'.num, .string ⟨f'.name.toArray⟩, .slice f'.A f'.n f'.c] 38)) (.cells #[.int .i64 5, .int .i64 0, .string ⟨#[]⟩, .slice (some ⟨w2.heap.size, 0, none⟩) 2 2] 38)
  rw [show (w2.alloc (.cells #[.int .i64 f.op, .int .i64 f.num, .string ⟨f.name.toArray⟩, .slice f.A f.n f.c, .int .i64 f'.op, .int .i64 f'.num, .string ⟨f'.name.toArray⟩, .slice f'.A f'.n f'.c] 38)).heap.size = w2.heap.size + 1 by simp] at this
  exact this
theorem ht_two {w1 w2 : World} {xs ys : List Int} {f f' : EF} (hx : ExM w1 (fun _ => True) (madeG xs) f) (hb : Below (w1.alloc (.cells #[.int .i64 f.op, .int .i64 f.num, .string ⟨f.name.toArray⟩, .slice f.A f.n f.c] 38)).drew.heap.size (w1.alloc (.cells #[.int .i64 f.op, .int .i64 f.num, .string ⟨f.name.toArray⟩, .slice f.A f.n f.c] 38)).drew w2) (hy : ExM w2 (fun _ => True) (madeG ys) f') :
    HtMid w1 xs ys (.cells #[.int .i64 f.op, .int .i64 f.num, .string ⟨f.name.toArray⟩, .slice f.A f.n f.c] 38 (0, 0)) (.pointer (some ⟨w2.heap.size, 0, none⟩)) ((w2.alloc (.cells #[.int .i64 5, .int .i64 0, .string ⟨#[]⟩, .slice (some ⟨w2.heap.size + 1, 0, none⟩) 2 2] 38)).alloc (.cells #[.int .i64 f.op, .int .i64 f.num, .string ⟨f.name.toArray⟩, .slice f.A f.n f.c, .int .i64 f'.op, .int .i64 f'.num, .string ⟨f'.name.toArray⟩, .slice f'.A f'.n f'.c] 38)) := by
  have hs : (w1.alloc (.cells #[.int .i64 f.op, .int .i64 f.num, .string ⟨f.name.toArray⟩, .slice f.A f.n f.c] 38)).drew.heap.size = w1.heap.size + 1 := by simp
  have hb2 := hb.size
  have hXB : w2.heap[w1.heap.size]? = some (.cells #[.int .i64 f.op, .int .i64 f.num, .string ⟨f.name.toArray⟩, .slice f.A f.n f.c] 38 (0, 0)) := (hb.block _ (by omega)).trans (heap_alloc_new w1 _)
  refine ht_mid (w2 := w2) (yb := w2.heap.size) (B := w2.heap.size + 1) hx hXB hy (below_rev' hb (((Below.refl _ _).alloc (Nat.le_refl _) _).drew)) (fun b hbb _ => (Below.heap_alloc _ _ b (by simp; omega)).trans (Below.heap_alloc w2 _ b hbb)) ((Below.heap_alloc _ _ _ (by simp)).trans (heap_alloc_new w2 _)) ?_ (by omega) (fun b h1 h2 => by omega) rfl rfl rfl (by simp; omega)
  have := heap_alloc_new (w2.alloc (.cells #[.int .i64 5, .int .i64 0, .string ⟨#[]⟩, .slice (some ⟨w2.heap.size + 1, 0, none⟩) 2 2] 38)) (.cells #[.int .i64 f.op, .int .i64 f.num, .string ⟨f.name.toArray⟩, .slice f.A f.n f.c, .int .i64 f'.op, .int .i64 f'.num, .string ⟨f'.name.toArray⟩, .slice f'.A f'.n f'.c] 38)
  rw [show (w2.alloc (.cells #[.int .i64 5, .int .i64 0, .string ⟨#[]⟩, .slice (some ⟨w2.heap.size + 1, 0, none⟩) 2 2] 38)).heap.size = w2.heap.size + 1 by simp] at this
  exact this
theorem ht_three {w1 w2 : World} {xs ys : List Int} {f f' : EF} (hx : ExM w1 (fun _ => True) (madeG xs) f) (hb : Below ((w1.alloc (.cells #[.int .i64 f.op, .int .i64 f.num, .string ⟨f.name.toArray⟩, .slice f.A f.n f.c] 38)).alloc (.cells #[.int .i64 0, .int .i64 0, .string ⟨#[]⟩, .slice none 0 0] 38)).drew.heap.size ((w1.alloc (.cells #[.int .i64 f.op, .int .i64 f.num, .string ⟨f.name.toArray⟩, .slice f.A f.n f.c] 38)).alloc (.cells #[.int .i64 0, .int .i64 0, .string ⟨#[]⟩, .slice none 0 0] 38)).drew w2) (hy : ExM w2 (((w1.alloc (.cells #[.int .i64 f.op, .int .i64 f.num, .string ⟨f.name.toArray⟩, .slice f.A f.n f.c] 38)).alloc (.cells #[.int .i64 0, .int .i64 0, .string ⟨#[]⟩, .slice none 0 0] 38)).drew.heap.size ≤ ·) (madeG ys) f') :
    HtMid w1 xs ys (.cells #[.int .i64 f.op, .int .i64 f.num, .string ⟨f.name.toArray⟩, .slice f.A f.n f.c] 38 (0, 0)) (.pointer (some ⟨w1.heap.size + 1, 0, none⟩)) ((set4 w2 (w1.heap.size + 1) (.int .i64 5) (.int .i64 0) (.string ⟨#[]⟩) (.slice (some ⟨w2.heap.size, 0, none⟩) 2 2)).alloc (.cells #[.int .i64 f.op, .int .i64 f.num, .string ⟨f.name.toArray⟩, .slice f.A f.n f.c, .int .i64 f'.op, .int .i64 f'.num, .string ⟨f'.name.toArray⟩, .slice f'.A f'.n f'.c] 38)) := by
  have hs : ((w1.alloc (.cells #[.int .i64 f.op, .int .i64 f.num, .string ⟨f.name.toArray⟩, .slice f.A f.n f.c] 38)).alloc (.cells #[.int .i64 0, .int .i64 0, .string ⟨#[]⟩, .slice none 0 0] 38)).drew.heap.size = w1.heap.size + 2 := by simp
  have hb2 := hb.size
  have hXB : w2.heap[w1.heap.size]? = some (.cells #[.int .i64 f.op, .int .i64 f.num, .string ⟨f.name.toArray⟩, .slice f.A f.n f.c] 38 (0, 0)) := (hb.block _ (by omega)).trans ((Below.heap_alloc _ _ _ (by simp)).trans (heap_alloc_new w1 _))
  have hZ : w2.heap[w1.heap.size + 1]? = some (.cells #[.int .i64 0, .int .i64 0, .string ⟨#[]⟩, .slice none 0 0] 38 (0, 0)) := by
    refine (hb.block _ (by omega)).trans ?_
    have := heap_alloc_new (w1.alloc (.cells #[.int .i64 f.op, .int .i64 f.num, .string ⟨f.name.toArray⟩, .slice f.A f.n f.c] 38)) (.cells #[.int .i64 0, .int .i64 0, .string ⟨#[]⟩, .slice none 0 0] 38)
    rw [show (w1.alloc (.cells #[.int .i64 f.op, .int .i64 f.num, .string ⟨f.name.toArray⟩, .slice f.A f.n f.c] 38)).heap.size = w1.heap.size + 1 by simp] at this
    exact this
  have hs4 := set4_size w2 (w1.heap.size + 1) (.int .i64 5) (.int .i64 0) (.string ⟨#[]⟩) (.slice (some ⟨w2.heap.size, 0, none⟩) 2 2)
  have h1 := set4_at hZ (.int .i64 5) (.int .i64 0) (.string ⟨#[]⟩) (.slice (some ⟨w2.heap.size, 0, none⟩) 2 2)
  have h2 := heap_alloc_new (set4 w2 (w1.heap.size + 1) (.int .i64 5) (.int .i64 0) (.string ⟨#[]⟩) (.slice (some ⟨w2.heap.size, 0, none⟩) 2 2)) (.cells #[.int .i64 f.op, .int .i64 f.num, .string ⟨f.name.toArray⟩, .slice f.A f.n f.c, .int .i64 f'.op, .int .i64 f'.num, .string ⟨f'.name.toArray⟩, .slice f'.A f'.n f'.c] 38)
  have hk := fun b (hbb : b < w2.heap.size) (hne : b ≠ w1.heap.size + 1) => set4_alloc_keep w2 (w1.heap.size + 1) (.int .i64 5) (.int .i64 0) (.string ⟨#[]⟩) (.slice (some ⟨w2.heap.size, 0, none⟩) 2 2) (.cells #[.int .i64 f.op, .int .i64 f.num, .string ⟨f.name.toArray⟩, .slice f.A f.n f.c, .int .i64 f'.op, .int .i64 f'.num, .string ⟨f'.name.toArray⟩, .slice f'.A f'.n f'.c] 38) b hne hbb
  obtain ⟨o1, o2, o3⟩ := set4_os w2 (w1.heap.size + 1) (.int .i64 5) (.int .i64 0) (.string ⟨#[]⟩) (.slice (some ⟨w2.heap.size, 0, none⟩) 2 2)
  generalize set4 w2 (w1.heap.size + 1) (.int .i64 5) (.int .i64 0) (.string ⟨#[]⟩) (.slice (some ⟨w2.heap.size, 0, none⟩) 2 2) = W4 at *
  rw [hs4] at h2
  refine ht_mid (w2 := w2) (yb := w1.heap.size + 1) (B := w2.heap.size) hx hXB (hy.more fun _ _ => trivial) (below_rev' hb ((((Below.refl _ _).alloc (Nat.le_refl _) _).alloc (by simp) _).drew)) hk ((Below.heap_alloc W4 _ _ (by omega)).trans h1) h2 (by omega) (fun b h3 h4 => ⟨by rw [h4]; exact hZ, hy.more fun b hbb => by omega⟩) o1 o2 o3 (by simp; omega)

set_option maxRecDepth 100000 in
set_option maxHeartbeats 8000000 in
theorem exprHeight_any (xs ys : List Int) (A A' : Option Addr) (c c' : Nat) (w : World) (hX : IntR w A xs) (hY : IntR w A' ys) (hc : xs.length ≤ c) (hc' : ys.length ≤ c') (hm : xs.length ≤ 9223372036854775807) (hm' : ys.length ≤ 9223372036854775807) (hS : SgT w) :
    Calls Tryd.prog 7 #[.slice A xs.length c, .slice A' ys.length c'] w fun e w' => e = .returned (.bool true) ∧ Below w.heap.size w w' := by
  have HS := Lib.hid hS
  have HEX := Lib.hid (madeExpr_any xs A c w hX hc hm)
  have HEY := Lib.hid (fun W (hb : Below w.heap.size w W) => madeExpr_any ys A' c' W (hY.later hb) hc' hm')
  clear hS hX hY hc hc' hm hm'
  go_enter Tryd.func7, Tryd.ntmps7
  go_wp2_with fail
  refine HEX.out.mono ?_
  rintro e w1 ⟨num, name, A1, n1, c1, rfl, hM1, hb1⟩
  have HM1 := Lib.hid (hM1.more (S' := fun _ => True) fun _ _ => trivial)
  have HB1 := Lib.hid hb1
  clear hM1 hb1 HEX
  obtain ⟨opx, hopx⟩ : ∃ o, o = (madeG xs).op := ⟨_, rfl⟩
  rw [← hopx] at HM1 ⊢
  clear hopx
  go_upto_region 2 with fail
  go_cut [6] (fun s6 wc => HtMid w1 xs ys (.cells #[.int .i64 opx, .int .i64 num, .string ⟨name.toArray⟩, .slice A1 n1 c1] 38 (0, 0)) s6 wc)
  case first =>
    have x0 : (w1.alloc (.cells #[.int .i64 opx, .int .i64 num, .string ⟨name.toArray⟩, .slice A1 n1 c1] 38)).heap[w1.heap.size]? = some (.cells #[.int .i64 opx, .int .i64 num, .string ⟨name.toArray⟩, .slice A1 n1 c1] 38 (0, 0)) := heap_alloc_new w1 _
    have HX0 := Lib.hid x0
    clear x0
    go_region_held3 (fun w' => w'.cell? ⟨w1.heap.size, 0, none⟩ = some (.int .i64 opx) ∧ w'.cell? ⟨w1.heap.size, 1, none⟩ = some (.int .i64 num) ∧ w'.cell? ⟨w1.heap.size, 2, none⟩ = some (.string ⟨name.toArray⟩) ∧ w'.cell? ⟨w1.heap.size, 3, none⟩ = some (.slice A1 n1 c1))
      (go_keep)
      (first
        | (go_at_call 17; obtain ⟨r0, r1, r2, r3⟩ := ‹_ ∧ _ ∧ _ ∧ World.cell? _ ⟨w1.heap.size, 3, none⟩ = _›; refine (HEY.out _ (by first | exact (HB1.out.alloc HB1.out.size _).drew | exact ((HB1.out.alloc HB1.out.size _).alloc (by have := HB1.out.size; simp; omega) _).drew)).mono ?_; rintro e w2 ⟨num2, name2, A2, n2, c2, rfl, hM2, hb2⟩; have u0 := cell_later hb2 r0; have u1 := cell_later hb2 r1; have u2 := cell_later hb2 r2; have u3 := cell_later hb2 r3; have hl2 : w1.heap.size + 1 ≤ w2.heap.size := (by have := hb2.size; simp at this; omega); (first | (have hz := (hb2.block (w1.heap.size + 1) (by simp)).trans ((congrArg (fun k => ((w1.alloc _).alloc _).heap[k]?) (show w1.heap.size + 1 = (w1.alloc _).heap.size by simp)).trans (heap_alloc_new (w1.alloc _) _)); have HZ := Lib.hid hz; obtain ⟨z0, z1, z2, z3, y0, y1, y2, y3, zl⟩ := blk4 hz; clear hz) | skip); have HM2 := Lib.hid hM2; have HB2 := Lib.hid hb2; clear r0 r1 r2 r3 hM2 hb2))
    all_goals
      go_wp2_with fail
      go_meet
      first
        | exact ht_one (f := ⟨opx, num, name, A1, n1, c1⟩) (f' := ⟨(madeG ys).op, num2, name2, A2, n2, c2⟩) HM1.out HB2.out (HM2.out.more fun _ _ => trivial)
        | exact ht_two (f := ⟨opx, num, name, A1, n1, c1⟩) (f' := ⟨(madeG ys).op, num2, name2, A2, n2, c2⟩) HM1.out HB2.out (HM2.out.more fun _ _ => trivial)
        | exact ht_three (f := ⟨opx, num, name, A1, n1, c1⟩) (f' := ⟨(madeG ys).op, num2, name2, A2, n2, c2⟩) HM1.out HB2.out HM2.out
  case rest =>
    obtain ⟨yb, B, rfl, hyb, hxb, hM, hbc⟩ := hcut
    obtain ⟨x0, x1, x2, x3, -, -, -, -, -⟩ := blk4 hxb
    obtain ⟨y0, y1, y2, y3, -, -, -, -, -⟩ := blk4 hyb
    have HBC := Lib.hid (below_rev' hbc HB1.out)
    have HMX := Lib.hid (HM1.out.later hbc)
    obtain ⟨p1, p2, p3⟩ := madeG_ok xs
    obtain ⟨m1, m2, m3⟩ := mulG_ok xs ys
    have hlx := height_le _ p1
    have hly := height_le _ m1
    have hle := mulG_ht xs ys
    have HDX : Hid (∀ W, Below wc.heap.size wc W → Calls Tryd.prog 23 #[.agg #[.int .i64 opx, .int .i64 num, .string ⟨name.toArray⟩, .slice A1 n1 c1]] W fun e w' => e = .returned (.int .i64 (exHt (madeG xs) : Int)) ∧ Below W.heap.size W w') := fun W hb => by
      have := heightD_any W (madeG xs) opx num name A1 n1 c1 (HMX.out.later hb) p2 (by omega)
      rw [height_same _ p1 0, Nat.zero_add] at this
      exact this
    have HDY : Hid (∀ W, Below wc.heap.size wc W → Calls Tryd.prog 23 #[.agg #[.int .i64 5, .int .i64 0, .string ⟨#[]⟩, .slice (some ⟨B, 0, none⟩) 2 2]] W fun e w' => e = .returned (.int .i64 (exHt (mulG xs ys) : Int)) ∧ Below W.heap.size W w') := fun W hb => by
      have := heightD_any W (mulG xs ys) 5 0 [] (some ⟨B, 0, none⟩) 2 2 (hM.later hb) m2 (by omega)
      rw [height_same _ m1 0, Nat.zero_add] at this
      exact this
    have HRX : Hid (∀ W, Below wc.heap.size wc W → Calls Tryd.prog 24 #[.agg #[.int .i64 opx, .int .i64 num, .string ⟨name.toArray⟩, .slice A1 n1 c1]] W fun e w' => e = .returned (.int .i64 (exHt (madeG xs) : Int)) ∧ Below W.heap.size W w') := fun W hb => height_fuel _ (madeG xs) opx num name A1 n1 c1 W (Nat.lt_succ_self _) p2 (by omega) (HMX.out.later hb)
    have HRY : Hid (∀ W, Below wc.heap.size wc W → Calls Tryd.prog 24 #[.agg #[.int .i64 5, .int .i64 0, .string ⟨#[]⟩, .slice (some ⟨B, 0, none⟩) 2 2]] W fun e w' => e = .returned (.int .i64 (exHt (mulG xs ys) : Int)) ∧ Below W.heap.size W w') := fun W hb => height_fuel _ (mulG xs ys) 5 0 [] (some ⟨B, 0, none⟩) 2 2 W (Nat.lt_succ_self _) m2 (by omega) (hM.later hb)
    have HAW : Hid (∀ W, Below wc.heap.size wc W → Calls Tryd.prog 13 #[] W fun e w' => e = .returned (.bool true) ∧ Below W.heap.size W w') := fun W hb => awake_any W (HS.out.later (below_rev' hb HBC.out))
    generalize exHt (madeG xs) = hX at *
    generalize exHt (mulG xs ys) = hY at *
    have tX := bT (show ((hX : Nat) : Int) = hX from rfl)
    have tY := bT (show ((hY : Nat) : Int) = hY from rfl)
    have dXY : decide (hY ≥ hX) = true := decide_eq_true hle
    have hbb : Below wc.heap.size wc wc := Below.refl _ _
    clear hxb hyb hM hbc p1 p2 p3 m1 m2 m3 hlx hly HMX HM1 HEY
    go_wp2_with fail
    go_region_held3 (fun w' => w'.cell? ⟨w1.heap.size, 0, none⟩ = some (.int .i64 opx) ∧ w'.cell? ⟨w1.heap.size, 1, none⟩ = some (.int .i64 num) ∧ w'.cell? ⟨w1.heap.size, 2, none⟩ = some (.string ⟨name.toArray⟩) ∧ w'.cell? ⟨w1.heap.size, 3, none⟩ = some (.slice A1 n1 c1) ∧ w'.cell? ⟨yb, 0, none⟩ = some (.int .i64 5) ∧ w'.cell? ⟨yb, 1, none⟩ = some (.int .i64 0) ∧ w'.cell? ⟨yb, 2, none⟩ = some (.string ⟨#[]⟩) ∧ w'.cell? ⟨yb, 3, none⟩ = some (.slice (some ⟨B, 0, none⟩) 2 2) ∧ Below wc.heap.size wc w')
      (refine ⟨?_, ?_, ?_, ?_, ?_, ?_, ?_, ?_, ?_⟩ <;> first | assumption | (refine Below.drew ?_; assumption))
      (first
        | (go_at_call 23; obtain ⟨r0, r1, r2, r3, r4, r5, r6, r7, rb⟩ := ‹_ ∧ _ ∧ _ ∧ _ ∧ _ ∧ _ ∧ _ ∧ _ ∧ Below wc.heap.size wc _›; (first | (with_reducible refine (HDX.out _ rb).mono ?_) | (with_reducible refine (HDY.out _ rb).mono ?_)); rintro e w' ⟨rfl, hb⟩; have u0 := cell_later hb r0; have u1 := cell_later hb r1; have u2 := cell_later hb r2; have u3 := cell_later hb r3; have u4 := cell_later hb r4; have u5 := cell_later hb r5; have u6 := cell_later hb r6; have u7 := cell_later hb r7; have ub := below_rev' hb rb; clear r0 r1 r2 r3 r4 r5 r6 r7 rb hb)
        | (go_at_call 24; obtain ⟨r0, r1, r2, r3, r4, r5, r6, r7, rb⟩ := ‹_ ∧ _ ∧ _ ∧ _ ∧ _ ∧ _ ∧ _ ∧ _ ∧ Below wc.heap.size wc _›; (first | (with_reducible refine (HRX.out _ rb).mono ?_) | (with_reducible refine (HRY.out _ rb).mono ?_)); rintro e w' ⟨rfl, hb⟩; have u0 := cell_later hb r0; have u1 := cell_later hb r1; have u2 := cell_later hb r2; have u3 := cell_later hb r3; have u4 := cell_later hb r4; have u5 := cell_later hb r5; have u6 := cell_later hb r6; have u7 := cell_later hb r7; have ub := below_rev' hb rb; clear r0 r1 r2 r3 r4 r5 r6 r7 rb hb)
        | (go_at_call 13; obtain ⟨r0, r1, r2, r3, r4, r5, r6, r7, rb⟩ := ‹_ ∧ _ ∧ _ ∧ _ ∧ _ ∧ _ ∧ _ ∧ _ ∧ Below wc.heap.size wc _›; refine (HAW.out _ rb).mono ?_; rintro e w' ⟨rfl, hb⟩; have u0 := cell_later hb r0; have u1 := cell_later hb r1; have u2 := cell_later hb r2; have u3 := cell_later hb r3; have u4 := cell_later hb r4; have u5 := cell_later hb r5; have u6 := cell_later hb r6; have u7 := cell_later hb r7; have ub := below_rev' hb rb; clear r0 r1 r2 r3 r4 r5 r6 r7 rb hb))
    all_goals
      have HUB := Lib.hid (below_rev' ub HBC.out)
      clear u0 u1 u2 u3 u4 u5 u6 u7 ub
      go_wp2_with fail
      go_ret
      exact ⟨rfl, HUB.out⟩

end Go.Proofs.YtfhpihpdijighaaDoor
