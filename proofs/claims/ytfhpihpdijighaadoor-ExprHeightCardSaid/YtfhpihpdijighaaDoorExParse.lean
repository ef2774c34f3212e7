/- What Parse of package expr returns: the plain function parseV. -/
import Derived.Test.YtfhpihpdijighaaDoorExPar3
namespace Go.Proofs.YtfhpihpdijighaaDoor
open Go.RowKit

/-- the expression, the place and the error -/
def parseV (ts : List Tk.Tok) (at_ : Int) : Ex × Int × Nat :=
  if 0 ≤ at_ ∧ at_ < ts.length ∧ Ps.kindAt ts (ts.length - 1) = 5 then ((Ps.PE ts 1 0 at_.toNat).ex, ((Ps.PE ts 1 0 at_.toNat).at_ : Int), (Ps.PE ts 1 0 at_.toNat).err) else (.mk 0 0 [] [], at_, 4)
/-- what Parse leaves -/
def ParsePost (w : World) (R : Ex × Int × Nat) (e : Ending) (w' : World) : Prop :=
  ∃ f : EF, e = .returned (.tuple #[f.val, .int .i64 R.2.1, .int .i64 (R.2.2 : Int)]) ∧ ExM w' (w.heap.size ≤ ·) R.1 f ∧ Below w.heap.size w w'

theorem parse_no (w : World) (at_ : Int) (W : World) (hW : Below w.heap.size w W) : ParsePost w (.mk 0 0 [] [], at_, 4) (.returned (.tuple #[.agg #[.int .i64 0, .int .i64 0, .string ⟨#[]⟩, .slice none 0 0], .int .i64 at_, .int .i64 4])) W :=
  ⟨⟨0, 0, [], none, 0, 0⟩, rfl, ExM.leaf _ _ _ _ _ _ _, hW⟩
/-- a new parser -/
theorem psr_new (w : World) (ts : List Tk.Tok) (k : Nat) (A : Option Addr) (c : Nat) (hT : TokS w A ts) (hS : SgT w) (hk : k < ts.length) (hn : ts.length ≤ 1000000) (Z : Obj) :
    Psr ((w.alloc Z).alloc (.cells #[.slice A ts.length c, .int .i64 (k : Int), .int .i64 0] 58)) (w.heap.size + 1) ts k 0 := by
  have hb : ∀ b, b < w.heap.size → ((w.alloc Z).alloc (.cells #[.slice A ts.length c, .int .i64 (k : Int), .int .i64 0] 58)).heap[b]? = w.heap[b]? := fun b hb => (Below.heap_alloc _ _ b (by simp; omega)).trans (Below.heap_alloc w Z b hb)
  refine ⟨A, c, ?_, hk, by omega, hn, hS.keep (hb _ hS.lt), by have := hS.lt; omega, fun i hi => ?_⟩
  · have := heap_alloc_new (w.alloc Z) (.cells #[.slice A ts.length c, .int .i64 (k : Int), .int .i64 0] 58)
    simpa using this
  · obtain ⟨b, e, h0, h1, h2, h3⟩ := hT i hi
    have hbl : b < w.heap.size := World.block_lt_of_cell? _ _ h0
    have e1 : ∀ o', ((w.alloc Z).alloc (.cells #[.slice A ts.length c, .int .i64 (k : Int), .int .i64 0] 58)).cell? ⟨b, o', none⟩ = w.cell? ⟨b, o', none⟩ := fun o' => World.cell?_of_block (hb b hbl)
    exact ⟨b, e, by omega, (e1 _).trans h0, (e1 _).trans h1, (e1 _).trans h2, (e1 _).trans h3⟩

theorem set4_below {w w1 : World} (h : Below w.heap.size w w1) (hr : w.heap.size < w1.heap.size) (u0 u1 u2 u3 : Value) (o : Obj) : Below w.heap.size w ((set4 w1 w.heap.size u0 u1 u2 u3).alloc o) := by
  obtain ⟨a1, a2, a3⟩ := set4_os w1 w.heap.size u0 u1 u2 u3
  exact ⟨a1.trans h.os, a2.trans h.tape, a3.trans h.output, by have := set4_size w1 w.heap.size u0 u1 u2 u3; simp; omega, fun b hb => (set4_alloc_keep w1 w.heap.size u0 u1 u2 u3 o b (by omega) (by omega)).trans (h.block b hb)⟩
theorem below_new {w w1 : World} {Z : Array Value} {t : TypeId} {P : Obj} (hG : ((w.alloc (.cells Z t)).alloc P).grownBy w1 (some (w.heap.size + 1))) : Below w.heap.size w w1 ∧ w1.heap[w.heap.size]? = some (.cells Z t (0, 0)) := by
  have hs : ((w.alloc (.cells Z t)).alloc P).heap.size = w.heap.size + 2 := by simp
  have hb : ∀ b, b ≤ w.heap.size → w1.heap[b]? = (w.alloc (.cells Z t)).heap[b]? := fun b hb => (hG.block b (by omega) (fun e => by injection e with e; omega)).trans (Below.heap_alloc _ _ b (by simp; omega))
  exact ⟨⟨hG.os, hG.tape, hG.output, by have := hG.size; omega, fun b hbb => (hb b (by omega)).trans (Below.heap_alloc w _ b hbb)⟩, (hb _ (Nat.le_refl _)).trans (heap_alloc_new w _)⟩

set_option maxRecDepth 100000 in
set_option maxHeartbeats 4000000 in
theorem parse_any (ts : List Tk.Tok) (A : Option Addr) (c : Nat) (at_ : Int) (w : World) (hT : TokS w A ts) (hS : SgT w) (hn : ts.length ≤ 1000000) (hat : -9223372036854775808 ≤ at_ ∧ at_ ≤ 9223372036854775807) :
    Calls Tryd.prog 16 #[.slice A ts.length c, .int .i64 at_] w (ParsePost w (parseV ts at_)) := by
  have hb0 : Below w.heap.size w (w.alloc (.cells #[.int .i64 0, .int .i64 0, .string ⟨#[]⟩, .slice none 0 0] 38)) := (Below.refl _ _).alloc (Nat.le_refl _) _
  have HB0 := Lib.hid hb0
  clear hb0
  by_cases h0 : 0 ≤ at_
  · by_cases h1 : at_ < ts.length
    · obtain ⟨k, rfl⟩ := Int.eq_ofNat_of_zero_le h0
      have hk : k < ts.length := by omega
      have hl : ts.length - 1 < ts.length := by omega
      obtain ⟨b, rfl, q0, -, -, -⟩ := hT (ts.length - 1) hl
      have hkd : Ps.kindAt ts (ts.length - 1) = ts[ts.length - 1].kind := by unfold Ps.kindAt; rw [List.getElem?_eq_getElem hl]
      rw [← hkd] at q0
      have hbl : b < w.heap.size := World.block_lt_of_cell? _ _ q0
      have i0 : (0 : Int) ≤ (ts.length : Int) - 1 := by omega
      have i1 : (ts.length : Int) - 1 < (ts.length : Int) := by omega
      have i2 : ((ts.length : Int) - 1).toNat = ts.length - 1 := by omega
      have d0 : decide ((k : Int) < 0) = false := decide_eq_false (by omega)
      have d1 : decide ((ts.length : Int) - 1 < (k : Int)) = false := decide_eq_false (by omega)
      by_cases h5 : Ps.kindAt ts (ts.length - 1) = 5
      · have t5 := nF (show ((Ps.kindAt ts (ts.length - 1) : Nat) : Int) = 5 by omega)
        have HV : Hid (parseV ts (k : Int) = ((Ps.PE ts 1 0 k).ex, ((Ps.PE ts 1 0 k).at_ : Int), (Ps.PE ts 1 0 k).err)) := by
          unfold parseV
          rw [if_pos ⟨h0, h1, h5⟩, Int.toNat_natCast]
          rfl
        have HPs := Lib.hid (psr_new w ts k _ c hT hS hk hn (.cells #[.int .i64 0, .int .i64 0, .string ⟨#[]⟩, .slice none 0 0] 38))
        have HPF := Lib.hid (fun W (hW : Psr W (w.heap.size + 1) ts k 0) => (parser_fuel (w.heap.size + 1) ts h5 (ts.length + 1) k 0 W (by omega) hW).1 1 (by omega) (by omega))
        clear hT hS h0 h1 h5 hkd hat
        generalize Ps.kindAt ts (ts.length - 1) = K at *
        go_enter Tryd.func16, Tryd.ntmps16
        go_wp2_with fail
        refine (HPF.out _ HPs.out).mono ?_
        rintro e w1 ⟨f, rfl, hE, hP, hG⟩
        unfold EF.val
        obtain ⟨hBw, hZ⟩ := below_new hG
        have hPat := hP.cells
        obtain ⟨tb, tc, -, -, -, p1, -⟩ := hPat
        obtain ⟨r0, r1, r2, r3, z0, z1, z2, z3, hrl⟩ := blk4 hZ
        have HE := Lib.hid hE
        have HBw := Lib.hid hBw
        have hgl : w.heap.size + 1 < w1.heap.size := hP.lt
        clear hE hP hG hBw hZ HPF HPs
        obtain ⟨E0, hE0⟩ : ∃ n, n = (Ps.PE ts 1 0 k).err := ⟨_, rfl⟩
        obtain ⟨A0, hA0⟩ : ∃ n, n = (Ps.PE ts 1 0 k).at_ := ⟨_, rfl⟩
        rw [← hE0] at HV ⊢
        rw [← hA0] at p1 HV
        clear hE0 hA0
        generalize (Ps.PE ts 1 0 k).ex = X0 at *
        go_wp2_with fail
        go_region
        go_wp2_with fail
        refine bodyPost_ret (v := .tuple #[.agg #[.int .i64 f.op, .int .i64 f.num, .string ⟨f.name.toArray⟩, .slice f.A f.n f.c], .int .i64 (A0 : Int), .int .i64 (E0 : Int)]) (by simp [results, Tryd.results16, go_sem, r0, r1, r2, r3, hrl]) rfl ?_
        rw [HV.out]
        refine ⟨f, rfl, ?_, (set4_below HBw.out hrl (.int .i64 f.op) (.int .i64 f.num) (.string ⟨f.name.toArray⟩) (.slice f.A f.n f.c) _).drew⟩
        have hE2 : ExM w1 (w.heap.size + 2 ≤ ·) X0 f := HE.out.more fun b hb => by simp at hb; omega
        refine ExM.more (S := fun b => w.heap.size + 2 ≤ b) ?_ (fun b hb => by omega)
        refine hE2.keep ?_
        intro b hb hlt
        exact set4_alloc_keep w1 w.heap.size (.int .i64 f.op) (.int .i64 f.num) (.string ⟨f.name.toArray⟩) (.slice f.A f.n f.c) _ b (by omega) hlt
      · have t5 := nT (show ((Ps.kindAt ts (ts.length - 1) : Nat) : Int) ≠ 5 by omega)
        have HV : Hid (parseV ts (k : Int) = (.mk 0 0 [] [], (k : Int), 4)) := if_neg fun h => h5 h.2.2
        clear hT hS h0 h1 h5 hkd hat
        generalize Ps.kindAt ts (ts.length - 1) = K at *
        go_enter Tryd.func16, Tryd.ntmps16
        go_wp2_with fail
        refine bodyPost_ret (v := .tuple #[.agg #[.int .i64 0, .int .i64 0, .string ⟨#[]⟩, .slice none 0 0], .int .i64 (k : Int), .int .i64 4]) (by simp [results, Tryd.results16, go_sem]) rfl ?_
        rw [HV.out]
        exact parse_no w _ _ HB0.out
    · have HV : Hid (parseV ts at_ = (.mk 0 0 [] [], at_, 4)) := if_neg fun h => h1 h.2.1
      have d0 : decide (at_ < 0) = false := decide_eq_false (by omega)
      have d1 : decide ((ts.length : Int) - 1 < at_) = true := decide_eq_true (by omega)
      clear hT hS h0 h1
      go_enter Tryd.func16, Tryd.ntmps16
      go_wp2_with fail
      refine bodyPost_ret (v := .tuple #[.agg #[.int .i64 0, .int .i64 0, .string ⟨#[]⟩, .slice none 0 0], .int .i64 at_, .int .i64 4]) (by simp [results, Tryd.results16, go_sem]) rfl ?_
      rw [HV.out]
      exact parse_no w _ _ HB0.out
  · have HV : Hid (parseV ts at_ = (.mk 0 0 [] [], at_, 4)) := if_neg fun h => h0 h.1
    have d0 : decide (at_ < 0) = true := decide_eq_true (by omega)
    clear hT hS h0
    go_enter Tryd.func16, Tryd.ntmps16
    go_wp2_with fail
    refine bodyPost_ret (v := .tuple #[.agg #[.int .i64 0, .int .i64 0, .string ⟨#[]⟩, .slice none 0 0], .int .i64 at_, .int .i64 4]) (by simp [results, Tryd.results16, go_sem]) rfl ?_
    rw [HV.out]
    exact parse_no w _ _ HB0.out
end Go.Proofs.YtfhpihpdijighaaDoor
