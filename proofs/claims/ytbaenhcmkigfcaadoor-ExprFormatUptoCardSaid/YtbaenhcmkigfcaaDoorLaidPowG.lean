/- strconv.Itoa returns the reference's numeral, where the listed table of powers of ten lies in memory. No statement of the program is proved in this file. -/
import Derived.Test.YtbaenhcmkigfcaaDoorItoaG
import Derived.Test.YtbaenhcmkigfcaaDoorLw2LaidG
import Derived.Test.YtbaenhcmkigfcaaDoorShelf
import Derived.Test.YtbaenhcmkigfcaaDoorGTok
import Derived.Lib.LaidTab
namespace Go.Proofs.YtbaenhcmkigfcaaDoor
open Go.ChangeShapes Go.WideShapes Go.ChangeAt Go.RowKit

/-- the table of powers of ten -/
def PwT (w : World) : Prop := Lib.TabIs Tryd.prog w "internal/strconv.uint64pow10" .u64 Lib.pow10Tab
theorem gPow : Tryd.prog.globalNamed "internal/strconv.uint64pow10" = some 2 := by kernel_rfl
theorem tPow : (Tryd.prog.globals[(2 : Nat)]?).map (·.type) = some 166 := by kernel_rfl
theorem laid_pow {H : Type} : (Rows.laid_internal_strconv_uint64pow10 : DataW H) = Lib.tabData .u64 Lib.pow10Tab := rfl
theorem pow_of_laid {W : World} (h : laidMetH Tryd.prog laid4 W) : PwT W := by
  rw [MakeChecks.laidMetH_plain _ _ _ (by kernel_rfl)] at h
  obtain ⟨ps, ⟨g0, t0, cs0, f0, p0, q0, hg0, ht0, hv0, hd0, ⟨g1, t1, cs1, f1, p1, q1, hg1, ht1, hv1, hd1, ⟨g2, t2, cs2, f2, p2, q2, hg2, ht2, hv2, hd2, _, _⟩, _⟩, _⟩, _⟩ := h
  obtain rfl := Option.some.inj (gPow.symm.trans hg2)
  obtain rfl := Option.some.inj (tPow.symm.trans ht2)
  rw [laid_pow] at hd2
  have c1 : Tryd.prog.cellsOf 131 = 1 := by kernel_rfl
  have c20 : Tryd.prog.cellsOf 166 = 20 := by kernel_rfl
  unfold PwT Lib.TabIs
  rw [hv2, ← Lib.cells_of_tab Tryd.underlying166 Tryd.underlying131 c1 c20 hd2]
theorem PwT.lt {w : World} (h : PwT w) : 2 < w.heap.size := World.block_lt_of_cell? _ _ (h.cell gPow 0 (by decide))
theorem PwT.later {w w' : World} (h : PwT w) (hb : Below w.heap.size w w') : PwT w' := by
  have e := hb.block _ h.lt
  have h' : World.var? Tryd.prog w "internal/strconv.uint64pow10" = _ := h
  unfold PwT Lib.TabIs
  rw [← h']
  unfold World.var?
  rw [gPow]
  simp only [Option.bind_some, e]
theorem itoa_any (n : Int) (h0 : -9223372036854775808 ≤ n) (h1 : n ≤ 9223372036854775807) (w : World) (hT : PwT w) :
    Calls Tryd.prog 84 #[.int .i64 n] w fun e w' => e = .returned (.string ⟨(numText n).toArray⟩) ∧ Below w.heap.size w w' := by
  refine (Tryd.strconv_Itoa n h0 h1 w hT).mono ?_
  rintro e w' ⟨rfl, k, os, rfl⟩
  refine ⟨by rw [itoa_num n h0 h1], ?_⟩
  have hb := below_drewN (Below.refl w.heap.size w) k
  exact ⟨hb.os, hb.tape, hb.output, by rw [Sort.size_grow]; have := hb.size; omega, fun b hlt => by
    show ((w.drewN k).heap ++ os)[b]? = _
    rw [Array.getElem?_append_left (by have := hb.size; omega)]
    exact hb.block b hlt⟩

end Go.Proofs.YtbaenhcmkigfcaaDoor
