/- The sanity check of the laws of package parse answers true. -/
import Derived.Test.YtjjooekkieddbaaDoorGPpD
import Derived.Lib.SlBytesConst
namespace Go.Proofs.YtjjooekkieddbaaDoor
open Go.RowKit

theorem byt_new (l : List UInt8) (C : Array Value) (t : TypeId) (fr : Nat × Nat) (w : World) (hC : C = (l.map fun c => Value.int .u8 (c.toNat : Int)).toArray) : Byt (w.alloc (.cells C t fr)) (some ⟨w.heap.size, 0, none⟩) l := by
  intro i hi
  refine ⟨w.heap.size, 0, rfl, ?_⟩
  rw [Nat.zero_add, World.cell?_alloc_mark, hC]
  simp [List.getElem?_eq_getElem hi]
def aw3A : List UInt8 := [109, 117, 116, 101, 120, 32, 97, 59, 32, 102, 117, 110, 99, 32, 109, 97, 105, 110, 40, 41, 32, 123, 32, 108, 111, 99, 107, 32, 97, 59, 32, 117, 110, 108, 111, 99, 107, 32, 97, 59, 32, 125]
def aw3B : List UInt8 := [109, 117, 116, 101, 120, 32, 97, 59, 32, 97]
theorem aw3A_n : (progV aw3A).2.1 = 42 := by kernel_rfl
theorem aw3A_e : (progV aw3A).2.2 = 0 := by kernel_rfl
theorem aw3A_m : (progV aw3A).1.ms.length = 1 := by kernel_rfl
theorem aw3A_f : (progV aw3A).1.fs.map (fun f => f.body.length) = [2] := by kernel_rfl
theorem aw3B_n : (progV aw3B).2.1 = 9 := by kernel_rfl
theorem aw3B_e : (progV aw3B).2.2 = 4 := by kernel_rfl
theorem prgA (w : World) (hS : SgT w) : Calls Tryd.prog 17 #[.slice (some ⟨w.heap.size, 0, none⟩) 42 42] (w.alloc (.cells #[.int .u8 109, .int .u8 117, .int .u8 116, .int .u8 101, .int .u8 120, .int .u8 32, .int .u8 97, .int .u8 59, .int .u8 32, .int .u8 102, .int .u8 117, .int .u8 110, .int .u8 99, .int .u8 32, .int .u8 109, .int .u8 97, .int .u8 105, .int .u8 110, .int .u8 40, .int .u8 41, .int .u8 32, .int .u8 123, .int .u8 32, .int .u8 108, .int .u8 111, .int .u8 99, .int .u8 107, .int .u8 32, .int .u8 97, .int .u8 59, .int .u8 32, .int .u8 117, .int .u8 110, .int .u8 108, .int .u8 111, .int .u8 99, .int .u8 107, .int .u8 32, .int .u8 97, .int .u8 59, .int .u8 32, .int .u8 125] 5 (42, 43))) (PrgPost (w.alloc (.cells #[.int .u8 109, .int .u8 117, .int .u8 116, .int .u8 101, .int .u8 120, .int .u8 32, .int .u8 97, .int .u8 59, .int .u8 32, .int .u8 102, .int .u8 117, .int .u8 110, .int .u8 99, .int .u8 32, .int .u8 109, .int .u8 97, .int .u8 105, .int .u8 110, .int .u8 40, .int .u8 41, .int .u8 32, .int .u8 123, .int .u8 32, .int .u8 108, .int .u8 111, .int .u8 99, .int .u8 107, .int .u8 32, .int .u8 97, .int .u8 59, .int .u8 32, .int .u8 117, .int .u8 110, .int .u8 108, .int .u8 111, .int .u8 99, .int .u8 107, .int .u8 32, .int .u8 97, .int .u8 59, .int .u8 32, .int .u8 125] 5 (42, 43))) (progV aw3A)) :=
  pProgram_any aw3A (some ⟨w.heap.size, 0, none⟩) 42 _ (byt_new aw3A _ _ _ w rfl) (by decide) (by decide) (hS.later ((Below.refl _ _).alloc (Nat.le_refl _) _)) (fun h => lex_ok aw3A h)
theorem prgB (w : World) (hS : SgT w) : Calls Tryd.prog 17 #[.slice (some ⟨w.heap.size, 0, none⟩) 10 10] (w.alloc (.cells #[.int .u8 109, .int .u8 117, .int .u8 116, .int .u8 101, .int .u8 120, .int .u8 32, .int .u8 97, .int .u8 59, .int .u8 32, .int .u8 97] 5 (10, 11))) (PrgPost (w.alloc (.cells #[.int .u8 109, .int .u8 117, .int .u8 116, .int .u8 101, .int .u8 120, .int .u8 32, .int .u8 97, .int .u8 59, .int .u8 32, .int .u8 97] 5 (10, 11))) (progV aw3B)) :=
  pProgram_any aw3B (some ⟨w.heap.size, 0, none⟩) 10 _ (byt_new aw3B _ _ _ w rfl) (by decide) (by decide) (hS.later ((Below.refl _ _).alloc (Nat.le_refl _) _)) (fun h => lex_ok aw3B h)
theorem prgB2 (w : World) (o : Obj) (hS : SgT (w.alloc o)) : Calls Tryd.prog 17 #[.slice (some ⟨w.heap.size + 1, 0, none⟩) 10 10] ((w.alloc o).alloc (.cells #[.int .u8 109, .int .u8 117, .int .u8 116, .int .u8 101, .int .u8 120, .int .u8 32, .int .u8 97, .int .u8 59, .int .u8 32, .int .u8 97] 5 (10, 11))) (PrgPost ((w.alloc o).alloc (.cells #[.int .u8 109, .int .u8 117, .int .u8 116, .int .u8 101, .int .u8 120, .int .u8 32, .int .u8 97, .int .u8 59, .int .u8 32, .int .u8 97] 5 (10, 11))) (progV aw3B)) := by
  have := prgB (w.alloc o) hS
  rwa [show (w.alloc o).heap.size = w.heap.size + 1 by simp] at this

set_option maxRecDepth 100000 in
set_option maxHeartbeats 4000000 in
theorem awake3_any (w : World) (hS : SgT w) : Calls Tryd.prog 14 #[] w fun e w' => e = .returned (.bool true) ∧ Below w.heap.size w w' := by
  have kc := fun (w : World) (C : Array Value) (n c : Nat) => Lib.run_convert_bytes_const (P := Tryd.prog) w 31 5 C n c Tryd.underlying31 Tryd.underlying5
  have HS := Lib.hid hS
  have HA := Lib.hid (prgA w hS)
  have HN := Lib.hid aw3A_n
  have HE := Lib.hid aw3A_e
  have HMs := Lib.hid aw3A_m
  have HFs := Lib.hid aw3A_f
  have HBn := Lib.hid aw3B_n
  have HBe := Lib.hid aw3B_e
  generalize progV aw3A = VA at *
  clear hS
  go_enter Tryd.func14, Tryd.ntmps14
  go_wp2_with fail
  refine HA.out.mono ?_
  rintro e w1 ⟨vG, vM, vF, PG, PM, PF, B, rfl, hB, hPg, hV, hb1⟩
  rw [HN.out, HE.out]
  have HB1 := Lib.hid (below_rev hb1 ((Below.refl _ _).alloc (Nat.le_refl _) _))
  have hm1 : PM.length = 1 := by have := HMs.out; rw [hV] at this; exact this
  have hf := HFs.out
  rw [hV] at hf
  obtain ⟨fe, rfl⟩ : ∃ fe, PF = [fe] := by
    cases PF with
    | nil => cases hf
    | cons x r =>
      cases r with
      | nil => exact ⟨x, rfl⟩
      | cons y r => simp at hf
  have hbody : fe.1.body.length = 2 := by simpa using hf
  obtain ⟨AG, cG, rfl⟩ := slice_form hPg.rG
  obtain ⟨AM, cM, rfl⟩ := slice_form hPg.rM
  obtain ⟨AF, cF, rfl⟩ := slice_form hPg.rF
  obtain ⟨bf, rfl⟩ : ∃ g, AF = some ⟨g, 0, none⟩ := by
    rcases hPg.rF.2 with ⟨_, h0⟩ | ⟨g, cap', cur, e, hg, _⟩
    · simp at h0
    · simp only [Value.slice.injEq] at e
      exact ⟨g, e.1⟩
  have hc2 : w1.cell? ⟨bf, 2, none⟩ = some (.slice fe.2.B 2 fe.2.d) := by
    have := World.ownsRow.cellAt hPg.rF 2 (by simp)
    have h2 : (fnK.cs [fe])[2]? = some (.slice fe.2.B fe.1.body.length fe.2.d) := rfl
    rw [this, h2, hbody]
  have HC2 := Lib.hid hc2
  have hbl : bf < w1.heap.size := World.block_lt_of_cell? _ _ hc2
  rw [hm1]
  have kd : ∀ (o : Obj) (C : Array Value) (n c : Nat), (convert 31 31 (.slice (some ⟨w1.heap.size + 1, 0, none⟩) n c)).run Tryd.prog ((w1.alloc o).alloc (.cells C 5)) = .ok (.slice (some ⟨w1.heap.size + 1, 0, none⟩) n c) ((w1.alloc o).alloc (.cells C 5 (C.size, C.size + 1))) := fun o C n c => by
    have := kc (w1.alloc o) C n c
    rwa [show (w1.alloc o).heap.size = w1.heap.size + 1 by simp] at this
  clear hPg hV hb1 hB hf HA HN HE HMs HFs hc2 kc
  go_wp2_with fail
  refine (prgB2 w1 _ (HS.out.later (HB1.out.alloc HB1.out.size _))).mono ?_
  rintro e w2 ⟨vG2, vM2, vF2, PG2, PM2, PF2, B2, rfl, hB2, hPg2, hV2, hb2⟩
  rw [HBn.out, HBe.out]
  obtain ⟨AG2, cG2, rfl⟩ := slice_form hPg2.rG
  obtain ⟨AM2, cM2, rfl⟩ := slice_form hPg2.rM
  obtain ⟨AF2, cF2, rfl⟩ := slice_form hPg2.rF
  have hx1 : w2.heap[w1.heap.size]? = some (.cells #[.slice AG PG.length cG, .slice AM 1 cM, .slice (some ⟨bf, 0, none⟩) 1 cF] 44 (0, 0)) := (hb2.block _ (by simp; omega)).trans ((Below.heap_alloc _ _ _ (by simp)).trans (heap_alloc_new w1 _))
  obtain ⟨x0, x1, x2, -, hxl⟩ := blk3 hx1
  have hk2 : w2.cell? ⟨bf, 2, none⟩ = some (.slice fe.2.B 2 fe.2.d) := (World.cell?_of_block (a := ⟨bf, 2, none⟩) ((hb2.block bf (by simp; omega)).trans ((Below.heap_alloc _ _ _ (by simp; omega)).trans (Below.heap_alloc _ _ _ hbl)))).trans HC2.out
  have hbl2 : bf < w2.heap.size := World.block_lt_of_cell? _ _ hk2
  have HB2 := Lib.hid (below_rev hb2 ((HB1.out.alloc HB1.out.size _).alloc (by have := HB1.out.size; simp; omega) _))
  clear hPg2 hV2 hb2 hB2 hx1
  go_wp2_with fail
  go_ret
  exact ⟨rfl, HB2.out.alloc HB2.out.size _⟩
end Go.Proofs.YtjjooekkieddbaaDoor
