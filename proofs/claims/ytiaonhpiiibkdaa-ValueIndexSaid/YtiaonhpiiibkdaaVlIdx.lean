/- What Index of package value and of the reference do. -/
import Derived.Test.YtiaonhpiiibkdaaVlMade
namespace Go.Proofs.Ytiaonhpiiibkdaa
open Go.RowKit
set_option maxRecDepth 100000

/-- a mutex of the list: its size -/
def SzAt (w : World) (A : Option Addr) (szs : List Int) : Prop :=
  ∀ i (h : i < szs.length), ∃ b off, A = some ⟨b, off, none⟩ ∧ w.cell? ⟨b, off + i * 3 + 2, none⟩ = some (.int .i64 szs[i])
theorem SzAt.later {w w' : World} {A : Option Addr} {szs : List Int} (h : SzAt w A szs) (hb : Below w.heap.size w w') : SzAt w' A szs := fun i hi => by
  obtain ⟨b, off, e, hc⟩ := h i hi
  exact ⟨b, off, e, cell_later hb hc⟩
theorem sizeOf_any (w : World) (A : Option Addr) (szs : List Int) (cap k : Nat) (hk : k < szs.length) (hS : SzAt w A szs) :
    Calls Try.prog 28 #[.int .i64 (k : Int), .slice A szs.length cap] w fun e w' => e = .returned (.int .i64 szs[k]) ∧ Below w.heap.size w w' := by
  obtain ⟨b, off, rfl, hc⟩ := hS k hk
  generalize szs[k] = s at *
  have i0 : (0 : Int) ≤ (k : Int) := by omega
  have i1 : (k : Int) < (szs.length : Int) := by omega
  clear hS
  go_enter Try.func28, Try.ntmps28
  go_wp2
  go_ret
  exact ⟨rfl, Below.refl _ _⟩
theorem vblk3 {w : World} {b : Nat} {c0 c1 c2 : Value} {t : TypeId} (h : w.heap[b]? = some (.cells #[c0, c1, c2] t (0, 0))) :
    w.cell? ⟨b, 0, none⟩ = some c0 ∧ w.cell? ⟨b, 1, none⟩ = some c1 ∧ w.cell? ⟨b, 2, none⟩ = some c2 := by
  refine ⟨?_, ?_, ?_⟩
  · rw [cell_of_row w b 0 _ _ _ h]; rfl
  · rw [cell_of_row w b 1 _ _ _ h]; rfl
  · rw [cell_of_row w b 2 _ _ _ h]; rfl
/-- what Index returns -/
def ixV (s : Int) (r : Int × Int) : Int × Int := if r.2 ≠ 0 then (0, r.2) else if r.1 < 0 ∨ s ≤ r.1 then (0, 2) else (r.1, 0)

set_option maxHeartbeats 4000000 in
theorem vindex_any (w : World) (k : Nat) (A : Option Addr) (szs : List Int) (cap : Nat) (hk : k < szs.length) (hS : SzAt w A szs) (b o c : Nat) (E : Ex) (f : EF) (gs ls : List Int) (ga la : Option Addr) (gc lc : Nat) (hs : 1 ≤ szs[k]) (hat : EFat w b o f) (hM : ExM w (fun _ => True) E f) (hR : RsOk gs.length ls.length E) (hC : exCnt E ≤ 10000000000) (hG : IntR w ga gs) (hL : IntR w la ls) (hag : AllI gs) (hal : AllI ls) :
    Calls Try.prog 18 #[.agg #[.bool false, .int .i64 (k : Int), .slice (some ⟨b, o, none⟩) 1 c], .slice A szs.length cap, .slice ga gs.length gc, .slice la ls.length lc] w fun e w' => e = .returned (.tuple #[.int .i64 (ixV szs[k] (evV gs ls E)).1, .int .i64 (ixV szs[k] (evV gs ls E)).2]) ∧ Below w.heap.size w w' := by
  have HSZ := Lib.hid (fun W (h : Below w.heap.size w W) => sizeOf_any W A szs cap k hk (hS.later h))
  have HEV := Lib.hid (fun W (h : Below w.heap.size w W) => evalF_any W E f gs ls ga la gc lc (hM.later h) hR hC (hG.later h) (hL.later h) hag hal)
  have HAT := Lib.hid (fun W (h : Below w.heap.size w W) => hat.keep (h.block b hat.lt))
  have HRO := Lib.hid (evV_ok hag hal E hR)
  clear hS hat hM hR hG hL
  generalize szs[k] = s at *
  generalize evV gs ls E = R at *
  go_enter Try.func18, Try.ntmps18
  have hb0 : Below w.heap.size w (w.alloc (.cells #[.bool false, .int .i64 (k : Int), .slice (some ⟨b, o, none⟩) 1 c] 43)) := (Below.refl _ _).alloc (Nat.le_refl _) _
  go_wp2_with fail
  refine (HSZ.out _ hb0).mono ?_
  rintro e w1 ⟨rfl, hb1⟩
  obtain ⟨p0, p1, p2⟩ := vblk3 ((hb1.block w.heap.size (by simp)).trans (heap_alloc_new w _))
  have hB1 := below_two hb0 hb1
  obtain ⟨a0, a1, a2, a3⟩ := HAT.out w1 hB1
  have HB1 := Lib.hid hB1
  have ts := bF (show s ≠ 0 by omega)
  clear hb0 hb1 hB1 HAT HSZ
  go_wp2_with fail
  refine (HEV.out w1 HB1.out).mono ?_
  rintro e w2 ⟨rfl, hb2⟩
  have HB2 := Lib.hid (below_two HB1.out hb2)
  clear hb2 HB1 HEV a0 a1 a2 a3 p0 p1 p2
  obtain ⟨r1, r2⟩ := R
  dsimp only at *
  by_cases h2 : r2 = 0
  · subst h2
    by_cases hx : r1 < 0 ∨ s ≤ r1
    · have HV : Hid (ixV s (r1, 0) = (0, 2)) := by show _ = _; unfold ixV; rw [if_neg (by simp), if_pos hx]
      rcases hx with hx | hx
      · go_wp2_with fail
        go_ret2
        rw [HV.out]
        exact ⟨rfl, HB2.out⟩
      · have hx2 : ¬ r1 < 0 := by omega
        go_wp2_with fail
        go_ret2
        rw [HV.out]
        exact ⟨rfl, HB2.out⟩
    · have HV : Hid (ixV s (r1, 0) = (r1, 0)) := by show _ = _; unfold ixV; rw [if_neg (by simp), if_neg hx]
      have hx1 : 0 ≤ r1 := by omega
      have hx2 : r1 < s := by omega
      clear hx
      go_wp2_with fail
      go_ret2
      rw [HV.out]
      exact ⟨rfl, HB2.out⟩
  · have HV : Hid (ixV s (r1, r2) = (0, r2)) := by show _ = _; unfold ixV; rw [if_pos h2]
    have t2 := bF h2
    go_wp2_with fail
    go_ret2
    rw [HV.out]
    exact ⟨rfl, HB2.out⟩

theorem ixV_in (s : Int) (R : Int × Int) (hs : 1 ≤ s) : 0 ≤ (ixV s R).1 ∧ (ixV s R).1 < s := by
  unfold ixV
  split
  · exact ⟨Int.le_refl 0, by show (0 : Int) < s; omega⟩
  · split
    · exact ⟨Int.le_refl 0, by show (0 : Int) < s; omega⟩
    · rename_i h
      show 0 ≤ R.1 ∧ R.1 < s
      omega
/-- a scalar -/
theorem vindexS_any (w : World) (A : Option Addr) (szs : List Int) (cap : Nat) (hk : 0 < szs.length) (hS : SzAt w A szs) (V1 V2 : Value) (hs : szs[0] = 0) :
    Calls Try.prog 18 #[.agg #[.bool false, .int .i64 0, .slice none 0 0], .slice A szs.length cap, V1, V2] w fun e w' => e = .returned (.tuple #[.int .i64 0, .int .i64 0]) ∧ Below w.heap.size w w' := by
  have HSZ := Lib.hid (fun W (h : Below w.heap.size w W) => sizeOf_any W A szs cap 0 hk (hS.later h))
  rw [hs] at HSZ
  clear hS
  have hb0 : Below w.heap.size w (w.alloc (.cells #[.bool false, .int .i64 0, .slice none 0 0] 43)) := (Below.refl _ _).alloc (Nat.le_refl _) _
  go_enter Try.func18, Try.ntmps18
  go_wp2_with fail
  refine (HSZ.out _ hb0).mono ?_
  rintro e w1 ⟨rfl, hb1⟩
  have HB1 := Lib.hid (below_two hb0 hb1)
  clear hb0 hb1 HSZ
  go_wp2_with fail
  go_ret2
  exact ⟨rfl, HB1.out⟩
theorem rindexS_any (w : World) (V0 V1 V2 : Value) :
    Calls Try.prog 19 #[.agg #[.bool false, .int .i64 0, .slice none 0 0], V0, V1, V2] w fun e w' => e = .returned (.tuple #[.int .i64 0, .int .i64 0]) ∧ Below w.heap.size w w' := by
  go_enter Try.func19, Try.ntmps19
  go_wp2_with fail
  go_ret2
  exact ⟨rfl, (Below.refl _ _).alloc (Nat.le_refl _) _⟩
/-- the list of mutexes in the reference -/
theorem rindex_of (w : World) (k : Nat) (A : Option Addr) (szs : List Int) (cap : Nat) (hk : k < szs.length) (hS : SzAt w A szs) (b o c : Nat) (E : Ex) (f : EF) (gs ls : List Int) (ga la : Option Addr) (gc lc : Nat) (hs : 1 ≤ szs[k]) (hat : EFat w b o f) (hM : ExM w (fun _ => True) E f) (hR : RsOk gs.length ls.length E) (hG : IntR w ga gs) (hL : IntR w la ls) (hag : AllI gs) (hal : AllI ls) :
    Calls Try.prog 19 #[.agg #[.bool false, .int .i64 (k : Int), .slice (some ⟨b, o, none⟩) 1 c], .slice A szs.length cap, .slice ga gs.length gc, .slice la ls.length lc] w fun e w' => e = .returned (.tuple #[.int .i64 (ixV szs[k] (evV gs ls E)).1, .int .i64 (ixV szs[k] (evV gs ls E)).2]) ∧ Below w.heap.size w w' := by
  have HEV := Lib.hid (fun W (h : Below w.heap.size w W) => refEval_any W E f gs ls ga la gc lc (hM.later h) hR (hG.later h) (hL.later h) hag hal)
  have hb0 : Below w.heap.size w (w.alloc (.cells #[.bool false, .int .i64 (k : Int), .slice (some ⟨b, o, none⟩) 1 c] 43)) := (Below.refl _ _).alloc (Nat.le_refl _) _
  obtain ⟨a0, a1, a2, a3⟩ := hat.keep (hb0.block b hat.lt)
  obtain ⟨sb, so, rfl, hc⟩ := hS k hk
  have HSC := Lib.hid (fun W (h : Below w.heap.size w W) => cell_later h hc)
  have HB0 := Lib.hid hb0
  clear hS hat hM hR hG hL hc
  generalize szs[k] = s at *
  generalize evV gs ls E = R at *
  have i0 : (0 : Int) ≤ (k : Int) := by omega
  have i1 : (k : Int) < (szs.length : Int) := by omega
  clear hb0
  go_enter Try.func19, Try.ntmps19
  go_wp2_with fail
  refine (HEV.out _ HB0.out).mono ?_
  rintro e w2 ⟨rfl, hb2⟩
  obtain ⟨p0, p1, p2⟩ := vblk3 ((hb2.block w.heap.size (by simp)).trans (heap_alloc_new w _))
  have hB2 := below_two HB0.out hb2
  have hsc := HSC.out w2 hB2
  have HB2 := Lib.hid hB2
  clear hb2 HB0 HEV a0 a1 a2 a3 hB2 HSC
  obtain ⟨r1, r2⟩ := R
  dsimp only at *
  by_cases h2 : r2 = 0
  · subst h2
    by_cases hx : r1 < 0 ∨ s ≤ r1
    · have HV : Hid (ixV s (r1, 0) = (0, 2)) := by show _ = _; unfold ixV; rw [if_neg (by simp), if_pos hx]
      rcases hx with hx | hx
      · go_wp2_with fail
        go_ret2
        rw [HV.out]
        exact ⟨rfl, HB2.out⟩
      · have hx2 : ¬ r1 < 0 := by omega
        go_wp2_with fail
        go_ret2
        rw [HV.out]
        exact ⟨rfl, HB2.out⟩
    · have HV : Hid (ixV s (r1, 0) = (r1, 0)) := by show _ = _; unfold ixV; rw [if_neg (by simp), if_neg hx]
      have hx1 : 0 ≤ r1 := by omega
      have hx2 : r1 < s := by omega
      clear hx
      go_wp2_with fail
      go_ret2
      rw [HV.out]
      exact ⟨rfl, HB2.out⟩
  · have HV : Hid (ixV s (r1, r2) = (0, r2)) := by show _ = _; unfold ixV; rw [if_pos h2]
    have t2 := bF h2
    go_wp2_with fail
    go_ret2
    rw [HV.out]
    exact ⟨rfl, HB2.out⟩
end Go.Proofs.Ytiaonhpiiibkdaa
