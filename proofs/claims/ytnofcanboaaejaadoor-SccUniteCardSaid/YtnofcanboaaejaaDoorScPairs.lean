/- What the maker of pairs does. -/
import Derived.Test.YtnofcanboaaejaaDoorScFn
import Derived.Deep.CutRange
import Derived.Deep.DeepCutAuto
import Derived.Deep.RegionLaw
import Derived.Deep.RegionHeld3
import Derived.Deep.RegionWith
namespace Go.Proofs.YtnofcanboaaejaaDoor
open Go.RowKit
set_option maxRecDepth 100000

def prA (xs : List Int) (n k : Nat) : List Int := [(within (xs.getD (2 * k) 0) n : Int), (within (xs.getD (2 * k + 1) 0) n : Int)]
/-- the pairs that Pairs makes -/
def prV (xs : List Int) (n : Nat) : List (List Int) := (List.range (min (xs.length / 2) 20)).map (prA xs n)
theorem prV_len (xs : List Int) (n : Nat) : (prV xs n).length ≤ 20 := by unfold prV; simp; omega

/-- what a call returns: a list of lists of its own -/
def LiQ (w : World) (P : List (List Int)) (e : Ending) (w' : World) : Prop :=
  ∃ (L : List LiE) (A : Option Addr) (c : Nat), e = .returned (.slice A L.length c) ∧ L.map (·.1) = P ∧ OwnR liK 22 w' w.heap.size (.slice A L.length c) L ∧ Below w.heap.size w w'
theorem LiQ.lip {w : World} {P : List (List Int)} {e : Ending} {w' : World} (h : LiQ w P e w') : LiP w P e w' := by
  obtain ⟨L, A, c, rfl, e, ho, hb⟩ := h
  refine ⟨A, c, ?_, e ▸ li_own ho, hb⟩
  rw [← e, List.length_map]
set_option maxHeartbeats 1000000 in
theorem pairsO_any (w : World) (A : Option Addr) (xs : List Int) (ca n : Nat) (hA : IntR w A xs) (hl : xs.length ≤ 9223372036854775807) (h0 : 0 < n) (h1 : n ≤ 1000000) :
    Calls Tryd.prog 10 #[.slice A xs.length ca, .int .i64 (n : Int)] w (LiQ w (prV xs n)) := by
  have HA := Lib.hid (fun W (h : Below w.heap.size w W) => hA.later h)
  have HW := Lib.hid (fun x W (hx : -9223372036854775808 ≤ x ∧ x ≤ 9223372036854775807) => (within_any x (n : Int) W hx (by omega) (by omega)).mono (R' := fun e w' => e = .returned (.int .i64 (within x n : Int)) ∧ w' = W) (fun _ _ h => ⟨h.1, h.2.symm⟩))
  obtain ⟨i0, hi, hzz⟩ := Option.map_eq_some_iff.1 Tryd.infoNs
  simp only [Prod.mk.injEq] at hzz
  obtain ⟨hz0, hz1, hz2⟩ := hzz
  clear hA
  go_enter Tryd.func10, Tryd.ntmps10
  go_wp2_with fail
  go_loopw [5, 6] (fun v i wr => ∃ (m k : Nat) (L : List LiE), Hid (m = 2 * k) ∧ m ≤ 40 ∧ Hid (m ≤ xs.length) ∧ i = .int .i64 (m : Int) ∧ Hid (L.length = k) ∧ Hid (L.map (·.1) = (List.range k).map (prA xs n)) ∧ Hid (OwnR liK 22 wr w.heap.size v L) ∧ Hid (Below w.heap.size w wr)) (fun _ i _ => 40 - (intOf i).toNat)
  case atStart => exact ⟨0, 0, [], rfl, Nat.zero_le _, Nat.zero_le _, rfl, rfl, rfl, OwnR.nil _ _ _ _, Below.refl _ _⟩
  case round =>
    obtain ⟨m, k, L, HM, hm40, HML, rfl, HL, HLE, HO, HB⟩ := hrel
    have g2 : (0 : Int) ≤ (m : Int) := by omega
    by_cases hlt : m + 1 < xs.length ∧ m < 40
    · have g0 : (m : Int) + 1 < (xs.length : Int) := by omega
      have g1 : (m : Int) < 40 := by omega
      have g3 : (m : Int) < (xs.length : Int) := by omega
      have g4 : (0 : Int) ≤ (m : Int) + 1 := by omega
      have j1 : IntKind.i64.wrap ((m : Int) + 1) = (m : Int) + 1 := by rw [IntKind.wrap_i64]; omega
      have j2 : ((m : Int) + 1).toNat = m + 1 := by omega
      have hml := HML.out
      have HM2 : Hid (m + 2 ≤ 40) := by have := HM.out; show _ ≤ _; omega
      obtain ⟨b, off, rfl, c0, r0⟩ := HA.out wr HB.out m (by omega)
      have hbw0 : b < w.heap.size := by
        obtain ⟨b', off', e', c1, -⟩ := HA.out w (Below.refl _ _) m (by omega)
        injection e' with e'
        injection e' with e1 e2
        subst e1
        exact World.block_lt_of_cell? _ _ c1
      obtain ⟨b', off', e', c1, r1⟩ := HA.out wr HB.out (m + 1) (by omega)
      injection e' with e'
      injection e' with e1 e2
      subst e1 e2
      have HP : Hid (prA xs n k = [(within xs[m] n : Int), (within xs[m + 1] n : Int)]) := by
        show _ = _
        have hm := HM.out
        unfold prA
        rw [← hm, List.getD_eq_getElem?_getD, List.getD_eq_getElem?_getD, List.getElem?_eq_getElem (by omega), List.getElem?_eq_getElem (by omega)]
        rfl
      have HX0 := Lib.hid r0
      have HY0 := Lib.hid r1
      have hx := within_lt xs[m] n h0
      have hy := within_lt xs[m + 1] n h0
      generalize xs[m] = X at *
      generalize xs[m + 1] = Y at *
      obtain ⟨A', c', rfl⟩ := HO.out.form
      clear r0 r1 hlt
      clear HA
      go_upto_region 5 with fail
      have hbA : some b ≠ (Value.slice A' L.length c').ownBlock := fun e => by have := (HO.out.1.lt b e.symm).1; omega
      have hLk : L.length ≤ 20 := by have h1 := HL.out; have h2 := HM.out; omega
      have hsz : w.heap.size ≤ wr.heap.size := HB.out.size
      have hbw : b < wr.heap.size := World.block_lt_of_cell? _ _ c0
      go_region_held3 (fun w' => w'.cell? ⟨b, off + m, none⟩ = some (.int .i64 X) ∧ w'.cell? ⟨b, off + (m + 1), none⟩ = some (.int .i64 Y))
        (first
          | go_keep
          | (go_split_ands; refine ⟨?_, ?_⟩ <;> (rw [hgrow.cell_far _ (by simp; omega) hbA]; simp [*]; done)))
        (first
          | (go_at_call 18; refine (HW.out _ _ (by first | exact HX0.out | exact HY0.out)).mono ?_; rintro e w1 ⟨rfl, rfl⟩)
          | (refine step_append_lies _ (by rfl) _ _ _ (by rfl) w.heap.size 22 i0 _ 1 24 Tryd.underlying24 hi hz0 hz1 hz2 rfl (by decide) (.slice A' L.length c') L.length (liK.cs L) (by rfl) (((HO.out.keep (w' := wr.drew) (Nat.le_refl _) fun _ _ _ => rfl).alloc _).alloc _).1 ⟨wr.heap.size + 1, 0, none⟩ 1 1 [.slice (some ⟨wr.heap.size, 0, none⟩) 2 2] (by rfl) (by rfl) (sc_news _ _ (by simp) _ _) (liK.one ([(within X n : Int), within Y n], some ⟨wr.heap.size, 0, none⟩, 2)) (by omega) (by unfold maxLen; omega) (by omega) (by simp; omega) (wr.heap.size + 2) (by simp) ?_; intro gb cap7 w7 hown hgrow hlies hgl7))
      have HO2 := Lib.hid (((HO.out.keep (w' := wr.drew) (Nat.le_refl _) fun _ _ _ => rfl).alloc (.cells (iCs [(within X n : Int), within Y n]).toArray 3)).alloc (.cells #[.slice (some ⟨wr.heap.size, 0, none⟩) 2 2] 22))
      have HO7 : Hid (OwnR liK 22 w7 w.heap.size (.slice (some ⟨gb, 0, none⟩) (L.length + 1) cap7) (L ++ [([(within X n : Int), within Y n], some ⟨wr.heap.size, 0, none⟩, 2)])) :=
        HO2.out.snoc (li_new wr.drew _ _ rfl _ _ _ _ ⟨hsz, fun e => absurd (HO.out.1.lt _ e.symm).2 (Nat.lt_irrefl _)⟩ (nums_ok hx hy h1)) hown hgrow (sc_lies hlies (by simp))
      have HB7 : Hid (Below w.heap.size w w7) := below_grown (((sc_drewN HB.out 1).alloc hsz _).alloc (by simp; omega) _) hgrow (fun k e => (HO.out.1.lt k e).1) (by simp; omega)
      clear HO HB HO2 hown hgrow hlies hgl7 c0 c1 hbA hbw
      go_wp2_with fail
      go_roundw
      case rel =>
        refine ⟨m + 2, k + 1, L ++ [([(within X n : Int), within Y n], some ⟨wr.heap.size, 0, none⟩, 2)], ?_, HM2.out, ?_, by go_num, ?_, ?_, ?_, HB7.out⟩
        · show _ = _; have := HM.out; omega
        · show _ ≤ _; omega
        · show _ = _; rw [List.length_append, HL.out]; rfl
        · show _ = _; rw [List.map_append, List.range_succ, List.map_append, HLE.out]; simp [HP.out]
        · exact HO7.out
      case measure => simp [intOf]; omega
    · have HK : Hid (min (xs.length / 2) 20 = k) := by
        show _ = _
        have h1 := HM.out
        have h2 := HML.out
        omega
      obtain ⟨A', c', rfl⟩ := HO.out.form
      by_cases hl1 : m + 1 < xs.length
      · have g0 : (m : Int) + 1 < (xs.length : Int) := by omega
        have g1 : ¬ (m : Int) < 40 := by omega
        have j1 : IntKind.i64.wrap ((m : Int) + 1) = (m : Int) + 1 := by rw [IntKind.wrap_i64]; omega
        clear hlt HM HML
        go_wp2_with fail
        go_ret
        have e : L.map (·.1) = prV xs n := by rw [HLE.out]; unfold prV; rw [HK.out]
        exact ⟨L, A', c', rfl, e, HO.out, HB.out⟩
      · have g0 : ¬ (m : Int) + 1 < (xs.length : Int) := by omega
        have j1 : IntKind.i64.wrap ((m : Int) + 1) = (m : Int) + 1 := by rw [IntKind.wrap_i64]; omega
        clear hlt HM HML
        go_wp2_with fail
        go_ret
        have e : L.map (·.1) = prV xs n := by rw [HLE.out]; unfold prV; rw [HK.out]
        exact ⟨L, A', c', rfl, e, HO.out, HB.out⟩
theorem pairs_any (w : World) (A : Option Addr) (xs : List Int) (ca n : Nat) (hA : IntR w A xs) (hl : xs.length ≤ 9223372036854775807) (h0 : 0 < n) (h1 : n ≤ 1000000) :
    Calls Tryd.prog 10 #[.slice A xs.length ca, .int .i64 (n : Int)] w (LiP w (prV xs n)) := (pairsO_any w A xs ca n hA hl h0 h1).mono fun _ _ h => h.lip
end Go.Proofs.YtnofcanboaaejaaDoor
