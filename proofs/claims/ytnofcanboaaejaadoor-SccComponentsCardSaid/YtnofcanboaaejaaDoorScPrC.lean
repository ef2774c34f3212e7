/- What reached of a graph of package scc returns: the nodes that a node reaches. Its loop is a jump back. -/
import Derived.Test.YtnofcanboaaejaaDoorScPrB
namespace Go.Proofs.YtnofcanboaaejaaDoor
open Go.RowKit
set_option maxRecDepth 100000

/-- a row of sets at block g -/
def UlR (w : World) (g n : Nat) (f : Nat → Nat) : Prop := ∀ i, i < n → w.cell? ⟨g, i, none⟩ = some (.int .u64 (f i : Int)) ∧ w.frozen? ⟨g, i, none⟩ = false
theorem UlR.later {w w' : World} {g n : Nat} {f : Nat → Nat} (h : UlR w g n f) (hb : Below w.heap.size w w') : UlR w' g n f := fun i hi => by
  have hl := World.block_lt_of_cell? _ _ (h i hi).1
  have hk := hb.block g hl
  exact ⟨(World.cell?_of_block hk).trans (h i hi).1, (World.frozen?_of_block hk).trans (h i hi).2⟩
theorem UlR.put {w : World} {g n k : Nat} {f f' : Nat → Nat} (h : UlR w g n f) (v : Nat) (hk : k < n) (hf : ∀ j, j < n → f' j = if j = k then v else f j) : UlR (w.setCell ⟨g, k, none⟩ (.int .u64 (v : Int))) g n f' := fun i hi => by
  obtain ⟨hc, hz⟩ := h i hi
  refine ⟨?_, by rw [World.frozen?_setCell]; exact hz⟩
  rw [hf i hi]
  by_cases e : i = k
  · subst e
    rw [if_pos rfl]
    exact World.cell?_setCell_same _ _ _ hc
  · rw [if_neg e, World.cell?_setCell_other _ _ _ _ (by intro h; injection h with h1 h2; exact e h2.symm)]
    exact hc

set_option maxHeartbeats 1000000 in
theorem reached_any (n fr : Nat) (P : List (List Int)) (g c : Nat) (w : World) (hn : n ≤ 64) (hf : fr < n) (hG : UlR w g n (fun a => Sc.nb (Sc.edM n P P.length a))) (hT : TzT w) :
    Calls Tryd.prog 29 #[.slice (some ⟨g, 0, none⟩) n c, .int .i64 (fr : Int)] w fun e w' => e = .returned (.int .u64 (Sc.nb (Sc.rch n P fr) : Nat)) ∧ w = w' := by
  have HG := Lib.hid hG
  have HT := Lib.hid hT
  clear hG hT
  go_enter Tryd.func29, Tryd.ntmps29
  go_wp2
  refine wp_scope_jumps 0 (fun a' w' => w = w' ∧ ∃ (fo fl nd : Nat) (u8 u9 u10 u11 u12 u13 u14 u15 u16 u17 u18 u19 u20 u21 u22 u23 u24 u25 u26 u27 : Value), nd < n ∧ Hid (Sc.Rd n P fr fo fl nd) ∧ a' = { tmps := #[.slice (some ⟨g, 0, none⟩) n c, .int .i64 (fr : Int), undef, undef, .int .u64 0, .int .u64 (fo : Int), .int .u64 (fl : Int), .int .i64 (nd : Int), u8, u9, u10, u11, u12, u13, u14, u15, u16, u17, u18, u19, u20, u21, u22, u23, u24, u25, u26, u27], defers := [] }) (fun a' _ => 18446744073709551616 - (intOf (a'.tmps.getD 6 undef)).toNat) rfl ?_ ?_
  · go_wp2
    go_step3
    obtain ⟨c0, -⟩ := HG.out fr hf
    dsimp only at c0
    have HF := Lib.hid ((Sc.Rd.start n P fr).found hn)
    have HL := Lib.hid HF.out.l64
    have HO := Lib.hid (u64_or_nat 0 (Sc.nb (Sc.edM n P P.length fr)) (by decide) (Sc.nb_lt _))
    have hnd0 : (0 : Int) ≤ (fr : Int) := by omega
    have hnd1 : (fr : Int) < (n : Int) := by omega
    generalize Sc.nb (Sc.edM n P P.length fr) = s at *
    generalize 0 ||| s = f2 at *
    have HD := Lib.hid (u64_andNot_nat f2 0 HF.out.o64 HL.out)
    have HDE : Hid (f2 &&& (18446744073709551615 - 0) = Sc.dif f2 0) := rfl
    have HDL := Lib.hid (Sc.dif_lt 0 HF.out.o64)
    have HDN := Lib.hid (fun h => HF.out.done (fl := 0) h)
    have HNX := Lib.hid (fun h => HF.out.next (fl := 0) h)
    generalize Sc.dif f2 0 = d at *
    have ho : bits .or .u64 (0 : Int) (s : Int) = (f2 : Int) := HO.out
    have hd : bits .andNot .u64 (f2 : Int) (0 : Int) = (d : Int) := by have h := HD.out; rw [HDE.out] at h; exact h
    clear HO HD HDE
    by_cases h0 : d = 0
    · have HE := Lib.hid (HDN.out h0)
      have t0 := nF (show (d : Int) = 0 by omega)
      clear h0 HDN HNX HF
      go_wp2_with fail
      try simp only [Exit.jump]
      go_ret
      exact ⟨by rw [HE.out]; rfl, rfl⟩
    · have hne : (d : Int) ≠ 0 := by omega
      have HC := Lib.hid (HNX.out h0)
      have HFi := Lib.hid (fun W (h : TzT W) => scFirst_any d HDL.out h0 W h)
      clear HDN HNX
      have hc := HC.out.1
      have HON := Lib.hid (fun W => scOnly_any (Lib.ctz 64 d : Nat) (Lib.ctz 64 d) W rfl hc)
      have HP := Lib.hid (Sc.pow_64 hc)
      have HOR := Lib.hid (u64_or_nat 0 (2 ^ Lib.ctz 64 d) HL.out HP.out)
      generalize Lib.ctz 64 d = k at *
      generalize 2 ^ k = q at *
      have hor : bits .or .u64 (0 : Int) (q : Int) = ((0 ||| q : Nat) : Int) := HOR.out
      generalize 0 ||| q = l2 at *
      clear h0 HOR
      go_wp2_with fail
      refine (HFi.out _ HT.out).mono ?_
      rintro e w1 ⟨rfl, rfl⟩
      go_wp2_with fail
      refine (HON.out _).mono ?_
      rintro e w1 ⟨rfl, rfl⟩
      go_wp2_with fail
      go_step3
      exact ⟨rfl, rfl, f2, l2, k, _, _, _, _, _, _, _, _, _, _, _, _, _, _, _, _, _, _, _, _, HC.out.2.1, HC.out.2.2.1, rfl⟩
  · rintro a' w' ⟨rfl, fo, fl, nd, u8, u9, u10, u11, u12, u13, u14, u15, u16, u17, u18, u19, u20, u21, u22, u23, u24, u25, u26, u27, hnd, HR, rfl⟩
    obtain ⟨c0, -⟩ := HG.out nd hnd
    dsimp only at c0
    have HF := Lib.hid (HR.out.found hn)
    have HL := Lib.hid HF.out.l64
    have HO := Lib.hid (u64_or_nat fo (Sc.nb (Sc.edM n P P.length nd)) HR.out.o64 (Sc.nb_lt _))
    have hnd0 : (0 : Int) ≤ (nd : Int) := by omega
    have hnd1 : (nd : Int) < (n : Int) := by omega
    clear HR
    generalize Sc.nb (Sc.edM n P P.length nd) = s at *
    generalize fo ||| s = f2 at *
    have HD := Lib.hid (u64_andNot_nat f2 fl HF.out.o64 HL.out)
    have HDE : Hid (f2 &&& (18446744073709551615 - fl) = Sc.dif f2 fl) := rfl
    have HDL := Lib.hid (Sc.dif_lt fl HF.out.o64)
    have HDN := Lib.hid (fun h => HF.out.done (fl := fl) h)
    have HNX := Lib.hid (fun h => HF.out.next (fl := fl) h)
    generalize Sc.dif f2 fl = d at *
    have ho : bits .or .u64 (fo : Int) (s : Int) = (f2 : Int) := HO.out
    have hd : bits .andNot .u64 (f2 : Int) (fl : Int) = (d : Int) := by have h := HD.out; rw [HDE.out] at h; exact h
    clear HO HD HDE
    by_cases h0 : d = 0
    · have HE := Lib.hid (HDN.out h0)
      have t0 := nF (show (d : Int) = 0 by omega)
      clear h0 HDN HNX HF
      go_wp2_with fail
      try simp only [Exit.jump]
      go_ret
      exact ⟨by rw [HE.out]; rfl, rfl⟩
    · have hne : (d : Int) ≠ 0 := by omega
      have HC := Lib.hid (HNX.out h0)
      have HFi := Lib.hid (fun W (h : TzT W) => scFirst_any d HDL.out h0 W h)
      clear HDN HNX
      have hc := HC.out.1
      have HON := Lib.hid (fun W => scOnly_any (Lib.ctz 64 d : Nat) (Lib.ctz 64 d) W rfl hc)
      have HP := Lib.hid (Sc.pow_64 hc)
      have HOR := Lib.hid (u64_or_nat fl (2 ^ Lib.ctz 64 d) HL.out HP.out)
      generalize Lib.ctz 64 d = k at *
      generalize 2 ^ k = q at *
      have hor : bits .or .u64 (fl : Int) (q : Int) = ((fl ||| q : Nat) : Int) := HOR.out
      generalize fl ||| q = l2 at *
      clear h0 HOR
      go_wp2_with fail
      refine (HFi.out _ HT.out).mono ?_
      rintro e w1 ⟨rfl, rfl⟩
      go_wp2_with fail
      refine (HON.out _).mono ?_
      rintro e w1 ⟨rfl, rfl⟩
      go_wp2_with fail
      go_step3
      refine ⟨rfl, ⟨rfl, f2, l2, k, _, _, _, _, _, _, _, _, _, _, _, _, _, _, _, _, _, _, _, _, HC.out.2.1, HC.out.2.2.1, rfl⟩, ?_⟩
      have h1 := HC.out.2.2.2
      have h2 := HL.out
      simp [intOf]
      omega
end Go.Proofs.YtnofcanboaaejaaDoor
