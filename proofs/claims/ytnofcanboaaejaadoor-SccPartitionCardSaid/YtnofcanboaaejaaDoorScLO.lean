/- The walk of SccOrder. -/
import Derived.Test.YtnofcanboaaejaaDoorScLE
import Derived.Test.YtnofcanboaaejaaDoorScApp
namespace Go.Proofs.YtnofcanboaaejaaDoor
open Go.RowKit
set_option maxRecDepth 100000

theorem own_empty (W : World) (g : Nat) (hg : g = W.heap.size) (t : TypeId) : (W.alloc (.cells #[] t)).ownsRow g t 1 (.slice (some ⟨g, 0, none⟩) 0 0) 0 [] := by
  subst hg
  exact ⟨rfl, .inr ⟨W.heap.size, 0, #[], rfl, Nat.le_refl _, heap_alloc_new W _, by simp, by unfold maxLen; omega, rfl, rfl⟩⟩
theorem own_base {w : World} {base base' : Nat} {e : TypeId} {size n : Nat} {v : Value} {xs : List Value} (h : w.ownsRow base e size v n xs) (hb : base' ≤ base) : w.ownsRow base' e size v n xs := World.ownsRow.mono h hb
theorem liCs_set (L : List LiE) (i : Nat) (p : LiE) : liK.cs (L.set i p) = (liK.cs L).set i (.slice p.2.1 p.1.length p.2.2) := by
  induction L generalizing i with
  | nil => rfl
  | cons q r ih =>
    cases i with
    | zero => rfl
    | succ i =>
      have e : ∀ (q : LiE) (r : List LiE), liK.cs (q :: r) = .slice q.2.1 q.1.length q.2.2 :: liK.cs r := fun q r => rfl
      rw [List.set_cons_succ, e, e, List.set_cons_succ, ih]
theorem swap_mem {α : Type} (l : List α) (a b : Nat) (ha : a < l.length) (hb : b < l.length) (z : α) : z ∈ (l.set a l[b]).set b l[a] ↔ z ∈ l := by
  constructor
  · intro h
    rcases List.mem_or_eq_of_mem_set h with h | rfl
    · rcases List.mem_or_eq_of_mem_set h with h | rfl
      · exact h
      · exact List.getElem_mem hb
    · exact List.getElem_mem ha
  · intro h
    obtain ⟨k, hk, rfl⟩ := List.getElem_of_mem h
    by_cases e1 : k = a
    · subst e1
      exact List.mem_iff_getElem.2 ⟨b, by simp; exact hb, by simp⟩
    · by_cases e2 : k = b
      · subst e2
        refine List.mem_iff_getElem.2 ⟨a, by simp; exact ha, ?_⟩
        rw [List.getElem_set_ne (by omega)]
        simp
      · refine List.mem_iff_getElem.2 ⟨k, by simp; exact hk, ?_⟩
        rw [List.getElem_set_ne (by omega), List.getElem_set_ne (by omega)]
theorem swap_map {α β : Type} (f : α → β) (l : List α) (a b : Nat) (ha : a < l.length) (hb : b < l.length) (z : β) : z ∈ ((l.set a l[b]).set b l[a]).map f ↔ z ∈ l.map f := by
  simp only [List.mem_map, swap_mem l a b ha hb]
theorem li_cell {w : World} {B g c : Nat} {L : List LiE} (h : w.ownsRow B 22 1 (.slice (some ⟨g, 0, none⟩) L.length c) L.length (liK.cs L)) (i : Nat) (hi : i < L.length) : w.cell? ⟨g, i, none⟩ = some (.slice L[i].2.1 L[i].1.length L[i].2.2) ∧ w.frozen? ⟨g, i, none⟩ = false := by
  refine ⟨(World.ownsRow.cellAt h i (by omega)).trans (liCs_at L i hi), ?_⟩
  rcases h.2 with ⟨_, h0⟩ | ⟨g', cap, cur, e', _, hg, _⟩
  · omega
  · injection e' with e1
    injection e1 with e1
    injection e1 with e1
    subst e1
    exact frozen_of_row w g i cur _ hg
theorem li_store {w : World} {B g c : Nat} {L : List LiE} (h : w.ownsRow B 22 1 (.slice (some ⟨g, 0, none⟩) L.length c) L.length (liK.cs L)) (i : Nat) (p : LiE) : (w.setCell ⟨g, i, none⟩ (.slice p.2.1 p.1.length p.2.2)).ownsRow B 22 1 (.slice (some ⟨g, 0, none⟩) (L.set i p).length c) (L.set i p).length (liK.cs (L.set i p)) := by
  rw [liCs_set, List.length_set]
  exact (World.ownsRow.stored h i _).1

set_option maxHeartbeats 4000000 in
theorem lawOrder_any (n : Int) (xs : List Int) (A : Option Addr) (ca : Nat) (ys : List Int) (B : Option Addr) (cb : Nat) (w : World) (hn : -9223372036854775808 ≤ n ∧ n ≤ 9223372036854775807) (hA : IntR w A xs) (hm : xs.length ≤ 9223372036854775807) (hBr : IntR w B ys) (_hmB : ys.length ≤ 9223372036854775807) (hT : TzT w) :
    Calls Tryd.prog 7 #[.int .i64 n, .slice A xs.length ca, .slice B ys.length cb] w fun e w' => e = .returned (.bool true) ∧ Below w.heap.size w w' := by
  have HT := Lib.hid hT
  clear hT
  have HS := Lib.hid (fun W => size21_any n W hn)
  have hk := within_lt n 13 (by omega)
  generalize within n 13 = k at *
  have hp := pairs_any w A xs ca (max k 1) hA hm (by omega) (by omega)
  have hlP := prV_len xs (max k 1)
  generalize prV xs (max k 1) = P at *
  have HP : Hid (∀ m : Int, m = ((max k 1 : Nat) : Int) → Calls Tryd.prog 10 #[.slice A xs.length ca, .int .i64 m] w (LiP w P)) := by
    intro m hm
    subst hm
    exact hp
  have HBR := Lib.hid (fun W (h : Below w.heap.size w W) => hBr.later h)
  have HW := Lib.hid (fun z W (hz : -9223372036854775808 ≤ z ∧ z ≤ 9223372036854775807) (h0 : 0 < P.length) => (within_any z (P.length : Int) W hz (by omega) (by omega) : Calls _ _ _ _ fun e w' => e = .returned (.int .i64 (within z P.length : Int)) ∧ W = w'))
  clear hn hA hp hBr
  obtain ⟨i0, hi, hzz⟩ := Option.map_eq_some_iff.1 Tryd.infoNs
  simp only [Prod.mk.injEq] at hzz
  obtain ⟨hz0, hz1', hz2⟩ := hzz
  go_enter Tryd.func7, Tryd.ntmps7
  go_wp2_with fail
  refine (HS.out _).mono ?_
  rintro e w1 ⟨rfl, rfl⟩
  go_wp2_with fail
  all_goals
    refine (HP.out _ (by omega)).mono ?_
    rintro e w2 ⟨A2, c2, rfl, hx, hb⟩
    have HPW := Lib.hid (fun W (h : Below w2.heap.size w2 W) => hx.later h)
    have HTZ := Lib.hid (fun W (h : Below w2.heap.size w2 W) => (HT.out.later hb).later h)
    have HC1 := Lib.hid (fun W (h : Below w2.heap.size w2 W) => sccComponents_any W (k : Int) A2 P c2 (HTZ.out W h) (HPW.out W h) (by omega))
    have HC2' := Lib.hid (fun W A (Q : List (List Int)) c (hQ : ∀ p, p ∈ P ↔ p ∈ Q) (hl : Q.length ≤ 1000) (hz : TzT W) (h : LiR W A Q) => (sccComponents_any W (k : Int) A Q c hz h hl).mono fun e w' h => h.of (show _ = toI (Sc.compV (Sc.rch (clV (k : Int)) P) (clV (k : Int))) by rw [Sc.rch_ext hQ]))
    have HY1 := Lib.hid (fun W (h : Below w2.heap.size w2 W) => sccCyclic_any W (k : Int) A2 P c2 (HTZ.out W h) (HPW.out W h) (by omega))
    have HY2' := Lib.hid (fun W A (Q : List (List Int)) c (hQ : ∀ p, p ∈ P ↔ p ∈ Q) (hl : Q.length ≤ 1000) (hz : TzT W) (h : LiR W A Q) => (sccCyclic_any W (k : Int) A Q c hz h hl).mono fun e w' h => h.of (show _ = toI (Sc.cycV (Sc.rch (clV (k : Int)) P) (clV (k : Int))) by rw [Sc.rch_ext hQ]))
    have HOC := Lib.hid (comp_ok (Sc.rch (clV (k : Int)) P) (clV_le (k : Int)))
    have HOY := Lib.hid (cyc_ok (Sc.rch (clV (k : Int)) P) (clV_le (k : Int)))
    generalize toI (Sc.compV (Sc.rch (clV (k : Int)) P) (clV (k : Int))) = C at *
    generalize toI (Sc.cycV (Sc.rch (clV (k : Int)) P) (clV (k : Int))) = Y at *
    have HB0 := Lib.hid hb
    clear hx hb HS HP
    have HE := Lib.hid (own_empty w2 _ rfl 22)
    have HBA := Lib.hid (below_alc (Below.refl w2.heap.size w2) (.cells #[] 22))
    go_wp2_with (at_builtin; refine wpList_append_li _ rfl (.tmp 18) (.tmp 19) rfl w2.heap.size w2.heap.size 0 [] rfl HE.out (by simp) A2 P.length c2 P rfl rfl w2 (HPW.out _ (Below.refl _ _)) (below_alc (Below.refl _ _) _) (by simp) (by omega) ?_; intro g3 c3 L0 w3 hL hE3 hO3 hg3 hl3 hgl3)
    rw [List.nil_append] at *
    have HL0 : Hid (∀ p, p ∈ P ↔ p ∈ L0.map (·.1)) := fun p => by rw [hL]
    have hll : L0.length = P.length := by rw [← hL, List.length_map]
    have HO := Lib.hid hO3
    have HER := Lib.hid hE3
    have HB := Lib.hid (below_grown HBA.out hg3 (fun b e => by injection e with e; omega) (by simp))
    clear HE HBA hL hE3 hO3 hg3 hl3 hgl3
    go_wp2_with fail
    go_loopw [8, 9] (fun v u wr => ∃ (i : Nat) (L : List LiE) (g c : Nat), i ≤ 30 ∧ u = .int .i64 (i : Int) ∧ v = .slice (some ⟨g, 0, none⟩) L.length c ∧ Hid (L.length ≤ 20 + i) ∧ Hid (P.length ≤ L.length) ∧ Hid (∀ p, p ∈ P ↔ p ∈ L.map (·.1)) ∧ Hid (∀ p ∈ L, IntR w2 p.2.1 p.1) ∧ Hid (wr.ownsRow w2.heap.size 22 1 (.slice (some ⟨g, 0, none⟩) L.length c) L.length (liK.cs L)) ∧ Hid (Below w2.heap.size w2 wr)) (fun _ u _ => 30 - (intOf u).toNat)
    case atStart => exact ⟨0, L0, g3, c3, Nat.zero_le _, rfl, rfl, by show _ ≤ _; omega, by show _ ≤ _; omega, HL0, HER, HO, HB⟩
    case round =>
      clear HL0 HER HO HB hll
      obtain ⟨i, L, g, c, hi30, rfl, rfl, HLL, HLP, HL0, HER, HO, HB⟩ := hrel
      by_cases hrd : i < ys.length ∧ i < 30 ∧ 0 < P.length
      · have g0 : (i : Int) < (ys.length : Int) := by omega
        have g1 : (i : Int) < 30 := by omega
        have g2 : (0 : Int) < (P.length : Int) := by omega
        have g3 : (0 : Int) ≤ (i : Int) := by omega
        have HI := Lib.hid hrd.2.1
        have HPL := Lib.hid hrd.2.2
        obtain ⟨b, off, rfl, c0, r0⟩ := HBR.out wr (sc_two HB0.out HB.out) i (by omega)
        have hz1 : 0 < P.length := hrd.2.2
        obtain ⟨f, hf, HF⟩ : ∃ f : Int → Nat, (∀ z, f z < P.length) ∧ Hid (∀ z W, (-9223372036854775808 ≤ z ∧ z ≤ 9223372036854775807) → Calls Tryd.prog 18 #[.int .i64 z, .int .i64 (P.length : Int)] W fun e w' => e = .returned (.int .i64 (f z : Int)) ∧ W = w') := ⟨fun z => within z P.length, fun z => within_lt z _ hz1, fun z W hz => HW.out z W hz hz1⟩
        generalize ys[i]'(by omega) = z at *
        clear hrd
        go_wp2_with fail
        go_quiet ((go_at_call 18; exact quiet_dr0 (HF.out _ _ (by constructor <;> omega))))
        have hwa := hf z
        have hwd := hf (z / 256)
        clear HF hf
        generalize f (z / 256) = d at hwd ⊢
        generalize f z = a at hwa ⊢
        generalize hwq : wr.drewN _ = wq at ⊢
        have HO2 : Hid (wq.ownsRow w2.heap.size 22 1 (.slice (some ⟨g, 0, none⟩) L.length c) L.length (liK.cs L)) := by show World.ownsRow _ _ _ _ _ _ _; rw [← hwq]; exact HO.out
        have HB2 : Hid (Below w2.heap.size w2 wq) := by show Below _ _ _; rw [← hwq]; exact sc_drewN HB.out _
        clear hwq HO HB c0 r0
        have hlp := HLP.out
        have ga : (a : Int) < (L.length : Int) := by omega
        have gd : (d : Int) < (L.length : Int) := by omega
        have ga0 : (0 : Int) ≤ (a : Int) := by omega
        have gd0 : (0 : Int) ≤ (d : Int) := by omega
        obtain ⟨ca0, fa0⟩ := li_cell HO2.out a (by omega)
        obtain ⟨cd0, fd0⟩ := li_cell HO2.out d (by omega)
        have HO3 := Lib.hid (li_store (li_store (w := wq.drew) HO2.out a (L[d]'(by omega))) d (L[a]'(by omega)))
        have hgw := (HO2.out.lt g rfl).1
        have HB3 : Hid (Below w2.heap.size w2 ((wq.drew.setCell ⟨g, a, none⟩ (.slice (L[d]'(by omega)).2.1 (L[d]'(by omega)).1.length (L[d]'(by omega)).2.2)).setCell ⟨g, d, none⟩ (.slice (L[a]'(by omega)).2.1 (L[a]'(by omega)).1.length (L[a]'(by omega)).2.2))) := ((sc_drewN HB2.out 1).setCell hgw _).setCell hgw _
        have HL1 : Hid (∀ p, p ∈ P ↔ p ∈ ((L.set a (L[d]'(by omega))).set d (L[a]'(by omega))).map (·.1)) := fun p => (HL0.out p).trans (swap_map (·.1) L a d (by omega) (by omega) p).symm
        have HER1 : Hid (∀ p ∈ (L.set a (L[d]'(by omega))).set d (L[a]'(by omega)), IntR w2 p.2.1 p.1) := fun p hp => HER.out p ((swap_mem L a d (by omega) (by omega) p).1 hp)
        have HLN : Hid (((L.set a (L[d]'(by omega))).set d (L[a]'(by omega))).length = L.length) := by show _ = _; rw [List.length_set, List.length_set]
        have HC7 := Lib.hid (fun v => World.setCell_drew (w := wq) ⟨g, a, none⟩ v)
        generalize (L.set a (L[d]'(by omega))).set d (L[a]'(by omega)) = L1 at *
        generalize (L[d]'(by omega)).2.1 = Ad at *
        generalize (L[d]'(by omega)).1.length = nd at *
        generalize (L[d]'(by omega)).2.2 = cd at *
        generalize (L[a]'(by omega)).2.1 = Aa at *
        generalize (L[a]'(by omega)).1.length = na at *
        generalize (L[a]'(by omega)).2.2 = ca' at *
        obtain ⟨vq, cq⟩ := cell?_setCell_some (p := ⟨g, a, none⟩) (x := .slice Ad nd cd) cd0
        clear HER HL0 HO2 HB2 HC7
        go_wp2_with fail
        go_region
        all_goals
          clear ca0 fa0 cd0 fd0 cq
          generalize hws : (wq.setCell ⟨g, a, none⟩ (.slice Ad nd cd)).setCell ⟨g, d, none⟩ (.slice Aa na ca') = ws at *
          have HO4 : Hid (ws.drew.ownsRow w2.heap.size 22 1 (.slice (some ⟨g, 0, none⟩) L1.length c) L1.length (liK.cs L1)) := by show World.ownsRow _ _ _ _ _ _ _; rw [← hws]; exact HO3.out
          have HB4 : Hid (Below w2.heap.size w2 ws.drew) := by show Below _ _ _; rw [← hws]; exact HB3.out
          clear hws HO3 HB3
          generalize ws.drew = wt at *
          obtain ⟨b2, off2, Ap, cp, rfl, ce, re⟩ := HPW.out w2 (Below.refl _ _) a hwa
          replace ce := cell_later HB4.out ce
          have HRE := Lib.hid re
          have HMP : Hid (P[a] ∈ P) := List.getElem_mem hwa
          rw [HLN.out] at HO4
          have gp : (a : Int) < (P.length : Int) := by omega
          have hl50 : L.length ≤ 50 := by have h1 := HLL.out; have h2 := HI.out; omega
          have hsz := HB4.out.size
          clear re HLP
          generalize P[a] = pa at *
          go_wp2_with (at_builtin; refine wpList_append_lies _ rfl (.tmp 65) (.tmp 70) 24 rfl w2.heap.size 22 i0 _ 1 24 Tryd.underlying24 hi hz0 hz1' hz2 rfl (by decide) _ L.length (liK.cs L1) rfl (IntO_alloc HO4.out _) ⟨wt.heap.size, 0, none⟩ 1 1 [.slice Ap pa.length cp] rfl rfl (sc_news wt _ rfl _ _) (liK.one (pa, Ap, cp)) (by omega) (by unfold maxLen; omega) (by omega) (by simp; omega) _ rfl ?_; intro gb cap w5 hown hgrow hlies hgl)
          have hLL : (L1 ++ [((pa, Ap, cp) : LiE)]).length = L.length + 1 := by rw [List.length_append, HLN.out]; rfl
          have HO5 : Hid (w5.ownsRow w2.heap.size 22 1 (.slice (some ⟨gb, 0, none⟩) (L1 ++ [((pa, Ap, cp) : LiE)]).length cap) (L1 ++ [((pa, Ap, cp) : LiE)]).length (liK.cs (L1 ++ [((pa, Ap, cp) : LiE)]))) := by
            show World.ownsRow _ _ _ _ _ _ _
            rw [hLL, liK.cs_snoc]
            exact hown
          have HB5 : Hid (Below w2.heap.size w2 w5) := below_grown (HB4.out.alloc hsz _) hgrow (fun b e => (HO4.out.lt b e).1) (by simp; omega)
          have HE5 : Hid (∀ p ∈ L1 ++ [((pa, Ap, cp) : LiE)], IntR w2 p.2.1 p.1) := fun p hp => by
            rcases List.mem_append.1 hp with hp | hp
            · exact HER1.out p hp
            · rw [List.mem_singleton.1 hp]; exact HRE.out
          have HL5 : Hid (∀ p, p ∈ P ↔ p ∈ (L1 ++ [((pa, Ap, cp) : LiE)]).map (·.1)) := fun p => by
            rw [List.map_append, List.mem_append, ← HL1.out p]
            constructor
            · exact .inl
            · rintro (h | h)
              · exact h
              · rw [List.mem_singleton.1 h]; exact HMP.out
          have HQ1 : Hid ((L1 ++ [((pa, Ap, cp) : LiE)]).length ≤ 20 + (i + 1)) := by show _ ≤ _; rw [hLL]; have := HLL.out; omega
          have HQ2 : Hid (P.length ≤ (L1 ++ [((pa, Ap, cp) : LiE)]).length) := by show _ ≤ _; rw [hLL]; omega
          have HI2 : Hid (i + 1 ≤ 30) := HI.out
          have HV : Hid (∀ x y, Value.slice (some ⟨gb, 0, none⟩) (L.length + 1) x = y → Value.slice (some ⟨gb, 0, none⟩) (L1 ++ [((pa, Ap, cp) : LiE)]).length x = y) := fun x y h => by rw [hLL]; exact h
          clear HO4 HB4 HER1 HL1 HRE HMP HLL HLN HI hown hgrow hlies hgl ce gp hl50 hlp ga gd
          go_roundw
          case rel => exact ⟨i + 1, L1 ++ [((pa, Ap, cp) : LiE)], gb, cap, HI2.out, by go_num, (HV.out _ _ rfl).symm, HQ1.out, HQ2.out, HL5.out, HE5.out, HO5.out, HB5.out⟩
          case measure => simp [intOf]; omega
      · have HLI : Hid (LiR wr (some ⟨g, 0, none⟩) (L.map (·.1))) := li_read HO.out fun p hp => (HER.out p hp).later HB.out
        have HLL2 : Hid (L.length ≤ 50) := by have h1 := HLL.out; show _ ≤ _; omega
        have HC2 := Lib.hid (fun W c (hz : TzT W) (h : LiR W (some ⟨g, 0, none⟩) (L.map (·.1))) => HC2'.out W _ _ c HL0.out (by rw [List.length_map]; have := HLL2.out; omega) hz h)
        have HY2 := Lib.hid (fun W c (hz : TzT W) (h : LiR W (some ⟨g, 0, none⟩) (L.map (·.1))) => HY2'.out W _ _ c HL0.out (by rw [List.length_map]; have := HLL2.out; omega) hz h)
        rw [List.length_map] at HC2 HY2
        have HQ := HLI
        clear HO HER HLP HLL HLI HC2' HY2' HL0 HBR HW
        generalize L.map (·.1) = Q at *
        generalize wr = wq at *
        by_cases h1 : i < ys.length
        · have g1 : (i : Int) < (ys.length : Int) := by omega
          by_cases h2 : i < 30
          · have g2 : (i : Int) < 30 := by omega
            have g3 : ¬ (0 : Int) < (P.length : Int) := by omega
            clear hrd
            go_wp2_with fail
            refine (HC1.out _ HB.out).mono ?_
            rintro e v3 ⟨A3, c3, rfl, hx, hb⟩
            have HX := Lib.hid hx
            have HB1 := Lib.hid (sc_two HB.out hb)
            have HQ1 := Lib.hid (HQ.out.later hb)
            clear hx hb HB HQ
            go_wp2_with fail
            refine (HC2.out _ _ (HTZ.out _ HB1.out) HQ1.out).mono ?_
            rintro e v4 ⟨A4, c4, rfl, hx, hb⟩
            have HX2 := Lib.hid (HX.out.later hb)
            have HY := Lib.hid hx
            have HB2 := Lib.hid (sc_two HB1.out hb)
            have HQ2 := Lib.hid (HQ1.out.later hb)
            clear HX HB1 HQ1 hx hb
            go_wp2_with fail
            refine (sameLists_any _ _ _ C C _ _ HX2.out HY.out HOC.out HOC.out).mono ?_
            rintro e v5 ⟨rfl, hd⟩
            have HB3 := Lib.hid (sc_two HB2.out hd.below)
            have HQ3 := Lib.hid (HQ2.out.later hd.below)
            clear HX2 HY HB2 HQ2 hd
            rw [beq_self_eq_true]
            go_wp2_with fail
            refine (HY1.out _ HB3.out).mono ?_
            rintro e v6 ⟨A6, c6, rfl, hx, hb⟩
            have HX := Lib.hid hx
            have HB := Lib.hid (sc_two HB3.out hb)
            have HQ := Lib.hid (HQ3.out.later hb)
            clear HB3 HQ3 hx hb
            go_wp2_with fail
            refine (HY2.out _ _ (HTZ.out _ HB.out) HQ.out).mono ?_
            rintro e v7 ⟨A7, c7, rfl, hx, hb⟩
            have HX2 := Lib.hid (HX.out.later hb)
            have HY := Lib.hid hx
            have HB2 := Lib.hid (sc_two HB.out hb)
            clear HX HB HQ hx hb
            go_wp2_with fail
            refine (sameLists_any _ _ _ Y Y _ _ HX2.out HY.out HOY.out HOY.out).mono ?_
            rintro e v8 ⟨rfl, hd⟩
            have HB3 := Lib.hid (sc_two HB2.out hd.below)
            clear HX2 HY HB2 hd HC1 HC2 HY1 HY2
            rw [beq_self_eq_true]
            go_wp2_with fail
            refine (awake21_any _ (HTZ.out _ HB3.out)).mono ?_
            rintro e v9 ⟨rfl, hb⟩
            have HB4 := Lib.hid (sc_two HB0.out (sc_two HB3.out hb))
            clear HB3 HB0 hb
            go_wp2_with fail
            go_ret
            exact ⟨rfl, HB4.out⟩
          · have g2 : ¬ (i : Int) < 30 := by omega
            clear hrd
            go_wp2_with fail
            refine (HC1.out _ HB.out).mono ?_
            rintro e v3 ⟨A3, c3, rfl, hx, hb⟩
            have HX := Lib.hid hx
            have HB1 := Lib.hid (sc_two HB.out hb)
            have HQ1 := Lib.hid (HQ.out.later hb)
            clear hx hb HB HQ
            go_wp2_with fail
            refine (HC2.out _ _ (HTZ.out _ HB1.out) HQ1.out).mono ?_
            rintro e v4 ⟨A4, c4, rfl, hx, hb⟩
            have HX2 := Lib.hid (HX.out.later hb)
            have HY := Lib.hid hx
            have HB2 := Lib.hid (sc_two HB1.out hb)
            have HQ2 := Lib.hid (HQ1.out.later hb)
            clear HX HB1 HQ1 hx hb
            go_wp2_with fail
            refine (sameLists_any _ _ _ C C _ _ HX2.out HY.out HOC.out HOC.out).mono ?_
            rintro e v5 ⟨rfl, hd⟩
            have HB3 := Lib.hid (sc_two HB2.out hd.below)
            have HQ3 := Lib.hid (HQ2.out.later hd.below)
            clear HX2 HY HB2 HQ2 hd
            rw [beq_self_eq_true]
            go_wp2_with fail
            refine (HY1.out _ HB3.out).mono ?_
            rintro e v6 ⟨A6, c6, rfl, hx, hb⟩
            have HX := Lib.hid hx
            have HB := Lib.hid (sc_two HB3.out hb)
            have HQ := Lib.hid (HQ3.out.later hb)
            clear HB3 HQ3 hx hb
            go_wp2_with fail
            refine (HY2.out _ _ (HTZ.out _ HB.out) HQ.out).mono ?_
            rintro e v7 ⟨A7, c7, rfl, hx, hb⟩
            have HX2 := Lib.hid (HX.out.later hb)
            have HY := Lib.hid hx
            have HB2 := Lib.hid (sc_two HB.out hb)
            clear HX HB HQ hx hb
            go_wp2_with fail
            refine (sameLists_any _ _ _ Y Y _ _ HX2.out HY.out HOY.out HOY.out).mono ?_
            rintro e v8 ⟨rfl, hd⟩
            have HB3 := Lib.hid (sc_two HB2.out hd.below)
            clear HX2 HY HB2 hd HC1 HC2 HY1 HY2
            rw [beq_self_eq_true]
            go_wp2_with fail
            refine (awake21_any _ (HTZ.out _ HB3.out)).mono ?_
            rintro e v9 ⟨rfl, hb⟩
            have HB4 := Lib.hid (sc_two HB0.out (sc_two HB3.out hb))
            clear HB3 HB0 hb
            go_wp2_with fail
            go_ret
            exact ⟨rfl, HB4.out⟩
        · have g1 : ¬ (i : Int) < (ys.length : Int) := by omega
          clear hrd
          go_wp2_with fail
          refine (HC1.out _ HB.out).mono ?_
          rintro e v3 ⟨A3, c3, rfl, hx, hb⟩
          have HX := Lib.hid hx
          have HB1 := Lib.hid (sc_two HB.out hb)
          have HQ1 := Lib.hid (HQ.out.later hb)
          clear hx hb HB HQ
          go_wp2_with fail
          refine (HC2.out _ _ (HTZ.out _ HB1.out) HQ1.out).mono ?_
          rintro e v4 ⟨A4, c4, rfl, hx, hb⟩
          have HX2 := Lib.hid (HX.out.later hb)
          have HY := Lib.hid hx
          have HB2 := Lib.hid (sc_two HB1.out hb)
          have HQ2 := Lib.hid (HQ1.out.later hb)
          clear HX HB1 HQ1 hx hb
          go_wp2_with fail
          refine (sameLists_any _ _ _ C C _ _ HX2.out HY.out HOC.out HOC.out).mono ?_
          rintro e v5 ⟨rfl, hd⟩
          have HB3 := Lib.hid (sc_two HB2.out hd.below)
          have HQ3 := Lib.hid (HQ2.out.later hd.below)
          clear HX2 HY HB2 HQ2 hd
          rw [beq_self_eq_true]
          go_wp2_with fail
          refine (HY1.out _ HB3.out).mono ?_
          rintro e v6 ⟨A6, c6, rfl, hx, hb⟩
          have HX := Lib.hid hx
          have HB := Lib.hid (sc_two HB3.out hb)
          have HQ := Lib.hid (HQ3.out.later hb)
          clear HB3 HQ3 hx hb
          go_wp2_with fail
          refine (HY2.out _ _ (HTZ.out _ HB.out) HQ.out).mono ?_
          rintro e v7 ⟨A7, c7, rfl, hx, hb⟩
          have HX2 := Lib.hid (HX.out.later hb)
          have HY := Lib.hid hx
          have HB2 := Lib.hid (sc_two HB.out hb)
          clear HX HB HQ hx hb
          go_wp2_with fail
          refine (sameLists_any _ _ _ Y Y _ _ HX2.out HY.out HOY.out HOY.out).mono ?_
          rintro e v8 ⟨rfl, hd⟩
          have HB3 := Lib.hid (sc_two HB2.out hd.below)
          clear HX2 HY HB2 hd HC1 HC2 HY1 HY2
          rw [beq_self_eq_true]
          go_wp2_with fail
          refine (awake21_any _ (HTZ.out _ HB3.out)).mono ?_
          rintro e v9 ⟨rfl, hb⟩
          have HB4 := Lib.hid (sc_two HB0.out (sc_two HB3.out hb))
          clear HB3 HB0 hb
          go_wp2_with fail
          go_ret
          exact ⟨rfl, HB4.out⟩
end Go.Proofs.YtnofcanboaaejaaDoor
