/- What the law's raw does; the walk of SccRaw. -/
import Derived.Test.YtnofcanboaaejaaDoorScLP
import Derived.OpenShut
import Derived.ProofKit
import Derived.Deep.Matrix
namespace Go.Proofs.YtnofcanboaaejaaDoor
open Go.RowKit
set_option maxRecDepth 100000

/-- a list of lists that came in -/
structure RwR (w : World) (A : Option Addr) (c : Nat) (P : List (List Int)) : Prop where
  rd : LiR w A P
  cap : ∀ i (_ : i < P.length) b off Ai n ci, A = some ⟨b, off, none⟩ → w.cell? ⟨b, off + i, none⟩ = some (.slice Ai n ci) → n ≤ ci ∧ (Ai = none → ci = 0)
  le : P.length ≤ c
  nil : A = none → c = 0
theorem spot_none {w : World} {x : Addr} {v : Value} (h : w.cell? (x.add 0) = some v) : ∃ b off, x = ⟨b, off, none⟩ := by
  have h1 := World.cell?_spot h
  obtain ⟨b, off, spot⟩ := x
  have : spot = none := by simpa [Addr.add] using h1
  subst this
  exact ⟨b, off, rfl⟩
/-- what a list of lists that came in is, out of the reading -/
theorem rwr_rows {w : World} {a : Addr} {len cap : Nat} {A : Nat → Option Addr} {L C : Nat → Nat} {Z : Nat → List Int} (hl : len ≤ cap)
    (h : ∀ r, r < cap → w.cell? (a.add r) = some (.slice (A r) (L r) (C r)) ∧ L r ≤ C r ∧ C r ≤ maxLen ∧ (Z r).length = C r ∧ (∀ n ∈ Z r, (Lit.int .i64 n).wf = true) ∧ (A r = none → C r = 0) ∧
        ∀ a', A r = some a' → 0 ≤ a'.block ∧ ∀ c, c < C r → w.cell? (a'.add c) = some (.int .i64 ((Z r).getD c 0))) :
    RwR w (some a) cap ((List.range len).map fun r => (Z r).take (L r)) := by
  have hL : ∀ r, r < cap → ((Z r).take (L r)).length = L r := fun r hr => by
    obtain ⟨_, h1, _, h2, _⟩ := h r hr
    rw [List.length_take]
    omega
  refine ⟨fun i hi => ?_, fun i hi b off Ai n ci e hc => ?_, by simpa using hl, fun e => by cases e⟩
  · have hi' : i < len := by simpa using hi
    obtain ⟨h0, h1, _, h3, h4, h5, h6⟩ := h i (by omega)
    obtain ⟨b, off, rfl⟩ := spot_none (h 0 (by omega)).1
    rw [Go.WideShapes.add_plain] at h0
    refine ⟨b, off, A i, C i, rfl, ?_, ?_⟩
    · simp only [List.getElem_map, List.getElem_range]
      rw [h0, hL i (by omega)]
    · simp only [List.getElem_map, List.getElem_range]
      intro c hc
      rw [hL i (by omega)] at hc
      cases hA : A i with
      | none => have := h5 hA; omega
      | some a' =>
        have h7 := (h6 a' hA).2 c (by omega)
        obtain ⟨b', off', rfl⟩ := spot_none ((h6 a' hA).2 0 (by omega))
        rw [Go.WideShapes.add_plain] at h7
        have hcz : c < (Z i).length := by omega
        refine ⟨b', off', rfl, ?_, ?_⟩
        · rw [h7, List.getElem_take]
          simp [List.getD, hcz]
        · rw [List.getElem_take]
          exact bounds_i64 (h4 _ (List.getElem_mem hcz))
  · have hi' : i < len := by simpa using hi
    obtain ⟨h0, h1, _, _, _, h5, _⟩ := h i (by omega)
    injection e with e
    subst e
    rw [Go.WideShapes.add_plain, hc] at h0
    injection h0 with h0
    injection h0 with e1 e2 e3
    subst e1 e2 e3
    exact ⟨h1, h5⟩
theorem LiR.take {w : World} {A : Option Addr} {P : List (List Int)} (h : LiR w A P) (k : Nat) : LiR w A (P.take k) := fun i hi => by
  rw [List.length_take] at hi
  obtain ⟨b, off, Ai, ci, e, hc, hr⟩ := h i (by omega)
  exact ⟨b, off, Ai, ci, e, by rw [List.getElem_take]; exact hc, by rw [List.getElem_take]; exact hr⟩
theorem IntR.take {w : World} {A : Option Addr} {xs : List Int} (h : IntR w A xs) (k : Nat) : IntR w A (xs.take k) := fun i hi => by
  rw [List.length_take] at hi
  obtain ⟨b, off, e, hc, hr⟩ := h i (by omega)
  exact ⟨b, off, e, by rw [List.getElem_take]; exact hc, by rw [List.getElem_take]; exact hr⟩
set_option maxHeartbeats 2000000 in
theorem raw_any (w : World) (A : Option Addr) (c : Nat) (P : List (List Int)) (h : RwR w A c P) :
    Calls Tryd.prog 17 #[.slice A P.length c] w fun e w' => ∃ g c' L, e = .returned (.slice (some ⟨g, 0, none⟩) L.length c') ∧ w'.ownsRow w.heap.size 22 1 (.slice (some ⟨g, 0, none⟩) L.length c') L.length (liK.cs L) ∧ (∀ p ∈ L, IntR w p.2.1 p.1) ∧ L.length ≤ 30 ∧ Below w.heap.size w w' := by
  have hle := h.le
  have HE := Lib.hid (own_empty w _ rfl 22)
  have HBA := Lib.hid (below_alc (Below.refl w.heap.size w) (.cells #[] 22))
  have g0 : (0 : Int) ≤ (P.length : Int) := by omega
  have g1 : (P.length : Int) ≤ (c : Int) := by omega
  cases A with
  | none =>
    have hc := h.nil rfl
    subst hc
    obtain rfl : P = [] := List.length_eq_zero_iff.1 (by omega)
    go_enter Tryd.func17, Tryd.ntmps17
    go_wp2_with fail
    go_loopw [3] (fun u wr => u = .int .i64 0 ∧ Hid (wr = w.alloc (.cells #[] 22))) (fun _ _ => 0)
    case atStart => exact ⟨rfl, rfl⟩
    case round =>
      obtain ⟨rfl, HWR⟩ := hrel
      go_wp2_with fail
      go_ret
      have hw : wr = w.alloc (.cells #[] 22) := HWR.out
      subst hw
      exact ⟨w.heap.size, 0, [], rfl, HE.out, fun p hp => absurd hp (by simp), by simp, HBA.out⟩
  | some ad =>
    have HRD := Lib.hid h.rd
    have HCP := Lib.hid h.cap
    clear h
    go_enter Tryd.func17, Tryd.ntmps17
    go_wp2_with (at_builtin; refine wpList_append_lix _ rfl (.tmp 4) (.tmp 9) rfl w.heap.size w.heap.size 0 [] rfl HE.out (by simp) (some ad) (min P.length 30) c (P.take 30) ?_ (by rw [List.length_take]; omega) w (HRD.out.take 30) (below_alc (Below.refl _ _) _) (by simp) (by rw [List.length_take]; omega) ?_; rotate_left; intro g3 c3 L w3 hL hE3 hC3 hO3 hg3 hl3 hgl3)
    case refine_1.inl => omega
    case refine_1.inr => omega
    all_goals
      rw [List.nil_append] at *
      have hln : L.length = min P.length 30 := by
        have := congrArg List.length hL
        rw [List.length_map, List.length_take] at this
        omega
      have HO := Lib.hid hO3
      have HER := Lib.hid hE3
      have HCA : Hid (∀ p ∈ L, p.1.length ≤ p.2.2 ∧ (p.2.1 = none → p.2.2 = 0)) := fun p hp => by
        obtain ⟨i, hi, rfl⟩ := List.getElem_of_mem hp
        obtain ⟨b, off, e, hc⟩ := hC3 i hi
        rw [liCs_at L i hi] at hc
        exact HCP.out i (by omega) b off _ _ _ e hc
      have HB := Lib.hid (below_grown HBA.out hg3 (fun b e => by injection e with e; omega) (by simp))
      have HL30 : Hid (L.length ≤ 30) := by show _ ≤ _; omega
      clear HE HBA hL hE3 hC3 hO3 hg3 hl3 hgl3 hln HRD HCP
      generalize hn : L.length = n at *
      have HN := Lib.hid hn
      clear hn
      have hn30 : n ≤ 30 := HL30.out
      go_wp2_with fail
      go_loopw [3] (fun u wr => ∃ (i : Nat) (L : List LiE), i ≤ n ∧ u = .int .i64 (i : Int) ∧ Hid (L.length = n) ∧ Hid (wr.ownsRow w.heap.size 22 1 (.slice (some ⟨g3, 0, none⟩) L.length c3) L.length (liK.cs L)) ∧ Hid (∀ p ∈ L, IntR w p.2.1 p.1) ∧ Hid (∀ p ∈ L, p.1.length ≤ p.2.2 ∧ (p.2.1 = none → p.2.2 = 0)) ∧ Hid (Below w.heap.size w wr)) (fun u _ => n - (intOf u).toNat)
      case atStart => exact ⟨0, L, Nat.zero_le _, rfl, HN.out, by show World.ownsRow _ _ _ _ _ _ _; rw [HN.out]; exact HO.out, HER.out, HCA.out, HB.out⟩
      case round =>
        clear HO HER HCA HB HN
        obtain ⟨i, M, hin, rfl, HN, HO, HER, HCA, HB⟩ := hrel
        by_cases hil : i < n
        · have gi : (i : Int) < (n : Int) := by omega
          have gi0 : (0 : Int) ≤ (i : Int) := by omega
          have hiM : i < M.length := by rw [HN.out]; exact hil
          obtain ⟨c0, f0⟩ := li_cell HO.out i hiM
          have hgw := (HO.out.lt g3 rfl).1
          have hcap := HCA.out _ (List.getElem_mem hiM)
          have hir := HER.out _ (List.getElem_mem hiM)
          have HST := Lib.hid (fun p : LiE => li_store (w := wr.drew) HO.out i p)
          have HSB := Lib.hid (fun v : Value => ((sc_drewN HB.out 1).setCell hgw v : Below w.heap.size w (wr.drew.setCell ⟨g3, i, none⟩ v)))
          have HSE := Lib.hid (fun (p : LiE) (h : IntR w p.2.1 p.1) => (fun q hq => by
            rcases List.mem_or_eq_of_mem_set hq with hq | rfl
            · exact HER.out q hq
            · exact h : ∀ q ∈ M.set i p, IntR w q.2.1 q.1))
          have HSC := Lib.hid (fun (p : LiE) (h : p.1.length ≤ p.2.2 ∧ (p.2.1 = none → p.2.2 = 0)) => (fun q hq => by
            rcases List.mem_or_eq_of_mem_set hq with hq | rfl
            · exact HCA.out q hq
            · exact h : ∀ q ∈ M.set i p, q.1.length ≤ q.2.2 ∧ (q.2.1 = none → q.2.2 = 0)))
          have HSN : Hid (∀ p, (M.set i p).length = n) := fun p => by rw [List.length_set]; exact HN.out
          generalize M[i].1 = xs at *
          generalize M[i].2.1 = Ai at *
          generalize M[i].2.2 = ci at *
          obtain ⟨hc1, hc2⟩ := hcap
          have HC2 := Lib.hid hc2
          have HIR := Lib.hid (hir.take 4)
          have HIR0 := Lib.hid hir
          clear HO HB HER HCA hir hc2 hiM
          have gx0 : (0 : Int) ≤ (xs.length : Int) := by omega
          have gx1 : (xs.length : Int) ≤ (ci : Int) := by omega
          by_cases h4 : 4 < xs.length
          · have e4 : (xs.take 4).length = 4 := by rw [List.length_take]; omega
            have HE4 := Lib.hid e4
            cases Ai with
            | none => exact absurd (HC2.out rfl) (by omega)
            | some ai =>
              have g4 : (4 : Int) < (xs.length : Int) := by omega
              have g5 : (4 : Int) ≤ (ci : Int) := by omega
              have HP : Hid (World.ownsRow (wr.drew.setCell ⟨g3, i, none⟩ (.slice (some ai) 4 ci)) w.heap.size 22 1 (.slice (some ⟨g3, 0, none⟩) (M.set i ((xs.take 4, some ai, ci) : LiE)).length c3) (M.set i ((xs.take 4, some ai, ci) : LiE)).length (liK.cs (M.set i ((xs.take 4, some ai, ci) : LiE)))) := by
                have h := HST.out ((xs.take 4, some ai, ci) : LiE)
                rw [show (((xs.take 4, some ai, ci) : LiE)).1.length = 4 from HE4.out] at h
                exact h
              have HP2 := Lib.hid (HSE.out ((xs.take 4, some ai, ci) : LiE) HIR.out)
              have HP3 := Lib.hid (HSC.out ((xs.take 4, some ai, ci) : LiE) ⟨by show (xs.take 4).length ≤ ci; omega, fun e => by cases e⟩)
              have HP4 : Hid (Below w.heap.size w (wr.drew.setCell ⟨g3, i, none⟩ (.slice (some ai) 4 ci))) := HSB.out _
              clear e4 HE4
              clear HST HSE HSC HSB HIR HC2
              go_wp2_with fail
              go_region
              all_goals
                clear c0 f0
                go_wp2_with fail
                go_roundw
                case rel => exact ⟨i + 1, M.set i ((xs.take 4, some ai, ci) : LiE), hil, by go_num, HSN.out _, HP.out, HP2.out, HP3.out, HP4.out⟩
                case measure => simp [intOf]; omega
          · have g4 : ¬ (4 : Int) < (xs.length : Int) := by omega
            replace HIR := HIR0
            cases Ai with
            | none =>
              have hci := HC2.out rfl
              subst hci
              obtain rfl : xs = [] := List.length_eq_zero_iff.1 (by omega)
              have HP : Hid (World.ownsRow (wr.drew.setCell ⟨g3, i, none⟩ (.slice none 0 0)) w.heap.size 22 1 (.slice (some ⟨g3, 0, none⟩) (M.set i (([], none, 0) : LiE)).length c3) (M.set i (([], none, 0) : LiE)).length (liK.cs (M.set i (([], none, 0) : LiE)))) := by
                have h := HST.out (([], none, 0) : LiE)
                exact h
              have HP2 := Lib.hid (HSE.out (([], none, 0) : LiE) HIR.out)
              have HP3 := Lib.hid (HSC.out (([], none, 0) : LiE) ⟨by simp, fun _ => rfl⟩)
              have HP4 : Hid (Below w.heap.size w (wr.drew.setCell ⟨g3, i, none⟩ (.slice none 0 0))) := HSB.out _
              clear HST HSE HSC HSB HIR HC2
              go_wp2_with fail
              go_region
              all_goals
                clear c0 f0
                go_wp2_with fail
                go_roundw
                case rel => exact ⟨i + 1, M.set i (([], none, 0) : LiE), hil, by go_num, HSN.out _, HP.out, HP2.out, HP3.out, HP4.out⟩
                case measure => simp [intOf]; omega
            | some ai =>
              have HP : Hid (World.ownsRow (wr.drew.setCell ⟨g3, i, none⟩ (.slice (some ai) xs.length ci)) w.heap.size 22 1 (.slice (some ⟨g3, 0, none⟩) (M.set i ((xs, some ai, ci) : LiE)).length c3) (M.set i ((xs, some ai, ci) : LiE)).length (liK.cs (M.set i ((xs, some ai, ci) : LiE)))) := by
                have h := HST.out ((xs, some ai, ci) : LiE)
                exact h
              have HP2 := Lib.hid (HSE.out ((xs, some ai, ci) : LiE) HIR.out)
              have HP3 := Lib.hid (HSC.out ((xs, some ai, ci) : LiE) ⟨hc1, fun e => by cases e⟩)
              have HP4 : Hid (Below w.heap.size w (wr.drew.setCell ⟨g3, i, none⟩ (.slice (some ai) xs.length ci))) := HSB.out _
              clear HST HSE HSC HSB HIR HC2
              go_wp2_with fail
              go_region
              all_goals
                clear c0 f0
                go_wp2_with fail
                go_roundw
                case rel => exact ⟨i + 1, M.set i ((xs, some ai, ci) : LiE), hil, by go_num, HSN.out _, HP.out, HP2.out, HP3.out, HP4.out⟩
                case measure => simp [intOf]; omega
        · obtain rfl : i = n := by omega
          have gi : ¬ (i : Int) < (i : Int) := by omega
          rw [HN.out] at HO
          go_wp2_with fail
          go_ret
          exact ⟨g3, c3, M, by rw [HN.out]; rfl, by rw [HN.out]; exact HO.out, fun _ _ _ hm => HER.out _ hm, by rw [HN.out]; exact hn30, HB.out⟩
theorem own_later {w w' : World} {base : Nat} {e : TypeId} {size n : Nat} {v : Value} {xs : List Value} (h : w.ownsRow base e size v n xs) (hb : Below w.heap.size w w') : w'.ownsRow base e size v n xs := by
  refine ⟨h.1, ?_⟩
  rcases h.2 with h0 | ⟨g, cap, cur, e, hg, hk, r⟩
  · exact .inl h0
  · exact .inr ⟨g, cap, cur, e, hg, (hb.block g (sc_lt hk)).trans hk, r⟩
theorem li_more {w w' : World} {S : Nat → Prop} {p : LiE} (h : LiIn w S p) (hk : ∀ b, S b → b < w.heap.size → w'.heap[b]? = w.heap[b]?) : IntR w' p.2.1 p.1 := (liK.keep h hk : LiIn w' S p).read
set_option maxHeartbeats 4000000 in
theorem lawRaw_any (n : Int) (A : Option Addr) (c : Nat) (P0 : List (List Int)) (xs : List Int) (B : Option Addr) (cb : Nat) (w : World) (h0 : RwR w A c P0) (hB : IntR w B xs) (hmB : xs.length ≤ 9223372036854775807) (hT : TzT w) :
    Calls Tryd.prog 4 #[.int .i64 n, .slice A P0.length c, .slice B xs.length cb] w fun e w' => e = .returned (.bool true) ∧ Below w.heap.size w w' := by
  have HT := Lib.hid hT
  clear hT
  have HRW := Lib.hid (raw_any w A c P0 h0)
  have HPO := Lib.hid (fun W (h : Below w.heap.size w W) => pairsO_any W B xs cb 5 (hB.later h) hmB (by omega) (by omega))
  have hlP := prV_len xs 5
  generalize prV xs 5 = P3 at *
  clear h0 hB
  go_enter Tryd.func4, Tryd.ntmps4
  go_wp2_with fail
  refine HRW.out.mono ?_
  rintro e w1 ⟨g1, c1, L1, rfl, hO1, hE1, hl1, hb1⟩
  have HB1 := Lib.hid hb1
  have HO1 := Lib.hid hO1
  have HE1 := Lib.hid hE1
  clear HRW hO1 hE1 hb1
  go_wp2_with fail
  refine (HPO.out _ HB1.out).mono ?_
  rintro e w3 ⟨L3, A3, c3, rfl, hL3, hO3, hb3⟩
  have hl3 : L3.length ≤ 20 := by rw [← List.length_map (·.1), hL3]; exact hlP
  have HO1' := Lib.hid (own_later HO1.out hb3)
  have HB3 := Lib.hid (sc_two HB1.out hb3)
  have HW1 : Hid (g1 < w1.heap.size) := (HO1.out.lt g1 rfl).2
  have HG1 := Lib.hid (HO1.out.lt g1 rfl).1
  have HW3 := Lib.hid hb3.size
  have HO3 := Lib.hid hO3
  have hsz := HB3.out.size
  clear hO3 hb3 hL3 HPO HO1
  go_wp2_with (at_builtin; refine wpList_append_own2 _ rfl (.tmp 9) (.tmp 11) rfl w.heap.size g1 c1 L1 rfl HO1'.out hsz A3 c3 w1.heap.size L3 rfl HO3.out.1 (by omega) (by omega) ?_; intro g4 c4 w2 hO4 hg4 hl4 hgl4)
  have hb : Below w.heap.size w w2 := below_grown HB3.out hg4 (fun b e => by injection e with e; have := HG1.out; omega) hsz
  have hx : LiR w2 (some ⟨g4, 0, none⟩) ((L1 ++ L3).map (·.1)) := li_read hO4 fun p hp => by
    rcases List.mem_append.1 hp with hp | hp
    · exact (HE1.out p hp).later hb
    · refine li_more (HO3.out.2 p hp) fun b h1 h2 => hg4.block b h2 fun e => ?_
      injection e with e
      have h3 := h1.1
      have h4 := HW1.out
      omega
  have hPl : ((L1 ++ L3).map (·.1)).length ≤ 1000 := by rw [List.length_map, List.length_append]; omega
  have HLE : Hid (L1.length + L3.length = ((L1 ++ L3).map (·.1)).length) := by show _ = _; rw [List.length_map, List.length_append]
  clear HE1 HO1' HO3 HB3 HW1 HG1 HW3 HB1 hO4 hg4 hl4 hgl4 hsz
  rw [HLE.out]
  generalize (L1 ++ L3).map (·.1) = P at *
  obtain ⟨A2, hA2⟩ : ∃ A2, A2 = some (⟨g4, 0, none⟩ : Addr) := ⟨_, rfl⟩
  rw [← hA2] at hx ⊢
  obtain ⟨c2, hc2⟩ : ∃ c2, c2 = c4 := ⟨_, rfl⟩
  rw [← hc2]
  clear hA2 hc2 hlP
  have HPW := Lib.hid (fun W (h : Below w2.heap.size w2 W) => hx.later h)
  have HTZ := Lib.hid (fun W (h : Below w2.heap.size w2 W) => (HT.out.later hb).later h)
  have HC1 := Lib.hid (fun W (h : Below w2.heap.size w2 W) => sccComponents_any W n A2 P c2 (HTZ.out W h) (HPW.out W h) (by omega))
  have HC2 := Lib.hid (fun W (h : Below w2.heap.size w2 W) => refComponents_any W n A2 P c2 (HPW.out W h) (by omega))
  have HY1 := Lib.hid (fun W (h : Below w2.heap.size w2 W) => sccCyclic_any W n A2 P c2 (HTZ.out W h) (HPW.out W h) (by omega))
  have HY2 := Lib.hid (fun W (h : Below w2.heap.size w2 W) => refCyclic_any W n A2 P c2 (HPW.out W h) (by omega))
  have HOC := Lib.hid (comp_ok (Sc.rch (clV n) P) (clV_le n))
  have HOY := Lib.hid (cyc_ok (Sc.rch (clV n) P) (clV_le n))
  generalize toI (Sc.compV (Sc.rch (clV n) P) (clV n)) = C at *
  generalize toI (Sc.cycV (Sc.rch (clV n) P) (clV n)) = Y at *
  have HB0 := Lib.hid hb
  clear HPW hx hb
  go_wp2_with fail
  refine (HC1.out _ (Below.refl _ _)).mono ?_
  rintro e w3 ⟨A3, c3, rfl, hx, hb⟩
  have HX := Lib.hid hx
  have HB := Lib.hid hb
  clear hx hb
  go_wp2_with fail
  refine (HC2.out _ HB.out).mono ?_
  rintro e w4 ⟨A4, c4, rfl, hx, hb⟩
  have HX2 := Lib.hid (HX.out.later hb)
  have HY := Lib.hid hx
  have HB2 := Lib.hid (sc_two HB.out hb)
  clear HX HB hx hb
  go_wp2_with fail
  refine (sameLists_any _ _ _ C C _ _ HX2.out HY.out HOC.out HOC.out).mono ?_
  rintro e w5 ⟨rfl, hd⟩
  have HB3 := Lib.hid (sc_two HB2.out hd.below)
  clear HX2 HY HB2 hd
  rw [beq_self_eq_true]
  go_wp2_with fail
  refine (HY1.out _ HB3.out).mono ?_
  rintro e w6 ⟨A6, c6, rfl, hx, hb⟩
  have HX := Lib.hid hx
  have HB := Lib.hid (sc_two HB3.out hb)
  clear HB3 hx hb
  go_wp2_with fail
  refine (HY2.out _ HB.out).mono ?_
  rintro e w7 ⟨A7, c7, rfl, hx, hb⟩
  have HX2 := Lib.hid (HX.out.later hb)
  have HY := Lib.hid hx
  have HB2 := Lib.hid (sc_two HB.out hb)
  clear HX HB hx hb
  go_wp2_with fail
  refine (sameLists_any _ _ _ Y Y _ _ HX2.out HY.out HOY.out HOY.out).mono ?_
  rintro e w8 ⟨rfl, hd⟩
  have HB3 := Lib.hid (sc_two HB2.out hd.below)
  clear HX2 HY HB2 hd HC1 HC2 HY1 HY2
  rw [beq_self_eq_true]
  go_wp2_with fail
  refine (awake21_any _ (HTZ.out _ HB3.out)).mono ?_
  rintro e w9 ⟨rfl, hb⟩
  have HB4 := Lib.hid (sc_two HB0.out (sc_two HB3.out hb))
  clear HB3 HB0 hb
  go_wp2_with fail
  go_ret
  exact ⟨rfl, HB4.out⟩
end Go.Proofs.YtnofcanboaaejaaDoor
