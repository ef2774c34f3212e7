/- The walk of SccUnite. -/
import Derived.Test.YtnofcanboaaejaaDoorScLO
import Derived.Test.YtnofcanboaaejaaDoorScFac
namespace Go.Proofs.YtnofcanboaaejaaDoor
open Go.RowKit
set_option maxRecDepth 100000

/-- the element k of component i, in memory -/
theorem li_get {W : World} {A : Option Addr} {X : List (List Nat)} (h : LiR W A (toI X)) (i : Nat) (hi : i < X.length) : ∃ b off Ai ci, A = some ⟨b, off, none⟩ ∧ W.cell? ⟨b, off + i, none⟩ = some (.slice Ai X[i].length ci) ∧ ∀ k (hk : k < X[i].length), ∃ b2 off2, Ai = some ⟨b2, off2, none⟩ ∧ W.cell? ⟨b2, off2 + k, none⟩ = some (.int .i64 (X[i][k] : Int)) := by
  have hi' : i < (toI X).length := by unfold toI; rw [List.length_map]; exact hi
  obtain ⟨b, off, Ai, ci, e, hc, hr⟩ := h i hi'
  have e1 : (toI X)[i] = toL X[i] := List.getElem_map _
  have e2 : (toL X[i]).length = X[i].length := List.length_map _
  rw [e1] at hc hr
  rw [e2] at hc
  refine ⟨b, off, Ai, ci, e, hc, fun k hk => ?_⟩
  obtain ⟨b2, off2, e3, hc2, -⟩ := hr k (by rw [e2]; exact hk)
  refine ⟨b2, off2, e3, hc2.trans ?_⟩
  have e4 : (toL X[i])[k]'(by rw [e2]; exact hk) = (X[i][k] : Int) := List.getElem_map _
  rw [e4]
theorem head_at {l : List Nat} (h : 0 < l.length) : l.headD 0 = l[0] := by
  cases l with
  | nil => simp at h
  | cons a r => rfl
theorem li_got {W : World} {b off : Nat} {X : List (List Nat)} (h : LiR W (some ⟨b, off, none⟩) (toI X)) (i : Nat) (hi : i < X.length) : ∃ Ai ci, W.cell? ⟨b, off + i, none⟩ = some (.slice Ai X[i].length ci) ∧ ∀ k (hk : k < X[i].length), ∃ b2 off2, Ai = some ⟨b2, off2, none⟩ ∧ W.cell? ⟨b2, off2 + k, none⟩ = some (.int .i64 (X[i][k] : Int)) := by
  obtain ⟨b', off', Ai, ci, e, h1, h2⟩ := li_get h i hi
  injection e with e
  injection e with e1 e2
  subst e1 e2
  exact ⟨Ai, ci, h1, h2⟩
/-- what the inner loops have found: Y is divided by f -/
structure DivBy (n : Nat) (f : Nat → Nat) (Y : List (List Nat)) : Prop where
  lt : ∀ v, v < n → f v < Y.length
  mem : ∀ v j (h : j < Y.length), v ∈ Y[j] ↔ v < n ∧ j = f v
def atV (f : Nat → Nat) (Y : List (List Nat)) (v j m : Nat) : Int := if f v < j ∨ f v = j ∧ v ∈ (Y.getD j []).take m then (f v : Int) else -1
theorem atV_start (f : Nat → Nat) (Y : List (List Nat)) (v : Nat) : atV f Y v 0 0 = -1 := by
  unfold atV
  rw [if_neg]
  rintro (h | ⟨_, h⟩)
  · omega
  · simp at h
theorem getD_at {Y : List (List Nat)} {j : Nat} (h : j < Y.length) : Y.getD j [] = Y[j] := by simp [List.getD, h]
theorem atV_hit {n : Nat} {f : Nat → Nat} {Y : List (List Nat)} (hd : DivBy n f Y) {v j m : Nat} (hj : j < Y.length) (hm : m < Y[j].length) (e : Y[j][m] = v) : atV f Y v j (m + 1) = (j : Int) := by
  have h1 := ((hd.mem v j hj).1 (e ▸ List.getElem_mem hm)).2
  unfold atV
  rw [if_pos, ← h1]
  refine .inr ⟨h1.symm, ?_⟩
  rw [getD_at hj, List.take_succ_eq_append_getElem hm, e]
  simp
theorem atV_miss {f : Nat → Nat} {Y : List (List Nat)} {v j m : Nat} (hj : j < Y.length) (hm : m < Y[j].length) (e : Y[j][m] ≠ v) : atV f Y v j (m + 1) = atV f Y v j m := by
  unfold atV
  rw [getD_at hj, List.take_succ_eq_append_getElem hm]
  have : v ∈ Y[j].take m ++ [Y[j][m]] ↔ v ∈ Y[j].take m := by
    rw [List.mem_append, List.mem_singleton]
    constructor
    · rintro (h | h)
      · exact h
      · exact absurd h.symm e
    · exact .inl
  simp only [this]
theorem atV_row {n : Nat} {f : Nat → Nat} {Y : List (List Nat)} (hd : DivBy n f Y) {v j : Nat} (hv : v < n) (hj : j < Y.length) : atV f Y v (j + 1) 0 = atV f Y v j Y[j].length := by
  have h1 := hd.mem v j hj
  unfold atV
  rw [getD_at hj, List.take_length]
  congr 1
  rw [h1]
  simp only [List.take_zero, List.not_mem_nil, and_false, or_false, eq_iff_iff]
  omega
theorem atV_end {n : Nat} {f : Nat → Nat} {Y : List (List Nat)} (hd : DivBy n f Y) {v : Nat} (hv : v < n) : atV f Y v Y.length 0 = (f v : Int) := by
  unfold atV
  rw [if_pos (.inl (hd.lt v hv))]
theorem comp_lt {R : Nat → Nat → Bool} (hR : Sc.Eqv R) {n i k : Nat} (hi : i < (Sc.compV R n).length) (hk : k < (Sc.compV R n)[i].length) : (Sc.compV R n)[i][k] < n := by
  obtain ⟨f, -, h, -⟩ := Sc.comp_idx hR n
  exact ((h _ i hi).1 (List.getElem_mem hk)).1
theorem comp_mem {R : Nat → Nat → Bool} (hR : Sc.Eqv R) {n i u : Nat} (hi : i < (Sc.compV R n).length) (hu : u ∈ (Sc.compV R n)[i]) : u < n := by
  obtain ⟨f, -, h, -⟩ := Sc.comp_idx hR n
  exact ((h _ i hi).1 hu).1
theorem comp_eqv {R : Nat → Nat → Bool} (hR : Sc.Eqv R) {n i u v : Nat} (hi : i < (Sc.compV R n).length) (hu : u ∈ (Sc.compV R n)[i]) (hv : v ∈ (Sc.compV R n)[i]) : u = v ∨ Sc.eqv R u v = true := by
  obtain ⟨f, -, h, h2⟩ := Sc.comp_idx hR n
  obtain ⟨h3, h4⟩ := (h _ i hi).1 hu
  obtain ⟨h5, h6⟩ := (h _ i hi).1 hv
  exact (h2 u v h3 h5).1 (h4.symm.trans h6)

set_option maxHeartbeats 4000000 in
theorem lawUnite_any (n : Int) (xs : List Int) (A : Option Addr) (ca : Nat) (a b : Int) (w : World) (hn : -9223372036854775808 ≤ n ∧ n ≤ 9223372036854775807) (hA : IntR w A xs) (hm : xs.length ≤ 9223372036854775807) (ha : -9223372036854775808 ≤ a ∧ a ≤ 9223372036854775807) (hb : -9223372036854775808 ≤ b ∧ b ≤ 9223372036854775807) (hT : TzT w) :
    Calls Tryd.prog 8 #[.int .i64 n, .slice A xs.length ca, .int .i64 a, .int .i64 b] w fun e w' => e = .returned (.bool true) ∧ Below w.heap.size w w' := by
  have HT := Lib.hid hT
  clear hT
  have HS := Lib.hid (fun W => size21_any n W hn)
  have hk := within_lt n 13 (by omega)
  generalize within n 13 = k at *
  obtain ⟨N, hN⟩ : ∃ N : Nat, N = k + 1 := ⟨_, rfl⟩
  have hNI : 1 + (k : Int) = (N : Int) := by omega
  have hN0 : 0 < N := by omega
  have hN1 : N ≤ 13 := by omega
  have HNI : Hid (wrap64 (1 + (k : Int)) = (N : Int)) := by show _ = _; unfold wrap64; omega
  have HP := Lib.hid (pairs_any w A xs ca N hA hm (by omega) (by omega))
  have hlP := prV_len xs N
  generalize prV xs N = P at *
  have HWA := Lib.hid (fun W => within_any a (N : Int) W ha (by omega) (by omega))
  have HWB := Lib.hid (fun W => within_any b (N : Int) W hb (by omega) (by omega))
  rw [Int.toNat_natCast] at HWA HWB
  have hla := within_lt a N hN0
  have hlb := within_lt b N hN0
  generalize within a N = x at *
  generalize within b N = y at *
  obtain ⟨i0, hi, hzz⟩ := Option.map_eq_some_iff.1 Tryd.infoNs
  simp only [Prod.mk.injEq] at hzz
  obtain ⟨hz0, hz1', hz2⟩ := hzz
  clear hn hA ha hb hNI hk hN
  go_enter Tryd.func8, Tryd.ntmps8
  go_wp2_with fail
  refine (HS.out _).mono ?_
  rintro e w1 ⟨rfl, rfl⟩
  go_wp2_with fail
  rw [HNI.out]
  refine HP.out.mono ?_
  rintro e w2 ⟨A2, c2, rfl, hx, hb⟩
  have HPW := Lib.hid (fun W (h : Below w2.heap.size w2 W) => hx.later h)
  have HTZ := Lib.hid (fun W (h : Below w2.heap.size w2 W) => (HT.out.later hb).later h)
  have HB0 := Lib.hid hb
  have HE := Lib.hid (own_empty w2 _ rfl 22)
  have HBA := Lib.hid (below_alc (Below.refl w2.heap.size w2) (.cells #[] 22))
  clear hx hb HS HP HNI
  go_wp2_with (at_builtin; refine wpList_append_li _ rfl (.tmp 25) (.tmp 26) rfl w2.heap.size w2.heap.size 0 [] rfl HE.out (by simp) A2 P.length c2 P rfl rfl w2 (HPW.out _ (Below.refl _ _)) (below_alc (Below.refl _ _) _) (by simp) (by omega) ?_; intro g3 c3 L w3 hL hE3 hO3 hg3 hl3 hgl3)
  rw [List.nil_append] at *
  have HLL : Hid (L.length = P.length) := by show _ = _; rw [← hL, List.length_map]
  have HL := Lib.hid hL
  have HO := Lib.hid hO3
  have HER := Lib.hid hE3
  have HB := Lib.hid (below_grown HBA.out hg3 (fun b e => by injection e with e; omega) (by simp))
  clear HE HBA hL hE3 hO3 hg3 hl3 hgl3
  go_wp2_with fail
  refine (HWA.out _).mono ?_
  rintro e w4 ⟨rfl, rfl⟩
  go_wp2_with fail
  refine (HWB.out _).mono ?_
  rintro e w4 ⟨rfl, rfl⟩
  have hsz := HB.out.size
  have hl20 : L.length ≤ 20 := by have := HLL.out; omega
  clear HWA HWB
  go_wp2_with (at_builtin; refine wpList_append_lies _ rfl (.tmp 27) (.tmp 35) 24 rfl w2.heap.size 22 i0 _ 1 24 Tryd.underlying24 hi hz0 hz1' hz2 rfl (by decide) _ L.length (liK.cs L) rfl (IntO_alloc (IntO_alloc HO.out _) _) ⟨w3.heap.size + 1, 0, none⟩ 1 1 [.slice (some ⟨w3.heap.size, 0, none⟩) 2 2] rfl rfl (sc_news _ _ (by simp) _ _) (liK.one ([(x : Int), y], some ⟨w3.heap.size, 0, none⟩, 2)) (by omega) (by unfold maxLen; omega) (by omega) (by simp; omega) _ rfl ?_; intro gb cap w5 hown hgrow hlies hgl)
  have HQ5 : Hid (LiR w5 (some ⟨gb, 0, none⟩) (P ++ [[(x : Int), (y : Int)]])) := by
    have hr : ∀ p ∈ L ++ [(([(x : Int), (y : Int)], some (⟨w3.heap.size, 0, none⟩ : Addr), 2) : LiE)], IntR w5 p.2.1 p.1 := fun p hp => by
      have hb5 : Below w2.heap.size w2 w5 := below_grown ((HB.out.alloc hsz _).alloc (by simp; omega) _) hgrow (fun b e => (HO.out.lt b e).1) (by simp; omega)
      rcases List.mem_append.1 hp with hp | hp
      · exact (HER.out p hp).later hb5
      · rw [List.mem_singleton.1 hp]
        have h0 := li_new w3 _ 2 rfl [(x : Int), (y : Int)] 3 (.cells #[.slice (some ⟨w3.heap.size, 0, none⟩) 2 2] 22) (fun b => b = w3.heap.size) rfl (nums_ok hla hlb (by omega))
        exact (liK.keep h0 fun b hb _ => hgrow.block b (by subst hb; simp; omega) fun e => by subst hb; have := (HO.out.lt _ e.symm).2; omega).read
    have h := li_read (L := L ++ [(([(x : Int), (y : Int)], some (⟨w3.heap.size, 0, none⟩ : Addr), 2) : LiE)]) (A := some ⟨gb, 0, none⟩) (n := L.length + 1) (c := cap) (B := w2.heap.size) (w := w5) (by rw [List.length_append, liK.cs_snoc]; exact hown) hr
    rw [List.map_append, HL.out] at h
    exact h
  have HB5 : Hid (Below w2.heap.size w2 w5) := below_grown ((HB.out.alloc hsz _).alloc (by simp; omega) _) hgrow (fun b e => (HO.out.lt b e).1) (by simp; omega)
  have HLE : Hid (L.length + 1 = (P ++ [[(x : Int), (y : Int)]]).length) := by show _ = _; rw [List.length_append, ← HL.out, List.length_map]; rfl
  have hQl : (P ++ [[(x : Int), (y : Int)]]).length ≤ 1000 := by rw [List.length_append]; simp; omega
  have HPQ : Hid (∀ p, p ∈ P → p ∈ P ++ [[(x : Int), (y : Int)]]) := fun p h => List.mem_append.2 (.inl h)
  clear HO HER HB HL hown hgrow hlies hgl hsz hl20
  rw [HLE.out]
  generalize P ++ [[(x : Int), (y : Int)]] = Q at *
  go_wp2_with fail
  have HCX := Lib.hid (sccComponents_any w5 (N : Int) A2 P c2 (HTZ.out _ HB5.out) (HPW.out _ HB5.out) (by omega))
  have HCY := Lib.hid (fun W c (h : Below w5.heap.size w5 W) => sccComponents_any W (N : Int) (some ⟨gb, 0, none⟩) Q c (HTZ.out W (sc_two HB5.out h)) (HQ5.out.later h) hQl)
  rw [clV_in (by omega)] at HCX HCY
  have hlx := comp_len (Sc.rch N P) N
  have hly := comp_len (Sc.rch N Q) N
  have HF := Lib.hid (Sc.comp_fewer (fun a b h => Sc.rch_more HPQ.out h : ∀ a b, Sc.rch N P a b = true → Sc.rch N Q a b = true) N)
  have HY0 := Lib.hid (Sc.comp_pos (Sc.rch N Q) hN0)
  have HX0 := Lib.hid (Sc.comp_pos (Sc.rch N P) hN0)
  obtain ⟨f, hfl, hfm, hfe⟩ := Sc.comp_idx (Sc.rch_eqv N Q) N
  have HDV : Hid (DivBy N f (Sc.compV (Sc.rch N Q) N)) := ⟨hfl, hfm⟩
  have HXL : Hid (∀ i k (hi : i < (Sc.compV (Sc.rch N P) N).length) (hk : k < (Sc.compV (Sc.rch N P) N)[i].length), (Sc.compV (Sc.rch N P) N)[i][k] < N) := fun i k hi hk => comp_lt (Sc.rch_eqv N P) hi hk
  have HXE : Hid (∀ i u v (hi : i < (Sc.compV (Sc.rch N P) N).length), u ∈ (Sc.compV (Sc.rch N P) N)[i] → v ∈ (Sc.compV (Sc.rch N P) N)[i] → f u = f v) := fun i u v hi hu hv => by
    have h1 := (comp_mem (Sc.rch_eqv N P) hi hu)
    have h2 := (comp_mem (Sc.rch_eqv N P) hi hv)
    rw [hfe u v h1 h2]
    rcases comp_eqv (Sc.rch_eqv N P) hi hu hv with h | h
    · exact .inl h
    · exact .inr (Sc.eqv_iff.2 ⟨Sc.rch_more HPQ.out (Sc.eqv_iff.1 h).1, Sc.rch_more HPQ.out (Sc.eqv_iff.1 h).2⟩)
  have HX65 : Hid (∀ i (hi : i < (Sc.compV (Sc.rch N P) N).length), (Sc.compV (Sc.rch N P) N)[i].length ≤ 14) := fun i hi => by
    obtain ⟨a, -, -, e⟩ := comp_at hi
    rw [e]
    have := cls_len (Sc.rch N P) a N
    omega
  have HY65 : Hid (∀ i (hi : i < (Sc.compV (Sc.rch N Q) N).length), (Sc.compV (Sc.rch N Q) N)[i].length ≤ 14) := fun i hi => by
    obtain ⟨a, -, -, e⟩ := comp_at hi
    rw [e]
    have := cls_len (Sc.rch N Q) a N
    omega
  have exl : (toI (Sc.compV (Sc.rch N P) N)).length = (Sc.compV (Sc.rch N P) N).length := List.length_map _
  have eyl : (toI (Sc.compV (Sc.rch N Q) N)).length = (Sc.compV (Sc.rch N Q) N).length := List.length_map _
  clear hfl hfm hfe HPW HPQ hlP
  refine HCX.out.mono ?_
  rintro e w6 ⟨A6, c6, rfl, hx6, hb6⟩
  rw [exl]
  have HXW := Lib.hid (fun W (h : Below w6.heap.size w6 W) => hx6.later h)
  have HB6 := Lib.hid hb6
  clear hx6 hb6 HCX
  generalize Sc.compV (Sc.rch N P) N = X at *
  go_wp2_with fail
  refine (HCY.out _ _ HB6.out).mono ?_
  rintro e w7 ⟨A7, c7, rfl, hx7, hb7⟩
  rw [eyl]
  have HYW := Lib.hid (fun W (h : Below w7.heap.size w7 W) => hx7.later h)
  have HXW2 := Lib.hid (fun W (h : Below w7.heap.size w7 W) => HXW.out W (sc_two hb7 h))
  obtain ⟨b6, off6, -, -, rfl, -⟩ := li_get (HXW2.out w7 (Below.refl _ _)) 0 HX0.out
  have HB7 := Lib.hid (sc_two HB0.out (sc_two HB5.out (sc_two HB6.out hb7)))
  clear hx7 hb7 HCY HXW HB6 HB5 HB0 HQ5 HLE HLL exl eyl
  generalize Sc.compV (Sc.rch N Q) N = Y at *
  obtain ⟨b7, off7, -, -, rfl, -⟩ := li_get (HYW.out w7 (Below.refl _ _)) 0 HY0.out
  go_wp2_with fail
  go_loopw [13] (fun u wr => ∃ i : Nat, i ≤ X.length ∧ u = .int .i64 (i : Int) ∧ Hid (Dr w7 wr)) (fun u _ => X.length - (intOf u).toNat)
  case atStart => exact ⟨0, Nat.zero_le _, rfl, Dr.refl _⟩
  case round =>
    obtain ⟨i, hi, rfl, HD⟩ := hrel
    by_cases hil : i < X.length
    · have gi : (i : Int) < (X.length : Int) := by omega
      have gi0 : (0 : Int) ≤ (i : Int) := by omega
      have hx14 := HX65.out i hil
      have HXI := Lib.hid (fun W (h : Dr w7 W) => li_got (HXW2.out W h.below) i hil)
      have HXLi := Lib.hid (fun k hk => HXL.out i k hil hk)
      have HXEi := Lib.hid (fun u v hu hv => HXE.out i u v hil hu hv)
      generalize hxi : X[i] = xi at *
      clear hxi
      generalize wr = wo at *
      go_wp2_with fail
      go_loopw [14, 15] (fun v u wr => ∃ (k : Nat) (hm : Int), k ≤ xi.length ∧ u = .int .i64 (k : Int) ∧ v = .int .i64 hm ∧ Hid (k = 0 ∧ hm = -1 ∨ 0 < k ∧ hm = (f (xi.headD 0) : Int)) ∧ Hid (Dr w7 wr)) (fun _ u _ => xi.length - (intOf u).toNat)
      case atStart => exact ⟨0, -1, Nat.zero_le _, rfl, rfl, .inl ⟨rfl, rfl⟩, HD⟩
      case round =>
        clear HD
        obtain ⟨k, hm, hk, rfl, rfl, HH, HD⟩ := hrel
        have hd := HD.out.below
        by_cases hkl : k < xi.length
        · have gk : (k : Int) < (xi.length : Int) := by omega
          have gk0 : (0 : Int) ≤ (k : Int) := by omega
          obtain ⟨Ai, ci, c0, cx⟩ := HXI.out wr HD.out
          have hvN := HXLi.out k hkl
          have HFV : Hid (f xi[k] = f (xi.headD 0)) := HXEi.out _ _ (List.getElem_mem hkl) (by rw [head_at (by omega : 0 < xi.length)]; exact List.getElem_mem _)
          generalize hvv : xi[k] = v at *
          have HVV := Lib.hid hvv
          clear hvv cx
          generalize wr = wo2 at *
          go_wp2_with fail
          go_loopw [16, 17] (fun p q wr => ∃ (j : Nat) (a : Int), j ≤ Y.length ∧ q = .int .i64 (j : Int) ∧ p = .int .i64 a ∧ Hid (a = atV f Y v j 0) ∧ Hid (Dr w7 wr)) (fun _ q _ => Y.length - (intOf q).toNat)
          case atStart => exact ⟨0, -1, Nat.zero_le _, rfl, rfl, (atV_start _ _ _).symm, HD⟩
          case round =>
            clear HD hd c0
            obtain ⟨j, a, hj, rfl, rfl, HA, HD⟩ := hrel
            by_cases hjl : j < Y.length
            · have gj : (j : Int) < (Y.length : Int) := by omega
              have gj0 : (0 : Int) ≤ (j : Int) := by omega
              have hy14 := HY65.out j hjl
              have HYJ := Lib.hid (fun W (h : Dr w7 W) => li_got (HYW.out W h.below) j hjl)
              have HHIT := Lib.hid (fun m (hm : m < Y[j].length) (e : Y[j][m] = v) => atV_hit HDV.out hjl hm e)
              have HMISS := Lib.hid (fun m (hm : m < Y[j].length) (e : Y[j][m] ≠ v) => atV_miss (f := f) hjl hm e)
              have HROW := Lib.hid (atV_row HDV.out hvN hjl)
              generalize hyj : Y[j] = yj at *
              clear hyj
              generalize wr = wo3 at *
              go_wp2_with fail
              go_loopw [16, 18] (fun p q wr => ∃ (m : Nat) (a : Int), m ≤ yj.length ∧ q = .int .i64 (m : Int) ∧ p = .int .i64 a ∧ Hid (a = atV f Y v j m) ∧ Hid (Dr w7 wr)) (fun _ q _ => yj.length - (intOf q).toNat)
              case atStart => exact ⟨0, a, Nat.zero_le _, rfl, rfl, HA, HD⟩
              case round =>
                clear HA HD
                obtain ⟨m, a2, hmm, rfl, rfl, HA, HD⟩ := hrel
                obtain ⟨Aj, cj, d0, dy⟩ := HYJ.out wr HD.out
                by_cases hml : m < yj.length
                · have gm : (m : Int) < (yj.length : Int) := by omega
                  have gm0 : (0 : Int) ≤ (m : Int) := by omega
                  obtain ⟨b4, off4, rfl, d1⟩ := dy m hml
                  obtain ⟨Ai2, ci2, c0, cx⟩ := HXI.out wr HD.out
                  obtain ⟨b2, off2, rfl, c1⟩ := cx k hkl
                  rw [HVV.out] at c1
                  have HHM := Lib.hid (HHIT.out m hml)
                  have HMM := Lib.hid (HMISS.out m hml)
                  generalize yj[m] = u at *
                  clear dy cx
                  by_cases huv : u = v
                  · have t0 := bT (show (u : Int) = (v : Int) by omega)
                    have HA2 := Lib.hid (HHM.out huv)
                    clear HHM HMM HA huv
                    go_wp2_with fail
                    go_region
                    all_goals
                      go_wp2_with fail
                      go_roundw
                      case rel => exact ⟨m + 1, (j : Int), hml, by go_num, rfl, HA2.out.symm, HD.out.more 1⟩
                      case measure => simp [intOf]; omega
                  · have t0 := bF (show (u : Int) ≠ (v : Int) by omega)
                    have HA2 := Lib.hid (HMM.out huv)
                    rw [← HA.out] at HA2
                    clear HHM HMM HA huv
                    go_wp2_with fail
                    go_region
                    all_goals
                      go_wp2_with fail
                      go_roundw
                      case rel => exact ⟨m + 1, a2, hml, by go_num, rfl, HA2.out.symm, HD.out.more 1⟩
                      case measure => simp [intOf]; omega
                · obtain rfl : m = yj.length := by omega
                  have gm : ¬ (yj.length : Int) < (yj.length : Int) := by omega
                  rw [← HROW.out] at HA
                  go_wp2_with fail
                  go_roundw
                  case rel => exact ⟨j + 1, a2, hjl, by go_num, rfl, HA.out, HD.out⟩
                  case measure => simp [intOf]; omega
            · obtain rfl : j = Y.length := by omega
              have gj : ¬ (Y.length : Int) < (Y.length : Int) := by omega
              have HA2 : Hid (a = (f v : Int)) := HA.out.trans (atV_end HDV.out hvN)
              obtain rfl := HA2.out
              clear HA HA2
              have ga0 : ¬ (f v : Int) < 0 := by omega
              have HH2 : Hid (k + 1 = 0 ∧ (f v : Int) = -1 ∨ 0 < k + 1 ∧ (f v : Int) = (f (xi.headD 0) : Int)) := .inr ⟨Nat.succ_pos k, by rw [HFV.out]⟩
              rcases HH.out with ⟨-, rfl⟩ | ⟨-, rfl⟩
              · go_wp2_with fail
                go_roundw
                case rel => exact ⟨k + 1, (f v : Int), hkl, by go_num, rfl, HH2.out, HD.out⟩
                case measure => simp [intOf]; omega
              · have gh : (0 : Int) ≤ (f v : Int) := by omega
                have t0 := nF (rfl : (f v : Int) = (f v : Int))
                rw [← HFV.out]
                go_wp2_with fail
                go_roundw
                case rel => exact ⟨k + 1, (f v : Int), hkl, by go_num, rfl, HH2.out, HD.out⟩
                case measure => simp [intOf]; omega
        · obtain rfl : k = xi.length := by omega
          have gk : ¬ (xi.length : Int) < (xi.length : Int) := by omega
          obtain ⟨Ai, ci, c0, -⟩ := HXI.out wr HD.out
          go_wp2_with fail
          go_roundw
          case rel => exact ⟨i + 1, hil, by go_num, HD.out⟩
          case measure => simp [intOf]; omega
    · obtain rfl : i = X.length := by omega
      have gi : ¬ (X.length : Int) < (X.length : Int) := by omega
      have g1 : (Y.length : Int) ≤ (X.length : Int) := by have := HF.out; omega
      have g2 : (0 : Int) < (Y.length : Int) := by have := HY0.out; omega
      go_wp2_with fail
      refine (awake21_any _ (HT.out.later (sc_two HB7.out HD.out.below))).mono ?_
      rintro e w9 ⟨rfl, hb9⟩
      have HB9 := Lib.hid (sc_two (sc_two HB7.out HD.out.below) hb9)
      clear hb9
      go_wp2_with fail
      go_ret
      exact ⟨rfl, HB9.out⟩
end Go.Proofs.YtnofcanboaaejaaDoor
