/- The walk of SccPartition. -/
import Derived.Test.YtnofcanboaaejaaDoorScLU
import Derived.Test.YtnofcanboaaejaaDoorScNm
import Derived.Deep.RegionHeld3
namespace Go.Proofs.YtnofcanboaaejaaDoor
open Go.RowKit
set_option maxRecDepth 100000

def arV (f : Nat → Nat) (Y : List (List Nat)) (j m v : Nat) : Int := if f v < j ∨ f v = j ∧ v ∈ (Y.getD j []).take m then (f v : Int) else 0
theorem arV_start (f : Nat → Nat) (Y : List (List Nat)) : arV f Y 0 0 = fun _ => 0 := by
  funext v
  unfold arV
  rw [if_neg]
  rintro (h | ⟨_, h⟩)
  · omega
  · simp at h
theorem arV_put {n : Nat} {f : Nat → Nat} {Y : List (List Nat)} (hd : DivBy n f Y) {j m : Nat} (hj : j < Y.length) (hm : m < Y[j].length) (x : Nat) : arV f Y j (m + 1) x = if x = Y[j][m] then (j : Int) else arV f Y j m x := by
  have h1 := ((hd.mem Y[j][m] j hj).1 (List.getElem_mem hm)).2
  unfold arV
  rw [getD_at hj, List.take_succ_eq_append_getElem hm]
  by_cases e : x = Y[j][m]
  · rw [if_pos e, if_pos]
    · rw [e, ← h1]
    · exact .inr ⟨by rw [e, ← h1], by rw [e]; exact List.mem_append.2 (.inr (List.mem_singleton.2 rfl))⟩
  · rw [if_neg e]
    have : x ∈ Y[j].take m ++ [Y[j][m]] ↔ x ∈ Y[j].take m := by
      rw [List.mem_append, List.mem_singleton]
      constructor
      · rintro (h | h)
        · exact h
        · exact absurd h e
      · exact .inl
    simp only [this]
theorem arV_row {n : Nat} {f : Nat → Nat} {Y : List (List Nat)} (hd : DivBy n f Y) {v j : Nat} (hv : v < n) (hj : j < Y.length) : arV f Y (j + 1) 0 v = arV f Y j Y[j].length v := by
  have h1 := hd.mem v j hj
  unfold arV
  rw [getD_at hj, List.take_length]
  congr 1
  rw [h1]
  simp only [List.take_zero, List.not_mem_nil, and_false, or_false, eq_iff_iff]
  omega
theorem arV_end {n : Nat} {f : Nat → Nat} {Y : List (List Nat)} (hd : DivBy n f Y) {v : Nat} (hv : v < n) : arV f Y Y.length 0 v = (f v : Int) := by
  unfold arV
  rw [if_pos (.inl (hd.lt v hv))]
def cnt (Y : List (List Nat)) (i : Nat) : Nat := ((Y.take i).map List.length).sum
theorem cnt_succ {Y : List (List Nat)} {i : Nat} (h : i < Y.length) : cnt Y (i + 1) = cnt Y i + Y[i].length := by
  unfold cnt
  rw [List.take_succ_eq_append_getElem h, List.map_append, List.sum_append]
  simp only [List.map_cons, List.map_nil, List.sum_cons, List.sum_nil, Nat.add_zero]
theorem cnt_le (Y : List (List Nat)) (i : Nat) : cnt Y i ≤ (Y.map List.length).sum := by
  have h : (Y.map List.length).sum = ((Y.take i).map List.length).sum + ((Y.drop i).map List.length).sum := by
    rw [← List.sum_append, ← List.map_append, List.take_append_drop]
  unfold cnt
  omega
theorem cnt_end (Y : List (List Nat)) : cnt Y Y.length = (Y.map List.length).sum := by unfold cnt; rw [List.take_length]
def opP0 : Oper := { dst := some 80, op := Op.move (Operand.tmp 7), type := 22, pos := "law.go:71", after := #[], guard := none }
def opP1 : Oper := { dst := some 81, op := Op.move (Operand.tmp 11), type := 3, pos := "law.go:71", after := #[], guard := none }
def opP2 : Oper := { dst := some 82, op := Op.indexAddr 22 (Operand.tmp 80) (Operand.tmp 81), type := 0, pos := "law.go:71", after := #[{ on := 0, ground := Ground.data }, { on := 1, ground := Ground.data }], guard := none }
def opP3 : Oper := { dst := some 83, op := Op.load 3 (Operand.tmp 82), type := 3, pos := "law.go:71", after := #[{ on := 2, ground := Ground.data }], guard := none }
def opP4 : Oper := { dst := some 84, op := Op.move (Operand.tmp 7), type := 22, pos := "law.go:71", after := #[], guard := none }
def opP5 : Oper := { dst := some 85, op := Op.move (Operand.tmp 12), type := 3, pos := "law.go:71", after := #[], guard := none }
def opP6 : Oper := { dst := some 86, op := Op.indexAddr 22 (Operand.tmp 84) (Operand.tmp 85), type := 0, pos := "law.go:71", after := #[{ on := 4, ground := Ground.data }, { on := 5, ground := Ground.data }], guard := none }
def opP7 : Oper := { dst := some 87, op := Op.load 3 (Operand.tmp 86), type := 3, pos := "law.go:71", after := #[{ on := 6, ground := Ground.data }], guard := none }
def opP8 : Oper := { dst := some 88, op := Op.binOp BinOp.eql 3 (Operand.tmp 83) (Operand.tmp 87) 3, type := 4, pos := "law.go:71", after := #[{ on := 3, ground := Ground.data }, { on := 7, ground := Ground.data }], guard := none }
def opP9 : Oper := { dst := some 89, op := Op.move (Operand.tmp 11), type := 3, pos := "law.go:71", after := #[], guard := none }
def opP10 : Oper := { dst := some 90, op := Op.move (Operand.tmp 12), type := 3, pos := "law.go:71", after := #[], guard := none }
def opP11 : Oper := { dst := some 91, op := Op.binOp BinOp.eql 3 (Operand.tmp 89) (Operand.tmp 90) 3, type := 4, pos := "law.go:71", after := #[{ on := 9, ground := Ground.data }, { on := 10, ground := Ground.data }], guard := none }
def opP12 : Oper := { dst := some 92, op := Op.move (Operand.tmp 91), type := 4, pos := "law.go:71", after := #[{ on := 11, ground := Ground.data }], guard := none }
def opP13 : Oper := { dst := some 93, op := Op.move (Operand.tmp 0), type := 3, pos := "law.go:71", after := #[{ on := 12, ground := Ground.guard }], guard := some (12, false) }
def opP14 : Oper := { dst := some 94, op := Op.move (Operand.tmp 5), type := 24, pos := "law.go:71", after := #[{ on := 12, ground := Ground.guard }], guard := some (12, false) }
def opP15 : Oper := { dst := some 95, op := Op.move (Operand.tmp 11), type := 3, pos := "law.go:71", after := #[{ on := 12, ground := Ground.guard }], guard := some (12, false) }
def opP16 : Oper := { dst := some 96, op := Op.move (Operand.tmp 12), type := 3, pos := "law.go:71", after := #[{ on := 12, ground := Ground.guard }], guard := some (12, false) }
def opP17 : Oper := { dst := some 97, op := Op.call { callee := Callee.value (Operand.func 20), args := #[Operand.tmp 93, Operand.tmp 94, Operand.tmp 95, Operand.tmp 96], argTypes := #[3, 24, 3, 3] }, type := 4, pos := "law.go:71", after := #[{ on := 13, ground := Ground.data }, { on := 14, ground := Ground.data }, { on := 15, ground := Ground.data }, { on := 16, ground := Ground.data }, { on := 12, ground := Ground.chain }, { on := 12, ground := Ground.guard }], guard := some (12, false) }
def opP18 : Oper := { dst := some 98, op := Op.move (Operand.tmp 97), type := 4, pos := "law.go:71", after := #[{ on := 17, ground := Ground.data }, { on := 17, ground := Ground.chain }, { on := 12, ground := Ground.guard }], guard := some (12, false) }
def opP19 : Oper := { dst := some 99, op := Op.move (Operand.tmp 0), type := 3, pos := "law.go:71", after := #[{ on := 18, ground := Ground.guard }], guard := some (18, true) }
def opP20 : Oper := { dst := some 100, op := Op.move (Operand.tmp 5), type := 24, pos := "law.go:71", after := #[{ on := 18, ground := Ground.guard }], guard := some (18, true) }
def opP21 : Oper := { dst := some 101, op := Op.move (Operand.tmp 12), type := 3, pos := "law.go:71", after := #[{ on := 18, ground := Ground.guard }], guard := some (18, true) }
def opP22 : Oper := { dst := some 102, op := Op.move (Operand.tmp 11), type := 3, pos := "law.go:71", after := #[{ on := 18, ground := Ground.guard }], guard := some (18, true) }
def opP23 : Oper := { dst := some 103, op := Op.call { callee := Callee.value (Operand.func 20), args := #[Operand.tmp 99, Operand.tmp 100, Operand.tmp 101, Operand.tmp 102], argTypes := #[3, 24, 3, 3] }, type := 4, pos := "law.go:71", after := #[{ on := 19, ground := Ground.data }, { on := 20, ground := Ground.data }, { on := 21, ground := Ground.data }, { on := 22, ground := Ground.data }, { on := 18, ground := Ground.chain }, { on := 18, ground := Ground.guard }], guard := some (18, true) }
def opP24 : Oper := { dst := some 104, op := Op.pick (Operand.tmp 98) (Operand.tmp 103) (Operand.const (Value.bool false)), type := 4, pos := "law.go:71", after := #[{ on := 18, ground := Ground.data }, { on := 23, ground := Ground.data }, { on := 12, ground := Ground.guard }], guard := some (12, false) }
def opP25 : Oper := { dst := some 105, op := Op.pick (Operand.tmp 92) (Operand.const (Value.bool true)) (Operand.tmp 104), type := 4, pos := "law.go:71", after := #[{ on := 12, ground := Ground.data }, { on := 24, ground := Ground.data }], guard := none }
def opP26 : Oper := { dst := some 106, op := Op.binOp BinOp.neq 4 (Operand.tmp 88) (Operand.tmp 105) 4, type := 4, pos := "law.go:71", after := #[{ on := 8, ground := Ground.data }, { on := 25, ground := Ground.data }], guard := none }
set_option maxHeartbeats 4000000 in
theorem lawPartition_any (n : Int) (xs : List Int) (A : Option Addr) (ca : Nat) (w : World) (hn : -9223372036854775808 ≤ n ∧ n ≤ 9223372036854775807) (hA : IntR w A xs) (hm : xs.length ≤ 9223372036854775807) (hT : TzT w) :
    Calls Tryd.prog 6 #[.int .i64 n, .slice A xs.length ca] w fun e w' => e = .returned (.bool true) ∧ Below w.heap.size w w' := by
  have HT := Lib.hid hT
  clear hT
  have HS := Lib.hid (fun W => size21_any n W hn)
  have hk := within_lt n 13 (by omega)
  generalize within n 13 = k at *
  have hp := pairs_any w A xs ca (max k 1) hA hm (by omega) (by omega)
  have hlP := prV_len xs (max k 1)
  generalize prV xs (max k 1) = P at *
  have HP : Hid (∀ m : Int, m = ((max k 1 : Nat) : Int) → Calls Tryd.prog 10 #[.slice A xs.length ca, .int .i64 m] w (LiP w P)) := by
    intro m hm
    subst hm
    exact hp
  clear hn hA hp
  go_enter Tryd.func6, Tryd.ntmps6
  go_wp2_with fail
  refine (HS.out _).mono ?_
  rintro e w1 ⟨rfl, rfl⟩
  go_wp2_with fail
  · refine (HP.out _ (by omega)).mono ?_
    rintro e w2 ⟨A2, c2, rfl, hx, hb⟩
    clear h
    have HPW := Lib.hid (fun W (h : Below w2.heap.size w2 W) => hx.later h)
    have HTZ := Lib.hid (fun W (h : Below w2.heap.size w2 W) => (HT.out.later hb).later h)
    have HB0 := Lib.hid hb
    have HC := Lib.hid (sccComponents_any w2 (k : Int) A2 P c2 (HTZ.out _ (Below.refl _ _)) (HPW.out _ (Below.refl _ _)) (by omega))
    have HR := Lib.hid (fun W (x y : Nat) (h : Below w2.heap.size w2 W) (hx : x < k) (hy : y < k) => (sccReaches_any W (k : Int) (x : Int) (y : Int) A2 P c2 (HTZ.out W h) (HPW.out W h) (by omega)).mono (R' := fun e w' => e = .returned (.bool (Sc.rch k P x y)) ∧ Below W.heap.size W w') fun _ _ h => by rw [reV_yes (by omega) hx hy] at h; exact h)
    rw [clV_in (by omega)] at HC
    have hlc := comp_len (Sc.rch k P) k
    have HTO := Lib.hid (Sc.comp_total (Sc.rch_eqv k P) k)
    obtain ⟨f, hfl, hfm, hfe⟩ := Sc.comp_idx (Sc.rch_eqv k P) k
    have HDV : Hid (DivBy k f (Sc.compV (Sc.rch k P) k)) := ⟨hfl, hfm⟩
    have HFE := Lib.hid hfe
    have HC14 : Hid (∀ i (hi : i < (Sc.compV (Sc.rch k P) k).length), (Sc.compV (Sc.rch k P) k)[i].length ≤ 14) := fun i hi => by
      obtain ⟨a, -, -, e⟩ := comp_at hi
      rw [e]
      have := cls_len (Sc.rch k P) a k
      omega
    have exl : (toI (Sc.compV (Sc.rch k P) k)).length = (Sc.compV (Sc.rch k P) k).length := List.length_map _
    clear hx hb hfl hfm hfe HS HP
    go_wp2_with fail
    refine HC.out.mono ?_
    rintro e w3 ⟨A3, c3, rfl, hx, hb⟩
    rw [exl]
    have HXW := Lib.hid (fun W (h : Below w3.heap.size w3 W) => hx.later h)
    have HB3 := Lib.hid hb
    clear hx hb HC exl
    generalize Sc.compV (Sc.rch k P) k = C at *
    generalize Sc.rch k P = R at *
    go_wp2_with (refine wpList_make_nums _ rfl _ _ rfl k rfl rfl (by omega) _ rfl ?_; intro w4 hN4 hB4 hs4)
    have HN : Hid (NmR w4 w3.heap.size k (arV f C 0 0)) := by show NmR _ _ _ _; rw [arV_start]; exact hN4
    have HB4 := Lib.hid hB4
    clear hN4 hB4 hs4
    go_wp2_with fail
    go_loopw [8, 9] (fun p q wr => ∃ i t : Nat, i ≤ C.length ∧ t ≤ 12 ∧ q = .int .i64 (i : Int) ∧ p = .int .i64 (t : Int) ∧ Hid (t = cnt C i) ∧ Hid (NmR wr w3.heap.size k (arV f C i 0)) ∧ Hid (Below w3.heap.size w3 wr)) (fun _ q _ => C.length - (intOf q).toNat)
    case atStart => exact ⟨0, 0, Nat.zero_le _, Nat.zero_le _, rfl, rfl, rfl, HN, HB4⟩
    case round =>
      clear HN HB4
      obtain ⟨i, t, hi, ht, rfl, rfl, HT, HN, HB⟩ := hrel
      by_cases hil : i < C.length
      · have gi : (i : Int) < (C.length : Int) := by omega
        have gi0 : (0 : Int) ≤ (i : Int) := by omega
        obtain ⟨b6, off6, -, -, rfl, -⟩ := li_get (HXW.out wr HB.out) i hil
        have hc14 := HC14.out i hil
        have HCI := Lib.hid (fun W (h : Below w3.heap.size w3 W) => li_got (HXW.out W h) i hil)
        have HPUT := Lib.hid (fun m (hm : m < C[i].length) => arV_put HDV.out hil hm)
        have HROW := Lib.hid (fun x (hx : x < k) => arV_row HDV.out hx hil)
        have HCL := Lib.hid (cnt_succ hil)
        have HCM := Lib.hid (cnt_le C (i + 1))
        have HLT := Lib.hid (fun m (hm : m < C[i].length) => ((HDV.out.mem _ i hil).1 (List.getElem_mem hm)).1)
        generalize hci : C[i] = ci at *
        clear hci
        rw [HTO.out] at HCM
        generalize wr = wo at *
        go_wp2_with fail
        go_loopw [8, 10] (fun p q wr => ∃ m t : Nat, m ≤ ci.length ∧ t ≤ 12 ∧ q = .int .i64 (m : Int) ∧ p = .int .i64 (t : Int) ∧ Hid (t = cnt C i + m) ∧ Hid (NmR wr w3.heap.size k (arV f C i m)) ∧ Hid (Below w3.heap.size w3 wr)) (fun _ q _ => ci.length - (intOf q).toNat)
        case atStart => exact ⟨0, t, Nat.zero_le _, ht, rfl, rfl, HT, HN, HB⟩
        case round =>
          clear HT HN HB ht
          obtain ⟨m, t2, hm2, ht, rfl, rfl, HT, HN, HB⟩ := hrel
          obtain ⟨Ai, cc, c0, cx⟩ := HCI.out wr HB.out
          by_cases hml : m < ci.length
          · have gm : (m : Int) < (ci.length : Int) := by omega
            have gm0 : (0 : Int) ≤ (m : Int) := by omega
            obtain ⟨b2, off2, rfl, c1⟩ := cx m hml
            have hv := HLT.out m hml
            have HP2 := Lib.hid (HPUT.out m hml)
            generalize ci[m] = v at *
            have gv : (v : Int) < (k : Int) := by omega
            have gv0 : (0 : Int) ≤ (v : Int) := by omega
            have gv1 : ¬ (v : Int) < 0 := by omega
            have gv2 : ¬ (k : Int) ≤ (v : Int) := by omega
            obtain ⟨n0, nf⟩ := HN.out v hv
            have HN2 : Hid (NmR (wr.setCell ⟨w3.heap.size, v, none⟩ (.int .i64 (i : Int))) w3.heap.size k (arV f C i (m + 1))) := HN.out.put _ fun j _ => HP2.out j
            have HB2 : Hid (Below w3.heap.size w3 (wr.setCell ⟨w3.heap.size, v, none⟩ (.int .i64 (i : Int)))) := HB.out.setCell (Nat.le_refl _) _
            have HT2 : Hid (t2 + 1 = cnt C i + (m + 1)) := by show _ = _; rw [HT.out]; rfl
            have ht2 : t2 + 1 ≤ 12 := by have h1 := HT.out; have h2 := HCL.out; have h3 := HCM.out; omega
            clear HT HN HB cx HP2
            go_wp2_with fail
            go_roundw
            case rel => exact ⟨m + 1, t2 + 1, hml, ht2, by go_num, by go_num, HT2.out, HN2.out, HB2.out⟩
            case measure => simp [intOf]; omega
          · obtain rfl : m = ci.length := by omega
            have gm : ¬ (ci.length : Int) < (ci.length : Int) := by omega
            have HN2 : Hid (NmR wr w3.heap.size k (arV f C (i + 1) 0)) := fun j hj => by rw [HROW.out j hj]; exact HN.out j hj
            have HT2 : Hid (t2 = cnt C (i + 1)) := HT.out.trans HCL.out.symm
            go_wp2_with fail
            go_roundw
            case rel => exact ⟨i + 1, t2, hil, ht, by go_num, rfl, HT2.out, HN2.out, HB.out⟩
            case measure => simp [intOf]; omega
      · obtain rfl : i = C.length := by omega
        have gi : ¬ (C.length : Int) < (C.length : Int) := by omega
        have HN2 : Hid (NmR wr w3.heap.size k (fun v => (f v : Int))) := fun j hj => by have := HN.out j hj; rw [arV_end HDV.out hj] at this; exact this
        have ht2 : t = k := by rw [HT.out, cnt_end]; exact HTO.out
        subst ht2
        clear HN HT
        generalize wr = wa at *
        go_wp2_with fail
        have HBk := Lib.hid (fun W (h : Below w3.heap.size w3 W) => sc_two HB3.out h)
        go_loopw [11] (fun q wr => ∃ a : Nat, a ≤ t ∧ q = .int .i64 (a : Int) ∧ Hid (NmR wr w3.heap.size t (fun v => (f v : Int))) ∧ Hid (Below w3.heap.size w3 wr)) (fun q _ => t - (intOf q).toNat)
        case atStart => exact ⟨0, Nat.zero_le _, rfl, HN2, HB⟩
        case round =>
          clear HN2 HB
          obtain ⟨a, ha, rfl, HN, HB⟩ := hrel
          by_cases hal : a < t
          · have ga : (a : Int) < (t : Int) := by omega
            have ga0 : (0 : Int) ≤ (a : Int) := by omega
            go_wp2_with fail
            go_loopw [12] (fun q wr => ∃ b : Nat, b ≤ t ∧ q = .int .i64 (b : Int) ∧ Hid (NmR wr w3.heap.size t (fun v => (f v : Int))) ∧ Hid (Below w3.heap.size w3 wr)) (fun q _ => t - (intOf q).toNat)
            case atStart => exact ⟨0, Nat.zero_le _, rfl, HN, HB⟩
            case round =>
              clear HN HB
              obtain ⟨b, hb, rfl, HN, HB⟩ := hrel
              by_cases hbl : b < t
              · have gb : (b : Int) < (t : Int) := by omega
                have gb0 : (0 : Int) ≤ (b : Int) := by omega
                have n0 := (HN.out a hal).1
                have n1 := (HN.out b hbl).1
                have HNW := Lib.hid (fun W (h : Below wr.heap.size wr W) => HN.out.later h)
                have HBB := HB.out
                have hfe := HFE.out a b hal hbl
                clear HN
                have HRW := Lib.hid (fun W (x y : Nat) (h : Below w3.heap.size w3 W) (hx : x < t) (hy : y < t) => HR.out W x y (HBk.out W h) hx hy)
                have hB3 := HB.out
                have hdr : Below wr.heap.size wr wr.drew := sc_drewN (Below.refl _ _) 1
                by_cases hab : a = b
                · subst hab
                  clear hfe
                  go_wp2_with fail
                  go_quiet (fail)
                  go_wp2_with fail
                  go_roundw
                  case rel => exact ⟨a + 1, hbl, by go_num, HNW.out _ (sc_drewN (Below.refl _ _) _), sc_drewN HB.out _⟩
                  case measure => simp [intOf]; omega
                · have t0 := bF (show (a : Int) ≠ (b : Int) by omega)
                  cases h1 : R a b with
                  | false =>
                    have t1 := bF (show (f a : Int) ≠ (f b : Int) from fun e => by
                      rcases hfe.1 (by omega) with h | h
                      · exact hab h
                      · rw [(Sc.eqv_iff.1 h).1] at h1; cases h1)
                    go_wp2_with fail
                    refine wp_region_noPanic ?_
                    refine wp_region_held_drew (S := fun w' => w'.cell? ⟨w3.heap.size, a, none⟩ = some (.int .i64 (f a : Int)) ∧ w'.cell? ⟨w3.heap.size, b, none⟩ = some (.int .i64 (f b : Int)) ∧ Below wr.heap.size wr w') (by kernel_rfl) ⟨n0, n1, hdr⟩ (fun hHeld => ?_)
                    refine wpAnyH_take (i := 0) (oi := opP0) (v := ?_) rfl (by kernel_rfl) (by kernel_rfl) (by kernel_rfl) (fun _ _ _ h => h) (Or.inl ⟨by rfl, ?y1001⟩) (by assumption) ?ry1001
                    case y1001 => intro wz hSw; (try dsimp only at hSw); (try go_split_ands); dsimp only [opP0]; go_simp; (try with_reducible rfl)
                    try simp only [opP0, Act.put, List.setIfInBounds_toArray, List.set_cons_zero, List.set_cons_succ]
                    refine wpAnyH_take (i := 1) (oi := opP1) (v := ?_) rfl (by kernel_rfl) (by kernel_rfl) (by kernel_rfl) (fun _ _ _ h => h) (Or.inl ⟨by rfl, ?y1002⟩) (by assumption) ?ry1002
                    case y1002 => intro wz hSw; (try dsimp only at hSw); (try go_split_ands); dsimp only [opP1]; go_simp; (try with_reducible rfl)
                    try simp only [opP1, Act.put, List.setIfInBounds_toArray, List.set_cons_zero, List.set_cons_succ]
                    refine wpAnyH_take (i := 2) (oi := opP2) (v := ?_) rfl (by kernel_rfl) (by kernel_rfl) (by kernel_rfl) (fun _ _ _ h => h) (Or.inl ⟨by rfl, ?y1003⟩) (by assumption) ?ry1003
                    case y1003 => intro wz hSw; (try dsimp only at hSw); (try go_split_ands); dsimp only [opP2]; go_simp; (try with_reducible rfl)
                    try simp only [opP2, Act.put, List.setIfInBounds_toArray, List.set_cons_zero, List.set_cons_succ]
                    refine wpAnyH_take (i := 3) (oi := opP3) (v := ?_) rfl (by kernel_rfl) (by kernel_rfl) (by kernel_rfl) (fun _ _ _ h => h) (Or.inl ⟨by rfl, ?y1004⟩) (by assumption) ?ry1004
                    case y1004 => intro wz hSw; (try dsimp only at hSw); (try go_split_ands); dsimp only [opP3]; go_simp; (try with_reducible rfl)
                    try simp only [opP3, Act.put, List.setIfInBounds_toArray, List.set_cons_zero, List.set_cons_succ]
                    refine wpAnyH_take (i := 4) (oi := opP4) (v := ?_) rfl (by kernel_rfl) (by kernel_rfl) (by kernel_rfl) (fun _ _ _ h => h) (Or.inl ⟨by rfl, ?y1005⟩) (by assumption) ?ry1005
                    case y1005 => intro wz hSw; (try dsimp only at hSw); (try go_split_ands); dsimp only [opP4]; go_simp; (try with_reducible rfl)
                    try simp only [opP4, Act.put, List.setIfInBounds_toArray, List.set_cons_zero, List.set_cons_succ]
                    refine wpAnyH_take (i := 5) (oi := opP5) (v := ?_) rfl (by kernel_rfl) (by kernel_rfl) (by kernel_rfl) (fun _ _ _ h => h) (Or.inl ⟨by rfl, ?y1006⟩) (by assumption) ?ry1006
                    case y1006 => intro wz hSw; (try dsimp only at hSw); (try go_split_ands); dsimp only [opP5]; go_simp; (try with_reducible rfl)
                    try simp only [opP5, Act.put, List.setIfInBounds_toArray, List.set_cons_zero, List.set_cons_succ]
                    refine wpAnyH_take (i := 6) (oi := opP6) (v := ?_) rfl (by kernel_rfl) (by kernel_rfl) (by kernel_rfl) (fun _ _ _ h => h) (Or.inl ⟨by rfl, ?y1007⟩) (by assumption) ?ry1007
                    case y1007 => intro wz hSw; (try dsimp only at hSw); (try go_split_ands); dsimp only [opP6]; go_simp; (try with_reducible rfl)
                    try simp only [opP6, Act.put, List.setIfInBounds_toArray, List.set_cons_zero, List.set_cons_succ]
                    refine wpAnyH_take (i := 7) (oi := opP7) (v := ?_) rfl (by kernel_rfl) (by kernel_rfl) (by kernel_rfl) (fun _ _ _ h => h) (Or.inl ⟨by rfl, ?y1008⟩) (by assumption) ?ry1008
                    case y1008 => intro wz hSw; (try dsimp only at hSw); (try go_split_ands); dsimp only [opP7]; go_simp; (try with_reducible rfl)
                    try simp only [opP7, Act.put, List.setIfInBounds_toArray, List.set_cons_zero, List.set_cons_succ]
                    refine wpAnyH_take (i := 8) (oi := opP8) (v := ?_) rfl (by kernel_rfl) (by kernel_rfl) (by kernel_rfl) (fun _ _ _ h => h) (Or.inl ⟨by rfl, ?y1009⟩) (by assumption) ?ry1009
                    case y1009 => intro wz hSw; (try dsimp only at hSw); (try go_split_ands); dsimp only [opP8]; go_simp; (try with_reducible rfl)
                    try simp only [opP8, Act.put, List.setIfInBounds_toArray, List.set_cons_zero, List.set_cons_succ]
                    refine wpAnyH_take (i := 9) (oi := opP9) (v := ?_) rfl (by kernel_rfl) (by kernel_rfl) (by kernel_rfl) (fun _ _ _ h => h) (Or.inl ⟨by rfl, ?y1010⟩) (by assumption) ?ry1010
                    case y1010 => intro wz hSw; (try dsimp only at hSw); (try go_split_ands); dsimp only [opP9]; go_simp; (try with_reducible rfl)
                    try simp only [opP9, Act.put, List.setIfInBounds_toArray, List.set_cons_zero, List.set_cons_succ]
                    refine wpAnyH_take (i := 10) (oi := opP10) (v := ?_) rfl (by kernel_rfl) (by kernel_rfl) (by kernel_rfl) (fun _ _ _ h => h) (Or.inl ⟨by rfl, ?y1011⟩) (by assumption) ?ry1011
                    case y1011 => intro wz hSw; (try dsimp only at hSw); (try go_split_ands); dsimp only [opP10]; go_simp; (try with_reducible rfl)
                    try simp only [opP10, Act.put, List.setIfInBounds_toArray, List.set_cons_zero, List.set_cons_succ]
                    refine wpAnyH_take (i := 11) (oi := opP11) (v := ?_) rfl (by kernel_rfl) (by kernel_rfl) (by kernel_rfl) (fun _ _ _ h => h) (Or.inl ⟨by rfl, ?y1012⟩) (by assumption) ?ry1012
                    case y1012 => intro wz hSw; (try dsimp only at hSw); (try go_split_ands); dsimp only [opP11]; go_simp; (try with_reducible rfl)
                    try simp only [opP11, Act.put, List.setIfInBounds_toArray, List.set_cons_zero, List.set_cons_succ]
                    refine wpAnyH_take (i := 12) (oi := opP12) (v := ?_) rfl (by kernel_rfl) (by kernel_rfl) (by kernel_rfl) (fun _ _ _ h => h) (Or.inl ⟨by rfl, ?y1013⟩) (by assumption) ?ry1013
                    case y1013 => intro wz hSw; (try dsimp only at hSw); (try go_split_ands); dsimp only [opP12]; go_simp; (try with_reducible rfl)
                    try simp only [opP12, Act.put, List.setIfInBounds_toArray, List.set_cons_zero, List.set_cons_succ]
                    refine wpAnyH_take (i := 13) (oi := opP13) (v := ?_) rfl (by kernel_rfl) (by kernel_rfl) (by kernel_rfl) (fun _ _ _ h => h) (Or.inl ⟨by rfl, ?y1014⟩) (by assumption) ?ry1014
                    case y1014 => intro wz hSw; (try dsimp only at hSw); (try go_split_ands); dsimp only [opP13]; go_simp; (try with_reducible rfl)
                    try simp only [opP13, Act.put, List.setIfInBounds_toArray, List.set_cons_zero, List.set_cons_succ]
                    refine wpAnyH_take (i := 14) (oi := opP14) (v := ?_) rfl (by kernel_rfl) (by kernel_rfl) (by kernel_rfl) (fun _ _ _ h => h) (Or.inl ⟨by rfl, ?y1015⟩) (by assumption) ?ry1015
                    case y1015 => intro wz hSw; (try dsimp only at hSw); (try go_split_ands); dsimp only [opP14]; go_simp; (try with_reducible rfl)
                    try simp only [opP14, Act.put, List.setIfInBounds_toArray, List.set_cons_zero, List.set_cons_succ]
                    refine wpAnyH_take (i := 15) (oi := opP15) (v := ?_) rfl (by kernel_rfl) (by kernel_rfl) (by kernel_rfl) (fun _ _ _ h => h) (Or.inl ⟨by rfl, ?y1016⟩) (by assumption) ?ry1016
                    case y1016 => intro wz hSw; (try dsimp only at hSw); (try go_split_ands); dsimp only [opP15]; go_simp; (try with_reducible rfl)
                    try simp only [opP15, Act.put, List.setIfInBounds_toArray, List.set_cons_zero, List.set_cons_succ]
                    refine wpAnyH_take (i := 16) (oi := opP16) (v := ?_) rfl (by kernel_rfl) (by kernel_rfl) (by kernel_rfl) (fun _ _ _ h => h) (Or.inl ⟨by rfl, ?y1017⟩) (by assumption) ?ry1017
                    case y1017 => intro wz hSw; (try dsimp only at hSw); (try go_split_ands); dsimp only [opP16]; go_simp; (try with_reducible rfl)
                    try simp only [opP16, Act.put, List.setIfInBounds_toArray, List.set_cons_zero, List.set_cons_succ]
                    refine wpAnyH_ready (rs := [17]) (by kernel_rfl) (by simp) ?_
                    refine AllReadyH.cons (o := opP17) rfl (fun K hK => ?_) AllReadyH.nil
                    dsimp only [opP17]; go_simp; go_at_call 20; obtain ⟨s0, s1, s2⟩ := hHeld; refine (HRW.out _ _ _ (hB3.trans (s2.mono hB3.size)) (by assumption) (by assumption)).mono ?_; rintro e w' ⟨rfl, hb⟩; have r0 := cell_later hb s0; have r1 := cell_later hb s1; have r2 := sc_two s2 hb; clear s0 s1 s2 hb; rw [h1]
                    refine hK.out _ _ (⟨by assumption, by assumption, by assumption⟩) (fun hHeld => ?_)
                    clear hK K
                    try simp only [opP17, Act.put, List.setIfInBounds_toArray, List.set_cons_zero, List.set_cons_succ]
                    refine wpAnyH_take (i := 18) (oi := opP18) (v := ?_) rfl (by kernel_rfl) (by kernel_rfl) (by kernel_rfl) (fun _ _ _ h => h) (Or.inl ⟨by rfl, ?y1018⟩) (by assumption) ?ry1018
                    case y1018 => intro wz hSw; (try dsimp only at hSw); (try go_split_ands); dsimp only [opP18]; go_simp; (try with_reducible rfl)
                    try simp only [opP18, Act.put, List.setIfInBounds_toArray, List.set_cons_zero, List.set_cons_succ]
                    refine wpAnyH_take (i := 19) (oi := opP19) (v := undef) rfl (by kernel_rfl) (by kernel_rfl) (by kernel_rfl) (fun _ _ _ h => h) (Or.inr ⟨by rfl, rfl⟩) (by assumption) ?_
                    try simp only [opP19, Act.put, List.setIfInBounds_toArray, List.set_cons_zero, List.set_cons_succ]
                    refine wpAnyH_take (i := 20) (oi := opP20) (v := undef) rfl (by kernel_rfl) (by kernel_rfl) (by kernel_rfl) (fun _ _ _ h => h) (Or.inr ⟨by rfl, rfl⟩) (by assumption) ?_
                    try simp only [opP20, Act.put, List.setIfInBounds_toArray, List.set_cons_zero, List.set_cons_succ]
                    refine wpAnyH_take (i := 21) (oi := opP21) (v := undef) rfl (by kernel_rfl) (by kernel_rfl) (by kernel_rfl) (fun _ _ _ h => h) (Or.inr ⟨by rfl, rfl⟩) (by assumption) ?_
                    try simp only [opP21, Act.put, List.setIfInBounds_toArray, List.set_cons_zero, List.set_cons_succ]
                    refine wpAnyH_take (i := 22) (oi := opP22) (v := undef) rfl (by kernel_rfl) (by kernel_rfl) (by kernel_rfl) (fun _ _ _ h => h) (Or.inr ⟨by rfl, rfl⟩) (by assumption) ?_
                    try simp only [opP22, Act.put, List.setIfInBounds_toArray, List.set_cons_zero, List.set_cons_succ]
                    refine wpAnyH_take (i := 23) (oi := opP23) (v := undef) rfl (by kernel_rfl) (by kernel_rfl) (by kernel_rfl) (fun _ _ _ h => h) (Or.inr ⟨by rfl, rfl⟩) (by assumption) ?_
                    try simp only [opP23, Act.put, List.setIfInBounds_toArray, List.set_cons_zero, List.set_cons_succ]
                    refine wpAnyH_take (i := 24) (oi := opP24) (v := ?_) rfl (by kernel_rfl) (by kernel_rfl) (by kernel_rfl) (fun _ _ _ h => h) (Or.inl ⟨by rfl, ?y1024⟩) (by assumption) ?ry1024
                    case y1024 => intro wz hSw; (try dsimp only at hSw); (try go_split_ands); dsimp only [opP24]; go_simp; (try with_reducible rfl)
                    try simp only [opP24, Act.put, List.setIfInBounds_toArray, List.set_cons_zero, List.set_cons_succ]
                    refine wpAnyH_take (i := 25) (oi := opP25) (v := ?_) rfl (by kernel_rfl) (by kernel_rfl) (by kernel_rfl) (fun _ _ _ h => h) (Or.inl ⟨by rfl, ?y1025⟩) (by assumption) ?ry1025
                    case y1025 => intro wz hSw; (try dsimp only at hSw); (try go_split_ands); dsimp only [opP25]; go_simp; (try with_reducible rfl)
                    try simp only [opP25, Act.put, List.setIfInBounds_toArray, List.set_cons_zero, List.set_cons_succ]
                    refine wpAnyH_take (i := 26) (oi := opP26) (v := ?_) rfl (by kernel_rfl) (by kernel_rfl) (by kernel_rfl) (fun _ _ _ h => h) (Or.inl ⟨by rfl, ?y1026⟩) (by assumption) ?ry1026
                    case y1026 => intro wz hSw; (try dsimp only at hSw); (try go_split_ands); dsimp only [opP26]; go_simp; (try with_reducible rfl)
                    try simp only [opP26, Act.put, List.setIfInBounds_toArray, List.set_cons_zero, List.set_cons_succ]
                    refine wpAnyH_done (by kernel_rfl) ?_ _
                    refine NoPanic.normal ?_
                    go_wp2_with fail
                    go_roundw
                    case rel => exact ⟨b + 1, hbl, by go_num, HNW.out _ hHeld.2.2, HB.out.trans (hHeld.2.2.mono HB.out.size)⟩
                    case measure => simp [intOf]; omega
                  | true =>
                    cases h2 : R b a with
                    | false =>
                      have t1 := bF (show (f a : Int) ≠ (f b : Int) from fun e => by
                        rcases hfe.1 (by omega) with h | h
                        · exact hab h
                        · rw [(Sc.eqv_iff.1 h).2] at h2; cases h2)
                      go_wp2_with fail
                      refine wp_region_noPanic ?_
                      refine wp_region_held_drew (S := fun w' => w'.cell? ⟨w3.heap.size, a, none⟩ = some (.int .i64 (f a : Int)) ∧ w'.cell? ⟨w3.heap.size, b, none⟩ = some (.int .i64 (f b : Int)) ∧ Below wr.heap.size wr w') (by kernel_rfl) ⟨n0, n1, hdr⟩ (fun hHeld => ?_)
                      refine wpAnyH_take (i := 0) (oi := opP0) (v := ?_) rfl (by kernel_rfl) (by kernel_rfl) (by kernel_rfl) (fun _ _ _ h => h) (Or.inl ⟨by rfl, ?y1101⟩) (by assumption) ?ry1101
                      case y1101 => intro wz hSw; (try dsimp only at hSw); (try go_split_ands); dsimp only [opP0]; go_simp; (try with_reducible rfl)
                      try simp only [opP0, Act.put, List.setIfInBounds_toArray, List.set_cons_zero, List.set_cons_succ]
                      refine wpAnyH_take (i := 1) (oi := opP1) (v := ?_) rfl (by kernel_rfl) (by kernel_rfl) (by kernel_rfl) (fun _ _ _ h => h) (Or.inl ⟨by rfl, ?y1102⟩) (by assumption) ?ry1102
                      case y1102 => intro wz hSw; (try dsimp only at hSw); (try go_split_ands); dsimp only [opP1]; go_simp; (try with_reducible rfl)
                      try simp only [opP1, Act.put, List.setIfInBounds_toArray, List.set_cons_zero, List.set_cons_succ]
                      refine wpAnyH_take (i := 2) (oi := opP2) (v := ?_) rfl (by kernel_rfl) (by kernel_rfl) (by kernel_rfl) (fun _ _ _ h => h) (Or.inl ⟨by rfl, ?y1103⟩) (by assumption) ?ry1103
                      case y1103 => intro wz hSw; (try dsimp only at hSw); (try go_split_ands); dsimp only [opP2]; go_simp; (try with_reducible rfl)
                      try simp only [opP2, Act.put, List.setIfInBounds_toArray, List.set_cons_zero, List.set_cons_succ]
                      refine wpAnyH_take (i := 3) (oi := opP3) (v := ?_) rfl (by kernel_rfl) (by kernel_rfl) (by kernel_rfl) (fun _ _ _ h => h) (Or.inl ⟨by rfl, ?y1104⟩) (by assumption) ?ry1104
                      case y1104 => intro wz hSw; (try dsimp only at hSw); (try go_split_ands); dsimp only [opP3]; go_simp; (try with_reducible rfl)
                      try simp only [opP3, Act.put, List.setIfInBounds_toArray, List.set_cons_zero, List.set_cons_succ]
                      refine wpAnyH_take (i := 4) (oi := opP4) (v := ?_) rfl (by kernel_rfl) (by kernel_rfl) (by kernel_rfl) (fun _ _ _ h => h) (Or.inl ⟨by rfl, ?y1105⟩) (by assumption) ?ry1105
                      case y1105 => intro wz hSw; (try dsimp only at hSw); (try go_split_ands); dsimp only [opP4]; go_simp; (try with_reducible rfl)
                      try simp only [opP4, Act.put, List.setIfInBounds_toArray, List.set_cons_zero, List.set_cons_succ]
                      refine wpAnyH_take (i := 5) (oi := opP5) (v := ?_) rfl (by kernel_rfl) (by kernel_rfl) (by kernel_rfl) (fun _ _ _ h => h) (Or.inl ⟨by rfl, ?y1106⟩) (by assumption) ?ry1106
                      case y1106 => intro wz hSw; (try dsimp only at hSw); (try go_split_ands); dsimp only [opP5]; go_simp; (try with_reducible rfl)
                      try simp only [opP5, Act.put, List.setIfInBounds_toArray, List.set_cons_zero, List.set_cons_succ]
                      refine wpAnyH_take (i := 6) (oi := opP6) (v := ?_) rfl (by kernel_rfl) (by kernel_rfl) (by kernel_rfl) (fun _ _ _ h => h) (Or.inl ⟨by rfl, ?y1107⟩) (by assumption) ?ry1107
                      case y1107 => intro wz hSw; (try dsimp only at hSw); (try go_split_ands); dsimp only [opP6]; go_simp; (try with_reducible rfl)
                      try simp only [opP6, Act.put, List.setIfInBounds_toArray, List.set_cons_zero, List.set_cons_succ]
                      refine wpAnyH_take (i := 7) (oi := opP7) (v := ?_) rfl (by kernel_rfl) (by kernel_rfl) (by kernel_rfl) (fun _ _ _ h => h) (Or.inl ⟨by rfl, ?y1108⟩) (by assumption) ?ry1108
                      case y1108 => intro wz hSw; (try dsimp only at hSw); (try go_split_ands); dsimp only [opP7]; go_simp; (try with_reducible rfl)
                      try simp only [opP7, Act.put, List.setIfInBounds_toArray, List.set_cons_zero, List.set_cons_succ]
                      refine wpAnyH_take (i := 8) (oi := opP8) (v := ?_) rfl (by kernel_rfl) (by kernel_rfl) (by kernel_rfl) (fun _ _ _ h => h) (Or.inl ⟨by rfl, ?y1109⟩) (by assumption) ?ry1109
                      case y1109 => intro wz hSw; (try dsimp only at hSw); (try go_split_ands); dsimp only [opP8]; go_simp; (try with_reducible rfl)
                      try simp only [opP8, Act.put, List.setIfInBounds_toArray, List.set_cons_zero, List.set_cons_succ]
                      refine wpAnyH_take (i := 9) (oi := opP9) (v := ?_) rfl (by kernel_rfl) (by kernel_rfl) (by kernel_rfl) (fun _ _ _ h => h) (Or.inl ⟨by rfl, ?y1110⟩) (by assumption) ?ry1110
                      case y1110 => intro wz hSw; (try dsimp only at hSw); (try go_split_ands); dsimp only [opP9]; go_simp; (try with_reducible rfl)
                      try simp only [opP9, Act.put, List.setIfInBounds_toArray, List.set_cons_zero, List.set_cons_succ]
                      refine wpAnyH_take (i := 10) (oi := opP10) (v := ?_) rfl (by kernel_rfl) (by kernel_rfl) (by kernel_rfl) (fun _ _ _ h => h) (Or.inl ⟨by rfl, ?y1111⟩) (by assumption) ?ry1111
                      case y1111 => intro wz hSw; (try dsimp only at hSw); (try go_split_ands); dsimp only [opP10]; go_simp; (try with_reducible rfl)
                      try simp only [opP10, Act.put, List.setIfInBounds_toArray, List.set_cons_zero, List.set_cons_succ]
                      refine wpAnyH_take (i := 11) (oi := opP11) (v := ?_) rfl (by kernel_rfl) (by kernel_rfl) (by kernel_rfl) (fun _ _ _ h => h) (Or.inl ⟨by rfl, ?y1112⟩) (by assumption) ?ry1112
                      case y1112 => intro wz hSw; (try dsimp only at hSw); (try go_split_ands); dsimp only [opP11]; go_simp; (try with_reducible rfl)
                      try simp only [opP11, Act.put, List.setIfInBounds_toArray, List.set_cons_zero, List.set_cons_succ]
                      refine wpAnyH_take (i := 12) (oi := opP12) (v := ?_) rfl (by kernel_rfl) (by kernel_rfl) (by kernel_rfl) (fun _ _ _ h => h) (Or.inl ⟨by rfl, ?y1113⟩) (by assumption) ?ry1113
                      case y1113 => intro wz hSw; (try dsimp only at hSw); (try go_split_ands); dsimp only [opP12]; go_simp; (try with_reducible rfl)
                      try simp only [opP12, Act.put, List.setIfInBounds_toArray, List.set_cons_zero, List.set_cons_succ]
                      refine wpAnyH_take (i := 13) (oi := opP13) (v := ?_) rfl (by kernel_rfl) (by kernel_rfl) (by kernel_rfl) (fun _ _ _ h => h) (Or.inl ⟨by rfl, ?y1114⟩) (by assumption) ?ry1114
                      case y1114 => intro wz hSw; (try dsimp only at hSw); (try go_split_ands); dsimp only [opP13]; go_simp; (try with_reducible rfl)
                      try simp only [opP13, Act.put, List.setIfInBounds_toArray, List.set_cons_zero, List.set_cons_succ]
                      refine wpAnyH_take (i := 14) (oi := opP14) (v := ?_) rfl (by kernel_rfl) (by kernel_rfl) (by kernel_rfl) (fun _ _ _ h => h) (Or.inl ⟨by rfl, ?y1115⟩) (by assumption) ?ry1115
                      case y1115 => intro wz hSw; (try dsimp only at hSw); (try go_split_ands); dsimp only [opP14]; go_simp; (try with_reducible rfl)
                      try simp only [opP14, Act.put, List.setIfInBounds_toArray, List.set_cons_zero, List.set_cons_succ]
                      refine wpAnyH_take (i := 15) (oi := opP15) (v := ?_) rfl (by kernel_rfl) (by kernel_rfl) (by kernel_rfl) (fun _ _ _ h => h) (Or.inl ⟨by rfl, ?y1116⟩) (by assumption) ?ry1116
                      case y1116 => intro wz hSw; (try dsimp only at hSw); (try go_split_ands); dsimp only [opP15]; go_simp; (try with_reducible rfl)
                      try simp only [opP15, Act.put, List.setIfInBounds_toArray, List.set_cons_zero, List.set_cons_succ]
                      refine wpAnyH_take (i := 16) (oi := opP16) (v := ?_) rfl (by kernel_rfl) (by kernel_rfl) (by kernel_rfl) (fun _ _ _ h => h) (Or.inl ⟨by rfl, ?y1117⟩) (by assumption) ?ry1117
                      case y1117 => intro wz hSw; (try dsimp only at hSw); (try go_split_ands); dsimp only [opP16]; go_simp; (try with_reducible rfl)
                      try simp only [opP16, Act.put, List.setIfInBounds_toArray, List.set_cons_zero, List.set_cons_succ]
                      refine wpAnyH_ready (rs := [17]) (by kernel_rfl) (by simp) ?_
                      refine AllReadyH.cons (o := opP17) rfl (fun K hK => ?_) AllReadyH.nil
                      dsimp only [opP17]; go_simp; go_at_call 20; obtain ⟨s0, s1, s2⟩ := hHeld; refine (HRW.out _ _ _ (hB3.trans (s2.mono hB3.size)) (by assumption) (by assumption)).mono ?_; rintro e w' ⟨rfl, hb⟩; have r0 := cell_later hb s0; have r1 := cell_later hb s1; have r2 := sc_two s2 hb; clear s0 s1 s2 hb; rw [h1]
                      refine hK.out _ _ (⟨by assumption, by assumption, by assumption⟩) (fun hHeld => ?_)
                      clear hK K
                      try simp only [opP17, Act.put, List.setIfInBounds_toArray, List.set_cons_zero, List.set_cons_succ]
                      refine wpAnyH_take (i := 18) (oi := opP18) (v := ?_) rfl (by kernel_rfl) (by kernel_rfl) (by kernel_rfl) (fun _ _ _ h => h) (Or.inl ⟨by rfl, ?y1118⟩) (by assumption) ?ry1118
                      case y1118 => intro wz hSw; (try dsimp only at hSw); (try go_split_ands); dsimp only [opP18]; go_simp; (try with_reducible rfl)
                      try simp only [opP18, Act.put, List.setIfInBounds_toArray, List.set_cons_zero, List.set_cons_succ]
                      refine wpAnyH_take (i := 19) (oi := opP19) (v := ?_) rfl (by kernel_rfl) (by kernel_rfl) (by kernel_rfl) (fun _ _ _ h => h) (Or.inl ⟨by rfl, ?y1119⟩) (by assumption) ?ry1119
                      case y1119 => intro wz hSw; (try dsimp only at hSw); (try go_split_ands); dsimp only [opP19]; go_simp; (try with_reducible rfl)
                      try simp only [opP19, Act.put, List.setIfInBounds_toArray, List.set_cons_zero, List.set_cons_succ]
                      refine wpAnyH_take (i := 20) (oi := opP20) (v := ?_) rfl (by kernel_rfl) (by kernel_rfl) (by kernel_rfl) (fun _ _ _ h => h) (Or.inl ⟨by rfl, ?y1120⟩) (by assumption) ?ry1120
                      case y1120 => intro wz hSw; (try dsimp only at hSw); (try go_split_ands); dsimp only [opP20]; go_simp; (try with_reducible rfl)
                      try simp only [opP20, Act.put, List.setIfInBounds_toArray, List.set_cons_zero, List.set_cons_succ]
                      refine wpAnyH_take (i := 21) (oi := opP21) (v := ?_) rfl (by kernel_rfl) (by kernel_rfl) (by kernel_rfl) (fun _ _ _ h => h) (Or.inl ⟨by rfl, ?y1121⟩) (by assumption) ?ry1121
                      case y1121 => intro wz hSw; (try dsimp only at hSw); (try go_split_ands); dsimp only [opP21]; go_simp; (try with_reducible rfl)
                      try simp only [opP21, Act.put, List.setIfInBounds_toArray, List.set_cons_zero, List.set_cons_succ]
                      refine wpAnyH_take (i := 22) (oi := opP22) (v := ?_) rfl (by kernel_rfl) (by kernel_rfl) (by kernel_rfl) (fun _ _ _ h => h) (Or.inl ⟨by rfl, ?y1122⟩) (by assumption) ?ry1122
                      case y1122 => intro wz hSw; (try dsimp only at hSw); (try go_split_ands); dsimp only [opP22]; go_simp; (try with_reducible rfl)
                      try simp only [opP22, Act.put, List.setIfInBounds_toArray, List.set_cons_zero, List.set_cons_succ]
                      refine wpAnyH_ready (rs := [23]) (by kernel_rfl) (by simp) ?_
                      refine AllReadyH.cons (o := opP23) rfl (fun K hK => ?_) AllReadyH.nil
                      dsimp only [opP23]; go_simp; go_at_call 20; obtain ⟨s0, s1, s2⟩ := hHeld; refine (HRW.out _ _ _ (hB3.trans (s2.mono hB3.size)) (by assumption) (by assumption)).mono ?_; rintro e w' ⟨rfl, hb⟩; have r0 := cell_later hb s0; have r1 := cell_later hb s1; have r2 := sc_two s2 hb; clear s0 s1 s2 hb; rw [h2]
                      refine hK.out _ _ (⟨by assumption, by assumption, by assumption⟩) (fun hHeld => ?_)
                      clear hK K
                      try simp only [opP23, Act.put, List.setIfInBounds_toArray, List.set_cons_zero, List.set_cons_succ]
                      refine wpAnyH_take (i := 24) (oi := opP24) (v := ?_) rfl (by kernel_rfl) (by kernel_rfl) (by kernel_rfl) (fun _ _ _ h => h) (Or.inl ⟨by rfl, ?y1123⟩) (by assumption) ?ry1123
                      case y1123 => intro wz hSw; (try dsimp only at hSw); (try go_split_ands); dsimp only [opP24]; go_simp; (try with_reducible rfl)
                      try simp only [opP24, Act.put, List.setIfInBounds_toArray, List.set_cons_zero, List.set_cons_succ]
                      refine wpAnyH_take (i := 25) (oi := opP25) (v := ?_) rfl (by kernel_rfl) (by kernel_rfl) (by kernel_rfl) (fun _ _ _ h => h) (Or.inl ⟨by rfl, ?y1124⟩) (by assumption) ?ry1124
                      case y1124 => intro wz hSw; (try dsimp only at hSw); (try go_split_ands); dsimp only [opP25]; go_simp; (try with_reducible rfl)
                      try simp only [opP25, Act.put, List.setIfInBounds_toArray, List.set_cons_zero, List.set_cons_succ]
                      refine wpAnyH_take (i := 26) (oi := opP26) (v := ?_) rfl (by kernel_rfl) (by kernel_rfl) (by kernel_rfl) (fun _ _ _ h => h) (Or.inl ⟨by rfl, ?y1125⟩) (by assumption) ?ry1125
                      case y1125 => intro wz hSw; (try dsimp only at hSw); (try go_split_ands); dsimp only [opP26]; go_simp; (try with_reducible rfl)
                      try simp only [opP26, Act.put, List.setIfInBounds_toArray, List.set_cons_zero, List.set_cons_succ]
                      refine wpAnyH_done (by kernel_rfl) ?_ _
                      refine NoPanic.normal ?_
                      go_wp2_with fail
                      go_roundw
                      case rel => exact ⟨b + 1, hbl, by go_num, HNW.out _ hHeld.2.2, HB.out.trans (hHeld.2.2.mono HB.out.size)⟩
                      case measure => simp [intOf]; omega
                    | true =>
                      have t1 := bT (show (f a : Int) = (f b : Int) by rw [hfe.2 (.inr (Sc.eqv_iff.2 ⟨h1, h2⟩))])
                      go_wp2_with fail
                      refine wp_region_noPanic ?_
                      refine wp_region_held_drew (S := fun w' => w'.cell? ⟨w3.heap.size, a, none⟩ = some (.int .i64 (f a : Int)) ∧ w'.cell? ⟨w3.heap.size, b, none⟩ = some (.int .i64 (f b : Int)) ∧ Below wr.heap.size wr w') (by kernel_rfl) ⟨n0, n1, hdr⟩ (fun hHeld => ?_)
                      refine wpAnyH_take (i := 0) (oi := opP0) (v := ?_) rfl (by kernel_rfl) (by kernel_rfl) (by kernel_rfl) (fun _ _ _ h => h) (Or.inl ⟨by rfl, ?y1201⟩) (by assumption) ?ry1201
                      case y1201 => intro wz hSw; (try dsimp only at hSw); (try go_split_ands); dsimp only [opP0]; go_simp; (try with_reducible rfl)
                      try simp only [opP0, Act.put, List.setIfInBounds_toArray, List.set_cons_zero, List.set_cons_succ]
                      refine wpAnyH_take (i := 1) (oi := opP1) (v := ?_) rfl (by kernel_rfl) (by kernel_rfl) (by kernel_rfl) (fun _ _ _ h => h) (Or.inl ⟨by rfl, ?y1202⟩) (by assumption) ?ry1202
                      case y1202 => intro wz hSw; (try dsimp only at hSw); (try go_split_ands); dsimp only [opP1]; go_simp; (try with_reducible rfl)
                      try simp only [opP1, Act.put, List.setIfInBounds_toArray, List.set_cons_zero, List.set_cons_succ]
                      refine wpAnyH_take (i := 2) (oi := opP2) (v := ?_) rfl (by kernel_rfl) (by kernel_rfl) (by kernel_rfl) (fun _ _ _ h => h) (Or.inl ⟨by rfl, ?y1203⟩) (by assumption) ?ry1203
                      case y1203 => intro wz hSw; (try dsimp only at hSw); (try go_split_ands); dsimp only [opP2]; go_simp; (try with_reducible rfl)
                      try simp only [opP2, Act.put, List.setIfInBounds_toArray, List.set_cons_zero, List.set_cons_succ]
                      refine wpAnyH_take (i := 3) (oi := opP3) (v := ?_) rfl (by kernel_rfl) (by kernel_rfl) (by kernel_rfl) (fun _ _ _ h => h) (Or.inl ⟨by rfl, ?y1204⟩) (by assumption) ?ry1204
                      case y1204 => intro wz hSw; (try dsimp only at hSw); (try go_split_ands); dsimp only [opP3]; go_simp; (try with_reducible rfl)
                      try simp only [opP3, Act.put, List.setIfInBounds_toArray, List.set_cons_zero, List.set_cons_succ]
                      refine wpAnyH_take (i := 4) (oi := opP4) (v := ?_) rfl (by kernel_rfl) (by kernel_rfl) (by kernel_rfl) (fun _ _ _ h => h) (Or.inl ⟨by rfl, ?y1205⟩) (by assumption) ?ry1205
                      case y1205 => intro wz hSw; (try dsimp only at hSw); (try go_split_ands); dsimp only [opP4]; go_simp; (try with_reducible rfl)
                      try simp only [opP4, Act.put, List.setIfInBounds_toArray, List.set_cons_zero, List.set_cons_succ]
                      refine wpAnyH_take (i := 5) (oi := opP5) (v := ?_) rfl (by kernel_rfl) (by kernel_rfl) (by kernel_rfl) (fun _ _ _ h => h) (Or.inl ⟨by rfl, ?y1206⟩) (by assumption) ?ry1206
                      case y1206 => intro wz hSw; (try dsimp only at hSw); (try go_split_ands); dsimp only [opP5]; go_simp; (try with_reducible rfl)
                      try simp only [opP5, Act.put, List.setIfInBounds_toArray, List.set_cons_zero, List.set_cons_succ]
                      refine wpAnyH_take (i := 6) (oi := opP6) (v := ?_) rfl (by kernel_rfl) (by kernel_rfl) (by kernel_rfl) (fun _ _ _ h => h) (Or.inl ⟨by rfl, ?y1207⟩) (by assumption) ?ry1207
                      case y1207 => intro wz hSw; (try dsimp only at hSw); (try go_split_ands); dsimp only [opP6]; go_simp; (try with_reducible rfl)
                      try simp only [opP6, Act.put, List.setIfInBounds_toArray, List.set_cons_zero, List.set_cons_succ]
                      refine wpAnyH_take (i := 7) (oi := opP7) (v := ?_) rfl (by kernel_rfl) (by kernel_rfl) (by kernel_rfl) (fun _ _ _ h => h) (Or.inl ⟨by rfl, ?y1208⟩) (by assumption) ?ry1208
                      case y1208 => intro wz hSw; (try dsimp only at hSw); (try go_split_ands); dsimp only [opP7]; go_simp; (try with_reducible rfl)
                      try simp only [opP7, Act.put, List.setIfInBounds_toArray, List.set_cons_zero, List.set_cons_succ]
                      refine wpAnyH_take (i := 8) (oi := opP8) (v := ?_) rfl (by kernel_rfl) (by kernel_rfl) (by kernel_rfl) (fun _ _ _ h => h) (Or.inl ⟨by rfl, ?y1209⟩) (by assumption) ?ry1209
                      case y1209 => intro wz hSw; (try dsimp only at hSw); (try go_split_ands); dsimp only [opP8]; go_simp; (try with_reducible rfl)
                      try simp only [opP8, Act.put, List.setIfInBounds_toArray, List.set_cons_zero, List.set_cons_succ]
                      refine wpAnyH_take (i := 9) (oi := opP9) (v := ?_) rfl (by kernel_rfl) (by kernel_rfl) (by kernel_rfl) (fun _ _ _ h => h) (Or.inl ⟨by rfl, ?y1210⟩) (by assumption) ?ry1210
                      case y1210 => intro wz hSw; (try dsimp only at hSw); (try go_split_ands); dsimp only [opP9]; go_simp; (try with_reducible rfl)
                      try simp only [opP9, Act.put, List.setIfInBounds_toArray, List.set_cons_zero, List.set_cons_succ]
                      refine wpAnyH_take (i := 10) (oi := opP10) (v := ?_) rfl (by kernel_rfl) (by kernel_rfl) (by kernel_rfl) (fun _ _ _ h => h) (Or.inl ⟨by rfl, ?y1211⟩) (by assumption) ?ry1211
                      case y1211 => intro wz hSw; (try dsimp only at hSw); (try go_split_ands); dsimp only [opP10]; go_simp; (try with_reducible rfl)
                      try simp only [opP10, Act.put, List.setIfInBounds_toArray, List.set_cons_zero, List.set_cons_succ]
                      refine wpAnyH_take (i := 11) (oi := opP11) (v := ?_) rfl (by kernel_rfl) (by kernel_rfl) (by kernel_rfl) (fun _ _ _ h => h) (Or.inl ⟨by rfl, ?y1212⟩) (by assumption) ?ry1212
                      case y1212 => intro wz hSw; (try dsimp only at hSw); (try go_split_ands); dsimp only [opP11]; go_simp; (try with_reducible rfl)
                      try simp only [opP11, Act.put, List.setIfInBounds_toArray, List.set_cons_zero, List.set_cons_succ]
                      refine wpAnyH_take (i := 12) (oi := opP12) (v := ?_) rfl (by kernel_rfl) (by kernel_rfl) (by kernel_rfl) (fun _ _ _ h => h) (Or.inl ⟨by rfl, ?y1213⟩) (by assumption) ?ry1213
                      case y1213 => intro wz hSw; (try dsimp only at hSw); (try go_split_ands); dsimp only [opP12]; go_simp; (try with_reducible rfl)
                      try simp only [opP12, Act.put, List.setIfInBounds_toArray, List.set_cons_zero, List.set_cons_succ]
                      refine wpAnyH_take (i := 13) (oi := opP13) (v := ?_) rfl (by kernel_rfl) (by kernel_rfl) (by kernel_rfl) (fun _ _ _ h => h) (Or.inl ⟨by rfl, ?y1214⟩) (by assumption) ?ry1214
                      case y1214 => intro wz hSw; (try dsimp only at hSw); (try go_split_ands); dsimp only [opP13]; go_simp; (try with_reducible rfl)
                      try simp only [opP13, Act.put, List.setIfInBounds_toArray, List.set_cons_zero, List.set_cons_succ]
                      refine wpAnyH_take (i := 14) (oi := opP14) (v := ?_) rfl (by kernel_rfl) (by kernel_rfl) (by kernel_rfl) (fun _ _ _ h => h) (Or.inl ⟨by rfl, ?y1215⟩) (by assumption) ?ry1215
                      case y1215 => intro wz hSw; (try dsimp only at hSw); (try go_split_ands); dsimp only [opP14]; go_simp; (try with_reducible rfl)
                      try simp only [opP14, Act.put, List.setIfInBounds_toArray, List.set_cons_zero, List.set_cons_succ]
                      refine wpAnyH_take (i := 15) (oi := opP15) (v := ?_) rfl (by kernel_rfl) (by kernel_rfl) (by kernel_rfl) (fun _ _ _ h => h) (Or.inl ⟨by rfl, ?y1216⟩) (by assumption) ?ry1216
                      case y1216 => intro wz hSw; (try dsimp only at hSw); (try go_split_ands); dsimp only [opP15]; go_simp; (try with_reducible rfl)
                      try simp only [opP15, Act.put, List.setIfInBounds_toArray, List.set_cons_zero, List.set_cons_succ]
                      refine wpAnyH_take (i := 16) (oi := opP16) (v := ?_) rfl (by kernel_rfl) (by kernel_rfl) (by kernel_rfl) (fun _ _ _ h => h) (Or.inl ⟨by rfl, ?y1217⟩) (by assumption) ?ry1217
                      case y1217 => intro wz hSw; (try dsimp only at hSw); (try go_split_ands); dsimp only [opP16]; go_simp; (try with_reducible rfl)
                      try simp only [opP16, Act.put, List.setIfInBounds_toArray, List.set_cons_zero, List.set_cons_succ]
                      refine wpAnyH_ready (rs := [17]) (by kernel_rfl) (by simp) ?_
                      refine AllReadyH.cons (o := opP17) rfl (fun K hK => ?_) AllReadyH.nil
                      dsimp only [opP17]; go_simp; go_at_call 20; obtain ⟨s0, s1, s2⟩ := hHeld; refine (HRW.out _ _ _ (hB3.trans (s2.mono hB3.size)) (by assumption) (by assumption)).mono ?_; rintro e w' ⟨rfl, hb⟩; have r0 := cell_later hb s0; have r1 := cell_later hb s1; have r2 := sc_two s2 hb; clear s0 s1 s2 hb; rw [h1]
                      refine hK.out _ _ (⟨by assumption, by assumption, by assumption⟩) (fun hHeld => ?_)
                      clear hK K
                      try simp only [opP17, Act.put, List.setIfInBounds_toArray, List.set_cons_zero, List.set_cons_succ]
                      refine wpAnyH_take (i := 18) (oi := opP18) (v := ?_) rfl (by kernel_rfl) (by kernel_rfl) (by kernel_rfl) (fun _ _ _ h => h) (Or.inl ⟨by rfl, ?y1218⟩) (by assumption) ?ry1218
                      case y1218 => intro wz hSw; (try dsimp only at hSw); (try go_split_ands); dsimp only [opP18]; go_simp; (try with_reducible rfl)
                      try simp only [opP18, Act.put, List.setIfInBounds_toArray, List.set_cons_zero, List.set_cons_succ]
                      refine wpAnyH_take (i := 19) (oi := opP19) (v := ?_) rfl (by kernel_rfl) (by kernel_rfl) (by kernel_rfl) (fun _ _ _ h => h) (Or.inl ⟨by rfl, ?y1219⟩) (by assumption) ?ry1219
                      case y1219 => intro wz hSw; (try dsimp only at hSw); (try go_split_ands); dsimp only [opP19]; go_simp; (try with_reducible rfl)
                      try simp only [opP19, Act.put, List.setIfInBounds_toArray, List.set_cons_zero, List.set_cons_succ]
                      refine wpAnyH_take (i := 20) (oi := opP20) (v := ?_) rfl (by kernel_rfl) (by kernel_rfl) (by kernel_rfl) (fun _ _ _ h => h) (Or.inl ⟨by rfl, ?y1220⟩) (by assumption) ?ry1220
                      case y1220 => intro wz hSw; (try dsimp only at hSw); (try go_split_ands); dsimp only [opP20]; go_simp; (try with_reducible rfl)
                      try simp only [opP20, Act.put, List.setIfInBounds_toArray, List.set_cons_zero, List.set_cons_succ]
                      refine wpAnyH_take (i := 21) (oi := opP21) (v := ?_) rfl (by kernel_rfl) (by kernel_rfl) (by kernel_rfl) (fun _ _ _ h => h) (Or.inl ⟨by rfl, ?y1221⟩) (by assumption) ?ry1221
                      case y1221 => intro wz hSw; (try dsimp only at hSw); (try go_split_ands); dsimp only [opP21]; go_simp; (try with_reducible rfl)
                      try simp only [opP21, Act.put, List.setIfInBounds_toArray, List.set_cons_zero, List.set_cons_succ]
                      refine wpAnyH_take (i := 22) (oi := opP22) (v := ?_) rfl (by kernel_rfl) (by kernel_rfl) (by kernel_rfl) (fun _ _ _ h => h) (Or.inl ⟨by rfl, ?y1222⟩) (by assumption) ?ry1222
                      case y1222 => intro wz hSw; (try dsimp only at hSw); (try go_split_ands); dsimp only [opP22]; go_simp; (try with_reducible rfl)
                      try simp only [opP22, Act.put, List.setIfInBounds_toArray, List.set_cons_zero, List.set_cons_succ]
                      refine wpAnyH_ready (rs := [23]) (by kernel_rfl) (by simp) ?_
                      refine AllReadyH.cons (o := opP23) rfl (fun K hK => ?_) AllReadyH.nil
                      dsimp only [opP23]; go_simp; go_at_call 20; obtain ⟨s0, s1, s2⟩ := hHeld; refine (HRW.out _ _ _ (hB3.trans (s2.mono hB3.size)) (by assumption) (by assumption)).mono ?_; rintro e w' ⟨rfl, hb⟩; have r0 := cell_later hb s0; have r1 := cell_later hb s1; have r2 := sc_two s2 hb; clear s0 s1 s2 hb; rw [h2]
                      refine hK.out _ _ (⟨by assumption, by assumption, by assumption⟩) (fun hHeld => ?_)
                      clear hK K
                      try simp only [opP23, Act.put, List.setIfInBounds_toArray, List.set_cons_zero, List.set_cons_succ]
                      refine wpAnyH_take (i := 24) (oi := opP24) (v := ?_) rfl (by kernel_rfl) (by kernel_rfl) (by kernel_rfl) (fun _ _ _ h => h) (Or.inl ⟨by rfl, ?y1223⟩) (by assumption) ?ry1223
                      case y1223 => intro wz hSw; (try dsimp only at hSw); (try go_split_ands); dsimp only [opP24]; go_simp; (try with_reducible rfl)
                      try simp only [opP24, Act.put, List.setIfInBounds_toArray, List.set_cons_zero, List.set_cons_succ]
                      refine wpAnyH_take (i := 25) (oi := opP25) (v := ?_) rfl (by kernel_rfl) (by kernel_rfl) (by kernel_rfl) (fun _ _ _ h => h) (Or.inl ⟨by rfl, ?y1224⟩) (by assumption) ?ry1224
                      case y1224 => intro wz hSw; (try dsimp only at hSw); (try go_split_ands); dsimp only [opP25]; go_simp; (try with_reducible rfl)
                      try simp only [opP25, Act.put, List.setIfInBounds_toArray, List.set_cons_zero, List.set_cons_succ]
                      refine wpAnyH_take (i := 26) (oi := opP26) (v := ?_) rfl (by kernel_rfl) (by kernel_rfl) (by kernel_rfl) (fun _ _ _ h => h) (Or.inl ⟨by rfl, ?y1225⟩) (by assumption) ?ry1225
                      case y1225 => intro wz hSw; (try dsimp only at hSw); (try go_split_ands); dsimp only [opP26]; go_simp; (try with_reducible rfl)
                      try simp only [opP26, Act.put, List.setIfInBounds_toArray, List.set_cons_zero, List.set_cons_succ]
                      refine wpAnyH_done (by kernel_rfl) ?_ _
                      refine NoPanic.normal ?_
                      go_wp2_with fail
                      go_roundw
                      case rel => exact ⟨b + 1, hbl, by go_num, HNW.out _ hHeld.2.2, HB.out.trans (hHeld.2.2.mono HB.out.size)⟩
                      case measure => simp [intOf]; omega
              · obtain rfl : b = t := by omega
                have gb : ¬ (b : Int) < (b : Int) := by omega
                go_wp2_with fail
                go_roundw
                case rel => exact ⟨a + 1, hal, by go_num, HN.out, HB.out⟩
                case measure => simp [intOf]; omega
          · obtain rfl : a = t := by omega
            have ga : ¬ (a : Int) < (a : Int) := by omega
            have t0 := bT (rfl : (a : Int) = (a : Int))
            have HBF := Lib.hid (sc_two HB0.out (sc_two HB3.out HB.out))
            go_wp2_with fail
            refine (awake21_any _ (HT.out.later HBF.out)).mono ?_
            rintro e w9 ⟨rfl, hb9⟩
            have HB9 := Lib.hid (sc_two HBF.out hb9)
            clear hb9
            go_wp2_with fail
            go_ret
            exact ⟨rfl, HB9.out⟩
  · refine (HP.out _ (by omega)).mono ?_
    rintro e w2 ⟨A2, c2, rfl, hx, hb⟩
    clear h
    have HPW := Lib.hid (fun W (h : Below w2.heap.size w2 W) => hx.later h)
    have HTZ := Lib.hid (fun W (h : Below w2.heap.size w2 W) => (HT.out.later hb).later h)
    have HB0 := Lib.hid hb
    have HC := Lib.hid (sccComponents_any w2 (k : Int) A2 P c2 (HTZ.out _ (Below.refl _ _)) (HPW.out _ (Below.refl _ _)) (by omega))
    have HR := Lib.hid (fun W (x y : Nat) (h : Below w2.heap.size w2 W) (hx : x < k) (hy : y < k) => (sccReaches_any W (k : Int) (x : Int) (y : Int) A2 P c2 (HTZ.out W h) (HPW.out W h) (by omega)).mono (R' := fun e w' => e = .returned (.bool (Sc.rch k P x y)) ∧ Below W.heap.size W w') fun _ _ h => by rw [reV_yes (by omega) hx hy] at h; exact h)
    rw [clV_in (by omega)] at HC
    have hlc := comp_len (Sc.rch k P) k
    have HTO := Lib.hid (Sc.comp_total (Sc.rch_eqv k P) k)
    obtain ⟨f, hfl, hfm, hfe⟩ := Sc.comp_idx (Sc.rch_eqv k P) k
    have HDV : Hid (DivBy k f (Sc.compV (Sc.rch k P) k)) := ⟨hfl, hfm⟩
    have HFE := Lib.hid hfe
    have HC14 : Hid (∀ i (hi : i < (Sc.compV (Sc.rch k P) k).length), (Sc.compV (Sc.rch k P) k)[i].length ≤ 14) := fun i hi => by
      obtain ⟨a, -, -, e⟩ := comp_at hi
      rw [e]
      have := cls_len (Sc.rch k P) a k
      omega
    have exl : (toI (Sc.compV (Sc.rch k P) k)).length = (Sc.compV (Sc.rch k P) k).length := List.length_map _
    clear hx hb hfl hfm hfe HS HP
    go_wp2_with fail
    refine HC.out.mono ?_
    rintro e w3 ⟨A3, c3, rfl, hx, hb⟩
    rw [exl]
    have HXW := Lib.hid (fun W (h : Below w3.heap.size w3 W) => hx.later h)
    have HB3 := Lib.hid hb
    clear hx hb HC exl
    generalize Sc.compV (Sc.rch k P) k = C at *
    generalize Sc.rch k P = R at *
    go_wp2_with (refine wpList_make_nums _ rfl _ _ rfl k rfl rfl (by omega) _ rfl ?_; intro w4 hN4 hB4 hs4)
    have HN : Hid (NmR w4 w3.heap.size k (arV f C 0 0)) := by show NmR _ _ _ _; rw [arV_start]; exact hN4
    have HB4 := Lib.hid hB4
    clear hN4 hB4 hs4
    go_wp2_with fail
    go_loopw [8, 9] (fun p q wr => ∃ i t : Nat, i ≤ C.length ∧ t ≤ 12 ∧ q = .int .i64 (i : Int) ∧ p = .int .i64 (t : Int) ∧ Hid (t = cnt C i) ∧ Hid (NmR wr w3.heap.size k (arV f C i 0)) ∧ Hid (Below w3.heap.size w3 wr)) (fun _ q _ => C.length - (intOf q).toNat)
    case atStart => exact ⟨0, 0, Nat.zero_le _, Nat.zero_le _, rfl, rfl, rfl, HN, HB4⟩
    case round =>
      clear HN HB4
      obtain ⟨i, t, hi, ht, rfl, rfl, HT, HN, HB⟩ := hrel
      by_cases hil : i < C.length
      · have gi : (i : Int) < (C.length : Int) := by omega
        have gi0 : (0 : Int) ≤ (i : Int) := by omega
        obtain ⟨b6, off6, -, -, rfl, -⟩ := li_get (HXW.out wr HB.out) i hil
        have hc14 := HC14.out i hil
        have HCI := Lib.hid (fun W (h : Below w3.heap.size w3 W) => li_got (HXW.out W h) i hil)
        have HPUT := Lib.hid (fun m (hm : m < C[i].length) => arV_put HDV.out hil hm)
        have HROW := Lib.hid (fun x (hx : x < k) => arV_row HDV.out hx hil)
        have HCL := Lib.hid (cnt_succ hil)
        have HCM := Lib.hid (cnt_le C (i + 1))
        have HLT := Lib.hid (fun m (hm : m < C[i].length) => ((HDV.out.mem _ i hil).1 (List.getElem_mem hm)).1)
        generalize hci : C[i] = ci at *
        clear hci
        rw [HTO.out] at HCM
        generalize wr = wo at *
        go_wp2_with fail
        go_loopw [8, 10] (fun p q wr => ∃ m t : Nat, m ≤ ci.length ∧ t ≤ 12 ∧ q = .int .i64 (m : Int) ∧ p = .int .i64 (t : Int) ∧ Hid (t = cnt C i + m) ∧ Hid (NmR wr w3.heap.size k (arV f C i m)) ∧ Hid (Below w3.heap.size w3 wr)) (fun _ q _ => ci.length - (intOf q).toNat)
        case atStart => exact ⟨0, t, Nat.zero_le _, ht, rfl, rfl, HT, HN, HB⟩
        case round =>
          clear HT HN HB ht
          obtain ⟨m, t2, hm2, ht, rfl, rfl, HT, HN, HB⟩ := hrel
          obtain ⟨Ai, cc, c0, cx⟩ := HCI.out wr HB.out
          by_cases hml : m < ci.length
          · have gm : (m : Int) < (ci.length : Int) := by omega
            have gm0 : (0 : Int) ≤ (m : Int) := by omega
            obtain ⟨b2, off2, rfl, c1⟩ := cx m hml
            have hv := HLT.out m hml
            have HP2 := Lib.hid (HPUT.out m hml)
            generalize ci[m] = v at *
            have gv : (v : Int) < (k : Int) := by omega
            have gv0 : (0 : Int) ≤ (v : Int) := by omega
            have gv1 : ¬ (v : Int) < 0 := by omega
            have gv2 : ¬ (k : Int) ≤ (v : Int) := by omega
            obtain ⟨n0, nf⟩ := HN.out v hv
            have HN2 : Hid (NmR (wr.setCell ⟨w3.heap.size, v, none⟩ (.int .i64 (i : Int))) w3.heap.size k (arV f C i (m + 1))) := HN.out.put _ fun j _ => HP2.out j
            have HB2 : Hid (Below w3.heap.size w3 (wr.setCell ⟨w3.heap.size, v, none⟩ (.int .i64 (i : Int)))) := HB.out.setCell (Nat.le_refl _) _
            have HT2 : Hid (t2 + 1 = cnt C i + (m + 1)) := by show _ = _; rw [HT.out]; rfl
            have ht2 : t2 + 1 ≤ 12 := by have h1 := HT.out; have h2 := HCL.out; have h3 := HCM.out; omega
            clear HT HN HB cx HP2
            go_wp2_with fail
            go_roundw
            case rel => exact ⟨m + 1, t2 + 1, hml, ht2, by go_num, by go_num, HT2.out, HN2.out, HB2.out⟩
            case measure => simp [intOf]; omega
          · obtain rfl : m = ci.length := by omega
            have gm : ¬ (ci.length : Int) < (ci.length : Int) := by omega
            have HN2 : Hid (NmR wr w3.heap.size k (arV f C (i + 1) 0)) := fun j hj => by rw [HROW.out j hj]; exact HN.out j hj
            have HT2 : Hid (t2 = cnt C (i + 1)) := HT.out.trans HCL.out.symm
            go_wp2_with fail
            go_roundw
            case rel => exact ⟨i + 1, t2, hil, ht, by go_num, rfl, HT2.out, HN2.out, HB.out⟩
            case measure => simp [intOf]; omega
      · obtain rfl : i = C.length := by omega
        have gi : ¬ (C.length : Int) < (C.length : Int) := by omega
        have HN2 : Hid (NmR wr w3.heap.size k (fun v => (f v : Int))) := fun j hj => by have := HN.out j hj; rw [arV_end HDV.out hj] at this; exact this
        have ht2 : t = k := by rw [HT.out, cnt_end]; exact HTO.out
        subst ht2
        clear HN HT
        generalize wr = wa at *
        go_wp2_with fail
        have HBk := Lib.hid (fun W (h : Below w3.heap.size w3 W) => sc_two HB3.out h)
        go_loopw [11] (fun q wr => ∃ a : Nat, a ≤ t ∧ q = .int .i64 (a : Int) ∧ Hid (NmR wr w3.heap.size t (fun v => (f v : Int))) ∧ Hid (Below w3.heap.size w3 wr)) (fun q _ => t - (intOf q).toNat)
        case atStart => exact ⟨0, Nat.zero_le _, rfl, HN2, HB⟩
        case round =>
          clear HN2 HB
          obtain ⟨a, ha, rfl, HN, HB⟩ := hrel
          by_cases hal : a < t
          · have ga : (a : Int) < (t : Int) := by omega
            have ga0 : (0 : Int) ≤ (a : Int) := by omega
            go_wp2_with fail
            go_loopw [12] (fun q wr => ∃ b : Nat, b ≤ t ∧ q = .int .i64 (b : Int) ∧ Hid (NmR wr w3.heap.size t (fun v => (f v : Int))) ∧ Hid (Below w3.heap.size w3 wr)) (fun q _ => t - (intOf q).toNat)
            case atStart => exact ⟨0, Nat.zero_le _, rfl, HN, HB⟩
            case round =>
              clear HN HB
              obtain ⟨b, hb, rfl, HN, HB⟩ := hrel
              by_cases hbl : b < t
              · have gb : (b : Int) < (t : Int) := by omega
                have gb0 : (0 : Int) ≤ (b : Int) := by omega
                have n0 := (HN.out a hal).1
                have n1 := (HN.out b hbl).1
                have HNW := Lib.hid (fun W (h : Below wr.heap.size wr W) => HN.out.later h)
                have HBB := HB.out
                have hfe := HFE.out a b hal hbl
                clear HN
                have HRW := Lib.hid (fun W (x y : Nat) (h : Below w3.heap.size w3 W) (hx : x < t) (hy : y < t) => HR.out W x y (HBk.out W h) hx hy)
                have hB3 := HB.out
                have hdr : Below wr.heap.size wr wr.drew := sc_drewN (Below.refl _ _) 1
                by_cases hab : a = b
                · subst hab
                  clear hfe
                  go_wp2_with fail
                  go_quiet (fail)
                  go_wp2_with fail
                  go_roundw
                  case rel => exact ⟨a + 1, hbl, by go_num, HNW.out _ (sc_drewN (Below.refl _ _) _), sc_drewN HB.out _⟩
                  case measure => simp [intOf]; omega
                · have t0 := bF (show (a : Int) ≠ (b : Int) by omega)
                  cases h1 : R a b with
                  | false =>
                    have t1 := bF (show (f a : Int) ≠ (f b : Int) from fun e => by
                      rcases hfe.1 (by omega) with h | h
                      · exact hab h
                      · rw [(Sc.eqv_iff.1 h).1] at h1; cases h1)
                    go_wp2_with fail
                    refine wp_region_noPanic ?_
                    refine wp_region_held_drew (S := fun w' => w'.cell? ⟨w3.heap.size, a, none⟩ = some (.int .i64 (f a : Int)) ∧ w'.cell? ⟨w3.heap.size, b, none⟩ = some (.int .i64 (f b : Int)) ∧ Below wr.heap.size wr w') (by kernel_rfl) ⟨n0, n1, hdr⟩ (fun hHeld => ?_)
                    refine wpAnyH_take (i := 0) (oi := opP0) (v := ?_) rfl (by kernel_rfl) (by kernel_rfl) (by kernel_rfl) (fun _ _ _ h => h) (Or.inl ⟨by rfl, ?y2001⟩) (by assumption) ?ry2001
                    case y2001 => intro wz hSw; (try dsimp only at hSw); (try go_split_ands); dsimp only [opP0]; go_simp; (try with_reducible rfl)
                    try simp only [opP0, Act.put, List.setIfInBounds_toArray, List.set_cons_zero, List.set_cons_succ]
                    refine wpAnyH_take (i := 1) (oi := opP1) (v := ?_) rfl (by kernel_rfl) (by kernel_rfl) (by kernel_rfl) (fun _ _ _ h => h) (Or.inl ⟨by rfl, ?y2002⟩) (by assumption) ?ry2002
                    case y2002 => intro wz hSw; (try dsimp only at hSw); (try go_split_ands); dsimp only [opP1]; go_simp; (try with_reducible rfl)
                    try simp only [opP1, Act.put, List.setIfInBounds_toArray, List.set_cons_zero, List.set_cons_succ]
                    refine wpAnyH_take (i := 2) (oi := opP2) (v := ?_) rfl (by kernel_rfl) (by kernel_rfl) (by kernel_rfl) (fun _ _ _ h => h) (Or.inl ⟨by rfl, ?y2003⟩) (by assumption) ?ry2003
                    case y2003 => intro wz hSw; (try dsimp only at hSw); (try go_split_ands); dsimp only [opP2]; go_simp; (try with_reducible rfl)
                    try simp only [opP2, Act.put, List.setIfInBounds_toArray, List.set_cons_zero, List.set_cons_succ]
                    refine wpAnyH_take (i := 3) (oi := opP3) (v := ?_) rfl (by kernel_rfl) (by kernel_rfl) (by kernel_rfl) (fun _ _ _ h => h) (Or.inl ⟨by rfl, ?y2004⟩) (by assumption) ?ry2004
                    case y2004 => intro wz hSw; (try dsimp only at hSw); (try go_split_ands); dsimp only [opP3]; go_simp; (try with_reducible rfl)
                    try simp only [opP3, Act.put, List.setIfInBounds_toArray, List.set_cons_zero, List.set_cons_succ]
                    refine wpAnyH_take (i := 4) (oi := opP4) (v := ?_) rfl (by kernel_rfl) (by kernel_rfl) (by kernel_rfl) (fun _ _ _ h => h) (Or.inl ⟨by rfl, ?y2005⟩) (by assumption) ?ry2005
                    case y2005 => intro wz hSw; (try dsimp only at hSw); (try go_split_ands); dsimp only [opP4]; go_simp; (try with_reducible rfl)
                    try simp only [opP4, Act.put, List.setIfInBounds_toArray, List.set_cons_zero, List.set_cons_succ]
                    refine wpAnyH_take (i := 5) (oi := opP5) (v := ?_) rfl (by kernel_rfl) (by kernel_rfl) (by kernel_rfl) (fun _ _ _ h => h) (Or.inl ⟨by rfl, ?y2006⟩) (by assumption) ?ry2006
                    case y2006 => intro wz hSw; (try dsimp only at hSw); (try go_split_ands); dsimp only [opP5]; go_simp; (try with_reducible rfl)
                    try simp only [opP5, Act.put, List.setIfInBounds_toArray, List.set_cons_zero, List.set_cons_succ]
                    refine wpAnyH_take (i := 6) (oi := opP6) (v := ?_) rfl (by kernel_rfl) (by kernel_rfl) (by kernel_rfl) (fun _ _ _ h => h) (Or.inl ⟨by rfl, ?y2007⟩) (by assumption) ?ry2007
                    case y2007 => intro wz hSw; (try dsimp only at hSw); (try go_split_ands); dsimp only [opP6]; go_simp; (try with_reducible rfl)
                    try simp only [opP6, Act.put, List.setIfInBounds_toArray, List.set_cons_zero, List.set_cons_succ]
                    refine wpAnyH_take (i := 7) (oi := opP7) (v := ?_) rfl (by kernel_rfl) (by kernel_rfl) (by kernel_rfl) (fun _ _ _ h => h) (Or.inl ⟨by rfl, ?y2008⟩) (by assumption) ?ry2008
                    case y2008 => intro wz hSw; (try dsimp only at hSw); (try go_split_ands); dsimp only [opP7]; go_simp; (try with_reducible rfl)
                    try simp only [opP7, Act.put, List.setIfInBounds_toArray, List.set_cons_zero, List.set_cons_succ]
                    refine wpAnyH_take (i := 8) (oi := opP8) (v := ?_) rfl (by kernel_rfl) (by kernel_rfl) (by kernel_rfl) (fun _ _ _ h => h) (Or.inl ⟨by rfl, ?y2009⟩) (by assumption) ?ry2009
                    case y2009 => intro wz hSw; (try dsimp only at hSw); (try go_split_ands); dsimp only [opP8]; go_simp; (try with_reducible rfl)
                    try simp only [opP8, Act.put, List.setIfInBounds_toArray, List.set_cons_zero, List.set_cons_succ]
                    refine wpAnyH_take (i := 9) (oi := opP9) (v := ?_) rfl (by kernel_rfl) (by kernel_rfl) (by kernel_rfl) (fun _ _ _ h => h) (Or.inl ⟨by rfl, ?y2010⟩) (by assumption) ?ry2010
                    case y2010 => intro wz hSw; (try dsimp only at hSw); (try go_split_ands); dsimp only [opP9]; go_simp; (try with_reducible rfl)
                    try simp only [opP9, Act.put, List.setIfInBounds_toArray, List.set_cons_zero, List.set_cons_succ]
                    refine wpAnyH_take (i := 10) (oi := opP10) (v := ?_) rfl (by kernel_rfl) (by kernel_rfl) (by kernel_rfl) (fun _ _ _ h => h) (Or.inl ⟨by rfl, ?y2011⟩) (by assumption) ?ry2011
                    case y2011 => intro wz hSw; (try dsimp only at hSw); (try go_split_ands); dsimp only [opP10]; go_simp; (try with_reducible rfl)
                    try simp only [opP10, Act.put, List.setIfInBounds_toArray, List.set_cons_zero, List.set_cons_succ]
                    refine wpAnyH_take (i := 11) (oi := opP11) (v := ?_) rfl (by kernel_rfl) (by kernel_rfl) (by kernel_rfl) (fun _ _ _ h => h) (Or.inl ⟨by rfl, ?y2012⟩) (by assumption) ?ry2012
                    case y2012 => intro wz hSw; (try dsimp only at hSw); (try go_split_ands); dsimp only [opP11]; go_simp; (try with_reducible rfl)
                    try simp only [opP11, Act.put, List.setIfInBounds_toArray, List.set_cons_zero, List.set_cons_succ]
                    refine wpAnyH_take (i := 12) (oi := opP12) (v := ?_) rfl (by kernel_rfl) (by kernel_rfl) (by kernel_rfl) (fun _ _ _ h => h) (Or.inl ⟨by rfl, ?y2013⟩) (by assumption) ?ry2013
                    case y2013 => intro wz hSw; (try dsimp only at hSw); (try go_split_ands); dsimp only [opP12]; go_simp; (try with_reducible rfl)
                    try simp only [opP12, Act.put, List.setIfInBounds_toArray, List.set_cons_zero, List.set_cons_succ]
                    refine wpAnyH_take (i := 13) (oi := opP13) (v := ?_) rfl (by kernel_rfl) (by kernel_rfl) (by kernel_rfl) (fun _ _ _ h => h) (Or.inl ⟨by rfl, ?y2014⟩) (by assumption) ?ry2014
                    case y2014 => intro wz hSw; (try dsimp only at hSw); (try go_split_ands); dsimp only [opP13]; go_simp; (try with_reducible rfl)
                    try simp only [opP13, Act.put, List.setIfInBounds_toArray, List.set_cons_zero, List.set_cons_succ]
                    refine wpAnyH_take (i := 14) (oi := opP14) (v := ?_) rfl (by kernel_rfl) (by kernel_rfl) (by kernel_rfl) (fun _ _ _ h => h) (Or.inl ⟨by rfl, ?y2015⟩) (by assumption) ?ry2015
                    case y2015 => intro wz hSw; (try dsimp only at hSw); (try go_split_ands); dsimp only [opP14]; go_simp; (try with_reducible rfl)
                    try simp only [opP14, Act.put, List.setIfInBounds_toArray, List.set_cons_zero, List.set_cons_succ]
                    refine wpAnyH_take (i := 15) (oi := opP15) (v := ?_) rfl (by kernel_rfl) (by kernel_rfl) (by kernel_rfl) (fun _ _ _ h => h) (Or.inl ⟨by rfl, ?y2016⟩) (by assumption) ?ry2016
                    case y2016 => intro wz hSw; (try dsimp only at hSw); (try go_split_ands); dsimp only [opP15]; go_simp; (try with_reducible rfl)
                    try simp only [opP15, Act.put, List.setIfInBounds_toArray, List.set_cons_zero, List.set_cons_succ]
                    refine wpAnyH_take (i := 16) (oi := opP16) (v := ?_) rfl (by kernel_rfl) (by kernel_rfl) (by kernel_rfl) (fun _ _ _ h => h) (Or.inl ⟨by rfl, ?y2017⟩) (by assumption) ?ry2017
                    case y2017 => intro wz hSw; (try dsimp only at hSw); (try go_split_ands); dsimp only [opP16]; go_simp; (try with_reducible rfl)
                    try simp only [opP16, Act.put, List.setIfInBounds_toArray, List.set_cons_zero, List.set_cons_succ]
                    refine wpAnyH_ready (rs := [17]) (by kernel_rfl) (by simp) ?_
                    refine AllReadyH.cons (o := opP17) rfl (fun K hK => ?_) AllReadyH.nil
                    dsimp only [opP17]; go_simp; go_at_call 20; obtain ⟨s0, s1, s2⟩ := hHeld; refine (HRW.out _ _ _ (hB3.trans (s2.mono hB3.size)) (by assumption) (by assumption)).mono ?_; rintro e w' ⟨rfl, hb⟩; have r0 := cell_later hb s0; have r1 := cell_later hb s1; have r2 := sc_two s2 hb; clear s0 s1 s2 hb; rw [h1]
                    refine hK.out _ _ (⟨by assumption, by assumption, by assumption⟩) (fun hHeld => ?_)
                    clear hK K
                    try simp only [opP17, Act.put, List.setIfInBounds_toArray, List.set_cons_zero, List.set_cons_succ]
                    refine wpAnyH_take (i := 18) (oi := opP18) (v := ?_) rfl (by kernel_rfl) (by kernel_rfl) (by kernel_rfl) (fun _ _ _ h => h) (Or.inl ⟨by rfl, ?y2018⟩) (by assumption) ?ry2018
                    case y2018 => intro wz hSw; (try dsimp only at hSw); (try go_split_ands); dsimp only [opP18]; go_simp; (try with_reducible rfl)
                    try simp only [opP18, Act.put, List.setIfInBounds_toArray, List.set_cons_zero, List.set_cons_succ]
                    refine wpAnyH_take (i := 19) (oi := opP19) (v := undef) rfl (by kernel_rfl) (by kernel_rfl) (by kernel_rfl) (fun _ _ _ h => h) (Or.inr ⟨by rfl, rfl⟩) (by assumption) ?_
                    try simp only [opP19, Act.put, List.setIfInBounds_toArray, List.set_cons_zero, List.set_cons_succ]
                    refine wpAnyH_take (i := 20) (oi := opP20) (v := undef) rfl (by kernel_rfl) (by kernel_rfl) (by kernel_rfl) (fun _ _ _ h => h) (Or.inr ⟨by rfl, rfl⟩) (by assumption) ?_
                    try simp only [opP20, Act.put, List.setIfInBounds_toArray, List.set_cons_zero, List.set_cons_succ]
                    refine wpAnyH_take (i := 21) (oi := opP21) (v := undef) rfl (by kernel_rfl) (by kernel_rfl) (by kernel_rfl) (fun _ _ _ h => h) (Or.inr ⟨by rfl, rfl⟩) (by assumption) ?_
                    try simp only [opP21, Act.put, List.setIfInBounds_toArray, List.set_cons_zero, List.set_cons_succ]
                    refine wpAnyH_take (i := 22) (oi := opP22) (v := undef) rfl (by kernel_rfl) (by kernel_rfl) (by kernel_rfl) (fun _ _ _ h => h) (Or.inr ⟨by rfl, rfl⟩) (by assumption) ?_
                    try simp only [opP22, Act.put, List.setIfInBounds_toArray, List.set_cons_zero, List.set_cons_succ]
                    refine wpAnyH_take (i := 23) (oi := opP23) (v := undef) rfl (by kernel_rfl) (by kernel_rfl) (by kernel_rfl) (fun _ _ _ h => h) (Or.inr ⟨by rfl, rfl⟩) (by assumption) ?_
                    try simp only [opP23, Act.put, List.setIfInBounds_toArray, List.set_cons_zero, List.set_cons_succ]
                    refine wpAnyH_take (i := 24) (oi := opP24) (v := ?_) rfl (by kernel_rfl) (by kernel_rfl) (by kernel_rfl) (fun _ _ _ h => h) (Or.inl ⟨by rfl, ?y2024⟩) (by assumption) ?ry2024
                    case y2024 => intro wz hSw; (try dsimp only at hSw); (try go_split_ands); dsimp only [opP24]; go_simp; (try with_reducible rfl)
                    try simp only [opP24, Act.put, List.setIfInBounds_toArray, List.set_cons_zero, List.set_cons_succ]
                    refine wpAnyH_take (i := 25) (oi := opP25) (v := ?_) rfl (by kernel_rfl) (by kernel_rfl) (by kernel_rfl) (fun _ _ _ h => h) (Or.inl ⟨by rfl, ?y2025⟩) (by assumption) ?ry2025
                    case y2025 => intro wz hSw; (try dsimp only at hSw); (try go_split_ands); dsimp only [opP25]; go_simp; (try with_reducible rfl)
                    try simp only [opP25, Act.put, List.setIfInBounds_toArray, List.set_cons_zero, List.set_cons_succ]
                    refine wpAnyH_take (i := 26) (oi := opP26) (v := ?_) rfl (by kernel_rfl) (by kernel_rfl) (by kernel_rfl) (fun _ _ _ h => h) (Or.inl ⟨by rfl, ?y2026⟩) (by assumption) ?ry2026
                    case y2026 => intro wz hSw; (try dsimp only at hSw); (try go_split_ands); dsimp only [opP26]; go_simp; (try with_reducible rfl)
                    try simp only [opP26, Act.put, List.setIfInBounds_toArray, List.set_cons_zero, List.set_cons_succ]
                    refine wpAnyH_done (by kernel_rfl) ?_ _
                    refine NoPanic.normal ?_
                    go_wp2_with fail
                    go_roundw
                    case rel => exact ⟨b + 1, hbl, by go_num, HNW.out _ hHeld.2.2, HB.out.trans (hHeld.2.2.mono HB.out.size)⟩
                    case measure => simp [intOf]; omega
                  | true =>
                    cases h2 : R b a with
                    | false =>
                      have t1 := bF (show (f a : Int) ≠ (f b : Int) from fun e => by
                        rcases hfe.1 (by omega) with h | h
                        · exact hab h
                        · rw [(Sc.eqv_iff.1 h).2] at h2; cases h2)
                      go_wp2_with fail
                      refine wp_region_noPanic ?_
                      refine wp_region_held_drew (S := fun w' => w'.cell? ⟨w3.heap.size, a, none⟩ = some (.int .i64 (f a : Int)) ∧ w'.cell? ⟨w3.heap.size, b, none⟩ = some (.int .i64 (f b : Int)) ∧ Below wr.heap.size wr w') (by kernel_rfl) ⟨n0, n1, hdr⟩ (fun hHeld => ?_)
                      refine wpAnyH_take (i := 0) (oi := opP0) (v := ?_) rfl (by kernel_rfl) (by kernel_rfl) (by kernel_rfl) (fun _ _ _ h => h) (Or.inl ⟨by rfl, ?y2101⟩) (by assumption) ?ry2101
                      case y2101 => intro wz hSw; (try dsimp only at hSw); (try go_split_ands); dsimp only [opP0]; go_simp; (try with_reducible rfl)
                      try simp only [opP0, Act.put, List.setIfInBounds_toArray, List.set_cons_zero, List.set_cons_succ]
                      refine wpAnyH_take (i := 1) (oi := opP1) (v := ?_) rfl (by kernel_rfl) (by kernel_rfl) (by kernel_rfl) (fun _ _ _ h => h) (Or.inl ⟨by rfl, ?y2102⟩) (by assumption) ?ry2102
                      case y2102 => intro wz hSw; (try dsimp only at hSw); (try go_split_ands); dsimp only [opP1]; go_simp; (try with_reducible rfl)
                      try simp only [opP1, Act.put, List.setIfInBounds_toArray, List.set_cons_zero, List.set_cons_succ]
                      refine wpAnyH_take (i := 2) (oi := opP2) (v := ?_) rfl (by kernel_rfl) (by kernel_rfl) (by kernel_rfl) (fun _ _ _ h => h) (Or.inl ⟨by rfl, ?y2103⟩) (by assumption) ?ry2103
                      case y2103 => intro wz hSw; (try dsimp only at hSw); (try go_split_ands); dsimp only [opP2]; go_simp; (try with_reducible rfl)
                      try simp only [opP2, Act.put, List.setIfInBounds_toArray, List.set_cons_zero, List.set_cons_succ]
                      refine wpAnyH_take (i := 3) (oi := opP3) (v := ?_) rfl (by kernel_rfl) (by kernel_rfl) (by kernel_rfl) (fun _ _ _ h => h) (Or.inl ⟨by rfl, ?y2104⟩) (by assumption) ?ry2104
                      case y2104 => intro wz hSw; (try dsimp only at hSw); (try go_split_ands); dsimp only [opP3]; go_simp; (try with_reducible rfl)
                      try simp only [opP3, Act.put, List.setIfInBounds_toArray, List.set_cons_zero, List.set_cons_succ]
                      refine wpAnyH_take (i := 4) (oi := opP4) (v := ?_) rfl (by kernel_rfl) (by kernel_rfl) (by kernel_rfl) (fun _ _ _ h => h) (Or.inl ⟨by rfl, ?y2105⟩) (by assumption) ?ry2105
                      case y2105 => intro wz hSw; (try dsimp only at hSw); (try go_split_ands); dsimp only [opP4]; go_simp; (try with_reducible rfl)
                      try simp only [opP4, Act.put, List.setIfInBounds_toArray, List.set_cons_zero, List.set_cons_succ]
                      refine wpAnyH_take (i := 5) (oi := opP5) (v := ?_) rfl (by kernel_rfl) (by kernel_rfl) (by kernel_rfl) (fun _ _ _ h => h) (Or.inl ⟨by rfl, ?y2106⟩) (by assumption) ?ry2106
                      case y2106 => intro wz hSw; (try dsimp only at hSw); (try go_split_ands); dsimp only [opP5]; go_simp; (try with_reducible rfl)
                      try simp only [opP5, Act.put, List.setIfInBounds_toArray, List.set_cons_zero, List.set_cons_succ]
                      refine wpAnyH_take (i := 6) (oi := opP6) (v := ?_) rfl (by kernel_rfl) (by kernel_rfl) (by kernel_rfl) (fun _ _ _ h => h) (Or.inl ⟨by rfl, ?y2107⟩) (by assumption) ?ry2107
                      case y2107 => intro wz hSw; (try dsimp only at hSw); (try go_split_ands); dsimp only [opP6]; go_simp; (try with_reducible rfl)
                      try simp only [opP6, Act.put, List.setIfInBounds_toArray, List.set_cons_zero, List.set_cons_succ]
                      refine wpAnyH_take (i := 7) (oi := opP7) (v := ?_) rfl (by kernel_rfl) (by kernel_rfl) (by kernel_rfl) (fun _ _ _ h => h) (Or.inl ⟨by rfl, ?y2108⟩) (by assumption) ?ry2108
                      case y2108 => intro wz hSw; (try dsimp only at hSw); (try go_split_ands); dsimp only [opP7]; go_simp; (try with_reducible rfl)
                      try simp only [opP7, Act.put, List.setIfInBounds_toArray, List.set_cons_zero, List.set_cons_succ]
                      refine wpAnyH_take (i := 8) (oi := opP8) (v := ?_) rfl (by kernel_rfl) (by kernel_rfl) (by kernel_rfl) (fun _ _ _ h => h) (Or.inl ⟨by rfl, ?y2109⟩) (by assumption) ?ry2109
                      case y2109 => intro wz hSw; (try dsimp only at hSw); (try go_split_ands); dsimp only [opP8]; go_simp; (try with_reducible rfl)
                      try simp only [opP8, Act.put, List.setIfInBounds_toArray, List.set_cons_zero, List.set_cons_succ]
                      refine wpAnyH_take (i := 9) (oi := opP9) (v := ?_) rfl (by kernel_rfl) (by kernel_rfl) (by kernel_rfl) (fun _ _ _ h => h) (Or.inl ⟨by rfl, ?y2110⟩) (by assumption) ?ry2110
                      case y2110 => intro wz hSw; (try dsimp only at hSw); (try go_split_ands); dsimp only [opP9]; go_simp; (try with_reducible rfl)
                      try simp only [opP9, Act.put, List.setIfInBounds_toArray, List.set_cons_zero, List.set_cons_succ]
                      refine wpAnyH_take (i := 10) (oi := opP10) (v := ?_) rfl (by kernel_rfl) (by kernel_rfl) (by kernel_rfl) (fun _ _ _ h => h) (Or.inl ⟨by rfl, ?y2111⟩) (by assumption) ?ry2111
                      case y2111 => intro wz hSw; (try dsimp only at hSw); (try go_split_ands); dsimp only [opP10]; go_simp; (try with_reducible rfl)
                      try simp only [opP10, Act.put, List.setIfInBounds_toArray, List.set_cons_zero, List.set_cons_succ]
                      refine wpAnyH_take (i := 11) (oi := opP11) (v := ?_) rfl (by kernel_rfl) (by kernel_rfl) (by kernel_rfl) (fun _ _ _ h => h) (Or.inl ⟨by rfl, ?y2112⟩) (by assumption) ?ry2112
                      case y2112 => intro wz hSw; (try dsimp only at hSw); (try go_split_ands); dsimp only [opP11]; go_simp; (try with_reducible rfl)
                      try simp only [opP11, Act.put, List.setIfInBounds_toArray, List.set_cons_zero, List.set_cons_succ]
                      refine wpAnyH_take (i := 12) (oi := opP12) (v := ?_) rfl (by kernel_rfl) (by kernel_rfl) (by kernel_rfl) (fun _ _ _ h => h) (Or.inl ⟨by rfl, ?y2113⟩) (by assumption) ?ry2113
                      case y2113 => intro wz hSw; (try dsimp only at hSw); (try go_split_ands); dsimp only [opP12]; go_simp; (try with_reducible rfl)
                      try simp only [opP12, Act.put, List.setIfInBounds_toArray, List.set_cons_zero, List.set_cons_succ]
                      refine wpAnyH_take (i := 13) (oi := opP13) (v := ?_) rfl (by kernel_rfl) (by kernel_rfl) (by kernel_rfl) (fun _ _ _ h => h) (Or.inl ⟨by rfl, ?y2114⟩) (by assumption) ?ry2114
                      case y2114 => intro wz hSw; (try dsimp only at hSw); (try go_split_ands); dsimp only [opP13]; go_simp; (try with_reducible rfl)
                      try simp only [opP13, Act.put, List.setIfInBounds_toArray, List.set_cons_zero, List.set_cons_succ]
                      refine wpAnyH_take (i := 14) (oi := opP14) (v := ?_) rfl (by kernel_rfl) (by kernel_rfl) (by kernel_rfl) (fun _ _ _ h => h) (Or.inl ⟨by rfl, ?y2115⟩) (by assumption) ?ry2115
                      case y2115 => intro wz hSw; (try dsimp only at hSw); (try go_split_ands); dsimp only [opP14]; go_simp; (try with_reducible rfl)
                      try simp only [opP14, Act.put, List.setIfInBounds_toArray, List.set_cons_zero, List.set_cons_succ]
                      refine wpAnyH_take (i := 15) (oi := opP15) (v := ?_) rfl (by kernel_rfl) (by kernel_rfl) (by kernel_rfl) (fun _ _ _ h => h) (Or.inl ⟨by rfl, ?y2116⟩) (by assumption) ?ry2116
                      case y2116 => intro wz hSw; (try dsimp only at hSw); (try go_split_ands); dsimp only [opP15]; go_simp; (try with_reducible rfl)
                      try simp only [opP15, Act.put, List.setIfInBounds_toArray, List.set_cons_zero, List.set_cons_succ]
                      refine wpAnyH_take (i := 16) (oi := opP16) (v := ?_) rfl (by kernel_rfl) (by kernel_rfl) (by kernel_rfl) (fun _ _ _ h => h) (Or.inl ⟨by rfl, ?y2117⟩) (by assumption) ?ry2117
                      case y2117 => intro wz hSw; (try dsimp only at hSw); (try go_split_ands); dsimp only [opP16]; go_simp; (try with_reducible rfl)
                      try simp only [opP16, Act.put, List.setIfInBounds_toArray, List.set_cons_zero, List.set_cons_succ]
                      refine wpAnyH_ready (rs := [17]) (by kernel_rfl) (by simp) ?_
                      refine AllReadyH.cons (o := opP17) rfl (fun K hK => ?_) AllReadyH.nil
                      dsimp only [opP17]; go_simp; go_at_call 20; obtain ⟨s0, s1, s2⟩ := hHeld; refine (HRW.out _ _ _ (hB3.trans (s2.mono hB3.size)) (by assumption) (by assumption)).mono ?_; rintro e w' ⟨rfl, hb⟩; have r0 := cell_later hb s0; have r1 := cell_later hb s1; have r2 := sc_two s2 hb; clear s0 s1 s2 hb; rw [h1]
                      refine hK.out _ _ (⟨by assumption, by assumption, by assumption⟩) (fun hHeld => ?_)
                      clear hK K
                      try simp only [opP17, Act.put, List.setIfInBounds_toArray, List.set_cons_zero, List.set_cons_succ]
                      refine wpAnyH_take (i := 18) (oi := opP18) (v := ?_) rfl (by kernel_rfl) (by kernel_rfl) (by kernel_rfl) (fun _ _ _ h => h) (Or.inl ⟨by rfl, ?y2118⟩) (by assumption) ?ry2118
                      case y2118 => intro wz hSw; (try dsimp only at hSw); (try go_split_ands); dsimp only [opP18]; go_simp; (try with_reducible rfl)
                      try simp only [opP18, Act.put, List.setIfInBounds_toArray, List.set_cons_zero, List.set_cons_succ]
                      refine wpAnyH_take (i := 19) (oi := opP19) (v := ?_) rfl (by kernel_rfl) (by kernel_rfl) (by kernel_rfl) (fun _ _ _ h => h) (Or.inl ⟨by rfl, ?y2119⟩) (by assumption) ?ry2119
                      case y2119 => intro wz hSw; (try dsimp only at hSw); (try go_split_ands); dsimp only [opP19]; go_simp; (try with_reducible rfl)
                      try simp only [opP19, Act.put, List.setIfInBounds_toArray, List.set_cons_zero, List.set_cons_succ]
                      refine wpAnyH_take (i := 20) (oi := opP20) (v := ?_) rfl (by kernel_rfl) (by kernel_rfl) (by kernel_rfl) (fun _ _ _ h => h) (Or.inl ⟨by rfl, ?y2120⟩) (by assumption) ?ry2120
                      case y2120 => intro wz hSw; (try dsimp only at hSw); (try go_split_ands); dsimp only [opP20]; go_simp; (try with_reducible rfl)
                      try simp only [opP20, Act.put, List.setIfInBounds_toArray, List.set_cons_zero, List.set_cons_succ]
                      refine wpAnyH_take (i := 21) (oi := opP21) (v := ?_) rfl (by kernel_rfl) (by kernel_rfl) (by kernel_rfl) (fun _ _ _ h => h) (Or.inl ⟨by rfl, ?y2121⟩) (by assumption) ?ry2121
                      case y2121 => intro wz hSw; (try dsimp only at hSw); (try go_split_ands); dsimp only [opP21]; go_simp; (try with_reducible rfl)
                      try simp only [opP21, Act.put, List.setIfInBounds_toArray, List.set_cons_zero, List.set_cons_succ]
                      refine wpAnyH_take (i := 22) (oi := opP22) (v := ?_) rfl (by kernel_rfl) (by kernel_rfl) (by kernel_rfl) (fun _ _ _ h => h) (Or.inl ⟨by rfl, ?y2122⟩) (by assumption) ?ry2122
                      case y2122 => intro wz hSw; (try dsimp only at hSw); (try go_split_ands); dsimp only [opP22]; go_simp; (try with_reducible rfl)
                      try simp only [opP22, Act.put, List.setIfInBounds_toArray, List.set_cons_zero, List.set_cons_succ]
                      refine wpAnyH_ready (rs := [23]) (by kernel_rfl) (by simp) ?_
                      refine AllReadyH.cons (o := opP23) rfl (fun K hK => ?_) AllReadyH.nil
                      dsimp only [opP23]; go_simp; go_at_call 20; obtain ⟨s0, s1, s2⟩ := hHeld; refine (HRW.out _ _ _ (hB3.trans (s2.mono hB3.size)) (by assumption) (by assumption)).mono ?_; rintro e w' ⟨rfl, hb⟩; have r0 := cell_later hb s0; have r1 := cell_later hb s1; have r2 := sc_two s2 hb; clear s0 s1 s2 hb; rw [h2]
                      refine hK.out _ _ (⟨by assumption, by assumption, by assumption⟩) (fun hHeld => ?_)
                      clear hK K
                      try simp only [opP23, Act.put, List.setIfInBounds_toArray, List.set_cons_zero, List.set_cons_succ]
                      refine wpAnyH_take (i := 24) (oi := opP24) (v := ?_) rfl (by kernel_rfl) (by kernel_rfl) (by kernel_rfl) (fun _ _ _ h => h) (Or.inl ⟨by rfl, ?y2123⟩) (by assumption) ?ry2123
                      case y2123 => intro wz hSw; (try dsimp only at hSw); (try go_split_ands); dsimp only [opP24]; go_simp; (try with_reducible rfl)
                      try simp only [opP24, Act.put, List.setIfInBounds_toArray, List.set_cons_zero, List.set_cons_succ]
                      refine wpAnyH_take (i := 25) (oi := opP25) (v := ?_) rfl (by kernel_rfl) (by kernel_rfl) (by kernel_rfl) (fun _ _ _ h => h) (Or.inl ⟨by rfl, ?y2124⟩) (by assumption) ?ry2124
                      case y2124 => intro wz hSw; (try dsimp only at hSw); (try go_split_ands); dsimp only [opP25]; go_simp; (try with_reducible rfl)
                      try simp only [opP25, Act.put, List.setIfInBounds_toArray, List.set_cons_zero, List.set_cons_succ]
                      refine wpAnyH_take (i := 26) (oi := opP26) (v := ?_) rfl (by kernel_rfl) (by kernel_rfl) (by kernel_rfl) (fun _ _ _ h => h) (Or.inl ⟨by rfl, ?y2125⟩) (by assumption) ?ry2125
                      case y2125 => intro wz hSw; (try dsimp only at hSw); (try go_split_ands); dsimp only [opP26]; go_simp; (try with_reducible rfl)
                      try simp only [opP26, Act.put, List.setIfInBounds_toArray, List.set_cons_zero, List.set_cons_succ]
                      refine wpAnyH_done (by kernel_rfl) ?_ _
                      refine NoPanic.normal ?_
                      go_wp2_with fail
                      go_roundw
                      case rel => exact ⟨b + 1, hbl, by go_num, HNW.out _ hHeld.2.2, HB.out.trans (hHeld.2.2.mono HB.out.size)⟩
                      case measure => simp [intOf]; omega
                    | true =>
                      have t1 := bT (show (f a : Int) = (f b : Int) by rw [hfe.2 (.inr (Sc.eqv_iff.2 ⟨h1, h2⟩))])
                      go_wp2_with fail
                      refine wp_region_noPanic ?_
                      refine wp_region_held_drew (S := fun w' => w'.cell? ⟨w3.heap.size, a, none⟩ = some (.int .i64 (f a : Int)) ∧ w'.cell? ⟨w3.heap.size, b, none⟩ = some (.int .i64 (f b : Int)) ∧ Below wr.heap.size wr w') (by kernel_rfl) ⟨n0, n1, hdr⟩ (fun hHeld => ?_)
                      refine wpAnyH_take (i := 0) (oi := opP0) (v := ?_) rfl (by kernel_rfl) (by kernel_rfl) (by kernel_rfl) (fun _ _ _ h => h) (Or.inl ⟨by rfl, ?y2201⟩) (by assumption) ?ry2201
                      case y2201 => intro wz hSw; (try dsimp only at hSw); (try go_split_ands); dsimp only [opP0]; go_simp; (try with_reducible rfl)
                      try simp only [opP0, Act.put, List.setIfInBounds_toArray, List.set_cons_zero, List.set_cons_succ]
                      refine wpAnyH_take (i := 1) (oi := opP1) (v := ?_) rfl (by kernel_rfl) (by kernel_rfl) (by kernel_rfl) (fun _ _ _ h => h) (Or.inl ⟨by rfl, ?y2202⟩) (by assumption) ?ry2202
                      case y2202 => intro wz hSw; (try dsimp only at hSw); (try go_split_ands); dsimp only [opP1]; go_simp; (try with_reducible rfl)
                      try simp only [opP1, Act.put, List.setIfInBounds_toArray, List.set_cons_zero, List.set_cons_succ]
                      refine wpAnyH_take (i := 2) (oi := opP2) (v := ?_) rfl (by kernel_rfl) (by kernel_rfl) (by kernel_rfl) (fun _ _ _ h => h) (Or.inl ⟨by rfl, ?y2203⟩) (by assumption) ?ry2203
                      case y2203 => intro wz hSw; (try dsimp only at hSw); (try go_split_ands); dsimp only [opP2]; go_simp; (try with_reducible rfl)
                      try simp only [opP2, Act.put, List.setIfInBounds_toArray, List.set_cons_zero, List.set_cons_succ]
                      refine wpAnyH_take (i := 3) (oi := opP3) (v := ?_) rfl (by kernel_rfl) (by kernel_rfl) (by kernel_rfl) (fun _ _ _ h => h) (Or.inl ⟨by rfl, ?y2204⟩) (by assumption) ?ry2204
                      case y2204 => intro wz hSw; (try dsimp only at hSw); (try go_split_ands); dsimp only [opP3]; go_simp; (try with_reducible rfl)
                      try simp only [opP3, Act.put, List.setIfInBounds_toArray, List.set_cons_zero, List.set_cons_succ]
                      refine wpAnyH_take (i := 4) (oi := opP4) (v := ?_) rfl (by kernel_rfl) (by kernel_rfl) (by kernel_rfl) (fun _ _ _ h => h) (Or.inl ⟨by rfl, ?y2205⟩) (by assumption) ?ry2205
                      case y2205 => intro wz hSw; (try dsimp only at hSw); (try go_split_ands); dsimp only [opP4]; go_simp; (try with_reducible rfl)
                      try simp only [opP4, Act.put, List.setIfInBounds_toArray, List.set_cons_zero, List.set_cons_succ]
                      refine wpAnyH_take (i := 5) (oi := opP5) (v := ?_) rfl (by kernel_rfl) (by kernel_rfl) (by kernel_rfl) (fun _ _ _ h => h) (Or.inl ⟨by rfl, ?y2206⟩) (by assumption) ?ry2206
                      case y2206 => intro wz hSw; (try dsimp only at hSw); (try go_split_ands); dsimp only [opP5]; go_simp; (try with_reducible rfl)
                      try simp only [opP5, Act.put, List.setIfInBounds_toArray, List.set_cons_zero, List.set_cons_succ]
                      refine wpAnyH_take (i := 6) (oi := opP6) (v := ?_) rfl (by kernel_rfl) (by kernel_rfl) (by kernel_rfl) (fun _ _ _ h => h) (Or.inl ⟨by rfl, ?y2207⟩) (by assumption) ?ry2207
                      case y2207 => intro wz hSw; (try dsimp only at hSw); (try go_split_ands); dsimp only [opP6]; go_simp; (try with_reducible rfl)
                      try simp only [opP6, Act.put, List.setIfInBounds_toArray, List.set_cons_zero, List.set_cons_succ]
                      refine wpAnyH_take (i := 7) (oi := opP7) (v := ?_) rfl (by kernel_rfl) (by kernel_rfl) (by kernel_rfl) (fun _ _ _ h => h) (Or.inl ⟨by rfl, ?y2208⟩) (by assumption) ?ry2208
                      case y2208 => intro wz hSw; (try dsimp only at hSw); (try go_split_ands); dsimp only [opP7]; go_simp; (try with_reducible rfl)
                      try simp only [opP7, Act.put, List.setIfInBounds_toArray, List.set_cons_zero, List.set_cons_succ]
                      refine wpAnyH_take (i := 8) (oi := opP8) (v := ?_) rfl (by kernel_rfl) (by kernel_rfl) (by kernel_rfl) (fun _ _ _ h => h) (Or.inl ⟨by rfl, ?y2209⟩) (by assumption) ?ry2209
                      case y2209 => intro wz hSw; (try dsimp only at hSw); (try go_split_ands); dsimp only [opP8]; go_simp; (try with_reducible rfl)
                      try simp only [opP8, Act.put, List.setIfInBounds_toArray, List.set_cons_zero, List.set_cons_succ]
                      refine wpAnyH_take (i := 9) (oi := opP9) (v := ?_) rfl (by kernel_rfl) (by kernel_rfl) (by kernel_rfl) (fun _ _ _ h => h) (Or.inl ⟨by rfl, ?y2210⟩) (by assumption) ?ry2210
                      case y2210 => intro wz hSw; (try dsimp only at hSw); (try go_split_ands); dsimp only [opP9]; go_simp; (try with_reducible rfl)
                      try simp only [opP9, Act.put, List.setIfInBounds_toArray, List.set_cons_zero, List.set_cons_succ]
                      refine wpAnyH_take (i := 10) (oi := opP10) (v := ?_) rfl (by kernel_rfl) (by kernel_rfl) (by kernel_rfl) (fun _ _ _ h => h) (Or.inl ⟨by rfl, ?y2211⟩) (by assumption) ?ry2211
                      case y2211 => intro wz hSw; (try dsimp only at hSw); (try go_split_ands); dsimp only [opP10]; go_simp; (try with_reducible rfl)
                      try simp only [opP10, Act.put, List.setIfInBounds_toArray, List.set_cons_zero, List.set_cons_succ]
                      refine wpAnyH_take (i := 11) (oi := opP11) (v := ?_) rfl (by kernel_rfl) (by kernel_rfl) (by kernel_rfl) (fun _ _ _ h => h) (Or.inl ⟨by rfl, ?y2212⟩) (by assumption) ?ry2212
                      case y2212 => intro wz hSw; (try dsimp only at hSw); (try go_split_ands); dsimp only [opP11]; go_simp; (try with_reducible rfl)
                      try simp only [opP11, Act.put, List.setIfInBounds_toArray, List.set_cons_zero, List.set_cons_succ]
                      refine wpAnyH_take (i := 12) (oi := opP12) (v := ?_) rfl (by kernel_rfl) (by kernel_rfl) (by kernel_rfl) (fun _ _ _ h => h) (Or.inl ⟨by rfl, ?y2213⟩) (by assumption) ?ry2213
                      case y2213 => intro wz hSw; (try dsimp only at hSw); (try go_split_ands); dsimp only [opP12]; go_simp; (try with_reducible rfl)
                      try simp only [opP12, Act.put, List.setIfInBounds_toArray, List.set_cons_zero, List.set_cons_succ]
                      refine wpAnyH_take (i := 13) (oi := opP13) (v := ?_) rfl (by kernel_rfl) (by kernel_rfl) (by kernel_rfl) (fun _ _ _ h => h) (Or.inl ⟨by rfl, ?y2214⟩) (by assumption) ?ry2214
                      case y2214 => intro wz hSw; (try dsimp only at hSw); (try go_split_ands); dsimp only [opP13]; go_simp; (try with_reducible rfl)
                      try simp only [opP13, Act.put, List.setIfInBounds_toArray, List.set_cons_zero, List.set_cons_succ]
                      refine wpAnyH_take (i := 14) (oi := opP14) (v := ?_) rfl (by kernel_rfl) (by kernel_rfl) (by kernel_rfl) (fun _ _ _ h => h) (Or.inl ⟨by rfl, ?y2215⟩) (by assumption) ?ry2215
                      case y2215 => intro wz hSw; (try dsimp only at hSw); (try go_split_ands); dsimp only [opP14]; go_simp; (try with_reducible rfl)
                      try simp only [opP14, Act.put, List.setIfInBounds_toArray, List.set_cons_zero, List.set_cons_succ]
                      refine wpAnyH_take (i := 15) (oi := opP15) (v := ?_) rfl (by kernel_rfl) (by kernel_rfl) (by kernel_rfl) (fun _ _ _ h => h) (Or.inl ⟨by rfl, ?y2216⟩) (by assumption) ?ry2216
                      case y2216 => intro wz hSw; (try dsimp only at hSw); (try go_split_ands); dsimp only [opP15]; go_simp; (try with_reducible rfl)
                      try simp only [opP15, Act.put, List.setIfInBounds_toArray, List.set_cons_zero, List.set_cons_succ]
                      refine wpAnyH_take (i := 16) (oi := opP16) (v := ?_) rfl (by kernel_rfl) (by kernel_rfl) (by kernel_rfl) (fun _ _ _ h => h) (Or.inl ⟨by rfl, ?y2217⟩) (by assumption) ?ry2217
                      case y2217 => intro wz hSw; (try dsimp only at hSw); (try go_split_ands); dsimp only [opP16]; go_simp; (try with_reducible rfl)
                      try simp only [opP16, Act.put, List.setIfInBounds_toArray, List.set_cons_zero, List.set_cons_succ]
                      refine wpAnyH_ready (rs := [17]) (by kernel_rfl) (by simp) ?_
                      refine AllReadyH.cons (o := opP17) rfl (fun K hK => ?_) AllReadyH.nil
                      dsimp only [opP17]; go_simp; go_at_call 20; obtain ⟨s0, s1, s2⟩ := hHeld; refine (HRW.out _ _ _ (hB3.trans (s2.mono hB3.size)) (by assumption) (by assumption)).mono ?_; rintro e w' ⟨rfl, hb⟩; have r0 := cell_later hb s0; have r1 := cell_later hb s1; have r2 := sc_two s2 hb; clear s0 s1 s2 hb; rw [h1]
                      refine hK.out _ _ (⟨by assumption, by assumption, by assumption⟩) (fun hHeld => ?_)
                      clear hK K
                      try simp only [opP17, Act.put, List.setIfInBounds_toArray, List.set_cons_zero, List.set_cons_succ]
                      refine wpAnyH_take (i := 18) (oi := opP18) (v := ?_) rfl (by kernel_rfl) (by kernel_rfl) (by kernel_rfl) (fun _ _ _ h => h) (Or.inl ⟨by rfl, ?y2218⟩) (by assumption) ?ry2218
                      case y2218 => intro wz hSw; (try dsimp only at hSw); (try go_split_ands); dsimp only [opP18]; go_simp; (try with_reducible rfl)
                      try simp only [opP18, Act.put, List.setIfInBounds_toArray, List.set_cons_zero, List.set_cons_succ]
                      refine wpAnyH_take (i := 19) (oi := opP19) (v := ?_) rfl (by kernel_rfl) (by kernel_rfl) (by kernel_rfl) (fun _ _ _ h => h) (Or.inl ⟨by rfl, ?y2219⟩) (by assumption) ?ry2219
                      case y2219 => intro wz hSw; (try dsimp only at hSw); (try go_split_ands); dsimp only [opP19]; go_simp; (try with_reducible rfl)
                      try simp only [opP19, Act.put, List.setIfInBounds_toArray, List.set_cons_zero, List.set_cons_succ]
                      refine wpAnyH_take (i := 20) (oi := opP20) (v := ?_) rfl (by kernel_rfl) (by kernel_rfl) (by kernel_rfl) (fun _ _ _ h => h) (Or.inl ⟨by rfl, ?y2220⟩) (by assumption) ?ry2220
                      case y2220 => intro wz hSw; (try dsimp only at hSw); (try go_split_ands); dsimp only [opP20]; go_simp; (try with_reducible rfl)
                      try simp only [opP20, Act.put, List.setIfInBounds_toArray, List.set_cons_zero, List.set_cons_succ]
                      refine wpAnyH_take (i := 21) (oi := opP21) (v := ?_) rfl (by kernel_rfl) (by kernel_rfl) (by kernel_rfl) (fun _ _ _ h => h) (Or.inl ⟨by rfl, ?y2221⟩) (by assumption) ?ry2221
                      case y2221 => intro wz hSw; (try dsimp only at hSw); (try go_split_ands); dsimp only [opP21]; go_simp; (try with_reducible rfl)
                      try simp only [opP21, Act.put, List.setIfInBounds_toArray, List.set_cons_zero, List.set_cons_succ]
                      refine wpAnyH_take (i := 22) (oi := opP22) (v := ?_) rfl (by kernel_rfl) (by kernel_rfl) (by kernel_rfl) (fun _ _ _ h => h) (Or.inl ⟨by rfl, ?y2222⟩) (by assumption) ?ry2222
                      case y2222 => intro wz hSw; (try dsimp only at hSw); (try go_split_ands); dsimp only [opP22]; go_simp; (try with_reducible rfl)
                      try simp only [opP22, Act.put, List.setIfInBounds_toArray, List.set_cons_zero, List.set_cons_succ]
                      refine wpAnyH_ready (rs := [23]) (by kernel_rfl) (by simp) ?_
                      refine AllReadyH.cons (o := opP23) rfl (fun K hK => ?_) AllReadyH.nil
                      dsimp only [opP23]; go_simp; go_at_call 20; obtain ⟨s0, s1, s2⟩ := hHeld; refine (HRW.out _ _ _ (hB3.trans (s2.mono hB3.size)) (by assumption) (by assumption)).mono ?_; rintro e w' ⟨rfl, hb⟩; have r0 := cell_later hb s0; have r1 := cell_later hb s1; have r2 := sc_two s2 hb; clear s0 s1 s2 hb; rw [h2]
                      refine hK.out _ _ (⟨by assumption, by assumption, by assumption⟩) (fun hHeld => ?_)
                      clear hK K
                      try simp only [opP23, Act.put, List.setIfInBounds_toArray, List.set_cons_zero, List.set_cons_succ]
                      refine wpAnyH_take (i := 24) (oi := opP24) (v := ?_) rfl (by kernel_rfl) (by kernel_rfl) (by kernel_rfl) (fun _ _ _ h => h) (Or.inl ⟨by rfl, ?y2223⟩) (by assumption) ?ry2223
                      case y2223 => intro wz hSw; (try dsimp only at hSw); (try go_split_ands); dsimp only [opP24]; go_simp; (try with_reducible rfl)
                      try simp only [opP24, Act.put, List.setIfInBounds_toArray, List.set_cons_zero, List.set_cons_succ]
                      refine wpAnyH_take (i := 25) (oi := opP25) (v := ?_) rfl (by kernel_rfl) (by kernel_rfl) (by kernel_rfl) (fun _ _ _ h => h) (Or.inl ⟨by rfl, ?y2224⟩) (by assumption) ?ry2224
                      case y2224 => intro wz hSw; (try dsimp only at hSw); (try go_split_ands); dsimp only [opP25]; go_simp; (try with_reducible rfl)
                      try simp only [opP25, Act.put, List.setIfInBounds_toArray, List.set_cons_zero, List.set_cons_succ]
                      refine wpAnyH_take (i := 26) (oi := opP26) (v := ?_) rfl (by kernel_rfl) (by kernel_rfl) (by kernel_rfl) (fun _ _ _ h => h) (Or.inl ⟨by rfl, ?y2225⟩) (by assumption) ?ry2225
                      case y2225 => intro wz hSw; (try dsimp only at hSw); (try go_split_ands); dsimp only [opP26]; go_simp; (try with_reducible rfl)
                      try simp only [opP26, Act.put, List.setIfInBounds_toArray, List.set_cons_zero, List.set_cons_succ]
                      refine wpAnyH_done (by kernel_rfl) ?_ _
                      refine NoPanic.normal ?_
                      go_wp2_with fail
                      go_roundw
                      case rel => exact ⟨b + 1, hbl, by go_num, HNW.out _ hHeld.2.2, HB.out.trans (hHeld.2.2.mono HB.out.size)⟩
                      case measure => simp [intOf]; omega
              · obtain rfl : b = t := by omega
                have gb : ¬ (b : Int) < (b : Int) := by omega
                go_wp2_with fail
                go_roundw
                case rel => exact ⟨a + 1, hal, by go_num, HN.out, HB.out⟩
                case measure => simp [intOf]; omega
          · obtain rfl : a = t := by omega
            have ga : ¬ (a : Int) < (a : Int) := by omega
            have t0 := bT (rfl : (a : Int) = (a : Int))
            have HBF := Lib.hid (sc_two HB0.out (sc_two HB3.out HB.out))
            go_wp2_with fail
            refine (awake21_any _ (HT.out.later HBF.out)).mono ?_
            rintro e w9 ⟨rfl, hb9⟩
            have HB9 := Lib.hid (sc_two HBF.out hb9)
            clear hb9
            go_wp2_with fail
            go_ret
            exact ⟨rfl, HB9.out⟩
end Go.Proofs.YtnofcanboaaejaaDoor
