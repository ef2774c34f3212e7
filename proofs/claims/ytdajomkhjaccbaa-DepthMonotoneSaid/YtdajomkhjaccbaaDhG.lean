/- What List does, and what 'awake' of layer 14 returns: true. -/
import Derived.Test.YtdajomkhjaccbaaDhF
namespace Go.Proofs.Ytdajomkhjaccbaa
open Go.RowKit
set_option maxRecDepth 100000

theorem RlO.form {w : World} {B : Nat} {v : Value} {r : List Nat} (h : RlO w B v r) : ∃ A c, v = .slice A r.length c := by
  rcases h.2 with ⟨e, h0⟩ | ⟨g, cap, cur, e, _⟩
  · exact ⟨none, 0, by rw [e, h0]⟩
  · exact ⟨_, _, e⟩
theorem wpList_app_nat (w : World) {ops : Array Oper} {rest : List Oper} {o : Oper} {a : Act} {Q : Exit → Act → World → Prop} (hgd : o.guard = none) (s x : Operand)
    (ho : o.op = .call { callee := .builtin .append, args := #[s, x], argTypes := #[24, 24] }) (w0 : World) (hb0 : Below w0.heap.size w0 w) (v : Value) (l : List Nat) (hs : a.eval s = v) (hO : RlO w w0.heap.size v l)
    (g c k : Nat) (hx : a.eval x = .slice (some ⟨g, 0, none⟩) 1 c) (hg : w.cell? ⟨g, 0, none⟩ = some (.int .i64 (k : Int))) (hl : l.length ≤ 1000000)
    (hK : ∀ A' c' w', RlO w' w0.heap.size (.slice A' (l.length + 1) c') (l ++ [k]) → Below w0.heap.size w0 w' → wpList Try.prog ops Q rest (a.put o.dst (.slice A' (l.length + 1) c')) w') : wpList Try.prog ops Q (o :: rest) a w := by
  obtain ⟨i, hi, hzz⟩ := Option.map_eq_some_iff.1 Try.infoI
  simp only [Prod.mk.injEq] at hzz
  obtain ⟨hz, hsz, hb⟩ := hzz
  refine wpList_append_lies w hgd s x 24 ho w0.heap.size 3 i _ 1 8 Try.underlying24 hi hz hsz hb rfl (by omega) v l.length _ hs hO ⟨g, 0, none⟩ 1 c [.int .i64 (k : Int)] hx rfl (fun j u hj => ?_) (fun u hu => ?_) (by omega) (by unfold maxLen; omega) (by omega) hb0.size _ rfl ?_
  · rw [Go.WideShapes.add_plain]
    match j, hj with
    | 0, hj => injection hj with hj; subst hj; exact hg
  · rw [List.mem_singleton.1 hu]; rfl
  · intro g' cap' w' hown hgrow _ _
    refine hK _ _ w' ?_ (hb0.grown hgrow hb0.size fun k hk => (World.ownsRow.lt hO k hk).1)
    unfold RlO cells
    rw [List.length_append, List.map_append]
    exact hown
theorem listC_any (w0 w : World) (hb0 : Below w0.heap.size w0 w) (v : Value) (l : List Nat) (d : Nat) (hO : RlO w w0.heap.size v l) (hl : l.length ≤ 100) :
    Calls Try.prog 32 #[v, .int .i64 (d : Int)] w fun e w' => ∃ A c, e = .returned (.slice A (l.length + 1) c) ∧ RlO w' w0.heap.size (.slice A (l.length + 1) c) (l ++ [d]) ∧ Below w0.heap.size w0 w' := by
  have hb : Below w.heap.size w (w.alloc (.cells #[.int .i64 (d : Int)] 3)) := (Below.refl _ _).alloc (Nat.le_refl _) _
  have HO2 := Lib.hid (hO.later hb)
  have HC2 : Hid ((w.alloc (.cells #[.int .i64 (d : Int)] 3)).cell? ⟨w.heap.size, 0, none⟩ = some (.int .i64 (d : Int))) := cell_of_row _ _ 0 _ _ _ (heap_alloc_new w _)
  have HB2 := Lib.hid (hb0.alloc hb0.size (.cells #[.int .i64 (d : Int)] 3))
  clear hb hO hb0
  go_enter Try.func32, Try.ntmps32
  go_wp2_with (refine wpList_app_nat _ rfl _ _ rfl w0 HB2.out _ l rfl HO2.out w.heap.size 1 d rfl HC2.out (by omega) ?_; intro A3 c3 w3 ho3 hb3)
  have HO3 := Lib.hid ho3
  have HB3 := Lib.hid hb3
  clear ho3 hb3
  go_wp2_with fail
  go_ret
  exact ⟨A3, c3, rfl, HO3.out, HB3.out⟩
/-- the depths of a set below n -/
def liV (s n : Nat) : List Nat := (List.range n).filter fun d => s.testBit d
theorem liV_succ (s n : Nat) : liV s (n + 1) = if s.testBit n then liV s n ++ [n] else liV s n := by
  unfold liV
  rw [List.range_succ, List.filter_append]
  cases h : s.testBit n <;> simp [h]
theorem liV_len (s n : Nat) : (liV s n).length ≤ n := by
  unfold liV
  exact Nat.le_trans (List.length_filter_le _ _) (by simp)
set_option maxHeartbeats 400000 in
theorem allList_any (w : World) (s : Nat) (hs : s < 512) :
    Calls Try.prog 33 #[.func (.func 32) #[] #[], .int .i64 (s : Int)] w fun e w' => ∃ A c, e = .returned (.slice A (liV s 9).length c) ∧ RlO w' w.heap.size (.slice A (liV s 9).length c) (liV s 9) ∧ Below w.heap.size w w' := by
  go_enter Try.func33, Try.ntmps33
  go_wp2_with fail
  go_loopw [5, 7] (fun v i wr => ∃ k : Nat, k ≤ 9 ∧ i = .int .i64 (k : Int) ∧ Hid (RlO wr w.heap.size v (liV s k)) ∧ Hid (Below w.heap.size w wr)) (fun _ i _ => 9 - (intOf i).toNat)
  case atStart => exact ⟨0, Nat.zero_le _, rfl, World.ownsRow_nil _ _ _ _, Below.refl _ _⟩
  case round =>
    obtain ⟨k, hk, rfl, HO, HW⟩ := hrel
    obtain ⟨A, c, rfl⟩ := HO.out.form
    by_cases hlt : k < 9
    · have HD := Lib.hid (fun W => hasD_any s (k : Int) W hs)
      rw [inS_nat s k (by omega)] at HD
      have hlt' : (k : Int) < 9 := by omega
      have HS := Lib.hid (liV_succ s k)
      have hlen := liV_len s k
      cases hbit : s.testBit k with
      | true =>
        rw [hbit, if_pos rfl] at HS
        rw [hbit] at HD
        have HC := Lib.hid (listC_any w wr HW.out (.slice A (liV s k).length c) (liV s k) k HO.out (by omega))
        rw [← HS.out] at HC
        go_wp2_with fail
        refine (HD.out _).mono ?_
        rintro e w1 ⟨rfl, rfl⟩
        go_wp2_with fail
        refine HC.out.mono ?_
        rintro e w1 ⟨A2, c2, rfl, hO2, hb2⟩
        have HO2 := Lib.hid hO2
        have HB2 := Lib.hid hb2
        clear hO2 hb2
        go_wp2_with fail
        go_roundw
        case rel => exact ⟨k + 1, hlt, by go_num, HO2.out, HB2.out⟩
        case measure => simp [intOf]; omega
      | false =>
        rw [hbit, if_neg (by simp)] at HS
        rw [hbit] at HD
        have HO' : Hid (RlO wr w.heap.size (.slice A (liV s k).length c) (liV s (k + 1))) := by show RlO _ _ _ _; rw [HS.out]; exact HO.out
        go_wp2_with fail
        refine (HD.out _).mono ?_
        rintro e w1 ⟨rfl, rfl⟩
        go_wp2_with fail
        go_roundw
        case rel => exact ⟨k + 1, hlt, by go_num, HO'.out, HW.out⟩
        case measure => simp [intOf]; omega
    · obtain rfl : k = 9 := by omega
      go_wp2_with fail
      go_ret
      exact ⟨A, c, rfl, HO.out, HW.out⟩
theorem list_any (w : World) (s : Nat) (hs : s < 512) :
    Calls Try.prog 11 #[.int .i64 (s : Int)] w fun e w' => ∃ A c, e = .returned (.slice A (liV s 9).length c) ∧ RlR w' A (liV s 9) ∧ Below w.heap.size w w' := by
  have HA := Lib.hid (fun W => allList_any W s hs)
  go_enter Try.func11, Try.ntmps11
  go_wp2_with fail
  refine (HA.out _).mono ?_
  rintro e w1 ⟨A2, c2, rfl, hO2, hb2⟩
  have HO2 := Lib.hid hO2.read
  have HB2 := Lib.hid hb2
  clear hO2 hb2
  go_wp2_with fail
  go_ret
  exact ⟨A2, c2, rfl, HO2.out, HB2.out⟩

/-- a row that is laid in one piece -/
theorem rl_lit (w : World) (r : List Nat) : RlR (w.alloc (.cells (cells r).toArray 3)) (some ⟨w.heap.size, 0, none⟩) r := fun i hi => by
  refine ⟨w.heap.size, rfl, ?_⟩
  rw [cell_of_row _ _ i _ _ _ (heap_alloc_new w _)]
  unfold cells
  rw [List.getElem?_toArray, List.getElem?_map, List.getElem?_eq_getElem hi]
  rfl
set_option maxHeartbeats 2000000 in
theorem awake14_any (w : World) : Calls Try.prog 14 #[] w fun e w' => e = .returned (.bool true) ∧ Below w.heap.size w w' := by
  have HU : Hid (Calls Try.prog 20 #[.int .i64 1] w (RlP w 2 [2, 0])) := up_any w 1 1 rfl (by omega)
  have HD : Hid (∀ W, Calls Try.prog 21 #[.int .i64 1] W (RlP W 2 [0, 1])) := fun W => down_any W 1 1 rfl (by omega)
  have HS1 : Hid (∀ W A B, RlR W A [2, 0] → RlR W B [2, 0] → Calls Try.prog 23 #[.slice A 2 2, .slice B 2 2] W fun e w' => e = .returned (.bool true) ∧ Below W.heap.size W w') := fun W A B hA hB => sameInts_any W A B [2, 0] [2, 0] 2 2 hA hB (by decide) (by decide)
  have HS2 : Hid (∀ W A B, RlR W A [0, 1] → RlR W B [0, 1] → Calls Try.prog 23 #[.slice A 2 2, .slice B 2 2] W fun e w' => e = .returned (.bool true) ∧ Below W.heap.size W w') := fun W A B hA hB => sameInts_any W A B [0, 1] [0, 1] 2 2 hA hB (by decide) (by decide)
  have HAP : Hid (∀ W A, RlR W A [2, 1] → Calls Try.prog 26 #[.slice A 2 2, .int .i64 3] W fun e w' => e = .returned (.int .i64 3) ∧ Below W.heap.size W w') := fun W A hA => apply_any W A 2 [2, 1] 3 hA (by unfold BdR; decide) (by decide)
  have HC1 : Hid (∀ W, Calls Try.prog 17 #[.agg #[.string ⟨#[]⟩, .bool false, .int .i64 0]] W fun e w' => e = .returned (.int .i64 1) ∧ Below W.heap.size W w') := fun W => cap_any ⟨#[]⟩ false 0 W
  have HC2 : Hid (∀ W, Calls Try.prog 17 #[.agg #[.string ⟨#[]⟩, .bool false, .int .i64 2]] W fun e w' => e = .returned (.int .i64 8) ∧ Below W.heap.size W w') := fun W => cap_any ⟨#[]⟩ false 2 W
  have HHS : Hid (∀ W, Calls Try.prog 13 #[.int .i64 5, .int .i64 2] W fun e w' => e = .returned (.bool true) ∧ W = w') := fun W => hasD_any 5 2 W (by decide)
  go_enter Try.func14, Try.ntmps14
  go_wp2_with fail
  refine HU.out.mono ?_
  rintro e w1 ⟨g1, rfl, hO1, hb1⟩
  have hbx : Below w1.heap.size w1 (w1.alloc (.cells #[.int .i64 2, .int .i64 0] 3)) := (Below.refl _ _).alloc (Nat.le_refl _) _
  have HA1 := Lib.hid (hO1.read.later hbx)
  have HB1 := Lib.hid (below_two hb1 hbx)
  have HL1 : Hid (RlR (w1.alloc (.cells #[.int .i64 2, .int .i64 0] 3)) (some ⟨w1.heap.size, 0, none⟩) [2, 0]) := rl_lit w1 [2, 0]
  clear hO1 hb1 hbx HU
  go_wp2_with fail
  refine (HS1.out _ _ _ HA1.out HL1.out).mono ?_
  rintro e w2 ⟨rfl, hb2⟩
  have HB2 := Lib.hid (below_two HB1.out hb2)
  clear hb2 HA1 HL1 HB1 HS1
  go_wp2_with fail
  refine (HD.out _).mono ?_
  rintro e w3 ⟨g3, rfl, hO3, hb3⟩
  have hbx : Below w3.heap.size w3 (w3.alloc (.cells #[.int .i64 0, .int .i64 1] 3)) := (Below.refl _ _).alloc (Nat.le_refl _) _
  have HA3 := Lib.hid (hO3.read.later hbx)
  have HB3 := Lib.hid (below_two (below_two HB2.out hb3) hbx)
  have HL3 : Hid (RlR (w3.alloc (.cells #[.int .i64 0, .int .i64 1] 3)) (some ⟨w3.heap.size, 0, none⟩) [0, 1]) := rl_lit w3 [0, 1]
  clear hO3 hb3 hbx HD HB2
  go_wp2_with fail
  refine (HS2.out _ _ _ HA3.out HL3.out).mono ?_
  rintro e w4 ⟨rfl, hb4⟩
  have hbx : Below w4.heap.size w4 (w4.alloc (.cells #[.int .i64 2, .int .i64 1] 3)) := (Below.refl _ _).alloc (Nat.le_refl _) _
  have HB4 := Lib.hid (below_two (below_two HB3.out hb4) hbx)
  have HL4 : Hid (RlR (w4.alloc (.cells #[.int .i64 2, .int .i64 1] 3)) (some ⟨w4.heap.size, 0, none⟩) [2, 1]) := rl_lit w4 [2, 1]
  clear hb4 hbx HA3 HL3 HB3 HS2
  go_wp2_with fail
  refine (HAP.out _ _ HL4.out).mono ?_
  rintro e w5 ⟨rfl, hb5⟩
  have HB5 := Lib.hid (below_two HB4.out hb5)
  clear hb5 HL4 HB4 HAP
  go_wp2_with fail
  refine (HC1.out _).mono ?_
  rintro e w6 ⟨rfl, hb6⟩
  have HB6 := Lib.hid (below_two HB5.out hb6)
  clear hb6 HB5 HC1
  go_wp2_with fail
  refine (HC2.out _).mono ?_
  rintro e w7 ⟨rfl, hb7⟩
  have HB7 := Lib.hid (below_two HB6.out hb7)
  clear hb7 HB6 HC2
  go_wp2_with fail
  refine (HHS.out _).mono ?_
  rintro e w8 ⟨rfl, rfl⟩
  go_wp2_with fail
  go_ret
  exact ⟨rfl, HB7.out⟩
end Go.Proofs.Ytdajomkhjaccbaa
