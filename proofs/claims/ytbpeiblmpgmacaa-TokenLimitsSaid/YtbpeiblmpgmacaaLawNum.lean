/- The walk of TokenNumbers: true for all numbers. -/
import Derived.Test.YtbpeiblmpgmacaaNumMath
import Derived.Test.YtbpeiblmpgmacaaLawSame
namespace Go.Proofs.Ytbpeiblmpgmacaa
open Go.RowKit

theorem bapp (a b : List UInt8) : (⟨a.toArray⟩ : ByteArray) ++ (⟨b.toArray⟩ : ByteArray) = ⟨(a ++ b).toArray⟩ := by
  apply ByteArray.ext
  simp
theorem conv_bytes (s : List UInt8) (w : World) : ∃ c W1, (convert 9 22 (.string ⟨s.toArray⟩)).run Try.prog w = .ok (.slice (some ⟨w.heap.size, 0, none⟩) s.length c) W1 ∧ Byt W1 (some ⟨w.heap.size, 0, none⟩) s ∧ s.length ≤ c ∧ Below w.heap.size w W1 := by
  have h := run_bytes_of_string (P := Try.prog) w 9 22 5 ⟨s.toArray⟩ Try.underlying9 Try.underlying22 Try.underlying5
  have hs : (⟨s.toArray⟩ : ByteArray).size = s.length := by simp [ByteArray.size]
  rw [hs] at h
  refine ⟨_, _, h, ?_, grownCap_ge _ _ _ _, ((Below.refl _ _).drew).alloc (Nat.le_refl _) _⟩
  intro i hi
  refine ⟨_, _, rfl, ?_⟩
  rw [Nat.zero_add]
  refine (World.cell?_alloc_mark w.drew _ _ _ i).trans ?_
  rw [bytesRow_at _ _ i (by simpa using hi)]
  simp
theorem conv_one (k : Nat) (W : World) (g : Nat) (hg : g = W.heap.size) : (convert 22 9 (.slice (some ⟨g, 0, none⟩) 1 1)).run Try.prog (W.alloc (.cells #[.int .u8 (48 + (k : Int) % 10)] 5)) = .ok (.string ⟨[digC k].toArray⟩) (W.alloc (.cells #[.int .u8 (48 + (k : Int) % 10)] 5)) := by
  subst hg
  refine run_convert_bytes_back (P := Try.prog) _ 22 9 5 ⟨W.heap.size, 0, none⟩ 1 [digC k] Try.underlying22 Try.underlying5 Try.underlying9 ?_
  intro j hj
  have hj0 : j = 0 := by simpa using hj
  subst hj0
  have ha : (⟨W.heap.size, 0, none⟩ : Addr).add 0 = ⟨W.heap.size, 0, none⟩ := by simp [Addr.add]
  rw [ha, World.cell?_alloc_mark]
  have := (digC_num k).1
  simp only [List.getElem_cons_zero, this]
  simp

/-- digits behind so many zeros -/
def zs (j : Nat) (b : List UInt8) : List UInt8 := List.replicate j 48 ++ b
theorem zs_succ (j : Nat) (b : List UInt8) : 48 :: zs j b = zs (j + 1) b := rfl
theorem zs_len (j : Nat) (b : List UInt8) : (zs j b).length = j + b.length := by simp [zs]
theorem zs_dig (j : Nat) (b : List UInt8) (h : ∀ c ∈ b, Tk.isDig c = true) : ∀ c ∈ zs j b, Tk.isDig c = true := by
  intro c hc
  rcases List.mem_append.1 hc with h1 | h1
  · rw [(List.mem_replicate.1 h1).2]
    decide
  · exact h c h1
theorem dec_dig (n : Nat) : ∀ c ∈ decLoop 20 n [], Tk.isDig c = true := decLoop_dig 20 n [] (by simp)
theorem dec_more (n : Nat) : ∀ c ∈ decLoop 20 n [] ++ [48], Tk.isDig c = true := by
  intro c hc
  rcases List.mem_append.1 hc with h1 | h1
  · exact dec_dig n c h1
  · rw [List.mem_singleton.1 h1]
    decide
theorem zs_val (j n : Nat) (hn : n ≤ 18446744073709551615) : decVal 0 (zs j (decLoop 20 n [])) = n := by
  have h1 := decVal_zeros (decLoop 20 n []) j
  have h2 := decLoop_val 20 n [] (by omega) (.inr (by omega))
  rw [decVal_nil] at h2
  exact h1.trans h2
/-- what Lex gives for digits -/
theorem lex_cases (S : List UInt8) (hne : 0 < S.length) (hd : ∀ c ∈ S, Tk.isDig c = true) (hl : S.length ≤ 60) :
    (Tk.lex S = ([], 0, 2) ∧ ¬ decVal 0 S ≤ 9223372036854775807) ∨ (Tk.lex S = ([⟨2, S, decVal 0 S, 0⟩, ⟨5, [], 0, S.length⟩], S.length, 0) ∧ decVal 0 S ≤ 9223372036854775807) := by
  by_cases h : decVal 0 S ≤ 9223372036854775807
  · exact .inr ⟨lex_number S hne hd (by omega) _ (numVal_small S hd 0 h), h⟩
  · exact .inl ⟨lex_great S hne hd (by omega) (numVal_great S hd 0 (by omega) h), h⟩
def emp : Value → Nat
  | .string b => if b.size = 0 then 1 else 0
  | _ => 0
theorem decLoop_go (f k : Nat) (s : List UInt8) (h : k > 0 ∨ s = []) : decLoop (f + 1) k s = decLoop f (k / 10) (digC k :: s) := by rw [decLoop, if_pos h]
theorem decLoop_stop (f k : Nat) (s : List UInt8) (h : ¬ (k > 0 ∨ s = [])) : decLoop f k s = s := by
  cases f with
  | zero => rfl
  | succ f => rw [decLoop, if_neg h]

set_option maxRecDepth 100000 in
set_option maxHeartbeats 2000000 in
theorem tokenNumbers_any (n : Nat) (z : Int) (more : Bool) (w : World) (hn : n ≤ 18446744073709551615) (hz : -9223372036854775808 ≤ z ∧ z ≤ 9223372036854775807) :
    Calls Try.prog 5 #[.int .u64 (n : Int), .int .i64 z, .bool more] w fun e w' => e = .returned (.bool true) ∧ Below w.heap.size w w' := by
  have HN := Lib.hid hn
  have HZ := Lib.hid hz
  clear hn hz
  go_enter Try.func5, Try.ntmps5
  go_wp2
  go_loopw [7, 8] (fun v i wr => ∃ (k f : Nat) (s : List UInt8), k ≤ 18446744073709551615 ∧ v = .string ⟨s.toArray⟩ ∧ i = .int .u64 k ∧ s.length + f ≤ 20 ∧ Hid (k < 10 ^ f ∧ (s ≠ [] ∨ 0 < f)) ∧ Hid (decLoop f k s = decLoop 20 n []) ∧ Below w.heap.size w wr)
    (fun v i _ => (intOf i).toNat + emp v)
  case atStart => exact ⟨n, 20, [], HN.out, rfl, rfl, by simp, ⟨by have := HN.out; omega, .inr (by omega)⟩, rfl, Below.refl _ _⟩
  case round =>
    obtain ⟨k, f, s, hk, rfl, rfl, hsl, hf, hrel, hbel⟩ := hrel
    have HBE := Lib.hid hbel
    clear hbel
    have hcv := conv_one k wr wr.heap.size rfl
    have happ := bapp
    by_cases hk0 : 0 < k
    · have hfpos : Hid (0 < f) := by
        have := hf.out.1
        rcases Nat.eq_zero_or_pos f with h | h
        · subst h
          simp at this
          omega
        · exact h
      go_wp2
      go_roundw
      case rel =>
        obtain ⟨h1, h2⟩ := hf.out
        have hfp := hfpos.out
        obtain ⟨f', rfl⟩ : ∃ g, f = g + 1 := ⟨f - 1, by omega⟩
        refine ⟨k / 10, f', digC k :: s, by omega, ?_, ?_, by simp; omega, ⟨?_, .inl (by simp)⟩, ?_, HBE.out.alloc HBE.out.size _⟩
        · rfl
        · go_num
        · rw [Nat.pow_succ] at h1
          omega
        · exact ((decLoop_go f' k s (.inl hk0)).symm.trans hrel.out : _ = _)
      case measure =>
        unfold emp
        simp [intOf, ByteArray.size]
        split <;> omega
    · by_cases hs0 : s = []
      · subst hs0
        have hk1 : k = 0 := by omega
        subst hk1
        have hfpos : Hid (0 < f) := by
          rcases hf.out.2 with h | h
          · exact absurd rfl h
          · exact h
        have hcv0 := conv_one 0 wr wr.heap.size rfl
        rw [show (48 + ((0 : Nat) : Int) % 10) = 48 from rfl] at hcv0
        clear hcv
        go_wp2
        go_roundw
        case rel =>
          obtain ⟨h1, h2⟩ := hf.out
          have hfp := hfpos.out
          obtain ⟨f', rfl⟩ : ∃ g, f = g + 1 := ⟨f - 1, by omega⟩
          refine ⟨0, f', [digC 0], by omega, ?_, ?_, by simp at hsl ⊢; omega, ⟨Nat.pow_pos (by omega), .inl (by simp)⟩, ?_, HBE.out.alloc HBE.out.size _⟩
          · rfl
          · go_num
          · exact ((decLoop_go f' 0 [] (.inr rfl)).symm.trans hrel.out : _ = _)
        case measure =>
          unfold emp
          simp [intOf, ByteArray.size]
      · have hs1 : (s == []) = false := by simpa using hs0
        have HD := Lib.hid ((decLoop_stop f k s (by simp [hs0]; omega)).symm.trans hrel.out)
        clear hcv
        cases more with
        | true =>
          have hzl := within_lt z 30 (by omega)
          obtain ⟨zc, hzc⟩ : ∃ m, m = within z 30 := ⟨_, rfl⟩
          have HZC := Lib.hid hzc
          rw [← hzc] at hzl
          clear hzc
          go_wp2
          go_loop [7, 9] (fun v i => ∃ j : Nat, j ≤ zc ∧ v = .string ⟨(zs j (s ++ [48])).toArray⟩ ∧ i = .int .i64 j) (fun _ i => zc - (intOf i).toNat)
          case atStart => exact ⟨0, Nat.zero_le _, rfl, rfl⟩
          case round =>
            obtain ⟨j, hj, rfl, rfl⟩ := hrel
            have hrl : (zs j (s ++ [48])).length ≤ 60 := by rw [zs_len]; first | (simp; omega) | omega
            by_cases hjz : j < zc
            · go_wp2_with (first | (go_at_call 13; refine (within_any z 30 _ HZ.out (by omega) (by omega)).mono ?_; rintro e w' ⟨rfl, rfl⟩; rw [show (30 : Int).toNat = 30 from rfl, ← HZC.out]))
              go_round
              case rel => exact ⟨j + 1, by omega, congrArg (fun q : List UInt8 => Value.string ⟨q.toArray⟩) (zs_succ j (s ++ [48])), by go_num⟩
              case measure => simp [intOf]; omega
            · have hje : j = zc := by omega
              subst hje
              clear hjz
              have hpos : 0 < (zs j (s ++ [48])).length := by
                rw [zs_len]
                have := List.length_pos_iff.2 hs0
                first | omega | (simp; omega) | simp
              have hdig : ∀ c ∈ zs j (s ++ [48]), Tk.isDig c = true := by
                rw [HD.out]
                exact zs_dig j _ (dec_more n)

              have HCS := Lib.hid (lex_cases (zs j (s ++ [48])) hpos hdig hrl)
              clear hdig
              generalize zs j (s ++ [48]) = S at *
              obtain ⟨c1, W1, hcv1, hB1, hc1, hb1⟩ := conv_bytes S wr
              have HB1 := Lib.hid hB1
              have HBW := Lib.hid (HBE.out.trans (hb1.mono HBE.out.size))
              have HX := Lib.hid (lex_any S (some ⟨wr.heap.size, 0, none⟩) c1 W1 hB1 (by omega) hc1)
              clear hB1 hb1
              go_wp2_with (first | (go_at_call 13; refine (within_any z 30 _ HZ.out (by omega) (by omega)).mono ?_; rintro e w' ⟨rfl, rfl⟩; rw [show (30 : Int).toNat = 30 from rfl, ← HZC.out]))
              refine HX.out.mono ?_
              intro e w2 hp
              obtain ⟨A, c, rfl, hT, hb2⟩ := lexPost_open hp
              have HBX := Lib.hid (HBW.out.trans (hb2.mono HBW.out.size))
              have HT := Lib.hid hT
              clear hp hT hb2 hcv1
              obtain ⟨c2, W2, hcv2, hB2, hc2, hb3⟩ := conv_bytes S w2
              have HS := Lib.hid (sameB_any S (some ⟨w2.heap.size, 0, none⟩) c2 W2 hB2 (by omega) hc2)
              have HBY := Lib.hid (HBX.out.trans (hb3.mono HBX.out.size))
              clear hB2 hb3
              rcases HCS.out with ⟨hlx, hgt⟩ | ⟨hlx, hle⟩
              · rw [hlx]
                clear HT
                clear hgt hlx
                go_wp2_with fail
                refine HS.out.mono ?_
                rintro e w3 ⟨rfl, hb4⟩
                go_wp2_with fail
                refine (awake_any _).mono ?_
                rintro e w4 ⟨rfl, hb5⟩
                go_wp2
                go_ret
                exact ⟨rfl, (HBY.out.trans (hb4.mono HBY.out.size)).trans (hb5.mono (Nat.le_trans HBY.out.size hb4.size))⟩
              · rw [hlx] at HT ⊢
                obtain ⟨b, hA, a0, a1, a2, -⟩ := HT.out 0 (by simp)
                subst hA
                dsimp only [List.getElem_cons_zero, Nat.zero_mul, Nat.zero_add] at a0 a1 a2
                generalize decVal 0 S = v at *
                clear hlx HT
                go_wp2_with fail
                refine HS.out.mono ?_
                rintro e w3 ⟨rfl, hb4⟩
                go_wp2_with fail
                refine (awake_any _).mono ?_
                rintro e w4 ⟨rfl, hb5⟩
                go_wp2
                go_ret
                exact ⟨rfl, (HBY.out.trans (hb4.mono HBY.out.size)).trans (hb5.mono (Nat.le_trans HBY.out.size hb4.size))⟩
        | false =>
          have hzl := within_lt z 30 (by omega)
          obtain ⟨zc, hzc⟩ : ∃ m, m = within z 30 := ⟨_, rfl⟩
          have HZC := Lib.hid hzc
          rw [← hzc] at hzl
          clear hzc
          go_wp2
          go_loop [7, 9] (fun v i => ∃ j : Nat, j ≤ zc ∧ v = .string ⟨(zs j (s)).toArray⟩ ∧ i = .int .i64 j) (fun _ i => zc - (intOf i).toNat)
          case atStart => exact ⟨0, Nat.zero_le _, rfl, rfl⟩
          case round =>
            obtain ⟨j, hj, rfl, rfl⟩ := hrel
            have hrl : (zs j (s)).length ≤ 60 := by rw [zs_len]; first | (simp; omega) | omega
            by_cases hjz : j < zc
            · go_wp2_with (first | (go_at_call 13; refine (within_any z 30 _ HZ.out (by omega) (by omega)).mono ?_; rintro e w' ⟨rfl, rfl⟩; rw [show (30 : Int).toNat = 30 from rfl, ← HZC.out]))
              go_round
              case rel => exact ⟨j + 1, by omega, congrArg (fun q : List UInt8 => Value.string ⟨q.toArray⟩) (zs_succ j (s)), by go_num⟩
              case measure => simp [intOf]; omega
            · have hje : j = zc := by omega
              subst hje
              clear hjz
              have hpos : 0 < (zs j (s)).length := by
                rw [zs_len]
                have := List.length_pos_iff.2 hs0
                first | omega | (simp; omega) | simp
              have hdig : ∀ c ∈ zs j (s), Tk.isDig c = true := by
                rw [HD.out]
                exact zs_dig j _ (dec_dig n)
              have hval : Hid (decVal 0 (zs j (s)) = n) := by rw [HD.out]; exact zs_val j n HN.out
              have HCS := Lib.hid (lex_cases (zs j (s)) hpos hdig hrl)
              clear hdig
              generalize zs j (s) = S at *
              obtain ⟨c1, W1, hcv1, hB1, hc1, hb1⟩ := conv_bytes S wr
              have HB1 := Lib.hid hB1
              have HBW := Lib.hid (HBE.out.trans (hb1.mono HBE.out.size))
              have HX := Lib.hid (lex_any S (some ⟨wr.heap.size, 0, none⟩) c1 W1 hB1 (by omega) hc1)
              clear hB1 hb1
              go_wp2_with (first | (go_at_call 13; refine (within_any z 30 _ HZ.out (by omega) (by omega)).mono ?_; rintro e w' ⟨rfl, rfl⟩; rw [show (30 : Int).toNat = 30 from rfl, ← HZC.out]))
              refine HX.out.mono ?_
              intro e w2 hp
              obtain ⟨A, c, rfl, hT, hb2⟩ := lexPost_open hp
              have HBX := Lib.hid (HBW.out.trans (hb2.mono HBW.out.size))
              have HT := Lib.hid hT
              clear hp hT hb2 hcv1
              obtain ⟨c2, W2, hcv2, hB2, hc2, hb3⟩ := conv_bytes S w2
              have HS := Lib.hid (sameB_any S (some ⟨w2.heap.size, 0, none⟩) c2 W2 hB2 (by omega) hc2)
              have HBY := Lib.hid (HBX.out.trans (hb3.mono HBX.out.size))
              clear hB2 hb3
              rcases HCS.out with ⟨hlx, hgt⟩ | ⟨hlx, hle⟩
              · rw [hlx]
                clear HT
                have hgt' : decide ((n : Int) < 9223372036854775808) = false := by have := hval.out; rw [decide_eq_false_iff_not]; omega
                clear hgt hlx
                go_wp2_with fail
                refine HS.out.mono ?_
                rintro e w3 ⟨rfl, hb4⟩
                go_wp2_with fail
                refine (awake_any _).mono ?_
                rintro e w4 ⟨rfl, hb5⟩
                go_wp2
                go_ret
                exact ⟨rfl, (HBY.out.trans (hb4.mono HBY.out.size)).trans (hb5.mono (Nat.le_trans HBY.out.size hb4.size))⟩
              · rw [hlx] at HT ⊢
                obtain ⟨b, hA, a0, a1, a2, -⟩ := HT.out 0 (by simp)
                subst hA
                dsimp only [List.getElem_cons_zero, Nat.zero_mul, Nat.zero_add] at a0 a1 a2
                rw [hval.out] at a2 hle
                have hle' : (n : Int) < 9223372036854775808 := by omega
                clear hlx HT
                go_wp2_with fail
                refine HS.out.mono ?_
                rintro e w3 ⟨rfl, hb4⟩
                go_wp2_with fail
                refine (awake_any _).mono ?_
                rintro e w4 ⟨rfl, hb5⟩
                go_wp2
                go_ret
                exact ⟨rfl, (HBY.out.trans (hb4.mono HBY.out.size)).trans (hb5.mono (Nat.le_trans HBY.out.size hb4.size))⟩

end Go.Proofs.Ytbpeiblmpgmacaa
