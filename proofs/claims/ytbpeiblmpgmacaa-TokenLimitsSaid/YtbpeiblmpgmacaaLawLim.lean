/- The walk of TokenLimits: true for all numbers. -/
import Derived.Test.YtbpeiblmpgmacaaLawNum
namespace Go.Proofs.Ytbpeiblmpgmacaa
open Go.RowKit

/-- what separates the semicolons: nothing, or an empty comment -/
def tailOf (c : Bool) : List UInt8 := if c then [47, 47, 10] else []
/-- so many semicolons -/
def reps (c : Bool) : Nat → List UInt8
  | 0 => []
  | n + 1 => 59 :: (tailOf c ++ reps c n)
theorem reps_snoc (c : Bool) (n : Nat) : reps c (n + 1) = reps c n ++ (59 :: tailOf c) := by
  induction n with
  | zero => simp [reps]
  | succ n ih =>
    have e : reps c (n + 1 + 1) = 59 :: (tailOf c ++ reps c (n + 1)) := rfl
    have e' : reps c (n + 1) = 59 :: (tailOf c ++ reps c n) := rfl
    rw [e, ih]
    conv => rhs; rw [← ih]
    rw [ih, ← List.append_assoc, ← List.cons_append, ← e', ih]
theorem reps_len (c : Bool) (n : Nat) : (reps c n).length = if c then 4 * n else n := by
  induction n with
  | zero => simp [reps]
  | succ n ih =>
    rw [reps]
    cases c <;> simp [tailOf] at ih ⊢ <;> omega
theorem sep_reps (c : Bool) (n : Nat) : Tk.sepLen false (reps c n) = 0 := by
  cases n with
  | zero => rfl
  | succ n => rw [reps, Tk.sepLen_f]; rfl
theorem sep_tail (c : Bool) (n : Nat) : Tk.sepLen false (tailOf c ++ reps c n) = (tailOf c).length := by
  cases c with
  | false => exact sep_reps false n
  | true =>
    have h := sep_reps true n
    show Tk.sepLen false (47 :: 47 :: 10 :: reps true n) = 3
    rw [Tk.sepLen_f]
    rw [if_neg (by decide), if_pos ⟨by decide, rfl⟩, Tk.sepLen_t, if_neg (by decide), Tk.sepLen_t, if_pos (by decide), h]
theorem tok_semi (pre rest : List UInt8) : Tk.tokAt (pre ++ 59 :: rest) pre.length = .ok ⟨4, [59], 0, pre.length⟩ := by
  have hg : (pre ++ 59 :: rest).getD pre.length 0 = 59 := by simp [List.getD]
  have hd : (pre ++ 59 :: rest).drop pre.length = 59 :: rest := by simp
  unfold Tk.tokAt
  rw [hg, if_neg (by decide), if_neg (by decide), Tk.signAt, hd]
  have h2 : ¬ Tk.signs2.contains ((59 :: rest).take 2) = true := by
    cases rest with
    | nil => decide
    | cons y r => simp [Tk.signs2]
  rw [if_neg (fun h => h2 h.2), if_pos (by simp [Tk.signs1])]
  rfl
theorem skip_semi (c : Bool) (pre : List UInt8) (r : Nat) : Tk.skipTo (pre ++ reps c (r + 1)) (pre.length + 1) = (pre ++ (59 :: tailOf c)).length := by
  unfold Tk.skipTo
  have hd : (pre ++ reps c (r + 1)).drop (pre.length + 1) = tailOf c ++ reps c r := by
    rw [reps, ← List.drop_drop]
    simp
  rw [hd, sep_tail]
  simp
  omega
theorem lex_reps_go (c : Bool) (r f : Nat) (acc : List Tk.Tok) (pre : List UInt8) (hf : r < f) (ha : acc.length ≤ 4000) :
    (acc.length + r ≤ 4000 → (Tk.lexGo f (pre ++ reps c r) pre.length acc).2.2 = 0 ∧ (Tk.lexGo f (pre ++ reps c r) pre.length acc).1.length = acc.length + r + 1) ∧
    (4000 < acc.length + r → (Tk.lexGo f (pre ++ reps c r) pre.length acc).2.2 = 3) := by
  induction r generalizing f acc pre with
  | zero =>
    obtain ⟨f, rfl⟩ : ∃ g, f = g + 1 := ⟨f - 1, by omega⟩
    rw [lexGo_end f _ _ _ (by simp [reps])]
    exact ⟨fun _ => ⟨rfl, by simp⟩, fun h => absurd h (by omega)⟩
  | succ r ih =>
    obtain ⟨f, rfl⟩ : ∃ g, f = g + 1 := ⟨f - 1, by omega⟩
    have ht := tok_semi pre (tailOf c ++ reps c r)
    have hlt : pre.length < (pre ++ reps c (r + 1)).length := by simp [reps]
    by_cases h4 : acc.length = 4000
    · rw [lexGo_many f _ _ _ _ hlt ht h4]
      exact ⟨fun h => absurd h (by omega), fun _ => rfl⟩
    · rw [lexGo_step f _ _ _ _ hlt ht h4]
      dsimp only [List.length_cons, List.length_nil]
      rw [Nat.zero_add, skip_semi]
      have e : pre ++ reps c (r + 1) = (pre ++ (59 :: tailOf c)) ++ reps c r := by rw [reps]; simp
      rw [e]
      have := ih f (acc ++ [⟨4, [59], 0, pre.length⟩]) (pre ++ (59 :: tailOf c)) (by omega) (by simp; omega)
      rw [List.length_append] at this
      simp only [List.length_cons, List.length_nil] at this
      rw [show acc.length + (r + 1) = acc.length + (0 + 1) + r by omega]
      exact this
theorem lex_reps (c : Bool) (n : Nat) (hn : n ≤ 5000) : (n ≤ 4000 → (Tk.lex (reps c n)).2.2 = 0 ∧ (Tk.lex (reps c n)).1.length = n + 1) ∧ (4000 < n → (Tk.lex (reps c n)).2.2 = 3) := by
  have hl := reps_len c n
  have h1 : Tk.lex (reps c n) = Tk.lexGo ((reps c n).length + 1) (reps c n) 0 [] := by
    unfold Tk.lex
    rw [if_neg (by rw [hl]; split <;> omega)]
    have : Tk.skipTo (reps c n) 0 = 0 := by
      unfold Tk.skipTo
      rw [List.drop_zero, sep_reps]
    rw [this]
  have h2 := lex_reps_go c n ((reps c n).length + 1) [] [] (by rw [hl]; split <;> omega) (by simp)
  simp only [List.nil_append, List.length_nil, Nat.zero_add] at h2
  rw [h1]
  exact h2

def bv (c : UInt8) : Value := .int .u8 (c.toNat : Int)
theorem Byt.of_own {w : World} {base n : Nat} {A : Option Addr} {c : Nat} {l : List UInt8} (hn : n = l.length) (h : w.ownsRow base 5 1 (.slice A n c) n (l.map bv)) : Byt w A l ∧ n ≤ c := by
  subst hn
  have h' := h
  obtain ⟨_, h2⟩ := h'
  rcases h2 with ⟨e, h0⟩ | ⟨g, cap, cur, e, _, _, hcap, _⟩
  · injection e with _ _ e3
    subst e3
    exact ⟨fun i hi => absurd hi (by omega), by omega⟩
  · injection e with e1 _ e3
    subst e1 e3
    refine ⟨fun i hi => ⟨g, 0, rfl, ?_⟩, hcap⟩
    rw [Nat.zero_add, World.ownsRow.cellAt h i (by omega)]
    simp [bv, List.getElem?_eq_getElem hi]
theorem news_any (W : World) (g : Nat) (hg : g = W.heap.size) (l : List Value) (t : TypeId) (j : Nat) (u : Value) (hj : l[j]? = some u) :
    (W.alloc (.cells l.toArray t)).cell? ((⟨g, 0, none⟩ : Addr).add j) = some u := by
  subst hg
  have ha : (⟨W.heap.size, 0, none⟩ : Addr).add j = ⟨W.heap.size, j, none⟩ := by
    unfold Addr.add
    split
    · simp_all
    · simp
  rw [ha, World.cell?_alloc_mark, ← hj]
  simp
theorem one_bytes (l : List UInt8) : ∀ u ∈ l.map bv, u.oneCell' = true := by
  intro u hu
  obtain ⟨c, _, rfl⟩ := List.mem_map.1 hu
  rfl
theorem Try.infoByte : (Try.prog.info? 5).map (fun i => (i.zero, i.size, i.bytes)) = some (some (.int .u8 0), 1, 1) := by kernel_rfl
theorem reps_le (c : Bool) (j : Nat) (h : j ≤ 5000) : (reps c j).length ≤ 20000 := by
  rw [reps_len]
  split <;> omega

set_option maxRecDepth 100000 in
set_option maxHeartbeats 2000000 in
theorem tokenLimits_any (x y : Int) (c : Bool) (w : World) (hx : -9223372036854775808 ≤ x ∧ x ≤ 9223372036854775807) (hy : -9223372036854775808 ≤ y ∧ y ≤ 9223372036854775807) :
    Calls Try.prog 6 #[.int .i64 x, .int .i64 y, .bool c] w fun e w' => e = .returned (.bool true) ∧ Below w.heap.size w w' := by
  obtain ⟨i0, hi, hz0, hz1, hz2⟩ := info_parts Try.infoByte
  have HX := Lib.hid hx
  have HY := Lib.hid hy
  clear hx hy
  have hm1 := within_lt x 20 (by omega)
  obtain ⟨m1, e1⟩ : ∃ m, m = within x 20 := ⟨_, rfl⟩
  have E1 := Lib.hid e1
  rw [← e1] at hm1
  clear e1
  have hm2 := within_lt y 20 (by omega)
  obtain ⟨m2, e2⟩ : ∃ m, m = within y 20 := ⟨_, rfl⟩
  have E2 := Lib.hid e2
  rw [← e2] at hm2
  clear e2
  go_enter Try.func6, Try.ntmps6
  go_wp2
  go_loop [7, 8] (fun v i => ∃ (j : Nat) (s : List UInt8), s.length ≤ j ∧ j ≤ 1 + m1 ∧ v = .string ⟨s.toArray⟩ ∧ i = .int .i64 j) (fun _ i => 1 + m1 - (intOf i).toNat)
  case atStart => exact ⟨0, [], by simp, by omega, rfl, rfl⟩
  case round =>
    obtain ⟨j, s, hs, hj, rfl, rfl⟩ := hrel
    have happ := bapp
    by_cases hjz : j < 1 + m1
    · go_wp2_with (first | (go_at_call 13; refine (within_any x 20 _ HX.out (by omega) (by omega)).mono ?_; rintro e w' ⟨rfl, rfl⟩; rw [show (20 : Int).toNat = 20 from rfl, ← E1.out]))
      go_round
      case rel => exact ⟨j + 1, s ++ [110], by simp; omega, by omega, rfl, by go_num⟩
      case measure => simp [intOf]; omega
    · have d1 : decide ((j : Int) < 1 + (m1 : Int)) = false := by simp; omega
      obtain ⟨T, hT⟩ : ∃ T : List UInt8, T = 97 :: 32 :: (s ++ [32, 98]) := ⟨_, rfl⟩
      have hlen : T.length ≤ 100 := by rw [hT]; simp; omega
      obtain ⟨c1, W1, hcv1, hB1, hc1, hb1⟩ := conv_bytes T w
      have HS := Lib.hid (sameB_any T _ c1 W1 hB1 (by omega) hc1)
      have HB1 := Lib.hid hb1
      clear hB1 hb1
      obtain ⟨n1, hn1⟩ : ∃ n, n = T.length := ⟨_, rfl⟩
      rw [← hn1] at hcv1 HS
      rw [hT] at hcv1
      clear hT hn1 hc1
      go_wp2_with (first | (go_at_call 13; refine (within_any x 20 _ HX.out (by omega) (by omega)).mono ?_; rintro e w' ⟨rfl, rfl⟩; rw [show (20 : Int).toNat = 20 from rfl, ← E1.out]))
      refine HS.out.mono ?_
      rintro e w2 ⟨rfl, hb2⟩
      have HB2 := Lib.hid (HB1.out.trans (hb2.mono HB1.out.size))
      clear hb2 hcv1 d1 hjz hs happ
      go_wp2_with fail
      refine (within_any y 20 _ HY.out (by omega) (by omega)).mono ?_
      rintro e w' ⟨rfl, rfl⟩
      rw [show (20 : Int).toNat = 20 from rfl, ← E2.out]
      go_wp2_with (first | (at_make; refine wpList_make_own _ rfl _ _ 22 rfl w.heap.size 5 i0 _ 1 Try.underlying22 hi hz0 hz1 _ _ _ (3 * (3990 + m2)) rfl rfl (by omega) (by rw [hz2]; omega) (by unfold maxLen; omega) HB2.out.size ?_))
      intro w3 hown3 hgrow3
      have HM := Lib.hid hown3
      have HB3 := Lib.hid (HB2.out.grown hgrow3 HB2.out.size (fun k hk => by cases hk))
      clear hown3 hgrow3
      cases c with
      | true =>
        go_wp2
        go_loopw [10, 11] (fun v i wr => ∃ j : Nat, j ≤ 3990 + m2 ∧ i = .int .i64 j ∧ wr.ownsRow w.heap.size 5 1 v (reps true j).length ((reps true j).map bv) ∧ Below w.heap.size w wr) (fun _ i _ => 3990 + m2 - (intOf i).toNat)
        case atStart => exact ⟨0, by omega, rfl, HM.out, HB3.out⟩
        case round =>
          obtain ⟨j, hj, rfl, hown, hbel⟩ := hrel
          have HO := Lib.hid hown
          have HBE := Lib.hid hbel
          clear hown hbel
          have hrl := reps_le true j (by omega)
          by_cases hjn : j < 3990 + m2
          · have dj : decide ((j : Int) < 3990 + (m2 : Int)) = true := by simp; omega
            obtain ⟨sa, sc, rfl⟩ := owns_form HO.out
            go_wp2_with (first | (at_builtin; refine wpList_append_own _ rfl (.tmp 41) (.tmp 42) 22 rfl w.heap.size 5 i0 _ 1 1 Try.underlying22 hi hz0 hz1 hz2 rfl (by decide) _ (reps true j).length ((reps true j).map bv) rfl (HO.out.alloc _) ⟨wr.heap.size, 0, none⟩ 1 1 [.int .u8 59] rfl rfl (news_any wr wr.heap.size rfl _ _) (one_bytes [59]) (by unfold maxLen; omega) (by omega) (by have := HBE.out.size; simp; omega) ?_))
            intro v1 w3 hown3 hgrow3 _
            have hbel3 := grown_one HO.out HBE.out (Below.refl _ _) hgrow3
            have HO3 := Lib.hid hown3
            have HBE3 := Lib.hid hbel3
            clear hown3 hgrow3 hbel3
            obtain ⟨va, vc, hv1⟩ := owns_form HO3.out
            rw [hv1] at HO3 ⊢
            clear hv1
            go_wp2_with (first | (at_builtin; refine wpList_append_own _ rfl (.tmp 45) (.tmp 46) 22 rfl w.heap.size 5 i0 _ 1 1 Try.underlying22 hi hz0 hz1 hz2 rfl (by decide) _ ((reps true j).length + 1) ((reps true j).map bv ++ [.int .u8 59]) rfl (HO3.out.alloc _) ⟨w3.heap.size, 0, none⟩ 3 3 [.int .u8 47, .int .u8 47, .int .u8 10] rfl rfl (news_any w3 w3.heap.size rfl _ _) (one_bytes [47, 47, 10]) (by unfold maxLen; omega) (by omega) (by have := HBE3.out.size; simp; omega) ?_))
            intro v2 w4 hown4 hgrow4 _
            have hbel4 := grown_one HO3.out HBE3.out (Below.refl _ _) hgrow4
            have HO4 := Lib.hid hown4
            have HBE4 := Lib.hid hbel4
            clear hown4 hgrow4 hbel4
            go_wp2
            go_roundw
            case rel =>
              refine ⟨j + 1, by omega, by go_num, ?_, HBE4.out⟩
              have h4 := HO4.out
              rw [reps_snoc, List.length_append, List.map_append]
              exact h4
            case measure => simp [intOf]; omega
          · have dj : decide ((j : Int) < 3990 + (m2 : Int)) = false := by simp; omega
            have hje : j = 3990 + m2 := by omega
            subst hje
            obtain ⟨sa, sc, rfl⟩ := owns_form HO.out
            obtain ⟨hB, hcp⟩ := Byt.of_own rfl HO.out
            have HL := Lib.hid (lex_any (reps true (3990 + m2)) sa sc wr hB (by omega) hcp)
            have HS2 := fun W (h : Below wr.heap.size wr W) => sameB_any (reps true (3990 + m2)) sa sc W (hB.later h) (by omega) hcp
            have HSS := Lib.hid HS2
            have HLR := Lib.hid (lex_reps true (3990 + m2) (by omega))
            clear hB HS2 hcp
            generalize reps true (3990 + m2) = S at *
            go_wp2_with fail
            refine HL.out.mono ?_
            intro e w5 hp
            obtain ⟨A, c5, rfl, -, hb5⟩ := lexPost_open hp
            have HB5 := Lib.hid hb5
            clear hp hb5
            by_cases hmx : 3990 + m2 ≤ 4000
            · obtain ⟨q1, q2⟩ := HLR.out.1 hmx
              rw [q1, q2]
              clear q1 q2
              have d4 : decide (3990 + (m2 : Int) ≤ 4000) = true := by simp; omega
              go_wp2_with fail
              refine (HSS.out w5 HB5.out).mono ?_
              rintro e w6 ⟨rfl, hb6⟩
              go_wp2_with fail
              refine (awake_any _).mono ?_
              rintro e w7 ⟨rfl, hb7⟩
              go_wp2
              go_ret
              have g1 := HBE.out.trans (HB5.out.mono HBE.out.size)
              have g2 := g1.trans (hb6.mono g1.size)
              exact ⟨rfl, g2.trans (hb7.mono g2.size)⟩
            · have q1 := HLR.out.2 (by omega)
              rw [q1]
              clear q1
              have d4 : decide (3990 + (m2 : Int) ≤ 4000) = false := by simp; omega
              go_wp2_with fail
              refine (HSS.out w5 HB5.out).mono ?_
              rintro e w6 ⟨rfl, hb6⟩
              go_wp2_with fail
              refine (awake_any _).mono ?_
              rintro e w7 ⟨rfl, hb7⟩
              go_wp2
              go_ret
              have g1 := HBE.out.trans (HB5.out.mono HBE.out.size)
              have g2 := g1.trans (hb6.mono g1.size)
              exact ⟨rfl, g2.trans (hb7.mono g2.size)⟩
      | false =>
        go_wp2
        go_loopw [10, 11] (fun v i wr => ∃ j : Nat, j ≤ 3990 + m2 ∧ i = .int .i64 j ∧ wr.ownsRow w.heap.size 5 1 v (reps false j).length ((reps false j).map bv) ∧ Below w.heap.size w wr) (fun _ i _ => 3990 + m2 - (intOf i).toNat)
        case atStart => exact ⟨0, by omega, rfl, HM.out, HB3.out⟩
        case round =>
          obtain ⟨j, hj, rfl, hown, hbel⟩ := hrel
          have HO := Lib.hid hown
          have HBE := Lib.hid hbel
          clear hown hbel
          have hrl := reps_le false j (by omega)
          by_cases hjn : j < 3990 + m2
          · have dj : decide ((j : Int) < 3990 + (m2 : Int)) = true := by simp; omega
            obtain ⟨sa, sc, rfl⟩ := owns_form HO.out
            go_wp2_with (first | (at_builtin; refine wpList_append_own _ rfl (.tmp 41) (.tmp 42) 22 rfl w.heap.size 5 i0 _ 1 1 Try.underlying22 hi hz0 hz1 hz2 rfl (by decide) _ (reps false j).length ((reps false j).map bv) rfl (HO.out.alloc _) ⟨wr.heap.size, 0, none⟩ 1 1 [.int .u8 59] rfl rfl (news_any wr wr.heap.size rfl _ _) (one_bytes [59]) (by unfold maxLen; omega) (by omega) (by have := HBE.out.size; simp; omega) ?_))
            intro v1 w3 hown3 hgrow3 _
            have hbel3 := grown_one HO.out HBE.out (Below.refl _ _) hgrow3
            have HO3 := Lib.hid hown3
            have HBE3 := Lib.hid hbel3
            clear hown3 hgrow3 hbel3
            go_wp2
            go_roundw
            case rel =>
              refine ⟨j + 1, by omega, by go_num, ?_, HBE3.out⟩
              have h4 := HO3.out
              rw [reps_snoc, List.length_append, List.map_append]
              exact h4
            case measure => simp [intOf]; omega
          · have dj : decide ((j : Int) < 3990 + (m2 : Int)) = false := by simp; omega
            have hje : j = 3990 + m2 := by omega
            subst hje
            obtain ⟨sa, sc, rfl⟩ := owns_form HO.out
            obtain ⟨hB, hcp⟩ := Byt.of_own rfl HO.out
            have HL := Lib.hid (lex_any (reps false (3990 + m2)) sa sc wr hB (by omega) hcp)
            have HS2 := fun W (h : Below wr.heap.size wr W) => sameB_any (reps false (3990 + m2)) sa sc W (hB.later h) (by omega) hcp
            have HSS := Lib.hid HS2
            have HLR := Lib.hid (lex_reps false (3990 + m2) (by omega))
            clear hB HS2 hcp
            generalize reps false (3990 + m2) = S at *
            go_wp2_with fail
            refine HL.out.mono ?_
            intro e w5 hp
            obtain ⟨A, c5, rfl, -, hb5⟩ := lexPost_open hp
            have HB5 := Lib.hid hb5
            clear hp hb5
            by_cases hmx : 3990 + m2 ≤ 4000
            · obtain ⟨q1, q2⟩ := HLR.out.1 hmx
              rw [q1, q2]
              clear q1 q2
              have d4 : decide (3990 + (m2 : Int) ≤ 4000) = true := by simp; omega
              go_wp2_with fail
              refine (HSS.out w5 HB5.out).mono ?_
              rintro e w6 ⟨rfl, hb6⟩
              go_wp2_with fail
              refine (awake_any _).mono ?_
              rintro e w7 ⟨rfl, hb7⟩
              go_wp2
              go_ret
              have g1 := HBE.out.trans (HB5.out.mono HBE.out.size)
              have g2 := g1.trans (hb6.mono g1.size)
              exact ⟨rfl, g2.trans (hb7.mono g2.size)⟩
            · have q1 := HLR.out.2 (by omega)
              rw [q1]
              clear q1
              have d4 : decide (3990 + (m2 : Int) ≤ 4000) = false := by simp; omega
              go_wp2_with fail
              refine (HSS.out w5 HB5.out).mono ?_
              rintro e w6 ⟨rfl, hb6⟩
              go_wp2_with fail
              refine (awake_any _).mono ?_
              rintro e w7 ⟨rfl, hb7⟩
              go_wp2
              go_ret
              have g1 := HBE.out.trans (HB5.out.mono HBE.out.size)
              have g2 := g1.trans (hb6.mono g1.size)
              exact ⟨rfl, g2.trans (hb7.mono g2.size)⟩

end Go.Proofs.Ytbpeiblmpgmacaa
