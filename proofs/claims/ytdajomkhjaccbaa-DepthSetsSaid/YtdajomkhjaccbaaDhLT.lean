/- The walk of DepthSets. -/
import Derived.Test.YtdajomkhjaccbaaDhK
import Derived.Deep.RegionHeld3
namespace Go.Proofs.Ytdajomkhjaccbaa
open Go.RowKit
set_option maxRecDepth 100000

/-- the sum of the sets of the first i depths of a list -/
def suN (L : List Nat) : Nat → Nat
  | 0 => 0
  | i + 1 => suN L i + 2 ^ (L.getD i 0)
def okL (L : List Nat) : Bool := (List.range L.length).all fun i => decide (L.getD i 0 ≤ 8) && (i == 0 || decide (L.getD (i - 1) 0 < L.getD i 0))
theorem li_all : ∀ S, S < 512 → (okL (liV S 9) && (suN (liV S 9) (liV S 9).length == S)) = true := by decide +kernel
theorem li_ok (S : Nat) (h : S < 512) : okL (liV S 9) = true ∧ suN (liV S 9) (liV S 9).length = S := by
  have h1 := li_all S h
  rw [Bool.and_eq_true, beq_iff_eq] at h1
  exact h1
theorem okL_at {L : List Nat} (h : okL L = true) (i : Nat) (hi : i < L.length) : L.getD i 0 ≤ 8 ∧ (i = 0 ∨ L.getD (i - 1) 0 < L.getD i 0) := by
  have := List.all_eq_true.1 h i (List.mem_range.2 hi)
  simp only [Bool.and_eq_true, Bool.or_eq_true, decide_eq_true_eq, beq_iff_eq] at this
  exact this
theorem suN_le {L : List Nat} (h : okL L = true) (i : Nat) (hi : i ≤ L.length) : suN L i ≤ i * 256 := by
  induction i with
  | zero => exact Nat.le_refl _
  | succ i ih =>
    have h1 := ih (by omega)
    have h2 := (okL_at h i (by omega)).1
    have h3 : 2 ^ (L.getD i 0) ≤ 256 := Nat.pow_le_pow_right (j := 8) (by decide) h2
    show suN L i + 2 ^ (L.getD i 0) ≤ _
    omega

set_option maxHeartbeats 8000000 in
theorem depthSets_any (x n d : Int) (re : Bool) (sz : Int) (w : World) (hx : I64' x) (hn : I64' n) (hd : I64' d) (hz : I64' sz) :
    Calls Try.prog 3 #[.int .i64 x, .int .i64 n, .int .i64 d, .bool re, .int .i64 sz] w fun e w' => e = .returned (.bool true) ∧ Below w.heap.size w w' := by
  have HL := Lib.hid (fun W => limit_any n W hn)
  have hk : within n 9 ≤ 8 := by have := within_lt n 9 (by omega); omega
  generalize within n 9 = k at *
  have HSS : Hid (∀ W, Calls Try.prog 10 #[.int .i64 x, .int .i64 8] W fun e w' => e = .returned (.int .i64 (within x 512 : Int)) ∧ W = w') := fun W => set_any x 8 8 W hx rfl (by omega)
  have hS : within x 512 < 512 := within_lt x 512 (by omega)
  generalize within x 512 = S at *
  have HWS : Hid (∀ W, Calls Try.prog 12 #[.int .i64 sz, .int .i64 65] W fun e w' => e = .returned (.int .i64 (within sz 65 : Int)) ∧ W = w') := fun W => within_any sz 65 W hz (by omega) (by omega)
  have hM : within sz 65 < 65 := within_lt sz 65 (by omega)
  generalize within sz 65 = M at *
  have HLI := Lib.hid (fun W => list_any W S hS)
  obtain ⟨hok, hsu⟩ := li_ok S hS
  have hl9 := liV_len S 9
  have HOK := Lib.hid hok
  have HSU := Lib.hid hsu
  generalize liV S 9 = L at *
  unfold I64' at hd
  clear hx hn hz hok hsu
  go_enter Try.func3, Try.ntmps3
  go_wp2_with fail
  refine (HL.out _).mono ?_
  rintro e w1 ⟨rfl, rfl⟩
  go_wp2_with fail
  refine (HSS.out _).mono ?_
  rintro e w1 ⟨rfl, rfl⟩
  go_wp2_with fail
  refine (HLI.out _).mono ?_
  rintro e w1 ⟨A, c, rfl, hR, hb⟩
  have HR := Lib.hid (fun W (h : Below w1.heap.size w1 W) => hR.later h)
  have HB := Lib.hid hb
  clear hR hb HLI HSS HL
  go_wp2_with fail
  go_loopw [14, 15] (fun v i wr => ∃ j : Nat, j ≤ L.length ∧ i = .int .i64 (j : Int) ∧ v = .int .i64 (suN L j : Int) ∧ Hid (Below w1.heap.size w1 wr)) (fun _ i _ => L.length - (intOf i).toNat)
  case atStart => exact ⟨0, Nat.zero_le _, rfl, rfl, Below.refl _ _⟩
  case round =>
    obtain ⟨j, hj, rfl, rfl, HW⟩ := hrel
    by_cases hlt : j < L.length
    · have g0 : (j : Int) < (L.length : Int) := by omega
      have g1 : (0 : Int) ≤ (j : Int) := by omega
      have hle := suN_le HOK.out j hj
      obtain ⟨h8, hinc⟩ := okL_at HOK.out j hlt
      have HSJ : Hid (suN L (j + 1) = suN L j + 2 ^ (L.getD j 0)) := rfl
      obtain ⟨b0, rfl, c0⟩ := HR.out wr HW.out j hlt
      have hp := pow_le (L.getD j 0) (by omega)
      have HJ := Lib.hid (wrap_pow (L.getD j 0) (by omega))
      rw [getD_in L j hlt] at h8 hinc HSJ hp HJ
      have hjp : j = 0 ∨ ∃ m, j = m + 1 ∧ m < L.length := by
        cases j with
        | zero => exact .inl rfl
        | succ m => exact .inr ⟨m, rfl, by omega⟩
      have HVAL : Hid (Value.int .i64 (wrap64 ((suN L j : Int) + wrap64 ((2 : Int) ^ L[j]))) = .int .i64 (suN L (j + 1) : Int)) := by
        show _ = _
        rw [HSJ.out, HJ.out]
        generalize 2 ^ L[j] = p at *
        refine congrArg (Value.int .i64) ?_
        unfold wrap64
        omega
      clear HSJ HJ hp
      rcases hjp with hj0 | ⟨m, hjm, hml⟩
      · generalize L[j] = v at *
        have t0 : decide ((v : Int) < 0) = false := decide_eq_false (by omega)
        have t1 : decide ((8 : Int) < (v : Int)) = false := decide_eq_false (by omega)
        have t1' : decide (8 < v) = false := decide_eq_false (by omega)
        have t2 : decide ((0 : Int) < (j : Int)) = false := decide_eq_false (by omega)
        have t2' : decide (0 < j) = false := decide_eq_false (by omega)
        clear hinc hj0
        go_wp2_with fail
        go_quiet (fail)
        go_wp2_with fail
        go_roundw
        case rel => exact ⟨j + 1, hlt, by go_num, HVAL.out, below_drewN HW.out _⟩
        case measure => simp [intOf]; omega
      · have hin : L.getD (j - 1) 0 = L[m] := by rw [hjm, Nat.add_sub_cancel, getD_in L m hml]
        rw [hin] at hinc
        obtain ⟨b1, e1, c1⟩ := HR.out wr HW.out m hml
        injection e1 with e1
        injection e1 with e1
        subst e1
        generalize L[j] = v at *
        generalize L[m] = u at *
        have t0 : decide ((v : Int) < 0) = false := decide_eq_false (by omega)
        have t1 : decide ((8 : Int) < (v : Int)) = false := decide_eq_false (by omega)
        have t1' : decide (8 < v) = false := decide_eq_false (by omega)
        have t2 : decide ((0 : Int) < (j : Int)) = true := decide_eq_true (by omega)
        have t2' : decide (0 < j) = true := decide_eq_true (by omega)
        have t3 : decide ((v : Int) ≤ (u : Int)) = false := decide_eq_false (by omega)
        have t3' : decide (v ≤ u) = false := decide_eq_false (by omega)
        have j1 : IntKind.i64.wrap ((j : Int) - 1) = (m : Int) := by rw [IntKind.wrap_i64]; omega
        have g2 : (0 : Int) ≤ (m : Int) := by omega
        have g3 : (m : Int) < (L.length : Int) := by omega
        have HJM := Lib.hid hjm
        clear hinc hjm hin
        go_wp2_with fail
        go_quiet (fail)
        go_wp2_with fail
        go_roundw
        case rel => exact ⟨j + 1, hlt, by go_num, HVAL.out, below_drewN HW.out _⟩
        case measure => simp [intOf]; omega
    · obtain rfl : j = L.length := by omega
      have g0 : ¬ (L.length : Int) < (L.length : Int) := by omega
      rw [HSU.out]
      have HB2 := Lib.hid (below_two HB.out HW.out)
      clear HR HB HW
      cases re with
      | true =>
        have hbv := HB2.out.alloc HB2.out.size (.cells #[.string ⟨#[]⟩, .bool true, .int .i64 0] 27)
        have HBV := Lib.hid hbv
        have hnew := heap_alloc_new wr (.cells #[.string ⟨#[]⟩, .bool true, .int .i64 0] 27)
        have q := fun i => cell_of_row _ wr.heap.size i _ _ _ hnew
        have c0 := q 0
        have c1 := q 1
        have c2 := q 2
        clear q hnew hbv
        by_cases hd1 : d < 0 ∨ 100 < d
        · have HH : Hid (∀ W, Calls Try.prog 13 #[.int .i64 (S : Int), .int .i64 d] W fun e w' => e = .returned (.bool false) ∧ W = w') := fun W => by
            have h := hasD_any S d W hS
            rw [inS_not S d (by omega)] at h
            exact h
          rcases hd1 with hd1 | hd1
          · go_wp2_with fail
            refine (HWS.out _).mono ?_
            rintro e w2 ⟨rfl, rfl⟩
            go_wp2_with fail
            refine (HH.out _).mono ?_
            rintro e w2 ⟨rfl, rfl⟩
            go_wp2_with fail
            refine (awake14_any _).mono ?_
            rintro e w9 ⟨rfl, hb⟩
            have HB3 := Lib.hid (below_two HBV.out hb)
            clear hb
            go_wp2_with fail
            go_ret
            exact ⟨rfl, HB3.out⟩
          · have hd2 : ¬ d < 0 := by omega
            go_wp2_with fail
            refine (HWS.out _).mono ?_
            rintro e w2 ⟨rfl, rfl⟩
            go_wp2_with fail
            refine (HH.out _).mono ?_
            rintro e w2 ⟨rfl, rfl⟩
            go_wp2_with fail
            refine (awake14_any _).mono ?_
            rintro e w9 ⟨rfl, hb⟩
            have HB3 := Lib.hid (below_two HBV.out hb)
            clear hb
            go_wp2_with fail
            go_ret
            exact ⟨rfl, HB3.out⟩
        · have hd2 : ¬ d < 0 := by omega
          have hd3 : ¬ 100 < d := by omega
          clear hd1
          go_wp2_with fail
          refine (HWS.out _).mono ?_
          rintro e w2 ⟨rfl, rfl⟩
          go_wp2_with fail
          generalize hwv : wr.alloc (.cells #[.string ⟨#[]⟩, .bool true, .int .i64 0] 27) = wv at *
          generalize hgg : wr.heap.size = g at *
          clear hwv hgg
          have HFU := Lib.hid (fun W => (full_any (k : Int) k W rfl hk).mono (R' := fun e w' => e = .returned (.int .i64 ((2 ^ (k + 1) - 1 : Nat) : Int)) ∧ Below W.heap.size W w') fun e w' h => ⟨h.1, h.2 ▸ Below.refl _ _⟩)
          have HHA := Lib.hid (fun W => (hasD_any S d W hS).mono (R' := fun e w' => e = .returned (.bool (inS S d)) ∧ Below W.heap.size W w') fun e w' h => ⟨h.1, h.2 ▸ Below.refl _ _⟩)
          have HIN := Lib.hid (fun W => (in_any S d W hS).mono (R' := fun e w' => e = .returned (.bool (inS S d)) ∧ Below W.heap.size W w') fun e w' h => ⟨h.1, h.2 ▸ Below.refl _ _⟩)
          have HCA := Lib.hid (fun W => cap_any ⟨#[]⟩ true 0 W)
          have HRC := Lib.hid (fun W => refCap_any ⟨#[]⟩ true 0 W (by omega))
          have HAW := Lib.hid (fun W => awake14_any W)
          have j1 : IntKind.i64.wrap ((k : Int) + 1) = (k : Int) + 1 := by rw [IntKind.wrap_i64]; omega
          have j2 : ((k : Int) + 1).toNat = k + 1 := by omega
          have hp := pow_le (k + 1) (by omega)
          have hp0 := Nat.two_pow_pos (k + 1)
          have hc : (2 : Int) ^ (k + 1) = ((2 ^ (k + 1) : Nat) : Int) := by simp
          have j3 : IntKind.i64.wrap ((2 : Int) ^ (k + 1)) = (2 : Int) ^ (k + 1) := by rw [hc, IntKind.wrap_i64]; omega
          have j4 : IntKind.i64.wrap ((2 : Int) ^ (k + 1) - 1) = ((2 ^ (k + 1) - 1 : Nat) : Int) := by rw [hc, IntKind.wrap_i64]; omega
          clear hp hp0 hc
          generalize 2 ^ (k + 1) - 1 = P at *
          generalize inS S d = bb at *
          generalize capV true 0 = cv at *
          have t0 := bT (rfl : (S : Int) = (S : Int))
          have t1 := bT (rfl : (P : Int) = (P : Int))
          have t2 : (bb == bb) = true := by cases bb <;> rfl
          have t3 := bT (rfl : cv = cv)
          have hbb : Below wv.heap.size wv wv := Below.refl _ _
          go_region_held3 (fun w' => w'.cell? ⟨g, 0, none⟩ = some (.string ⟨#[]⟩) ∧ w'.cell? ⟨g, 1, none⟩ = some (.bool true) ∧ w'.cell? ⟨g, 2, none⟩ = some (.int .i64 0) ∧ Below wv.heap.size wv w')
            (refine ⟨?_, ?_, ?_, ?_⟩ <;> first | assumption | (refine Below.drew ?_; assumption))
            (first
            | (go_at_call 15; obtain ⟨r0, r1, r2, rb⟩ := ‹_ ∧ _ ∧ _ ∧ Below wv.heap.size wv _›; refine (HFU.out _).mono ?_; rintro e w' ⟨rfl, hb⟩; have u0 := cell_later hb r0; have u1 := cell_later hb r1; have u2 := cell_later hb r2; have ub := below_two rb hb; clear r0 r1 r2 rb hb)
            | (go_at_call 13; obtain ⟨r0, r1, r2, rb⟩ := ‹_ ∧ _ ∧ _ ∧ Below wv.heap.size wv _›; refine (HHA.out _).mono ?_; rintro e w' ⟨rfl, hb⟩; have u0 := cell_later hb r0; have u1 := cell_later hb r1; have u2 := cell_later hb r2; have ub := below_two rb hb; clear r0 r1 r2 rb hb)
            | (go_at_call 16; obtain ⟨r0, r1, r2, rb⟩ := ‹_ ∧ _ ∧ _ ∧ Below wv.heap.size wv _›; refine (HIN.out _).mono ?_; rintro e w' ⟨rfl, hb⟩; have u0 := cell_later hb r0; have u1 := cell_later hb r1; have u2 := cell_later hb r2; have ub := below_two rb hb; clear r0 r1 r2 rb hb)
            | (go_at_call 17; obtain ⟨r0, r1, r2, rb⟩ := ‹_ ∧ _ ∧ _ ∧ Below wv.heap.size wv _›; refine (HCA.out _).mono ?_; rintro e w' ⟨rfl, hb⟩; have u0 := cell_later hb r0; have u1 := cell_later hb r1; have u2 := cell_later hb r2; have ub := below_two rb hb; clear r0 r1 r2 rb hb)
            | (go_at_call 18; obtain ⟨r0, r1, r2, rb⟩ := ‹_ ∧ _ ∧ _ ∧ Below wv.heap.size wv _›; refine (HRC.out _).mono ?_; rintro e w' ⟨rfl, hb⟩; have u0 := cell_later hb r0; have u1 := cell_later hb r1; have u2 := cell_later hb r2; have ub := below_two rb hb; clear r0 r1 r2 rb hb)
            | (go_at_call 14; obtain ⟨r0, r1, r2, rb⟩ := ‹_ ∧ _ ∧ _ ∧ Below wv.heap.size wv _›; refine (HAW.out _).mono ?_; rintro e w' ⟨rfl, hb⟩; have u0 := cell_later hb r0; have u1 := cell_later hb r1; have u2 := cell_later hb r2; have ub := below_two rb hb; clear r0 r1 r2 rb hb))
          all_goals
            have HUB := Lib.hid (below_two HBV.out ub)
            clear u0 u1 u2 ub
            go_wp2_with fail
            go_ret
            exact ⟨rfl, HUB.out⟩
      | false =>
        have hbv := HB2.out.alloc HB2.out.size (.cells #[.string ⟨#[]⟩, .bool false, .int .i64 (M : Int)] 27)
        have HBV := Lib.hid hbv
        have hnew := heap_alloc_new wr (.cells #[.string ⟨#[]⟩, .bool false, .int .i64 (M : Int)] 27)
        have q := fun i => cell_of_row _ wr.heap.size i _ _ _ hnew
        have c0 := q 0
        have c1 := q 1
        have c2 := q 2
        clear q hnew hbv
        by_cases hd1 : d < 0 ∨ 100 < d
        · have HH : Hid (∀ W, Calls Try.prog 13 #[.int .i64 (S : Int), .int .i64 d] W fun e w' => e = .returned (.bool false) ∧ W = w') := fun W => by
            have h := hasD_any S d W hS
            rw [inS_not S d (by omega)] at h
            exact h
          rcases hd1 with hd1 | hd1
          · go_wp2_with fail
            refine (HWS.out _).mono ?_
            rintro e w2 ⟨rfl, rfl⟩
            go_wp2_with fail
            refine (HH.out _).mono ?_
            rintro e w2 ⟨rfl, rfl⟩
            go_wp2_with fail
            refine (awake14_any _).mono ?_
            rintro e w9 ⟨rfl, hb⟩
            have HB3 := Lib.hid (below_two HBV.out hb)
            clear hb
            go_wp2_with fail
            go_ret
            exact ⟨rfl, HB3.out⟩
          · have hd2 : ¬ d < 0 := by omega
            go_wp2_with fail
            refine (HWS.out _).mono ?_
            rintro e w2 ⟨rfl, rfl⟩
            go_wp2_with fail
            refine (HH.out _).mono ?_
            rintro e w2 ⟨rfl, rfl⟩
            go_wp2_with fail
            refine (awake14_any _).mono ?_
            rintro e w9 ⟨rfl, hb⟩
            have HB3 := Lib.hid (below_two HBV.out hb)
            clear hb
            go_wp2_with fail
            go_ret
            exact ⟨rfl, HB3.out⟩
        · have hd2 : ¬ d < 0 := by omega
          have hd3 : ¬ 100 < d := by omega
          clear hd1
          go_wp2_with fail
          refine (HWS.out _).mono ?_
          rintro e w2 ⟨rfl, rfl⟩
          go_wp2_with fail
          generalize hwv : wr.alloc (.cells #[.string ⟨#[]⟩, .bool false, .int .i64 (M : Int)] 27) = wv at *
          generalize hgg : wr.heap.size = g at *
          clear hwv hgg
          have HFU := Lib.hid (fun W => (full_any (k : Int) k W rfl hk).mono (R' := fun e w' => e = .returned (.int .i64 ((2 ^ (k + 1) - 1 : Nat) : Int)) ∧ Below W.heap.size W w') fun e w' h => ⟨h.1, h.2 ▸ Below.refl _ _⟩)
          have HHA := Lib.hid (fun W => (hasD_any S d W hS).mono (R' := fun e w' => e = .returned (.bool (inS S d)) ∧ Below W.heap.size W w') fun e w' h => ⟨h.1, h.2 ▸ Below.refl _ _⟩)
          have HIN := Lib.hid (fun W => (in_any S d W hS).mono (R' := fun e w' => e = .returned (.bool (inS S d)) ∧ Below W.heap.size W w') fun e w' h => ⟨h.1, h.2 ▸ Below.refl _ _⟩)
          have HCA := Lib.hid (fun W => cap_any ⟨#[]⟩ false (M : Int) W)
          have HRC := Lib.hid (fun W => refCap_any ⟨#[]⟩ false (M : Int) W (by omega))
          have HAW := Lib.hid (fun W => awake14_any W)
          have j1 : IntKind.i64.wrap ((k : Int) + 1) = (k : Int) + 1 := by rw [IntKind.wrap_i64]; omega
          have j2 : ((k : Int) + 1).toNat = k + 1 := by omega
          have hp := pow_le (k + 1) (by omega)
          have hp0 := Nat.two_pow_pos (k + 1)
          have hc : (2 : Int) ^ (k + 1) = ((2 ^ (k + 1) : Nat) : Int) := by simp
          have j3 : IntKind.i64.wrap ((2 : Int) ^ (k + 1)) = (2 : Int) ^ (k + 1) := by rw [hc, IntKind.wrap_i64]; omega
          have j4 : IntKind.i64.wrap ((2 : Int) ^ (k + 1) - 1) = ((2 ^ (k + 1) - 1 : Nat) : Int) := by rw [hc, IntKind.wrap_i64]; omega
          clear hp hp0 hc
          generalize 2 ^ (k + 1) - 1 = P at *
          generalize inS S d = bb at *
          generalize capV false (M : Int) = cv at *
          have t0 := bT (rfl : (S : Int) = (S : Int))
          have t1 := bT (rfl : (P : Int) = (P : Int))
          have t2 : (bb == bb) = true := by cases bb <;> rfl
          have t3 := bT (rfl : cv = cv)
          have hbb : Below wv.heap.size wv wv := Below.refl _ _
          go_region_held3 (fun w' => w'.cell? ⟨g, 0, none⟩ = some (.string ⟨#[]⟩) ∧ w'.cell? ⟨g, 1, none⟩ = some (.bool false) ∧ w'.cell? ⟨g, 2, none⟩ = some (.int .i64 (M : Int)) ∧ Below wv.heap.size wv w')
            (refine ⟨?_, ?_, ?_, ?_⟩ <;> first | assumption | (refine Below.drew ?_; assumption))
            (first
            | (go_at_call 15; obtain ⟨r0, r1, r2, rb⟩ := ‹_ ∧ _ ∧ _ ∧ Below wv.heap.size wv _›; refine (HFU.out _).mono ?_; rintro e w' ⟨rfl, hb⟩; have u0 := cell_later hb r0; have u1 := cell_later hb r1; have u2 := cell_later hb r2; have ub := below_two rb hb; clear r0 r1 r2 rb hb)
            | (go_at_call 13; obtain ⟨r0, r1, r2, rb⟩ := ‹_ ∧ _ ∧ _ ∧ Below wv.heap.size wv _›; refine (HHA.out _).mono ?_; rintro e w' ⟨rfl, hb⟩; have u0 := cell_later hb r0; have u1 := cell_later hb r1; have u2 := cell_later hb r2; have ub := below_two rb hb; clear r0 r1 r2 rb hb)
            | (go_at_call 16; obtain ⟨r0, r1, r2, rb⟩ := ‹_ ∧ _ ∧ _ ∧ Below wv.heap.size wv _›; refine (HIN.out _).mono ?_; rintro e w' ⟨rfl, hb⟩; have u0 := cell_later hb r0; have u1 := cell_later hb r1; have u2 := cell_later hb r2; have ub := below_two rb hb; clear r0 r1 r2 rb hb)
            | (go_at_call 17; obtain ⟨r0, r1, r2, rb⟩ := ‹_ ∧ _ ∧ _ ∧ Below wv.heap.size wv _›; refine (HCA.out _).mono ?_; rintro e w' ⟨rfl, hb⟩; have u0 := cell_later hb r0; have u1 := cell_later hb r1; have u2 := cell_later hb r2; have ub := below_two rb hb; clear r0 r1 r2 rb hb)
            | (go_at_call 18; obtain ⟨r0, r1, r2, rb⟩ := ‹_ ∧ _ ∧ _ ∧ Below wv.heap.size wv _›; refine (HRC.out _).mono ?_; rintro e w' ⟨rfl, hb⟩; have u0 := cell_later hb r0; have u1 := cell_later hb r1; have u2 := cell_later hb r2; have ub := below_two rb hb; clear r0 r1 r2 rb hb)
            | (go_at_call 14; obtain ⟨r0, r1, r2, rb⟩ := ‹_ ∧ _ ∧ _ ∧ Below wv.heap.size wv _›; refine (HAW.out _).mono ?_; rintro e w' ⟨rfl, hb⟩; have u0 := cell_later hb r0; have u1 := cell_later hb r1; have u2 := cell_later hb r2; have ub := below_two rb hb; clear r0 r1 r2 rb hb))
          all_goals
            have HUB := Lib.hid (below_two HBV.out ub)
            clear u0 u1 u2 ub
            go_wp2_with fail
            go_ret
            exact ⟨rfl, HUB.out⟩
end Go.Proofs.Ytdajomkhjaccbaa
