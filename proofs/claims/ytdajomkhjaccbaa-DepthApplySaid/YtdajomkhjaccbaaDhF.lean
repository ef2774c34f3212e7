/- What the reference's Shift, the maker of relations, Within, Cap and the law's limit and set do. -/
import Derived.Test.YtdajomkhjaccbaaDhE
namespace Go.Proofs.Ytdajomkhjaccbaa
open Go.RowKit
set_option maxRecDepth 100000

/-- the numbers xs are read at A -/
def IrR (w : World) (A : Option Addr) (xs : List Int) : Prop :=
  ∀ i (h : i < xs.length), ∃ b off, A = some ⟨b, off, none⟩ ∧ w.cell? ⟨b, off + i, none⟩ = some (.int .i64 xs[i]) ∧ -9223372036854775808 ≤ xs[i] ∧ xs[i] ≤ 9223372036854775807
theorem IrR.later {w w' : World} {A : Option Addr} {xs : List Int} (h : IrR w A xs) (hb : Below w.heap.size w w') : IrR w' A xs := by
  intro i hi
  obtain ⟨b, off, e, hc, r⟩ := h i hi
  exact ⟨b, off, e, cell_later hb hc, r⟩

theorem limit_any (n : Int) (w : World) (hn : I64' n) :
    Calls Try.prog 9 #[.int .i64 n] w fun e w' => e = .returned (.int .i64 (within n 9 : Int)) ∧ w = w' := by
  have HW := Lib.hid (fun W => within_any n 9 W hn (by omega) (by omega))
  clear hn
  go_enter Try.func9, Try.ntmps9
  go_wp2_with fail
  refine (HW.out _).mono ?_
  rintro e w1 ⟨rfl, rfl⟩
  go_wp2_with fail
  go_ret
  exact ⟨rfl, rfl⟩
theorem set_any (n m : Int) (k : Nat) (w : World) (hn : I64' n) (hm : m = (k : Int)) (hk : k ≤ 8) :
    Calls Try.prog 10 #[.int .i64 n, .int .i64 m] w fun e w' => e = .returned (.int .i64 (within n (2 ^ (k + 1)) : Int)) ∧ w = w' := by
  subst hm
  have hp := pow_le (k + 1) (by omega)
  have hp0 := Nat.two_pow_pos (k + 1)
  have HW := Lib.hid (fun W => within_any n ((2 ^ (k + 1) : Nat) : Int) W hn (by omega) (by omega))
  rw [Int.toNat_natCast] at HW
  have HJ := Lib.hid (wrap_pow (k + 1) (by omega))
  have j2 : ((k : Int) + 1).toNat = k + 1 := by omega
  clear hn
  go_enter Try.func10, Try.ntmps10
  go_wp2_with fail
  rw [HJ.out]
  refine (HW.out _).mono ?_
  rintro e w1 ⟨rfl, rfl⟩
  go_wp2_with fail
  go_ret
  exact ⟨rfl, rfl⟩
def capV (r : Bool) (sz : Int) : Int := if r = true ∨ 0 < sz then 8 else 1
theorem cap_any (s : ByteArray) (r : Bool) (sz : Int) (w : World) :
    Calls Try.prog 17 #[.agg #[.string s, .bool r, .int .i64 sz]] w fun e w' => e = .returned (.int .i64 (capV r sz)) ∧ Below w.heap.size w w' := by
  have hb : Below w.heap.size w (w.alloc (.cells #[.string s, .bool r, .int .i64 sz] 27)) := (Below.refl _ _).alloc (Nat.le_refl _) _
  have HB := Lib.hid hb
  clear hb
  cases r with
  | true =>
    go_enter Try.func17, Try.ntmps17
    go_wp2
    go_ret
    exact ⟨rfl, HB.out⟩
  | false =>
    by_cases h : 0 < sz
    · have HV : Hid (capV false sz = 8) := by show _ = _; unfold capV; rw [if_pos (.inr h)]
      go_enter Try.func17, Try.ntmps17
      go_wp2
      go_ret
      exact ⟨by rw [HV.out]; rfl, HB.out⟩
    · have HV : Hid (capV false sz = 1) := by show _ = _; unfold capV; rw [if_neg (by simp; omega)]
      go_enter Try.func17, Try.ntmps17
      go_wp2
      go_ret
      exact ⟨by rw [HV.out]; rfl, HB.out⟩
theorem refCap_any (s : ByteArray) (r : Bool) (sz : Int) (w : World) (h0 : 0 ≤ sz) :
    Calls Try.prog 18 #[.agg #[.string s, .bool r, .int .i64 sz]] w fun e w' => e = .returned (.int .i64 (capV r sz)) ∧ Below w.heap.size w w' := by
  have hb : Below w.heap.size w (w.alloc (.cells #[.string s, .bool r, .int .i64 sz] 27)) := (Below.refl _ _).alloc (Nat.le_refl _) _
  have HB := Lib.hid hb
  clear hb
  by_cases h : sz = 0
  · have t0 := bT h
    cases r with
    | true =>
      have HV : Hid (capV true sz = 8) := rfl
      clear h
      go_enter Try.func18, Try.ntmps18
      go_wp2
      go_ret
      exact ⟨by rw [HV.out]; rfl, HB.out⟩
    | false =>
      have HV : Hid (capV false sz = 1) := by show _ = _; unfold capV; rw [if_neg (by simp; omega)]
      clear h
      go_enter Try.func18, Try.ntmps18
      go_wp2
      go_ret
      exact ⟨by rw [HV.out]; rfl, HB.out⟩
  · have t0 := bF h
    have HV : Hid (capV r sz = 8) := by show _ = _; unfold capV; rw [if_pos (.inr (by omega))]
    clear h
    go_enter Try.func18, Try.ntmps18
    go_wp2
    go_ret
    exact ⟨by rw [HV.out]; rfl, HB.out⟩

theorem andNot_nat (a b : Nat) (ha : a < 512) (hb : b < 512) : bits .andNot .i64 (a : Int) (b : Int) = ((a &&& (2 ^ 64 - (b + 1)) : Nat) : Int) := by
  have hx : a &&& (2 ^ 64 - (b + 1)) ≤ a := Nat.and_le_left
  have h1 : (BitVec.ofInt 64 (a : Int)).toNat = a := by
    rw [BitVec.ofInt_natCast, BitVec.toNat_ofNat]; exact Nat.mod_eq_of_lt (by omega)
  have h2 : (BitVec.ofInt 64 (b : Int)).toNat = b := by
    rw [BitVec.ofInt_natCast, BitVec.toNat_ofNat]; exact Nat.mod_eq_of_lt (by omega)
  show IntKind.i64.wrap ((BitVec.ofInt 64 (a : Int) &&& ~~~BitVec.ofInt 64 (b : Int)).toNat : Int) = _
  have e : 2 ^ 64 - 1 - b = 2 ^ 64 - (b + 1) := by omega
  rw [BitVec.toNat_and, BitVec.toNat_not, h1, h2, IntKind.wrap_i64, e]
  omega
theorem andNot_zero (a b : Nat) (ha : a < 512) (hb : b < 512) : a &&& (2 ^ 64 - (b + 1)) = 0 ↔ a &&& b = a := by
  rw [and_sub]
  constructor
  · intro h j hj
    have h' : (a &&& (2 ^ 64 - (b + 1))).testBit j = false := by rw [h]; simp
    rw [Nat.testBit_and, hj, Bool.true_and, Nat.testBit_two_pow_sub_succ (by omega)] at h'
    have hj64 : j < 64 := by
      refine Nat.lt_of_not_le fun hle => ?_
      rw [Nat.testBit_lt_two_pow (Nat.lt_of_lt_of_le (show a < 2 ^ 9 from ha) (Nat.pow_le_pow_right (by decide) (by omega)))] at hj
      cases hj
    rw [decide_eq_true hj64, Bool.true_and] at h'
    simpa using h'
  · intro h
    refine Nat.eq_of_testBit_eq fun j => ?_
    rw [Nat.testBit_and, Nat.testBit_two_pow_sub_succ (by omega), Nat.zero_testBit]
    cases hj : a.testBit j with
    | false => rfl
    | true => rw [h j hj]; simp
theorem wiT_succ (a b : List Nat) (k : Nat) : wiT a b (k + 1) = (wiT a b k && (a.getD k 0 &&& b.getD k 0 == a.getD k 0)) := by
  unfold wiT
  rw [List.range_succ, List.all_append]
  simp
theorem wiT_stop (a b : List Nat) (k : Nat) (hk : k < a.length) (h : ¬ (a.getD k 0 &&& b.getD k 0 = a.getD k 0)) : wiV a b = false := by
  unfold wiV wiT
  rw [List.all_eq_false]
  exact ⟨k, List.mem_range.2 hk, by simpa using h⟩

set_option maxHeartbeats 400000 in
theorem depWithin_any (w : World) (A B : Option Addr) (a b : List Nat) (ca cb : Nat) (hA : RlV w A a) (hB : RlV w B b) :
    Calls Try.prog 31 #[.slice A a.length ca, .slice B b.length cb] w fun e w' => e = .returned (.bool (wiV a b)) ∧ w = w' := by
  have HA := Lib.hid hA
  have HB := Lib.hid hB
  have hll := hA.len
  clear hA hB
  go_enter Try.func31, Try.ntmps31
  go_wp2_with fail
  go_loopw [9] (fun i wr => ∃ k : Nat, k ≤ a.length ∧ i = .int .i64 (k : Int) ∧ Hid (wiT a b k = true) ∧ w = wr) (fun i _ => a.length - (intOf i).toNat)
  case atStart => exact ⟨0, Nat.zero_le _, rfl, rfl, rfl⟩
  case round =>
    obtain ⟨k, hk, rfl, HT, rfl⟩ := hrel
    by_cases hlt : k < a.length
    · have hlt' : (k : Int) < (a.length : Int) := by omega
      have hk0 : (0 : Int) ≤ (k : Int) := by omega
      obtain ⟨b0, rfl, c0⟩ := HA.out.rd k hlt
      have hx := HA.out.bd.at k hlt
      have hy := HB.out.bd.getD k
      have HF := Lib.hid (follow_any w B cb b k HB.out.rd (by omega))
      have HS := Lib.hid (wiT_succ a b k)
      have HX := Lib.hid (wiT_stop a b k hlt)
      rw [getD_in a k hlt] at HS HX
      generalize a[k] = x at *
      generalize b.getD k 0 = y at *
      have HZ := Lib.hid (andNot_zero x y hx hy)
      have j1 := andNot_nat x y hx hy
      generalize x &&& (2 ^ 64 - (y + 1)) = z at *
      by_cases hz : z = 0
      · have t0 := nF (show (z : Int) = 0 by omega)
        have HN : Hid (wiT a b (k + 1) = true) := by show _ = _; rw [HS.out, HT.out, beq_iff_eq.2 (HZ.out.1 hz)]; rfl
        clear hz HX
        go_wp2_with fail
        refine HF.out.mono ?_
        rintro e w1 ⟨rfl, rfl⟩
        go_wp2_with fail
        go_roundw
        case rel => exact ⟨k + 1, hlt, by go_num, HN.out, trivial⟩
        case measure => simp [intOf]; omega
      · have t0 := nT (show (z : Int) ≠ 0 by omega)
        have HN := Lib.hid (HX.out fun h => hz (HZ.out.2 h))
        clear hz HX
        go_wp2_with fail
        refine HF.out.mono ?_
        rintro e w1 ⟨rfl, rfl⟩
        go_wp2_with fail
        go_ret
        exact ⟨by rw [HN.out]; rfl, rfl⟩
    · obtain rfl : k = a.length := by omega
      have HV : Hid (wiV a b = true) := HT.out
      go_wp2_with fail
      go_ret
      exact ⟨by rw [HV.out]; rfl, rfl⟩

theorem rowF_stop (f : Nat → Nat) (n k : Nat) (h : ∀ d, k ≤ d → d < n → f d = 0) : rowF f n k = (List.range n).map f := by
  unfold rowF
  refine List.map_congr_left fun i hi => ?_
  by_cases h' : i < k
  · rw [if_pos h']
  · rw [if_neg h', h i (by omega) (List.mem_range.1 hi)]
def relF (xs : List Int) (k d : Nat) : Nat := if h : d < xs.length then within xs[d] (2 ^ (k + 1)) else 0
theorem relV_f (xs : List Int) (k : Nat) : relV xs k = (List.range (k + 1)).map (relF xs k) := rfl
set_option maxHeartbeats 400000 in
theorem relation_any (w : World) (A : Option Addr) (xs : List Int) (ca k : Nat) (hA : IrR w A xs) (hk : k ≤ 8) (_hl : xs.length ≤ 9223372036854775807) :
    Calls Try.prog 25 #[.slice A xs.length ca, .int .i64 (k : Int)] w (RlP w (k + 1) (relV xs k)) := by
  have HA := Lib.hid (fun W (h : Below w.heap.size w W) => hA.later h)
  have HRZ := Lib.hid (rowF_zero (relF xs k) (k + 1))
  have HRL := Lib.hid (rowF_len (relF xs k) (k + 1))
  have HRS := Lib.hid (rowF_set (relF xs k) (k + 1))
  have HST : Hid (∀ d, xs.length ≤ d ∨ k + 1 ≤ d → rowF (relF xs k) (k + 1) d = relV xs k) := fun d h => rowF_stop _ _ _ fun i h1 h2 => by
    unfold relF; rw [dif_neg (by omega)]
  have HF : Hid (∀ d (h : d < xs.length), relF xs k d = within xs[d] (2 ^ (k + 1))) := fun d h => by unfold relF; rw [dif_pos h]
  generalize relF xs k = f at *
  have hp := pow_le (k + 1) (by omega)
  have hp0 := Nat.two_pow_pos (k + 1)
  have HJ := Lib.hid (wrap_pow (k + 1) (by omega))
  have HCA : Hid ((2 : Int) ^ (k + 1) = ((2 ^ (k + 1) : Nat) : Int)) := by show _ = _; simp
  have HK1 : Hid (Value.int .i64 ((k : Int) + 1) = Value.int .i64 ((k + 1 : Nat) : Int)) := rfl
  clear hA
  go_enter Try.func25, Try.ntmps25
  go_wp2_with (refine wpList_make_rl _ rfl _ _ rfl (k + 1) HK1.out HK1.out (by omega) _ rfl ?_; intro w0 hO0 hB0 hs0)
  have hO0' : Hid (RlO w0 w.heap.size (.slice (some ⟨w.heap.size, 0, none⟩) (k + 1) (k + 1)) (rowF f (k + 1) 0)) := by show RlO _ _ _ _; rw [HRZ.out]; exact hO0
  clear hO0 HRZ
  generalize hg : w.heap.size = H at *
  have HG := Lib.hid hg
  clear hg
  go_wp2_with fail
  go_loopw [6] (fun i wr => ∃ d : Nat, d ≤ k + 1 ∧ i = .int .i64 (d : Int) ∧ Hid (RlO wr H (.slice (some ⟨H, 0, none⟩) (k + 1) (k + 1)) (rowF f (k + 1) d)) ∧ Hid (Below H w wr)) (fun i _ => k + 1 - (intOf i).toNat)
  case atStart => exact ⟨0, Nat.zero_le _, rfl, hO0', hB0⟩
  case round =>
    obtain ⟨d, hd, rfl, HO, HW⟩ := hrel
    by_cases hdk : d ≤ k
    · have g0 : (d : Int) ≤ (k : Int) := by omega
      by_cases hlt : d < xs.length
      · have hlt' : (d : Int) < (xs.length : Int) := by omega
        have hd0 : (0 : Int) ≤ (d : Int) := by omega
        have hd1 : (d : Int) < ((k + 1 : Nat) : Int) := by omega
        have hd2 : (d : Int) < (k : Int) + 1 := by omega
        obtain ⟨b, off, rfl, c0, lo, hi⟩ := HA.out wr HW.out d hlt
        have HFD := Lib.hid (HF.out d hlt)
        have HWI := Lib.hid (fun W => (within_any xs[d] ((2 : Int) ^ (k + 1)) W ⟨lo, hi⟩ (by rw [HCA.out]; omega) (by rw [HCA.out]; omega)).mono (R' := fun e w' => e = .returned (.int .i64 (f d : Int)) ∧ w' = W) (fun e w' h => ⟨by rw [h.1, HCA.out, Int.toNat_natCast, HFD.out], h.2.symm⟩))
        generalize xs[d] = x at *
        obtain ⟨cc, ff⟩ := HO.out.at d (by rw [HRL.out]; omega)
        have hOd : RlO wr.drew H (.slice (some ⟨H, 0, none⟩) (k + 1) (k + 1)) (rowF f (k + 1) d) := World.ownsRow.drew HO.out
        have HSS := Lib.hid (RlO.store hOd (HRL.out d).symm d (f d))
        rw [HRS.out] at HSS
        have HBS : Hid (∀ u, Below H w (wr.drew.setCell ⟨H, d, none⟩ u)) := fun u => HW.out.drew.setCell (Nat.le_refl _) u
        have cc' : wr.drew.cell? ⟨H, d, none⟩ = some (.int .i64 ((rowF f (k + 1) d)[d]'(by rw [HRL.out]; omega) : Int)) := cc
        have ff' : wr.drew.frozen? ⟨H, d, none⟩ = false := ff
        have j1 : IntKind.i64.wrap ((k : Int) + 1) = (k : Int) + 1 := by rw [IntKind.wrap_i64]; omega
        have j2 : ((k : Int) + 1).toNat = k + 1 := by omega
        have j3 : IntKind.i64.wrap ((2 : Int) ^ (k + 1)) = ((2 ^ (k + 1) : Nat) : Int) := by rw [← HJ.out]; unfold wrap64; rw [IntKind.wrap_i64]
        clear HO HW hOd lo hi HFD
        generalize f d = v at *
        go_wp2_with fail
        go_still_tail 10, (by kernel_rfl)
        still_call (HWI.out _)
        try refine wpStill_nil ?_
        change wpList _ _ _ _ _ wr.drew
        generalize wr.drew = wd at *
        go_wp2_with fail
        go_roundw
        case rel => exact ⟨d + 1, by omega, by go_num, HSS.out, HBS.out _⟩
        case measure => simp [intOf]; omega
      · have hlt' : ¬ (d : Int) < (xs.length : Int) := by omega
        rw [HST.out d (.inl (by omega))] at HO
        go_wp2_with fail
        go_ret
        exact ⟨H, rfl, by rw [HG.out]; exact HO.out, by rw [HG.out]; exact HW.out⟩
    · have g0 : ¬ (d : Int) ≤ (k : Int) := by omega
      rw [HST.out d (.inr (by omega))] at HO
      go_wp2_with fail
      go_ret
      exact ⟨H, rfl, by rw [HG.out]; exact HO.out, by rw [HG.out]; exact HW.out⟩

/-- the reference's Shift -/
def shF (k : Nat) (c : Int) (d : Nat) : Nat := if 0 ≤ (d : Int) + c ∧ (d : Int) + c ≤ (k : Int) then 2 ^ ((d : Int) + c).toNat else 0
def shV (k : Nat) (c : Int) : List Nat := (List.range (k + 1)).map (shF k c)
theorem shV_len (k : Nat) (c : Int) : (shV k c).length = k + 1 := by simp [shV]
set_option maxHeartbeats 400000 in
theorem shift_any (w : World) (k : Nat) (c : Int) (hk : k ≤ 8) (hc : -1 ≤ c ∧ c ≤ 1) :
    Calls Try.prog 22 #[.int .i64 (k : Int), .int .i64 c] w (RlP w (k + 1) (shV k c)) := by
  have HRZ := Lib.hid (rowF_zero (shF k c) (k + 1))
  have HRL := Lib.hid (rowF_len (shF k c) (k + 1))
  have HRS := Lib.hid (rowF_set (shF k c) (k + 1))
  have HRK := Lib.hid (rowF_skip (shF k c) (k + 1))
  have HRE : Hid (rowF (shF k c) (k + 1) (k + 1) = shV k c) := rowF_end _ _
  have HF : Hid (∀ d : Nat, shF k c d = if 0 ≤ (d : Int) + c ∧ (d : Int) + c ≤ (k : Int) then 2 ^ ((d : Int) + c).toNat else 0) := fun d => rfl
  generalize shF k c = f at *
  have HK1 : Hid (Value.int .i64 ((k : Int) + 1) = Value.int .i64 ((k + 1 : Nat) : Int)) := rfl
  go_enter Try.func22, Try.ntmps22
  go_wp2_with (refine wpList_make_rl _ rfl _ _ rfl (k + 1) HK1.out HK1.out (by omega) _ rfl ?_; intro w0 hO0 hB0 hs0)
  have hO0' : Hid (RlO w0 w.heap.size (.slice (some ⟨w.heap.size, 0, none⟩) (k + 1) (k + 1)) (rowF f (k + 1) 0)) := by show RlO _ _ _ _; rw [HRZ.out]; exact hO0
  clear hO0 HRZ
  generalize hg : w.heap.size = H at *
  have HG := Lib.hid hg
  clear hg
  go_wp2_with fail
  go_loopw [6] (fun i wr => ∃ d : Nat, d ≤ k + 1 ∧ i = .int .i64 (d : Int) ∧ Hid (RlO wr H (.slice (some ⟨H, 0, none⟩) (k + 1) (k + 1)) (rowF f (k + 1) d)) ∧ Hid (Below H w wr)) (fun i _ => k + 1 - (intOf i).toNat)
  case atStart => exact ⟨0, Nat.zero_le _, rfl, hO0', hB0⟩
  case round =>
    obtain ⟨d, hd, rfl, HO, HW⟩ := hrel
    by_cases hdk : d ≤ k
    · have g0 : (d : Int) ≤ (k : Int) := by omega
      have hd0 : (0 : Int) ≤ (d : Int) := by omega
      have hd1 : (d : Int) < ((k + 1 : Nat) : Int) := by omega
      have hd2 : (d : Int) < (k : Int) + 1 := by omega
      obtain ⟨cc, ff⟩ := HO.out.at d (by rw [HRL.out]; omega)
      by_cases he : 0 ≤ (d : Int) + c ∧ (d : Int) + c ≤ (k : Int)
      · obtain ⟨e, hee⟩ : ∃ e : Nat, (d : Int) + c = (e : Int) := ⟨((d : Int) + c).toNat, by omega⟩
        have HFD : Hid (f d = 2 ^ e) := by show _ = _; rw [HF.out, if_pos he, hee, Int.toNat_natCast]
        have HSS := Lib.hid (HO.out.store (HRL.out d).symm d (f d))
        rw [HRS.out, HFD.out] at HSS
        have HBS : Hid (∀ u, Below H w (wr.setCell ⟨H, d, none⟩ u)) := fun u => HW.out.setCell (Nat.le_refl _) u
        rw [← wrap_pow e (by omega)] at HSS
        obtain ⟨he0, he1⟩ := he
        clear HO HW HFD
        go_wp2_with fail
        go_roundw
        case rel => exact ⟨d + 1, by omega, by go_num, HSS.out, HBS.out _⟩
        case measure => simp [intOf]; omega
      · have HFD : Hid (f d = 0) := by show _ = _; rw [HF.out, if_neg he]
        rw [HRK.out d HFD.out] at HO
        by_cases he0 : 0 ≤ (d : Int) + c
        · have he1 : ¬ (d : Int) + c ≤ (k : Int) := fun h => he ⟨he0, h⟩
          clear he
          go_wp2_with fail
          go_roundw
          case rel => exact ⟨d + 1, by omega, by go_num, HO.out, HW.out⟩
          case measure => simp [intOf]; omega
        · clear he
          go_wp2_with fail
          go_roundw
          case rel => exact ⟨d + 1, by omega, by go_num, HO.out, HW.out⟩
          case measure => simp [intOf]; omega
    · obtain rfl : d = k + 1 := by omega
      have g0 : ¬ (((k + 1 : Nat) : Int)) ≤ (k : Int) := by omega
      rw [HRE.out] at HO
      go_wp2_with fail
      go_ret
      exact ⟨H, rfl, by rw [HG.out]; exact HO.out, by rw [HG.out]; exact HW.out⟩
end Go.Proofs.Ytdajomkhjaccbaa
