/- What number and sign of the reference return. What skip of the reference returns. -/
import Derived.Test.YtlnbmmgbfgmboaaQ1
namespace Go.Proofs.Ytlnbmmgbfgmboaa
open Go.RowKit

theorem Byt.sub {w : World} {b off : Nat} {l : List UInt8} (h : Byt w (some ⟨b, off, none⟩) l) (k m : Nat) : Byt w (some ⟨b, off + k, none⟩) ((l.drop k).take (m - k)) := by
  intro i hi
  have hi' : k + i < l.length := by simp at hi; omega
  obtain ⟨b', off', e, hc⟩ := h (k + i) hi'
  injection e with e
  injection e with e1 e2
  subst e1 e2
  refine ⟨_, _, rfl, ?_⟩
  rw [Nat.add_assoc, hc]
  simp

/-- the value of digits, -1 if it is too great -/
def numInt : Option Nat → Int
  | none => -1
  | some n => n
theorem numD_at (ds : List UInt8) (m n : Nat) (h : m < ds.length) : Tk.numVal n (ds.drop m) = if n > (9223372036854775807 - (ds[m].toNat - 48)) / 10 then none else Tk.numVal (10 * n + (ds[m].toNat - 48)) (ds.drop (m + 1)) := by
  rw [List.drop_eq_getElem_cons h]
  rfl

set_option maxHeartbeats 1000000 in
theorem number_any (ds : List UInt8) (ao : Option Addr) (cap : Nat) (w : World) (hB : Byt w ao ds) (hd : ∀ c ∈ ds, Tk.isDig c = true) (hl : ds.length ≤ 1000000) :
    Calls Try.prog 27 #[.slice ao ds.length cap] w fun e w' => e = .returned (.int .i64 (numInt (Tk.numVal 0 ds))) ∧ w = w' := by
  have HB := Lib.hid hB
  have HD := Lib.hid hd
  clear hB hd
  go_enter Try.func27, Try.ntmps27
  go_wp2
  go_loop [3, 4, 5] (fun j i _ => ∃ m n : Nat, m ≤ ds.length ∧ n ≤ 9223372036854775807 ∧ i = .int .i64 m ∧ j = .int .i64 n ∧ Hid (Tk.numVal n (ds.drop m) = Tk.numVal 0 ds)) (fun _ i _ => ds.length - (intOf i).toNat)
  case atStart => exact ⟨0, 0, by omega, by omega, rfl, rfl, rfl⟩
  case round =>
    obtain ⟨m, n, hm, hn, rfl, rfl, hval⟩ := hrel
    by_cases hlt : m < ds.length
    · obtain ⟨b, off, rfl, hc⟩ := HB.out m hlt
      have hD := HD.out ds[m] (List.getElem_mem hlt)
      have hd1 : 48 ≤ (ds[m].toNat : Int) ∧ (ds[m].toNat : Int) ≤ 57 := by simp [Tk.isDig] at hD; omega
      clear hD
      obtain ⟨hd1, hd2⟩ := hd1
      have HN := Lib.hid (numD_at ds m n hlt)
      go_wp2
      · go_ret
        refine ⟨ret_int ?_, rfl⟩
        rw [← hval.out, HN.out, if_pos (by omega)]
        rfl
      · go_round
        case rel =>
          refine ⟨m + 1, 10 * n + (ds[m].toNat - 48), by omega, by omega, by go_num, ?_, ?_⟩
          · congr 1
            omega
          · have h2 := HN.out
            rw [if_neg (by omega)] at h2
            exact (h2.symm.trans hval.out : _ = _)
        case measure => simp [intOf]; omega
    · go_wp2
      go_ret
      refine ⟨ret_int ?_, rfl⟩
      rw [← hval.out, List.drop_eq_nil_of_le (by omega)]
      rfl

/-- the length of the sign at a place; 0: there is none -/
def sgn (l : List UInt8) (k : Nat) : Nat :=
  if k + 2 ≤ l.length ∧ hasB Tk.signs2 ((l.drop k).take 2) = true then 2 else if hasB Tk.signs1 ((l.drop k).take 1) = true then 1 else 0
theorem sgn_two (l : List UInt8) (k : Nat) (h : k + 2 ≤ l.length) (h2 : hasB Tk.signs2 ((l.drop k).take 2) = true) : sgn l k = 2 := if_pos ⟨h, h2⟩
theorem sgn_one (l : List UInt8) (k : Nat) (h : ¬ (k + 2 ≤ l.length ∧ hasB Tk.signs2 ((l.drop k).take 2) = true)) (h1 : hasB Tk.signs1 ((l.drop k).take 1) = true) : sgn l k = 1 := by
  unfold sgn
  rw [if_neg h, if_pos h1]
theorem sgn_none (l : List UInt8) (k : Nat) (h : ¬ (k + 2 ≤ l.length ∧ hasB Tk.signs2 ((l.drop k).take 2) = true)) (h1 : hasB Tk.signs1 ((l.drop k).take 1) = false) : sgn l k = 0 := by
  unfold sgn
  rw [if_neg h, if_neg (by rw [h1]; simp)]

theorem has2_any (s : List UInt8) (w : World) : Calls Try.prog 41 #[.slice (some ⟨w.heap.size, 0, none⟩) 6 6, .string ⟨s.toArray⟩] (w.alloc (.cells #[.string ⟨#[60, 61]⟩, .string ⟨#[62, 61]⟩, .string ⟨#[61, 61]⟩, .string ⟨#[33, 61]⟩, .string ⟨#[38, 38]⟩, .string ⟨#[124, 124]⟩] 9)) fun e w' => e = .returned (.bool (hasB Tk.signs2 s)) ∧ (w.alloc (.cells #[.string ⟨#[60, 61]⟩, .string ⟨#[62, 61]⟩, .string ⟨#[61, 61]⟩, .string ⟨#[33, 61]⟩, .string ⟨#[38, 38]⟩, .string ⟨#[124, 124]⟩] 9)) = w' :=
  has_any Tk.signs2 s (some ⟨w.heap.size, 0, none⟩) 6 _ (str_lit w Tk.signs2 9) (by decide)
theorem has1_any (s : List UInt8) (w : World) (g : Nat) (hg : g = w.heap.size) : Calls Try.prog 41 #[.slice (some ⟨g, 0, none⟩) 17 17, .string ⟨s.toArray⟩] (w.alloc (.cells #[.string ⟨#[40]⟩, .string ⟨#[41]⟩, .string ⟨#[123]⟩, .string ⟨#[125]⟩, .string ⟨#[91]⟩, .string ⟨#[93]⟩, .string ⟨#[44]⟩, .string ⟨#[59]⟩, .string ⟨#[61]⟩, .string ⟨#[43]⟩, .string ⟨#[45]⟩, .string ⟨#[42]⟩, .string ⟨#[47]⟩, .string ⟨#[37]⟩, .string ⟨#[60]⟩, .string ⟨#[62]⟩, .string ⟨#[33]⟩] 9)) fun e w' => e = .returned (.bool (hasB Tk.signs1 s)) ∧ (w.alloc (.cells #[.string ⟨#[40]⟩, .string ⟨#[41]⟩, .string ⟨#[123]⟩, .string ⟨#[125]⟩, .string ⟨#[91]⟩, .string ⟨#[93]⟩, .string ⟨#[44]⟩, .string ⟨#[59]⟩, .string ⟨#[61]⟩, .string ⟨#[43]⟩, .string ⟨#[45]⟩, .string ⟨#[42]⟩, .string ⟨#[47]⟩, .string ⟨#[37]⟩, .string ⟨#[60]⟩, .string ⟨#[62]⟩, .string ⟨#[33]⟩] 9)) = w' :=
  hg ▸ has_any Tk.signs1 s (some ⟨w.heap.size, 0, none⟩) 17 _ (str_lit w Tk.signs1 9) (by decide)

set_option maxRecDepth 100000 in
set_option maxHeartbeats 1000000 in
theorem sign_any (l : List UInt8) (ao : Option Addr) (cap k : Nat) (w : World) (hB : Byt w ao l) (hk : k < l.length) (hl : l.length ≤ 1000000) (hcap : l.length ≤ cap) :
    Calls Try.prog 28 #[.slice ao l.length cap, .int .i64 (k : Int)] w fun e w' => e = .returned (.int .i64 (sgn l k : Int)) ∧ Below w.heap.size w w' := by
  obtain ⟨b, off, rfl, hc0⟩ := hB k hk
  have hbl : b < w.heap.size := World.block_lt_of_cell? _ _ hc0
  have HB := Lib.hid hB
  clear hB hc0
  have es2 : k + 2 - k = 2 := by omega
  have es1 : k + 1 - k = 1 := by omega
  by_cases h2 : k + 2 ≤ l.length
  · have n1 : decide ((k : Int) + 1 < (l.length : Int)) = true := by simp; omega
    have hcv2 := fun cap' W (hW : Below w.heap.size w W) => conv_slice l b off k (k + 2) cap' W (HB.out.later hW) (by omega) h2
    rw [es2] at hcv2
    have hcv1 := fun cap' W (hW : Below w.heap.size w W) => conv_slice l b off k (k + 1) cap' W (HB.out.later hW) (by omega) (by omega)
    rw [es1] at hcv1
    clear es1 es2
    have hcvA := fun cap' o => hcv2 cap' (w.alloc o) ((Below.refl _ _).alloc (Nat.le_refl _) _)
    have hcvB := fun cap' o o' => hcv1 cap' ((w.alloc o).alloc o') (((Below.refl _ _).alloc (Nat.le_refl _) _).alloc (by simp) _)
    clear hcv1 hcv2
    go_enter Try.func28, Try.ntmps28
    go_wp2_with fail
    refine (has2_any _ _).mono ?_
    rintro e w' ⟨rfl, rfl⟩
    by_cases q2 : hasB Tk.signs2 ((l.drop k).take 2) = true
    · go_wp2_with fail
      go_ret
      exact ⟨ret_int (by rw [sgn_two l k h2 q2]; rfl), (Below.refl _ _).alloc (Nat.le_refl _) _⟩
    · have q2' : hasB Tk.signs2 ((l.drop k).take 2) = false := by simpa using q2
      have Q2 := Lib.hid q2
      clear q2
      go_wp2_with fail
      refine (has1_any _ (w.alloc _) (w.heap.size + 1) (by simp)).mono ?_
      rintro e w' ⟨rfl, rfl⟩
      by_cases q1 : hasB Tk.signs1 ((l.drop k).take 1) = true
      · go_wp2_with fail
        go_ret
        exact ⟨ret_int (by rw [sgn_one l k (fun h => Q2.out h.2) q1]; rfl), ((Below.refl _ _).alloc (Nat.le_refl _) _).alloc (by simp) _⟩
      · have q1' : hasB Tk.signs1 ((l.drop k).take 1) = false := by simpa using q1
        clear q1
        go_wp2_with fail
        go_ret
        exact ⟨ret_int (by rw [sgn_none l k (fun h => Q2.out h.2) q1']; rfl), ((Below.refl _ _).alloc (Nat.le_refl _) _).alloc (by simp) _⟩
  · have n1 : decide ((k : Int) + 1 < (l.length : Int)) = false := by simp; omega
    have hcv1 := fun cap' W (hW : Below w.heap.size w W) => conv_slice l b off k (k + 1) cap' W (HB.out.later hW) (by omega) (by omega)
    rw [es1] at hcv1
    clear es1 es2
    have hcvB := fun cap' o => hcv1 cap' (w.alloc o) ((Below.refl _ _).alloc (Nat.le_refl _) _)
    clear hcv1
    go_enter Try.func28, Try.ntmps28
    go_wp2_with fail
    refine (has1_any _ w w.heap.size rfl).mono ?_
    rintro e w' ⟨rfl, rfl⟩
    by_cases q1 : hasB Tk.signs1 ((l.drop k).take 1) = true
    · go_wp2_with fail
      go_ret
      exact ⟨ret_int (by rw [sgn_one l k (fun h => h2 h.1) q1]; rfl), (Below.refl _ _).alloc (Nat.le_refl _) _⟩
    · have q1' : hasB Tk.signs1 ((l.drop k).take 1) = false := by simpa using q1
      clear q1
      go_wp2_with fail
      go_ret
      exact ⟨ret_int (by rw [sgn_none l k (fun h => h2 h.1) q1']; rfl), (Below.refl _ _).alloc (Nat.le_refl _) _⟩

end Go.Proofs.Ytlnbmmgbfgmboaa

namespace Go.Proofs.Ytlnbmmgbfgmboaa
open Go.RowKit

set_option maxHeartbeats 1000000 in
theorem refSkip_any (l : List UInt8) (ao : Option Addr) (cap : Nat) (at_ : Int) (w : World) (hB : Byt w ao l) (h0 : 0 ≤ at_) (hk : at_ ≤ l.length) (hl : l.length ≤ 1000000) :
    Calls Try.prog 23 #[.slice ao l.length cap, .int .i64 at_] w fun e w' => e = .returned (.int .i64 (Tk.skipTo l at_.toNat : Int)) ∧ w = w' := by
  obtain ⟨k, rfl⟩ := Int.eq_ofNat_of_zero_le h0
  rw [Int.toNat_natCast]
  have HB := Lib.hid hB
  clear hB
  go_enter Try.func23, Try.ntmps23
  go_wp2
  go_loop [1] (fun i => ∃ m : Nat, m ≤ l.length ∧ i = .int .i64 m ∧ Hid (Tk.skipTo l m = Tk.skipTo l k)) (fun i => l.length - (intOf i).toNat)
  case atStart => exact ⟨k, by omega, rfl, rfl⟩
  case round =>
    obtain ⟨m, hm, rfl, hrel⟩ := hrel
    by_cases hlt : m < l.length
    · obtain ⟨b, off, rfl, hc⟩ := HB.out m hlt
      have HS := Lib.hid (skip_space l m hlt)
      have HQ := Lib.hid (skip_stop l m hlt)
      by_cases c32 : l[m].toNat = 32
      · have t32 := bT (show ((l[m].toNat : Nat) : Int) = 32 by omega)
        have C := Lib.hid c32
        clear c32
        go_wp2
        go_round
        case rel => exact ⟨m + 1, by omega, by go_num, ((HS.out (by have := C.out; omega)).symm.trans hrel.out : _ = _)⟩
        case measure => simp [intOf]; omega
      by_cases c9 : l[m].toNat = 9
      · have t32 := bF (show ((l[m].toNat : Nat) : Int) ≠ 32 by omega)
        have t9 := bT (show ((l[m].toNat : Nat) : Int) = 9 by omega)
        have C := Lib.hid c9
        clear c9
        go_wp2
        go_round
        case rel => exact ⟨m + 1, by omega, by go_num, ((HS.out (by have := C.out; omega)).symm.trans hrel.out : _ = _)⟩
        case measure => simp [intOf]; omega
      by_cases c10 : l[m].toNat = 10
      · have t32 := bF (show ((l[m].toNat : Nat) : Int) ≠ 32 by omega)
        have t9 := bF (show ((l[m].toNat : Nat) : Int) ≠ 9 by omega)
        have t10 := bT (show ((l[m].toNat : Nat) : Int) = 10 by omega)
        have C := Lib.hid c10
        clear c10
        go_wp2
        go_round
        case rel => exact ⟨m + 1, by omega, by go_num, ((HS.out (by have := C.out; omega)).symm.trans hrel.out : _ = _)⟩
        case measure => simp [intOf]; omega
      by_cases c13 : l[m].toNat = 13
      · have t32 := bF (show ((l[m].toNat : Nat) : Int) ≠ 32 by omega)
        have t9 := bF (show ((l[m].toNat : Nat) : Int) ≠ 9 by omega)
        have t10 := bF (show ((l[m].toNat : Nat) : Int) ≠ 10 by omega)
        have t13 := bT (show ((l[m].toNat : Nat) : Int) = 13 by omega)
        have C := Lib.hid c13
        clear c13
        go_wp2
        go_round
        case rel => exact ⟨m + 1, by omega, by go_num, ((HS.out (by have := C.out; omega)).symm.trans hrel.out : _ = _)⟩
        case measure => simp [intOf]; omega
      have t32 := bF (show ((l[m].toNat : Nat) : Int) ≠ 32 by omega)
      have t9 := bF (show ((l[m].toNat : Nat) : Int) ≠ 9 by omega)
      have t10 := bF (show ((l[m].toNat : Nat) : Int) ≠ 10 by omega)
      have t13 := bF (show ((l[m].toNat : Nat) : Int) ≠ 13 by omega)
      have CM := Lib.hid (And.intro c32 (And.intro c9 (And.intro c13 c10)))
      by_cases hn : m + 1 < l.length
      · have n1 : decide ((m : Int) + 1 < (l.length : Int)) = true := by simp; omega
        obtain ⟨b', off', hao, hc'⟩ := HB.out (m + 1) hn
        injection hao with hao
        injection hao with e1 e2
        subst e1 e2
        by_cases c47 : l[m].toNat = 47
        · have t47 := bT (show ((l[m].toNat : Nat) : Int) = 47 by omega)
          by_cases d47 : l[m + 1].toNat = 47
          · have n2 := bT (show ((l[m + 1].toNat : Nat) : Int) = 47 by omega)
            have HK := Lib.hid (skip_comment l m hlt hn c47 d47)
            have hp := lineLen_pos l m hlt c10
            have hd := lineLen_drop l m hm
            clear c32 c9 c13 c10 c47 d47
            go_wp2
            have hrel0 := hrel
            clear hrel
            clear hc hc' t32 t9 t10 t13 t47 n1 n2
            go_loop [1] (fun i => ∃ j : Nat, j ≤ l.length ∧ i = .int .i64 j ∧ Hid (j + Tk.lineLen (l.drop j) = m + Tk.lineLen (l.drop m))) (fun i => l.length - (intOf i).toNat)
            case atStart => exact ⟨m, hm, rfl, rfl⟩
            case round =>
              obtain ⟨j, hj, rfl, hrel2⟩ := hrel
              by_cases hlt2 : j < l.length
              · obtain ⟨b', off', hao, hc⟩ := HB.out j hlt2
                injection hao with hao
                injection hao with e1 e2
                subst e1 e2
                have hs := Lib.hid (lineLen_at l j hlt2)
                by_cases h10 : l[j].toNat = 10
                · have g1 := nF (show ((l[j].toNat : Nat) : Int) = 10 by omega)
                  have H10 := Lib.hid h10
                  clear h10
                  go_wp2
                  go_round
                  case rel =>
                    have h2 := hs.out
                    rw [if_pos H10.out] at h2
                    have h3 := hrel2.out
                    have h4 : j = m + Tk.lineLen (l.drop m) := by omega
                    exact ⟨j, hj, rfl, (by rw [h4]; exact HK.out.symm.trans hrel0.out : Tk.skipTo l j = Tk.skipTo l k)⟩
                  case measure =>
                    have h2 := hs.out
                    rw [if_pos H10.out] at h2
                    have h3 := hrel2.out
                    simp [intOf]
                    omega
                · have g1 := nT (show ((l[j].toNat : Nat) : Int) ≠ 10 by omega)
                  have H10 := Lib.hid h10
                  clear h10
                  go_wp2
                  go_round
                  case rel =>
                    refine ⟨j + 1, by omega, by go_num, ?_⟩
                    have h2 := hs.out
                    rw [if_neg H10.out] at h2
                    have h3 := hrel2.out
                    show _ = _
                    omega
                  case measure => simp [intOf]; omega
              · have he : Tk.lineLen (l.drop j) = 0 := by rw [List.drop_eq_nil_of_le (by omega)]; rfl
                have HEE := Lib.hid he
                clear he
                go_wp2
                go_round
                case rel =>
                  have h2 := HEE.out
                  have h3 := hrel2.out
                  have h4 : j = m + Tk.lineLen (l.drop m) := by omega
                  exact ⟨j, hj, rfl, (by rw [h4]; exact HK.out.symm.trans hrel0.out : Tk.skipTo l j = Tk.skipTo l k)⟩
                case measure =>
                  have h2 := HEE.out
                  have h3 := hrel2.out
                  simp [intOf]
                  omega
          · have n2 := bF (show ((l[m + 1].toNat : Nat) : Int) ≠ 47 by omega)
            have D := Lib.hid d47
            clear c32 c9 c13 c10 c47 d47
            go_wp2
            go_ret
            exact ⟨ret_int (by rw [← hrel.out, HQ.out CM.out (fun _ _ => D.out)]), rfl⟩
        · have t47 := bF (show ((l[m].toNat : Nat) : Int) ≠ 47 by omega)
          have C := Lib.hid c47
          clear c32 c9 c13 c10 c47
          go_wp2
          go_ret
          exact ⟨ret_int (by rw [← hrel.out, HQ.out CM.out (fun h => absurd h C.out)]), rfl⟩
      · have n1 : decide ((m : Int) + 1 < (l.length : Int)) = false := by simp; omega
        have CN := Lib.hid hn
        clear c32 c9 c13 c10 hn
        go_wp2
        go_ret
        exact ⟨ret_int (by rw [← hrel.out, HQ.out CM.out (fun _ h' => absurd h' CN.out)]), rfl⟩
    · have hlt' : l.length ≤ m := by omega
      have HE := Lib.hid (skip_end l m hlt')
      go_wp2
      go_ret
      exact ⟨ret_int (by rw [← hrel.out, HE.out]), rfl⟩

end Go.Proofs.Ytlnbmmgbfgmboaa
