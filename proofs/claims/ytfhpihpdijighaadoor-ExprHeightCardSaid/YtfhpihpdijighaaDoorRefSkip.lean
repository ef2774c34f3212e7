/- What skip of the reference returns. -/
import Derived.Test.YtfhpihpdijighaaDoorRefLeaf
namespace Go.Proofs.YtfhpihpdijighaaDoor
open Go.RowKit

set_option maxHeartbeats 1000000 in
theorem refSkip_any (l : List UInt8) (ao : Option Addr) (cap : Nat) (at_ : Int) (w : World) (hB : Byt w ao l) (h0 : 0 ≤ at_) (hk : at_ ≤ l.length) (hl : l.length ≤ 1000000) :
    Calls Tryd.prog 38 #[.slice ao l.length cap, .int .i64 at_] w fun e w' => e = .returned (.int .i64 (Tk.skipTo l at_.toNat : Int)) ∧ w = w' := by
  obtain ⟨k, rfl⟩ := Int.eq_ofNat_of_zero_le h0
  rw [Int.toNat_natCast]
  have HB := Lib.hid hB
  clear hB
  go_enter Tryd.func38, Tryd.ntmps38
  go_wp2
  go_loop [1] (fun i => ∃ m : Nat, m ≤ l.length ∧ i = .int .i64 m ∧ Hid (Tk.skipTo l m = Tk.skipTo l k)) (fun i => l.length - (intOf i).toNat)
  case atStart => exact ⟨k, by omega, rfl, rfl⟩
  case round =>
    obtain ⟨m, hm, rfl, hrel⟩ := hrel
    by_cases hlt : m < l.length
    · obtain ⟨b, off, rfl, hc⟩ := HB.out m hlt
      have HS := Lib.hid (skip_space l m hlt)
      have HQ := Lib.hid (skip_stop l m hlt)
      by_cases c32 : l[m].toNat = 32
      · have t32 := bT (show ((l[m].toNat : Nat) : Int) = 32 by omega)
        have C := Lib.hid c32
        clear c32
        go_wp2
        go_round
        case rel => exact ⟨m + 1, by omega, by go_num, ((HS.out (by have := C.out; omega)).symm.trans hrel.out : _ = _)⟩
        case measure => simp [intOf]; omega
      by_cases c9 : l[m].toNat = 9
      · have t32 := bF (show ((l[m].toNat : Nat) : Int) ≠ 32 by omega)
        have t9 := bT (show ((l[m].toNat : Nat) : Int) = 9 by omega)
        have C := Lib.hid c9
        clear c9
        go_wp2
        go_round
        case rel => exact ⟨m + 1, by omega, by go_num, ((HS.out (by have := C.out; omega)).symm.trans hrel.out : _ = _)⟩
        case measure => simp [intOf]; omega
      by_cases c10 : l[m].toNat = 10
      · have t32 := bF (show ((l[m].toNat : Nat) : Int) ≠ 32 by omega)
        have t9 := bF (show ((l[m].toNat : Nat) : Int) ≠ 9 by omega)
        have t10 := bT (show ((l[m].toNat : Nat) : Int) = 10 by omega)
        have C := Lib.hid c10
        clear c10
        go_wp2
        go_round
        case rel => exact ⟨m + 1, by omega, by go_num, ((HS.out (by have := C.out; omega)).symm.trans hrel.out : _ = _)⟩
        case measure => simp [intOf]; omega
      by_cases c13 : l[m].toNat = 13
      · have t32 := bF (show ((l[m].toNat : Nat) : Int) ≠ 32 by omega)
        have t9 := bF (show ((l[m].toNat : Nat) : Int) ≠ 9 by omega)
        have t10 := bF (show ((l[m].toNat : Nat) : Int) ≠ 10 by omega)
        have t13 := bT (show ((l[m].toNat : Nat) : Int) = 13 by omega)
        have C := Lib.hid c13
        clear c13
        go_wp2
        go_round
        case rel => exact ⟨m + 1, by omega, by go_num, ((HS.out (by have := C.out; omega)).symm.trans hrel.out : _ = _)⟩
        case measure => simp [intOf]; omega
      have t32 := bF (show ((l[m].toNat : Nat) : Int) ≠ 32 by omega)
      have t9 := bF (show ((l[m].toNat : Nat) : Int) ≠ 9 by omega)
      have t10 := bF (show ((l[m].toNat : Nat) : Int) ≠ 10 by omega)
      have t13 := bF (show ((l[m].toNat : Nat) : Int) ≠ 13 by omega)
      have CM := Lib.hid (And.intro c32 (And.intro c9 (And.intro c13 c10)))
      by_cases hn : m + 1 < l.length
      · have n1 : decide ((m : Int) + 1 < (l.length : Int)) = true := by simp; omega
        obtain ⟨b', off', hao, hc'⟩ := HB.out (m + 1) hn
        injection hao with hao
        injection hao with e1 e2
        subst e1 e2
        by_cases c47 : l[m].toNat = 47
        · have t47 := bT (show ((l[m].toNat : Nat) : Int) = 47 by omega)
          by_cases d47 : l[m + 1].toNat = 47
          · have n2 := bT (show ((l[m + 1].toNat : Nat) : Int) = 47 by omega)
            have HK := Lib.hid (skip_comment l m hlt hn c47 d47)
            have hp := lineLen_pos l m hlt c10
            have hd := lineLen_drop l m hm
            clear c32 c9 c13 c10 c47 d47
            go_wp2
            have hrel0 := hrel
            clear hrel
            clear hc hc' t32 t9 t10 t13 t47 n1 n2
            go_loop [1] (fun i => ∃ j : Nat, j ≤ l.length ∧ i = .int .i64 j ∧ Hid (j + Tk.lineLen (l.drop j) = m + Tk.lineLen (l.drop m))) (fun i => l.length - (intOf i).toNat)
            case atStart => exact ⟨m, hm, rfl, rfl⟩
            case round =>
              obtain ⟨j, hj, rfl, hrel2⟩ := hrel
              by_cases hlt2 : j < l.length
              · obtain ⟨b', off', hao, hc⟩ := HB.out j hlt2
                injection hao with hao
                injection hao with e1 e2
                subst e1 e2
                have hs := Lib.hid (lineLen_at l j hlt2)
                by_cases h10 : l[j].toNat = 10
                · have g1 := nF (show ((l[j].toNat : Nat) : Int) = 10 by omega)
                  have H10 := Lib.hid h10
                  clear h10
                  go_wp2
                  go_round
                  case rel =>
                    have h2 := hs.out
                    rw [if_pos H10.out] at h2
                    have h3 := hrel2.out
                    have h4 : j = m + Tk.lineLen (l.drop m) := by omega
                    exact ⟨j, hj, rfl, (by rw [h4]; exact HK.out.symm.trans hrel0.out : Tk.skipTo l j = Tk.skipTo l k)⟩
                  case measure =>
                    have h2 := hs.out
                    rw [if_pos H10.out] at h2
                    have h3 := hrel2.out
                    simp [intOf]
                    omega
                · have g1 := nT (show ((l[j].toNat : Nat) : Int) ≠ 10 by omega)
                  have H10 := Lib.hid h10
                  clear h10
                  go_wp2
                  go_round
                  case rel =>
                    refine ⟨j + 1, by omega, by go_num, ?_⟩
                    have h2 := hs.out
                    rw [if_neg H10.out] at h2
                    have h3 := hrel2.out
                    show _ = _
                    omega
                  case measure => simp [intOf]; omega
              · have he : Tk.lineLen (l.drop j) = 0 := by rw [List.drop_eq_nil_of_le (by omega)]; rfl
                have HEE := Lib.hid he
                clear he
                go_wp2
                go_round
                case rel =>
                  have h2 := HEE.out
                  have h3 := hrel2.out
                  have h4 : j = m + Tk.lineLen (l.drop m) := by omega
                  exact ⟨j, hj, rfl, (by rw [h4]; exact HK.out.symm.trans hrel0.out : Tk.skipTo l j = Tk.skipTo l k)⟩
                case measure =>
                  have h2 := HEE.out
                  have h3 := hrel2.out
                  simp [intOf]
                  omega
          · have n2 := bF (show ((l[m + 1].toNat : Nat) : Int) ≠ 47 by omega)
            have D := Lib.hid d47
            clear c32 c9 c13 c10 c47 d47
            go_wp2
            go_ret
            exact ⟨ret_int (by rw [← hrel.out, HQ.out CM.out (fun _ _ => D.out)]), rfl⟩
        · have t47 := bF (show ((l[m].toNat : Nat) : Int) ≠ 47 by omega)
          have C := Lib.hid c47
          clear c32 c9 c13 c10 c47
          go_wp2
          go_ret
          exact ⟨ret_int (by rw [← hrel.out, HQ.out CM.out (fun h => absurd h C.out)]), rfl⟩
      · have n1 : decide ((m : Int) + 1 < (l.length : Int)) = false := by simp; omega
        have CN := Lib.hid hn
        clear c32 c9 c13 c10 hn
        go_wp2
        go_ret
        exact ⟨ret_int (by rw [← hrel.out, HQ.out CM.out (fun _ h' => absurd h' CN.out)]), rfl⟩
    · have hlt' : l.length ≤ m := by omega
      have HE := Lib.hid (skip_end l m hlt')
      go_wp2
      go_ret
      exact ⟨ret_int (by rw [← hrel.out, HE.out]), rfl⟩

end Go.Proofs.YtfhpihpdijighaaDoor
