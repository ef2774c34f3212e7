/- What lineEnd and skip of package token return, for a slice of bytes that can be read. -/
import Derived.Test.YtfhpihpdijighaaDoorTokLeaf
namespace Go.Proofs.YtfhpihpdijighaaDoor
open Go.RowKit

/-- the slice at ao holds the bytes l -/
def Byt (w : World) (ao : Option Addr) (l : List UInt8) : Prop :=
  ∀ i (h : i < l.length), ∃ b off, ao = some ⟨b, off, none⟩ ∧ w.cell? ⟨b, off + i, none⟩ = some (.int .u8 (l[i].toNat : Int))

theorem Byt.later {w w' : World} {ao : Option Addr} {l : List UInt8} (h : Byt w ao l) (hb : Below w.heap.size w w') : Byt w' ao l := by
  intro i hi
  obtain ⟨b, off, e, hc⟩ := h i hi
  exact ⟨b, off, e, cell_later hb hc⟩

theorem lineLen_at (l : List UInt8) (m : Nat) (h : m < l.length) : Tk.lineLen (l.drop m) = if l[m].toNat = 10 then 0 else Tk.lineLen (l.drop (m + 1)) + 1 := by
  rw [List.drop_eq_getElem_cons h, Tk.lineLen_c]

set_option maxHeartbeats 400000 in
theorem lineEnd_any (l : List UInt8) (ao : Option Addr) (cap k : Nat) (w : World) (hB : Byt w ao l) (hk : k ≤ l.length) (hl : l.length ≤ 1000000) :
    Calls Tryd.prog 90 #[.slice ao l.length cap, .int .i64 (k : Int)] w fun e w' => e = .returned (.int .i64 ((k + Tk.lineLen (l.drop k) : Nat) : Int)) ∧ w = w' := by
  have HB := Lib.hid hB
  clear hB
  go_enter Tryd.func90, Tryd.ntmps90
  go_wp2
  go_loop [1] (fun i => ∃ m : Nat, m ≤ l.length ∧ i = .int .i64 m ∧ Hid (m + Tk.lineLen (l.drop m) = k + Tk.lineLen (l.drop k))) (fun i => l.length - (intOf i).toNat)
  case atStart => exact ⟨k, hk, rfl, rfl⟩
  case round =>
    obtain ⟨m, hm, rfl, hrel⟩ := hrel
    by_cases hlt : m < l.length
    · obtain ⟨b, off, rfl, hc⟩ := HB.out m hlt
      have hs := Lib.hid (lineLen_at l m hlt)
      by_cases h10 : l[m].toNat = 10
      · have h1 : ((l[m].toNat : Int) != 10) = false := by simp [h10]
        have H10 := Lib.hid h10
        clear h10
        go_wp2
        go_ret
        refine ⟨ret_int ?_, rfl⟩
        have := hs.out
        rw [if_pos H10.out] at this
        have := hrel.out
        omega
      · have h1 : ((l[m].toNat : Int) != 10) = true := by simp [bne_iff_ne]; omega
        have H10 := Lib.hid h10
        clear h10
        go_wp2
        go_round
        case rel =>
          refine ⟨m + 1, by omega, by go_num, ?_⟩
          have h2 := hs.out
          rw [if_neg H10.out] at h2
          have h3 := hrel.out
          show _ = _
          omega
        case measure => simp [intOf]; omega
    · go_wp2
      go_ret
      refine ⟨ret_int ?_, rfl⟩
      have h3 := hrel.out
      have : l.drop m = [] := List.drop_eq_nil_of_le (by omega)
      rw [this] at h3
      simp [Tk.lineLen] at h3
      omega

theorem bT {a b : Int} (h : a = b) : (a == b) = true := beq_iff_eq.2 h
theorem bF {a b : Int} (h : a ≠ b) : (a == b) = false := beq_eq_false_iff_ne.2 h
theorem nT {a b : Int} (h : a ≠ b) : (a != b) = true := bne_iff_ne.2 h
theorem nF {a b : Int} (h : a = b) : (a != b) = false := by simp [h]

theorem skip_space (l : List UInt8) (m : Nat) (h : m < l.length) (hs : l[m].toNat = 32 ∨ l[m].toNat = 9 ∨ l[m].toNat = 13 ∨ l[m].toNat = 10) : Tk.skipTo l m = Tk.skipTo l (m + 1) := by
  have hh : Tk.isSpc l[m] = true := by simp [Tk.isSpc]; omega
  unfold Tk.skipTo
  rw [List.drop_eq_getElem_cons h, Tk.sepLen_f, if_pos hh]
  omega
theorem skip_comment (l : List UInt8) (m : Nat) (h : m < l.length) (h' : m + 1 < l.length) (h1 : l[m].toNat = 47) (h2 : l[m + 1].toNat = 47) : Tk.skipTo l m = Tk.skipTo l (m + Tk.lineLen (l.drop m)) := by
  unfold Tk.skipTo
  have e : l.drop m = l[m] :: l[m + 1] :: l.drop (m + 2) := by rw [List.drop_eq_getElem_cons h, List.drop_eq_getElem_cons h']
  have := Tk.sepLen_slashes l[m] l[m + 1] (l.drop (m + 2)) h1 h2
  rw [← e, List.drop_drop] at this
  omega
theorem skip_stop (l : List UInt8) (m : Nat) (h : m < l.length) (hs : l[m].toNat ≠ 32 ∧ l[m].toNat ≠ 9 ∧ l[m].toNat ≠ 13 ∧ l[m].toNat ≠ 10) (hc : l[m].toNat = 47 → (h' : m + 1 < l.length) → l[m + 1].toNat ≠ 47) : Tk.skipTo l m = m := by
  have hh : Tk.isSpc l[m] = false := by simp [Tk.isSpc]; omega
  unfold Tk.skipTo
  rw [List.drop_eq_getElem_cons h, Tk.sepLen_f, if_neg (by simp [hh]), if_neg (c := _ ∧ _)]
  · rfl
  rintro ⟨h1, h2⟩
  by_cases h' : m + 1 < l.length
  · rw [List.drop_eq_getElem_cons h'] at h2
    simp only [List.head?_cons, Option.map_some, Option.some.injEq] at h2
    exact hc h1 h' h2
  · rw [List.drop_eq_nil_of_le (by omega)] at h2
    simp at h2
theorem skip_end (l : List UInt8) (m : Nat) (h : l.length ≤ m) : Tk.skipTo l m = m := by
  unfold Tk.skipTo
  rw [List.drop_eq_nil_of_le h]
  rfl
theorem lineLen_pos (l : List UInt8) (m : Nat) (h : m < l.length) (h1 : l[m].toNat ≠ 10) : 0 < Tk.lineLen (l.drop m) := by
  rw [lineLen_at l m h, if_neg h1]
  omega
theorem lineLen_drop (l : List UInt8) (m : Nat) (h : m ≤ l.length) : m + Tk.lineLen (l.drop m) ≤ l.length := by
  have := Tk.lineLen_le (l.drop m)
  simp at this
  omega

set_option maxHeartbeats 1000000 in
theorem skip_any (l : List UInt8) (ao : Option Addr) (cap : Nat) (at_ : Int) (w : World) (hB : Byt w ao l) (h0 : 0 ≤ at_) (hk : at_ ≤ l.length) (hl : l.length ≤ 1000000) :
    Calls Tryd.prog 85 #[.slice ao l.length cap, .int .i64 at_] w fun e w' => e = .returned (.int .i64 (Tk.skipTo l at_.toNat : Int)) ∧ w = w' := by
  obtain ⟨k, rfl⟩ := Int.eq_ofNat_of_zero_le h0
  have HB := Lib.hid hB
  clear hB
  go_enter Tryd.func85, Tryd.ntmps85
  go_wp2
  go_step3
  go_wp2
  go_step3
  go_wp2
  go_loop [1] (fun i => ∃ m : Nat, m ≤ l.length ∧ i = .int .i64 m ∧ Hid (Tk.skipTo l m = Tk.skipTo l (k : Int).toNat)) (fun i => l.length - (intOf i).toNat)
  case atStart => exact ⟨k, by omega, rfl, rfl⟩
  case round =>
    obtain ⟨m, hm, rfl, hrel⟩ := hrel
    by_cases hlt : m < l.length
    · obtain ⟨b, off, rfl, hc⟩ := HB.out m hlt
      have HS := Lib.hid (skip_space l m hlt)
      have HQ := Lib.hid (skip_stop l m hlt)
      by_cases c32 : l[m].toNat = 32
      · have t32 := bT (show ((l[m].toNat : Nat) : Int) = 32 by omega)
        have C := Lib.hid c32
        clear c32
        go_wp2
        go_round
        case rel => exact ⟨m + 1, by omega, by go_num, ((HS.out (by have := C.out; omega)).symm.trans hrel.out : _ = _)⟩
        case measure => simp [intOf]; omega
      by_cases c9 : l[m].toNat = 9
      · have t32 := bF (show ((l[m].toNat : Nat) : Int) ≠ 32 by omega)
        have t9 := bT (show ((l[m].toNat : Nat) : Int) = 9 by omega)
        have C := Lib.hid c9
        clear c9
        go_wp2
        go_round
        case rel => exact ⟨m + 1, by omega, by go_num, ((HS.out (by have := C.out; omega)).symm.trans hrel.out : _ = _)⟩
        case measure => simp [intOf]; omega
      by_cases c13 : l[m].toNat = 13
      · have t32 := bF (show ((l[m].toNat : Nat) : Int) ≠ 32 by omega)
        have t9 := bF (show ((l[m].toNat : Nat) : Int) ≠ 9 by omega)
        have t13 := bT (show ((l[m].toNat : Nat) : Int) = 13 by omega)
        have C := Lib.hid c13
        clear c13
        go_wp2
        go_round
        case rel => exact ⟨m + 1, by omega, by go_num, ((HS.out (by have := C.out; omega)).symm.trans hrel.out : _ = _)⟩
        case measure => simp [intOf]; omega
      by_cases c10 : l[m].toNat = 10
      · have t32 := bF (show ((l[m].toNat : Nat) : Int) ≠ 32 by omega)
        have t9 := bF (show ((l[m].toNat : Nat) : Int) ≠ 9 by omega)
        have t13 := bF (show ((l[m].toNat : Nat) : Int) ≠ 13 by omega)
        have t10 := bT (show ((l[m].toNat : Nat) : Int) = 10 by omega)
        have C := Lib.hid c10
        clear c10
        go_wp2
        go_round
        case rel => exact ⟨m + 1, by omega, by go_num, ((HS.out (by have := C.out; omega)).symm.trans hrel.out : _ = _)⟩
        case measure => simp [intOf]; omega
      by_cases c47 : l[m].toNat = 47
      · have t32 := bF (show ((l[m].toNat : Nat) : Int) ≠ 32 by omega)
        have t9 := bF (show ((l[m].toNat : Nat) : Int) ≠ 9 by omega)
        have t13 := bF (show ((l[m].toNat : Nat) : Int) ≠ 13 by omega)
        have t10 := bF (show ((l[m].toNat : Nat) : Int) ≠ 10 by omega)
        have t47 := bT (show ((l[m].toNat : Nat) : Int) = 47 by omega)
        by_cases hn : m + 1 = l.length
        · have n1 := bT (show ((m : Int) + 1) = (l.length : Int) by omega)
          have C := Lib.hid c47
          have CN := Lib.hid hn
          have CM := Lib.hid (And.intro c32 (And.intro c9 (And.intro c13 c10)))
          clear c47 hn c32 c9 c13 c10
          go_wp2
          go_ret
          exact ⟨ret_int (by rw [← hrel.out, HQ.out CM.out (fun _ h' => absurd CN.out (by omega))]), rfl⟩
        · have n1 := bF (show ((m : Int) + 1) ≠ (l.length : Int) by omega)
          have hm1 : m + 1 < l.length := by omega
          obtain ⟨b', off', hao, hc'⟩ := HB.out (m + 1) hm1
          injection hao with hao
          injection hao with e1 e2
          subst e1 e2
          have CM := Lib.hid (And.intro c32 (And.intro c9 (And.intro c13 c10)))
          have C := Lib.hid c47
          by_cases d47 : l[m + 1].toNat = 47
          · have n2 := nF (show ((l[m + 1].toNat : Nat) : Int) = 47 by omega)
            have HK := Lib.hid (skip_comment l m hlt hm1 c47 d47)
            have hp := lineLen_pos l m hlt c10
            have hd := lineLen_drop l m hm
            have HB' := HB
            clear c47 hn c32 c9 c13 c10 d47
            go_wp2_with (go_at_call 90; refine (lineEnd_any l _ cap m w HB'.out hm hl).mono ?_; rintro e w' ⟨rfl, rfl⟩)
            go_round
            case rel => exact ⟨m + Tk.lineLen (l.drop m), hd, rfl, (HK.out.symm.trans hrel.out : _ = _)⟩
            case measure => simp [intOf]; omega
          · have n2 := nT (show ((l[m + 1].toNat : Nat) : Int) ≠ 47 by omega)
            have D := Lib.hid d47
            clear c47 hn c32 c9 c13 c10 d47
            go_wp2
            go_ret
            exact ⟨ret_int (by rw [← hrel.out, HQ.out CM.out (fun _ _ => D.out)]), rfl⟩
      · have t32 := bF (show ((l[m].toNat : Nat) : Int) ≠ 32 by omega)
        have t9 := bF (show ((l[m].toNat : Nat) : Int) ≠ 9 by omega)
        have t13 := bF (show ((l[m].toNat : Nat) : Int) ≠ 13 by omega)
        have t10 := bF (show ((l[m].toNat : Nat) : Int) ≠ 10 by omega)
        have t47 := bF (show ((l[m].toNat : Nat) : Int) ≠ 47 by omega)
        have CM := Lib.hid (And.intro c32 (And.intro c9 (And.intro c13 c10)))
        have C := Lib.hid c47
        clear c47 c32 c9 c13 c10
        go_wp2
        go_ret
        exact ⟨ret_int (by rw [← hrel.out, HQ.out CM.out (fun h => absurd h C.out)]), rfl⟩
    · have hlt' : l.length ≤ m := by omega
      have HE := Lib.hid (skip_end l m hlt')
      go_wp2
      go_ret
      exact ⟨ret_int (by rw [← hrel.out, HE.out]), rfl⟩

end Go.Proofs.YtfhpihpdijighaaDoor
