/- What scanName of package token returns. -/
import Derived.Test.YtfhpihpdijighaaDoorTokSkip
namespace Go.Proofs.YtfhpihpdijighaaDoor
open Go.RowKit

def tokVal (t : Tk.Tok) : Value := .agg #[.int .i64 (t.kind : Int), .string ⟨t.text.toArray⟩, .int .i64 (t.num : Int), .int .i64 (t.pos : Int)]
def noTok : Value := .agg #[.int .i64 0, .string ⟨#[]⟩, .int .i64 0, .int .i64 0]
def scanVal : Except Nat Tk.Tok → Value
  | .error e => .tuple #[noTok, .int .i64 (e : Int)]
  | .ok t => .tuple #[tokVal t, .int .i64 0]

theorem run_at (p : UInt8 → Bool) (l : List UInt8) (m : Nat) (h : m < l.length) : ((l.drop m).takeWhile p).length = if p l[m] then ((l.drop (m + 1)).takeWhile p).length + 1 else 0 := by
  rw [List.drop_eq_getElem_cons h, List.takeWhile_cons]
  split <;> simp
theorem run_end (p : UInt8 → Bool) (l : List UInt8) (m : Nat) (h : l.length ≤ m) : ((l.drop m).takeWhile p).length = 0 := by
  rw [List.drop_eq_nil_of_le h]; rfl
theorem run_take (p : UInt8 → Bool) (s : List UInt8) (n : Nat) (h : n = (s.takeWhile p).length) : s.take n = s.takeWhile p := by
  subst h
  induction s with
  | nil => rfl
  | cons c r ih =>
    rw [List.takeWhile_cons]
    split
    · simp [ih]
    · rfl

/-- a slice of a slice of bytes becomes a string -/
theorem conv_slice (l : List UInt8) (b off k m cap' : Nat) (w : World) (hB : Byt w (some ⟨b, off, none⟩) l) (hk : k ≤ m) (hm : m ≤ l.length) :
    (convert 56 9 (.slice (some ⟨b, off + k, none⟩) (m - k) cap')).run Tryd.prog w = .ok (.string ⟨((l.drop k).take (m - k)).toArray⟩) w := by
  have hlen : ((l.drop k).take (m - k)).length = m - k := by simp; omega
  have := run_convert_bytes_back (P := Tryd.prog) w 56 9 5 ⟨b, off + k, none⟩ cap' ((l.drop k).take (m - k)) Tryd.underlying56 Tryd.underlying5 Tryd.underlying9 (by
    intro j hj
    obtain ⟨b', off', e, hc⟩ := hB (k + j) (by omega)
    injection e with e
    injection e with e1 e2
    subst e1 e2
    have ha : (⟨b, off + k, none⟩ : Addr).add j = ⟨b, off + (k + j), none⟩ := by
      unfold Addr.add
      split
      · simp_all
      · simp [Nat.add_assoc]
    rw [ha, hc]
    simp)
  rw [hlen] at this
  exact this

theorem name_long (l : List UInt8) (k m : Nat) (_hkm : k ≤ m) (h : m - k = ((l.drop k).takeWhile Tk.isLD).length) (h16 : 16 < (m : Int) - (k : Int)) :
    Value.tuple #[.agg #[.int .i64 0, .string ⟨#[]⟩, .int .i64 0, .int .i64 0], .int .i64 3] = scanVal (Tk.nameAt l k) := by
  unfold Tk.nameAt
  rw [if_pos (by omega)]
  rfl
theorem name_short (l : List UInt8) (k m : Nat) (_hkm : k ≤ m) (h : m - k = ((l.drop k).takeWhile Tk.isLD).length) (h16 : (m : Int) - (k : Int) ≤ 16) (q : Bool) (hq : Tk.resv ((l.drop k).take (m - k)) = q) :
    Value.tuple #[.agg #[.int .i64 (if q then 3 else 1), .string ⟨((l.drop k).take (m - k)).toArray⟩, .int .i64 0, .int .i64 (k : Int)], .int .i64 0] = scanVal (Tk.nameAt l k) := by
  have hn : Tk.nameAt l k = .ok ⟨if Tk.resv ((l.drop k).takeWhile Tk.isLD) then 3 else 1, (l.drop k).takeWhile Tk.isLD, 0, k⟩ := by
    unfold Tk.nameAt
    dsimp only
    rw [if_neg (by omega)]
  rw [hn, ← run_take Tk.isLD _ (m - k) h, hq]
  cases q <;> rfl

set_option maxHeartbeats 1000000 in
theorem scanName_any (l : List UInt8) (ao : Option Addr) (cap k : Nat) (w : World) (hB : Byt w ao l) (hk : k < l.length) (hl : l.length ≤ 1000000) (hcap : l.length ≤ cap) :
    Calls Tryd.prog 92 #[.slice ao l.length cap, .int .i64 (k : Int)] w fun e w' => e = .returned (scanVal (Tk.nameAt l k)) ∧ Below w.heap.size w w' := by
  obtain ⟨b, off, rfl, hc0⟩ := hB k hk
  have hbl : b < w.heap.size := World.block_lt_of_cell? _ _ hc0
  have HB := Lib.hid hB
  clear hB hc0
  go_enter Tryd.func92, Tryd.ntmps92
  go_wp2
  go_loop [6] (fun i => ∃ m : Nat, k ≤ m ∧ m ≤ l.length ∧ i = .int .i64 m ∧ Hid (m + ((l.drop m).takeWhile Tk.isLD).length = k + ((l.drop k).takeWhile Tk.isLD).length)) (fun i => l.length - (intOf i).toNat)
  case atStart => exact ⟨k, by omega, by omega, rfl, rfl⟩
  case round =>
    obtain ⟨m, hkm, hm, rfl, hrel⟩ := hrel
    by_cases hlt : m < l.length
    · obtain ⟨b', off', hao, hc⟩ := HB.out m hlt
      injection hao with hao
      injection hao with e1 e2
      subst e1 e2
      have hs := Lib.hid (run_at Tk.isLD l m hlt)
      by_cases hL : Tk.isLet l[m] = true
      · go_wp2_with (first | (go_at_call 91; refine (isLetter_any _ _).mono ?_; rintro e w' ⟨rfl, rfl⟩))
        go_round
        case rel =>
          refine ⟨m + 1, by omega, by omega, by go_num, ?_⟩
          have h2 := hs.out
          rw [if_pos (by simp [Tk.isLD, hL])] at h2
          have h3 := hrel.out
          show _ = _
          omega
        case measure => simp [intOf]; omega
      · have hL' : Tk.isLet l[m] = false := by simpa using hL
        clear hL
        by_cases hD : Tk.isDig l[m] = true
        · go_wp2_with (first | (go_at_call 91; refine (isLetter_any _ _).mono ?_; rintro e w' ⟨rfl, rfl⟩) | (go_at_call 93; refine (isDigit_any _ _).mono ?_; rintro e w' ⟨rfl, rfl⟩))
          go_round
          case rel =>
            refine ⟨m + 1, by omega, by omega, by go_num, ?_⟩
            have h2 := hs.out
            rw [if_pos (by simp [Tk.isLD, hD])] at h2
            have h3 := hrel.out
            show _ = _
            omega
          case measure => simp [intOf]; omega
        · have hD' : Tk.isDig l[m] = false := by simpa using hD
          clear hD
          have hend : m - k = ((l.drop k).takeWhile Tk.isLD).length := by
            have h2 := hs.out
            rw [if_neg (by simp [Tk.isLD, hL', hD'])] at h2
            have h3 := hrel.out
            omega
          have HE := Lib.hid hend
          clear hend
          have hcv := fun cap' => conv_slice l b off k m cap' (w.alloc (.cells #[.int .i64 0, .string ⟨#[]⟩, .int .i64 0, .int .i64 0] 26)) (HB.out.later ((Below.refl _ _).alloc (Nat.le_refl _) _)) hkm hm
          go_wp2_with (first | (go_at_call 91; refine (isLetter_any _ _).mono ?_; rintro e w' ⟨rfl, rfl⟩) | (go_at_call 93; refine (isDigit_any _ _).mono ?_; rintro e w' ⟨rfl, rfl⟩) | (go_at_call 100; refine (reserved_any _ _).mono ?_; rintro e w' ⟨rfl, rfl⟩))
          · refine bodyPost_ret (v := .tuple #[.agg #[.int .i64 0, .string ⟨#[]⟩, .int .i64 0, .int .i64 0], .int .i64 3]) (by simp [results, Tryd.results92, go_sem]) rfl ⟨congrArg Ending.returned (name_long l k m hkm HE.out (by assumption)), ?_⟩
            exact (Below.refl _ _).alloc (Nat.le_refl _) _
          · refine bodyPost_ret (v := .tuple #[.agg #[.int .i64 3, .string ⟨((l.drop k).take (m - k)).toArray⟩, .int .i64 0, .int .i64 (k : Int)], .int .i64 0]) (by simp [results, Tryd.results92, go_sem]) rfl ⟨congrArg Ending.returned (name_short l k m hkm HE.out (by assumption) true (by assumption)), ?_⟩
            exact (Below.refl _ _).alloc (Nat.le_refl _) _
          · refine bodyPost_ret (v := .tuple #[.agg #[.int .i64 1, .string ⟨((l.drop k).take (m - k)).toArray⟩, .int .i64 0, .int .i64 (k : Int)], .int .i64 0]) (by simp [results, Tryd.results92, go_sem]) rfl ⟨congrArg Ending.returned (name_short l k m hkm HE.out (by assumption) false (by assumption)), ?_⟩
            exact (Below.refl _ _).alloc (Nat.le_refl _) _
    · have hend : m - k = ((l.drop k).takeWhile Tk.isLD).length := by
        have h3 := hrel.out
        rw [run_end Tk.isLD l m (by omega)] at h3
        omega
      have HE := Lib.hid hend
      clear hend
      have hcv := fun cap' => conv_slice l b off k m cap' (w.alloc (.cells #[.int .i64 0, .string ⟨#[]⟩, .int .i64 0, .int .i64 0] 26)) (HB.out.later ((Below.refl _ _).alloc (Nat.le_refl _) _)) hkm hm
      go_wp2_with (first | (go_at_call 100; refine (reserved_any _ _).mono ?_; rintro e w' ⟨rfl, rfl⟩))
      · refine bodyPost_ret (v := .tuple #[.agg #[.int .i64 0, .string ⟨#[]⟩, .int .i64 0, .int .i64 0], .int .i64 3]) (by simp [results, Tryd.results92, go_sem]) rfl ⟨congrArg Ending.returned (name_long l k m hkm HE.out (by assumption)), ?_⟩
        exact (Below.refl _ _).alloc (Nat.le_refl _) _
      · refine bodyPost_ret (v := .tuple #[.agg #[.int .i64 3, .string ⟨((l.drop k).take (m - k)).toArray⟩, .int .i64 0, .int .i64 (k : Int)], .int .i64 0]) (by simp [results, Tryd.results92, go_sem]) rfl ⟨congrArg Ending.returned (name_short l k m hkm HE.out (by assumption) true (by assumption)), ?_⟩
        exact (Below.refl _ _).alloc (Nat.le_refl _) _
      · refine bodyPost_ret (v := .tuple #[.agg #[.int .i64 1, .string ⟨((l.drop k).take (m - k)).toArray⟩, .int .i64 0, .int .i64 (k : Int)], .int .i64 0]) (by simp [results, Tryd.results92, go_sem]) rfl ⟨congrArg Ending.returned (name_short l k m hkm HE.out (by assumption) false (by assumption)), ?_⟩
        exact (Below.refl _ _).alloc (Nat.le_refl _) _

end Go.Proofs.YtfhpihpdijighaaDoor
