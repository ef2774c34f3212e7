/- What scanNumber of package token returns. -/
import Derived.Test.YtfhpihpdijighaaDoorTokName
namespace Go.Proofs.YtfhpihpdijighaaDoor
open Go.RowKit

theorem num_at (l : List UInt8) (m n : Nat) (h : m < l.length) (hd : Tk.isDig l[m] = true) :
    Tk.numVal n ((l.drop m).takeWhile Tk.isDig) = if n > (9223372036854775807 - (l[m].toNat - 48)) / 10 then none else Tk.numVal (10 * n + (l[m].toNat - 48)) ((l.drop (m + 1)).takeWhile Tk.isDig) := by
  rw [List.drop_eq_getElem_cons h, List.takeWhile_cons, if_pos hd]
  rfl
theorem num_stop (l : List UInt8) (m n : Nat) (h : m < l.length) (hd : Tk.isDig l[m] = false) : Tk.numVal n ((l.drop m).takeWhile Tk.isDig) = some n := by
  rw [List.drop_eq_getElem_cons h, List.takeWhile_cons, if_neg (by simp [hd])]
  rfl
theorem num_end (l : List UInt8) (m n : Nat) (h : l.length ≤ m) : Tk.numVal n ((l.drop m).takeWhile Tk.isDig) = some n := by
  rw [List.drop_eq_nil_of_le h]
  rfl
theorem num_great (l : List UInt8) (k : Nat) (h : Tk.numVal 0 ((l.drop k).takeWhile Tk.isDig) = none) :
    Value.tuple #[.agg #[.int .i64 0, .string ⟨#[]⟩, .int .i64 0, .int .i64 0], .int .i64 2] = scanVal (Tk.numAt l k) := by
  have hn : Tk.numAt l k = .error 2 := by
    unfold Tk.numAt
    dsimp only
    rw [h]
  rw [hn]
  rfl
theorem num_good (l : List UInt8) (k m n : Nat) (h : some n = Tk.numVal 0 ((l.drop k).takeWhile Tk.isDig)) (hm : m - k = ((l.drop k).takeWhile Tk.isDig).length) :
    Value.tuple #[.agg #[.int .i64 2, .string ⟨((l.drop k).take (m - k)).toArray⟩, .int .i64 (n : Int), .int .i64 (k : Int)], .int .i64 0] = scanVal (Tk.numAt l k) := by
  have hn : Tk.numAt l k = .ok ⟨2, (l.drop k).takeWhile Tk.isDig, n, k⟩ := by
    unfold Tk.numAt
    dsimp only
    rw [← h]
  rw [hn, ← run_take Tk.isDig _ (m - k) hm]
  rfl

set_option maxHeartbeats 1000000 in
theorem scanNumber_any (l : List UInt8) (ao : Option Addr) (cap k : Nat) (w : World) (hB : Byt w ao l) (hk : k < l.length) (hl : l.length ≤ 1000000) (hcap : l.length ≤ cap) :
    Calls Tryd.prog 94 #[.slice ao l.length cap, .int .i64 (k : Int)] w fun e w' => e = .returned (scanVal (Tk.numAt l k)) ∧ Below w.heap.size w w' := by
  obtain ⟨b, off, rfl, hc0⟩ := hB k hk
  have hbl : b < w.heap.size := World.block_lt_of_cell? _ _ hc0
  have HB := Lib.hid hB
  clear hB hc0
  go_enter Tryd.func94, Tryd.ntmps94
  go_wp2
  go_loop [6, 7, 8] (fun i j _ => ∃ m n : Nat, k ≤ m ∧ m ≤ l.length ∧ n ≤ 9223372036854775807 ∧ i = .int .i64 m ∧ j = .int .i64 n ∧ Hid (m + ((l.drop m).takeWhile Tk.isDig).length = k + ((l.drop k).takeWhile Tk.isDig).length) ∧ Hid (Tk.numVal n ((l.drop m).takeWhile Tk.isDig) = Tk.numVal 0 ((l.drop k).takeWhile Tk.isDig))) (fun i _ _ => l.length - (intOf i).toNat)
  case atStart => exact ⟨k, 0, by omega, by omega, by omega, rfl, rfl, rfl, rfl⟩
  case round =>
    obtain ⟨m, n, hkm, hm, hn, rfl, rfl, hrel, hval⟩ := hrel
    by_cases hlt : m < l.length
    · obtain ⟨b', off', hao, hc⟩ := HB.out m hlt
      injection hao with hao
      injection hao with e1 e2
      subst e1 e2
      have hs := Lib.hid (run_at Tk.isDig l m hlt)
      have hu := UInt8.toNat_lt l[m]
      by_cases hD : Tk.isDig l[m] = true
      · have hd1 : 48 ≤ (l[m].toNat : Int) ∧ (l[m].toNat : Int) ≤ 57 := by simp [Tk.isDig] at hD; omega
        obtain ⟨hd1, hd2⟩ := hd1
        go_wp2_with (first | (go_at_call 93; refine (isDigit_any _ _).mono ?_; rintro e w' ⟨rfl, rfl⟩))
        · refine bodyPost_ret (v := .tuple #[.agg #[.int .i64 0, .string ⟨#[]⟩, .int .i64 0, .int .i64 0], .int .i64 2]) (by simp [results, Tryd.results94, go_sem]) rfl ⟨congrArg Ending.returned (num_great l k ?_), ?_⟩
          · rw [← hval.out, num_at l m n hlt hD, if_pos (by omega)]
          · exact (Below.refl _ _).alloc (Nat.le_refl _) _
        · go_round
          case rel =>
            refine ⟨m + 1, 10 * n + (l[m].toNat - 48), by omega, by omega, by omega, by go_num, ?_, ?_, ?_⟩
            · congr 1
              omega
            · have h2 := hs.out
              rw [if_pos hD] at h2
              have h3 := hrel.out
              show _ = _
              omega
            · have h2 := num_at l m n hlt hD
              rw [if_neg (by omega)] at h2
              exact (h2.symm.trans hval.out : _ = _)
          case measure => simp [intOf]; omega
      · have hD' : Tk.isDig l[m] = false := by simpa using hD
        clear hD
        have hend : m - k = ((l.drop k).takeWhile Tk.isDig).length := by
          have h2 := hs.out
          rw [if_neg (by simp [hD'])] at h2
          have h3 := hrel.out
          omega
        have HE := Lib.hid hend
        have HV := Lib.hid ((num_stop l m n hlt hD').symm.trans hval.out)
        clear hend
        have hcv := fun cap' => conv_slice l b off k m cap' (w.alloc (.cells #[.int .i64 0, .string ⟨#[]⟩, .int .i64 0, .int .i64 0] 26)) (HB.out.later ((Below.refl _ _).alloc (Nat.le_refl _) _)) hkm hm
        go_wp2_with (first | (go_at_call 93; refine (isDigit_any _ _).mono ?_; rintro e w' ⟨rfl, rfl⟩))
        refine bodyPost_ret (v := .tuple #[.agg #[.int .i64 2, .string ⟨((l.drop k).take (m - k)).toArray⟩, .int .i64 (n : Int), .int .i64 (k : Int)], .int .i64 0]) (by simp [results, Tryd.results94, go_sem]) rfl ⟨congrArg Ending.returned (num_good l k m n HV.out HE.out), ?_⟩
        exact (Below.refl _ _).alloc (Nat.le_refl _) _
    · have hend : m - k = ((l.drop k).takeWhile Tk.isDig).length := by
        have h3 := hrel.out
        rw [run_end Tk.isDig l m (by omega)] at h3
        omega
      have HE := Lib.hid hend
      have HV := Lib.hid ((num_end l m n (by omega)).symm.trans hval.out)
      clear hend
      have hcv := fun cap' => conv_slice l b off k m cap' (w.alloc (.cells #[.int .i64 0, .string ⟨#[]⟩, .int .i64 0, .int .i64 0] 26)) (HB.out.later ((Below.refl _ _).alloc (Nat.le_refl _) _)) hkm hm
      go_wp2
      refine bodyPost_ret (v := .tuple #[.agg #[.int .i64 2, .string ⟨((l.drop k).take (m - k)).toArray⟩, .int .i64 (n : Int), .int .i64 (k : Int)], .int .i64 0]) (by simp [results, Tryd.results94, go_sem]) rfl ⟨congrArg Ending.returned (num_good l k m n HV.out HE.out), ?_⟩
      exact (Below.refl _ _).alloc (Nat.le_refl _) _

end Go.Proofs.YtfhpihpdijighaaDoor
