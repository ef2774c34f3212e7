/- What scan of package token returns. -/
import Derived.Test.YtfhpihpdijighaaDoorTokNum
import Derived.Test.YtfhpihpdijighaaDoorTokSign
namespace Go.Proofs.YtfhpihpdijighaaDoor
open Go.RowKit

theorem scanVal_form (r : Except Nat Tk.Tok) : ∃ (K : Int) (S : ByteArray) (N P E : Int), scanVal r = .tuple #[.agg #[.int .i64 K, .string S, .int .i64 N, .int .i64 P], .int .i64 E] := by
  cases r with
  | error e => exact ⟨_, _, _, _, _, rfl⟩
  | ok t => exact ⟨_, _, _, _, _, rfl⟩

/-- the cells of a block of four cells that was laid last, behind a call that changed nothing that was there -/
theorem four_later {w w2 : World} {c0 c1 c2 c3 : Value} {t : TypeId} (hb : Below (w.alloc (.cells #[c0, c1, c2, c3] t)).heap.size (w.alloc (.cells #[c0, c1, c2, c3] t)) w2) :
    w2.cell? ⟨w.heap.size, 0, none⟩ = some c0 ∧ w2.cell? ⟨w.heap.size, 1, none⟩ = some c1 ∧ w2.cell? ⟨w.heap.size, 2, none⟩ = some c2 ∧ w2.cell? ⟨w.heap.size, 3, none⟩ = some c3 ∧
    w2.frozen? ⟨w.heap.size, 0, none⟩ = false ∧ w2.frozen? ⟨w.heap.size, 1, none⟩ = false ∧ w2.frozen? ⟨w.heap.size, 2, none⟩ = false ∧ w2.frozen? ⟨w.heap.size, 3, none⟩ = false ∧ w.heap.size < w2.heap.size := by
  have hs : w.heap.size < (w.alloc (.cells #[c0, c1, c2, c3] t)).heap.size := by simp
  refine ⟨?_, ?_, ?_, ?_, ?_, ?_, ?_, ?_, Nat.lt_of_lt_of_le hs hb.size⟩
  · rw [hb.cell hs, World.cell?_alloc_mark]; rfl
  · rw [hb.cell hs, World.cell?_alloc_mark]; rfl
  · rw [hb.cell hs, World.cell?_alloc_mark]; rfl
  · rw [hb.cell hs, World.cell?_alloc_mark]; rfl
  · rw [hb.frozen hs, World.frozen?_alloc_mark]; rfl
  · rw [hb.frozen hs, World.frozen?_alloc_mark]; rfl
  · rw [hb.frozen hs, World.frozen?_alloc_mark]; rfl
  · rw [hb.frozen hs, World.frozen?_alloc_mark]; rfl

set_option maxHeartbeats 1000000 in
theorem scan_any (l : List UInt8) (ao : Option Addr) (cap k : Nat) (w : World) (hB : Byt w ao l) (hk : k < l.length) (hl : l.length ≤ 1000000) (hcap : l.length ≤ cap) :
    Calls Tryd.prog 86 #[.slice ao l.length cap, .int .i64 (k : Int)] w fun e w' => e = .returned (scanVal (Tk.tokAt l k)) ∧ Below w.heap.size w w' := by
  obtain ⟨b, off, rfl, hc⟩ := hB k hk
  have hbl : b < w.heap.size := World.block_lt_of_cell? _ _ hc
  have hg : l.getD k 0 = l[k] := by simp [List.getD, List.getElem?_eq_getElem hk]
  have HG := Lib.hid hg
  have HB := Lib.hid hB
  clear hB hg
  have HW := Lib.hid (HB.out.later ((Below.refl _ _).alloc (Nat.le_refl _) (.cells #[.int .i64 0, .string ⟨#[]⟩, .int .i64 0, .int .i64 0] 26)))
  by_cases hL : Tk.isLet l[k] = true
  · have HT : Hid (Tk.tokAt l k = Tk.nameAt l k) := by unfold Tk.tokAt; rw [HG.out, if_pos hL]; rfl
    obtain ⟨K, S, N, P, E, hv⟩ := scanVal_form (Tk.nameAt l k)
    have HV := Lib.hid hv
    clear hv
    go_enter Tryd.func86, Tryd.ntmps86
    go_wp2_with (first | (go_at_call 91; refine (isLetter_any _ _).mono ?_; rintro e w' ⟨rfl, rfl⟩) | (go_at_call 92; refine (scanName_any l _ cap k _ HW.out hk hl hcap).mono ?_; rintro e w2 ⟨rfl, hb⟩; rw [HV.out]; obtain ⟨q0, q1, q2, q3, f0, f1, f2, f3, hz⟩ := four_later hb))
    refine bodyPost_ret (v := .tuple #[.agg #[.int .i64 K, .string S, .int .i64 N, .int .i64 P], .int .i64 E]) (by simp [results, Tryd.results86, go_sem, q0, q1, q2, q3]) rfl ⟨by rw [HT.out, HV.out], ?_⟩
    exact (((((Below.refl _ _).alloc (Nat.le_refl _) _).trans (hb.mono (by simp))).setCell (Nat.le_refl _) _).setCell (Nat.le_refl _) _ |>.setCell (Nat.le_refl _) _).setCell (Nat.le_refl _) _
  · have hL' : Tk.isLet l[k] = false := by simpa using hL
    clear hL
    by_cases hD : Tk.isDig l[k] = true
    · have HT : Hid (Tk.tokAt l k = Tk.numAt l k) := by unfold Tk.tokAt; rw [HG.out, if_neg (by simp [hL']), if_pos hD]; rfl
      obtain ⟨K, S, N, P, E, hv⟩ := scanVal_form (Tk.numAt l k)
      have HV := Lib.hid hv
      clear hv
      go_enter Tryd.func86, Tryd.ntmps86
      go_wp2_with (first | (go_at_call 91; refine (isLetter_any _ _).mono ?_; rintro e w' ⟨rfl, rfl⟩) | (go_at_call 93; refine (isDigit_any _ _).mono ?_; rintro e w' ⟨rfl, rfl⟩) | (go_at_call 94; refine (scanNumber_any l _ cap k _ HW.out hk hl hcap).mono ?_; rintro e w2 ⟨rfl, hb⟩; rw [HV.out]; obtain ⟨q0, q1, q2, q3, f0, f1, f2, f3, hz⟩ := four_later hb))
      refine bodyPost_ret (v := .tuple #[.agg #[.int .i64 K, .string S, .int .i64 N, .int .i64 P], .int .i64 E]) (by simp [results, Tryd.results86, go_sem, q0, q1, q2, q3]) rfl ⟨by rw [HT.out, HV.out], ?_⟩
      exact (((((Below.refl _ _).alloc (Nat.le_refl _) _).trans (hb.mono (by simp))).setCell (Nat.le_refl _) _).setCell (Nat.le_refl _) _ |>.setCell (Nat.le_refl _) _).setCell (Nat.le_refl _) _
    · have hD' : Tk.isDig l[k] = false := by simpa using hD
      clear hD
      have HT : Hid (Tk.tokAt l k = Tk.signAt l k) := by unfold Tk.tokAt; rw [HG.out, if_neg (by simp [hL']), if_neg (by simp [hD'])]; rfl
      obtain ⟨K, S, N, P, E, hv⟩ := scanVal_form (Tk.signAt l k)
      have HV := Lib.hid hv
      clear hv
      go_enter Tryd.func86, Tryd.ntmps86
      go_wp2_with (first | (go_at_call 91; refine (isLetter_any _ _).mono ?_; rintro e w' ⟨rfl, rfl⟩) | (go_at_call 93; refine (isDigit_any _ _).mono ?_; rintro e w' ⟨rfl, rfl⟩) | (go_at_call 95; refine (scanSign_any l _ cap k _ HW.out hk hl hcap).mono ?_; rintro e w2 ⟨rfl, hb⟩; rw [HV.out]; obtain ⟨q0, q1, q2, q3, f0, f1, f2, f3, hz⟩ := four_later hb))
      refine bodyPost_ret (v := .tuple #[.agg #[.int .i64 K, .string S, .int .i64 N, .int .i64 P], .int .i64 E]) (by simp [results, Tryd.results86, go_sem, q0, q1, q2, q3]) rfl ⟨by rw [HT.out, HV.out], ?_⟩
      exact (((((Below.refl _ _).alloc (Nat.le_refl _) _).trans (hb.mono (by simp))).setCell (Nat.le_refl _) _).setCell (Nat.le_refl _) _ |>.setCell (Nat.le_refl _) _).setCell (Nat.le_refl _) _

end Go.Proofs.YtfhpihpdijighaaDoor
