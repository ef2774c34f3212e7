/- What 'awake' of layer 8 returns: true. -/
import Derived.Test.YtobpnpkcafacjaaTbMk
namespace Go.Proofs.Ytobpnpkcafacjaa
open Go.RowKit
set_option maxRecDepth 100000

/-- the two mutexes -/
def ak8 : List TM := [⟨0, false⟩, ⟨3, false⟩]
def ak8z : List TH := [(0, 0), (0, 0), (0, 0), (0, 0)]
def ak8t : List TH := [(0, 0), (0, 0), (1, 1), (0, 0)]
theorem ak8_ok : TmOk ak8 := ⟨by decide, by decide⟩
theorem thOk_of {d : Int} {hs : List TH} (h : (hs.all fun h => decide (0 ≤ h.1) && decide (h.1 ≤ 4) && decide (0 ≤ h.2) && decide (h.2 ≤ 60)) = true) (hd : 60 ≤ d) : ThOk d hs := fun x hx => by
  have := List.all_eq_true.1 h x hx
  simp only [Bool.and_eq_true, decide_eq_true_eq] at this
  omega
theorem mxR_ak8 {w : World} {N : Nat} (h : w.heap[N]? = some (.cells #[.string ⟨#[97]⟩, .bool false, .int .i64 0, .string ⟨#[98]⟩, .bool false, .int .i64 3] 33)) : MxR w (some ⟨N, 0, none⟩) ak8 := by
  have q := fun j => cell_of_row w N j _ _ _ h
  intro i hi
  have hi2 : i < 2 := hi
  rcases (show i = 0 ∨ i = 1 by omega) with rfl | rfl
  · exact ⟨N, 0, ⟨#[97]⟩, rfl, q 0, q 1, q 2⟩
  · exact ⟨N, 0, ⟨#[98]⟩, rfl, q 3, q 4, q 5⟩
set_option maxHeartbeats 4000000 in
theorem awake8_any (w : World) : Calls Try.prog 18 #[] w fun e w' => e = .returned (.bool true) ∧ Below w.heap.size w w' := by
  have hb0 : Below w.heap.size w (w.alloc (.cells #[.string ⟨#[97]⟩, .bool false, .int .i64 0, .string ⟨#[98]⟩, .bool false, .int .i64 3] 33)) := (Below.refl _ _).alloc (Nat.le_refl _) _
  have hM0 := mxR_ak8 (heap_alloc_new w (.cells #[.string ⟨#[97]⟩, .bool false, .int .i64 0, .string ⟨#[98]⟩, .bool false, .int .i64 3] 33))
  have HNEW := Lib.hid (new_any _ _ ak8 2 hM0 ak8_ok)
  have HB0 := Lib.hid hb0
  have HM0 := Lib.hid hM0
  clear hb0 hM0
  go_enter Try.func18, Try.ntmps18
  go_wp2_with fail
  generalize hW : w.alloc (.cells #[.string ⟨#[97]⟩, .bool false, .int .i64 0, .string ⟨#[98]⟩, .bool false, .int .i64 3] 33) = w0 at *
  clear hW
  refine HNEW.out.mono ?_
  rintro e w1 ⟨D, c, rfl, hN1, hb1⟩
  have hN1' : TbN w1 w0.heap.size D c ak8z := hN1
  have HL1 := Lib.hid (lock_any w1 _ D ak8 ak8z 2 c 4 2 0 (HM0.out.later hb1) ak8_ok hN1'.v rfl rfl (by unfold I64'; omega) (by omega) (by omega) (thOk_of rfl (by omega)))
  have HB1 := Lib.hid (below_two HB0.out hb1)
  have HM1 := Lib.hid (HM0.out.later hb1)
  clear hN1 hN1' hb1 HNEW HM0 HB0
  go_wp2_with fail
  refine HL1.out.mono ?_
  rintro e w2 ⟨D2, c2, rfl, hN2, hb2⟩
  have hN2' : TbN w2 w1.heap.size D2 c2 ak8t := hN2
  have HL2 := Lib.hid (lock_any w2 _ D2 ak8 ak8t 2 c2 4 2 0 (HM1.out.later hb2) ak8_ok hN2'.v rfl rfl (by unfold I64'; omega) (by omega) (by omega) (thOk_of rfl (by omega)))
  have HB2 := Lib.hid (below_two HB1.out hb2)
  have HM2 := Lib.hid (HM1.out.later hb2)
  have HV2 := Lib.hid hN2'.v
  clear hN2 hN2' hb2 HL1 HM1 HB1
  go_wp2_with fail
  refine HL2.out.mono ?_
  rintro e w3 ⟨D3, c3, rfl, -, hb3⟩
  have HB3 := Lib.hid (below_two HB2.out hb3)
  have HM3 := Lib.hid (HM2.out.later hb3)
  have HV3 := Lib.hid (HV2.out.later hb3)
  have HE3 := Lib.hid (elements_any w3 _ ak8 2 HM3.out ak8_ok)
  clear hb3 HL2 HM2 HB2 HV2
  have e1 : frV ak8 ak8z 2 0 = true := rfl
  have e2 : frV ak8 ak8t 2 0 = false := rfl
  rw [e1, e2]
  go_wp2_with fail
  refine HE3.out.mono ?_
  rintro e w4 ⟨rfl, hb4⟩
  have HB4 := Lib.hid (below_two HB3.out hb4)
  have HM4 := Lib.hid (HM3.out.later hb4)
  have HV4 := Lib.hid (HV3.out.later hb4)
  have HE4 := Lib.hid (base_any w4 _ ak8 2 1 HM4.out ak8_ok (by decide) (by unfold I64'; omega))
  clear hb4 HE3 HM3 HB3 HV3
  have e3 : tE ak8 = 4 := rfl
  rw [e3]
  go_wp2_with fail
  refine HE4.out.mono ?_
  rintro e w5 ⟨rfl, hb5⟩
  have HB5 := Lib.hid (below_two HB4.out hb5)
  have HM5 := Lib.hid (HM4.out.later hb5)
  have HV5 := Lib.hid (HV4.out.later hb5)
  have HE5 := Lib.hid (mutexOf_any w5 _ ak8 2 3 HM5.out ak8_ok (by unfold I64'; omega))
  clear hb5 HE4 HM4 HB4 HV4
  have e4 : bOf ak8 1 = 1 := rfl
  rw [e4]
  go_wp2_with fail
  refine HE5.out.mono ?_
  rintro e w6 ⟨rfl, hb6⟩
  have HB6 := Lib.hid (below_two HB5.out hb6)
  have HM6 := Lib.hid (HM5.out.later hb6)
  have HV6 := Lib.hid (HV5.out.later hb6)
  have HE6 := Lib.hid (depth_any w6 _ D2 ak8 ak8t 2 c2 4 1 0 HM6.out ak8_ok (by decide) HV6.out rfl rfl (by unfold I64'; omega) (by omega) (by omega) (thOk_of rfl (by omega)))
  clear hb6 HE5 HM5 HB5 HV5
  have e5 : mOf ak8 3 = 1 := rfl
  rw [e5]
  go_wp2_with fail
  refine HE6.out.mono ?_
  rintro e w7 ⟨rfl, hb7⟩
  have HB7 := Lib.hid (below_two HB6.out hb7)
  clear hb7 HE6 HM6 HB6 HV6
  have e6 : dpV ak8 ak8t 1 0 = 1 := rfl
  rw [e6]
  go_wp2_with fail
  go_ret
  exact ⟨rfl, HB7.out⟩
end Go.Proofs.Ytobpnpkcafacjaa
