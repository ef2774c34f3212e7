/- The walk of ExprFormat: true for all arguments that are not too great. -/
import Derived.Test.YtbaenhcmkigfcaaDoorLw2PaG
import Derived.Test.YtbaenhcmkigfcaaDoorLw2Fm0G
import Derived.Test.YtbaenhcmkigfcaaDoorFmAllG
namespace Go.Proofs.YtbaenhcmkigfcaaDoor
open Go.RowKit

theorem ok_exI {E : Ex} (h : ExOk E) : ExI E := by
  induction h with
  | mk op num name args hn ha _ ih => exact .mk op num name args hn ih

set_option maxRecDepth 100000 in
set_option maxHeartbeats 4000000 in
theorem exprFormat_any (xs : List Int) (A : Option Addr) (cap : Nat) (w : World) (hR : IntR w A xs) (hc : xs.length ≤ cap) (hm : xs.length ≤ 9223372036854775807) (Y : Ex) (ro rn : Int) (rname : List UInt8) (RA : Option Addr) (rl rc : Nat) (hY : VdOk w 1048576 Y ⟨ro, rn, rname, RA, rl, rc⟩) (hS : SgT w) (hP : PwT w) :
    Calls Tryd.prog 5 #[.slice A xs.length cap, .agg #[.int .i64 ro, .int .i64 rn, .string ⟨rname.toArray⟩, .slice RA rl rc]] w fun e w' => e = .returned (.bool true) ∧ Below w.heap.size w w' := by
  have HS := Lib.hid hS
  have HP := Lib.hid hP
  have HY := Lib.hid hY
  have HMK := Lib.hid (fun W (hb : Below w.heap.size w W) => madeExpr_any xs A cap W (hR.later hb) hc hm)
  obtain ⟨hOk, hB, hCn⟩ := madeG_ok xs
  obtain ⟨hTl, hHt⟩ := madeG_len xs
  obtain ⟨⟨l, hTk⟩, hH10⟩ := madeG_tk xs
  obtain ⟨m, hPV, hLn⟩ := text_parse hTk (by omega) (by omega)
  have HFT := Lib.hid (madeG_text xs)
  have HOk := Lib.hid hOk
  have HBB := Lib.hid hB
  have HPV := Lib.hid hPV
  have HLN := Lib.hid hLn
  generalize madeG xs = E at *
  have HCN : Hid (exCnt E ≤ 1048576) := by show _ ≤ _; omega
  clear hR hc hm hS hOk hB hTk hPV hCn hY hP hLn
  go_enter Tryd.func5, Tryd.ntmps5
  go_wp2_with fail
  refine (HMK.out _ (by first | exact Below.refl _ _ | exact (Below.refl _ _).alloc (Nat.le_refl _) _)).mono ?_
  rintro e w1 ⟨num, name, A1, n1, c1, rfl, hM, hb1⟩
  have HM : Hid (VdOk w1 1048576 E ⟨E.op, num, name, A1, n1, c1⟩) := ⟨hM.more (fun _ _ => trivial), ok_exI HOk.out, HBB.out, HCN.out⟩
  have hz1 := (hb1.block w.heap.size (by simp)).trans (heap_alloc_new w _)
  have HZ1 := Lib.hid hz1
  have HB1 : Hid (Below w.heap.size w w1) := below_rev' hb1 ((Below.refl _ _).alloc (Nat.le_refl _) _)
  clear hM hb1 HMK hz1
  generalize E.op = op at *
  have hA1 : Below w1.heap.size w1 (w1.alloc (.cells #[.int .i64 op, .int .i64 num, .string ⟨name.toArray⟩, .slice A1 n1 c1] 38)) := (Below.refl _ _).alloc (Nat.le_refl _) _
  have HA1 := Lib.hid hA1
  clear hA1
  go_wp2_with fail
  refine (format_l _ 1048576 (by omega) E op num name A1 n1 c1 (HM.out.later HA1.out) (HS.out.later (below_two HB1.out HA1.out)) (HP.out.later (below_two HB1.out HA1.out))).mono ?_
  rintro e w2 ⟨rfl, hb2⟩
  have HX2 := Lib.hid ((hb2.block w1.heap.size (by simp)).trans (heap_alloc_new w1 _))
  have HZ2 := Lib.hid ((hb2.block w.heap.size (by have := lt_of_block HZ1.out; simp; omega)).trans ((HA1.out.block _ (lt_of_block HZ1.out)).trans HZ1.out))
  have HM2 := Lib.hid ((HM.out.later HA1.out).later hb2)
  have HB2 := Lib.hid (below_rev' hb2 (below_two HB1.out HA1.out))
  clear hb2 HZ1 HM
  obtain ⟨x0, x1, x2, x3, -, -, -, -, -⟩ := blk4 HX2.out
  obtain ⟨z0, z1, z2, z3, -, -, -, -, -⟩ := blk4 HZ2.out
  have HRX : Hid (∀ W, Below w2.heap.size w2 W → Calls Tryd.prog 19 #[.agg #[.int .i64 op, .int .i64 num, .string ⟨name.toArray⟩, .slice A1 n1 c1]] W fun e w' => e = .returned (.string ⟨(refFT E).toArray⟩) ∧ Below W.heap.size W w') := fun W hb => format_r _ 1048576 (by omega) E op num name A1 n1 c1 (HM2.out.later hb)
  have HRY : Hid (∀ W, Below w2.heap.size w2 W → Calls Tryd.prog 19 #[.agg #[.int .i64 ro, .int .i64 rn, .string ⟨rname.toArray⟩, .slice RA rl rc]] W fun e w' => e = .returned (.string ⟨(refFT Y).toArray⟩) ∧ Below W.heap.size W w') := fun W hb => format_r _ 1048576 (by omega) Y ro rn rname RA rl rc (HY.out.later (below_two HB2.out hb))
  have HDY : Hid (∀ W, Below w2.heap.size w2 W → Calls Tryd.prog 18 #[.agg #[.int .i64 ro, .int .i64 rn, .string ⟨rname.toArray⟩, .slice RA rl rc]] W fun e w' => e = .returned (.string ⟨(refFT Y).toArray⟩) ∧ Below W.heap.size W w') := fun W hb => format_l _ 1048576 (by omega) Y ro rn rname RA rl rc (HY.out.later (below_two HB2.out hb)) (HS.out.later (below_two HB2.out hb)) (HP.out.later (below_two HB2.out hb))
  have hbb : Below w2.heap.size w2 w2 := Below.refl _ _
  rw [HFT.out] at HRX ⊢
  generalize refFT Y = TY at *
  generalize exText E = TX at *
  have tX := str_eq_T (show TX = TX from rfl)
  have tY := str_eq_T (show TY = TY from rfl)
  go_wp2_with fail
  go_region_held3 (fun w' => w'.cell? ⟨w1.heap.size, 0, none⟩ = some (.int .i64 op) ∧ w'.cell? ⟨w1.heap.size, 1, none⟩ = some (.int .i64 num) ∧ w'.cell? ⟨w1.heap.size, 2, none⟩ = some (.string ⟨name.toArray⟩) ∧ w'.cell? ⟨w1.heap.size, 3, none⟩ = some (.slice A1 n1 c1) ∧ w'.cell? ⟨w.heap.size, 0, none⟩ = some (.int .i64 ro) ∧ w'.cell? ⟨w.heap.size, 1, none⟩ = some (.int .i64 rn) ∧ w'.cell? ⟨w.heap.size, 2, none⟩ = some (.string ⟨rname.toArray⟩) ∧ w'.cell? ⟨w.heap.size, 3, none⟩ = some (.slice RA rl rc) ∧ Below w2.heap.size w2 w')
    (refine ⟨?_, ?_, ?_, ?_, ?_, ?_, ?_, ?_, ?_⟩ <;> first | assumption | (refine Below.drew ?_; assumption))
    (first
      | (go_at_call 18; obtain ⟨r0, r1, r2, r3, r4, r5, r6, r7, rb⟩ := ‹_ ∧ _ ∧ _ ∧ _ ∧ _ ∧ _ ∧ _ ∧ _ ∧ Below w2.heap.size w2 _›; refine (HDY.out _ rb).mono ?_; rintro e w' ⟨rfl, hb⟩; have u0 := cell_later hb r0; have u1 := cell_later hb r1; have u2 := cell_later hb r2; have u3 := cell_later hb r3; have u4 := cell_later hb r4; have u5 := cell_later hb r5; have u6 := cell_later hb r6; have u7 := cell_later hb r7; have ub := below_rev' hb rb; clear r0 r1 r2 r3 r4 r5 r6 r7 rb hb)
      | (go_at_call 19; obtain ⟨r0, r1, r2, r3, r4, r5, r6, r7, rb⟩ := ‹_ ∧ _ ∧ _ ∧ _ ∧ _ ∧ _ ∧ _ ∧ _ ∧ Below w2.heap.size w2 _›; (first | (with_reducible refine (HRX.out _ rb).mono ?_) | (with_reducible refine (HRY.out _ rb).mono ?_)); rintro e w' ⟨rfl, hb⟩; have u0 := cell_later hb r0; have u1 := cell_later hb r1; have u2 := cell_later hb r2; have u3 := cell_later hb r3; have u4 := cell_later hb r4; have u5 := cell_later hb r5; have u6 := cell_later hb r6; have u7 := cell_later hb r7; have ub := below_rev' hb rb; clear r0 r1 r2 r3 r4 r5 r6 r7 rb hb))
  have HB3 := Lib.hid (below_rev' ub HB2.out)
  have HM3 := Lib.hid (HM2.out.later ub)
  have HX3 := Lib.hid ((ub.block _ (lt_of_block HX2.out)).trans HX2.out)
  clear u0 u1 u2 u3 u4 u5 u6 u7 ub tX tY HRX HRY HDY HY HX2 HZ2 HM2
  go_wp2_with fail
  refine (tokens_any TX w' (by omega)).mono ?_
  rintro e w4 ⟨TA, tc, rfl, hT, hb4⟩
  have HT := Lib.hid hT
  have HX4 := Lib.hid ((hb4.block _ (lt_of_block HX3.out)).trans HX3.out)
  have HM4 := Lib.hid (HM3.out.later hb4)
  have HB4 := Lib.hid (below_rev' hb4 HB3.out)
  clear hT hb4 HX3 HM3
  have hlx := lex_len TX
  generalize (Tk.lex TX).1 = ts at *
  have hln := HLN.out
  go_wp2_with fail
  have hpa := parse_any ts TA tc 0 w4 HT.out (HS.out.later HB4.out) (by omega) (by omega)
  rw [HPV.out, hln] at hpa
  refine hpa.mono ?_
  clear hpa
  rintro e w5 ⟨f, rfl, hM5, hb5⟩
  unfold EF.val
  dsimp only
  have HMY : Hid (ExM w5 (fun _ => True) E f) := hM5.more (fun _ _ => trivial)
  have HX5 := Lib.hid ((hb5.block _ (lt_of_block HX4.out)).trans HX4.out)
  have HM5 := Lib.hid (HM4.out.m.later hb5)
  have HB5 := Lib.hid (below_rev' hb5 HB4.out)
  clear hM5 hb5 HX4 HM4
  obtain ⟨x0, x1, x2, x3, -, -, -, -, xl⟩ := blk4 HX5.out
  have hmm := bT (show (m : Int) = m from rfl)
  go_wp2_with fail
  refine (sameE_any E ⟨op, num, name, A1, n1, c1⟩ f _ HBB.out (HM5.out.later ((Below.refl _ _).alloc (Nat.le_refl _) _)) (HMY.out.later ((Below.refl _ _).alloc (Nat.le_refl _) _))).mono ?_
  rintro e w6 ⟨rfl, hb6⟩
  have HB6 := Lib.hid (below_rev' hb6 (HB5.out.alloc HB5.out.size _))
  clear hb6
  go_wp2_with fail
  refine (awake_any _ (HS.out.later HB6.out)).mono ?_
  rintro e w7 ⟨rfl, hb7⟩
  have HB7 := Lib.hid (below_rev' hb7 HB6.out)
  clear hb7
  go_wp2_with fail
  go_ret
  exact ⟨rfl, HB7.out⟩
end Go.Proofs.YtbaenhcmkigfcaaDoor
