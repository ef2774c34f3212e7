/- The reference's operand at a minus that is one too many. The reference's operand at a ! that is one too many. The reference's operand at a minus. The reference's operand at a !. The reference's operand, every case: what the plain parser says, if binary and operand do what they should behind this token. Plain facts about the strengths of the operators, level by level. No statement of the program is proved in this file. What a round of the loop of the reference's binary leaves, over any worlds. No statement of the program is proved in this file. The reference's binary: what the plain parser says, if it does what it should one level up, here and behind this token. What Expr of the reference returns: the plain function parseV, as Parse of the project does. SameExpr of the reference returns true for one expression that lies in memory twice. -/
import Derived.Test.YtjjooekkieddbaaDoorGRfA
import Derived.Test.YtjjooekkieddbaaDoorGPar
import Derived.Deep.RegionLaw
import Derived.Deep.DeepCutAuto
import Derived.IntWalk
import Derived.Test.YtjjooekkieddbaaDoorGTxt
import Derived.Deep.RegionHeld3
namespace Go.Proofs.YtjjooekkieddbaaDoor
open Go.RowKit

/-- the operator is written to the second new block -/
theorem op_set {w w3 : World} {g : Nat} {ts : List Tk.Tok} {k bad e o d : Nat} {o1 : Obj} {c0 c1 c2 c3 : Value} {t : TypeId} (hgw : g < w.heap.size)
    (hN : w3.heap[w.heap.size]? = some o1 ∧ w3.heap[w.heap.size + 1]? = some (.cells #[c0, c1, c2, c3] t (0, 0)) ∧ w.heap.size + 1 < w3.heap.size) (hP : Rsr w3 g ts k bad e o d) (hG : w.grownBy w3 (some g)) (u : Value) :
    ((w3.setCell ⟨w.heap.size + 1, 0, none⟩ u).heap[w.heap.size]? = some o1 ∧ (w3.setCell ⟨w.heap.size + 1, 0, none⟩ u).heap[w.heap.size + 1]? = some (.cells #[u, c1, c2, c3] t (0, 0)) ∧ w.heap.size + 1 < (w3.setCell ⟨w.heap.size + 1, 0, none⟩ u).heap.size) ∧
      Rsr (w3.setCell ⟨w.heap.size + 1, 0, none⟩ u) g ts k bad e o d ∧ w.grownBy (w3.setCell ⟨w.heap.size + 1, 0, none⟩ u) (some g) := by
  obtain ⟨h0, h1, h2⟩ := hN
  have hk : ∀ b, b ≠ w.heap.size + 1 → (w3.setCell ⟨w.heap.size + 1, 0, none⟩ u).heap[b]? = w3.heap[b]? := fun b hne => Below.heap_setCell w3 _ _ b hne
  have hs := put_size w3 ⟨w.heap.size + 1, 0, none⟩ u
  have hm := put_same w3 ⟨w.heap.size + 1, 0, none⟩ u
  refine ⟨⟨(hk _ (Nat.ne_of_lt (Nat.lt_succ_self _))).trans h0, ?_, by rw [hs]; exact h2⟩, hP.keep fun b hle => hk b (Nat.ne_of_lt (Nat.lt_succ_of_lt (Nat.lt_of_le_of_lt hle hgw))), ⟨hm.1.trans hG.os, hm.2.1.trans hG.tape, hm.2.2.trans hG.output, by rw [hs]; exact hG.size, fun b hlt hne => (hk b (Nat.ne_of_lt (Nat.lt_succ_of_lt hlt))).trans (hG.block b hlt hne)⟩⟩
  simp [World.setCell, Array.getElem?_modify, h1]

set_option maxRecDepth 100000 in
set_option maxHeartbeats 4000000 in
theorem roperand_negL (w : World) (g : Nat) (ts : List Tk.Tok) (k bad o d : Nat) (hP : Rsr w g ts k bad 0 o d) (hK2 : kindB ts k 0 2 = false) (hK1 : kindB ts k 0 1 = false)
    (hm : isB ts k 0 [45] = true) (ho24 : o = 24) :
    Calls Tryd.prog 118 #[.pointer (some ⟨g, 0, none⟩)] w (RfPost w g ts bad o d (.bad k 3)) := by
  have HP := Lib.hid hP
  have HK2 := Lib.hid hK2
  have HK1 := Lib.hid hK1
  have Hm := Lib.hid hm
  have hgw := hP.lt
  have Ho := Lib.hid ho24
  clear hP hK2 hK1 hm ho24
  go_enter Tryd.func118, Tryd.ntmps118
  go_wp2_with fail
  refine (rkind_at _ g ts k bad 0 o d 2 2 rfl ((HP.out.alloc _).alloc _)).mono ?_
  rw [HK2.out]
  rintro x w1 ⟨rfl, hb⟩
  have hP1 := Lib.hid (((HP.out.alloc _).alloc _).later hb)
  obtain ⟨hr0, hr1, -, hsz⟩ := two_new hb
  have hN1 := Lib.hid (And.intro hr0 (And.intro hr1 hsz))
  have hG1 := Lib.hid (grown_new2 (g := g) hb)
  clear hr0 hr1 hsz hb
  go_wp2_with fail
  refine (rkind_at _ g ts k bad 0 o d 1 1 rfl hP1.out).mono ?_
  rw [HK1.out]
  rintro x w2 ⟨rfl, hb2⟩
  have hP2 := Lib.hid (hP1.out.later hb2)
  have hN2 := Lib.hid (rf_two_later hgw hN1.out (grown_below (g := g) hb2))
  have hG2 := Lib.hid (grown_trans hG1.out (grown_below (g := g) hb2))
  clear hb2 hP1 hN1 hG1
  go_wp2_with fail
  refine (ris_any _ g ts k bad 0 o d [45] hP2.out).mono ?_
  rw [Hm.out]
  rintro x w3 ⟨rfl, hb3⟩
  have hP3 := Lib.hid (hP2.out.later hb3)
  have hN3 := Lib.hid (rf_two_later hgw hN2.out (grown_below (g := g) hb3))
  have hG3 := Lib.hid (grown_trans hG2.out (grown_below (g := g) hb3))
  clear hb3 hP2 hN2 hG2
  obtain ⟨hr0, hr1, hsz⟩ := hN3.out
  obtain ⟨p0, p1, p2, p3, g0, g1, g2, g3, hz1⟩ := blk4 hr1
  have hn2 : g ≠ w.heap.size + 1 := Nat.ne_of_lt (Nat.lt_succ_of_lt hgw)
  have hX := op_set hgw hN3.out hP3.out hG3.out (.int .i64 4)
  have hNX := Lib.hid hX.1
  have hPX := Lib.hid hX.2.1
  have hGX := Lib.hid hX.2.2
  clear hr0 hr1 hX hN3 hP3 hG3
  go_wp2_with fail
  refine (ris_any _ g ts k bad 0 o d [45] hPX.out).mono ?_
  rw [Hm.out]
  rintro x w4 ⟨rfl, hb4⟩
  have hP4 := hPX.out.later hb4
  have hN4 := rf_two_later hgw hNX.out (grown_below (g := g) hb4)
  have hG4 := grown_trans hGX.out (grown_below (g := g) hb4)
  have hY := op_set hgw hN4 hP4 hG4 (.int .i64 3)
  clear hb4 hNX hPX hGX p0 p1 p2 p3 g0 g1 g2 g3 hz1 hsz
  obtain ⟨p0, p1, p2, p3, g0, g1, g2, g3, hz1⟩ := blk4 hN4.2.1
  have hNY := Lib.hid hY.1
  have hPY := Lib.hid hY.2.1
  have hGY := Lib.hid hY.2.2
  clear hY hN4 hP4 hG4
  go_wp2_with fail
  refine (renter_any _ g ts k bad 0 o d (by have := Ho.out; omega) hPY.out).mono ?_
  rintro x w6 ⟨rfl, hP6, hG6⟩
  clear p0 p1 p2 p3 g0 g1 g2 g3 hz1
  obtain ⟨hr0, hr1, hsz⟩ := rf_two_later hgw hNY.out hG6
  have HG := Lib.hid (grown_trans hGY.out hG6)
  have hP7 : Rsr w6 g ts k k 3 25 d := by
    have := Ho.out
    subst this
    simpa using hP6
  clear hP6 hG6 hGY hPY hNY
  obtain ⟨b, c, hne, hbl, c0, c1, c2, c3, c4, fr, hkm, ho, a0, a1, a2, v, a3⟩ := hP7.cells
  have fr4 := fr 4
  have hn1 : g ≠ w.heap.size := Nat.ne_of_lt hgw
  have HP7 := Lib.hid hP7
  clear hP7 fr a0 a1 a2 a3
  obtain ⟨q0, q1, q2, q3, f0, f1, f2, f3, hz0⟩ := blk4 hr0
  obtain ⟨p0, p1, p2, p3, g0, g1, g2, g3, hz1⟩ := blk4 hr1
  clear hr0 hr1
  go_wp2_with fail
  refine bodyPost_ret (v := .agg #[.int .i64 3, .int .i64 0, .string ⟨#[]⟩, .slice none 0 0]) (by simp [results, Tryd.results118, go_sem, q0, q1, q2, q3]) rfl ?_
  rw [Ho.out]
  exact rf_bad hgw (grown_trans HG.out (grown_put _ _ _ _)) (m := k) (a := k) (e0 := 3) (HP7.out.nest 24 (by decide)) (by decide) _ _ _ _ ⟨3, 0, [], none, 0, 0⟩ _ rfl
end Go.Proofs.YtjjooekkieddbaaDoor

namespace Go.Proofs.YtjjooekkieddbaaDoor
open Go.RowKit

set_option maxRecDepth 100000 in
set_option maxHeartbeats 4000000 in
theorem roperand_notL (w : World) (g : Nat) (ts : List Tk.Tok) (k bad o d : Nat) (hP : Rsr w g ts k bad 0 o d) (hK2 : kindB ts k 0 2 = false) (hK1 : kindB ts k 0 1 = false)
    (hm : isB ts k 0 [45] = false) (hn : isB ts k 0 [33] = true) (ho24 : o = 24) :
    Calls Tryd.prog 118 #[.pointer (some ⟨g, 0, none⟩)] w (RfPost w g ts bad o d (.bad k 3)) := by
  have HP := Lib.hid hP
  have HK2 := Lib.hid hK2
  have HK1 := Lib.hid hK1
  have Hm := Lib.hid hm
  have Hn := Lib.hid hn
  have hgw := hP.lt
  have Ho := Lib.hid ho24
  clear hP hK2 hK1 hm hn ho24
  go_enter Tryd.func118, Tryd.ntmps118
  go_wp2_with fail
  refine (rkind_at _ g ts k bad 0 o d 2 2 rfl ((HP.out.alloc _).alloc _)).mono ?_
  rw [HK2.out]
  rintro x w1 ⟨rfl, hb⟩
  have hP1 := Lib.hid (((HP.out.alloc _).alloc _).later hb)
  obtain ⟨hr0, hr1, -, hsz⟩ := two_new hb
  have hN1 := Lib.hid (And.intro hr0 (And.intro hr1 hsz))
  have hG1 := Lib.hid (grown_new2 (g := g) hb)
  clear hr0 hr1 hsz hb
  go_wp2_with fail
  refine (rkind_at _ g ts k bad 0 o d 1 1 rfl hP1.out).mono ?_
  rw [HK1.out]
  rintro x w2 ⟨rfl, hb2⟩
  have hP2 := Lib.hid (hP1.out.later hb2)
  have hN2 := Lib.hid (rf_two_later hgw hN1.out (grown_below (g := g) hb2))
  have hG2 := Lib.hid (grown_trans hG1.out (grown_below (g := g) hb2))
  clear hb2 hP1 hN1 hG1
  go_wp2_with fail
  refine (ris_any _ g ts k bad 0 o d [45] hP2.out).mono ?_
  rw [Hm.out]
  rintro x w3 ⟨rfl, hb3⟩
  have hP3 := Lib.hid (hP2.out.later hb3)
  have hN3 := Lib.hid (rf_two_later hgw hN2.out (grown_below (g := g) hb3))
  have hG3 := Lib.hid (grown_trans hG2.out (grown_below (g := g) hb3))
  clear hb3 hP2 hN2 hG2
  go_wp2_with fail
  refine (ris_any _ g ts k bad 0 o d [33] hP3.out).mono ?_
  rw [Hn.out]
  rintro x w4 ⟨rfl, hb4⟩
  have hP4 := Lib.hid (hP3.out.later hb4)
  have hN4 := Lib.hid (rf_two_later hgw hN3.out (grown_below (g := g) hb4))
  have hG4 := Lib.hid (grown_trans hG3.out (grown_below (g := g) hb4))
  clear hb4 hP3 hN3 hG3
  obtain ⟨hr0, hr1, hsz⟩ := hN4.out
  obtain ⟨p0, p1, p2, p3, g0, g1, g2, g3, hz1⟩ := blk4 hr1
  have hn2 : g ≠ w.heap.size + 1 := Nat.ne_of_lt (Nat.lt_succ_of_lt hgw)
  have hX := op_set hgw hN4.out hP4.out hG4.out (.int .i64 4)
  have hNX := Lib.hid hX.1
  have hPX := Lib.hid hX.2.1
  have hGX := Lib.hid hX.2.2
  clear hr0 hr1 hX hN4 hP4 hG4
  go_wp2_with fail
  refine (ris_any _ g ts k bad 0 o d [45] hPX.out).mono ?_
  rw [Hm.out]
  rintro x w5 ⟨rfl, hb5⟩
  have hPY := Lib.hid (hPX.out.later hb5)
  have hNY := Lib.hid (rf_two_later hgw hNX.out (grown_below (g := g) hb5))
  have hGY := Lib.hid (grown_trans hGX.out (grown_below (g := g) hb5))
  clear hb5 hNX hPX hGX hsz
  go_wp2_with fail
  refine (renter_any _ g ts k bad 0 o d (by have := Ho.out; omega) hPY.out).mono ?_
  rintro x w6 ⟨rfl, hP6, hG6⟩
  clear p0 p1 p2 p3 g0 g1 g2 g3 hz1
  obtain ⟨hr0, hr1, hsz⟩ := rf_two_later hgw hNY.out hG6
  have HG := Lib.hid (grown_trans hGY.out hG6)
  have hP7 : Rsr w6 g ts k k 3 25 d := by
    have := Ho.out
    subst this
    simpa using hP6
  clear hP6 hG6 hGY hPY hNY
  obtain ⟨b, c, hne, hbl, c0, c1, c2, c3, c4, fr, hkm, ho, a0, a1, a2, v, a3⟩ := hP7.cells
  have fr4 := fr 4
  have hn1 : g ≠ w.heap.size := Nat.ne_of_lt hgw
  have HP7 := Lib.hid hP7
  clear hP7 fr a0 a1 a2 a3
  obtain ⟨q0, q1, q2, q3, f0, f1, f2, f3, hz0⟩ := blk4 hr0
  obtain ⟨p0, p1, p2, p3, g0, g1, g2, g3, hz1⟩ := blk4 hr1
  clear hr0 hr1
  go_wp2_with fail
  refine bodyPost_ret (v := .agg #[.int .i64 4, .int .i64 0, .string ⟨#[]⟩, .slice none 0 0]) (by simp [results, Tryd.results118, go_sem, q0, q1, q2, q3]) rfl ?_
  rw [Ho.out]
  exact rf_bad hgw (grown_trans HG.out (grown_put _ _ _ _)) (m := k) (a := k) (e0 := 3) (HP7.out.nest 24 (by decide)) (by decide) _ _ _ _ ⟨4, 0, [], none, 0, 0⟩ _ rfl
end Go.Proofs.YtjjooekkieddbaaDoor

namespace Go.Proofs.YtjjooekkieddbaaDoor
open Go.RowKit

/-- the end of a unary operator -/
theorem rf_unend {w w8 W : World} {g : Nat} {ts : List Tk.Tok} {bad o d m a e : Nat} {R : Ps.R} {f : EF} (op : Nat) (hgw : g < w.heap.size) (hGa : w.grownBy w8 (some g)) (hS : w.heap.size + 1 < W.heap.size) (hsz : w.heap.size + 1 < w8.heap.size)
    (hC : (∃ x, R = .ok x m ∧ a = bad ∧ e = 0 ∧ ExM w8 (W.heap.size ≤ ·) x f) ∨ (R = .bad a e ∧ e ≠ 0)) (hP : Rsr w8 g ts m a e (o + 1) d) (ho : o ≤ 1000) (s v0 v1 v2 : Value) (A B D C : World) (t : TypeId)
    (hA : A = w8.setCell ⟨w.heap.size + 1, 3, none⟩ s) (hB : B = A.setCell ⟨g, 4, none⟩ (.int .i64 (o : Int))) (hD : D = set4 B w.heap.size v0 v1 v2 s)
    (hCC : C = D.alloc (.cells #[.int .i64 f.op, .int .i64 f.num, .string ⟨f.name.toArray⟩, .slice f.A f.n f.c] t)) :
    RfPost w g ts bad o d (R.bind fun x k' => .ok (.mk op 0 [] [x]) k') (.returned (.agg #[.int .i64 (op : Int), .int .i64 0, .string ⟨#[]⟩, .slice (some ⟨w8.heap.size, 0, none⟩) 1 1])) C := by
  have sA : A.heap.size = w8.heap.size := by rw [hA]; exact put_size _ _ _
  have sB : B.heap.size = A.heap.size := by rw [hB]; exact put_size _ _ _
  have sD : D.heap.size = w8.heap.size := by rw [hD, set4_size, sB, sA]
  have mA : A.os = w8.os ∧ A.tape = w8.tape ∧ A.output = w8.output := by rw [hA]; exact put_same _ _ _
  have mB : B.os = A.os ∧ B.tape = A.tape ∧ B.output = A.output := by rw [hB]; exact put_same _ _ _
  have mD : D.os = B.os ∧ D.tape = B.tape ∧ D.output = B.output := by rw [hD]; exact set4_same _ _ _ _ _ _
  have mC : C.os = D.os ∧ C.tape = D.tape ∧ C.output = D.output := by rw [hCC]; exact ⟨rfl, rfl, rfl⟩
  have kA : ∀ b, b ≠ w.heap.size + 1 → A.heap[b]? = w8.heap[b]? := fun b hne => by rw [hA]; exact Below.heap_setCell w8 _ _ b hne
  have kB : ∀ b, b ≠ g → B.heap[b]? = A.heap[b]? := fun b hne => by rw [hB]; exact Below.heap_setCell A _ _ b hne
  have kD : ∀ b, b ≠ w.heap.size → D.heap[b]? = B.heap[b]? := fun b hne => by rw [hD]; exact set4_keep B _ _ _ _ _ b hne
  have kC : ∀ b, b < w8.heap.size → C.heap[b]? = D.heap[b]? := fun b hlt => by rw [hCC]; exact Below.heap_alloc D _ b (by rw [sD]; exact hlt)
  have hsC : w8.heap.size ≤ C.heap.size := by rw [hCC, ← sD]; simp
  have hcell : ∀ o', C.cell? ⟨w8.heap.size, o', none⟩ = [Value.int .i64 f.op, .int .i64 f.num, .string ⟨f.name.toArray⟩, .slice f.A f.n f.c][o']? := by
    intro o'
    rw [hCC, ← sD, World.cell?_alloc_mark]
    simp
  have hgr : ∀ b, b ≤ g → b < w.heap.size := fun b hle => Nat.lt_of_le_of_lt hle hgw
  have h8 : w.heap.size < w8.heap.size := Nat.lt_of_succ_lt hsz
  have hPA : Rsr A g ts m a e (o + 1) d := hP.keep fun b hle => kA b (Nat.ne_of_lt (Nat.lt_succ_of_lt (hgr b hle)))
  have hPB : Rsr B g ts m a e o d := by rw [hB]; exact hPA.nest o ho
  have hPC : Rsr C g ts m a e o d := hPB.keep fun b hle => (kC b (Nat.lt_trans (hgr b hle) h8)).trans (kD b (Nat.ne_of_lt (hgr b hle)))
  clear hA hB hD hCC
  refine ⟨⟨(op : Int), 0, [], some ⟨w8.heap.size, 0, none⟩, 1, 1⟩, rfl, ⟨mC.1.trans (mD.1.trans (mB.1.trans (mA.1.trans hGa.os))), mC.2.1.trans (mD.2.1.trans (mB.2.1.trans (mA.2.1.trans hGa.tape))), mC.2.2.trans (mD.2.2.trans (mB.2.2.trans (mA.2.2.trans hGa.output))), Nat.le_trans hGa.size hsC, ?_⟩, ?_, ?_⟩
  · intro b hlt hne
    rw [kC b (Nat.lt_trans hlt h8), kD b (Nat.ne_of_lt hlt), kB b (fun h => hne (by rw [h])), kA b (Nat.ne_of_lt (Nat.lt_succ_of_lt hlt))]
    exact hGa.block b hlt hne
  · intro y m' h
    rcases hC with ⟨x, hR, ha, he, hE⟩ | ⟨hR, he⟩
    · rw [hR] at h
      injection h with e1 e2
      subst e1
      subst e2
      subst ha
      subst he
      refine ⟨ExM.one _ _ _ w8.heap.size 0 1 (Nat.le_of_lt h8) ⟨hcell 0, hcell 1, hcell 2, hcell 3⟩ ((hE.keep fun b hb hlt => ?_).more fun b hb => Nat.le_trans (Nat.le_of_lt (Nat.lt_of_succ_lt hS)) hb), hPC⟩
      have hb1 : w.heap.size + 1 < b := Nat.lt_of_lt_of_le hS hb
      have hb2 : g < b := Nat.lt_trans hgw (Nat.lt_of_succ_lt hb1)
      rw [kC b hlt, kD b (Nat.ne_of_gt (Nat.lt_of_succ_lt hb1)), kB b (Nat.ne_of_gt hb2), kA b (Nat.ne_of_gt hb1)]
    · rw [hR] at h
      cases h
  · intro a' e' h
    rcases hC with ⟨x, hR, ha, he, hE⟩ | ⟨hR, he⟩
    · rw [hR] at h
      cases h
    · rw [hR] at h
      injection h with e1 e2
      subst e1
      subst e2
      exact ⟨he, m, hPC⟩

set_option maxRecDepth 100000 in
set_option maxHeartbeats 4000000 in
theorem roperand_neg (w : World) (g : Nat) (ts : List Tk.Tok) (k bad o d : Nat) (hP : Rsr w g ts k bad 0 o d) (hK2 : kindB ts k 0 2 = false) (hK1 : kindB ts k 0 1 = false)
    (hm : isB ts k 0 [45] = true) (ho24 : o < 24) (hlast : Ps.kindAt ts (ts.length - 1) = 5)
    (hB : ∀ w', Rsr w' g ts (k + 1) bad 0 (o + 1) d → Calls Tryd.prog 118 #[.pointer (some ⟨g, 0, none⟩)] w' (RfPost w' g ts bad (o + 1) d (Ps.PO ts (o + 1) (k + 1)))) :
    Calls Tryd.prog 118 #[.pointer (some ⟨g, 0, none⟩)] w (RfPost w g ts bad o d ((Ps.PO ts (o + 1) (k + 1)).bind fun x k' => .ok (.mk 3 0 [] [x]) k')) := by
  have HP := Lib.hid hP
  have HK2 := Lib.hid hK2
  have HK1 := Lib.hid hK1
  have Hm := Lib.hid hm
  have hgw := hP.lt
  have Ho := Lib.hid ho24
  have HB := Lib.hid hB
  have hk1 : k + 1 < ts.length := Ps.next_in hlast hP.inT (isB_kind hm)
  clear hP hK2 hK1 hm ho24 hlast hB
  go_enter Tryd.func118, Tryd.ntmps118
  go_wp2_with fail
  refine (rkind_at _ g ts k bad 0 o d 2 2 rfl ((HP.out.alloc _).alloc _)).mono ?_
  rw [HK2.out]
  rintro x w1 ⟨rfl, hb⟩
  have hP1 := Lib.hid (((HP.out.alloc _).alloc _).later hb)
  obtain ⟨hr0, hr1, -, hsz⟩ := two_new hb
  have hN1 := Lib.hid (And.intro hr0 (And.intro hr1 hsz))
  have hG1 := Lib.hid (grown_new2 (g := g) hb)
  clear hr0 hr1 hsz hb
  go_wp2_with fail
  refine (rkind_at _ g ts k bad 0 o d 1 1 rfl hP1.out).mono ?_
  rw [HK1.out]
  rintro x w2 ⟨rfl, hb2⟩
  have hP2 := Lib.hid (hP1.out.later hb2)
  have hN2 := Lib.hid (rf_two_later hgw hN1.out (grown_below (g := g) hb2))
  have hG2 := Lib.hid (grown_trans hG1.out (grown_below (g := g) hb2))
  clear hb2 hP1 hN1 hG1
  go_wp2_with fail
  refine (ris_any _ g ts k bad 0 o d [45] hP2.out).mono ?_
  rw [Hm.out]
  rintro x w3 ⟨rfl, hb3⟩
  have hP3 := Lib.hid (hP2.out.later hb3)
  have hN3 := Lib.hid (rf_two_later hgw hN2.out (grown_below (g := g) hb3))
  have hG3 := Lib.hid (grown_trans hG2.out (grown_below (g := g) hb3))
  clear hb3 hP2 hN2 hG2
  obtain ⟨hr0, hr1, hsz⟩ := hN3.out
  obtain ⟨p0, p1, p2, p3, g0, g1, g2, g3, hz1⟩ := blk4 hr1
  have hn2 : g ≠ w.heap.size + 1 := Nat.ne_of_lt (Nat.lt_succ_of_lt hgw)
  have hX := op_set hgw hN3.out hP3.out hG3.out (.int .i64 4)
  have hNX := Lib.hid hX.1
  have hPX := Lib.hid hX.2.1
  have hGX := Lib.hid hX.2.2
  clear hr0 hr1 hX hN3 hP3 hG3
  go_wp2_with fail
  refine (ris_any _ g ts k bad 0 o d [45] hPX.out).mono ?_
  rw [Hm.out]
  rintro x w4 ⟨rfl, hb4⟩
  have hP4 := hPX.out.later hb4
  have hN4 := rf_two_later hgw hNX.out (grown_below (g := g) hb4)
  have hG4 := grown_trans hGX.out (grown_below (g := g) hb4)
  have hY := op_set hgw hN4 hP4 hG4 (.int .i64 3)
  clear hb4 hNX hPX hGX p0 p1 p2 p3 g0 g1 g2 g3 hz1 hsz
  obtain ⟨p0, p1, p2, p3, g0, g1, g2, g3, hz1⟩ := blk4 hN4.2.1
  have hNY := Lib.hid hY.1
  have hPY := Lib.hid hY.2.1
  have hGY := Lib.hid hY.2.2
  clear hY hN4 hP4 hG4
  go_wp2_with fail
  refine (renter_any _ g ts k bad 0 o d (by have := Ho.out; omega) hPY.out).mono ?_
  rintro x w6 ⟨rfl, hP6, hG6⟩
  clear p0 p1 p2 p3 g0 g1 g2 g3 hz1
  have hN6 := Lib.hid (rf_two_later hgw hNY.out hG6)
  have hG6' := Lib.hid (grown_trans hGY.out hG6)
  have hP7 : Rsr w6 g ts k bad 0 (o + 1) d := by
    have h24 : ¬ o = 24 := by have := Ho.out; omega
    simpa [h24] using hP6
  clear hP6 hG6 hGY hPY hNY
  obtain ⟨b, c, hne, hbl, c0, c1, c2, c3, c4, fr, hkm, ho, a0, a1, a2, v, a3⟩ := hP7.cells
  have fr1 := fr 1
  have hP8 := hP7.at (k + 1) hk1
  rw [show (((k + 1 : Nat) : Nat) : Int) = (k : Int) + 1 from rfl] at hP8
  have HP8 := Lib.hid hP8
  have HG8 := Lib.hid (grown_trans hG6'.out (grown_put w6 g 1 (.int .i64 ((k : Int) + 1))))
  have HN8 := Lib.hid (rf_two_later hgw hN6.out (grown_put w6 g 1 (.int .i64 ((k : Int) + 1))))
  clear hP7 hP8 fr a0 a1 a2 a3 hN6 hG6' hbl c0 c2 c4
  go_wp2_with fail
  refine (HB.out _ HP8.out).mono ?_
  rintro x w8 ⟨f, rfl, hG, hok, hbad⟩
  unfold EF.val
  obtain ⟨hr0, hr1, hsz⟩ := rf_two_later hgw HN8.out hG
  have hst := rf_cases hok hbad
  obtain ⟨m, a, e, hP9, hcase⟩ := hst
  have HC := Lib.hid hcase
  have HS7 := Lib.hid HN8.out.2.2
  have HGa := Lib.hid (grown_trans HG8.out hG)
  obtain ⟨b2, c2, hne2, -, -, -, -, -, d4, fr2, -, -, -, -, -, -⟩ := hP9.cells
  have fr4 := fr2 4
  have hn1 : g ≠ w.heap.size := Nat.ne_of_lt hgw
  have hgl8 := hP9.lt
  have hn3 : g ≠ w.heap.size + 1 := Nat.ne_of_lt (Nat.lt_succ_of_lt hgw)
  have HP9 := Lib.hid hP9
  clear hG hok hbad hcase HP8 HN8 HG8 HB c1 c3 fr1 hP9 fr2
  obtain ⟨q0, q1, q2, q3, f0, f1, f2, f3, hz0⟩ := blk4 hr0
  obtain ⟨p0, p1, p2, p3, g0, g1, g2, g3, hz1⟩ := blk4 hr1
  clear hr0 hr1
  rw [show (((o + 1 : Nat) : Nat) : Int) = (o : Int) + 1 from rfl] at d4
  go_wp2_with fail
  refine bodyPost_ret (v := .agg #[.int .i64 3, .int .i64 0, .string ⟨#[]⟩, .slice (some ⟨w8.heap.size, 0, none⟩) 1 1]) (by simp [results, Tryd.results118, go_sem, q0, q1, q2, q3, hz0]) rfl ?_
  exact rf_unend 3 hgw HGa.out HS7.out hsz HC.out HP9.out (by have := Ho.out; omega) _ _ _ _ _ _ _ _ 25 rfl rfl rfl rfl
end Go.Proofs.YtjjooekkieddbaaDoor

namespace Go.Proofs.YtjjooekkieddbaaDoor
open Go.RowKit

set_option maxRecDepth 100000 in
set_option maxHeartbeats 4000000 in
theorem roperand_not (w : World) (g : Nat) (ts : List Tk.Tok) (k bad o d : Nat) (hP : Rsr w g ts k bad 0 o d) (hK2 : kindB ts k 0 2 = false) (hK1 : kindB ts k 0 1 = false)
    (hm : isB ts k 0 [45] = false) (hn : isB ts k 0 [33] = true) (ho24 : o < 24) (hlast : Ps.kindAt ts (ts.length - 1) = 5)
    (hB : ∀ w', Rsr w' g ts (k + 1) bad 0 (o + 1) d → Calls Tryd.prog 118 #[.pointer (some ⟨g, 0, none⟩)] w' (RfPost w' g ts bad (o + 1) d (Ps.PO ts (o + 1) (k + 1)))) :
    Calls Tryd.prog 118 #[.pointer (some ⟨g, 0, none⟩)] w (RfPost w g ts bad o d ((Ps.PO ts (o + 1) (k + 1)).bind fun x k' => .ok (.mk 4 0 [] [x]) k')) := by
  have HP := Lib.hid hP
  have HK2 := Lib.hid hK2
  have HK1 := Lib.hid hK1
  have Hm := Lib.hid hm
  have Hn := Lib.hid hn
  have hgw := hP.lt
  have Ho := Lib.hid ho24
  have HB := Lib.hid hB
  have hk1 : k + 1 < ts.length := Ps.next_in hlast hP.inT (isB_kind hn)
  clear hP hK2 hK1 hm hn ho24 hlast hB
  go_enter Tryd.func118, Tryd.ntmps118
  go_wp2_with fail
  refine (rkind_at _ g ts k bad 0 o d 2 2 rfl ((HP.out.alloc _).alloc _)).mono ?_
  rw [HK2.out]
  rintro x w1 ⟨rfl, hb⟩
  have hP1 := Lib.hid (((HP.out.alloc _).alloc _).later hb)
  obtain ⟨hr0, hr1, -, hsz⟩ := two_new hb
  have hN1 := Lib.hid (And.intro hr0 (And.intro hr1 hsz))
  have hG1 := Lib.hid (grown_new2 (g := g) hb)
  clear hr0 hr1 hsz hb
  go_wp2_with fail
  refine (rkind_at _ g ts k bad 0 o d 1 1 rfl hP1.out).mono ?_
  rw [HK1.out]
  rintro x w2 ⟨rfl, hb2⟩
  have hP2 := Lib.hid (hP1.out.later hb2)
  have hN2 := Lib.hid (rf_two_later hgw hN1.out (grown_below (g := g) hb2))
  have hG2 := Lib.hid (grown_trans hG1.out (grown_below (g := g) hb2))
  clear hb2 hP1 hN1 hG1
  go_wp2_with fail
  refine (ris_any _ g ts k bad 0 o d [45] hP2.out).mono ?_
  rw [Hm.out]
  rintro x w3 ⟨rfl, hb3⟩
  have hP3 := Lib.hid (hP2.out.later hb3)
  have hN3 := Lib.hid (rf_two_later hgw hN2.out (grown_below (g := g) hb3))
  have hG3 := Lib.hid (grown_trans hG2.out (grown_below (g := g) hb3))
  clear hb3 hP2 hN2 hG2
  go_wp2_with fail
  refine (ris_any _ g ts k bad 0 o d [33] hP3.out).mono ?_
  rw [Hn.out]
  rintro x w4 ⟨rfl, hb4⟩
  have hP4 := Lib.hid (hP3.out.later hb4)
  have hN4 := Lib.hid (rf_two_later hgw hN3.out (grown_below (g := g) hb4))
  have hG4 := Lib.hid (grown_trans hG3.out (grown_below (g := g) hb4))
  clear hb4 hP3 hN3 hG3
  obtain ⟨hr0, hr1, hsz⟩ := hN4.out
  obtain ⟨p0, p1, p2, p3, g0, g1, g2, g3, hz1⟩ := blk4 hr1
  have hn2 : g ≠ w.heap.size + 1 := Nat.ne_of_lt (Nat.lt_succ_of_lt hgw)
  have hX := op_set hgw hN4.out hP4.out hG4.out (.int .i64 4)
  have hNX := Lib.hid hX.1
  have hPX := Lib.hid hX.2.1
  have hGX := Lib.hid hX.2.2
  clear hr0 hr1 hX hN4 hP4 hG4
  go_wp2_with fail
  refine (ris_any _ g ts k bad 0 o d [45] hPX.out).mono ?_
  rw [Hm.out]
  rintro x w5 ⟨rfl, hb5⟩
  have hPY := Lib.hid (hPX.out.later hb5)
  have hNY := Lib.hid (rf_two_later hgw hNX.out (grown_below (g := g) hb5))
  have hGY := Lib.hid (grown_trans hGX.out (grown_below (g := g) hb5))
  clear hb5 hNX hPX hGX hsz
  go_wp2_with fail
  refine (renter_any _ g ts k bad 0 o d (by have := Ho.out; omega) hPY.out).mono ?_
  rintro x w6 ⟨rfl, hP6, hG6⟩
  clear p0 p1 p2 p3 g0 g1 g2 g3 hz1
  have hN6 := Lib.hid (rf_two_later hgw hNY.out hG6)
  have hG6' := Lib.hid (grown_trans hGY.out hG6)
  have hP7 : Rsr w6 g ts k bad 0 (o + 1) d := by
    have h24 : ¬ o = 24 := by have := Ho.out; omega
    simpa [h24] using hP6
  clear hP6 hG6 hGY hPY hNY
  obtain ⟨b, c, hne, hbl, c0, c1, c2, c3, c4, fr, hkm, ho, a0, a1, a2, v, a3⟩ := hP7.cells
  have fr1 := fr 1
  have hP8 := hP7.at (k + 1) hk1
  rw [show (((k + 1 : Nat) : Nat) : Int) = (k : Int) + 1 from rfl] at hP8
  have HP8 := Lib.hid hP8
  have HG8 := Lib.hid (grown_trans hG6'.out (grown_put w6 g 1 (.int .i64 ((k : Int) + 1))))
  have HN8 := Lib.hid (rf_two_later hgw hN6.out (grown_put w6 g 1 (.int .i64 ((k : Int) + 1))))
  clear hP7 hP8 fr a0 a1 a2 a3 hN6 hG6' hbl c0 c2 c4
  go_wp2_with fail
  refine (HB.out _ HP8.out).mono ?_
  rintro x w8 ⟨f, rfl, hG, hok, hbad⟩
  unfold EF.val
  obtain ⟨hr0, hr1, hsz⟩ := rf_two_later hgw HN8.out hG
  have hst := rf_cases hok hbad
  obtain ⟨m, a, e, hP9, hcase⟩ := hst
  have HC := Lib.hid hcase
  have HS7 := Lib.hid HN8.out.2.2
  have HGa := Lib.hid (grown_trans HG8.out hG)
  obtain ⟨b2, c2, hne2, -, -, -, -, -, d4, fr2, -, -, -, -, -, -⟩ := hP9.cells
  have fr4 := fr2 4
  have hn1 : g ≠ w.heap.size := Nat.ne_of_lt hgw
  have hgl8 := hP9.lt
  have hn3 : g ≠ w.heap.size + 1 := Nat.ne_of_lt (Nat.lt_succ_of_lt hgw)
  have HP9 := Lib.hid hP9
  clear hG hok hbad hcase HP8 HN8 HG8 HB c1 c3 fr1 hP9 fr2
  obtain ⟨q0, q1, q2, q3, f0, f1, f2, f3, hz0⟩ := blk4 hr0
  obtain ⟨p0, p1, p2, p3, g0, g1, g2, g3, hz1⟩ := blk4 hr1
  clear hr0 hr1
  rw [show (((o + 1 : Nat) : Nat) : Int) = (o : Int) + 1 from rfl] at d4
  go_wp2_with fail
  refine bodyPost_ret (v := .agg #[.int .i64 4, .int .i64 0, .string ⟨#[]⟩, .slice (some ⟨w8.heap.size, 0, none⟩) 1 1]) (by simp [results, Tryd.results118, go_sem, q0, q1, q2, q3, hz0]) rfl ?_
  exact rf_unend 4 hgw HGa.out HS7.out hsz HC.out HP9.out (by have := Ho.out; omega) _ _ _ _ _ _ _ _ 25 rfl rfl rfl rfl
end Go.Proofs.YtjjooekkieddbaaDoor

namespace Go.Proofs.YtjjooekkieddbaaDoor
open Go.RowKit

theorem uop_eq (s : List UInt8) : Ps.uop s = if s = [45] then 3 else if s = [33] then 4 else 0 := by
  have h : Ps.uop s = if [45] = s then 3 else if [33] = s then 4 else 0 := rfl
  rw [h]
  by_cases h1 : s = [45]
  · rw [if_pos h1.symm, if_pos h1]
  · rw [if_neg (fun h => h1 h.symm), if_neg h1]
    by_cases h2 : s = [33]
    · rw [if_pos h2.symm, if_pos h2]
    · rw [if_neg (fun h => h2 h.symm), if_neg h2]

theorem roperand_of (w : World) (g : Nat) (ts : List Tk.Tok) (k bad o d : Nat) (hlast : Ps.kindAt ts (ts.length - 1) = 5) (hW : WOk ts) (ho : o ≤ 24) (hP : Rsr w g ts k bad 0 o d)
    (hB : k + 1 < ts.length → o < 24 → ∀ w', Rsr w' g ts (k + 1) bad 0 (o + 1) d → Calls Tryd.prog 109 #[.pointer (some ⟨g, 0, none⟩), .int .i64 0] w' (RfPost w' g ts bad (o + 1) d (Ps.PE ts 1 (o + 1) (k + 1))))
    (hO : k + 1 < ts.length → o < 24 → ∀ w', Rsr w' g ts (k + 1) bad 0 (o + 1) d → Calls Tryd.prog 118 #[.pointer (some ⟨g, 0, none⟩)] w' (RfPost w' g ts bad (o + 1) d (Ps.PO ts (o + 1) (k + 1)))) :
    Calls Tryd.prog 118 #[.pointer (some ⟨g, 0, none⟩)] w (RfPost w g ts bad o d (Ps.PO ts o k)) := by
  have hk := hP.inT
  rw [Ps.PO_eq]
  by_cases h2 : Ps.kindAt ts k = 2
  · rw [if_pos h2]
    exact roperand_num w g ts k bad o d hlast hP h2
  rw [if_neg h2]
  by_cases h1 : Ps.kindAt ts k = 1
  · rw [if_pos h1]
    exact roperand_name w g ts k bad o d hlast hP h1
  rw [if_neg h1]
  have hK2 : kindB ts k 0 2 = false := by simp [kindB, h2]
  have hK1 : kindB ts k 0 1 = false := by simp [kindB, h1]
  have i45 := isB_sgn (s := [45]) hk hW (by simp [Ps.sgTab]) (by simp)
  have i33 := isB_sgn (s := [33]) hk hW (by simp [Ps.sgTab]) (by simp)
  have i40 := isB_sgn (s := [40]) hk hW (by simp) (by simp)
  have hu := uop_eq (Ps.sgn ts k)
  by_cases s45 : Ps.sgn ts k = [45]
  · rw [if_pos s45] at hu
    have hm : isB ts k 0 [45] = true := by rw [i45]; exact decide_eq_true s45
    rw [if_neg (by rw [hu]; intro h; exact absurd h.1 (by decide))]
    by_cases h24 : o = 24
    · rw [if_pos h24]
      exact roperand_negL w g ts k bad o d hP hK2 hK1 hm h24
    · rw [if_neg h24, if_neg (by rw [hu]; decide), hu]
      exact roperand_neg w g ts k bad o d hP hK2 hK1 hm (by omega) hlast (hO (Ps.next_in hlast hk (isB_kind hm)) (by omega))
  rw [if_neg s45] at hu
  have hm : isB ts k 0 [45] = false := by rw [i45]; exact decide_eq_false s45
  by_cases s33 : Ps.sgn ts k = [33]
  · rw [if_pos s33] at hu
    have hn : isB ts k 0 [33] = true := by rw [i33]; exact decide_eq_true s33
    rw [if_neg (by rw [hu]; intro h; exact absurd h.1 (by decide))]
    by_cases h24 : o = 24
    · rw [if_pos h24]
      exact roperand_notL w g ts k bad o d hP hK2 hK1 hm hn h24
    · rw [if_neg h24, if_neg (by rw [hu]; decide), hu]
      exact roperand_not w g ts k bad o d hP hK2 hK1 hm hn (by omega) hlast (hO (Ps.next_in hlast hk (isB_kind hn)) (by omega))
  rw [if_neg s33] at hu
  have hn : isB ts k 0 [33] = false := by rw [i33]; exact decide_eq_false s33
  by_cases s40 : Ps.sgn ts k = [40]
  · have hp : isB ts k 0 [40] = true := by rw [i40]; exact decide_eq_true s40
    rw [if_neg (by intro h; exact absurd s40 h.2)]
    by_cases h24 : o = 24
    · rw [if_pos h24]
      exact roperand_parL w g ts k bad o d hP hK2 hK1 hm hn hp h24
    · rw [if_neg h24, if_pos hu]
      exact roperand_par w g ts k bad o d hP hK2 hK1 hm hn hp (by omega) hlast hW (hB (Ps.next_in hlast hk (isB_kind hp)) (by omega))
  · have hp : isB ts k 0 [40] = false := by rw [i40]; exact decide_eq_false s40
    rw [if_pos ⟨hu, s40⟩]
    exact roperand_none w g ts k bad o d hP hK2 hK1 hm hn hp
end Go.Proofs.YtjjooekkieddbaaDoor

namespace Go.Proofs.YtjjooekkieddbaaDoor
open Go.RowKit

theorem opFind_at (s : List UInt8) (n op : Nat) : Ps.opFind s n op = 0 ∨ Ps.sgTab.getD (Ps.opFind s n op) [] = s := by
  induction n generalizing op with
  | zero => left; rfl
  | succ n ih =>
    unfold Ps.opFind
    split
    · right; assumption
    · exact ih (op + 1)
theorem lev_all : ((List.range 18).all fun r => (List.range 5).all fun L => !(decide (5 ≤ r) && decide (Ps.strD ((r : Nat) : Int) = L + 1)) || (sgS ((L : Nat) : Int)).contains (Ps.sgTab.getD r [])) = true := by kernel_rfl
theorem lev_tab (r : Nat) (h : r < 18) (h5 : 5 ≤ r) (L : Nat) (hL : L < 5) (hs : Ps.strD ((r : Nat) : Int) = L + 1) : Ps.sgTab.getD r [] ∈ sgS ((L : Nat) : Int) := by
  have h1 := List.all_eq_true.1 (List.all_eq_true.1 lev_all r (List.mem_range.2 h)) L (List.mem_range.2 hL)
  rw [decide_eq_true h5, decide_eq_true hs] at h1
  simpa using h1
/-- the signs of a level -/
theorem lev_sg (L i : Nat) (hL : L < 5) (hi : i < (sgS (L : Int)).length) : ∃ op : Nat, (sgO (L : Int))[i]? = some (op : Int) ∧ Ps.bop (sgS (L : Int))[i] = op ∧ Ps.strD (op : Int) = L + 1 ∧ (sgS (L : Int))[i] ∈ [40] :: [41] :: Ps.sgTab ∧ (sgS (L : Int))[i] ≠ [] := by
  have hc : L = 0 ∨ L = 1 ∨ L = 2 ∨ L = 3 ∨ L = 4 := by omega
  rcases hc with rfl | rfl | rfl | rfl | rfl
  · have hi' : i < 1 := hi
    have : i = 0 := by omega
    subst this
    exact ⟨17, rfl, rfl, by decide, (show ([124, 124] : List UInt8) ∈ [40] :: [41] :: Ps.sgTab by decide), (show ([124, 124] : List UInt8) ≠ [] by decide)⟩
  · have hi' : i < 1 := hi
    have : i = 0 := by omega
    subst this
    exact ⟨16, rfl, rfl, by decide, (show ([38, 38] : List UInt8) ∈ [40] :: [41] :: Ps.sgTab by decide), (show ([38, 38] : List UInt8) ≠ [] by decide)⟩
  · have hi' : i < 6 := hi
    have : i = 0 ∨ i = 1 ∨ i = 2 ∨ i = 3 ∨ i = 4 ∨ i = 5 := by omega
    rcases this with rfl | rfl | rfl | rfl | rfl | rfl
    · exact ⟨14, rfl, rfl, by decide, (show ([61, 61] : List UInt8) ∈ [40] :: [41] :: Ps.sgTab by decide), (show ([61, 61] : List UInt8) ≠ [] by decide)⟩
    · exact ⟨15, rfl, rfl, by decide, (show ([33, 61] : List UInt8) ∈ [40] :: [41] :: Ps.sgTab by decide), (show ([33, 61] : List UInt8) ≠ [] by decide)⟩
    · exact ⟨10, rfl, rfl, by decide, (show ([60] : List UInt8) ∈ [40] :: [41] :: Ps.sgTab by decide), (show ([60] : List UInt8) ≠ [] by decide)⟩
    · exact ⟨11, rfl, rfl, by decide, (show ([60, 61] : List UInt8) ∈ [40] :: [41] :: Ps.sgTab by decide), (show ([60, 61] : List UInt8) ≠ [] by decide)⟩
    · exact ⟨12, rfl, rfl, by decide, (show ([62] : List UInt8) ∈ [40] :: [41] :: Ps.sgTab by decide), (show ([62] : List UInt8) ≠ [] by decide)⟩
    · exact ⟨13, rfl, rfl, by decide, (show ([62, 61] : List UInt8) ∈ [40] :: [41] :: Ps.sgTab by decide), (show ([62, 61] : List UInt8) ≠ [] by decide)⟩
  · have hi' : i < 2 := hi
    have : i = 0 ∨ i = 1 := by omega
    rcases this with rfl | rfl
    · exact ⟨8, rfl, rfl, by decide, (show ([43] : List UInt8) ∈ [40] :: [41] :: Ps.sgTab by decide), (show ([43] : List UInt8) ≠ [] by decide)⟩
    · exact ⟨9, rfl, rfl, by decide, (show ([45] : List UInt8) ∈ [40] :: [41] :: Ps.sgTab by decide), (show ([45] : List UInt8) ≠ [] by decide)⟩
  · have hi' : i < 3 := hi
    have : i = 0 ∨ i = 1 ∨ i = 2 := by omega
    rcases this with rfl | rfl | rfl
    · exact ⟨5, rfl, rfl, by decide, (show ([42] : List UInt8) ∈ [40] :: [41] :: Ps.sgTab by decide), (show ([42] : List UInt8) ≠ [] by decide)⟩
    · exact ⟨6, rfl, rfl, by decide, (show ([47] : List UInt8) ∈ [40] :: [41] :: Ps.sgTab by decide), (show ([47] : List UInt8) ≠ [] by decide)⟩
    · exact ⟨7, rfl, rfl, by decide, (show ([37] : List UInt8) ∈ [40] :: [41] :: Ps.sgTab by decide), (show ([37] : List UInt8) ≠ [] by decide)⟩
theorem lev_len (L : Int) : (sgS L).length ≤ 6 ∧ (sgO L).length = (sgS L).length := by
  unfold sgS sgO
  split <;> simp
/-- no sign of the level stands here -/
theorem lev_none (s : List UInt8) (L : Nat) (hL : L < 5) (h : ∀ i (hi : i < (sgS (L : Int)).length), s ≠ (sgS (L : Int))[i]) (hlt : Ps.strD (Ps.bop s : Int) < L + 2) : Ps.strD (Ps.bop s : Int) < L + 1 := by
  rcases Ps.opFind_le s 13 5 with h0 | h0
  · have : Ps.bop s = 0 := h0
    rw [this, show ((0 : Nat) : Int) = 0 from rfl, Ps.strD_zero]
    omega
  · rcases opFind_at s 13 5 with h1 | h1
    · omega
    · have hb : Ps.bop s = Ps.opFind s 13 5 := rfl
      rw [← hb] at h0 h1
      rcases Nat.lt_or_ge (Ps.strD (Ps.bop s : Int)) (L + 1) with h2 | h2
      · exact h2
      · have h3 := lev_tab (Ps.bop s) (by omega) (by omega) L hL (by omega)
        rw [h1] at h3
        obtain ⟨i, hi, e⟩ := List.mem_iff_getElem.1 h3
        exact absurd e.symm (h i hi)
end Go.Proofs.YtjjooekkieddbaaDoor

namespace Go.Proofs.YtjjooekkieddbaaDoor
open Go.RowKit

def SignsPost2 (w : World) (level : Int) (e : Ending) (w' : World) : Prop :=
  ∃ b b', e = .returned (.tuple #[.slice (some ⟨b, 0, none⟩) (sgS level).length (sgS level).length, .slice (some ⟨b', 0, none⟩) (sgO level).length (sgO level).length]) ∧ w.heap.size ≤ b ∧ w.heap.size ≤ b' ∧
    StrS w' (some ⟨b, 0, none⟩) (sgS level) ∧ IntS w' (some ⟨b', 0, none⟩) (sgO level) ∧ Below w.heap.size w w'
theorem signs2_ret (w : World) (level : Int) (s1 s2 : List (List UInt8)) (o1 o2 : List Int) (vs vo : Array Value) (t t' : TypeId) (e1 : sgS level = s1) (e2 : sgO level = o1) (h1 : vs = (s1.map fun s => Value.string ⟨s.toArray⟩).toArray) (h2 : vo = (o1.map fun s => Value.int .i64 s).toArray) (hs : s2 = s1) (ho : o2 = o1) :
    SignsPost2 w level (.returned (.tuple #[.slice (some ⟨w.heap.size, 0, none⟩) s2.length s2.length, .slice (some ⟨w.heap.size + 1, 0, none⟩) o2.length o2.length])) ((w.alloc (.cells vs t)).alloc (.cells vo t')) := by
  subst hs ho
  refine ⟨_, _, by rw [e1, e2], Nat.le_refl _, Nat.le_succ _, ?_, ?_, ((Below.refl _ _).alloc (Nat.le_refl _) _).alloc (by simp) _⟩
  · rw [e1]; exact strS_lit _ _ _ h1 _ _
  · rw [e2]; exact intS_lit _ _ _ h2 _ (by simp) _
set_option maxHeartbeats 1000000 in
theorem signs_new (L : Nat) (hL : L < 5) (w : World) : Calls Tryd.prog 66 #[.int .i64 (L : Int)] w (SignsPost2 w (L : Int)) := by
  have hc : L = 0 ∨ L = 1 ∨ L = 2 ∨ L = 3 ∨ L = 4 := by omega
  clear hL
  rcases hc with rfl | rfl | rfl | rfl | rfl
  · go_enter Tryd.func66, Tryd.ntmps66
    go_wp2
    go_ret2
    exact signs2_ret w 0 [[124, 124]] _ [17] _ _ _ _ _ rfl rfl rfl rfl rfl rfl
  · go_enter Tryd.func66, Tryd.ntmps66
    go_wp2
    go_ret2
    exact signs2_ret w 1 [[38, 38]] _ [16] _ _ _ _ _ rfl rfl rfl rfl rfl rfl
  · go_enter Tryd.func66, Tryd.ntmps66
    go_wp2
    go_ret2
    exact signs2_ret w 2 [[61, 61], [33, 61], [60], [60, 61], [62], [62, 61]] _ [14, 15, 10, 11, 12, 13] _ _ _ _ _ rfl rfl rfl rfl rfl rfl
  · go_enter Tryd.func66, Tryd.ntmps66
    go_wp2
    go_ret2
    exact signs2_ret w 3 [[43], [45]] _ [8, 9] _ _ _ _ _ rfl rfl rfl rfl rfl rfl
  · go_enter Tryd.func66, Tryd.ntmps66
    go_wp2
    go_ret2
    exact signs2_ret w 4 [[42], [47], [37]] _ [5, 6, 7] _ _ _ _ _ rfl rfl rfl rfl rfl rfl

/-- the blocks of the signs and of their operators, which no call here writes -/
structure SgM (w wr : World) (g lb b b' L : Nat) : Prop where
  hb : w.heap.size < b
  hb' : w.heap.size < b'
  nb : b ≠ lb
  nb' : b' ≠ lb
  str : StrS wr (some ⟨b, 0, none⟩) (sgS (L : Int))
  int : IntS wr (some ⟨b', 0, none⟩) (sgO (L : Int))
theorem SgM.keep {w wr W : World} {g lb b b' L : Nat} (h : SgM w wr g lb b b' L) (hg : g < w.heap.size) (hk : ∀ c, c < wr.heap.size → c ≠ g → c ≠ lb → W.heap[c]? = wr.heap[c]?) : SgM w W g lb b b' L := by
  have h1 := h.hb
  have h2 := h.hb'
  refine ⟨h.hb, h.hb', h.nb, h.nb', ?_, ?_⟩
  · intro i hi
    obtain ⟨c, off, e, hc⟩ := h.str i hi
    injection e with e
    injection e with e1 e2
    subst e1 e2
    exact ⟨b, 0, rfl, (World.cell?_of_block (hk b (World.block_lt_of_cell? _ _ hc) (by omega) h.nb)).trans hc⟩
  · intro i hi
    obtain ⟨c, off, e, hc⟩ := h.int i hi
    injection e with e
    injection e with e1 e2
    subst e1 e2
    exact ⟨b', 0, rfl, (World.cell?_of_block (hk b' (World.block_lt_of_cell? _ _ hc) (by omega) h.nb')).trans hc⟩

/-- a state of the loop: R is what has been read, f its fields in block lb -/
structure BnS (w : World) (g lb b b' : Nat) (ts : List Tk.Tok) (L bad o d k : Nat) (R : Ps.R) (f : EF) (wr : World) : Prop where
  sum : R.bind (fun x m => Ps.PC ts (L + 1) o x m) = Ps.PE ts (L + 1) o k
  blk : Blk wr lb f
  blk0 : Blk0 wr w.heap.size
  grown : w.grownBy wr (some g)
  sg : SgM w wr g lb b b' L
  ok : ∀ x m, R = .ok x m → ExM wr (LS w lb) x f ∧ Rsr wr g ts m bad 0 o d ∧ Ps.strD (Ps.bop (Ps.sgn ts m) : Int) < L + 2 ∧ k < m
  no : ∀ a e0, R = .bad a e0 → e0 ≠ 0 ∧ ∃ m, Rsr wr g ts m a e0 o d
/-- the same behind calls that write to the parser only, and leave it as it was -/
theorem BnS.later {w wr W : World} {g lb b b' : Nat} {ts : List Tk.Tok} {L bad o d k : Nat} {R : Ps.R} {f : EF} (h : BnS w g lb b b' ts L bad o d k R f wr) (hg : g < w.heap.size) (hlb : w.heap.size < lb) (hG : wr.grownBy W (some g))
    (hok : ∀ x m, R = .ok x m → Rsr W g ts m bad 0 o d) (hno : ∀ a e0 m, R = .bad a e0 → Rsr wr g ts m a e0 o d → Rsr W g ts m a e0 o d) : BnS w g lb b b' ts L bad o d k R f W := by
  have hk : ∀ c, c < wr.heap.size → c ≠ g → W.heap[c]? = wr.heap[c]? := fun c hc hne => hG.block c hc (fun e => hne (by injection e))
  have hl := lt_of_block h.blk
  have hz := lt_of_block h.blk0
  refine ⟨h.sum, (hk lb hl (by omega)).trans h.blk, (hk _ hz (by omega)).trans h.blk0, grown_trans h.grown hG, h.sg.keep hg (fun c hc hne _ => hk c hc hne), ?_, ?_⟩
  · intro x m hR
    obtain ⟨h1, h2, h3⟩ := h.ok x m hR
    exact ⟨h1.keep fun c hc hlt => hk c hlt (by have := hc.1; omega), hok x m hR, h3⟩
  · intro a e0 hR
    obtain ⟨h1, m, h2⟩ := h.no a e0 hR
    exact ⟨h1, m, hno a e0 m hR h2⟩

set_option maxHeartbeats 2000000 in
/-- a round that reads an operator and its right side -/
theorem bn_round {w wr w2 w4 : World} {g lb b b' m k : Nat} {ts : List Tk.Tok} {L bad o d : Nat} {x : Ex} {f fr : EF} {R4 : Ps.R} {op : Nat} (hg : g < w.heap.size) (hlb : w.heap.size < lb)
    (h : BnS w g lb b b' ts L bad o d k (.ok x m) f wr) (h2 : wr.grownBy w2 (some g)) (hG : w2.grownBy w4 (some g))
    (hok : ∀ y a, R4 = .ok y a → ExM w4 (w2.heap.size ≤ ·) y fr ∧ Rsr w4 g ts a bad 0 o d) (hno : ∀ a e0, R4 = .bad a e0 → e0 ≠ 0 ∧ ∃ m, Rsr w4 g ts m a e0 o d)
    (hF : Ps.PC ts (L + 1) o x m = R4.bind fun r k' => Ps.PC ts (L + 1) o (.mk op 0 [] [x, r]) k') (hend : ∀ y a, R4 = .ok y a → Ps.strD (Ps.bop (Ps.sgn ts a) : Int) < L + 2 ∧ k < a)
    (W : World) (hWd : W = (set4 w4 lb (.int .i64 (op : Int)) (.int .i64 0) (.string ⟨#[]⟩) (.slice (some ⟨w4.heap.size, 0, none⟩) 2 2)).alloc (.cells #[.int .i64 f.op, .int .i64 f.num, .string ⟨f.name.toArray⟩, .slice f.A f.n f.c, .int .i64 fr.op, .int .i64 fr.num, .string ⟨fr.name.toArray⟩, .slice fr.A fr.n fr.c] 25)) :
    BnS w g lb b b' ts L bad o d k (R4.bind fun r k' => .ok (.mk op 0 [] [x, r]) k') ⟨op, 0, [], some ⟨w4.heap.size, 0, none⟩, 2, 2⟩ W := by
  obtain ⟨hx, hP, _⟩ := h.ok x m rfl
  have hlw : lb < wr.heap.size := lt_of_block h.blk
  have hzw : w.heap.size < wr.heap.size := lt_of_block h.blk0
  have hs2 := h2.size
  have hs4 := hG.size
  generalize hA : set4 w4 lb (.int .i64 (op : Int)) (.int .i64 0) (.string ⟨#[]⟩) (.slice (some ⟨w4.heap.size, 0, none⟩) 2 2) = A at hWd
  have hsz : A.heap.size = w4.heap.size := by rw [← hA, set4_size]
  have hAk : ∀ c, c ≠ lb → A.heap[c]? = w4.heap[c]? := by
    intro c hc
    rw [← hA, set4_keep _ lb _ _ _ _ c hc]
  have h4r : ∀ c, c < wr.heap.size → c ≠ g → w4.heap[c]? = wr.heap[c]? := fun c hc hne =>
    (hG.block c (by omega) (fun e => hne (by injection e))).trans (h2.block c hc (fun e => hne (by injection e)))
  have hAl : Blk A lb ⟨op, 0, [], some ⟨w4.heap.size, 0, none⟩, 2, 2⟩ := by
    have h4 : w4.heap[lb]? = some (.cells #[.int .i64 f.op, .int .i64 f.num, .string ⟨f.name.toArray⟩, .slice f.A f.n f.c] 25 (0, 0)) := (h4r lb hlw (by omega)).trans h.blk
    rw [← hA]
    exact set4_at h4 _ _ _ _
  have hAo : A.os = w4.os ∧ A.tape = w4.tape ∧ A.output = w4.output := by rw [← hA]; exact set4_os w4 lb _ _ _ _
  clear hA
  have hW : ∀ c, c < w4.heap.size → c ≠ lb → W.heap[c]? = w4.heap[c]? := by
    intro c hc h1
    rw [hWd, Below.heap_alloc _ _ c (by rw [hsz]; exact hc), hAk c h1]
  have hWs : W.heap.size = w4.heap.size + 1 := by rw [hWd]; simp [hsz]
  have e : ∀ o', W.cell? ⟨w4.heap.size, o', none⟩ = [Value.int .i64 f.op, .int .i64 f.num, .string ⟨f.name.toArray⟩, .slice f.A f.n f.c, .int .i64 fr.op, .int .i64 fr.num, .string ⟨fr.name.toArray⟩, .slice fr.A fr.n fr.c][o']? := by
    intro o'
    rw [hWd, ← hsz, World.cell?_alloc_mark]
    simp
  have hWl : W.heap[lb]? = A.heap[lb]? := by rw [hWd, Below.heap_alloc _ _ lb (by rw [hsz]; omega)]
  have hWo : W.os = w4.os ∧ W.tape = w4.tape ∧ W.output = w4.output := by rw [hWd]; exact hAo
  clear hWd
  have hR : ∀ {a q e0 : Nat}, Rsr w4 g ts a q e0 o d → Rsr W g ts a q e0 o d := fun hP => hP.keep fun c hc => hW c (by have := hP.lt; omega) (by omega)
  refine ⟨?_, hWl.trans hAl, (hW _ (by omega) (by omega)).trans ((h4r _ hzw (by omega)).trans h.blk0), ?_, ?_, ?_, ?_⟩
  · rw [Ps.bind_assoc, ← h.sum]
    exact hF.symm
  · refine ⟨(hWo.1.trans hG.os).trans (h2.os.trans h.grown.os), (hWo.2.1.trans hG.tape).trans (h2.tape.trans h.grown.tape), (hWo.2.2.trans hG.output).trans (h2.output.trans h.grown.output), by omega, fun c hc hne => ?_⟩
    exact (hW c (by omega) (by omega)).trans ((h4r c (by omega) (fun e => hne (by rw [e]))).trans (h.grown.block c hc hne))
  · exact h.sg.keep hg fun c hc hne hnl => (hW c (by omega) hnl).trans (h4r c hc hne)
  · intro y a hR4
    cases R4 with
    | bad a' e' => cases hR4
    | ok z a' =>
      injection hR4 with i1 i2
      subst i1 i2
      obtain ⟨hy, hP4⟩ := hok z a' rfl
      refine ⟨?_, hR hP4, hend z a' rfl⟩
      refine ExM.two _ _ _ w4.heap.size 0 2 ⟨by omega, by omega⟩ ⟨(e 0).trans rfl, (e 1).trans rfl, (e 2).trans rfl, (e 3).trans rfl⟩ ⟨(e 4).trans rfl, (e 5).trans rfl, (e 6).trans rfl, (e 7).trans rfl⟩ ?_ ?_
      · exact hx.keep fun c hc hlt => (hW c (by omega) hc.2).trans (h4r c hlt (by have := hc.1; omega))
      · exact (hy.keep fun c hc hlt => hW c hlt (by omega)).more fun c hc => ⟨by omega, by omega⟩
  · intro a e0 hR4
    cases R4 with
    | bad a' e' =>
      injection hR4 with i1 i2
      subst i1 i2
      obtain ⟨h1, m', hP4⟩ := hno a' e' rfl
      exact ⟨h1, m', hR hP4⟩
    | ok z a' => cases hR4

/-- the beginning -/
theorem bn_start {w w1 w2 : World} {g b b' k : Nat} {ts : List Tk.Tok} {L bad o d : Nat} {f : EF} {Z : Array Value} (hg : g < w.heap.size) (hZ : Z = #[.int .i64 0, .int .i64 0, .string ⟨#[]⟩, .slice none 0 0])
    (hG : (w.alloc (.cells Z 25)).grownBy w1 (some g)) (hok : ∀ x m, Ps.PE ts (L + 2) o k = .ok x m → ExM w1 ((w.alloc (.cells Z 25)).heap.size ≤ ·) x f ∧ Rsr w1 g ts m bad 0 o d) (hno : ∀ a e0, Ps.PE ts (L + 2) o k = .bad a e0 → e0 ≠ 0 ∧ ∃ m, Rsr w1 g ts m a e0 o d)
    (W1 : World) (hW1 : W1 = w1.alloc (.cells #[.int .i64 f.op, .int .i64 f.num, .string ⟨f.name.toArray⟩, .slice f.A f.n f.c] 25)) (hb : W1.heap.size ≤ b) (hb' : W1.heap.size ≤ b') (hS : StrS w2 (some ⟨b, 0, none⟩) (sgS (L : Int))) (hI : IntS w2 (some ⟨b', 0, none⟩) (sgO (L : Int))) (hB : Below W1.heap.size W1 w2) :
    BnS w g w1.heap.size b b' ts L bad o d k (Ps.PE ts (L + 2) o k) f w2 := by
  subst hZ
  have hs1 : W1.heap.size = w1.heap.size + 1 := by rw [hW1]; simp
  have hs0 : w.heap.size < w1.heap.size := by have := hG.size; simp at this; omega
  have hk : ∀ c, c < w1.heap.size → w2.heap[c]? = w1.heap[c]? := fun c hc => (hB.block c (by omega)).trans (by rw [hW1]; exact Below.heap_alloc w1 _ c hc)
  have hR : ∀ {a q e0 : Nat}, Rsr w1 g ts a q e0 o d → Rsr w2 g ts a q e0 o d := fun hP => hP.keep fun c hc => hk c (by omega)
  have hGw := grown_of_alloc hG
  have hBo : w2.os = w1.os ∧ w2.tape = w1.tape ∧ w2.output = w1.output := by
    have h1 : W1.os = w1.os ∧ W1.tape = w1.tape ∧ W1.output = w1.output := by rw [hW1]; exact ⟨rfl, rfl, rfl⟩
    exact ⟨hB.os.trans h1.1, hB.tape.trans h1.2.1, hB.output.trans h1.2.2⟩
  have hs2 := hB.size
  refine ⟨(Ps.PE_split ts (L + 1) o k (by omega)).symm, ?_, ?_, ?_, ⟨by omega, by omega, by omega, by omega, hS, hI⟩, ?_, ?_⟩
  · exact (hB.block _ (by omega)).trans (by rw [hW1]; exact heap_alloc_new w1 _)
  · exact (hk _ hs0).trans ((hG.block _ (by simp) (fun e => by injection e with e; omega)).trans (heap_alloc_new w _))
  · exact ⟨hBo.1.trans hGw.os, hBo.2.1.trans hGw.tape, hBo.2.2.trans hGw.output, by omega, fun c hc hne => (hk c (by omega)).trans (hGw.block c hc hne)⟩
  · intro x m hx
    obtain ⟨hE, hP⟩ := hok x m hx
    exact ⟨(hE.inside.keep fun c hc hlt => hk c hlt).more fun c hc => ⟨by have := hc.1; simp at this; omega, by have := hc.2; omega⟩, hR hP, Ps.PE_ends (by omega) hx, Ps.PE_moves hx⟩
  · intro a e0 hx
    obtain ⟨h1, m, hP⟩ := hno a e0 hx
    exact ⟨h1, m, hR hP⟩
/-- the end of binary -/
theorem bn_end {w wr : World} {g lb b b' k : Nat} {ts : List Tk.Tok} {L bad o d : Nat} {f : EF} {R : Ps.R} (hg : g < w.heap.size) (h : BnS w g lb b b' ts L bad o d k R f wr) (hdone : ∀ x m, R = .ok x m → Ps.PC ts (L + 1) o x m = .ok x m)
    (u0 u1 u2 u3 : Value) (C : World) (hC : C = set4 wr w.heap.size u0 u1 u2 u3) : RfPost w g ts bad o d (Ps.PE ts (L + 1) o k) (.returned f.val) C := by
  have hsum := h.sum
  have sC : C.heap.size = wr.heap.size := by rw [hC]; exact set4_size _ _ _ _ _ _
  have mC : C.os = wr.os ∧ C.tape = wr.tape ∧ C.output = wr.output := by rw [hC]; exact set4_same _ _ _ _ _ _
  have kC : ∀ c, c ≠ w.heap.size → C.heap[c]? = wr.heap[c]? := fun c hne => by rw [hC]; exact set4_keep wr _ _ _ _ _ c hne
  have hG := h.grown
  have hR : ∀ {a q e0 : Nat}, Rsr wr g ts a q e0 o d → Rsr C g ts a q e0 o d := fun hP => hP.keep fun c hc => kC c (by omega)
  refine ⟨f, rfl, ⟨mC.1.trans hG.os, mC.2.1.trans hG.tape, mC.2.2.trans hG.output, by rw [sC]; exact hG.size, fun c hlt hne => (kC c (Nat.ne_of_lt hlt)).trans (hG.block c hlt hne)⟩, ?_, ?_⟩
  · intro y a hy
    rw [← hsum] at hy
    cases R with
    | bad a' e' => cases hy
    | ok x m =>
      obtain ⟨hx, hP, _⟩ := h.ok x m rfl
      have h1 : Ps.PC ts (L + 1) o x m = .ok y a := hy
      rw [hdone x m rfl] at h1
      injection h1 with i1 i2
      subst i1 i2
      exact ⟨(hx.keep fun c hc hlt => kC c (by have := hc.1; omega)).more fun c hc => by have := hc.1; omega, hR hP⟩
  · intro a e0 hy
    rw [← hsum] at hy
    cases R with
    | bad a' e' =>
      injection hy with i1 i2
      subst i1 i2
      obtain ⟨h1, m, hP⟩ := h.no a' e' rfl
      exact ⟨h1, m, hR hP⟩
    | ok x m =>
      have h1 : Ps.PC ts (L + 1) o x m = .bad a e0 := hy
      rw [hdone x m rfl] at h1
      cases h1
end Go.Proofs.YtjjooekkieddbaaDoor

namespace Go.Proofs.YtjjooekkieddbaaDoor
open Go.RowKit

def agOf (v : Value) : Bool := match v with
  | .bool b => b
  | _ => false
/-- the error of a parser -/
def rerrOf (w : World) (g : Nat) : Nat := match w.cell? ⟨g, 3, none⟩ with
  | some (.int _ n) => n.toNat
  | _ => 0
theorem Rsr.atOf {w : World} {g : Nat} {ts : List Tk.Tok} {k bad e o d : Nat} (h : Rsr w g ts k bad e o d) : atOf w g = k := by
  obtain ⟨b, c, -, -, -, q1, -⟩ := h.cells
  unfold Go.Proofs.YtjjooekkieddbaaDoor.atOf
  rw [q1]
  simp
theorem Rsr.errOf {w : World} {g : Nat} {ts : List Tk.Tok} {k bad e o d : Nat} (h : Rsr w g ts k bad e o d) : rerrOf w g = e := by
  obtain ⟨b, c, -, -, -, -, -, q3, -⟩ := h.cells
  unfold rerrOf
  rw [q3]
  simp
/-- how far the loop may still go -/
def rmeas (ts : List Tk.Tok) (g : Nat) (w : World) : Nat := if rerrOf w g = 0 then ts.length - atOf w g + 2 else 1
theorem rmeas_ok {ts : List Tk.Tok} {g : Nat} {w : World} {k bad o d : Nat} (h : Rsr w g ts k bad 0 o d) : rmeas ts g w = ts.length - k + 2 := by
  unfold rmeas
  rw [h.errOf, h.atOf, if_pos rfl]
theorem rmeas_bad {ts : List Tk.Tok} {g : Nat} {w : World} {k bad e o d : Nat} (h : Rsr w g ts k bad e o d) (he : e ≠ 0) : rmeas ts g w = 1 := by
  unfold rmeas
  rw [h.errOf, if_neg he]
theorem rmeas_pos (ts : List Tk.Tok) (g : Nat) (w : World) : 1 ≤ rmeas ts g w := by
  unfold rmeas
  split <;> omega

/-- the outer loop -/
def BnOut (w : World) (g lb b b' : Nat) (ts : List Tk.Tok) (L bad o d k : Nat) (ag : Value) (wr : World) : Prop :=
  ∃ (A : Bool) (R : Ps.R) (f : EF), ag = .bool A ∧ BnS w g lb b b' ts L bad o d k R f wr ∧ (A = false → ∀ x m, R = .ok x m → Ps.PC ts (L + 1) o x m = .ok x m)
/-- the inner one, begun with R -/
def BnIn (w : World) (g lb b b' : Nat) (ts : List Tk.Tok) (L bad o d k : Nat) (R : Ps.R) (M0 : Nat) (ag i : Value) (wr : World) : Prop :=
  ∃ (A : Bool) (j : Nat) (R' : Ps.R) (f : EF), ag = .bool A ∧ i = .int .i64 (j : Int) ∧ j ≤ (sgS (L : Int)).length ∧ BnS w g lb b b' ts L bad o d k R' f wr ∧
    (A = false → R' = R ∧ ∀ x m, R = .ok x m → ∀ q (hq : q < (sgS (L : Int)).length), q < j → Ps.sgn ts m ≠ (sgS (L : Int))[q]) ∧ (A = true → rmeas ts g wr < M0)
/-- where the parser of a state stands -/
theorem BnS.here {w wr : World} {g lb b b' : Nat} {ts : List Tk.Tok} {L bad o d k : Nat} {R : Ps.R} {f : EF} (h : BnS w g lb b b' ts L bad o d k R f wr) :
    ∃ m a e, Rsr wr g ts m a e o d ∧ ((∃ x, R = .ok x m ∧ a = bad ∧ e = 0) ∨ (R = .bad a e ∧ e ≠ 0)) := by
  cases R with
  | ok x m => exact ⟨m, bad, 0, (h.ok x m rfl).2.1, .inl ⟨x, rfl, rfl, rfl⟩⟩
  | bad a e =>
    obtain ⟨h1, m, h2⟩ := h.no a e rfl
    exact ⟨m, a, e, h2, .inr ⟨rfl, h1⟩⟩
theorem isB_e {ts : List Tk.Tok} {k e : Nat} {s : List UInt8} (h : isB ts k e s = true) : e = 0 := by
  unfold isB at h
  simp at h
  exact h.1
/-- nothing was taken -/
theorem bn_skip {w wr w2 : World} {g lb b b' m a e : Nat} {ts : List Tk.Tok} {L bad o d k : Nat} {R : Ps.R} {f : EF} {s : List UInt8} (hg : g < w.heap.size) (hlb : w.heap.size < lb) (h : BnS w g lb b b' ts L bad o d k R f wr) (hP : Rsr wr g ts m a e o d)
    (hc : (∃ x, R = .ok x m ∧ a = bad ∧ e = 0) ∨ (R = .bad a e ∧ e ≠ 0)) (hF : isB ts m e s = false) (hP2 : Rsr w2 g ts (takeK ts m e s) a e o d) (hG : wr.grownBy w2 (some g)) : BnS w g lb b b' ts L bad o d k R f w2 := by
  rw [takeK_F hF] at hP2
  refine h.later hg hlb hG ?_ ?_
  · intro x m' hR
    rcases hc with ⟨x', h1, rfl, rfl⟩ | ⟨h1, _⟩
    · rw [hR] at h1
      injection h1 with _ h1
      subst h1
      exact hP2
    · rw [hR] at h1
      cases h1
  · intro a' e0 m' hR hP'
    rcases hc with ⟨x', h1, rfl, rfl⟩ | ⟨h1, _⟩
    · rw [hR] at h1
      cases h1
    · rw [hR] at h1
      injection h1 with h1 h2
      subst h1 h2
      have e1 := hP'.atOf
      have e2 := hP.atOf
      have : m' = m := by omega
      subst this
      exact hP2
/-- a cell elsewhere stays -/
theorem keep_store {w4 : World} {lb b' j : Nat} {v : Value} (h : w4.cell? ⟨b', j, none⟩ = some v) (hne : b' ≠ lb) (u0 u1 u2 u3 : Value) (o : Obj) :
    (((((w4.setCell ⟨lb, 0, none⟩ u0).setCell ⟨lb, 1, none⟩ u1).setCell ⟨lb, 2, none⟩ u2).setCell ⟨lb, 3, none⟩ u3).alloc o).cell? ⟨b', j, none⟩ = some v := by
  have hlt := World.block_lt_of_cell? _ _ h
  dsimp only at hlt
  refine (World.cell?_of_block (a := ⟨b', j, none⟩) ?_).trans h
  have hs := set4_size w4 lb u0 u1 u2 u3
  exact (Below.heap_alloc _ o b' (Nat.lt_of_lt_of_le hlt (Nat.le_of_eq hs.symm))).trans (set4_keep w4 lb u0 u1 u2 u3 b' hne)
/-- the loop found no sign of its level -/
theorem bn_done {ts : List Tk.Tok} {L o m : Nat} {x : Ex} (hL : L < 5) (hn : ∀ q (hq : q < (sgS (L : Int)).length), Ps.sgn ts m ≠ (sgS (L : Int))[q]) (hs : Ps.strD (Ps.bop (Ps.sgn ts m) : Int) < L + 2) : Ps.PC ts (L + 1) o x m = .ok x m :=
  Ps.PC_stop ts (L + 1) o x m (lev_none _ L hL hn hs)

/-- the inner loop behind an operator and its right side -/
theorem bn_next {w wr w3 w4 : World} {g lb b b' m k j : Nat} {ts : List Tk.Tok} {L bad o d M0 op : Nat} {x : Ex} {f fr : EF} (hg : g < w.heap.size) (hlb : w.heap.size < lb) (hj : j < (sgS (L : Int)).length) (hm : m < ts.length) (hkm : k < m + 1)
    (h : BnS w g lb b b' ts L bad o d k (.ok x m) f wr) (h2 : wr.grownBy w3 (some g)) (hG : w3.drew.grownBy w4 (some g))
    (hok : ∀ y a, Ps.PE ts (L + 2) o (m + 1) = .ok y a → ExM w4 (w3.drew.heap.size ≤ ·) y fr ∧ Rsr w4 g ts a bad 0 o d) (hno : ∀ a e0, Ps.PE ts (L + 2) o (m + 1) = .bad a e0 → e0 ≠ 0 ∧ ∃ m, Rsr w4 g ts m a e0 o d)
    (hF : Ps.PC ts (L + 1) o x m = (Ps.PE ts (L + 2) o (m + 1)).bind fun r k' => Ps.PC ts (L + 1) o (.mk op 0 [] [x, r]) k') (hM : ∀ x' m', Ps.R.ok x m = .ok x' m' → M0 = ts.length - m' + 2)
    (W : World) (hWd : W = (set4 w4 lb (.int .i64 (op : Int)) (.int .i64 0) (.string ⟨#[]⟩) (.slice (some ⟨w4.heap.size, 0, none⟩) 2 2)).alloc (.cells #[.int .i64 f.op, .int .i64 f.num, .string ⟨f.name.toArray⟩, .slice f.A f.n f.c, .int .i64 fr.op, .int .i64 fr.num, .string ⟨fr.name.toArray⟩, .slice fr.A fr.n fr.c] 25)) :
    BnIn w g lb b b' ts L bad o d k (.ok x m) M0 (.bool true) (.int .i64 ((j : Int) + 1)) W := by
  have hS := bn_round (op := op) hg hlb h (grown_trans h2 (grown_below (Below.refl _ _).drew)) hG hok hno hF (fun y a hy => ⟨Ps.PE_ends (by omega) hy, by have := Ps.PE_moves hy; omega⟩) W hWd
  clear hWd
  refine ⟨true, j + 1, _, _, rfl, rfl, hj, hS, fun h => (by cases h), fun _ => ?_⟩
  rw [hM x m rfl]
  cases hR : Ps.PE ts (L + 2) o (m + 1) with
  | ok y a =>
    have hP := (hS.ok (.mk op 0 [] [x, y]) a (by rw [hR]; rfl)).2.1
    have h1 := Ps.PE_moves hR
    have h3 := hP.inT
    rw [rmeas_ok hP]
    omega
  | bad a e0 =>
    obtain ⟨h1, m', hP⟩ := hS.no a e0 (by rw [hR]; rfl)
    rw [rmeas_bad hP h1]
    omega

set_option maxRecDepth 100000 in
set_option maxHeartbeats 8000000 in
theorem rbinary_of (w : World) (g : Nat) (ts : List Tk.Tok) (L k bad o d : Nat) (hlast : Ps.kindAt ts (ts.length - 1) = 5) (hW : WOk ts) (hL : L < 5) (hP : Rsr w g ts k bad 0 o d)
    (hB : ∀ w', Rsr w' g ts k bad 0 o d → Calls Tryd.prog 109 #[.pointer (some ⟨g, 0, none⟩), .int .i64 ((L : Int) + 1)] w' (RfPost w' g ts bad o d (Ps.PE ts (L + 2) o k)))
    (hN : ∀ k', k < k' → k' < ts.length → ∀ w', Rsr w' g ts k' bad 0 o d → Calls Tryd.prog 109 #[.pointer (some ⟨g, 0, none⟩), .int .i64 ((L : Int) + 1)] w' (RfPost w' g ts bad o d (Ps.PE ts (L + 2) o k'))) :
    Calls Tryd.prog 109 #[.pointer (some ⟨g, 0, none⟩), .int .i64 (L : Int)] w (RfPost w g ts bad o d (Ps.PE ts (L + 1) o k)) := by
  have HP := Lib.hid (hP.alloc (.cells #[.int .i64 0, .int .i64 0, .string ⟨#[]⟩, .slice none 0 0] 25))
  have hgw := hP.lt
  have hmx : ts.length ≤ 1000000 := by obtain ⟨A, c, hb, hl, ho, hn, _⟩ := hP; exact hn
  have HB := Lib.hid hB
  have HN := Lib.hid hN
  have HL := Lib.hid hlast
  have HW := Lib.hid hW
  have d4 : decide ((L : Int) > 4) = false := decide_eq_false (by omega)
  clear hP hB hN hlast hW
  go_enter Tryd.func109, Tryd.ntmps109
  go_wp2_with fail
  refine (HB.out _ HP.out).mono ?_
  rintro e w1 ⟨f, rfl, hG1, hok1, hno1⟩
  unfold EF.val
  have hlbw : w.heap.size < w1.heap.size := by have := hG1.size; simp at this; omega
  have HG1 := Lib.hid hG1
  have HOK1 := Lib.hid hok1
  have HNO1 := Lib.hid hno1
  clear hG1 hok1 hno1
  go_wp2_with fail
  refine (signs_new L hL _).mono ?_
  rintro e w2 ⟨b, b', rfl, hbb, hbb', hS, hI, hb2⟩
  have HR0 : Hid (BnS w g w1.heap.size b b' ts L bad o d k (Ps.PE ts (L + 2) o k) f w2) := bn_start hgw rfl HG1.out HOK1.out HNO1.out _ rfl hbb hbb' hS hI hb2
  have hlen := lev_len (L : Int)
  clear HG1 HOK1 HNO1 hS hI hb2 hbb hbb' HP HB d4
  generalize hlbd : w1.heap.size = lb at *
  clear hlbd
  rw [hlen.2]
  have HLN : Hid ((sgO (L : Int)).length = (sgS (L : Int)).length) := hlen.2
  have hl6 := hlen.1
  clear hlen
  obtain ⟨n, hn⟩ : ∃ n, n = (sgS (L : Int)).length := ⟨_, rfl⟩
  rw [← hn] at hl6 ⊢
  have HNN := Lib.hid hn
  clear hn
  go_wp2_with fail
  go_loopw [8, 9] (fun ag _ wr => Hid (BnOut w g lb b b' ts L bad o d k ag wr)) (fun ag _ wr => if agOf ag then rmeas ts g wr else 0)
  case atStart => exact ⟨true, _, _, rfl, HR0.out, fun h => by cases h⟩
  case round =>
    obtain ⟨A, R, f', rfl, hSt, hdone⟩ := hrel.out
    clear hrel HR0
    cases A with
    | false =>
      have hbk := hSt.blk
      obtain ⟨l0, l1, l2, l3, -, -, -, -, hll⟩ := blk4 hbk
      obtain ⟨r0, r1, r2, r3, z0, z1, z2, z3, hrl⟩ := blk4 hSt.blk0
      have HSt := Lib.hid hSt
      have HD := Lib.hid (hdone rfl)
      have hn2 : lb ≠ w.heap.size := by omega
      clear hSt hdone hbk
      go_wp2_with fail
      refine bodyPost_ret (v := f'.val) (by simp [EF.val, results, Tryd.results109, go_sem, r0, r1, r2, r3]) rfl ?_
      exact bn_end hgw HSt.out HD.out _ _ _ _ _ rfl
    | true =>
      clear hdone
      have HSt := Lib.hid hSt
      obtain ⟨M0, hM0⟩ : ∃ M0, M0 = rmeas ts g wr := ⟨_, rfl⟩
      have HM1 : Hid (1 ≤ M0) := by rw [hM0]; exact rmeas_pos ts g wr
      have HMK : Hid (∀ x m, R = .ok x m → M0 = ts.length - m + 2) := fun x m h => by rw [hM0]; exact rmeas_ok (hSt.ok x m h).2.1
      have HMM := Lib.hid hM0
      clear hSt hM0
      have hwr0 : w.heap.size < wr.heap.size := lt_of_block HSt.out.blk0
      go_wp2_with fail
      go_loopw [8, 9] (fun ag i wr => Hid (BnIn w g lb b b' ts L bad o d k R M0 ag i wr)) (fun ag i _ => if agOf ag then 0 else n + 1 - (intOf i).toNat)
      case atStart => exact ⟨false, 0, R, f', rfl, rfl, Nat.zero_le _, HSt.out, fun _ => ⟨rfl, fun _ _ _ q _ h => absurd h (by omega)⟩, fun h => by cases h⟩
      case round =>
        obtain ⟨A, j, R', f2, rfl, rfl, hj, hSi, hFa, hTr⟩ := hrel.out
        clear hrel
        rw [← HNN.out] at hj
        cases A with
        | true =>
          have HSi := Lib.hid hSi
          have HTr := Lib.hid (hTr rfl)
          clear hSi hTr hFa
          by_cases hlt : j < n
          · have dj : decide ((j : Int) < (n : Int)) = true := decide_eq_true (by omega)
            go_wp2_with fail
            go_roundw
            case rel => exact ⟨true, R', f2, rfl, HSi.out, fun h => by cases h⟩
            case measure =>
              have h1 := HTr.out
              have h2 := HMM.out
              simp only [agOf, if_true]
              omega
          · have dj : decide ((j : Int) < (n : Int)) = false := decide_eq_false (by omega)
            go_wp2_with fail
            go_roundw
            case rel => exact ⟨true, R', f2, rfl, HSi.out, fun h => by cases h⟩
            case measure =>
              have h1 := HTr.out
              have h2 := HMM.out
              simp only [agOf, if_true]
              omega
        | false =>
          obtain ⟨hRR, hno⟩ := hFa rfl
          subst hRR
          clear hTr hFa
          have HNO := Lib.hid hno
          clear hno
          by_cases hlt : j < n
          · have dj : decide ((j : Int) < (n : Int)) = true := decide_eq_true (by omega)
            obtain ⟨m, a, e, hPm, hcase⟩ := hSi.here
            have hjs : j < (sgS (L : Int)).length := by rw [← HNN.out]; exact hlt
            obtain ⟨bs, off, hA, hcell⟩ := hSi.sg.str j hjs
            injection hA with hA
            injection hA with e1 e2
            subst e1 e2
            rw [Nat.zero_add] at hcell
            obtain ⟨op, hop, hbop, hstr, hmem, hne⟩ := lev_sg L j hL hjs
            obtain ⟨sj, hsj⟩ : ∃ sj, sj = (sgS (L : Int))[j] := ⟨_, rfl⟩
            rw [← hsj] at hcell hbop hmem hne
            have HSJ := Lib.hid hsj
            have HPm := Lib.hid hPm
            have HCA := Lib.hid hcase
            have HSi := Lib.hid hSi
            have HOP := Lib.hid hop
            have HBO := Lib.hid hbop
            have HST := Lib.hid hstr
            have HME := Lib.hid hmem
            have HNE := Lib.hid hne
            have i0 : (0 : Int) ≤ (j : Int) := by omega
            have i1 : (j : Int) < (n : Int) := by omega
            clear hPm hcase hSi hop hbop hstr hmem hne hsj
            go_wp2_with fail
            refine (rtake_any wr g ts m a e o d sj HL.out HPm.out).mono ?_
            rintro x w3 ⟨rfl, hP3, hG3⟩
            have HP3 := Lib.hid hP3
            have HG3 := Lib.hid hG3
            clear hP3 hG3 hcell
            by_cases hI : isB ts m e sj = true
            · have he0 := isB_e hI
              subst he0
              have hk1 : m + 1 < ts.length := Ps.next_in HL.out HPm.out.inT (isB_kind hI)
              have hP4 := HP3.out
              rw [takeK_T hI] at hP4
              have hsg : Ps.sgn ts m = sj := by
                have h2 := hI
                rw [isB_sgn HPm.out.inT HW.out HME.out HNE.out] at h2
                simpa using h2
              obtain ⟨x, hRx, hax⟩ : ∃ x, R' = .ok x m ∧ a = bad := by
                rcases HCA.out with ⟨x, h1, h2, _⟩ | ⟨_, h1⟩
                · exact ⟨x, h1, h2⟩
                · exact absurd rfl h1
              subst hRx hax
              have hmk : k < m + 1 := by have := (HSi.out.ok x m rfl).2.2.2; omega
              have hblk : Blk w3 lb f2 := (HG3.out.block lb (lt_of_block HSi.out.blk) (fun h => by injection h with h; omega)).trans HSi.out.blk
              obtain ⟨l0, l1, l2, l3, y0, y1, y2, y3, hll⟩ := blk4 hblk
              have hjo : j < (sgO (L : Int)).length := by rw [HLN.out]; rw [← HNN.out]; exact hlt
              obtain ⟨bo, offo, hA, hcello⟩ := HSi.out.sg.int j hjo
              injection hA with hA
              injection hA with e1 e2
              subst e1 e2
              have hopj : (sgO (L : Int))[j] = (op : Int) := by
                have := HOP.out
                rw [List.getElem?_eq_getElem hjo] at this
                injection this
              rw [Nat.zero_add, hopj] at hcello
              have hb'g : b' ≠ g := by have := HSi.out.sg.hb'; omega
              have hb'l : b' ≠ lb := HSi.out.sg.nb'
              have hb'w : b' < wr.heap.size := World.block_lt_of_cell? _ _ hcello
              have co : w3.cell? ⟨b', j, none⟩ = some (.int .i64 (op : Int)) := (World.cell?_of_block (HG3.out.block b' hb'w (fun h => by injection h with h; omega))).trans hcello
              have HP4 := Lib.hid hP4
              have HSG := Lib.hid hsg
              have HF : Hid (Ps.PC ts (L + 1) o x m = (Ps.PE ts (L + 2) o (m + 1)).bind fun r k' => Ps.PC ts (L + 1) o (.mk op 0 [] [x, r]) k') := by
                have hb := HBO.out
                have h1 := Ps.PC_go ts (L + 1) o x m (by omega) (by rw [hsg, hb, HST.out]; omega)
                rw [hsg, hb, HST.out] at h1
                exact h1
              have hwL : IntKind.i64.wrap ((L : Int) + 1) = (L : Int) + 1 := IntWalk.i64_in _ (by omega)
              have hlg : lb ≠ g := by omega
              have HI := Lib.hid hI
              have HBK := Lib.hid hblk
              rw [hI]
              clear hI hP4 hsg hblk hopj hcello hjo
              go_wp2_with fail
              go_region_law (first | (go_simp; go_at_call 109; refine (HN.out (m + 1) hmk hk1 w3.drew (HP4.out.keep fun _ _ => rfl)).mono ?_; rintro e w4 ⟨fr, rfl, hG4, hok4, hno4⟩; unfold EF.val; have r0 := (World.cell?_of_block (a := ⟨b', j, none⟩) (hG4.block b' (World.block_lt_of_cell? _ _ co) (fun h => hb'g (by injection h)))).trans co; obtain ⟨r1, r2, r3, r4, s0, s1, s2, s3, hl4⟩ := blk4 ((hG4.block lb hll (fun h => hlg (by injection h))).trans HBK.out); have hl4n : lb ≠ w4.heap.size := (by omega); have r5 : ∀ o : Obj, (w4.alloc o).cell? ⟨b', j, none⟩ = some (.int .i64 (op : Int)) := (fun o => (World.cell?_of_block (a := ⟨b', j, none⟩) (Below.heap_alloc w4 o b' (World.block_lt_of_cell? _ _ r0))).trans r0); have HG4 := Lib.hid hG4; have HOK4 := Lib.hid hok4; have HNO4 := Lib.hid hno4; clear hG4 hok4 hno4))
              all_goals
                clear r0 r1 r2 r3 r4 r5 s0 s1 s2 s3 co l0 l1 l2 l3 y0 y1 y2 y3 hwL
                go_wp2_with fail
                go_roundw
                case rel => exact bn_next hgw hlbw hjs HPm.out.inT hmk HSi.out HG3.out HG4.out HOK4.out HNO4.out HF.out HMK.out _ rfl
                case measure =>
                  simp [agOf, intOf]
                  omega
            · have hI' : isB ts m e sj = false := by simpa using hI
              have HI := Lib.hid hI'
              clear hI
              rw [hI']
              clear hI'
              go_wp2_with fail
              go_roundw
              case rel =>
                refine ⟨false, j + 1, R', f2, rfl, by go_num, by rw [← HNN.out]; omega, bn_skip hgw hlbw HSi.out HPm.out HCA.out HI.out HP3.out HG3.out, fun _ => ⟨rfl, ?_⟩, fun h => by cases h⟩
                intro x m' hR q hq hqj
                rcases Nat.lt_or_ge q j with h1 | h1
                · exact HNO.out x m' hR q hq h1
                · have hqe : q = j := by omega
                  subst hqe
                  rcases HCA.out with ⟨x', h1, rfl, rfl⟩ | ⟨h1, _⟩
                  · rw [hR] at h1
                    injection h1 with _ h1
                    subst h1
                    have h2 := HI.out
                    rw [isB_sgn HPm.out.inT HW.out HME.out HNE.out] at h2
                    rw [← HSJ.out]
                    simpa using h2
                  · rw [hR] at h1
                    cases h1
              case measure =>
                simp [agOf, intOf]
                omega
          · have dj : decide ((j : Int) < (n : Int)) = false := decide_eq_false (by omega)
            have HSi := Lib.hid hSi
            clear hSi
            go_wp2_with fail
            go_roundw
            case rel =>
              refine ⟨false, R', f2, rfl, HSi.out, fun _ x m hR => ?_⟩
              exact bn_done hL (fun q hq => HNO.out x m hR q hq (by rw [← HNN.out] at hq; omega)) (HSi.out.ok x m hR).2.2.1
            case measure =>
              have h1 := HM1.out
              have h2 := HMM.out
              simp only [agOf, if_true]
              simp
              omega
end Go.Proofs.YtjjooekkieddbaaDoor

namespace Go.Proofs.YtjjooekkieddbaaDoor
open Go.RowKit

set_option maxRecDepth 100000 in
set_option maxHeartbeats 2000000 in
/-- the highest level is the operand -/
theorem rbinary_top (w : World) (g : Nat) (ts : List Tk.Tok) (k bad o d : Nat) (hP : Rsr w g ts k bad 0 o d)
    (hO : ∀ w', Rsr w' g ts k bad 0 o d → Calls Tryd.prog 118 #[.pointer (some ⟨g, 0, none⟩)] w' (RfPost w' g ts bad o d (Ps.PO ts o k))) :
    Calls Tryd.prog 109 #[.pointer (some ⟨g, 0, none⟩), .int .i64 5] w (RfPost w g ts bad o d (Ps.PE ts 6 o k)) := by
  have HP := Lib.hid (hP.alloc (.cells #[.int .i64 0, .int .i64 0, .string ⟨#[]⟩, .slice none 0 0] 25))
  have hgw := hP.lt
  have HO := Lib.hid hO
  rw [Ps.PE_six]
  clear hP hO
  go_enter Tryd.func109, Tryd.ntmps109
  go_wp2_with fail
  refine (HO.out _ HP.out).mono ?_
  rintro e w1 ⟨f, rfl, hG1, hok1, hno1⟩
  unfold EF.val
  have hz : w1.heap[w.heap.size]? = some (.cells #[.int .i64 0, .int .i64 0, .string ⟨#[]⟩, .slice none 0 0] 25 (0, 0)) := (hG1.block _ (by simp) (fun e => by injection e with e; omega)).trans (heap_alloc_new w _)
  obtain ⟨q0, q1, q2, q3, f0, f1, f2, f3, hz0⟩ := blk4 hz
  have HG1 := Lib.hid (grown_of_alloc hG1)
  have HOK := Lib.hid hok1
  have HNO := Lib.hid hno1
  clear hz hG1 hok1 hno1
  go_wp2_with fail
  refine bodyPost_ret (v := f.val) (by simp [EF.val, results, Tryd.results109, go_sem, q0, q1, q2, q3]) rfl ?_
  obtain ⟨C, hC⟩ : ∃ C, C = set4 w1 w.heap.size (.int .i64 f.op) (.int .i64 f.num) (.string ⟨f.name.toArray⟩) (.slice f.A f.n f.c) := ⟨_, rfl⟩
  have sC : C.heap.size = w1.heap.size := by rw [hC]; exact set4_size _ _ _ _ _ _
  have mC : C.os = w1.os ∧ C.tape = w1.tape ∧ C.output = w1.output := by rw [hC]; exact set4_same _ _ _ _ _ _
  have kC : ∀ c, c ≠ w.heap.size → C.heap[c]? = w1.heap[c]? := fun c hne => by rw [hC]; exact set4_keep w1 _ _ _ _ _ c hne
  show RfPost w g ts bad o d (Ps.PO ts o k) (.returned f.val) (set4 w1 w.heap.size (.int .i64 f.op) (.int .i64 f.num) (.string ⟨f.name.toArray⟩) (.slice f.A f.n f.c))
  rw [← hC]
  clear hC
  have hG := HG1.out
  have hR : ∀ {a q e0 : Nat}, Rsr w1 g ts a q e0 o d → Rsr C g ts a q e0 o d := fun hP => hP.keep fun c hc => kC c (by omega)
  refine ⟨f, rfl, ⟨mC.1.trans hG.os, mC.2.1.trans hG.tape, mC.2.2.trans hG.output, by rw [sC]; exact hG.size, fun c hlt hne => (kC c (Nat.ne_of_lt hlt)).trans (hG.block c hlt hne)⟩, ?_, ?_⟩
  · intro x m hx
    obtain ⟨hE, hP⟩ := HOK.out x m hx
    exact ⟨(hE.keep fun c hc _ => kC c (by simp at hc; omega)).more fun c hc => by simp at hc; omega, hR hP⟩
  · intro a e0 hx
    obtain ⟨h1, m, hP⟩ := HNO.out a e0 hx
    exact ⟨h1, m, hR hP⟩

/-- the parser, whatever it is asked -/
theorem rparser_fuel (g : Nat) (ts : List Tk.Tok) (hlast : Ps.kindAt ts (ts.length - 1) = 5) (hW : WOk ts) (bad d : Nat) (N : Nat) : ∀ (k o : Nat), ts.length - k < N → o ≤ 24 →
    (∀ L : Nat, L ≤ 5 → ∀ w, Rsr w g ts k bad 0 o d → Calls Tryd.prog 109 #[.pointer (some ⟨g, 0, none⟩), .int .i64 (L : Int)] w (RfPost w g ts bad o d (Ps.PE ts (L + 1) o k))) ∧
    (∀ w, Rsr w g ts k bad 0 o d → Calls Tryd.prog 118 #[.pointer (some ⟨g, 0, none⟩)] w (RfPost w g ts bad o d (Ps.PO ts o k))) := by
  induction N with
  | zero => intro k o h; omega
  | succ N ih =>
    intro k o hN ho
    have hO : ∀ w, Rsr w g ts k bad 0 o d → Calls Tryd.prog 118 #[.pointer (some ⟨g, 0, none⟩)] w (RfPost w g ts bad o d (Ps.PO ts o k)) := fun w hP =>
      roperand_of w g ts k bad o d hlast hW ho hP (fun hk ho' w' hP' => (ih (k + 1) (o + 1) (by omega) (by omega)).1 0 (by omega) w' hP') (fun hk ho' w' hP' => (ih (k + 1) (o + 1) (by omega) (by omega)).2 w' hP')
    refine ⟨?_, hO⟩
    have hB : ∀ J L : Nat, L + J = 5 → ∀ w, Rsr w g ts k bad 0 o d → Calls Tryd.prog 109 #[.pointer (some ⟨g, 0, none⟩), .int .i64 (L : Int)] w (RfPost w g ts bad o d (Ps.PE ts (L + 1) o k)) := by
      intro J
      induction J with
      | zero =>
        intro L hL w hP
        have : L = 5 := by omega
        subst this
        exact rbinary_top w g ts k bad o d hP hO
      | succ J ihJ =>
        intro L hL w hP
        refine rbinary_of w g ts L k bad o d hlast hW (by omega) hP ?_ ?_
        · intro w' hP'
          exact ihJ (L + 1) (by omega) w' hP'
        · intro k' hk hk' w' hP'
          exact (ih k' o (by omega) ho).1 (L + 1) (by omega) w' hP'
    intro L hL w hP
    exact hB (5 - L) L (by omega) w hP

/-- a new parser -/
theorem rsr_new (w : World) (ts : List Tk.Tok) (k : Nat) (A : Option Addr) (c : Nat) (hT : TokS w A ts) (hk : k < ts.length) (hn : ts.length ≤ 1000000) :
    Rsr (w.alloc (.cells #[.slice A ts.length c, .int .i64 (k : Int), .int .i64 0, .int .i64 0, .int .i64 0, .int .i64 0] 87)) w.heap.size ts k 0 0 0 0 := by
  refine ⟨A, c, heap_alloc_new w _, hk, by omega, hn, fun i hi => ?_⟩
  obtain ⟨b, e, h0, h1, h2, h3⟩ := hT i hi
  have hbl : b < w.heap.size := World.block_lt_of_cell? _ _ h0
  have e1 : ∀ o', (w.alloc (.cells #[.slice A ts.length c, .int .i64 (k : Int), .int .i64 0, .int .i64 0, .int .i64 0, .int .i64 0] 87)).cell? ⟨b, o', none⟩ = w.cell? ⟨b, o', none⟩ := fun o' => World.cell?_of_block (Below.heap_alloc w _ b hbl)
  exact ⟨b, e, hbl, (e1 _).trans h0, (e1 _).trans h1, (e1 _).trans h2, (e1 _).trans h3⟩
theorem TokS.lastK {w : World} {A : Option Addr} {ts : List Tk.Tok} (hT : TokS w A ts) : ts ≠ [] → ∃ b, A = some ⟨b, 0, none⟩ ∧ w.cell? ⟨b, (ts.length - 1) * 4, none⟩ = some (.int .i64 (Ps.kindAt ts (ts.length - 1) : Int)) := by
  intro h
  have hl : ts.length - 1 < ts.length := by
    have : ts.length ≠ 0 := fun h' => h (List.length_eq_zero_iff.1 h')
    omega
  obtain ⟨b, e, h0, _⟩ := hT (ts.length - 1) hl
  refine ⟨b, e, ?_⟩
  rw [h0]
  unfold Ps.kindAt
  rw [List.getElem?_eq_getElem hl]
theorem parseV_ok {ts : List Tk.Tok} {k : Nat} (h : openB ts (k : Int) = true) : parseV ts (k : Int) = ((Ps.PE ts 1 0 k).ex, ((Ps.PE ts 1 0 k).at_ : Int), (Ps.PE ts 1 0 k).err) := by
  unfold openB at h
  simp at h
  unfold parseV
  rw [if_pos ⟨by omega, by omega, h.2⟩, Int.toNat_natCast]
theorem parseV_no {ts : List Tk.Tok} {a : Int} (h : openB ts a = false) : parseV ts a = (.mk 0 0 [] [], a, 4) := by
  unfold parseV
  rw [if_neg]
  intro h'
  unfold openB at h
  simp [h'.1, h'.2.2] at h
  omega
theorem below_set4 {w w1 : World} (h : Below w.heap.size w w1) (u0 u1 u2 u3 : Value) : Below w.heap.size w (set4 w1 w.heap.size u0 u1 u2 u3) := by
  obtain ⟨a1, a2, a3⟩ := set4_os w1 w.heap.size u0 u1 u2 u3
  exact ⟨a1.trans h.os, a2.trans h.tape, a3.trans h.output, by rw [set4_size]; exact h.size, fun b hb => (set4_keep w1 w.heap.size u0 u1 u2 u3 b (by omega)).trans (h.block b hb)⟩
/-- what a new parser leaves -/
theorem below_new2 {w W w1 : World} {P : Obj} (hb : Below w.heap.size w W) (hG : (W.alloc P).grownBy w1 (some W.heap.size)) : Below w.heap.size w w1 := by
  have hs := hb.size
  refine ⟨hG.os.trans hb.os, hG.tape.trans hb.tape, hG.output.trans hb.output, by have := hG.size; simp at this; omega, fun c hc => ?_⟩
  exact (hG.block c (by simp; omega) (fun e => by injection e with e; omega)).trans ((Below.heap_alloc W P c (by omega)).trans (hb.block c hc))

end Go.Proofs.YtjjooekkieddbaaDoor

namespace Go.Proofs.YtjjooekkieddbaaDoor
open Go.RowKit

set_option maxRecDepth 100000 in
set_option maxHeartbeats 4000000 in
theorem sameE_fuel (N : Nat) : ∀ (E : Ex) (f f' : EF) (w : World), SizeOf.sizeOf E < N → ExB E → ExM w (fun _ => True) E f → ExM w (fun _ => True) E f' →
    Calls Tryd.prog 82 #[.agg #[.int .i64 f.op, .int .i64 f.num, .string ⟨f.name.toArray⟩, .slice f.A f.n f.c], .agg #[.int .i64 f'.op, .int .i64 f'.num, .string ⟨f'.name.toArray⟩, .slice f'.A f'.n f'.c]] w fun e w' => e = .returned (.bool true) ∧ Below w.heap.size w w' := by
  induction N with
  | zero => intro E f f' w h; omega
  | succ N ih =>
    intro E f f' w hN hok hM hM'
    have IH := Lib.hid ih
    clear ih
    cases hM with
    | mk op num name args A c F hc hs =>
    cases hM' with
    | mk _ _ _ _ A' c' F' hc' hs' =>
    have HC := Lib.hid hc
    have HS := Lib.hid hs
    have HC' := Lib.hid hc'
    have HS' := Lib.hid hs'
    have HSZ := Lib.hid (fun i h => size_arg op num name args i h)
    have hal : args.length ≤ 1000000 := by
      cases hok with
      | mk _ _ _ _ hl hn hs => exact hl
    have HIO : Hid (∀ i (h : i < args.length), ExB args[i]) := by
      cases hok with
      | mk _ _ _ _ hl hn hs => exact hs
    clear hok hc hs hc' hs'
    have n0 := nF (show op = op from rfl)
    have n1 := nF (show num = num from rfl)
    have n2 : (name == name) = true := beq_self_eq_true name
    have n3 := nF (show ((args.length : Nat) : Int) = args.length from rfl)
    dsimp only
    go_enter Tryd.func82, Tryd.ntmps82
    go_wp2_with fail
    clear n0 n1 n2 n3
    go_loopw [5] (fun i wr => ∃ k : Nat, k ≤ args.length ∧ i = .int .i64 k ∧ Below ((w.alloc (.cells #[.int .i64 op, .int .i64 num, .string ⟨name.toArray⟩, .slice A args.length c] 25)).alloc (.cells #[.int .i64 op, .int .i64 num, .string ⟨name.toArray⟩, .slice A' args.length c'] 25)).heap.size ((w.alloc (.cells #[.int .i64 op, .int .i64 num, .string ⟨name.toArray⟩, .slice A args.length c] 25)).alloc (.cells #[.int .i64 op, .int .i64 num, .string ⟨name.toArray⟩, .slice A' args.length c'] 25)) wr)
      (fun i _ => args.length - (intOf i).toNat)
    case atStart => exact ⟨0, Nat.zero_le _, rfl, Below.refl _ _⟩
    case round =>
      obtain ⟨k, hk, rfl, hbel⟩ := hrel
      obtain ⟨hr0, hr1, hkeep, hsz⟩ := two_new hbel
      obtain ⟨q0, q1, q2, q3, f0, f1, f2, f3, hz⟩ := blk4 hr0
      obtain ⟨p0, p1, p2, p3, g0, g1, g2, g3, hz'⟩ := blk4 hr1
      have HBE := Lib.hid hbel
      have HBW : Hid (Below w.heap.size w wr) := ⟨hbel.os, hbel.tape, hbel.output, by omega, hkeep⟩
      clear hbel f0 f1 f2 f3 g0 g1 g2 g3 hr0 hr1 hkeep q0 q1 q2 p0 p1 p2
      by_cases hlt : k < args.length
      · obtain ⟨b, off, rfl, -, hat⟩ := HC.out k hlt
        obtain ⟨b', off', rfl, -, hat'⟩ := HC'.out k hlt
        have hat1 := hat.keep (HBW.out.block b hat.lt)
        have hat2 := hat'.keep (HBW.out.block b' hat'.lt)
        obtain ⟨a0, a1, a2, a3⟩ := hat1
        obtain ⟨e0, e1, e2, e3⟩ := hat2
        have HCH := Lib.hid ((HS.out k hlt).later HBW.out)
        have HCH' := Lib.hid ((HS'.out k hlt).later HBW.out)
        have HSK := Lib.hid (show SizeOf.sizeOf args[k] < N by have := HSZ.out k hlt; omega)
        have i0 : (0 : Int) ≤ (k : Int) := by omega
        have i1 : (k : Int) < (args.length : Int) := by omega
        clear hat hat'
        go_wp2_with fail
        go_region_held3 (fun w' => w'.cell? ⟨w.heap.size, 3, none⟩ = some (.slice (some ⟨b, off, none⟩) args.length c) ∧ w'.cell? ⟨w.heap.size + 1, 3, none⟩ = some (.slice (some ⟨b', off', none⟩) args.length c') ∧
            w'.cell? ⟨b, off + k * 4, none⟩ = some (.int .i64 (F k).op) ∧ w'.cell? ⟨b, off + k * 4 + 1, none⟩ = some (.int .i64 (F k).num) ∧ w'.cell? ⟨b, off + k * 4 + 2, none⟩ = some (.string ⟨(F k).name.toArray⟩) ∧ w'.cell? ⟨b, off + k * 4 + 3, none⟩ = some (.slice (F k).A (F k).n (F k).c) ∧
            w'.cell? ⟨b', off' + k * 4, none⟩ = some (.int .i64 (F' k).op) ∧ w'.cell? ⟨b', off' + k * 4 + 1, none⟩ = some (.int .i64 (F' k).num) ∧ w'.cell? ⟨b', off' + k * 4 + 2, none⟩ = some (.string ⟨(F' k).name.toArray⟩) ∧ w'.cell? ⟨b', off' + k * 4 + 3, none⟩ = some (.slice (F' k).A (F' k).n (F' k).c))
          (go_keep)
          (first
            | (go_at_call 82; obtain ⟨k0, k1, k2, k3, k4, k5, k6, k7, k8, k9⟩ := ‹_ ∧ _ ∧ _ ∧ _ ∧ _ ∧ _ ∧ _ ∧ _ ∧ _ ∧ World.cell? _ ⟨b', off' + k * 4 + 3, none⟩ = _›; refine (IH.out args[k] (F k) (F' k) wr.drew HSK.out (HIO.out k hlt) (HCH.out.keep fun _ _ _ => rfl) (HCH'.out.keep fun _ _ _ => rfl)).mono ?_; rintro e w3 ⟨rfl, hb3⟩; have r0 := cell_later hb3 k0; have r1 := cell_later hb3 k1; have r2 := cell_later hb3 k2; have r3 := cell_later hb3 k3; have r4 := cell_later hb3 k4; have r5 := cell_later hb3 k5; have r6 := cell_later hb3 k6; have r7 := cell_later hb3 k7; have r8 := cell_later hb3 k8; have r9 := cell_later hb3 k9; have HB3 := Lib.hid hb3; clear k0 k1 k2 k3 k4 k5 k6 k7 k8 k9 hb3))
        all_goals
          clear r0 r1 r2 r3 r4 r5 r6 r7 r8 r9
          go_wp2_with fail
          go_roundw
          case rel =>
            refine ⟨k + 1, by omega, by go_num, ?_⟩
            exact below_two HBE.out ⟨HB3.out.os, HB3.out.tape, HB3.out.output, HB3.out.size, HB3.out.block⟩
          case measure => simp [intOf]; omega
      · go_wp2_with fail
        go_ret
        exact ⟨rfl, HBW.out⟩
theorem sameE_any (E : Ex) (f f' : EF) (w : World) (hB : ExB E) (hM : ExM w (fun _ => True) E f) (hM' : ExM w (fun _ => True) E f') :
    Calls Tryd.prog 82 #[.agg #[.int .i64 f.op, .int .i64 f.num, .string ⟨f.name.toArray⟩, .slice f.A f.n f.c], .agg #[.int .i64 f'.op, .int .i64 f'.num, .string ⟨f'.name.toArray⟩, .slice f'.A f'.n f'.c]] w fun e w' => e = .returned (.bool true) ∧ Below w.heap.size w w' :=
  sameE_fuel (SizeOf.sizeOf E + 1) E f f' w (Nat.lt_succ_self _) hB hM hM'
end Go.Proofs.YtjjooekkieddbaaDoor
