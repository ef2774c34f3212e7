/- The reference's operand and binary behind an error: they leave the parser as it is. The reference's parser of statements: its state, and its small methods in the words of the plain parser. The reference's parser: expressions, in the words of the plain parser. The reference's references. The reference's arguments. The reference's parameters. -/
import Derived.Test.YtjjooekkieddbaaDoorGRfB
import Derived.Test.YtjjooekkieddbaaDoorGPpD
namespace Go.Proofs.YtjjooekkieddbaaDoor
open Go.RowKit

/-- what a method leaves behind an error -/
def RdPost (w : World) (g : Nat) (ts : List Tk.Tok) (k bad e o d : Nat) (en : Ending) (w' : World) : Prop :=
  ∃ f : EF, en = .returned f.val ∧ w.grownBy w' (some g) ∧ Rsr w' g ts k bad e o d
theorem kindB_dead {ts : List Tk.Tok} {k e K : Nat} (h : e ≠ 0) : kindB ts k e K = false := by simp [kindB, h]
theorem rd_end {w w3 : World} {g : Nat} {ts : List Tk.Tok} {k bad e o d : Nat} (hgw : g < w.heap.size) (hG : w.grownBy w3 (some g)) (hP : Rsr w3 g ts k bad e o d) (v0 v1 v2 v3 : Value) (f : EF) (C : World)
    (hC : C = set4 w3 w.heap.size v0 v1 v2 v3) : RdPost w g ts k bad e o d (.returned f.val) C := by
  have sC : C.heap.size = w3.heap.size := by rw [hC]; exact set4_size _ _ _ _ _ _
  have mC : C.os = w3.os ∧ C.tape = w3.tape ∧ C.output = w3.output := by rw [hC]; exact set4_same _ _ _ _ _ _
  have kC : ∀ b, b ≠ w.heap.size → C.heap[b]? = w3.heap[b]? := fun b hne => by rw [hC]; exact set4_keep w3 _ _ _ _ _ b hne
  clear hC
  have h3 : Rsr C g ts k bad e o d := hP.keep fun b hle => kC b (Nat.ne_of_lt (Nat.lt_of_le_of_lt hle hgw))
  exact ⟨f, rfl, ⟨mC.1.trans hG.os, mC.2.1.trans hG.tape, mC.2.2.trans hG.output, Nat.le_trans hG.size (Nat.le_of_eq sC.symm), fun b hlt hne => (kC b (Nat.ne_of_lt hlt)).trans (hG.block b hlt hne)⟩, h3⟩

set_option maxRecDepth 100000 in
set_option maxHeartbeats 4000000 in
theorem roperand_dead (w : World) (g : Nat) (ts : List Tk.Tok) (k bad e o d : Nat) (he : e ≠ 0) (hP : Rsr w g ts k bad e o d) :
    Calls Tryd.prog 118 #[.pointer (some ⟨g, 0, none⟩)] w (RdPost w g ts k bad e o d) := by
  have HP := Lib.hid hP
  have HK2 := Lib.hid (kindB_dead (ts := ts) (k := k) (K := 2) he)
  have HK1 := Lib.hid (kindB_dead (ts := ts) (k := k) (K := 1) he)
  have Hm := Lib.hid (isB_dead (ts := ts) (k := k) (s := [45]) he)
  have Hn := Lib.hid (isB_dead (ts := ts) (k := k) (s := [33]) he)
  have Hp := Lib.hid (isB_dead (ts := ts) (k := k) (s := [40]) he)
  have HE := Lib.hid he
  have hgw := hP.lt
  clear hP he
  go_enter Tryd.func118, Tryd.ntmps118
  go_wp2_with fail
  refine (rkind_at _ g ts k bad e o d 2 2 rfl ((HP.out.alloc _).alloc _)).mono ?_
  rw [HK2.out]
  rintro x w1 ⟨rfl, hb⟩
  have hP1 := Lib.hid (((HP.out.alloc _).alloc _).later hb)
  obtain ⟨hr0, hr1, -, hsz⟩ := two_new hb
  have hN1 := Lib.hid (And.intro hr0 (And.intro hr1 hsz))
  have hG1 := Lib.hid (grown_new2 (g := g) hb)
  clear hr0 hr1 hsz hb
  go_wp2_with fail
  refine (rkind_at _ g ts k bad e o d 1 1 rfl hP1.out).mono ?_
  rw [HK1.out]
  rintro x w2 ⟨rfl, hb2⟩
  have hP2 := Lib.hid (hP1.out.later hb2)
  have hN2 := Lib.hid (rf_two_later hgw hN1.out (grown_below (g := g) hb2))
  have hG2 := Lib.hid (grown_trans hG1.out (grown_below (g := g) hb2))
  clear hb2 hP1 hN1 hG1
  go_wp2_with fail
  refine (ris_any _ g ts k bad e o d [45] hP2.out).mono ?_
  rw [Hm.out]
  rintro x w3 ⟨rfl, hb3⟩
  have hP3 := Lib.hid (hP2.out.later hb3)
  have hN3 := Lib.hid (rf_two_later hgw hN2.out (grown_below (g := g) hb3))
  have hG3 := Lib.hid (grown_trans hG2.out (grown_below (g := g) hb3))
  clear hb3 hP2 hN2 hG2
  go_wp2_with fail
  refine (ris_any _ g ts k bad e o d [33] hP3.out).mono ?_
  rw [Hn.out]
  rintro x w4 ⟨rfl, hb4⟩
  have hP4 := Lib.hid (hP3.out.later hb4)
  have hN4 := Lib.hid (rf_two_later hgw hN3.out (grown_below (g := g) hb4))
  have hG4 := Lib.hid (grown_trans hG3.out (grown_below (g := g) hb4))
  clear hb4 hP3 hN3 hG3
  go_wp2_with fail
  refine (ris_any _ g ts k bad e o d [40] hP4.out).mono ?_
  rw [Hp.out]
  rintro x w5 ⟨rfl, hb5⟩
  have hP5 := Lib.hid (hP4.out.later hb5)
  have hN5 := Lib.hid (rf_two_later hgw hN4.out (grown_below (g := g) hb5))
  have hG5 := Lib.hid (grown_trans hG4.out (grown_below (g := g) hb5))
  clear hb5 hP4 hN4 hG4
  go_wp2_with fail
  refine (rfail_any _ g ts k bad e o d 4 4 rfl hP5.out).mono ?_
  rintro x w6 ⟨rfl, hP6, hG6⟩
  rw [if_neg HE.out, if_neg HE.out] at hP6
  obtain ⟨hr0, hr1, hsz⟩ := rf_two_later hgw hN5.out hG6
  have HG := Lib.hid (grown_trans hG5.out hG6)
  have HP6 := Lib.hid hP6
  clear hP6 hG6 hG5 hP5 hN5
  obtain ⟨q0, q1, q2, q3, f0, f1, f2, f3, hz0⟩ := blk4 hr0
  obtain ⟨p0, p1, p2, p3, g0, g1, g2, g3, hz1⟩ := blk4 hr1
  clear hr0 hr1
  go_wp2_with fail
  refine bodyPost_ret (v := .agg #[.int .i64 0, .int .i64 0, .string ⟨#[]⟩, .slice none 0 0]) (by simp [results, Tryd.results118, go_sem, q0, q1, q2, q3]) rfl ?_
  exact rd_end hgw HG.out HP6.out _ _ _ _ ⟨0, 0, [], none, 0, 0⟩ _ rfl

/-- the loop behind an error -/
structure BdS (w : World) (g lb b b' : Nat) (ts : List Tk.Tok) (L k bad e o d : Nat) (f : EF) (wr : World) : Prop where
  blk : Blk wr lb f
  blk0 : Blk0 wr w.heap.size
  grown : w.grownBy wr (some g)
  sg : SgM w wr g lb b b' L
  psr : Rsr wr g ts k bad e o d
theorem BdS.later {w wr W : World} {g lb b b' : Nat} {ts : List Tk.Tok} {L k bad e o d : Nat} {f : EF} (h : BdS w g lb b b' ts L k bad e o d f wr) (hg : g < w.heap.size) (hlb : w.heap.size < lb) (hG : wr.grownBy W (some g)) (hP : Rsr W g ts k bad e o d) : BdS w g lb b b' ts L k bad e o d f W := by
  have hk : ∀ c, c < wr.heap.size → c ≠ g → W.heap[c]? = wr.heap[c]? := fun c hc hne => hG.block c hc (fun e => hne (by injection e))
  have hl := lt_of_block h.blk
  have hz := lt_of_block h.blk0
  exact ⟨(hk lb hl (by omega)).trans h.blk, (hk _ hz (by omega)).trans h.blk0, grown_trans h.grown hG, h.sg.keep hg (fun c hc hne _ => hk c hc hne), hP⟩
theorem bd_start {w w1 w2 : World} {g b b' : Nat} {ts : List Tk.Tok} {L k bad e o d : Nat} {f : EF} {Z : Array Value} (hg : g < w.heap.size) (hZ : Z = #[.int .i64 0, .int .i64 0, .string ⟨#[]⟩, .slice none 0 0])
    (hG : (w.alloc (.cells Z 25)).grownBy w1 (some g)) (hP : Rsr w1 g ts k bad e o d)
    (W1 : World) (hW1 : W1 = w1.alloc (.cells #[.int .i64 f.op, .int .i64 f.num, .string ⟨f.name.toArray⟩, .slice f.A f.n f.c] 25)) (hb : W1.heap.size ≤ b) (hb' : W1.heap.size ≤ b') (hS : StrS w2 (some ⟨b, 0, none⟩) (sgS (L : Int))) (hI : IntS w2 (some ⟨b', 0, none⟩) (sgO (L : Int))) (hB : Below W1.heap.size W1 w2) :
    BdS w g w1.heap.size b b' ts L k bad e o d f w2 := by
  subst hZ
  have hs1 : W1.heap.size = w1.heap.size + 1 := by rw [hW1]; simp
  have hs0 : w.heap.size < w1.heap.size := by have := hG.size; simp at this; omega
  have hk : ∀ c, c < w1.heap.size → w2.heap[c]? = w1.heap[c]? := fun c hc => (hB.block c (by omega)).trans (by rw [hW1]; exact Below.heap_alloc w1 _ c hc)
  have hGw := grown_of_alloc hG
  have hBo : w2.os = w1.os ∧ w2.tape = w1.tape ∧ w2.output = w1.output := by
    have h1 : W1.os = w1.os ∧ W1.tape = w1.tape ∧ W1.output = w1.output := by rw [hW1]; exact ⟨rfl, rfl, rfl⟩
    exact ⟨hB.os.trans h1.1, hB.tape.trans h1.2.1, hB.output.trans h1.2.2⟩
  have hs2 := hB.size
  refine ⟨?_, ?_, ?_, ⟨by omega, by omega, by omega, by omega, hS, hI⟩, hP.keep fun c hc => hk c (by omega)⟩
  · exact (hB.block _ (by omega)).trans (by rw [hW1]; exact heap_alloc_new w1 _)
  · exact (hk _ hs0).trans ((hG.block _ (by simp) (fun e => by injection e with e; omega)).trans (heap_alloc_new w _))
  · exact ⟨hBo.1.trans hGw.os, hBo.2.1.trans hGw.tape, hBo.2.2.trans hGw.output, by omega, fun c hc hne => (hk c (by omega)).trans (hGw.block c hc hne)⟩

set_option maxRecDepth 100000 in
set_option maxHeartbeats 4000000 in
theorem rbinary_dtop (w : World) (g : Nat) (ts : List Tk.Tok) (k bad e o d : Nat) (he : e ≠ 0) (hP : Rsr w g ts k bad e o d) :
    Calls Tryd.prog 109 #[.pointer (some ⟨g, 0, none⟩), .int .i64 5] w (RdPost w g ts k bad e o d) := by
  have HO := Lib.hid (roperand_dead (w.alloc (.cells #[.int .i64 0, .int .i64 0, .string ⟨#[]⟩, .slice none 0 0] 25)) g ts k bad e o d he (hP.alloc _))
  have hgw := hP.lt
  clear hP he
  go_enter Tryd.func109, Tryd.ntmps109
  go_wp2_with fail
  refine HO.out.mono ?_
  rintro en w1 ⟨f, rfl, hG1, hP1⟩
  unfold EF.val
  have hz : w1.heap[w.heap.size]? = some (.cells #[.int .i64 0, .int .i64 0, .string ⟨#[]⟩, .slice none 0 0] 25 (0, 0)) := (hG1.block _ (by simp) (fun e => by injection e with e; omega)).trans (heap_alloc_new w _)
  obtain ⟨q0, q1, q2, q3, f0, f1, f2, f3, hz0⟩ := blk4 hz
  have HG1 := Lib.hid (grown_of_alloc hG1)
  have HP1 := Lib.hid hP1
  clear hz hG1 hP1 HO
  go_wp2_with fail
  refine bodyPost_ret (v := f.val) (by simp [EF.val, results, Tryd.results109, go_sem, q0, q1, q2, q3]) rfl ?_
  exact rd_end hgw HG1.out HP1.out _ _ _ _ f _ rfl

set_option maxRecDepth 100000 in
set_option maxHeartbeats 8000000 in
theorem rbinary_dlow (w : World) (g : Nat) (ts : List Tk.Tok) (L k bad e o d : Nat) (hlast : Ps.kindAt ts (ts.length - 1) = 5) (he : e ≠ 0) (hL : L < 5) (hP : Rsr w g ts k bad e o d)
    (hB : ∀ w', Rsr w' g ts k bad e o d → Calls Tryd.prog 109 #[.pointer (some ⟨g, 0, none⟩), .int .i64 ((L : Int) + 1)] w' (RdPost w' g ts k bad e o d)) :
    Calls Tryd.prog 109 #[.pointer (some ⟨g, 0, none⟩), .int .i64 (L : Int)] w (RdPost w g ts k bad e o d) := by
  have HP := Lib.hid (hP.alloc (.cells #[.int .i64 0, .int .i64 0, .string ⟨#[]⟩, .slice none 0 0] 25))
  have hgw := hP.lt
  have HB := Lib.hid hB
  have HL := Lib.hid hlast
  have HE := Lib.hid he
  have d4 : decide ((L : Int) > 4) = false := decide_eq_false (by omega)
  clear hP hB hlast he
  go_enter Tryd.func109, Tryd.ntmps109
  go_wp2_with fail
  refine (HB.out _ HP.out).mono ?_
  rintro en w1 ⟨f, rfl, hG1, hP1⟩
  unfold EF.val
  have hlbw : w.heap.size < w1.heap.size := by have := hG1.size; simp at this; omega
  have HG1 := Lib.hid hG1
  have HP1 := Lib.hid hP1
  clear hG1 hP1
  go_wp2_with fail
  refine (signs_new L hL _).mono ?_
  rintro en w2 ⟨b, b', rfl, hbb, hbb', hS, hI, hb2⟩
  have HR0 : Hid (BdS w g w1.heap.size b b' ts L k bad e o d f w2) := bd_start hgw rfl HG1.out HP1.out _ rfl hbb hbb' hS hI hb2
  have hlen := lev_len (L : Int)
  clear HG1 HP1 hS hI hb2 hbb hbb' HP HB d4
  generalize hlbd : w1.heap.size = lb at *
  clear hlbd
  rw [hlen.2]
  have hl6 := hlen.1
  clear hlen
  obtain ⟨n, hn⟩ : ∃ n, n = (sgS (L : Int)).length := ⟨_, rfl⟩
  rw [← hn] at hl6 ⊢
  have HNN := Lib.hid hn
  clear hn
  go_wp2_with fail
  go_loopw [8, 9] (fun ag _ wr => Hid (∃ A : Bool, ag = .bool A ∧ BdS w g lb b b' ts L k bad e o d f wr)) (fun ag _ wr => if agOf ag then 1 else 0)
  case atStart => exact ⟨true, rfl, HR0.out⟩
  case round =>
    obtain ⟨A, rfl, hSt⟩ := hrel.out
    clear hrel HR0
    cases A with
    | false =>
      obtain ⟨l0, l1, l2, l3, -, -, -, -, hll⟩ := blk4 hSt.blk
      obtain ⟨r0, r1, r2, r3, z0, z1, z2, z3, hrl⟩ := blk4 hSt.blk0
      have HSt := Lib.hid hSt
      have hn2 : lb ≠ w.heap.size := by omega
      clear hSt
      go_wp2_with fail
      refine bodyPost_ret (v := f.val) (by simp [EF.val, results, Tryd.results109, go_sem, r0, r1, r2, r3]) rfl ?_
      exact rd_end hgw HSt.out.grown HSt.out.psr _ _ _ _ f _ rfl
    | true =>
      have HSt := Lib.hid hSt
      clear hSt
      go_wp2_with fail
      go_loopw [8, 9] (fun ag i wr => Hid (∃ j : Nat, ag = .bool false ∧ i = .int .i64 (j : Int) ∧ j ≤ n ∧ BdS w g lb b b' ts L k bad e o d f wr)) (fun _ i _ => n - (intOf i).toNat)
      case atStart => exact ⟨0, rfl, rfl, Nat.zero_le _, HSt.out⟩
      case round =>
        obtain ⟨j, rfl, rfl, hj, hSi⟩ := hrel.out
        clear hrel
        by_cases hlt : j < n
        · have dj : decide ((j : Int) < (n : Int)) = true := decide_eq_true (by omega)
          have hjs : j < (sgS (L : Int)).length := by rw [← HNN.out]; exact hlt
          obtain ⟨bs, off, hA, hcell⟩ := hSi.sg.str j hjs
          injection hA with hA
          injection hA with e1 e2
          subst e1 e2
          rw [Nat.zero_add] at hcell
          generalize (sgS (L : Int))[j] = sj at *
          have HSi := Lib.hid hSi
          have HI := Lib.hid (isB_dead (ts := ts) (k := k) (s := sj) HE.out)
          have i0 : (0 : Int) ≤ (j : Int) := by omega
          have i1 : (j : Int) < (n : Int) := by omega
          clear hSi
          go_wp2_with fail
          refine (rtake_any wr g ts k bad e o d sj HL.out HSi.out.psr).mono ?_
          rw [HI.out]
          rintro x w3 ⟨rfl, hP3, hG3⟩
          rw [takeK_F HI.out] at hP3
          have HSN := Lib.hid (HSi.out.later hgw hlbw hG3 hP3)
          clear hP3 hG3 hcell
          go_wp2_with fail
          go_roundw
          case rel => exact ⟨j + 1, rfl, by go_num, by omega, HSN.out⟩
          case measure => simp [intOf]; omega
        · have dj : decide ((j : Int) < (n : Int)) = false := decide_eq_false (by omega)
          have HSi := Lib.hid hSi
          clear hSi
          go_wp2_with fail
          go_roundw
          case rel => exact ⟨false, rfl, HSi.out⟩
          case measure => simp [agOf]

/-- binary behind an error, at every level -/
theorem rbinary_dead (g : Nat) (ts : List Tk.Tok) (k bad e o d : Nat) (hlast : Ps.kindAt ts (ts.length - 1) = 5) (he : e ≠ 0) (J : Nat) : ∀ L : Nat, L + J = 5 → ∀ w, Rsr w g ts k bad e o d →
    Calls Tryd.prog 109 #[.pointer (some ⟨g, 0, none⟩), .int .i64 (L : Int)] w (RdPost w g ts k bad e o d) := by
  induction J with
  | zero =>
    intro L hL w hP
    have : L = 5 := by omega
    subst this
    exact rbinary_dtop w g ts k bad e o d he hP
  | succ J ih =>
    intro L hL w hP
    exact rbinary_dlow w g ts L k bad e o d hlast he (by omega) hP fun w' hP' => ih (L + 1) (by omega) w' hP'
end Go.Proofs.YtjjooekkieddbaaDoor

namespace Go.Proofs.YtjjooekkieddbaaDoor
open Go.RowKit

/-- block g is the reference's parser over the tokens ts, in the state σ, with d open blocks -/
def Rs (w : World) (g : Nat) (ts : List Tk.Tok) (σ : Pa.Sg) (d : Nat) : Prop :=
  match σ with
  | .at_ k => ∃ bad, Rsr w g ts k bad 0 0 d
  | .bad m e => e ≠ 0 ∧ m < ts.length ∧ ∃ k, Rsr w g ts k m e 0 d
theorem Rs.keep {w w' : World} {g : Nat} {ts : List Tk.Tok} {σ : Pa.Sg} {d : Nat} (h : Rs w g ts σ d) (hk : ∀ b, b ≤ g → w'.heap[b]? = w.heap[b]?) : Rs w' g ts σ d := by
  cases σ with
  | at_ k => obtain ⟨bad, h⟩ := h; exact ⟨bad, h.keep hk⟩
  | bad m e => obtain ⟨he, hm, k, h⟩ := h; exact ⟨he, hm, k, h.keep hk⟩
theorem Rs.lt {w : World} {g : Nat} {ts : List Tk.Tok} {σ : Pa.Sg} {d : Nat} (h : Rs w g ts σ d) : g < w.heap.size := by
  cases σ with
  | at_ k => obtain ⟨bad, h⟩ := h; exact h.lt
  | bad m e => obtain ⟨he, hm, k, h⟩ := h; exact h.lt
theorem Rs.later {w w' : World} {g : Nat} {ts : List Tk.Tok} {σ : Pa.Sg} {d : Nat} (h : Rs w g ts σ d) (hb : Below w.heap.size w w') : Rs w' g ts σ d :=
  h.keep fun b hle => hb.block b (Nat.lt_of_le_of_lt hle h.lt)
theorem Rs.alloc {w : World} {g : Nat} {ts : List Tk.Tok} {σ : Pa.Sg} {d : Nat} (h : Rs w g ts σ d) (o : Obj) : Rs (w.alloc o) g ts σ d :=
  h.later ((Below.refl _ _).alloc (Nat.le_refl _) _)
theorem Rs.putAt {w w' : World} {g r : Nat} {ts : List Tk.Tok} {σ : Pa.Sg} {d : Nat} (h : Rs w g ts σ d) (hp : PutAt r w w') (hr : g < r) : Rs w' g ts σ d :=
  h.keep fun b hle => hp.2.2.2.2 b (by omega)
theorem isB_isS {ts : List Tk.Tok} (hW : WdOk ts) (k : Nat) (s : List UInt8) : isB ts k 0 s = Pa.isS ts (.at_ k) s := by
  unfold isB Pa.isS Pa.kd
  obtain ⟨h3, h4⟩ := hW k
  by_cases ht : Ps.textAt ts k = s
  · subst ht
    by_cases hr : Tk.resv (Ps.textAt ts k) = true
    · have : Ps.kindAt ts k ≠ 4 := fun e => by rw [h4 e] at hr; cases hr
      simp [hr, this]
    · have : Ps.kindAt ts k ≠ 3 := fun e => hr (h3 e)
      simp [hr, this]
  · simp [ht]
theorem rsKind (w : World) (g : Nat) (ts : List Tk.Tok) (σ : Pa.Sg) (d K : Nat) (v : Int) (hv : v = (K : Int)) (hP : Rs w g ts σ d) :
    Calls Tryd.prog 46 #[.pointer (some ⟨g, 0, none⟩), .int .i64 v] w fun x w' => x = .returned (.bool (Pa.kdS ts σ K)) ∧ Below w.heap.size w w' := by
  cases σ with
  | at_ k =>
    obtain ⟨bad, h⟩ := hP
    refine (rkind_at w g ts k bad 0 0 d K v hv h).mono ?_
    rintro x w' ⟨rfl, hb⟩
    exact ⟨by simp [kindB, Pa.kdS], hb⟩
  | bad m e =>
    obtain ⟨he, hm, k, h⟩ := hP
    refine (rkind_at w g ts k m e 0 d K v hv h).mono ?_
    rintro x w' ⟨rfl, hb⟩
    exact ⟨by simp [kindB, Pa.kdS, he], hb⟩
theorem rsIs (w : World) (g : Nat) (ts : List Tk.Tok) (hW : WdOk ts) (σ : Pa.Sg) (d : Nat) (s : List UInt8) (hP : Rs w g ts σ d) :
    Calls Tryd.prog 47 #[.pointer (some ⟨g, 0, none⟩), .string ⟨s.toArray⟩] w fun x w' => x = .returned (.bool (Pa.isS ts σ s)) ∧ Below w.heap.size w w' := by
  cases σ with
  | at_ k =>
    obtain ⟨bad, h⟩ := hP
    refine (ris_any w g ts k bad 0 0 d s h).mono ?_
    rintro x w' ⟨rfl, hb⟩
    exact ⟨by rw [isB_isS hW], hb⟩
  | bad m e =>
    obtain ⟨he, hm, k, h⟩ := hP
    refine (ris_any w g ts k m e 0 d s h).mono ?_
    rintro x w' ⟨rfl, hb⟩
    exact ⟨by rw [isB_dead he]; rfl, hb⟩
theorem rsFail (w : World) (g : Nat) (ts : List Tk.Tok) (σ : Pa.Sg) (d E : Nat) (v : Int) (hv : v = (E : Int)) (hE : E ≠ 0) (hP : Rs w g ts σ d) :
    Calls Tryd.prog 48 #[.pointer (some ⟨g, 0, none⟩), .int .i64 v] w fun x w' => x = .returned (.tuple #[]) ∧ Rs w' g ts (Pa.fl σ E) d ∧ w.grownBy w' (some g) := by
  cases σ with
  | at_ k =>
    obtain ⟨bad, h⟩ := hP
    refine (rfail_any w g ts k bad 0 0 d E v hv h).mono ?_
    rintro x w' ⟨rfl, hr, hG⟩
    exact ⟨rfl, ⟨hE, h.inT, k, hr⟩, hG⟩
  | bad m e =>
    obtain ⟨he, hm, k, h⟩ := hP
    refine (rfail_any w g ts k m e 0 d E v hv h).mono ?_
    rintro x w' ⟨rfl, hr, hG⟩
    rw [if_neg he, if_neg he] at hr
    exact ⟨rfl, ⟨he, hm, k, hr⟩, hG⟩
theorem rsTake (w : World) (g : Nat) (ts : List Tk.Tok) (hlast : Ps.kindAt ts (ts.length - 1) = 5) (hW : WdOk ts) (σ : Pa.Sg) (d : Nat) (s : List UInt8) (hP : Rs w g ts σ d) :
    Calls Tryd.prog 49 #[.pointer (some ⟨g, 0, none⟩), .string ⟨s.toArray⟩] w fun x w' => x = .returned (.bool (Pa.isS ts σ s)) ∧ Rs w' g ts (Pa.ac ts σ s) d ∧ w.grownBy w' (some g) := by
  cases σ with
  | at_ k =>
    obtain ⟨bad, h⟩ := hP
    refine (rtake_any w g ts k bad 0 0 d s hlast h).mono ?_
    rintro x w' ⟨rfl, hr, hG⟩
    unfold takeK at hr
    rw [isB_isS hW] at hr ⊢
    refine ⟨rfl, ?_, hG⟩
    unfold Pa.ac
    split at hr
    · rename_i hc; rw [if_pos hc]; exact ⟨bad, hr⟩
    · rename_i hc; rw [if_neg hc]; exact ⟨bad, hr⟩
  | bad m e =>
    obtain ⟨he, hm, k, h⟩ := hP
    refine (rtake_any w g ts k m e 0 d s hlast h).mono ?_
    rintro x w' ⟨rfl, hr, hG⟩
    unfold takeK at hr
    rw [isB_dead he, if_neg (by decide)] at hr
    rw [isB_dead he]
    exact ⟨rfl, ⟨he, hm, k, hr⟩, hG⟩
theorem rsMust (w : World) (g : Nat) (ts : List Tk.Tok) (hlast : Ps.kindAt ts (ts.length - 1) = 5) (hW : WdOk ts) (σ : Pa.Sg) (d : Nat) (s : List UInt8) (hP : Rs w g ts σ d) :
    Calls Tryd.prog 80 #[.pointer (some ⟨g, 0, none⟩), .string ⟨s.toArray⟩] w fun x w' => x = .returned (.tuple #[]) ∧ Rs w' g ts (Pa.xp ts σ s) d ∧ w.grownBy w' (some g) := by
  cases σ with
  | at_ k =>
    obtain ⟨bad, h⟩ := hP
    refine (rmust_any w g ts k bad 0 0 d s hlast h).mono ?_
    rintro x w' ⟨rfl, hr, hG⟩
    unfold takeK mustB mustE at hr
    rw [isB_isS hW] at hr
    refine ⟨rfl, ?_, hG⟩
    unfold Pa.xp
    by_cases hc : Pa.isS ts (.at_ k) s = true
    · rw [if_pos hc, if_pos hc, if_pos hc] at hr
      rw [if_pos hc]
      exact ⟨bad, hr⟩
    · rw [if_neg hc, if_neg hc, if_neg hc] at hr
      rw [if_neg hc]
      exact ⟨by decide, h.inT, k, hr⟩
  | bad m e =>
    obtain ⟨he, hm, k, h⟩ := hP
    refine (rmust_any w g ts k m e 0 d s hlast h).mono ?_
    rintro x w' ⟨rfl, hr, hG⟩
    unfold takeK mustB mustE at hr
    simp [isB_dead he, he] at hr
    exact ⟨rfl, ⟨he, hm, k, hr⟩, hG⟩

set_option maxRecDepth 100000 in
set_option maxHeartbeats 4000000 in
theorem rname_F (w : World) (g : Nat) (ts : List Tk.Tok) (σ : Pa.Sg) (d : Nat) (hP : Rs w g ts σ d) (hK : Pa.kdS ts σ 1 = false) :
    Calls Tryd.prog 52 #[.pointer (some ⟨g, 0, none⟩)] w fun x w' => x = .returned (.string ⟨#[]⟩) ∧ Rs w' g ts (Pa.fl σ 4) d ∧ w.grownBy w' (some g) := by
  have HP := Lib.hid hP
  have HK := Lib.hid hK
  clear hP hK
  go_enter Tryd.func52, Tryd.ntmps52
  go_wp2_with fail
  refine (rsKind w g ts σ d 1 1 rfl HP.out).mono ?_
  rw [HK.out]
  rintro x w1 ⟨rfl, hb⟩
  have HP1 := Lib.hid (HP.out.later hb)
  have HB := Lib.hid hb
  clear hb
  go_wp2_with fail
  refine (rsFail w1 g ts σ d 4 4 rfl (by decide) HP1.out).mono ?_
  rintro x w2 ⟨rfl, hP2, hG2⟩
  have HP2 := Lib.hid hP2
  have HG2 := Lib.hid (grown_trans (grown_below HB.out) hG2)
  clear hP2 hG2
  go_wp2_with fail
  go_ret
  exact ⟨rfl, HP2.out, HG2.out⟩
theorem rsName (w : World) (g : Nat) (ts : List Tk.Tok) (hlast : Ps.kindAt ts (ts.length - 1) = 5) (σ : Pa.Sg) (d : Nat) (hP : Rs w g ts σ d) :
    Calls Tryd.prog 52 #[.pointer (some ⟨g, 0, none⟩)] w fun x w' => x = .returned (.string ⟨(Pa.nmV ts σ).toArray⟩) ∧ Rs w' g ts (Pa.tk ts σ 1) d ∧ w.grownBy w' (some g) := by
  cases hK : Pa.kdS ts σ 1 with
  | false =>
    refine (rname_F w g ts σ d hP hK).mono ?_
    rintro x w' ⟨rfl, hr, hG⟩
    refine ⟨by unfold Pa.nmV; rw [if_neg (by rw [hK]; decide)], ?_, hG⟩
    unfold Pa.tk
    rw [if_neg (by rw [hK]; decide)]
    exact hr
  | true =>
    cases σ with
    | bad m e => cases hK
    | at_ k =>
      obtain ⟨bad, h⟩ := hP
      refine (rname_T w g ts k bad 0 0 d hlast h (by simpa [kindB, Pa.kdS] using hK)).mono ?_
      rintro x w' ⟨rfl, hr, hG⟩
      refine ⟨by unfold Pa.nmV; rw [if_pos hK]; rfl, ?_, hG⟩
      unfold Pa.tk
      rw [if_pos hK]
      exact ⟨bad, hr⟩
end Go.Proofs.YtjjooekkieddbaaDoor

namespace Go.Proofs.YtjjooekkieddbaaDoor
open Go.RowKit

/-- what both ask of the tokens -/
structure TksOk (ts : List Tk.Tok) : Prop where
  last : Ps.kindAt ts (ts.length - 1) = 5
  word : WOk ts
  kinds : WdOk ts
theorem wok_wd {ts : List Tk.Tok} (h : WdOk ts) : WOk ts := by
  have h1 : ∀ x ∈ [40] :: [41] :: Ps.sgTab, Tk.resv x = false := by decide
  intro k h3 hm
  have := (h k).1 h3
  rw [h1 _ hm] at this
  cases this
theorem lex_tks (l : List UInt8) (h0 : (Tk.lex l).2.2 = 0) : TksOk (Tk.lex l).1 := ⟨(lex_ok l h0).last, wok_wd (lex_wd l h0), lex_wd l h0⟩
/-- what an expression leaves -/
def RxPost (w : World) (g : Nat) (ts : List Tk.Tok) (σ : Pa.Sg) (d : Nat) (x : Ending) (w' : World) : Prop :=
  ∃ f : EF, x = .returned f.val ∧ Rs w' g ts (Pa.exS ts σ) d ∧ w.grownBy w' (some g) ∧ ((Pa.exS ts σ).live = true → ExM w' (w.heap.size ≤ ·) (Pa.exX ts σ) f)
theorem rsExpr (w : World) (g : Nat) (ts : List Tk.Tok) (hT : TksOk ts) (σ : Pa.Sg) (d : Nat) (hP : Rs w g ts σ d) :
    Calls Tryd.prog 109 #[.pointer (some ⟨g, 0, none⟩), .int .i64 0] w (RxPost w g ts σ d) := by
  cases σ with
  | at_ k =>
    obtain ⟨bad, h⟩ := hP
    refine ((rparser_fuel g ts hT.last hT.word bad d (ts.length + 1) k 0 (by omega) (by omega)).1 0 (by omega) w h).mono ?_
    rintro x w' ⟨f, rfl, hG, hok, hbad⟩
    refine ⟨f, rfl, ?_, hG, ?_⟩
    · show Rs w' g ts (match Ps.PE ts 1 0 k with | .ok _ m => .at_ m | .bad m e => .bad m e) d
      cases hR : Ps.PE ts 1 0 k with
      | ok y m => exact ⟨bad, (hok y m hR).2⟩
      | bad a e0 =>
        have h1 := Ps.PE_in hT.last 1 0 k h.inT (by omega)
        rw [hR] at h1
        obtain ⟨he, k', hr⟩ := hbad a e0 hR
        exact ⟨he, h1, k', hr⟩
    · show (match Ps.PE ts 1 0 k with | .ok _ m => Pa.Sg.at_ m | .bad m e => .bad m e).live = true → ExM w' (w.heap.size ≤ ·) (match Ps.PE ts 1 0 k with | .ok x _ => x | .bad _ _ => noEx) f
      cases hR : Ps.PE ts 1 0 k with
      | ok y m => exact fun _ => (hok y m hR).1
      | bad a e0 => exact fun h => by cases h
  | bad m e =>
    obtain ⟨he, hm, k, h⟩ := hP
    refine (rbinary_dead g ts k m e 0 d hT.last he 5 0 (by omega) w h).mono ?_
    rintro x w' ⟨f, rfl, hG, hr⟩
    exact ⟨f, rfl, ⟨he, hm, k, hr⟩, hG, fun h => by cases h⟩
end Go.Proofs.YtjjooekkieddbaaDoor

namespace Go.Proofs.YtjjooekkieddbaaDoor
open Go.RowKit

theorem Rs.set {w : World} {g : Nat} {ts : List Tk.Tok} {σ : Pa.Sg} {d : Nat} {a : Addr} (h : Rs w g ts σ d) (hg : g < a.block) (v : Value) : Rs (w.setCell a v) g ts σ d :=
  h.keep fun b hle => Below.heap_setCell _ _ _ b (by omega)
theorem xp_live {ts : List Tk.Tok} {τ : Pa.Sg} {s : List UInt8} (h : (Pa.xp ts τ s).live = true) : τ.live = true := by
  cases τ with
  | at_ k => rfl
  | bad m e => cases h
/-- what reference leaves -/
def RrP (w : World) (g : Nat) (ts : List Tk.Tok) (σ : Pa.Sg) (d : Nat) (e : Ending) (w' : World) : Prop :=
  ∃ A n c, e = .returned (.agg #[.string ⟨(Pa.sRef ts σ).1.name.toArray⟩, .slice A n c]) ∧ ((Pa.sRef ts σ).2.live = true → IdxM w' (w.heap.size ≤ ·) (Pa.sRef ts σ).1.idx A n) ∧ Rs w' g ts (Pa.sRef ts σ).2 d ∧ w.grownBy w' (some g)

set_option maxRecDepth 100000 in
set_option maxHeartbeats 4000000 in
theorem rsRef (w : World) (g : Nat) (ts : List Tk.Tok) (hT : TksOk ts) (σ : Pa.Sg) (d : Nat) (hP : Rs w g ts σ d) :
    Calls Tryd.prog 111 #[.pointer (some ⟨g, 0, none⟩)] w (RrP w g ts σ d) := by
  have HP := Lib.hid hP
  have HT := Lib.hid hT
  have hgw := hP.lt
  have hgR : g ≠ w.heap.size := by omega
  have hgR' : w.heap.size ≠ g := by omega
  clear hP hT
  go_enter Tryd.func111, Tryd.ntmps111
  go_wp2_with fail
  refine (rsName _ g ts HT.out.last σ d (HP.out.alloc _)).mono ?_
  rintro x w1 ⟨rfl, hP1, hG1⟩
  have HR1 := Lib.hid (kept_own hG1 (heap_alloc_new w _) hgR')
  have HP1 := Lib.hid hP1
  have HG1 := Lib.hid (grown_of_alloc hG1)
  have hl1 : w.heap.size < w1.heap.size := by have := hG1.size; simp at this; omega
  clear hP1 hG1
  have hgT : w1.heap.size ≠ g := by omega
  generalize hnm : Pa.nmV ts σ = nm at *
  have HNM := Lib.hid hnm
  clear hnm
  go_wp2_with fail
  refine (rsTake _ g ts HT.out.last HT.out.kinds _ d [91] (HP1.out.alloc _)).mono ?_
  rintro x w2 ⟨rfl, hP2, hG2⟩
  have HR2 := Lib.hid (kept_own hG2 ((Below.heap_alloc w1 _ _ hl1).trans HR1.out) hgR')
  have HT2 := Lib.hid (kept_own hG2 (heap_alloc_new w1 _) hgT)
  have HP2 := Lib.hid hP2
  have HG2 := Lib.hid (grown_trans HG1.out (grown_of_alloc hG2))
  have hl2 : w1.heap.size < w2.heap.size := by have := hG2.size; simp at this; omega
  clear hP2 hG2
  cases hI : Pa.isS ts (Pa.tk ts σ 1) [91] with
  | true =>
    have HV : Hid (Pa.sRef ts σ = (⟨nm, some (Pa.exX ts (Pa.nx (Pa.tk ts σ 1)))⟩, Pa.xp ts (Pa.exS ts (Pa.nx (Pa.tk ts σ 1))) [93])) := by show _ = _; unfold Pa.sRef; rw [if_pos hI, HNM.out]
    have hac : Pa.ac ts (Pa.tk ts σ 1) [91] = Pa.nx (Pa.tk ts σ 1) := if_pos hI
    rw [hac] at HP2
    clear hac hI
    go_wp2_with fail
    refine (rsExpr w2 g ts HT.out _ d HP2.out).mono ?_
    rintro x w3 ⟨f, rfl, hP3, hG3, hM3⟩
    unfold EF.val
    have HR3 := Lib.hid (kept_own hG3 HR2.out hgR')
    have HT3 := Lib.hid (kept_own hG3 HT2.out hgT)
    have HP3 := Lib.hid hP3
    have HM3 := Lib.hid hM3
    have HG3 := Lib.hid (grown_trans HG2.out hG3)
    have hl3 : w2.heap.size ≤ w3.heap.size := hG3.size
    clear hP3 hG3 hM3
    obtain ⟨t0, t1, tf0, tf1, htl⟩ := blk2 HT3.out
    go_wp2_with fail
    have hs3 : (w3.setCell ⟨w1.heap.size, 1, none⟩ (.slice (some ⟨w3.heap.size, 0, none⟩) 1 1)).heap.size = w3.heap.size := by simp [World.setCell]
    obtain ⟨W4, hW4⟩ : ∃ W, W = (w3.setCell ⟨w1.heap.size, 1, none⟩ (.slice (some ⟨w3.heap.size, 0, none⟩) 1 1)).alloc (.cells #[.int .i64 f.op, .int .i64 f.num, .string ⟨f.name.toArray⟩, .slice f.A f.n f.c] 25) := ⟨_, rfl⟩
    have hk4 : ∀ b, b < w3.heap.size → b ≠ w1.heap.size → W4.heap[b]? = w3.heap[b]? := fun b hb hn => by
      rw [hW4]
      exact (Below.heap_alloc _ _ b (by omega)).trans (Below.heap_setCell _ _ _ b hn)
    have HT4 : Hid (W4.heap[w1.heap.size]? = some (.cells #[.string ⟨nm.toArray⟩, .slice (some ⟨w3.heap.size, 0, none⟩) 1 1] 123 (0, 0))) := by
      rw [hW4]
      exact (Below.heap_alloc _ _ _ (by omega)).trans (blk2set1 _ HT3.out)
    have HR4 := Lib.hid ((hk4 w.heap.size (by omega) (by omega)).trans HR3.out)
    have HN4 : Hid (W4.heap[w3.heap.size]? = some (.cells #[.int .i64 f.op, .int .i64 f.num, .string ⟨f.name.toArray⟩, .slice f.A f.n f.c] 25 (0, 0))) := by
      have := heap_alloc_new (w3.setCell ⟨w1.heap.size, 1, none⟩ (.slice (some ⟨w3.heap.size, 0, none⟩) 1 1)) (.cells #[.int .i64 f.op, .int .i64 f.num, .string ⟨f.name.toArray⟩, .slice f.A f.n f.c] 25)
      rw [hs3] at this
      rw [hW4]
      exact this
    have HP4 : Hid (Rs W4 g ts (Pa.exS ts (Pa.nx (Pa.tk ts σ 1))) d) := by
      rw [hW4]
      exact (HP3.out.set (by show g < w1.heap.size; omega) _).alloc _
    have HM4 := Lib.hid (fun h => (HM3.out h).keep (w' := W4) fun b hb hl => hk4 b hl (by omega))
    have HG4 : Hid (w.grownBy W4 (some g)) := by
      rw [hW4]
      exact grown_alc (grown_set HG3.out (by show w.heap.size ≤ w1.heap.size; omega) _) _
    rw [← hW4]
    clear hW4 hk4 hs3 t0 t1 tf0 tf1
    refine (rsMust W4 g ts HT.out.last HT.out.kinds _ d [93] HP4.out).mono ?_
    rintro x w5 ⟨rfl, hP5, hG5⟩
    obtain ⟨t0, t1, -, -, -⟩ := blk2 (kept_own hG5 HT4.out hgT)
    obtain ⟨r0, r1, rf0, rf1, -⟩ := blk2 (kept_own hG5 HR4.out hgR')
    have HN5 := Lib.hid (kept_own hG5 HN4.out (by omega))
    have HM5 := Lib.hid (fun h => (HM4.out h).keep (w' := w5) fun b hb hl => hG5.block b hl (fun e => by injection e with e; omega))
    have HP5 := Lib.hid hP5
    have HG5 := Lib.hid (grown_trans HG4.out hG5)
    have hTR : w1.heap.size ≠ w.heap.size := by omega
    clear hP5 hG5
    go_wp2_with fail
    refine bodyPost_ret (v := .agg #[.string ⟨nm.toArray⟩, .slice (some ⟨w3.heap.size, 0, none⟩) 1 1]) (by simp [results, Tryd.results111, go_sem, r0, r1]) rfl ⟨some ⟨w3.heap.size, 0, none⟩, 1, 1, by rw [HV.out], ?_, ?_, ?_⟩
    · rw [HV.out]
      intro hlv
      have hlv' := xp_live hlv
      have hk : ∀ b, b ≠ w.heap.size → ((w5.setCell ⟨w.heap.size, 0, none⟩ (.string ⟨nm.toArray⟩)).setCell ⟨w.heap.size, 1, none⟩ (.slice (some ⟨w3.heap.size, 0, none⟩) 1 1)).heap[b]? = w5.heap[b]? := fun b hb => (Below.heap_setCell _ _ _ b hb).trans (Below.heap_setCell _ _ _ b hb)
      obtain ⟨n0, n1, n2, n3, -, -, -, -, -⟩ := blk4 ((hk w3.heap.size (by omega)).trans HN5.out)
      refine ⟨rfl, w3.heap.size, 0, f, rfl, by omega, ⟨n0, n1, n2, n3⟩, ((HM5.out hlv').keep fun b hb _ => hk b (by omega)).more fun b hb => by omega⟩
    · rw [HV.out]
      repeat (with_reducible refine Rs.set ?_ hgw _)
      exact HP5.out
    · repeat (with_reducible refine grown_set ?_ (Nat.le_refl _) _)
      exact HG5.out
  | false =>
    have HV : Hid (Pa.sRef ts σ = (⟨nm, none⟩, Pa.tk ts σ 1)) := by show _ = _; unfold Pa.sRef; rw [if_neg (by rw [hI]; decide), HNM.out]
    have hac : Pa.ac ts (Pa.tk ts σ 1) [91] = Pa.tk ts σ 1 := if_neg (by rw [hI]; decide)
    rw [hac] at HP2
    clear hac hI
    obtain ⟨t0, t1, -, -, -⟩ := blk2 HT2.out
    obtain ⟨r0, r1, rf0, rf1, -⟩ := blk2 HR2.out
    have hTR : w1.heap.size ≠ w.heap.size := by omega
    go_wp2_with fail
    refine bodyPost_ret (v := .agg #[.string ⟨nm.toArray⟩, .slice none 0 0]) (by simp [results, Tryd.results111, go_sem, r0, r1]) rfl ⟨none, 0, 0, by rw [HV.out], ?_, ?_, ?_⟩
    · rw [HV.out]
      exact fun _ => rfl
    · rw [HV.out]
      repeat (with_reducible refine Rs.set ?_ hgw _)
      exact HP2.out
    · repeat (with_reducible refine grown_set ?_ (Nat.le_refl _) _)
      exact HG2.out
end Go.Proofs.YtjjooekkieddbaaDoor

namespace Go.Proofs.YtjjooekkieddbaaDoor
open Go.RowKit

theorem Rs.ecell {w : World} {g : Nat} {ts : List Tk.Tok} {σ : Pa.Sg} {d : Nat} (h : Rs w g ts σ d) : w.cell? ⟨g, 3, none⟩ = some (.int .i64 (σ.e : Int)) := by
  cases σ with
  | at_ k => obtain ⟨bad, h⟩ := h; obtain ⟨b, c, -, -, -, -, -, q3, -⟩ := h.cells; exact q3
  | bad m e => obtain ⟨he, hm, k, h⟩ := h; obtain ⟨b, c, -, -, -, -, -, q3, -⟩ := h.cells; exact q3
theorem Rs.err {w : World} {g : Nat} {ts : List Tk.Tok} {m e : Nat} {d : Nat} (h : Rs w g ts (.bad m e) d) : e ≠ 0 := h.1
theorem Rs.inT {w : World} {g : Nat} {ts : List Tk.Tok} {σ : Pa.Sg} {d : Nat} (h : Rs w g ts σ d) : σ.k < ts.length := by
  cases σ with
  | at_ k => obtain ⟨bad, h⟩ := h; exact h.inT
  | bad m e => exact h.2.1
theorem Rs.len {w : World} {g : Nat} {ts : List Tk.Tok} {σ : Pa.Sg} {d : Nat} (h : Rs w g ts σ d) : ts.length ≤ 1000000 := by
  cases σ with
  | at_ k => obtain ⟨bad, _, _, _, _, _, h, _⟩ := h; exact h
  | bad m e => obtain ⟨_, _, k, _, _, _, _, _, h, _⟩ := h; exact h
theorem Rsr.dcell {w : World} {g : Nat} {ts : List Tk.Tok} {k bad e o d : Nat} (h : Rsr w g ts k bad e o d) : w.cell? ⟨g, 5, none⟩ = some (.int .i64 (d : Int)) ∧ ∀ n, w.frozen? ⟨g, n, none⟩ = false := by
  obtain ⟨A, c, hb, _⟩ := h
  exact ⟨by rw [cell_of_row w g 5 _ _ _ hb]; rfl, fun n => by simp [World.frozen?, hb]⟩
theorem Rs.dcell {w : World} {g : Nat} {ts : List Tk.Tok} {σ : Pa.Sg} {d : Nat} (h : Rs w g ts σ d) : w.cell? ⟨g, 5, none⟩ = some (.int .i64 (d : Int)) ∧ ∀ n, w.frozen? ⟨g, n, none⟩ = false := by
  cases σ with
  | at_ k => obtain ⟨bad, h⟩ := h; exact h.dcell
  | bad m e => obtain ⟨_, _, k, h⟩ := h; exact h.dcell
theorem Rsr.deep {w : World} {g : Nat} {ts : List Tk.Tok} {k bad e o d : Nat} (h : Rsr w g ts k bad e o d) (j : Nat) : Rsr (w.setCell ⟨g, 5, none⟩ (.int .i64 (j : Int))) g ts k bad e o j := by
  have ho : o ≤ 1000 := by obtain ⟨A, c, _, _, ho, _⟩ := h; exact ho
  refine h.mk' k bad e o j h.inT ho (fun A c hb => ?_) fun b hb => Below.heap_setCell w _ _ b (by simpa using hb)
  simp [World.setCell, Array.getElem?_modify]
  exact ⟨_, hb, rfl⟩
theorem Rs.deep {w : World} {g : Nat} {ts : List Tk.Tok} {σ : Pa.Sg} {d : Nat} (h : Rs w g ts σ d) (j : Nat) (v : Int) (hv : v = (j : Int)) : Rs (w.setCell ⟨g, 5, none⟩ (.int .i64 v)) g ts σ j := by
  subst hv
  cases σ with
  | at_ k => obtain ⟨bad, h⟩ := h; exact ⟨bad, h.deep j⟩
  | bad m e => obtain ⟨he, hm, k, h⟩ := h; exact ⟨he, hm, k, h.deep j⟩
/-- a slice of the call's own has grown -/
theorem grown_app {w W W' : World} {g B n size : Nat} {t : TypeId} {v : Value} {xs : List Value} (h : w.grownBy W (some g)) (ho : W.ownsRow B t size v n xs) (hB : w.heap.size ≤ B) (hg : W.grownBy W' v.ownBlock) : w.grownBy W' (some g) :=
  ⟨hg.os.trans h.os, hg.tape.trans h.tape, hg.output.trans h.output, Nat.le_trans h.size hg.size, fun b hb hne => (hg.block b (Nat.lt_of_lt_of_le hb h.size) (fun e => by have := (ho.lt b e.symm).1; omega)).trans (h.block b hb hne)⟩
theorem Rs.app {W W' : World} {g B n size : Nat} {t : TypeId} {v : Value} {xs : List Value} {ts : List Tk.Tok} {σ : Pa.Sg} {d : Nat} (h : Rs W g ts σ d) (ho : W.ownsRow B t size v n xs) (hB : g < B) (hg : W.grownBy W' v.ownBlock) : Rs W' g ts σ d :=
  h.keep fun b hb => hg.block b (Nat.lt_of_le_of_lt hb h.lt) (fun e => by have := (ho.lt b e.symm).1; omega)
theorem alloc_base {W : World} {m n : Nat} (o : Obj) (h : m ≤ n) (e : W.heap.size = n) : m ≤ (W.alloc o).heap.size := by
  rw [show (W.alloc o).heap.size = W.heap.size + 1 by simp]
  omega
theorem alloc_size {W : World} {n : Nat} (o : Obj) (e : W.heap.size = n) : (W.alloc o).heap.size = n + 1 := by
  rw [show (W.alloc o).heap.size = W.heap.size + 1 by simp, e]
theorem sArgL_dead (ts : List Tk.Tok) (f m e : Nat) (l : List Ar) : (Pa.sArgL ts (f + 1) (.bad m e) l).2 = .bad m e := by
  rw [Pa.sArgL, if_neg (show ¬ Pa.isS ts (Pa.sArg ts (.bad m e)).2 [44] = true from fun h => by cases h)]
  rfl
/-- what args leaves -/
def RaP (w : World) (g : Nat) (ts : List Tk.Tok) (σ : Pa.Sg) (d : Nat) (e : Ending) (w' : World) : Prop :=
  ∃ A n c, e = .returned (.slice A n c) ∧ ((Pa.sArgs ts σ).2.live = true → n = (Pa.sArgs ts σ).1.length ∧ ArsM w' (w.heap.size ≤ ·) (Pa.sArgs ts σ).1 A) ∧ Rs w' g ts (Pa.sArgs ts σ).2 d ∧ w.grownBy w' (some g)
/-- the loop of args -/
def RaL (w : World) (g : Nat) (ts : List Tk.Tok) (R : List Ar × Pa.Sg) (d f : Nat) (v : Value) (wr : World) : Prop :=
  ∃ τ, Rs wr g ts τ d ∧ w.grownBy wr (some g) ∧ ((τ.live = false ∧ R.2 = τ ∧ ∃ A n c, v = .slice A n c) ∨
    (τ.live = true ∧ ∃ P : List (Ar × ArG), OwnR arK 131 wr w.heap.size v P ∧ P.length ≤ τ.k ∧ ts.length ≤ f + τ.k ∧ Pa.sArgL ts f τ (P.map (·.1)) = R))

set_option maxRecDepth 100000 in
set_option maxHeartbeats 4000000 in
theorem rsArgs (w : World) (g : Nat) (ts : List Tk.Tok) (hT : TksOk ts) (σ : Pa.Sg) (d : Nat) (hP : Rs w g ts σ d) :
    Calls Tryd.prog 110 #[.pointer (some ⟨g, 0, none⟩)] w (RaP w g ts σ d) := by
  obtain ⟨i0, hi, hz0, hz1, hz2⟩ := info_parts Tryd.infoArg
  have HP := Lib.hid hP
  have HT := Lib.hid hT
  have hgw := hP.lt
  clear hP hT
  go_enter Tryd.func110, Tryd.ntmps110
  go_wp2_with fail
  refine (rsMust w g ts HT.out.last HT.out.kinds σ d [40] HP.out).mono ?_
  rintro x w1 ⟨rfl, hP1, hG1⟩
  have HP1 := Lib.hid hP1
  have HG1 := Lib.hid hG1
  clear hP1 hG1
  generalize hσ1 : Pa.xp ts σ [40] = σ1 at *
  have HS1 := Lib.hid hσ1
  clear hσ1
  go_wp2_with fail
  refine (rsTake w1 g ts HT.out.last HT.out.kinds σ1 d [41] HP1.out).mono ?_
  rintro x w2 ⟨rfl, hP2, hG2⟩
  have HP2 := Lib.hid hP2
  have HG2 := Lib.hid (grown_trans HG1.out hG2)
  clear hP2 hG2
  cases hI : Pa.isS ts σ1 [41] with
  | true =>
    have HV : Hid (Pa.sArgs ts σ = ([], Pa.nx σ1)) := by show _ = _; unfold Pa.sArgs; rw [HS1.out, if_pos hI]
    have hac : Pa.ac ts σ1 [41] = Pa.nx σ1 := if_pos hI
    rw [hac] at HP2
    clear hac hI
    go_wp2_with fail
    go_ret
    refine ⟨none, 0, 0, rfl, fun _ => ?_, by rw [HV.out]; exact HP2.out, HG2.out⟩
    rw [HV.out]
    exact ⟨rfl, fun i hi => absurd hi (by simp)⟩
  | false =>
    have HV : Hid (Pa.sArgs ts σ = Pa.sArgL ts (ts.length + 1) σ1 []) := by show _ = _; unfold Pa.sArgs; rw [HS1.out, if_neg (by rw [hI]; decide)]
    have hac : Pa.ac ts σ1 [41] = σ1 := if_neg (by rw [hI]; decide)
    rw [hac] at HP2
    have HL0 : Hid (RaL w g ts (Pa.sArgs ts σ) d (ts.length + 1) (.slice none 0 0) w2) := by
      refine ⟨σ1, HP2.out, HG2.out, ?_⟩
      cases σ1 with
      | at_ k => exact .inr ⟨rfl, [], OwnR.nil _ _ _ _, Nat.zero_le _, by omega, HV.out.symm⟩
      | bad m e => exact .inl ⟨rfl, by rw [HV.out]; exact sArgL_dead _ _ _ _ _, none, 0, 0, rfl⟩
    clear hac hI HV
    generalize hR0 : Pa.sArgs ts σ = R at *
    have HR0 := Lib.hid hR0
    clear hR0
    go_wp2_with fail
    go_loopg [3] (ts.length + 1) (fun k v wr => Hid (RaL w g ts R d k v wr))
    case atStart => exact HL0.out
    case round =>
      clear HL0 HP2 HG2 HP1 HG1
      obtain ⟨τ, hP, hG, hcase⟩ := hrel.out
      clear hrel
      have HPr := Lib.hid hP
      have HGr := Lib.hid hG
      have hnn := hP.len
      have hkT := hP.inT
      have s3 := hP.ecell
      have hwl : w.heap.size ≤ wr.heap.size := hG.size
      have hne : wr.heap.size ≠ g := by omega
      clear hP hG
      rcases hcase with ⟨hdead, hRe, A, n, c, rfl⟩ | ⟨hlive, P, hO, hPk, hfk, hR⟩
      · cases τ with
        | at_ k => cases hdead
        | bad m e =>
          have he : e ≠ 0 := HPr.out.err
          have t0 : (((Pa.Sg.bad m e).e : Int) == 0) = false := bF (show ((e : Nat) : Int) ≠ 0 by omega)
          have HRe := Lib.hid hRe
          clear he hRe hdead
          go_wp2_with fail
          go_ret
          refine ⟨A, n, c, rfl, fun h => ?_, by rw [HR0.out, HRe.out]; exact HPr.out, HGr.out⟩
          rw [HR0.out, HRe.out] at h
          cases h
      · cases τ with
        | bad m e => cases hlive
        | at_ k0 =>
          have hk3 : (Pa.Sg.at_ k0).k = k0 := rfl
          rw [hk3] at hPk hfk hkT
          obtain ⟨sa, sc, rfl⟩ := hO.form
          have t0 : (((Pa.Sg.at_ k0).e : Int) == 0) = true := rfl
          obtain ⟨f1, rfl⟩ : ∃ f1, gk = f1 + 1 := ⟨gk - 1, by omega⟩
          have HO := Lib.hid hO
          have HR := Lib.hid hR
          have HFW := Lib.hid (Pa.sArg_fws ts (.at_ k0))
          clear hO hR hlive hk3
          go_wp2_with fail
          refine (rsTake _ g ts HT.out.last HT.out.kinds (.at_ k0) d [109, 117, 116, 101, 120] (HPr.out.alloc _)).mono ?_
          rintro x w1 ⟨rfl, hP1, hG1⟩
          have HB1 := Lib.hid (kept_own hG1 (heap_alloc_new wr _) hne)
          have HP1 := Lib.hid hP1
          have HG1 := Lib.hid (grown_trans HGr.out (grown_of_alloc hG1))
          have HK1 : Hid (∀ b, w.heap.size ≤ b → b < wr.heap.size → w1.heap[b]? = wr.heap[b]?) := fun b hb hl => (hG1.block b (by simp; omega) (fun e => by injection e with e; omega)).trans (Below.heap_alloc wr _ b hl)
          have hl1 : wr.heap.size < w1.heap.size := lt_of_block HB1.out
          clear hP1 hG1 s3 t0
          cases hI : Pa.isS ts (.at_ k0) [109, 117, 116, 101, 120] with
          | true =>
            have hac : Pa.ac ts (.at_ k0) [109, 117, 116, 101, 120] = .at_ (k0 + 1) := if_pos hI
            rw [hac] at HP1
            have hsa : Pa.sArg ts (.at_ k0) = (⟨true, (Pa.sRef ts (.at_ (k0 + 1))).1, noEx⟩, (Pa.sRef ts (.at_ (k0 + 1))).2) := if_pos hI
            have HR2 : Hid (R = if Pa.isS ts (Pa.sRef ts (.at_ (k0 + 1))).2 [44] = true then Pa.sArgL ts f1 (Pa.nx (Pa.sRef ts (.at_ (k0 + 1))).2) (P.map (·.1) ++ [⟨true, (Pa.sRef ts (.at_ (k0 + 1))).1, noEx⟩]) else (P.map (·.1) ++ [⟨true, (Pa.sRef ts (.at_ (k0 + 1))).1, noEx⟩], Pa.xp ts (Pa.sRef ts (.at_ (k0 + 1))).2 [41])) := by
              show _ = _
              rw [← HR.out, Pa.sArgL, hsa]
            rw [hsa] at HFW
            dsimp only at HFW
            clear hac hI hsa HR
            go_wp2_with fail
            refine (rsRef w1 g ts HT.out (.at_ (k0 + 1)) d HP1.out).mono ?_
            rintro x w2 ⟨A, n, c, rfl, hX2, hP2, hG2⟩
            generalize (Pa.sRef ts (.at_ (k0 + 1))).1 = r at *
            generalize (Pa.sRef ts (.at_ (k0 + 1))).2 = τ2 at *
            obtain ⟨q0, q1, q2, q3, q4, q5, q6, qf, -⟩ := blk7 (kept_own hG2 HB1.out hne)
            have u0 := qf 0
            have u1 := qf 1
            have u2 := qf 2
            have u3 := qf 3
            have u4 := qf 4
            have u5 := qf 5
            have u6 := qf 6
            have HX2 := Lib.hid hX2
            have HP2 := Lib.hid hP2
            have HG2 := Lib.hid (grown_trans HG1.out hG2)
            have HK2 : Hid (∀ b, w.heap.size ≤ b → b < wr.heap.size → w2.heap[b]? = wr.heap[b]?) := fun b hb hl => (hG2.block b (by omega) (fun e => by injection e with e; omega)).trans (HK1.out b hb hl)
            have hl2 : w1.heap.size ≤ w2.heap.size := hG2.size
            clear hX2 hP2 hG2 qf HB1 HP1 HG1 HK1
            have HQ := Lib.hid ((((((((PutAt.refl wr.heap.size w2).set 0 (.bool true)).set 1 (.string ⟨r.name.toArray⟩)).set 2 (.slice A n c)).set 3 (.int .i64 0)).set 4 (.int .i64 0)).set 5 (.string ⟨#[]⟩)).set 6 (.slice none 0 0))
            have HO2 := Lib.hid (HO.out.keep (Nat.le_trans (by omega) (Nat.le_of_eq HQ.out.2.2.2.1.symm)) (fun b hb hl => (HQ.out.2.2.2.2 b (by omega)).trans (HK2.out b hb hl)))
            have HSZ := Lib.hid HQ.out.2.2.2.1
            go_wp2_with (first | (at_builtin; refine wpList_append_lies _ rfl (.tmp 23) (.tmp 25) 124 rfl w.heap.size 131 i0 _ 7 104 Tryd.underlying124 hi hz0 hz1 hz2 rfl (by decide) _ P.length (arK.cs P) rfl (HO2.out.alloc _).1 ⟨w2.heap.size, 0, none⟩ 1 1 [.bool true, .string ⟨r.name.toArray⟩, .slice A n c, .int .i64 0, .int .i64 0, .string ⟨#[]⟩, .slice none 0 0] rfl rfl (news_any _ _ HSZ.out.symm _ _) (arK.one ((⟨true, r, noEx⟩ : Ar), (⟨A, n, c, ⟨0, 0, [], none, 0, 0⟩⟩ : ArG))) (by omega) (by unfold maxLen; omega) (by omega) (alloc_base _ (by omega) HSZ.out) _ rfl ?_))
            intro gb cap w3 hown hgrow hlies hgl
            have HO3 : Hid (τ2.live = true → OwnR arK 131 w3 w.heap.size (.slice (some ⟨gb, 0, none⟩) (P.length + 1) cap) (P ++ [((⟨true, r, noEx⟩ : Ar), (⟨A, n, c, ⟨0, 0, [], none, 0, 0⟩⟩ : ArG))])) := fun hl => (HO2.out.alloc _).snoc (arK.fresh (N := w1.heap.size) (arK.keep (show arK.In _ (w1.heap.size ≤ ·) ((⟨true, r, noEx⟩ : Ar), (⟨A, n, c, ⟨0, 0, [], none, 0, 0⟩⟩ : ArG)) from ⟨(HX2.out hl).putAt HQ.out (by omega), ExM.leaf _ _ _ _ _ _ _⟩) fun b _ hl => Below.heap_alloc _ _ b hl) HO.out (by omega) (by omega)) hown hgrow (lies_at hlies (alloc_size _ HSZ.out))
            have HP3 : Hid (Rs w3 g ts τ2 d) := ((HP2.out.putAt HQ.out (by omega)).alloc _).app (HO2.out.alloc _).1 hgw hgrow
            have HG3 : Hid (w.grownBy w3 (some g)) := grown_app (grown_alc (grown_putAt HG2.out HQ.out hwl) _) (HO2.out.alloc _).1 (Nat.le_refl _) hgrow
            clear hown hgrow hlies hgl HO2 HX2 HP2 HG2 HK2 HQ HSZ q0 q1 q2 q3 q4 q5 q6 u0 u1 u2 u3 u4 u5 u6 HO
            go_wp2_with fail
            refine (rsTake w3 g ts HT.out.last HT.out.kinds τ2 d [44] HP3.out).mono ?_
            rintro x w4 ⟨rfl, hP4, hG4⟩
            have HP4 := Lib.hid hP4
            have HG4 := Lib.hid (grown_trans HG3.out hG4)
            have HO4 : Hid (τ2.live = true → OwnR arK 131 w4 w.heap.size (.slice (some ⟨gb, 0, none⟩) (P.length + 1) cap) (P ++ [((⟨true, r, noEx⟩ : Ar), (⟨A, n, c, ⟨0, 0, [], none, 0, 0⟩⟩ : ArG))])) := fun hl => (HO3.out hl).grown hG4 hgw
            clear hP4 hG4 HO3 HP3 HG3
            cases hI : Pa.isS ts τ2 [44] with
            | true =>
              obtain ⟨k2, rfl, -, -⟩ := isS_at hI
              have hac : Pa.ac ts (.at_ k2) [44] = .at_ (k2 + 1) := if_pos hI
              rw [hac] at HP4
              have HR3 := Lib.hid (HR2.out.trans (if_pos hI))
              clear hac hI HR2
              go_wp2_with fail
              go_roundg f1
              case rel =>
                have h1 : k0 < k2 := (HFW.out rfl).2
                refine ⟨.at_ (k2 + 1), HP4.out, HG4.out, .inr ⟨rfl, P ++ [((⟨true, r, noEx⟩ : Ar), (⟨A, n, c, ⟨0, 0, [], none, 0, 0⟩⟩ : ArG))], HO4.out rfl, ?_, ?_, ?_⟩⟩
                · show _ ≤ k2 + 1
                  simp
                  omega
                · show _ ≤ f1 + (k2 + 1)
                  omega
                · rw [HR3.out, List.map_append]
                  rfl
              case measure => omega
            | false =>
              have hac : Pa.ac ts τ2 [44] = τ2 := if_neg (by rw [hI]; decide)
              rw [hac] at HP4
              have HR3 := Lib.hid (HR2.out.trans (if_neg (by rw [hI]; decide)))
              clear hac hI HR2
              go_wp2_with fail
              refine (rsMust w4 g ts HT.out.last HT.out.kinds τ2 d [41] HP4.out).mono ?_
              rintro x w5 ⟨rfl, hP5, hG5⟩
              have HP5 := Lib.hid hP5
              have HG5 := Lib.hid (grown_trans HG4.out hG5)
              have HO5 : Hid (τ2.live = true → OwnR arK 131 w5 w.heap.size (.slice (some ⟨gb, 0, none⟩) (P.length + 1) cap) (P ++ [((⟨true, r, noEx⟩ : Ar), (⟨A, n, c, ⟨0, 0, [], none, 0, 0⟩⟩ : ArG))])) := fun hl => (HO4.out hl).grown hG5 hgw
              clear hP5 hG5
              go_wp2_with fail
              go_ret
              refine ⟨_, _, _, rfl, fun hl => ?_, by rw [HR0.out, HR3.out]; exact HP5.out, HG5.out⟩
              rw [HR0.out, HR3.out] at hl ⊢
              have h1 := arsM_of_own (HO5.out (xp_live hl))
              rw [List.map_append] at h1
              exact ⟨by simp, h1⟩
          | false =>
            have hac : Pa.ac ts (.at_ k0) [109, 117, 116, 101, 120] = .at_ k0 := if_neg (by rw [hI]; decide)
            rw [hac] at HP1
            have hsa : Pa.sArg ts (.at_ k0) = (⟨false, noRf, Pa.exX ts (.at_ k0)⟩, Pa.exS ts (.at_ k0)) := if_neg (by rw [hI]; decide)
            have HR2 : Hid (R = if Pa.isS ts (Pa.exS ts (.at_ k0)) [44] = true then Pa.sArgL ts f1 (Pa.nx (Pa.exS ts (.at_ k0))) (P.map (·.1) ++ [⟨false, noRf, Pa.exX ts (.at_ k0)⟩]) else (P.map (·.1) ++ [⟨false, noRf, Pa.exX ts (.at_ k0)⟩], Pa.xp ts (Pa.exS ts (.at_ k0)) [41])) := by
              show _ = _
              rw [← HR.out, Pa.sArgL, hsa]
            rw [hsa] at HFW
            dsimp only at HFW
            clear hac hI hsa HR
            go_wp2_with fail
            refine (rsExpr w1 g ts HT.out (.at_ k0) d HP1.out).mono ?_
            rintro x w2 ⟨f, rfl, hP2, hG2, hX2⟩
            unfold EF.val
            generalize Pa.exX ts (.at_ k0) = E at *
            generalize Pa.exS ts (.at_ k0) = τ2 at *
            obtain ⟨q0, q1, q2, q3, q4, q5, q6, qf, -⟩ := blk7 (kept_own hG2 HB1.out hne)
            have u0 := qf 0
            have u1 := qf 1
            have u2 := qf 2
            have u3 := qf 3
            have u4 := qf 4
            have u5 := qf 5
            have u6 := qf 6
            have HX2 := Lib.hid hX2
            have HP2 := Lib.hid hP2
            have HG2 := Lib.hid (grown_trans HG1.out hG2)
            have HK2 : Hid (∀ b, w.heap.size ≤ b → b < wr.heap.size → w2.heap[b]? = wr.heap[b]?) := fun b hb hl => (hG2.block b (by omega) (fun e => by injection e with e; omega)).trans (HK1.out b hb hl)
            have hl2 : w1.heap.size ≤ w2.heap.size := hG2.size
            clear hX2 hP2 hG2 qf HB1 HP1 HG1 HK1
            have HQ := Lib.hid (((((PutAt.refl wr.heap.size w2).set 3 (.int .i64 f.op)).set 4 (.int .i64 f.num)).set 5 (.string ⟨f.name.toArray⟩)).set 6 (.slice f.A f.n f.c))
            have HO2 := Lib.hid (HO.out.keep (Nat.le_trans (by omega) (Nat.le_of_eq HQ.out.2.2.2.1.symm)) (fun b hb hl => (HQ.out.2.2.2.2 b (by omega)).trans (HK2.out b hb hl)))
            have HSZ := Lib.hid HQ.out.2.2.2.1
            go_wp2_with (first | (at_builtin; refine wpList_append_lies _ rfl (.tmp 23) (.tmp 25) 124 rfl w.heap.size 131 i0 _ 7 104 Tryd.underlying124 hi hz0 hz1 hz2 rfl (by decide) _ P.length (arK.cs P) rfl (HO2.out.alloc _).1 ⟨w2.heap.size, 0, none⟩ 1 1 [.bool false, .string ⟨#[]⟩, .slice none 0 0, .int .i64 f.op, .int .i64 f.num, .string ⟨f.name.toArray⟩, .slice f.A f.n f.c] rfl rfl (news_any _ _ HSZ.out.symm _ _) (arK.one ((⟨false, noRf, E⟩ : Ar), (⟨none, 0, 0, f⟩ : ArG))) (by omega) (by unfold maxLen; omega) (by omega) (alloc_base _ (by omega) HSZ.out) _ rfl ?_))
            intro gb cap w3 hown hgrow hlies hgl
            have HO3 : Hid (τ2.live = true → OwnR arK 131 w3 w.heap.size (.slice (some ⟨gb, 0, none⟩) (P.length + 1) cap) (P ++ [((⟨false, noRf, E⟩ : Ar), (⟨none, 0, 0, f⟩ : ArG))])) := fun hl => (HO2.out.alloc _).snoc (arK.fresh (N := w1.heap.size) (arK.keep (show arK.In _ (w1.heap.size ≤ ·) ((⟨false, noRf, E⟩ : Ar), (⟨none, 0, 0, f⟩ : ArG)) from ⟨rfl, (HX2.out hl).putAt HQ.out (by omega)⟩) fun b _ hl => Below.heap_alloc _ _ b hl) HO.out (by omega) (by omega)) hown hgrow (lies_at hlies (alloc_size _ HSZ.out))
            have HP3 : Hid (Rs w3 g ts τ2 d) := ((HP2.out.putAt HQ.out (by omega)).alloc _).app (HO2.out.alloc _).1 hgw hgrow
            have HG3 : Hid (w.grownBy w3 (some g)) := grown_app (grown_alc (grown_putAt HG2.out HQ.out hwl) _) (HO2.out.alloc _).1 (Nat.le_refl _) hgrow
            clear hown hgrow hlies hgl HO2 HX2 HP2 HG2 HK2 HQ HSZ q0 q1 q2 q3 q4 q5 q6 u0 u1 u2 u3 u4 u5 u6 HO
            go_wp2_with fail
            refine (rsTake w3 g ts HT.out.last HT.out.kinds τ2 d [44] HP3.out).mono ?_
            rintro x w4 ⟨rfl, hP4, hG4⟩
            have HP4 := Lib.hid hP4
            have HG4 := Lib.hid (grown_trans HG3.out hG4)
            have HO4 : Hid (τ2.live = true → OwnR arK 131 w4 w.heap.size (.slice (some ⟨gb, 0, none⟩) (P.length + 1) cap) (P ++ [((⟨false, noRf, E⟩ : Ar), (⟨none, 0, 0, f⟩ : ArG))])) := fun hl => (HO3.out hl).grown hG4 hgw
            clear hP4 hG4 HO3 HP3 HG3
            cases hI : Pa.isS ts τ2 [44] with
            | true =>
              obtain ⟨k2, rfl, -, -⟩ := isS_at hI
              have hac : Pa.ac ts (.at_ k2) [44] = .at_ (k2 + 1) := if_pos hI
              rw [hac] at HP4
              have HR3 := Lib.hid (HR2.out.trans (if_pos hI))
              clear hac hI HR2
              go_wp2_with fail
              go_roundg f1
              case rel =>
                have h1 : k0 < k2 := (HFW.out rfl).2
                refine ⟨.at_ (k2 + 1), HP4.out, HG4.out, .inr ⟨rfl, P ++ [((⟨false, noRf, E⟩ : Ar), (⟨none, 0, 0, f⟩ : ArG))], HO4.out rfl, ?_, ?_, ?_⟩⟩
                · show _ ≤ k2 + 1
                  simp
                  omega
                · show _ ≤ f1 + (k2 + 1)
                  omega
                · rw [HR3.out, List.map_append]
                  rfl
              case measure => omega
            | false =>
              have hac : Pa.ac ts τ2 [44] = τ2 := if_neg (by rw [hI]; decide)
              rw [hac] at HP4
              have HR3 := Lib.hid (HR2.out.trans (if_neg (by rw [hI]; decide)))
              clear hac hI HR2
              go_wp2_with fail
              refine (rsMust w4 g ts HT.out.last HT.out.kinds τ2 d [41] HP4.out).mono ?_
              rintro x w5 ⟨rfl, hP5, hG5⟩
              have HP5 := Lib.hid hP5
              have HG5 := Lib.hid (grown_trans HG4.out hG5)
              have HO5 : Hid (τ2.live = true → OwnR arK 131 w5 w.heap.size (.slice (some ⟨gb, 0, none⟩) (P.length + 1) cap) (P ++ [((⟨false, noRf, E⟩ : Ar), (⟨none, 0, 0, f⟩ : ArG))])) := fun hl => (HO4.out hl).grown hG5 hgw
              clear hP5 hG5
              go_wp2_with fail
              go_ret
              refine ⟨_, _, _, rfl, fun hl => ?_, by rw [HR0.out, HR3.out]; exact HP5.out, HG5.out⟩
              rw [HR0.out, HR3.out] at hl ⊢
              have h1 := arsM_of_own (HO5.out (xp_live hl))
              rw [List.map_append] at h1
              exact ⟨by simp, h1⟩
end Go.Proofs.YtjjooekkieddbaaDoor

namespace Go.Proofs.YtjjooekkieddbaaDoor
open Go.RowKit

theorem sParam_dead (ts : List Tk.Tok) (i m e : Nat) : (Pa.sParam ts i (.bad m e)).2 = .bad m e := by
  rw [sParam_eq]
  have h : pmS ts i (.bad m e) = .bad m e := by
    unfold pmS
    split
    · unfold Pa.lm
      split <;> rfl
    · rfl
  rw [h]
  rfl
theorem sParamL_dead (ts : List Tk.Tok) (f m e : Nat) (l : List Pm) : (Pa.sParamL ts (f + 1) (.bad m e) l).2 = .bad m e := by
  rw [Pa.sParamL, if_neg (show ¬ Pa.isS ts (Pa.sParam ts l.length (.bad m e)).2 [44] = true from fun h => by rw [sParam_dead] at h; cases h), sParam_dead]
  rfl
theorem sParam_six (ts : List Tk.Tok) (i k : Nat) (h6 : 6 ≤ i) : (Pa.sParam ts i (.at_ k)).2.live = false := by
  rw [sParam_eq]
  unfold pmS
  by_cases h : Pa.isS ts (.at_ k) [109, 117, 116, 101, 120] = true ∨ Pa.kdS ts (.at_ k) 1 = true
  · rw [if_pos h]
    unfold Pa.lm
    rw [if_pos h6]
    rfl
  · rw [if_neg h]
    have h1 : Pa.ac ts (.at_ k) [109, 117, 116, 101, 120] = .at_ k := if_neg (fun e => h (.inl e))
    rw [h1]
    unfold Pa.tk
    rw [if_neg (fun e => h (.inr e))]
    rfl
theorem sParam_few (ts : List Tk.Tok) (i : Nat) (σ : Pa.Sg) (h6 : i < 6) : pmS ts i σ = σ := by
  unfold pmS
  split
  · unfold Pa.lm
    rw [if_neg (by omega)]
  · rfl
/-- what params leaves -/
def RpP (w : World) (g : Nat) (ts : List Tk.Tok) (σ : Pa.Sg) (d : Nat) (e : Ending) (w' : World) : Prop :=
  ∃ A n c, e = .returned (.slice A n c) ∧ ((Pa.sParams ts σ).2.live = true → n = (Pa.sParams ts σ).1.length ∧ PmsM w' (w.heap.size ≤ ·) (Pa.sParams ts σ).1 A) ∧ Rs w' g ts (Pa.sParams ts σ).2 d ∧ w.grownBy w' (some g)
/-- the loop of params -/
def RpL (w : World) (g : Nat) (ts : List Tk.Tok) (R : List Pm × Pa.Sg) (d f : Nat) (v : Value) (wr : World) : Prop :=
  ∃ τ, Rs wr g ts τ d ∧ w.grownBy wr (some g) ∧ ((τ.live = false ∧ R.2 = τ ∧ ∃ A n c, v = .slice A n c) ∨
    (τ.live = true ∧ ∃ P : List Pm, OwnR pmK 100 wr w.heap.size v P ∧ P.length ≤ 6 ∧ ts.length ≤ f + τ.k ∧ Pa.sParamL ts f τ P = R))

set_option maxRecDepth 100000 in
set_option maxHeartbeats 8000000 in
theorem rsParams (w : World) (g : Nat) (ts : List Tk.Tok) (hT : TksOk ts) (σ : Pa.Sg) (d : Nat) (hP : Rs w g ts σ d) :
    Calls Tryd.prog 53 #[.pointer (some ⟨g, 0, none⟩)] w (RpP w g ts σ d) := by
  obtain ⟨i0, hi, hz0, hz1, hz2⟩ := info_parts Tryd.infoPar
  have HP := Lib.hid hP
  have HT := Lib.hid hT
  have hgw := hP.lt
  clear hP hT
  go_enter Tryd.func53, Tryd.ntmps53
  go_wp2_with fail
  refine (rsMust w g ts HT.out.last HT.out.kinds σ d [40] HP.out).mono ?_
  rintro x w1 ⟨rfl, hP1, hG1⟩
  have HP1 := Lib.hid hP1
  have HG1 := Lib.hid hG1
  clear hP1 hG1
  generalize hσ1 : Pa.xp ts σ [40] = σ1 at *
  have HS1 := Lib.hid hσ1
  clear hσ1
  go_wp2_with fail
  refine (rsTake w1 g ts HT.out.last HT.out.kinds σ1 d [41] HP1.out).mono ?_
  rintro x w2 ⟨rfl, hP2, hG2⟩
  have HP2 := Lib.hid hP2
  have HG2 := Lib.hid (grown_trans HG1.out hG2)
  clear hP2 hG2
  cases hI : Pa.isS ts σ1 [41] with
  | true =>
    have HV : Hid (Pa.sParams ts σ = ([], Pa.nx σ1)) := by show _ = _; unfold Pa.sParams; rw [HS1.out, if_pos hI]
    have hac : Pa.ac ts σ1 [41] = Pa.nx σ1 := if_pos hI
    rw [hac] at HP2
    clear hac hI
    go_wp2_with fail
    go_ret
    refine ⟨none, 0, 0, rfl, fun _ => ?_, by rw [HV.out]; exact HP2.out, HG2.out⟩
    rw [HV.out]
    exact ⟨rfl, fun i hi => absurd hi (by simp)⟩
  | false =>
    have HV : Hid (Pa.sParams ts σ = Pa.sParamL ts (ts.length + 1) σ1 []) := by show _ = _; unfold Pa.sParams; rw [HS1.out, if_neg (by rw [hI]; decide)]
    have hac : Pa.ac ts σ1 [41] = σ1 := if_neg (by rw [hI]; decide)
    rw [hac] at HP2
    have HL0 : Hid (RpL w g ts (Pa.sParams ts σ) d (ts.length + 1) (.slice none 0 0) w2) := by
      refine ⟨σ1, HP2.out, HG2.out, ?_⟩
      cases σ1 with
      | at_ k => exact .inr ⟨rfl, [], OwnR.nil _ _ _ _, by simp, by omega, HV.out.symm⟩
      | bad m e => exact .inl ⟨rfl, by rw [HV.out]; exact sParamL_dead _ _ _ _ _, none, 0, 0, rfl⟩
    clear hac hI HV
    generalize hR0 : Pa.sParams ts σ = R at *
    have HR0 := Lib.hid hR0
    clear hR0
    go_wp2_with fail
    go_loopg [3] (ts.length + 1) (fun k v wr => Hid (RpL w g ts R d k v wr))
    case atStart => exact HL0.out
    case round =>
      clear HL0 HP2 HG2 HP1 HG1
      obtain ⟨τ, hP, hG, hcase⟩ := hrel.out
      clear hrel
      have HPr := Lib.hid hP
      have HGr := Lib.hid hG
      have hkT := hP.inT
      have s3 := hP.ecell
      have hwl : w.heap.size ≤ wr.heap.size := hG.size
      have hne : wr.heap.size ≠ g := by omega
      clear hP hG
      rcases hcase with ⟨hdead, hRe, A, n, c, rfl⟩ | ⟨hlive, P, hO, hPk, hfk, hR⟩
      · cases τ with
        | at_ k => cases hdead
        | bad m e =>
          have he : e ≠ 0 := HPr.out.err
          have t0 : (((Pa.Sg.bad m e).e : Int) == 0) = false := bF (show ((e : Nat) : Int) ≠ 0 by omega)
          have HRe := Lib.hid hRe
          clear he hRe hdead
          go_wp2_with fail
          go_ret
          refine ⟨A, n, c, rfl, fun h => ?_, by rw [HR0.out, HRe.out]; exact HPr.out, HGr.out⟩
          rw [HR0.out, HRe.out] at h
          cases h
      · cases τ with
        | bad m e => cases hlive
        | at_ k0 =>
          have hk3 : (Pa.Sg.at_ k0).k = k0 := rfl
          rw [hk3] at hfk hkT
          obtain ⟨sa, sc, rfl⟩ := hO.form
          have t0 : (((Pa.Sg.at_ k0).e : Int) == 0) = true := rfl
          obtain ⟨f1, rfl⟩ : ∃ f1, gk = f1 + 1 := ⟨gk - 1, by omega⟩
          have HO := Lib.hid hO
          have HFW := Lib.hid (Pa.sParam_fws ts P.length (.at_ k0))
          have HSX := Lib.hid (sParam_six ts P.length k0)
          have HSF := Lib.hid (sParam_few ts P.length (.at_ k0))
          have HR : Hid (R = if Pa.isS ts (Pa.sParam ts P.length (.at_ k0)).2 [44] = true then Pa.sParamL ts f1 (Pa.nx (Pa.sParam ts P.length (.at_ k0)).2) (P ++ [(Pa.sParam ts P.length (.at_ k0)).1]) else (P ++ [(Pa.sParam ts P.length (.at_ k0)).1], Pa.xp ts (Pa.sParam ts P.length (.at_ k0)).2 [41])) := by
            show _ = _
            rw [← hR, Pa.sParamL]
          clear hO hR hlive hk3
          rw [sParam_eq] at HR HFW HSX
          dsimp only at HR HFW HSX
          have HQM : Hid (pmS ts P.length (.at_ k0) = if Pa.isS ts (.at_ k0) [109, 117, 116, 101, 120] = true ∨ Pa.kdS ts (.at_ k0) 1 = true then Pa.lm (.at_ k0) P.length 6 else .at_ k0) := rfl
          by_cases h6 : P.length = 6
          · have t6 : ((P.length : Int) == 6) = true := bT (show (P.length : Int) = 6 by omega)
            have H6 := Lib.hid (show 6 ≤ P.length by omega)
            clear HSF h6
            go_wp2_with fail
            refine (rsIs wr g ts HT.out.kinds (.at_ k0) d [109, 117, 116, 101, 120] HPr.out).mono ?_
            rintro x wi ⟨rfl, hb1⟩
            have HPi := Lib.hid (HPr.out.later hb1)
            have HGi := Lib.hid (grown_trans HGr.out (grown_below (g := g) hb1))
            have HKi : Hid (∀ b, w.heap.size ≤ b → b < wr.heap.size → wi.heap[b]? = wr.heap[b]?) := fun b _ hl => hb1.block b hl
            have hli : wr.heap.size ≤ wi.heap.size := hb1.size
            clear hb1
            cases hM : Pa.isS ts (.at_ k0) [109, 117, 116, 101, 120] with
            | true =>
              have hq : pmS ts P.length (.at_ k0) = Pa.fl (.at_ k0) 3 := by rw [HQM.out, if_pos (.inl hM)]; exact if_pos H6.out
              rw [hq] at HR HFW HSX
              clear hM hq HQM
              go_wp2_with fail
              refine (rsFail wi g ts (.at_ k0) d 3 3 rfl (by decide) HPi.out).mono ?_
              rintro x wa ⟨rfl, hPa, hGa⟩
              have HPa := Lib.hid hPa
              have HGa := Lib.hid (grown_trans HGi.out hGa)
              have HKa : Hid (∀ b, w.heap.size ≤ b → b < wr.heap.size → wa.heap[b]? = wr.heap[b]?) := fun b hb hl => (hGa.block b (by omega) (fun e => by injection e with e; omega)).trans (HKi.out b hb hl)
              have hla : wr.heap.size ≤ wa.heap.size := Nat.le_trans hli hGa.size
              clear hPa hGa
              generalize Pa.fl (.at_ k0) 3 = ρ at *
              go_wp2_with fail
              refine (rsTake wa g ts HT.out.last HT.out.kinds ρ d [109, 117, 116, 101, 120] HPa.out).mono ?_
              rintro x w1 ⟨rfl, hP1, hG1⟩
              have HP1 := Lib.hid hP1
              have HG1 := Lib.hid (grown_trans HGa.out hG1)
              have hl1 : wr.heap.size ≤ w1.heap.size := Nat.le_trans hla hG1.size
              have hne1 : w1.heap.size ≠ g := by omega
              have HK1 : Hid (∀ b, w.heap.size ≤ b → b < wr.heap.size → w1.heap[b]? = wr.heap[b]?) := fun b hb hl => (hG1.block b (by omega) (fun e => by injection e with e; omega)).trans (HKa.out b hb hl)
              clear hP1 hG1
              generalize Pa.isS ts ρ [109, 117, 116, 101, 120] = mb at *
              go_wp2_with fail
              refine (rsName _ g ts HT.out.last _ d (HP1.out.alloc _)).mono ?_
              rintro x w2 ⟨rfl, hP2, hG2⟩
              obtain ⟨q0, q1, u0, u1, hl2⟩ := blk2 (kept_own hG2 (heap_alloc_new w1 _) hne1)
              have HP2 := Lib.hid hP2
              have HG2 := Lib.hid (grown_trans HG1.out (grown_of_alloc hG2))
              have HK2 : Hid (∀ b, w.heap.size ≤ b → b < wr.heap.size → w2.heap[b]? = wr.heap[b]?) := fun b hb hl => (hG2.block b (by simp; omega) (fun e => by injection e with e; omega)).trans ((Below.heap_alloc w1 _ b (by omega)).trans (HK1.out b hb hl))
              clear hP2 hG2 HP1 HG1 HK1
              generalize Pa.nmV ts (Pa.ac ts ρ [109, 117, 116, 101, 120]) = nn at *
              generalize Pa.tk ts (Pa.ac ts ρ [109, 117, 116, 101, 120]) 1 = τ2 at *
              have HQ := Lib.hid ((PutAt.refl w1.heap.size w2).set 0 (.string ⟨nn.toArray⟩))
              have HO2 := Lib.hid (HO.out.keep (Nat.le_trans (by omega) (Nat.le_of_eq HQ.out.2.2.2.1.symm)) (fun b hb hl => (HQ.out.2.2.2.2 b (by omega)).trans (HK2.out b hb hl)))
              have HSZ := Lib.hid HQ.out.2.2.2.1
              go_wp2_with (first | (at_builtin; refine wpList_append_lies _ rfl (.tmp 33) (.tmp 35) 61 rfl w.heap.size 100 i0 _ 2 24 Tryd.underlying61 hi hz0 hz1 hz2 rfl (by decide) _ P.length (pmK.cs P) rfl (HO2.out.alloc _).1 ⟨w2.heap.size, 0, none⟩ 1 1 [.string ⟨nn.toArray⟩, .bool mb] rfl rfl (news_any _ _ HSZ.out.symm _ _) (pmK.one (⟨nn, mb⟩ : Pm)) (by omega) (by unfold maxLen; omega) (by omega) (alloc_base _ (by omega) HSZ.out) _ rfl ?_))
              intro gb cap w3 hown hgrow hlies hgl
              have HO3 : Hid (OwnR pmK 100 w3 w.heap.size (.slice (some ⟨gb, 0, none⟩) (P.length + 1) cap) (P ++ [(⟨nn, mb⟩ : Pm)])) := (HO2.out.alloc _).snoc trivial hown hgrow (lies_at hlies (alloc_size _ HSZ.out))
              have HP3 : Hid (Rs w3 g ts τ2 d) := ((HP2.out.putAt HQ.out (by omega)).alloc _).app (HO2.out.alloc _).1 hgw hgrow
              have HG3 : Hid (w.grownBy w3 (some g)) := grown_app (grown_alc (grown_putAt HG2.out HQ.out (by omega)) _) (HO2.out.alloc _).1 (Nat.le_refl _) hgrow
              clear hown hgrow hlies hgl HO2 HP2 HG2 HK2 HQ HSZ q0 q1 u0 u1 HO
              go_wp2_with fail
              refine (rsTake w3 g ts HT.out.last HT.out.kinds τ2 d [44] HP3.out).mono ?_
              rintro x w4 ⟨rfl, hP4, hG4⟩
              have HP4 := Lib.hid hP4
              have HG4 := Lib.hid (grown_trans HG3.out hG4)
              have HO4 := Lib.hid (HO3.out.grown hG4 hgw)
              clear hP4 hG4 HO3 HP3 HG3
              cases hI : Pa.isS ts τ2 [44] with
              | true =>
                obtain ⟨k2, rfl, -, -⟩ := isS_at hI
                have hac : Pa.ac ts (.at_ k2) [44] = .at_ (k2 + 1) := if_pos hI
                rw [hac] at HP4
                have HR3 := Lib.hid (HR.out.trans (if_pos hI))
                clear hac hI HR
                go_wp2_with fail
                go_roundg f1
                case rel =>
                  have h1 : k0 < k2 := (HFW.out rfl).2
                  have h2 : P.length < 6 := by
                    rcases Nat.lt_or_ge P.length 6 with h | h
                    · exact h
                    · exact absurd (HSX.out h) (by intro h; cases h)
                  refine ⟨.at_ (k2 + 1), HP4.out, HG4.out, .inr ⟨rfl, P ++ [(⟨nn, mb⟩ : Pm)], HO4.out, by simp; omega, ?_, ?_⟩⟩
                  · show _ ≤ f1 + (k2 + 1)
                    omega
                  · rw [HR3.out]
                    rfl
                case measure => omega
              | false =>
                have hac : Pa.ac ts τ2 [44] = τ2 := if_neg (by rw [hI]; decide)
                rw [hac] at HP4
                have HR3 := Lib.hid (HR.out.trans (if_neg (by rw [hI]; decide)))
                clear hac hI HR
                go_wp2_with fail
                refine (rsMust w4 g ts HT.out.last HT.out.kinds τ2 d [41] HP4.out).mono ?_
                rintro x w5 ⟨rfl, hP5, hG5⟩
                have HP5 := Lib.hid hP5
                have HG5 := Lib.hid (grown_trans HG4.out hG5)
                have HO5 := Lib.hid (HO4.out.grown hG5 hgw)
                clear hP5 hG5
                go_wp2_with fail
                go_ret
                refine ⟨_, _, _, rfl, fun hl => ?_, by rw [HR0.out, HR3.out]; exact HP5.out, HG5.out⟩
                rw [HR0.out, HR3.out]
                exact ⟨by simp, pmsM_of_own HO5.out⟩
            | false =>
              go_wp2_with fail
              refine (rsKind wi g ts (.at_ k0) d 1 1 rfl HPi.out).mono ?_
              rintro x wj ⟨rfl, hb1⟩
              have HPj := Lib.hid (HPi.out.later hb1)
              have HGj := Lib.hid (grown_trans HGi.out (grown_below (g := g) hb1))
              have HKj : Hid (∀ b, w.heap.size ≤ b → b < wr.heap.size → wj.heap[b]? = wr.heap[b]?) := fun b hb hl => (hb1.block b (by omega)).trans (HKi.out b hb hl)
              have hlj : wr.heap.size ≤ wj.heap.size := Nat.le_trans hli hb1.size
              clear hb1 HPi HGi HKi
              cases hK : Pa.kdS ts (.at_ k0) 1 with
              | true =>
                have hq : pmS ts P.length (.at_ k0) = Pa.fl (.at_ k0) 3 := by rw [HQM.out, if_pos (.inr hK)]; exact if_pos H6.out
                rw [hq] at HR HFW HSX
                clear hM hK hq HQM
                go_wp2_with fail
                refine (rsFail wj g ts (.at_ k0) d 3 3 rfl (by decide) HPj.out).mono ?_
                rintro x wa ⟨rfl, hPa, hGa⟩
                have HPa := Lib.hid hPa
                have HGa := Lib.hid (grown_trans HGj.out hGa)
                have HKa : Hid (∀ b, w.heap.size ≤ b → b < wr.heap.size → wa.heap[b]? = wr.heap[b]?) := fun b hb hl => (hGa.block b (by omega) (fun e => by injection e with e; omega)).trans (HKj.out b hb hl)
                have hla : wr.heap.size ≤ wa.heap.size := Nat.le_trans hlj hGa.size
                clear hPa hGa
                generalize Pa.fl (.at_ k0) 3 = ρ at *
                go_wp2_with fail
                refine (rsTake wa g ts HT.out.last HT.out.kinds ρ d [109, 117, 116, 101, 120] HPa.out).mono ?_
                rintro x w1 ⟨rfl, hP1, hG1⟩
                have HP1 := Lib.hid hP1
                have HG1 := Lib.hid (grown_trans HGa.out hG1)
                have hl1 : wr.heap.size ≤ w1.heap.size := Nat.le_trans hla hG1.size
                have hne1 : w1.heap.size ≠ g := by omega
                have HK1 : Hid (∀ b, w.heap.size ≤ b → b < wr.heap.size → w1.heap[b]? = wr.heap[b]?) := fun b hb hl => (hG1.block b (by omega) (fun e => by injection e with e; omega)).trans (HKa.out b hb hl)
                clear hP1 hG1
                generalize Pa.isS ts ρ [109, 117, 116, 101, 120] = mb at *
                go_wp2_with fail
                refine (rsName _ g ts HT.out.last _ d (HP1.out.alloc _)).mono ?_
                rintro x w2 ⟨rfl, hP2, hG2⟩
                obtain ⟨q0, q1, u0, u1, hl2⟩ := blk2 (kept_own hG2 (heap_alloc_new w1 _) hne1)
                have HP2 := Lib.hid hP2
                have HG2 := Lib.hid (grown_trans HG1.out (grown_of_alloc hG2))
                have HK2 : Hid (∀ b, w.heap.size ≤ b → b < wr.heap.size → w2.heap[b]? = wr.heap[b]?) := fun b hb hl => (hG2.block b (by simp; omega) (fun e => by injection e with e; omega)).trans ((Below.heap_alloc w1 _ b (by omega)).trans (HK1.out b hb hl))
                clear hP2 hG2 HP1 HG1 HK1
                generalize Pa.nmV ts (Pa.ac ts ρ [109, 117, 116, 101, 120]) = nn at *
                generalize Pa.tk ts (Pa.ac ts ρ [109, 117, 116, 101, 120]) 1 = τ2 at *
                have HQ := Lib.hid ((PutAt.refl w1.heap.size w2).set 0 (.string ⟨nn.toArray⟩))
                have HO2 := Lib.hid (HO.out.keep (Nat.le_trans (by omega) (Nat.le_of_eq HQ.out.2.2.2.1.symm)) (fun b hb hl => (HQ.out.2.2.2.2 b (by omega)).trans (HK2.out b hb hl)))
                have HSZ := Lib.hid HQ.out.2.2.2.1
                go_wp2_with (first | (at_builtin; refine wpList_append_lies _ rfl (.tmp 33) (.tmp 35) 61 rfl w.heap.size 100 i0 _ 2 24 Tryd.underlying61 hi hz0 hz1 hz2 rfl (by decide) _ P.length (pmK.cs P) rfl (HO2.out.alloc _).1 ⟨w2.heap.size, 0, none⟩ 1 1 [.string ⟨nn.toArray⟩, .bool mb] rfl rfl (news_any _ _ HSZ.out.symm _ _) (pmK.one (⟨nn, mb⟩ : Pm)) (by omega) (by unfold maxLen; omega) (by omega) (alloc_base _ (by omega) HSZ.out) _ rfl ?_))
                intro gb cap w3 hown hgrow hlies hgl
                have HO3 : Hid (OwnR pmK 100 w3 w.heap.size (.slice (some ⟨gb, 0, none⟩) (P.length + 1) cap) (P ++ [(⟨nn, mb⟩ : Pm)])) := (HO2.out.alloc _).snoc trivial hown hgrow (lies_at hlies (alloc_size _ HSZ.out))
                have HP3 : Hid (Rs w3 g ts τ2 d) := ((HP2.out.putAt HQ.out (by omega)).alloc _).app (HO2.out.alloc _).1 hgw hgrow
                have HG3 : Hid (w.grownBy w3 (some g)) := grown_app (grown_alc (grown_putAt HG2.out HQ.out (by omega)) _) (HO2.out.alloc _).1 (Nat.le_refl _) hgrow
                clear hown hgrow hlies hgl HO2 HP2 HG2 HK2 HQ HSZ q0 q1 u0 u1 HO
                go_wp2_with fail
                refine (rsTake w3 g ts HT.out.last HT.out.kinds τ2 d [44] HP3.out).mono ?_
                rintro x w4 ⟨rfl, hP4, hG4⟩
                have HP4 := Lib.hid hP4
                have HG4 := Lib.hid (grown_trans HG3.out hG4)
                have HO4 := Lib.hid (HO3.out.grown hG4 hgw)
                clear hP4 hG4 HO3 HP3 HG3
                cases hI : Pa.isS ts τ2 [44] with
                | true =>
                  obtain ⟨k2, rfl, -, -⟩ := isS_at hI
                  have hac : Pa.ac ts (.at_ k2) [44] = .at_ (k2 + 1) := if_pos hI
                  rw [hac] at HP4
                  have HR3 := Lib.hid (HR.out.trans (if_pos hI))
                  clear hac hI HR
                  go_wp2_with fail
                  go_roundg f1
                  case rel =>
                    have h1 : k0 < k2 := (HFW.out rfl).2
                    have h2 : P.length < 6 := by
                      rcases Nat.lt_or_ge P.length 6 with h | h
                      · exact h
                      · exact absurd (HSX.out h) (by intro h; cases h)
                    refine ⟨.at_ (k2 + 1), HP4.out, HG4.out, .inr ⟨rfl, P ++ [(⟨nn, mb⟩ : Pm)], HO4.out, by simp; omega, ?_, ?_⟩⟩
                    · show _ ≤ f1 + (k2 + 1)
                      omega
                    · rw [HR3.out]
                      rfl
                  case measure => omega
                | false =>
                  have hac : Pa.ac ts τ2 [44] = τ2 := if_neg (by rw [hI]; decide)
                  rw [hac] at HP4
                  have HR3 := Lib.hid (HR.out.trans (if_neg (by rw [hI]; decide)))
                  clear hac hI HR
                  go_wp2_with fail
                  refine (rsMust w4 g ts HT.out.last HT.out.kinds τ2 d [41] HP4.out).mono ?_
                  rintro x w5 ⟨rfl, hP5, hG5⟩
                  have HP5 := Lib.hid hP5
                  have HG5 := Lib.hid (grown_trans HG4.out hG5)
                  have HO5 := Lib.hid (HO4.out.grown hG5 hgw)
                  clear hP5 hG5
                  go_wp2_with fail
                  go_ret
                  refine ⟨_, _, _, rfl, fun hl => ?_, by rw [HR0.out, HR3.out]; exact HP5.out, HG5.out⟩
                  rw [HR0.out, HR3.out]
                  exact ⟨by simp, pmsM_of_own HO5.out⟩
              | false =>
                have hq : pmS ts P.length (.at_ k0) = .at_ k0 := by rw [HQM.out, if_neg (by rw [hM, hK]; decide)]
                rw [hq] at HR HFW HSX
                obtain ⟨wa, hwa⟩ : ∃ W, W = wj := ⟨_, rfl⟩
                subst hwa
                obtain ⟨ρ, hρ⟩ : ∃ ρ, ρ = Pa.Sg.at_ k0 := ⟨_, rfl⟩
                have HPa : Hid (Rs wa g ts ρ d) := by rw [hρ]; exact HPj.out
                have HGa := HGj
                have HKa := HKj
                have hla := hlj
                rw [← hρ] at HR HSX
                have HFW2 : Hid (Pa.Fws (.at_ k0) (Pa.tk ts (Pa.ac ts ρ [109, 117, 116, 101, 120]) 1)) := by rw [hρ]; exact HFW.out
                clear HFW
                have HFW := HFW2
                clear hM hK hq HQM hρ HFW2
                go_wp2_with fail
                refine (rsTake wa g ts HT.out.last HT.out.kinds ρ d [109, 117, 116, 101, 120] HPa.out).mono ?_
                rintro x w1 ⟨rfl, hP1, hG1⟩
                have HP1 := Lib.hid hP1
                have HG1 := Lib.hid (grown_trans HGa.out hG1)
                have hl1 : wr.heap.size ≤ w1.heap.size := Nat.le_trans hla hG1.size
                have hne1 : w1.heap.size ≠ g := by omega
                have HK1 : Hid (∀ b, w.heap.size ≤ b → b < wr.heap.size → w1.heap[b]? = wr.heap[b]?) := fun b hb hl => (hG1.block b (by omega) (fun e => by injection e with e; omega)).trans (HKa.out b hb hl)
                clear hP1 hG1
                generalize Pa.isS ts ρ [109, 117, 116, 101, 120] = mb at *
                go_wp2_with fail
                refine (rsName _ g ts HT.out.last _ d (HP1.out.alloc _)).mono ?_
                rintro x w2 ⟨rfl, hP2, hG2⟩
                obtain ⟨q0, q1, u0, u1, hl2⟩ := blk2 (kept_own hG2 (heap_alloc_new w1 _) hne1)
                have HP2 := Lib.hid hP2
                have HG2 := Lib.hid (grown_trans HG1.out (grown_of_alloc hG2))
                have HK2 : Hid (∀ b, w.heap.size ≤ b → b < wr.heap.size → w2.heap[b]? = wr.heap[b]?) := fun b hb hl => (hG2.block b (by simp; omega) (fun e => by injection e with e; omega)).trans ((Below.heap_alloc w1 _ b (by omega)).trans (HK1.out b hb hl))
                clear hP2 hG2 HP1 HG1 HK1
                generalize Pa.nmV ts (Pa.ac ts ρ [109, 117, 116, 101, 120]) = nn at *
                generalize Pa.tk ts (Pa.ac ts ρ [109, 117, 116, 101, 120]) 1 = τ2 at *
                have HQ := Lib.hid ((PutAt.refl w1.heap.size w2).set 0 (.string ⟨nn.toArray⟩))
                have HO2 := Lib.hid (HO.out.keep (Nat.le_trans (by omega) (Nat.le_of_eq HQ.out.2.2.2.1.symm)) (fun b hb hl => (HQ.out.2.2.2.2 b (by omega)).trans (HK2.out b hb hl)))
                have HSZ := Lib.hid HQ.out.2.2.2.1
                go_wp2_with (first | (at_builtin; refine wpList_append_lies _ rfl (.tmp 33) (.tmp 35) 61 rfl w.heap.size 100 i0 _ 2 24 Tryd.underlying61 hi hz0 hz1 hz2 rfl (by decide) _ P.length (pmK.cs P) rfl (HO2.out.alloc _).1 ⟨w2.heap.size, 0, none⟩ 1 1 [.string ⟨nn.toArray⟩, .bool mb] rfl rfl (news_any _ _ HSZ.out.symm _ _) (pmK.one (⟨nn, mb⟩ : Pm)) (by omega) (by unfold maxLen; omega) (by omega) (alloc_base _ (by omega) HSZ.out) _ rfl ?_))
                intro gb cap w3 hown hgrow hlies hgl
                have HO3 : Hid (OwnR pmK 100 w3 w.heap.size (.slice (some ⟨gb, 0, none⟩) (P.length + 1) cap) (P ++ [(⟨nn, mb⟩ : Pm)])) := (HO2.out.alloc _).snoc trivial hown hgrow (lies_at hlies (alloc_size _ HSZ.out))
                have HP3 : Hid (Rs w3 g ts τ2 d) := ((HP2.out.putAt HQ.out (by omega)).alloc _).app (HO2.out.alloc _).1 hgw hgrow
                have HG3 : Hid (w.grownBy w3 (some g)) := grown_app (grown_alc (grown_putAt HG2.out HQ.out (by omega)) _) (HO2.out.alloc _).1 (Nat.le_refl _) hgrow
                clear hown hgrow hlies hgl HO2 HP2 HG2 HK2 HQ HSZ q0 q1 u0 u1 HO
                go_wp2_with fail
                refine (rsTake w3 g ts HT.out.last HT.out.kinds τ2 d [44] HP3.out).mono ?_
                rintro x w4 ⟨rfl, hP4, hG4⟩
                have HP4 := Lib.hid hP4
                have HG4 := Lib.hid (grown_trans HG3.out hG4)
                have HO4 := Lib.hid (HO3.out.grown hG4 hgw)
                clear hP4 hG4 HO3 HP3 HG3
                cases hI : Pa.isS ts τ2 [44] with
                | true =>
                  obtain ⟨k2, rfl, -, -⟩ := isS_at hI
                  have hac : Pa.ac ts (.at_ k2) [44] = .at_ (k2 + 1) := if_pos hI
                  rw [hac] at HP4
                  have HR3 := Lib.hid (HR.out.trans (if_pos hI))
                  clear hac hI HR
                  go_wp2_with fail
                  go_roundg f1
                  case rel =>
                    have h1 : k0 < k2 := (HFW.out rfl).2
                    have h2 : P.length < 6 := by
                      rcases Nat.lt_or_ge P.length 6 with h | h
                      · exact h
                      · exact absurd (HSX.out h) (by intro h; cases h)
                    refine ⟨.at_ (k2 + 1), HP4.out, HG4.out, .inr ⟨rfl, P ++ [(⟨nn, mb⟩ : Pm)], HO4.out, by simp; omega, ?_, ?_⟩⟩
                    · show _ ≤ f1 + (k2 + 1)
                      omega
                    · rw [HR3.out]
                      rfl
                  case measure => omega
                | false =>
                  have hac : Pa.ac ts τ2 [44] = τ2 := if_neg (by rw [hI]; decide)
                  rw [hac] at HP4
                  have HR3 := Lib.hid (HR.out.trans (if_neg (by rw [hI]; decide)))
                  clear hac hI HR
                  go_wp2_with fail
                  refine (rsMust w4 g ts HT.out.last HT.out.kinds τ2 d [41] HP4.out).mono ?_
                  rintro x w5 ⟨rfl, hP5, hG5⟩
                  have HP5 := Lib.hid hP5
                  have HG5 := Lib.hid (grown_trans HG4.out hG5)
                  have HO5 := Lib.hid (HO4.out.grown hG5 hgw)
                  clear hP5 hG5
                  go_wp2_with fail
                  go_ret
                  refine ⟨_, _, _, rfl, fun hl => ?_, by rw [HR0.out, HR3.out]; exact HP5.out, HG5.out⟩
                  rw [HR0.out, HR3.out]
                  exact ⟨by simp, pmsM_of_own HO5.out⟩
          · have t6 : ((P.length : Int) == 6) = false := bF (show (P.length : Int) ≠ 6 by omega)
            have hq : pmS ts P.length (.at_ k0) = .at_ k0 := HSF.out (by omega)
            clear h6
            rw [hq] at HR HFW HSX
            obtain ⟨wa, hwa⟩ : ∃ W, W = wr := ⟨_, rfl⟩
            obtain ⟨ρ, hρ⟩ : ∃ ρ, ρ = Pa.Sg.at_ k0 := ⟨_, rfl⟩
            have HPa : Hid (Rs wr g ts ρ d) := by rw [hρ]; exact HPr.out
            have HGa := HGr
            have HKa : Hid (∀ b, w.heap.size ≤ b → b < wr.heap.size → wr.heap[b]? = wr.heap[b]?) := fun b _ _ => rfl
            have hla : wr.heap.size ≤ wr.heap.size := Nat.le_refl _
            rw [← hρ] at HR HSX
            have HFW2 : Hid (Pa.Fws (.at_ k0) (Pa.tk ts (Pa.ac ts ρ [109, 117, 116, 101, 120]) 1)) := by rw [hρ]; exact HFW.out
            clear HFW
            have HFW := HFW2
            clear hq HQM hρ HFW2 HSF hwa wa
            go_wp2_with fail
            refine (rsTake wr g ts HT.out.last HT.out.kinds ρ d [109, 117, 116, 101, 120] HPa.out).mono ?_
            rintro x w1 ⟨rfl, hP1, hG1⟩
            have HP1 := Lib.hid hP1
            have HG1 := Lib.hid (grown_trans HGa.out hG1)
            have hl1 : wr.heap.size ≤ w1.heap.size := Nat.le_trans hla hG1.size
            have hne1 : w1.heap.size ≠ g := by omega
            have HK1 : Hid (∀ b, w.heap.size ≤ b → b < wr.heap.size → w1.heap[b]? = wr.heap[b]?) := fun b hb hl => (hG1.block b (by omega) (fun e => by injection e with e; omega))
            clear hP1 hG1
            generalize Pa.isS ts ρ [109, 117, 116, 101, 120] = mb at *
            go_wp2_with fail
            refine (rsName _ g ts HT.out.last _ d (HP1.out.alloc _)).mono ?_
            rintro x w2 ⟨rfl, hP2, hG2⟩
            obtain ⟨q0, q1, u0, u1, hl2⟩ := blk2 (kept_own hG2 (heap_alloc_new w1 _) hne1)
            have HP2 := Lib.hid hP2
            have HG2 := Lib.hid (grown_trans HG1.out (grown_of_alloc hG2))
            have HK2 : Hid (∀ b, w.heap.size ≤ b → b < wr.heap.size → w2.heap[b]? = wr.heap[b]?) := fun b hb hl => (hG2.block b (by simp; omega) (fun e => by injection e with e; omega)).trans ((Below.heap_alloc w1 _ b (by omega)).trans (HK1.out b hb hl))
            clear hP2 hG2 HP1 HG1 HK1
            generalize Pa.nmV ts (Pa.ac ts ρ [109, 117, 116, 101, 120]) = nn at *
            generalize Pa.tk ts (Pa.ac ts ρ [109, 117, 116, 101, 120]) 1 = τ2 at *
            have HQ := Lib.hid ((PutAt.refl w1.heap.size w2).set 0 (.string ⟨nn.toArray⟩))
            have HO2 := Lib.hid (HO.out.keep (Nat.le_trans (by omega) (Nat.le_of_eq HQ.out.2.2.2.1.symm)) (fun b hb hl => (HQ.out.2.2.2.2 b (by omega)).trans (HK2.out b hb hl)))
            have HSZ := Lib.hid HQ.out.2.2.2.1
            go_wp2_with (first | (at_builtin; refine wpList_append_lies _ rfl (.tmp 33) (.tmp 35) 61 rfl w.heap.size 100 i0 _ 2 24 Tryd.underlying61 hi hz0 hz1 hz2 rfl (by decide) _ P.length (pmK.cs P) rfl (HO2.out.alloc _).1 ⟨w2.heap.size, 0, none⟩ 1 1 [.string ⟨nn.toArray⟩, .bool mb] rfl rfl (news_any _ _ HSZ.out.symm _ _) (pmK.one (⟨nn, mb⟩ : Pm)) (by omega) (by unfold maxLen; omega) (by omega) (alloc_base _ (by omega) HSZ.out) _ rfl ?_))
            intro gb cap w3 hown hgrow hlies hgl
            have HO3 : Hid (OwnR pmK 100 w3 w.heap.size (.slice (some ⟨gb, 0, none⟩) (P.length + 1) cap) (P ++ [(⟨nn, mb⟩ : Pm)])) := (HO2.out.alloc _).snoc trivial hown hgrow (lies_at hlies (alloc_size _ HSZ.out))
            have HP3 : Hid (Rs w3 g ts τ2 d) := ((HP2.out.putAt HQ.out (by omega)).alloc _).app (HO2.out.alloc _).1 hgw hgrow
            have HG3 : Hid (w.grownBy w3 (some g)) := grown_app (grown_alc (grown_putAt HG2.out HQ.out (by omega)) _) (HO2.out.alloc _).1 (Nat.le_refl _) hgrow
            clear hown hgrow hlies hgl HO2 HP2 HG2 HK2 HQ HSZ q0 q1 u0 u1 HO
            go_wp2_with fail
            refine (rsTake w3 g ts HT.out.last HT.out.kinds τ2 d [44] HP3.out).mono ?_
            rintro x w4 ⟨rfl, hP4, hG4⟩
            have HP4 := Lib.hid hP4
            have HG4 := Lib.hid (grown_trans HG3.out hG4)
            have HO4 := Lib.hid (HO3.out.grown hG4 hgw)
            clear hP4 hG4 HO3 HP3 HG3
            cases hI : Pa.isS ts τ2 [44] with
            | true =>
              obtain ⟨k2, rfl, -, -⟩ := isS_at hI
              have hac : Pa.ac ts (.at_ k2) [44] = .at_ (k2 + 1) := if_pos hI
              rw [hac] at HP4
              have HR3 := Lib.hid (HR.out.trans (if_pos hI))
              clear hac hI HR
              go_wp2_with fail
              go_roundg f1
              case rel =>
                have h1 : k0 < k2 := (HFW.out rfl).2
                have h2 : P.length < 6 := by
                  rcases Nat.lt_or_ge P.length 6 with h | h
                  · exact h
                  · exact absurd (HSX.out h) (by intro h; cases h)
                refine ⟨.at_ (k2 + 1), HP4.out, HG4.out, .inr ⟨rfl, P ++ [(⟨nn, mb⟩ : Pm)], HO4.out, by simp; omega, ?_, ?_⟩⟩
                · show _ ≤ f1 + (k2 + 1)
                  omega
                · rw [HR3.out]
                  rfl
              case measure => omega
            | false =>
              have hac : Pa.ac ts τ2 [44] = τ2 := if_neg (by rw [hI]; decide)
              rw [hac] at HP4
              have HR3 := Lib.hid (HR.out.trans (if_neg (by rw [hI]; decide)))
              clear hac hI HR
              go_wp2_with fail
              refine (rsMust w4 g ts HT.out.last HT.out.kinds τ2 d [41] HP4.out).mono ?_
              rintro x w5 ⟨rfl, hP5, hG5⟩
              have HP5 := Lib.hid hP5
              have HG5 := Lib.hid (grown_trans HG4.out hG5)
              have HO5 := Lib.hid (HO4.out.grown hG5 hgw)
              clear hP5 hG5
              go_wp2_with fail
              go_ret
              refine ⟨_, _, _, rfl, fun hl => ?_, by rw [HR0.out, HR3.out]; exact HP5.out, HG5.out⟩
              rw [HR0.out, HR3.out]
              exact ⟨by simp, pmsM_of_own HO5.out⟩
end Go.Proofs.YtjjooekkieddbaaDoor
