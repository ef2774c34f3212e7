/- The walk of ExprParse: true for all arguments. -/
import Derived.Test.YtbaenhcmkigfcaaGreatDoorLw2SameG
import Derived.Test.YtbaenhcmkigfcaaGreatDoorGFmt
import Derived.Deep.RegionHeld3
namespace Go.Proofs.YtbaenhcmkigfcaaGreatDoor
open Go.RowKit

/-- the bytes of a block of the call's own, which may be written -/
def BytO (w : World) (g : Nat) (l : List UInt8) : Prop := ∀ i (h : i < l.length), w.cell? ⟨g, i, none⟩ = some (.int .u8 (l[i].toNat : Int)) ∧ w.frozen? ⟨g, i, none⟩ = false
theorem BytO.byt {w : World} {g : Nat} {l : List UInt8} (h : BytO w g l) : Byt w (some ⟨g, 0, none⟩) l := by
  intro i hi
  exact ⟨g, 0, rfl, by rw [Nat.zero_add]; exact (h i hi).1⟩
theorem conv_own (s : List UInt8) (w : World) : ∃ c W1, (convert 9 23 (.string ⟨s.toArray⟩)).run Tryz.prog w = .ok (.slice (some ⟨w.heap.size, 0, none⟩) s.length c) W1 ∧ BytO W1 w.heap.size s ∧ s.length ≤ c ∧ Below w.heap.size w W1 := by
  have h := run_bytes_of_string (P := Tryz.prog) w 9 23 5 ⟨s.toArray⟩ Tryz.underlying9 Tryz.underlying23 Tryz.underlying5
  have hs : (⟨s.toArray⟩ : ByteArray).size = s.length := by simp [ByteArray.size]
  rw [hs] at h
  refine ⟨_, _, h, ?_, grownCap_ge _ _ _ _, ((Below.refl _ _).drew).alloc (Nat.le_refl _) _⟩
  intro i hi
  constructor
  · refine (World.cell?_alloc_mark w.drew _ _ _ i).trans ?_
    rw [bytesRow_at _ _ i (by simpa using hi)]
    simp
  · have hn : ∀ (C : Array Value) (t : TypeId), i < C.size → (w.drew.alloc (.cells C t (C.size, C.size + 1))).frozen? ⟨w.heap.size, i, none⟩ = false := by
      intro C t hC
      have hb : (w.drew.alloc (.cells C t (C.size, C.size + 1))).heap[w.heap.size]? = some (.cells C t (C.size, C.size + 1)) := heap_alloc_new w.drew _
      unfold World.frozen?
      rw [hb]
      simp
      omega
    refine hn _ _ ?_
    unfold bytesRow
    simp
    omega
theorem BytO.set {w : World} {g : Nat} {l : List UInt8} (h : BytO w g l) (j : Nat) (_hj : j < l.length) (x : UInt8) (v : Value) (hv : v = .int .u8 (x.toNat : Int)) : BytO (w.setCell ⟨g, j, none⟩ v) g (l.set j x) := by
  intro i hi
  rw [List.length_set] at hi
  obtain ⟨h1, h2⟩ := h i hi
  refine ⟨?_, by rw [World.frozen?_setCell]; exact h2⟩
  by_cases e : j = i
  · subst e
    rw [World.cell?_setCell_same _ _ _ h1, hv, List.getElem_set_self]
  · rw [World.cell?_setCell_other _ _ _ _ (by intro he; injection he with _ he; exact e he), h1, List.getElem_set_ne e]
theorem keep_one {w : World} {b i : Nat} {p : Addr} {v u : Value} (h : w.cell? ⟨b, i, none⟩ = some v) (hne : b ≠ p.block) : (w.setCell p u).drew.cell? ⟨b, i, none⟩ = some v := by
  show (w.setCell p u).cell? ⟨b, i, none⟩ = some v
  exact (World.cell?_of_block (a := ⟨b, i, none⟩) (Below.heap_setCell w p u b hne)).trans h
theorem BytO.drew {w : World} {g : Nat} {l : List UInt8} (h : BytO w g l) : BytO w.drew g l := h

/-- the words are no signs -/
theorem words_ok : (Tk.words.all fun s => !(([40] :: [41] :: Ps.sgTab).contains s)) = true := by kernel_rfl
def tokQ (n : Nat) (t : Tk.Tok) : Prop := (t.kind = 3 → Tk.resv t.text = true) ∧ t.text.length ≤ n
theorem tokAt_q (l : List UInt8) (k : Nat) (t : Tk.Tok) (h : Tk.tokAt l k = .ok t) : tokQ l.length t := by
  have htw : ∀ p : UInt8 → Bool, ((l.drop k).takeWhile p).length ≤ l.length := fun p => Nat.le_trans (List.takeWhile_sublist p).length_le (by simp)
  unfold Tk.tokAt at h
  split at h
  · unfold Tk.nameAt at h
    dsimp only at h
    split at h
    · cases h
    · injection h with h
      subst h
      refine ⟨?_, htw _⟩
      dsimp only
      intro h3
      split at h3
      · assumption
      · exact absurd h3 (by decide)
  split at h
  · unfold Tk.numAt at h
    dsimp only at h
    split at h
    · cases h
    · injection h with h
      subst h
      exact ⟨fun h3 => absurd (show (2 : Nat) = 3 from h3) (by decide), htw _⟩
  · unfold Tk.signAt at h
    split at h
    · injection h with h
      subst h
      exact ⟨fun h3 => absurd (show (4 : Nat) = 3 from h3) (by decide), by simp; omega⟩
    split at h
    · injection h with h
      subst h
      exact ⟨fun h3 => absurd (show (4 : Nat) = 3 from h3) (by decide), by simp; omega⟩
    · cases h
theorem lexGo_q (f : Nat) (l : List UInt8) : ∀ (k : Nat) (acc : List Tk.Tok), (∀ t ∈ acc, tokQ l.length t) → ∀ t ∈ (Tk.lexGo f l k acc).1, tokQ l.length t := by
  induction f with
  | zero => intro k acc _ t ht; rw [Tk.lexGo] at ht; cases ht
  | succ f ih =>
    intro k acc ha
    rw [Tk.lexGo]
    split
    · intro t ht
      rcases List.mem_append.1 ht with h | h
      · exact ha t h
      · rw [List.mem_singleton.1 h]
        exact ⟨fun h3 => absurd (show (5 : Nat) = 3 from h3) (by decide), by simp⟩
    · split
      · intro t ht; cases ht
      · rename_i t' ht'
        split
        · intro t ht; cases ht
        · refine ih _ _ ?_
          intro t ht
          rcases List.mem_append.1 ht with h | h
          · exact ha t h
          · rw [List.mem_singleton.1 h]
            exact tokAt_q l k t' ht'
theorem lex_wok (l : List UInt8) (hl : l.length ≤ 262144) : WOk (Tk.lex l).1 ∧ TxOk (Tk.lex l).1 := by
  have hq : ∀ t ∈ (Tk.lex l).1, tokQ l.length t := by
    unfold Tk.lex
    rw [if_neg (by omega)]
    exact lexGo_q _ l _ [] (fun t h => by cases h)
  generalize (Tk.lex l).1 = ts at *
  constructor
  · intro k h3
    unfold Ps.kindAt at h3
    unfold Ps.textAt
    cases hk : ts[k]? with
    | none => rw [hk] at h3; exact absurd h3 (by decide)
    | some t =>
      rw [hk] at h3
      dsimp only at h3 ⊢
      have h1 := (hq t (List.mem_of_getElem? hk)).1 h3
      unfold Tk.resv at h1
      have h2 := List.all_eq_true.1 words_ok t.text (by simpa using h1)
      simpa using h2
  · intro k
    unfold Ps.textAt
    cases hk : ts[k]? with
    | none => simp
    | some t =>
      dsimp only
      have := (hq t (List.mem_of_getElem? hk)).2
      omega

set_option maxRecDepth 100000 in
set_option maxHeartbeats 8000000 in
theorem exprParse_any (xs ys : List Int) (bs : List UInt8) (A A' B : Option Addr) (cap cap' cap2 : Nat) (w : World) (hR : IntR w A xs) (hR' : IntR w A' ys) (hB : Byt w B bs) (hc : xs.length ≤ cap) (hm : xs.length ≤ 9223372036854775807) (_hm' : ys.length ≤ 9223372036854775807) (_hmb : bs.length ≤ 9223372036854775807) (hS : SgT w) :
    Calls Tryz.prog 3 #[.slice A xs.length cap, .slice A' ys.length cap', .slice B bs.length cap2] w fun e w' => e = .returned (.bool true) ∧ Below w.heap.size w w' := by
  have HS := Lib.hid hS
  have HMK := Lib.hid (madeExpr_any xs A cap w hR hc hm)
  obtain ⟨hOk, hBB, hCn⟩ := madeG_ok xs
  obtain ⟨hTl, hHt⟩ := madeG_len xs
  have hFl := refFT_len xs
  have HOk := Lib.hid hOk
  have HBB := Lib.hid hBB
  have HY := Lib.hid hR'
  have HBy := Lib.hid hB
  generalize madeG xs = E at *
  clear hR hR' hB hc hm hS hOk hBB hCn
  have HHT : Hid (exHt E ≤ 1000000000) := by show _ ≤ _; omega
  have HTL : Hid ((exText E).length ≤ 1000000000) := by show _ ≤ _; omega
  go_enter Tryz.func3, Tryz.ntmps3
  go_wp2_with fail
  refine HMK.out.mono ?_
  rintro e w1 ⟨num, name, A1, n1, c1, rfl, hM, hb1⟩
  have HM : Hid (ExM w1 (fun _ => True) E ⟨E.op, num, name, A1, n1, c1⟩) := hM.more (fun _ _ => trivial)
  have HB1 := Lib.hid hb1
  clear hM hb1 HMK
  generalize E.op = op at *
  go_wp2_with fail
  refine (refFormat_any w1 E op num name A1 n1 c1 HM.out HBB.out HHT.out HOk.out HTL.out).mono ?_
  rintro e w2 ⟨rfl, hb2⟩
  have HB2 := Lib.hid (below_rev' hb2 HB1.out)
  clear hb2 HM HHT HTL hTl hHt
  generalize refFT E = s at *
  obtain ⟨c, W1, hrun, hBO, hcap, hb3⟩ := conv_own s w2
  have HBO := Lib.hid hBO
  have HB3 := Lib.hid (below_rev' hb3 HB2.out)
  have hgw : w.heap.size ≤ w2.heap.size := HB2.out.size
  clear hBO hb3
  go_wp2_with fail
  clear hrun
  generalize w2.heap.size = g at *
  obtain ⟨n, hn⟩ : ∃ n, n = s.length := ⟨_, rfl⟩
  rw [← hn] at hcap hFl ⊢
  have HN := Lib.hid hn
  clear hn
  have HBW1 : Hid (Below w.heap.size w W1) := HB3.out
  go_loopw [8] (fun i wr => ∃ (k : Nat) (l : List UInt8), k ≤ 3 ∧ i = .int .i64 (k : Int) ∧ l.length = n ∧ Hid (BytO wr g l) ∧ Hid (Below w.heap.size w wr)) (fun i _ => 3 - (intOf i).toNat)
  case atStart => exact ⟨0, s, by omega, rfl, HN.out.symm, HBO, HBW1⟩
  case round =>
    obtain ⟨k, l, hk3, rfl, hll, hO, hW⟩ := hrel
    by_cases hall : k < ys.length ∧ k < bs.length ∧ k < 3 ∧ 0 < n
    · obtain ⟨h1, h2, h3, h4⟩ := hall
      have d1 : decide ((k : Int) < (ys.length : Int)) = true := decide_eq_true (by omega)
      have d2 : decide ((k : Int) < (bs.length : Int)) = true := decide_eq_true (by omega)
      have d3 : decide ((k : Int) < 3) = true := decide_eq_true (by omega)
      have d4 : decide ((n : Int) > 0) = true := decide_eq_true (by omega)
      obtain ⟨ba, oa, rfl, ca, r1, r2⟩ := (HY.out.later hW.out) k h1
      obtain ⟨bb, ob, rfl, cb⟩ := (HBy.out.later hW.out) k h2
      have hba : ba < w.heap.size := by obtain ⟨b2, o2, e2, h, _⟩ := HY.out k h1; injection e2 with e2; injection e2 with e2 _; subst e2; exact World.block_lt_of_cell? _ _ h
      have hbb : bb < w.heap.size := by obtain ⟨b2, o2, e2, h⟩ := HBy.out k h2; injection e2 with e2; injection e2 with e2 _; subst e2; exact World.block_lt_of_cell? _ _ h
      have hna : ba ≠ g := by omega
      have hnb : bb ≠ g := by omega
      have hq := within_lt ys[k] n (by omega)
      obtain ⟨q, hqe⟩ : ∃ q, q = within ys[k] n := ⟨_, rfl⟩
      rw [← hqe] at hq
      have HQ := Lib.hid hqe
      have hql : q < l.length := by omega
      obtain ⟨cq, fq⟩ := hO.out q hql
      have i0 : (0 : Int) ≤ (k : Int) := by omega
      have i1 : (k : Int) < (ys.length : Int) := by omega
      have i2 : (k : Int) < (bs.length : Int) := by omega
      have i3 : (0 : Int) ≤ (q : Int) := by omega
      have i4 : (q : Int) < (n : Int) := by omega
      have hsl : (0 : Int) < (n : Int) := by omega
      clear hqe
      go_wp2_with fail
      go_region_held3 (fun w' => w'.cell? ⟨ba, oa + k, none⟩ = some (.int .i64 ys[k]) ∧ w'.cell? ⟨bb, ob + k, none⟩ = some (.int .u8 (bs[k].toNat : Int)))
        (first | exact ⟨keep_one (p := ⟨g, q, none⟩) ca hna, keep_one (p := ⟨g, q, none⟩) cb hnb⟩ | go_keep)
        (first
          | (go_at_call 7; refine (within_big ys[k] (n : Int) wr.drew ⟨r1, r2⟩ hsl (by omega)).mono ?_; rintro e w3 ⟨rfl, rfl⟩; rw [Int.toNat_natCast, ← HQ.out]))
      all_goals
        go_wp2_with fail
        go_roundw
        case rel =>
          refine ⟨k + 1, l.set q bs[k], by omega, by go_num, by rw [List.length_set]; exact hll, hO.out.drew.set q hql bs[k] _ rfl, ?_⟩
          have hW2 := hW.out
          exact ⟨hW2.os, hW2.tape, hW2.output, by have := hW2.size; simp [World.setCell]; exact this, fun b hb => (Below.heap_setCell _ _ _ b (by show b ≠ g; omega)).trans (hW2.block b hb)⟩
        case measure => simp [intOf]; omega
    · by_cases h0 : ¬ k < ys.length
      · have d0 : decide ((k : Int) < (ys.length : Int)) = false := decide_eq_false (by omega)
        clear hall
        have hlx := lex_len l
        have hwt := lex_wok l (by omega)
        have HWO := Lib.hid hwt.1
        have HTO := Lib.hid hwt.2
        clear hwt
        have HLX := Lib.hid (refLex_any l (some ⟨g, 0, none⟩) c wr hO.out.byt (by omega) (by omega))
        rw [hll] at HLX
        go_wp2_with fail
        refine HLX.out.mono ?_
        intro e w4 hp
        obtain ⟨TA, tc, rfl, hT, hb4⟩ := lexPost_open hp
        have HT := Lib.hid hT
        have HB4 := Lib.hid (below_rev' hb4 hW.out)
        clear hp hT hb4 HLX
        generalize (Tk.lex l).1 = ts at *
        generalize (Tk.lex l).2.1 = n0 at *
        generalize (Tk.lex l).2.2 = e0 at *
        by_cases he : e0 = 0
        · have t0 := nF (show ((e0 : Nat) : Int) = 0 by omega)
          clear he
          go_wp2_with fail
          refine (sameL_any ts TA tc 0 w4 HT.out (HS.out.later HB4.out) (by omega) (by omega) HWO.out HTO.out).mono ?_
          rintro e w5 ⟨rfl, hb5⟩
          have HB5 := Lib.hid (below_rev' hb5 HB4.out)
          clear hb5
          go_wp2_with fail
          refine (awake_any _ (HS.out.later HB5.out)).mono ?_
          rintro e w6 ⟨rfl, hb6⟩
          have HB6 := Lib.hid (below_rev' hb6 HB5.out)
          clear hb6
          go_wp2_with fail
          go_ret
          exact ⟨rfl, HB6.out⟩
        · have t0 := nT (show ((e0 : Nat) : Int) ≠ 0 by omega)
          clear he
          go_wp2_with fail
          refine (awake_any _ (HS.out.later HB4.out)).mono ?_
          rintro e w6 ⟨rfl, hb6⟩
          have HB6 := Lib.hid (below_rev' hb6 HB4.out)
          clear hb6
          go_wp2_with fail
          go_ret
          exact ⟨rfl, HB6.out⟩
      have d0 : decide ((k : Int) < (ys.length : Int)) = true := decide_eq_true (by omega)
      by_cases h1 : ¬ k < bs.length
      · have d1 : decide ((k : Int) < (bs.length : Int)) = false := decide_eq_false (by omega)
        clear hall
        have hlx := lex_len l
        have hwt := lex_wok l (by omega)
        have HWO := Lib.hid hwt.1
        have HTO := Lib.hid hwt.2
        clear hwt
        have HLX := Lib.hid (refLex_any l (some ⟨g, 0, none⟩) c wr hO.out.byt (by omega) (by omega))
        rw [hll] at HLX
        go_wp2_with fail
        refine HLX.out.mono ?_
        intro e w4 hp
        obtain ⟨TA, tc, rfl, hT, hb4⟩ := lexPost_open hp
        have HT := Lib.hid hT
        have HB4 := Lib.hid (below_rev' hb4 hW.out)
        clear hp hT hb4 HLX
        generalize (Tk.lex l).1 = ts at *
        generalize (Tk.lex l).2.1 = n0 at *
        generalize (Tk.lex l).2.2 = e0 at *
        by_cases he : e0 = 0
        · have t0 := nF (show ((e0 : Nat) : Int) = 0 by omega)
          clear he
          go_wp2_with fail
          refine (sameL_any ts TA tc 0 w4 HT.out (HS.out.later HB4.out) (by omega) (by omega) HWO.out HTO.out).mono ?_
          rintro e w5 ⟨rfl, hb5⟩
          have HB5 := Lib.hid (below_rev' hb5 HB4.out)
          clear hb5
          go_wp2_with fail
          refine (awake_any _ (HS.out.later HB5.out)).mono ?_
          rintro e w6 ⟨rfl, hb6⟩
          have HB6 := Lib.hid (below_rev' hb6 HB5.out)
          clear hb6
          go_wp2_with fail
          go_ret
          exact ⟨rfl, HB6.out⟩
        · have t0 := nT (show ((e0 : Nat) : Int) ≠ 0 by omega)
          clear he
          go_wp2_with fail
          refine (awake_any _ (HS.out.later HB4.out)).mono ?_
          rintro e w6 ⟨rfl, hb6⟩
          have HB6 := Lib.hid (below_rev' hb6 HB4.out)
          clear hb6
          go_wp2_with fail
          go_ret
          exact ⟨rfl, HB6.out⟩
      have d1 : decide ((k : Int) < (bs.length : Int)) = true := decide_eq_true (by omega)
      by_cases h2 : ¬ k < 3
      · have d2 : decide ((k : Int) < 3) = false := decide_eq_false (by omega)
        clear hall
        have hlx := lex_len l
        have hwt := lex_wok l (by omega)
        have HWO := Lib.hid hwt.1
        have HTO := Lib.hid hwt.2
        clear hwt
        have HLX := Lib.hid (refLex_any l (some ⟨g, 0, none⟩) c wr hO.out.byt (by omega) (by omega))
        rw [hll] at HLX
        go_wp2_with fail
        refine HLX.out.mono ?_
        intro e w4 hp
        obtain ⟨TA, tc, rfl, hT, hb4⟩ := lexPost_open hp
        have HT := Lib.hid hT
        have HB4 := Lib.hid (below_rev' hb4 hW.out)
        clear hp hT hb4 HLX
        generalize (Tk.lex l).1 = ts at *
        generalize (Tk.lex l).2.1 = n0 at *
        generalize (Tk.lex l).2.2 = e0 at *
        by_cases he : e0 = 0
        · have t0 := nF (show ((e0 : Nat) : Int) = 0 by omega)
          clear he
          go_wp2_with fail
          refine (sameL_any ts TA tc 0 w4 HT.out (HS.out.later HB4.out) (by omega) (by omega) HWO.out HTO.out).mono ?_
          rintro e w5 ⟨rfl, hb5⟩
          have HB5 := Lib.hid (below_rev' hb5 HB4.out)
          clear hb5
          go_wp2_with fail
          refine (awake_any _ (HS.out.later HB5.out)).mono ?_
          rintro e w6 ⟨rfl, hb6⟩
          have HB6 := Lib.hid (below_rev' hb6 HB5.out)
          clear hb6
          go_wp2_with fail
          go_ret
          exact ⟨rfl, HB6.out⟩
        · have t0 := nT (show ((e0 : Nat) : Int) ≠ 0 by omega)
          clear he
          go_wp2_with fail
          refine (awake_any _ (HS.out.later HB4.out)).mono ?_
          rintro e w6 ⟨rfl, hb6⟩
          have HB6 := Lib.hid (below_rev' hb6 HB4.out)
          clear hb6
          go_wp2_with fail
          go_ret
          exact ⟨rfl, HB6.out⟩
      have d2 : decide ((k : Int) < 3) = true := decide_eq_true (by omega)
      have d3 : decide ((n : Int) > 0) = false := decide_eq_false (by omega)
      have d9 : ¬ 0 < n := by omega
      have d8 : decide (0 < n) = false := decide_eq_false (by omega)
      clear hall
      have hlx := lex_len l
      have hwt := lex_wok l (by omega)
      have HWO := Lib.hid hwt.1
      have HTO := Lib.hid hwt.2
      clear hwt
      have HLX := Lib.hid (refLex_any l (some ⟨g, 0, none⟩) c wr hO.out.byt (by omega) (by omega))
      rw [hll] at HLX
      go_wp2_with fail
      refine HLX.out.mono ?_
      intro e w4 hp
      obtain ⟨TA, tc, rfl, hT, hb4⟩ := lexPost_open hp
      have HT := Lib.hid hT
      have HB4 := Lib.hid (below_rev' hb4 hW.out)
      clear hp hT hb4 HLX
      generalize (Tk.lex l).1 = ts at *
      generalize (Tk.lex l).2.1 = n0 at *
      generalize (Tk.lex l).2.2 = e0 at *
      by_cases he : e0 = 0
      · have t0 := nF (show ((e0 : Nat) : Int) = 0 by omega)
        clear he
        go_wp2_with fail
        refine (sameL_any ts TA tc 0 w4 HT.out (HS.out.later HB4.out) (by omega) (by omega) HWO.out HTO.out).mono ?_
        rintro e w5 ⟨rfl, hb5⟩
        have HB5 := Lib.hid (below_rev' hb5 HB4.out)
        clear hb5
        go_wp2_with fail
        refine (awake_any _ (HS.out.later HB5.out)).mono ?_
        rintro e w6 ⟨rfl, hb6⟩
        have HB6 := Lib.hid (below_rev' hb6 HB5.out)
        clear hb6
        go_wp2_with fail
        go_ret
        exact ⟨rfl, HB6.out⟩
      · have t0 := nT (show ((e0 : Nat) : Int) ≠ 0 by omega)
        clear he
        go_wp2_with fail
        refine (awake_any _ (HS.out.later HB4.out)).mono ?_
        rintro e w6 ⟨rfl, hb6⟩
        have HB6 := Lib.hid (below_rev' hb6 HB4.out)
        clear hb6
        go_wp2_with fail
        go_ret
        exact ⟨rfl, HB6.out⟩
end Go.Proofs.YtbaenhcmkigfcaaGreatDoor
