/- The walk of ValueTruth. -/
import Derived.Test.YtiaonhpiiibkdaaVlMade
namespace Go.Proofs.Ytiaonhpiiibkdaa
open Go.RowKit
set_option maxRecDepth 100000

/-- ! of ! of an expression -/
def nnE (E : Ex) : Ex := .mk 4 0 [] [.mk 4 0 [] [E]]
theorem nnE_ok {ng nl : Nat} (E : Ex) (h : RsOk ng nl E) : RsOk ng nl (nnE E) ∧ exCnt (nnE E) = exCnt E + 2 := by
  unfold nnE
  refine ⟨.mk _ _ _ _ (by omega) (by simp) (.inr (.inl ⟨.inr rfl, rfl⟩)) (fun j hj => ?_), ?_⟩
  · have : j = 0 := by simpa using hj
    subst this
    refine .mk _ _ _ _ (by omega) (by simp) (.inr (.inl ⟨.inr rfl, rfl⟩)) (fun i hi => ?_)
    have : i = 0 := by simpa using hi
    subst this
    exact h
  · simp only [exCnt, exCnts]
theorem nnE_ev (gs ls : List Int) (E : Ex) : evV gs ls (nnE E) = if (evV gs ls E).2 ≠ 0 then (0, (evV gs ls E).2) else (trV (!((evV gs ls E).1 == 0)), 0) := by
  unfold nnE
  rw [evV_mk, evVs_cons, evVs_nil, evV_mk, evVs_cons, evVs_nil]
  generalize evV gs ls E = R
  obtain ⟨r1, r2⟩ := R
  unfold finV
  rw [if_neg (by omega), if_neg (by omega), if_neg (by omega)]
  dsimp only
  by_cases h : r2 = 0
  · subst h
    by_cases h1 : r1 = 0
    · subst h1; simp [opV, trV]
    · simp [opV, trV, h1]
  · simp [h]
/-- comparisons and logical operators yield 0 or 1 -/
theorem evV_truth {ng nl : Nat} (gs ls : List Int) (E : Ex) (h : RsOk ng nl E) (ho : E.op = 4 ∨ 10 ≤ E.op ∧ E.op ≤ 17) : (evV gs ls E).1 = 0 ∨ (evV gs ls E).1 = 1 := by
  have ht : ∀ b, trV b = 0 ∨ trV b = 1 := fun b => by cases b <;> simp [trV]
  cases h with
  | mk op num name args hn _ ha hs =>
    rw [op_eq_mk] at ho
    rw [evV_mk]
    unfold finV
    rw [if_neg (by omega), if_neg (by omega), if_neg (by omega)]
    rcases ha with ⟨h0, _⟩ | ⟨h3, h1⟩ | ⟨o1, o2, h2⟩
    · omega
    · obtain ⟨x, rfl⟩ : ∃ x, args = [x] := List.length_eq_one_iff.1 h1
      have h4 : op = 4 := by omega
      subst h4
      rw [evVs_cons, evVs_nil]
      dsimp only
      split
      · exact .inl rfl
      · exact ht _
    · obtain ⟨x, y, rfl⟩ : ∃ x y, args = [x, y] := by
        match args, h2 with
        | [x, y], _ => exact ⟨x, y, rfl⟩
      rw [evVs_cons, evVs_cons, evVs_nil]
      dsimp only
      split
      · exact .inl rfl
      · split
        · exact .inl rfl
        · split
          · exact .inr rfl
          · split
            · exact .inl rfl
            · split
              · exact .inl rfl
              · have hc : op = 10 ∨ op = 11 ∨ op = 12 ∨ op = 13 ∨ op = 14 ∨ op = 15 ∨ op = 16 ∨ op = 17 := by omega
                rcases hc with rfl | rfl | rfl | rfl | rfl | rfl | rfl | rfl <;> exact ht _

theorem one_mem {w : World} {E : Ex} {f : EF} (op : Int) (h : ExM w (fun _ => True) E f) :
    ExM (w.alloc (.cells #[.int .i64 f.op, .int .i64 f.num, .string ⟨f.name.toArray⟩, .slice f.A f.n f.c] 25)) (fun _ => True) (.mk op 0 [] [E]) ⟨op, 0, [], some ⟨w.heap.size, 0, none⟩, 1, 1⟩ := by
  obtain ⟨q0, q1, q2, q3, -⟩ := blk4 (heap_alloc_new w (.cells #[.int .i64 f.op, .int .i64 f.num, .string ⟨f.name.toArray⟩, .slice f.A f.n f.c] 25))
  have hb := (Below.refl w.heap.size w).alloc (Nat.le_refl _) (.cells #[.int .i64 f.op, .int .i64 f.num, .string ⟨f.name.toArray⟩, .slice f.A f.n f.c] 25)
  exact ExM.one op 0 [] w.heap.size 0 1 trivial ⟨q0, q1, q2, q3⟩ (h.later hb)

set_option maxHeartbeats 8000000 in
theorem valueTruth_any (xs : List Int) (A : Option Addr) (cap : Nat) (a b c : Int) (w : World) (hR : IntR w A xs) (hc : xs.length ≤ cap) (hm : xs.length ≤ 9223372036854775807) (ha : I64 a) (hb : I64 b) (hcc : I64 c) :
    Calls Try.prog 6 #[.slice A xs.length cap, .int .i64 a, .int .i64 b, .int .i64 c] w fun e w' => e = .returned (.bool true) ∧ Below w.heap.size w w' := by
  have HEX := Lib.hid (madeExpr_any xs A cap w hR hc hm)
  obtain ⟨m1, m2, m3⟩ := madeG_ok xs
  clear hR hc hm
  go_enter Try.func6, Try.ntmps6
  go_wp2_with fail
  refine HEX.out.mono ?_
  rintro e w1 ⟨num, name, A1, n1, c1, rfl, hM1, hb1⟩
  have HR1 := Lib.hid (resolved_any w1 (madeG xs) ⟨(madeG xs).op, num, name, A1, n1, c1⟩ m2 (hM1.more fun _ _ => trivial))
  have HB1 := Lib.hid hb1
  clear hM1 hb1 HEX m1 m2 m3
  go_wp2_with fail
  refine HR1.out.mono ?_
  rintro e w2 ⟨f, rfl, hf, hb2⟩
  have hbx := (Below.refl w2.heap.size w2).alloc (Nat.le_refl _) (.cells #[.int .i64 f.op, .int .i64 f.num, .string ⟨f.name.toArray⟩, .slice f.A f.n f.c] 25)
  have HX2 := Lib.hid (heap_alloc_new w2 (.cells #[.int .i64 f.op, .int .i64 f.num, .string ⟨f.name.toArray⟩, .slice f.A f.n f.c] 25))
  have HF2 : Hid (ExM (w2.alloc (.cells #[.int .i64 f.op, .int .i64 f.num, .string ⟨f.name.toArray⟩, .slice f.A f.n f.c] 25)) (fun _ => True) (vmE xs) f) := (hf.more fun _ _ => trivial).later hbx
  have HB2 := Lib.hid (below_two (below_two HB1.out hb2) hbx)
  unfold EF.val
  clear hf hb2 hbx HB1 HR1
  obtain ⟨v1, v2⟩ := vmE_ok (ng := 2) (nl := 1) (Nat.le_refl _) (Nat.le_refl _) xs
  generalize vmE xs = X at *
  have hs2 : (w2.alloc (.cells #[.int .i64 f.op, .int .i64 f.num, .string ⟨f.name.toArray⟩, .slice f.A f.n f.c] 25)).heap.size = w2.heap.size + 1 := by simp
  have HE := Lib.hid (lawEval_any _ _ hs2 X f a b c HF2.out v1 (by omega) ha hb hcc)
  have HX3 := Lib.hid (fun W (hb' : Below (w2.alloc (.cells #[.int .i64 f.op, .int .i64 f.num, .string ⟨f.name.toArray⟩, .slice f.A f.n f.c] 25)).heap.size (w2.alloc (.cells #[.int .i64 f.op, .int .i64 f.num, .string ⟨f.name.toArray⟩, .slice f.A f.n f.c] 25)) W) => blk4 ((hb'.block w2.heap.size (by omega)).trans HX2.out))
  clear HX2 hs2
  go_wp2_with fail
  generalize hW : w2.alloc (.cells #[.int .i64 f.op, .int .i64 f.num, .string ⟨f.name.toArray⟩, .slice f.A f.n f.c] 25) = wx at *
  refine HE.out.mono ?_
  rintro e w3 ⟨rfl, hb3⟩
  obtain ⟨y0, y1, y2, y3, -⟩ := HX3.out w3 hb3
  have HB3 := Lib.hid (below_two HB2.out hb3)
  have HF3 := Lib.hid (HF2.out.later hb3)
  clear hW HE HB2
  go_wp2_with fail
  have h1m := one_mem 4 HF3.out
  have hz1 : (w3.alloc (.cells #[.int .i64 f.op, .int .i64 f.num, .string ⟨f.name.toArray⟩, .slice f.A f.n f.c] 25)).heap.size = w3.heap.size + 1 := by simp
  have h2m := one_mem 4 h1m
  dsimp only at h2m
  rw [hz1] at h2m
  have hbW := ((Below.refl w3.heap.size w3).alloc (Nat.le_refl _) (.cells #[.int .i64 f.op, .int .i64 f.num, .string ⟨f.name.toArray⟩, .slice f.A f.n f.c] 25)).alloc (by simp) (.cells #[.int .i64 4, .int .i64 0, .string ⟨#[]⟩, .slice (some ⟨w3.heap.size, 0, none⟩) 1 1] 25)
  have hN := nnE_ok X v1
  have HM := Lib.hid (lawEval_any _ (w3.heap.size + 1 + 1) (by simp) (nnE X) ⟨4, 0, [], some ⟨w3.heap.size + 1, 0, none⟩, 1, 1⟩ a b c h2m hN.1 (by omega) ha hb hcc)
  rw [nnE_ev] at HM
  have HBW := Lib.hid (below_two HB3.out hbW)
  have HB3W := Lib.hid (below_two hb3 hbW)
  have hro := evV_ok (allI_2 hb hcc) (allI_1 ha) X v1
  have htr : X.op = 4 ∨ 10 ≤ X.op ∧ X.op ≤ 17 → (evV [b, c] [a] X).1 = 0 ∨ (evV [b, c] [a] X).1 = 1 := evV_truth [b, c] [a] X v1
  have hop : f.op = X.op := HF3.out.op_eq
  rw [← hop] at htr
  clear h1m h2m hz1 hbW hN HF2 HF3 y0 y1 y2 y3 hb3 hop
  generalize evV [b, c] [a] X = R at *
  obtain ⟨r1, r2⟩ := R
  dsimp only at *
  generalize hWW : (w3.alloc (.cells #[.int .i64 f.op, .int .i64 f.num, .string ⟨f.name.toArray⟩, .slice f.A f.n f.c] 25)).alloc (.cells #[.int .i64 4, .int .i64 0, .string ⟨#[]⟩, .slice (some ⟨w3.heap.size, 0, none⟩) 1 1] 25) = ww at *
  clear hWW
  by_cases h2 : r2 = 0
  · subst h2
    rw [if_neg (by simp)] at HM
    dsimp only at HM
    have hcr : r1 = 0 ∨ r1 = 1 ∨ (r1 ≠ 0 ∧ r1 ≠ 1) := by omega
    rcases hcr with rfl | rfl | ⟨n0, n1⟩
    · rw [show trV (!((0 : Int) == 0)) = 0 from rfl] at HM
      refine HM.out.mono ?_
      rintro e w4 ⟨rfl, hb4⟩
      obtain ⟨y0, y1, y2, y3, -⟩ := HX3.out w4 (below_two HB3W.out hb4)
      have HB4 := Lib.hid (below_two HBW.out hb4)
      clear HM hb4 HX3 HB3W HBW HB3 htr
      have hco : f.op = 4 ∨ (f.op ≠ 4 ∧ 10 ≤ f.op ∧ f.op ≤ 17) ∨ (f.op ≠ 4 ∧ f.op < 10) ∨ (f.op ≠ 4 ∧ 17 < f.op) := by omega
      rcases hco with h | ⟨h, h', h''⟩ | ⟨h, h'⟩ | ⟨h, h'⟩
      all_goals
        first | have t4 := bT h | have t4 := bF h
        go_wp2_with fail
        refine (awake7_any w4).mono ?_
        rintro e w5 ⟨rfl, hb5⟩
        have HB5 := Lib.hid (below_two HB4.out hb5)
        clear hb5 HB4
        go_wp2_with fail
        go_ret
        exact ⟨rfl, HB5.out⟩
    · rw [show trV (!((1 : Int) == 0)) = 1 from rfl] at HM
      refine HM.out.mono ?_
      rintro e w4 ⟨rfl, hb4⟩
      obtain ⟨y0, y1, y2, y3, -⟩ := HX3.out w4 (below_two HB3W.out hb4)
      have HB4 := Lib.hid (below_two HBW.out hb4)
      clear HM hb4 HX3 HB3W HBW HB3 htr
      have hco : f.op = 4 ∨ (f.op ≠ 4 ∧ 10 ≤ f.op ∧ f.op ≤ 17) ∨ (f.op ≠ 4 ∧ f.op < 10) ∨ (f.op ≠ 4 ∧ 17 < f.op) := by omega
      rcases hco with h | ⟨h, h', h''⟩ | ⟨h, h'⟩ | ⟨h, h'⟩
      all_goals
        first | have t4 := bT h | have t4 := bF h
        go_wp2_with fail
        refine (awake7_any w4).mono ?_
        rintro e w5 ⟨rfl, hb5⟩
        have HB5 := Lib.hid (below_two HB4.out hb5)
        clear hb5 HB4
        go_wp2_with fail
        go_ret
        exact ⟨rfl, HB5.out⟩
    · have t0 := bF n0
      have t1 := bF n1
      rw [t0, show trV (!false) = 1 from rfl] at HM
      refine HM.out.mono ?_
      rintro e w4 ⟨rfl, hb4⟩
      obtain ⟨y0, y1, y2, y3, -⟩ := HX3.out w4 (below_two HB3W.out hb4)
      have HB4 := Lib.hid (below_two HBW.out hb4)
      have hco : (f.op ≠ 4 ∧ f.op < 10) ∨ (f.op ≠ 4 ∧ 17 < f.op) := by omega
      clear HM hb4 HX3 HB3W HBW HB3 htr
      rcases hco with ⟨h, h'⟩ | ⟨h, h'⟩
      all_goals
        have t4 := bF h
        go_wp2_with fail
        refine (awake7_any w4).mono ?_
        rintro e w5 ⟨rfl, hb5⟩
        have HB5 := Lib.hid (below_two HB4.out hb5)
        clear hb5 HB4
        go_wp2_with fail
        go_ret
        first | exact ⟨rfl, HB5.out⟩ | exact ⟨ret_bool (by simp [n0]), HB5.out⟩
  · rw [if_pos h2] at HM
    dsimp only at HM
    have h1 : r1 = 0 := by rcases hro.2 with h | h <;> omega
    subst h1
    have t2 := bF h2
    refine HM.out.mono ?_
    rintro e w4 ⟨rfl, hb4⟩
    have HB4 := Lib.hid (below_two HBW.out hb4)
    clear HM hb4 HX3 HB3W HBW HB3 htr
    go_wp2_with fail
    refine (awake7_any w4).mono ?_
    rintro e w5 ⟨rfl, hb5⟩
    have HB5 := Lib.hid (below_two HB4.out hb5)
    clear hb5 HB4
    go_wp2_with fail
    go_ret
    exact ⟨rfl, HB5.out⟩
end Go.Proofs.Ytiaonhpiiibkdaa
