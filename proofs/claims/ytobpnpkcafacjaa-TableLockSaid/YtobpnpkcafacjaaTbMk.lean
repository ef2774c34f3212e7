/- Mutexes and tables that the laws of layer 8 make. No statement of the program is proved in this file. -/
import Derived.Test.YtobpnpkcafacjaaTbMk0
namespace Go.Proofs.Ytobpnpkcafacjaa
open Go.RowKit
set_option maxRecDepth 100000

/-- the cells of a mutex with the name m -/
def mxC (m : TM) : List Value := [.string ⟨#[109]⟩, .bool m.re, .int .i64 (m.sz : Int)]
theorem mxC_len (ms : List TM) : (ms.flatMap mxC).length = ms.length * 3 := by
  induction ms with
  | nil => rfl
  | cons a r ih => rw [List.flatMap_cons, List.length_append, ih, List.length_cons]; show 3 + _ = _; omega
theorem mxC_at (ms : List TM) (i j : Nat) (h : i < ms.length) (hj : j < 3) : (ms.flatMap mxC)[i * 3 + j]? = (mxC ms[i])[j]? := by
  induction ms generalizing i with
  | nil => simp at h
  | cons a r ih =>
    rw [List.flatMap_cons]
    cases i with
    | zero => rw [Nat.zero_mul, Nat.zero_add, List.getElem?_append_left (by show j < 3; exact hj)]; rfl
    | succ i =>
      rw [List.getElem?_append_right (by show 3 ≤ _; omega), show (i + 1) * 3 + j - (mxC a).length = i * 3 + j by show (i + 1) * 3 + j - 3 = _; omega, ih i (by simpa using h)]
      rfl
/-- a row of mutexes of the call's own -/
def MxO (w : World) (B : Nat) (v : Value) (ms : List TM) : Prop := w.ownsRow B 33 3 v ms.length (ms.flatMap mxC)
theorem MxO.read {w : World} {B n c : Nat} {A : Option Addr} {ms : List TM} (h : MxO w B (.slice A n c) ms) : MxR w A ms := fun i hi => by
  have h' := h
  rcases h'.2 with ⟨_, h0⟩ | ⟨g, cap, cur, e, _⟩
  · omega
  · injection e with e1 e2 e3
    subst e1 e3
    have hl := mxC_len ms
    have q := fun j (hj : j < 3) => (World.ownsRow.cellAt (e2 ▸ h) (i * 3 + j) (by omega)).trans (mxC_at ms i j hi hj)
    refine ⟨g, 0, ⟨#[109]⟩, rfl, ?_, ?_, ?_⟩
    · rw [Nat.zero_add]; exact q 0 (by omega)
    · rw [Nat.zero_add]; exact q 1 (by omega)
    · rw [Nat.zero_add]; exact q 2 (by omega)
theorem wpList_app_mx (w : World) {ops : Array Oper} {rest : List Oper} {o : Oper} {a : Act} {Q : Exit → Act → World → Prop} (hgd : o.guard = none) (s x : Operand)
    (ho : o.op = .call { callee := .builtin .append, args := #[s, x], argTypes := #[23, 23] }) (w0 : World) (hb0 : Below w0.heap.size w0 w) (v : Value) (ms : List TM) (hs : a.eval s = v) (hO : MxO w w0.heap.size v ms)
    (g c : Nat) (m : TM) (hx : a.eval x = .slice (some ⟨g, 0, none⟩) 1 c) (hg : w.heap[g]? = some (.cells #[.string ⟨#[109]⟩, .bool m.re, .int .i64 (m.sz : Int)] 33)) (hl : ms.length ≤ 1000000)
    (hK : ∀ A' c' w', MxO w' w0.heap.size (.slice A' (ms.length + 1) c') (ms ++ [m]) → Below w0.heap.size w0 w' → wpList Try.prog ops Q rest (a.put o.dst (.slice A' (ms.length + 1) c')) w') : wpList Try.prog ops Q (o :: rest) a w := by
  obtain ⟨i, hi, hzz⟩ := Option.map_eq_some_iff.1 Try.infoMx
  simp only [Prod.mk.injEq] at hzz
  obtain ⟨hz, hsz, hb⟩ := hzz
  refine wpList_append_lies w hgd s x 23 ho w0.heap.size 33 i _ 3 32 Try.underlying23 hi hz hsz hb rfl (by omega) v ms.length _ hs hO ⟨g, 0, none⟩ 1 c (mxC m) hx rfl (fun j u hj => ?_) (fun u hu => ?_) (by omega) (by unfold maxLen; omega) (by omega) hb0.size _ rfl ?_
  · rw [Go.WideShapes.add_plain]
    match j, hj with
    | 0, hj => injection hj with hj; subst hj; exact cell_of_row w g 0 _ _ _ hg
    | 1, hj => injection hj with hj; subst hj; exact cell_of_row w g 1 _ _ _ hg
    | 2, hj => injection hj with hj; subst hj; exact cell_of_row w g 2 _ _ _ hg
  · unfold mxC at hu
    simp only [List.mem_cons, List.not_mem_nil, or_false] at hu
    rcases hu with rfl | rfl | rfl <;> rfl
  · intro g' cap' w' hown hgrow _ _
    refine hK _ _ w' ?_ (hb0.grown hgrow hb0.size fun k hk => (hO.lt k hk).1)
    unfold MxO
    rw [List.length_append, List.flatMap_append]
    have e1 : [m].flatMap mxC = mxC m := by simp
    rw [e1]
    exact hown
theorem own_cap {w : World} {B n c : Nat} {A : Option Addr} {ms : List TM} (h : MxO w B (.slice A n c) ms) : ms.length ≤ c := by
  rcases h.2 with ⟨_, h0⟩ | ⟨g, cap, cur, e, _, _, hnc, _⟩
  · omega
  · injection e with _ _ e3
    subst e3
    exact hnc

set_option maxHeartbeats 4000000 in
theorem mutexes_any (xs : List Int) (A : Option Addr) (cap : Nat) (w : World) (hR : IntR w A xs) (_hm : xs.length ≤ 9223372036854775807) :
    Calls Try.prog 9 #[.slice A xs.length cap] w fun e w' => ∃ X ms c, e = .returned (.slice X ms.length c) ∧ MxR w' X ms ∧ TmOk ms ∧ ms.length ≤ c ∧ Below w.heap.size w w' := by
  have HR := Lib.hid (fun W (h : Below w.heap.size w W) => hR.later h)
  clear hR
  go_enter Try.func9, Try.ntmps9
  go_wp2_with fail
  go_loopw [3, 4] (fun v i wr => ∃ ms : List TM, ms.length ≤ xs.length ∧ i = .int .i64 (ms.length : Int) ∧ Hid (TmOk ms) ∧ Hid (MxO wr w.heap.size v ms) ∧ Hid (Below w.heap.size w wr)) (fun _ i _ => xs.length - (intOf i).toNat)
  case atStart => exact ⟨[], Nat.zero_le _, rfl, ⟨by show 0 ≤ 12; omega, fun i h => absurd h (Nat.not_lt_zero _)⟩, World.ownsRow_nil _ _ _ _, Below.refl _ _⟩
  case round =>
    obtain ⟨ms, hk, rfl, HT, HO, HB⟩ := hrel
    obtain ⟨A2, cc2, rfl⟩ := owns_form HO.out
    have hk12 := HT.out.1
    by_cases hlt : ms.length < xs.length
    · by_cases h12 : ms.length < 12
      · obtain ⟨b, off, rfl, c0, lo, hi⟩ := HR.out wr HB.out ms.length hlt
        have HT2 : Hid (∀ m : TM, m.sz ≤ 64 → TmOk (ms ++ [m])) := fun m hm => by
          refine ⟨by rw [List.length_append]; show ms.length + 1 ≤ 12; omega, fun i hi => ?_⟩
          rcases Nat.lt_or_ge i ms.length with h | h
          · rw [List.getElem_append_left h]; exact HT.out.2 i h
          · rw [List.getElem_append_right h]
            have : ms.length + 1 = (ms ++ [m]).length := by simp
            simp; exact hm
        have HT3 : Hid (∀ m : TM, (ms ++ [m]).length = ms.length + 1) := fun m => by simp
        have HWI := Lib.hid (fun W => within_any xs[ms.length] 8 W ⟨lo, hi⟩ (by omega) (by omega))
        have hw8 := within_lt xs[ms.length] 8 (by omega)
        rw [show ((8 : Int).toNat) = 8 from rfl] at HWI
        generalize within xs[ms.length] 8 = q at *
        generalize xs[ms.length] = x at *
        have HB3 : Hid (∀ o, Below w.heap.size w (wr.alloc o)) := fun o => HB.out.alloc HB.out.size o
        have HO3 : Hid (∀ o, MxO (wr.alloc o) w.heap.size (.slice A2 ms.length cc2) ms) := fun o => owns_later HO.out ((Below.refl _ _).alloc (Nat.le_refl _) _)
        have HX3 := Lib.hid (fun o => heap_alloc_new wr o)
        have i0 : (0 : Int) ≤ (ms.length : Int) := by omega
        have i1 : (ms.length : Int) < (xs.length : Int) := by omega
        have i2 : (ms.length : Int) < 12 := by omega
        have hll : ms.length ≤ 1000000 := by omega
        clear HO HT HR lo hi
        go_wp2_with fail
        refine (HWI.out _).mono ?_
        rintro e w2 ⟨rfl, rfl⟩
        clear c0
        rcases (show q = 0 ∨ q = 1 ∨ q = 2 ∨ q = 3 ∨ q = 4 ∨ q = 5 ∨ q = 6 ∨ q = 7 by omega) with rfl | rfl | rfl | rfl | rfl | rfl | rfl | rfl
        · go_wp2_with (refine wpList_app_mx _ rfl _ _ rfl w (HB3.out _) _ ms rfl (HO3.out _) wr.heap.size 1 ⟨0, false⟩ rfl (HX3.out _) hll ?_; intro A3 c3 w3 ho3 hb3)
          go_roundw
          case rel => exact ⟨ms ++ [⟨0, false⟩], by rw [HT3.out]; omega, by rw [HT3.out]; go_num, Lib.hid (HT2.out ⟨0, false⟩ (by decide)), Lib.hid ho3, hb3⟩
          case measure => simp [intOf]; omega
        · go_wp2_with (refine wpList_app_mx _ rfl _ _ rfl w (HB3.out _) _ ms rfl (HO3.out _) wr.heap.size 1 ⟨0, false⟩ rfl (HX3.out _) hll ?_; intro A3 c3 w3 ho3 hb3)
          go_roundw
          case rel => exact ⟨ms ++ [⟨0, false⟩], by rw [HT3.out]; omega, by rw [HT3.out]; go_num, Lib.hid (HT2.out ⟨0, false⟩ (by decide)), Lib.hid ho3, hb3⟩
          case measure => simp [intOf]; omega
        · go_wp2_with (refine wpList_app_mx _ rfl _ _ rfl w (HB3.out _) _ ms rfl (HO3.out _) wr.heap.size 1 ⟨0, false⟩ rfl (HX3.out _) hll ?_; intro A3 c3 w3 ho3 hb3)
          go_roundw
          case rel => exact ⟨ms ++ [⟨0, false⟩], by rw [HT3.out]; omega, by rw [HT3.out]; go_num, Lib.hid (HT2.out ⟨0, false⟩ (by decide)), Lib.hid ho3, hb3⟩
          case measure => simp [intOf]; omega
        · go_wp2_with (refine wpList_app_mx _ rfl _ _ rfl w (HB3.out _) _ ms rfl (HO3.out _) wr.heap.size 1 ⟨0, true⟩ rfl (HX3.out _) hll ?_; intro A3 c3 w3 ho3 hb3)
          go_roundw
          case rel => exact ⟨ms ++ [⟨0, true⟩], by rw [HT3.out]; omega, by rw [HT3.out]; go_num, Lib.hid (HT2.out ⟨0, true⟩ (by decide)), Lib.hid ho3, hb3⟩
          case measure => simp [intOf]; omega
        · go_wp2_with (refine wpList_app_mx _ rfl _ _ rfl w (HB3.out _) _ ms rfl (HO3.out _) wr.heap.size 1 ⟨0, true⟩ rfl (HX3.out _) hll ?_; intro A3 c3 w3 ho3 hb3)
          go_roundw
          case rel => exact ⟨ms ++ [⟨0, true⟩], by rw [HT3.out]; omega, by rw [HT3.out]; go_num, Lib.hid (HT2.out ⟨0, true⟩ (by decide)), Lib.hid ho3, hb3⟩
          case measure => simp [intOf]; omega
        · go_wp2_with (refine wpList_app_mx _ rfl _ _ rfl w (HB3.out _) _ ms rfl (HO3.out _) wr.heap.size 1 ⟨2, false⟩ rfl (HX3.out _) hll ?_; intro A3 c3 w3 ho3 hb3)
          go_roundw
          case rel => exact ⟨ms ++ [⟨2, false⟩], by rw [HT3.out]; omega, by rw [HT3.out]; go_num, Lib.hid (HT2.out ⟨2, false⟩ (by decide)), Lib.hid ho3, hb3⟩
          case measure => simp [intOf]; omega
        · go_wp2_with (refine wpList_app_mx _ rfl _ _ rfl w (HB3.out _) _ ms rfl (HO3.out _) wr.heap.size 1 ⟨3, false⟩ rfl (HX3.out _) hll ?_; intro A3 c3 w3 ho3 hb3)
          go_roundw
          case rel => exact ⟨ms ++ [⟨3, false⟩], by rw [HT3.out]; omega, by rw [HT3.out]; go_num, Lib.hid (HT2.out ⟨3, false⟩ (by decide)), Lib.hid ho3, hb3⟩
          case measure => simp [intOf]; omega
        · go_wp2_with (refine wpList_app_mx _ rfl _ _ rfl w (HB3.out _) _ ms rfl (HO3.out _) wr.heap.size 1 ⟨64, false⟩ rfl (HX3.out _) hll ?_; intro A3 c3 w3 ho3 hb3)
          go_roundw
          case rel => exact ⟨ms ++ [⟨64, false⟩], by rw [HT3.out]; omega, by rw [HT3.out]; go_num, Lib.hid (HT2.out ⟨64, false⟩ (by decide)), Lib.hid ho3, hb3⟩
          case measure => simp [intOf]; omega
      · have i1 : (ms.length : Int) < (xs.length : Int) := by omega
        have i2 : ¬ (ms.length : Int) < 12 := by omega
        have HR2 := Lib.hid HO.out.read
        have HC := Lib.hid (own_cap HO.out)
        go_wp2_with fail
        go_ret
        exact ⟨A2, ms, cc2, rfl, HR2.out, HT.out, HC.out, HB.out⟩
    · have i1 : ¬ (ms.length : Int) < (xs.length : Int) := by omega
      have HR2 := Lib.hid HO.out.read
      have HC := Lib.hid (own_cap HO.out)
      go_wp2_with fail
      go_ret
      exact ⟨A2, ms, cc2, rfl, HR2.out, HT.out, HC.out, HB.out⟩

set_option maxHeartbeats 4000000 in
theorem made_any (xs : List Int) (A X : Option Addr) (cap cx : Nat) (ms : List TM) (w : World) (hR : IntR w A xs) (_hm : xs.length ≤ 9223372036854775807) (hM : MxR w X ms) (hok : TmOk ms) :
    Calls Try.prog 19 #[.slice X ms.length cx, .slice A xs.length cap] w fun e w' => ∃ D c hs, e = .returned (.slice D (tE ms) c) ∧ TbN w' w.heap.size D c hs ∧ TG ms 60 hs ∧ Below w.heap.size w w' := by
  have HR := Lib.hid (fun W (h : Below w.heap.size w W) => hR.later h)
  have HOW := Lib.hid (owners_any w X ms cx hM hok)
  have hTE := hok.tE
  have HLK := Lib.hid (fun W (h : Below w.heap.size w W) D c hs k el t (hv : TbN W w.heap.size D c hs) (hg : TG ms k hs) (hk : k ≤ 60) (he : I64' el) (ht0 : 0 ≤ t) (ht : t ≤ 3) => (refLock_any W X D ms hs cx c (tE ms) el t (hM.later h) hok hv.v hg.1.symm hg.1 he (by omega) (by omega) (hg.th (by omega))).mono (R' := fun e w' => ∃ D' c' hs', e = .returned (.tuple #[.slice D' (tE ms) c', .bool (frV ms hs el t)]) ∧ TbN w' W.heap.size D' c' hs' ∧ TG ms (k + 1) hs' ∧ Below W.heap.size W w') (by rintro e w' ⟨D', c', he, ho, hb⟩; exact ⟨D', c', _, he, ho, hg.lk el t ht, hb⟩))
  have HUL := Lib.hid (fun W (h : Below w.heap.size w W) D c hs k el t (hv : TbN W w.heap.size D c hs) (hg : TG ms k hs) (hk : k ≤ 60) (he : I64' el) (ht0 : 0 ≤ t) (ht : t ≤ 3) => (refUnlock_any W X D ms hs cx c (tE ms) el t (hM.later h) hok hv.v hg.1.symm hg.1 he (by omega) (by omega) (hg.th (by omega))).mono (R' := fun e w' => ∃ D' c' hs', e = .returned (.tuple #[.slice D' (tE ms) c', .bool (ulB ms hs el t)]) ∧ TbN w' W.heap.size D' c' hs' ∧ TG ms (k + 1) hs' ∧ Below W.heap.size W w') (by rintro e w' ⟨D', c', he, ho, hb⟩; exact ⟨D', c', _, he, ho, (hg.ul el t).mono (by omega), hb⟩))
  have HZ := Lib.hid (TG.zero ms)
  have HTM := Lib.hid (fun (k : Nat) hs (hk : k ≤ 60) (hg : TG ms k hs) => hg.mono (show (k : Int) ≤ 60 by omega))
  clear hR hM hok
  unfold I64' at HLK HUL
  generalize tE ms = n at *
  go_enter Try.func19, Try.ntmps19
  go_wp2_with fail
  refine HOW.out.mono ?_
  rintro e w1 ⟨O, oc, rfl, -, hb1⟩
  have HB1 := Lib.hid hb1
  have hs1 := hb1.size
  clear hb1 HOW
  have tn : (0 : Int) ≤ (n : Int) := by omega
  go_wp2_with (refine wpList_make_tb _ rfl _ _ rfl n rfl rfl (by omega) w1.heap.size rfl ?_; intro w2 ho2 hb2 hz2)
  have HB2 := Lib.hid (below_two HB1.out hb2)
  have HO2 := Lib.hid (ho2.base hs1)
  clear ho2 hb2 HB1
  go_loopw [5, 6] (fun v i wr => ∃ (k : Nat) (hs : List TH) (D : Option Addr) (c : Nat), k ≤ xs.length ∧ k ≤ 60 ∧ i = .int .i64 (k : Int) ∧ v = .slice D n c ∧ Hid (TbN wr w.heap.size D c hs) ∧ Hid (TG ms k hs) ∧ Hid (Below w.heap.size w wr)) (fun _ i _ => xs.length - (intOf i).toNat)
  case atStart => exact ⟨0, _, _, _, Nat.zero_le _, Nat.zero_le _, rfl, rfl, HO2, HZ, HB2⟩
  case round =>
    obtain ⟨k, hs, D, c, hk, hk60, rfl, rfl, HO, HG, HB⟩ := hrel
    clear HB2 HO2 hs1 hz2
    by_cases hlt : k < xs.length
    · by_cases h60 : k < 60
      · by_cases hn : 0 < n
        · obtain ⟨b, off, rfl, c0, lo, hi⟩ := HR.out wr HB.out k hlt
          have i0 : (0 : Int) ≤ (k : Int) := by omega
          have i1 : (k : Int) < (xs.length : Int) := by omega
          have i2 : (k : Int) < 60 := by omega
          have i3 : (0 : Int) < (n : Int) := by omega
          have hsh : -9223372036854775808 ≤ xs[k] / 32 ∧ xs[k] / 32 ≤ 9223372036854775807 := by omega
          have HWI := Lib.hid (fun W => within_any (xs[k] / 32) (n : Int) W hsh (by omega) (by omega))
          have hwl := within_lt (xs[k] / 32) n hn
          rw [Int.toNat_natCast] at HWI
          have hb3 := and3_bd (xs[k] / 2)
          generalize xs[k] = x at *
          generalize hq : within (x / 32) n = q at *
          have hqn0 := Int.emod_nonneg (q : Int) (show (n : Int) ≠ 0 by omega)
          have hqn1 := Int.emod_lt_of_pos (q : Int) (show (0 : Int) < (n : Int) by omega)
          clear HTM HR lo hi hsh hq
          go_wp2_with fail
          refine (HWI.out _).mono ?_
          rintro e w3 ⟨rfl, rfl⟩
          by_cases hA : Go.bits .and .i64 x 1 = 0
          all_goals
            first
              | have tA := bT hA
              | have tA := bF hA
            by_cases hB : Go.bits .and .i64 x 24 = 24
            · have tB := bT hB
              go_wp2_with fail
              all_goals
                refine (HUL.out _ HB.out D c hs k _ _ HO.out HG.out (by omega) (by omega) (by omega) (by omega)).mono ?_
                rintro e w4 ⟨D4, c4, hs4, rfl, ho4, hg4, hb4⟩
                have HO4 := Lib.hid (ho4.base HB.out.size)
                have HB4 := Lib.hid (below_two HB.out hb4)
                have HG4 := Lib.hid hg4
                clear ho4 hb4 hg4 c0
                go_wp2_with fail
                go_roundw
                case rel => exact ⟨k + 1, _, D4, c4, by omega, by omega, by go_num, rfl, HO4, HG4, HB4⟩
                case measure => simp [intOf]; omega
            · have tB := bF hB
              go_wp2_with fail
              all_goals
                refine (HLK.out _ HB.out D c hs k _ _ HO.out HG.out (by omega) (by omega) (by omega) (by omega)).mono ?_
                rintro e w4 ⟨D4, c4, hs4, rfl, ho4, hg4, hb4⟩
                have HO4 := Lib.hid (ho4.base HB.out.size)
                have HB4 := Lib.hid (below_two HB.out hb4)
                have HG4 := Lib.hid hg4
                clear ho4 hb4 hg4 c0
                go_wp2_with fail
                go_roundw
                case rel => exact ⟨k + 1, _, D4, c4, by omega, by omega, by go_num, rfl, HO4, HG4, HB4⟩
                case measure => simp [intOf]; omega
        · have HF := Lib.hid (HTM.out k hs hk60 HG.out)
          have i1 : (k : Int) < (xs.length : Int) := by omega
          have i2 : (k : Int) < 60 := by omega
          have i3 : ¬ (0 : Int) < (n : Int) := by omega
          go_wp2_with fail
          go_ret
          exact ⟨D, c, rfl, hs, HO.out, HF.out, HB.out⟩
      · have HF := Lib.hid (HTM.out k hs hk60 HG.out)
        have i1 : (k : Int) < (xs.length : Int) := by omega
        have i2 : ¬ (k : Int) < 60 := by omega
        go_wp2_with fail
        go_ret
        exact ⟨D, c, rfl, hs, HO.out, HF.out, HB.out⟩
    · have HF := Lib.hid (HTM.out k hs hk60 HG.out)
      have i1 : ¬ (k : Int) < (xs.length : Int) := by omega
      go_wp2_with fail
      go_ret
      exact ⟨D, c, rfl, hs, HO.out, HF.out, HB.out⟩
end Go.Proofs.Ytobpnpkcafacjaa
