/- What Owners, Base and MutexOf of the reference do. -/
import Derived.Test.YtobpnpkcafacjaaTbFn1
import Derived.Test.YtobpnpkcafacjaaTbLaw
namespace Go.Proofs.Ytobpnpkcafacjaa
open Go.RowKit
set_option maxRecDepth 100000

theorem Try.infoI : (Try.prog.info? 3).map (fun i => (i.zero, i.size, i.bytes)) = some (some (.int .i64 0), 1, 8) := by kernel_rfl
/-- a row of numbers of the call's own -/
def IntO (w : World) (B : Nat) (v : Value) (l : List Nat) : Prop := w.ownsRow B 3 1 v l.length (l.map fun (k : Nat) => Value.int .i64 (k : Int))
/-- numbers that are read -/
def NatR (w : World) (A : Option Addr) (l : List Nat) : Prop := ∀ i (h : i < l.length), ∃ b, A = some ⟨b, 0, none⟩ ∧ w.cell? ⟨b, i, none⟩ = some (.int .i64 (l[i] : Int))
theorem NatR.later {w w' : World} {A : Option Addr} {l : List Nat} (h : NatR w A l) (hb : Below w.heap.size w w') : NatR w' A l := fun i hi => by
  obtain ⟨b, e, hc⟩ := h i hi
  exact ⟨b, e, cell_later hb hc⟩
theorem IntO.read {w : World} {B n c : Nat} {A : Option Addr} {l : List Nat} (h : IntO w B (.slice A n c) l) : NatR w A l := fun i hi => by
  have h' := h
  rcases h'.2 with ⟨_, h0⟩ | ⟨g, cap, cur, e, _⟩
  · omega
  · injection e with e1 e2 e3
    subst e1 e3
    refine ⟨g, rfl, (World.ownsRow.cellAt (e2 ▸ h) i (by omega)).trans ?_⟩
    rw [List.getElem?_map, List.getElem?_eq_getElem hi]
    rfl
theorem wpList_app_int (w : World) {ops : Array Oper} {rest : List Oper} {o : Oper} {a : Act} {Q : Exit → Act → World → Prop} (hgd : o.guard = none) (s x : Operand)
    (ho : o.op = .call { callee := .builtin .append, args := #[s, x], argTypes := #[22, 22] }) (w0 : World) (hb0 : Below w0.heap.size w0 w) (v : Value) (l : List Nat) (hs : a.eval s = v) (hO : IntO w w0.heap.size v l)
    (g c k : Nat) (hx : a.eval x = .slice (some ⟨g, 0, none⟩) 1 c) (hg : w.cell? ⟨g, 0, none⟩ = some (.int .i64 (k : Int))) (hl : l.length ≤ 1000000)
    (hK : ∀ A' c' w', IntO w' w0.heap.size (.slice A' (l.length + 1) c') (l ++ [k]) → Below w0.heap.size w0 w' → wpList Try.prog ops Q rest (a.put o.dst (.slice A' (l.length + 1) c')) w') : wpList Try.prog ops Q (o :: rest) a w := by
  obtain ⟨i, hi, hzz⟩ := Option.map_eq_some_iff.1 Try.infoI
  simp only [Prod.mk.injEq] at hzz
  obtain ⟨hz, hsz, hb⟩ := hzz
  refine wpList_append_lies w hgd s x 22 ho w0.heap.size 3 i _ 1 8 Try.underlying22 hi hz hsz hb rfl (by omega) v l.length _ hs hO ⟨g, 0, none⟩ 1 c [.int .i64 (k : Int)] hx rfl (fun j u hj => ?_) (fun u hu => ?_) (by omega) (by unfold maxLen; omega) (by omega) hb0.size _ rfl ?_
  · rw [Go.WideShapes.add_plain]
    match j, hj with
    | 0, hj => injection hj with hj; subst hj; exact hg
  · rw [List.mem_singleton.1 hu]; rfl
  · intro g' cap' w' hown hgrow _ _
    refine hK _ _ w' ?_ (hb0.grown hgrow hb0.size fun k hk => (hO.lt k hk).1)
    unfold IntO
    rw [List.length_append, List.map_append]
    exact hown
theorem fld_rep (l : List Nat) (q k : Nat) : (l ++ List.replicate q k) ++ [k] = l ++ List.replicate (q + 1) k := by rw [List.append_assoc, ← List.replicate_succ']

set_option maxHeartbeats 2000000 in
theorem owners_any (w : World) (A : Option Addr) (ms : List TM) (cap : Nat) (hM : MxR w A ms) (hok : TmOk ms) :
    Calls Try.prog 15 #[.slice A ms.length cap] w fun e w' => ∃ O c, e = .returned (.slice O (tE ms) c) ∧ NatR w' O (tO ms ms.length) ∧ Below w.heap.size w w' := by
  have HM := Lib.hid (fun W (h : Below w.heap.size w W) => hM.later h)
  have HOK := Lib.hid hok
  have hlen := hok.1
  have hTE := hok.tE
  clear hM hok
  go_enter Try.func15, Try.ntmps15
  go_wp2_with fail
  go_loopw [3, 4] (fun v i wr => ∃ k : Nat, k ≤ ms.length ∧ i = .int .i64 (k : Int) ∧ Hid (IntO wr w.heap.size v (tO ms k)) ∧ Hid (Below w.heap.size w wr)) (fun _ i _ => ms.length - (intOf i).toNat)
  case atStart => exact ⟨0, Nat.zero_le _, rfl, World.ownsRow_nil _ _ _ _, Below.refl _ _⟩
  case round =>
    obtain ⟨k, hk, rfl, HO, HB⟩ := hrel
    have hle := HOK.out.le k hk
    by_cases hlt : k < ms.length
    · obtain ⟨b, off, s, rfl, -, -, c2⟩ := HM.out wr HB k hlt
      have HC := Lib.hid (fun W (h : Below w.heap.size w W) => HM.out W h k hlt)
      have HS := Lib.hid (tO_succ ms k hlt)
      have i0 : (0 : Int) ≤ (k : Int) := by omega
      have i1 : (k : Int) < (ms.length : Int) := by omega
      have hsz := HOK.out.2 k hlt
      have HLN := Lib.hid (tO_len ms k hk)
      have HQ : Hid (ms[k].w = max ms[k].sz 1) := rfl
      go_wp2_with fail
      have HWR := Lib.hid HB.out
      go_loopw [3, 5] (fun v i wr => ∃ j : Nat, j ≤ ms[k].w ∧ i = .int .i64 (j : Int) ∧ Hid (IntO wr w.heap.size v (tO ms k ++ List.replicate j k)) ∧ Hid (Below w.heap.size w wr)) (fun _ i _ => ms[k].w - (intOf i).toNat)
      case atStart => exact ⟨0, Nat.zero_le _, rfl, by rw [List.replicate_zero, List.append_nil]; exact HO, HB⟩
      case round =>
        obtain ⟨j, hj, rfl, HO2, HB2⟩ := hrel
        obtain ⟨b', off', s', e', -, -, c2'⟩ := HC.out wr HB2
        injection e' with e'
        injection e' with e1 e2
        subst e1 e2
        obtain ⟨A2, cc2, rfl⟩ := owns_form HO2.out
        clear c2
        have hrl : (tO ms k ++ List.replicate j k).length = tB ms k + j := by rw [List.length_append, List.length_replicate, HLN.out]
        have HRL := Lib.hid hrl
        have hj64 : j ≤ 64 := by rw [HQ.out] at hj; omega
        have hb1 : Below w.heap.size w (wr.alloc (.cells #[.int .i64 (k : Int)] 3)) := HB2.out.alloc HB2.out.size _
        have HB3 := Lib.hid hb1
        have HO3 : Hid (IntO (wr.alloc (.cells #[.int .i64 (k : Int)] 3)) w.heap.size (.slice A2 (tO ms k ++ List.replicate j k).length cc2) (tO ms k ++ List.replicate j k)) := owns_later HO2.out ((Below.refl _ _).alloc (Nat.le_refl _) _)
        have HN3 : Hid ((wr.alloc (.cells #[.int .i64 (k : Int)] 3)).cell? ⟨wr.heap.size, 0, none⟩ = some (.int .i64 (k : Int))) := cell_of_row _ wr.heap.size 0 _ _ _ (heap_alloc_new wr _)
        clear hrl hb1
        by_cases hlj : j < ms[k].w
        · have t1 : (j : Int) < max (ms[k].sz : Int) 1 := by rw [HQ.out] at hlj; omega
          generalize hll : (tO ms k ++ List.replicate j k).length = ll at *
          have hll2 : ll ≤ 1000000 := by have := HRL.out; omega
          have HLL := Lib.hid hll
          clear hll
          generalize ms[k].sz = z at *
          go_wp2_with (refine wpList_app_int _ rfl _ _ rfl w HB3.out _ (tO ms k ++ List.replicate j k) rfl (HLL.out ▸ HO3.out) wr.heap.size 1 k rfl HN3.out (by rw [HLL.out]; exact hll2) ?_; intro A3 c3 w3 ho3 hb3)
          go_roundw
          case rel =>
            refine ⟨j + 1, hlj, by go_num, ?_, hb3⟩
            rw [← fld_rep]
            have h4 := ho3
            rw [List.length_append, List.length_replicate] at h4
            exact h4
          case measure => simp [intOf]; omega
        · obtain rfl : j = ms[k].w := by omega
          have t1 : ¬ ((ms[k].w : Int) < max (ms[k].sz : Int) 1) := by rw [HQ.out]; omega
          generalize ms[k].sz = z at *
          generalize hll : (tO ms k ++ List.replicate ms[k].w k).length = ll at *
          have HO4 : Hid (IntO wr w.heap.size (.slice A2 ll cc2) (tO ms (k + 1))) := by rw [HS.out]; exact HO2
          clear HO2 HO3 hll HRL
          generalize ms[k].w = q at *
          go_wp2_with fail
          go_roundw
          case rel => exact ⟨k + 1, hlt, by go_num, HO4.out, HB2⟩
          case measure => simp [intOf]; omega
    · obtain rfl : k = ms.length := by omega
      obtain ⟨A2, cc2, rfl⟩ := owns_form HO.out
      have HR := Lib.hid (IntO.read HO.out)
      have HLN := tO_len ms ms.length (Nat.le_refl _)
      go_wp2_with fail
      go_ret
      exact ⟨A2, cc2, by rw [HLN]; rfl, HR.out, HB⟩

set_option maxHeartbeats 1000000 in
theorem refBase_any (w : World) (A : Option Addr) (ms : List TM) (cap : Nat) (m : Int) (hM : MxR w A ms) (hok : TmOk ms) (_hm : I64' m) :
    Calls Try.prog 16 #[.slice A ms.length cap, .int .i64 m] w fun e w' => e = .returned (.int .i64 (bOf ms m)) ∧ Below w.heap.size w w' := by
  have HO := Lib.hid (owners_any w A ms cap hM hok)
  have hTE := hok.tE
  have HL := Lib.hid (tO_len ms ms.length (Nat.le_refl _))
  have HH := Lib.hid (bOf_hit ms m)
  have HX := Lib.hid (bOf_miss ms m)
  clear hM hok
  have hll : (tO ms ms.length).length = tE ms := HL.out
  generalize bOf ms m = r at *
  generalize tO ms ms.length = O at *
  generalize tE ms = n at *
  have HLL := Lib.hid hll
  clear hll HL
  go_enter Try.func16, Try.ntmps16
  go_wp2_with fail
  refine HO.out.mono ?_
  rintro e w1 ⟨D, c, rfl, hr1, hb1⟩
  have HR := Lib.hid hr1
  have HB := Lib.hid hb1
  clear hr1 hb1
  go_wp2_with fail
  go_loop [6] (fun i => ∃ k : Nat, k ≤ n ∧ i = .int .i64 (k : Int) ∧ Hid (∀ j (h : j < O.length), j < k → (O[j] : Int) ≠ m)) (fun i => n - (intOf i).toNat)
  case atStart => exact ⟨0, Nat.zero_le _, rfl, fun j _ h => absurd h (Nat.not_lt_zero _)⟩
  case round =>
    obtain ⟨k, hk, rfl, HN⟩ := hrel
    by_cases hlt : k < n
    · have hlo : k < O.length := by rw [HLL.out]; exact hlt
      obtain ⟨b, rfl, c0⟩ := HR.out k hlo
      have i0 : (0 : Int) ≤ (k : Int) := by omega
      have i1 : (k : Int) < (n : Int) := by omega
      by_cases he : (O[k] : Int) = m
      · have HV := Lib.hid (HH.out k hlo HN.out he)
        have t1 := bT he
        clear he
        go_wp2_with fail
        go_ret
        exact ⟨by rw [HV.out]; rfl, HB.out⟩
      · have HN2 : Hid (∀ j (h : j < O.length), j < k + 1 → (O[j] : Int) ≠ m) := fun j h hj => by
          rcases Nat.lt_or_ge j k with h1 | h1
          · exact HN.out j h h1
          · obtain rfl : j = k := by omega
            exact he
        have t1 := bF he
        clear he
        go_wp2_with fail
        go_round
        case rel => exact ⟨k + 1, hlt, by go_num, HN2.out⟩
        case measure => simp [intOf]; omega
    · obtain rfl : k = n := by omega
      have HV := Lib.hid (HX.out fun j h => HN.out j h (by have := HLL.out; omega))
      go_wp2_with fail
      go_ret
      exact ⟨by rw [HV.out]; rfl, HB.out⟩
set_option maxHeartbeats 1000000 in
theorem refMutexOf_any (w : World) (A : Option Addr) (ms : List TM) (cap : Nat) (el : Int) (hM : MxR w A ms) (hok : TmOk ms) (hm : I64' el) :
    Calls Try.prog 17 #[.slice A ms.length cap, .int .i64 el] w fun e w' => e = .returned (.int .i64 (mOf ms el)) ∧ Below w.heap.size w w' := by
  unfold I64' at hm
  have HO := Lib.hid (owners_any w A ms cap hM hok)
  have hTE := hok.tE
  have HL : Hid ((tO ms ms.length).length = tE ms) := tO_len ms ms.length (Nat.le_refl _)
  clear hM hok
  by_cases h0 : el < 0
  · have HV := Lib.hid (mOf_neg ms el h0)
    go_enter Try.func17, Try.ntmps17
    go_wp2_with fail
    refine HO.out.mono ?_
    rintro e w1 ⟨D, c, rfl, hr1, hb1⟩
    have HB := Lib.hid hb1
    clear hr1 hb1
    go_wp2_with fail
    go_ret
    exact ⟨by rw [HV.out]; rfl, HB.out⟩
  · by_cases h1 : el < (tE ms : Int)
    · obtain ⟨x, rfl⟩ : ∃ x : Nat, el = (x : Int) := ⟨el.toNat, by omega⟩
      have hx : x < (tO ms ms.length).length := by rw [HL.out]; omega
      have HV := Lib.hid (mOf_own ms x hx)
      generalize tO ms ms.length = O at *
      generalize tE ms = n at *
      have i0 : (0 : Int) ≤ (x : Int) := by omega
      go_enter Try.func17, Try.ntmps17
      go_wp2_with fail
      refine HO.out.mono ?_
      rintro e w1 ⟨D, c, rfl, hr1, hb1⟩
      have HB := Lib.hid hb1
      obtain ⟨b, rfl, c0⟩ := hr1 x hx
      clear hr1 hb1
      go_wp2_with fail
      go_ret
      exact ⟨by rw [HV.out]; rfl, HB.out⟩
    · have HV := Lib.hid (mOf_out ms el (by omega))
      generalize tE ms = n at *
      go_enter Try.func17, Try.ntmps17
      go_wp2_with fail
      refine HO.out.mono ?_
      rintro e w1 ⟨D, c, rfl, hr1, hb1⟩
      have HB := Lib.hid hb1
      clear hr1 hb1
      go_wp2_with fail
      go_ret
      exact ⟨by rw [HV.out]; rfl, HB.out⟩
end Go.Proofs.Ytobpnpkcafacjaa
