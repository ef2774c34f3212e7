/- What ref of the writer of the made programs returns. -/
import Derived.Test.YtlnbmmgbfgmboaaQ7
namespace Go.Proofs.Ytlnbmmgbfgmboaa
open Go.RowKit

/-- strings -/
def strK : RowK (List UInt8) where
  cl := fun s => [.string ⟨s.toArray⟩]
  sz := 1
  hsz := fun _ => rfl
  one := fun p u hu => by
    simp at hu
    rw [hu]
    rfl
  In := fun _ _ _ => True
  keep := fun _ _ => trivial
  more := fun _ _ => trivial
theorem strK_read {t : TypeId} {w : World} {B n c : Nat} {A : Option Addr} {P : List (List UInt8)} (h : OwnR strK t w B (.slice A n c) P) (i : Nat) (hi : i < P.length) : ∃ b, A = some ⟨b, 0, none⟩ ∧ B ≤ b ∧ b < w.heap.size ∧ w.cell? ⟨b, i, none⟩ = some (.string ⟨P[i].toArray⟩) := by
  obtain ⟨A', c', e⟩ := h.form
  simp only [Value.slice.injEq] at e
  obtain ⟨-, rfl, rfl⟩ := e
  obtain ⟨g, hA, hg⟩ : ∃ g, A = some ⟨g, 0, none⟩ ∧ B ≤ g := by
    rcases h.1.2 with ⟨_, h0⟩ | ⟨g, cap', cur, e, hg, _⟩
    · omega
    · simp only [Value.slice.injEq] at e
      exact ⟨g, e.1, hg⟩
  subst hA
  have q := (World.ownsRow.cellAt h.1 (i * 1 + 0) (by show i * 1 + 0 < P.length * 1; omega)).trans (strK.cs_at P i 0 hi (by show 0 < 1; omega))
  rw [show i * 1 + 0 = i by omega] at q
  exact ⟨g, rfl, hg, World.block_lt_of_cell? _ _ q, q⟩
/-- the names of which ref takes one -/
def rfN (ms : List Mx) (ps : List Pm) : List Nm := ms.map (·.name) ++ ps.flatMap fun p => if p.m then [p.name, p.name] else []
theorem rfN_low (ms : List Mx) (ps : List Pm) (k : Nat) (h : k < ms.length) (h' : k < (rfN ms ps).length) : (rfN ms ps)[k] = ms[k].name := by
  have e : (rfN ms ps)[k]? = some ms[k].name := by
    unfold rfN
    rw [List.getElem?_append_left (by simpa using h)]
    simp [h]
  exact (List.getElem?_eq_some_iff.1 e).2
theorem rfN_high (ms : List Mx) (ps : List Pm) (k : Nat) (h : ms.length ≤ k) (h' : k < (rfN ms ps).length) : ∃ i, ∃ hi : i < ps.length, ps[i].m = true ∧ (rfN ms ps)[k] = ps[i].name := by
  have hm : (rfN ms ps)[k] ∈ ps.flatMap fun p => if p.m then [p.name, p.name] else [] := by
    have e0 : (rfN ms ps)[k]? = some (rfN ms ps)[k] := List.getElem?_eq_getElem h'
    generalize (rfN ms ps)[k] = x at *
    unfold rfN at e0
    rw [List.getElem?_append_right (by simpa using h)] at e0
    exact List.mem_of_getElem? e0
  obtain ⟨p, hp, hx⟩ := List.mem_flatMap.1 hm
  obtain ⟨i, hi, rfl⟩ := List.mem_iff_getElem.1 hp
  refine ⟨i, hi, ?_⟩
  cases hpm : ps[i].m with
  | true =>
    rw [hpm] at hx
    exact ⟨rfl, by simpa using hx⟩
  | false =>
    rw [hpm] at hx
    simp at hx
theorem rfN_len (ms : List Mx) (ps : List Pm) : ms.length ≤ (rfN ms ps).length ∧ (rfN ms ps).length ≤ ms.length + 2 * ps.length := by
  unfold rfN
  refine ⟨by simp, ?_⟩
  have : ∀ l : List Pm, (l.flatMap fun p => if p.m then [p.name, p.name] else []).length ≤ 2 * l.length := by
    intro l
    induction l with
    | nil => simp
    | cons p r ih =>
      rw [List.flatMap_cons, List.length_append, List.length_cons]
      have : (if p.m then [p.name, p.name] else []).length ≤ 2 := by split <;> simp
      omega
  have := this ps
  rw [List.length_append, List.length_map]
  omega
theorem rfN_snoc (ms : List Mx) (ps : List Pm) (j : Nat) (h : j < ps.length) : rfN ms (ps.take (j + 1)) = rfN ms (ps.take j) ++ (if ps[j].m then [ps[j].name, ps[j].name] else []) := by
  unfold rfN
  rw [List.take_succ_eq_append_getElem h, List.flatMap_append, List.append_assoc]
  simp
theorem OwnR.snoc2 {t : TypeId} {w' : World} {B : Nat} {v' : Value} {P : List (List UInt8)} {a b : List UInt8}
    (ho : w'.ownsRow B t 1 v' (P.length + 2) (strK.cs P ++ [.string ⟨a.toArray⟩, .string ⟨b.toArray⟩])) : OwnR strK t w' B v' (P ++ [a, b]) := by
  refine ⟨?_, fun p _ => trivial⟩
  have e : strK.cs (P ++ [a, b]) = strK.cs P ++ [.string ⟨a.toArray⟩, .string ⟨b.toArray⟩] := by simp [RowK.cs, List.flatMap_append, strK]
  rw [e, List.length_append]
  exact ho
theorem mblk2 {w : World} {b : Nat} {c0 c1 : Value} {t : TypeId} (h : w.heap[b]? = some (.cells #[c0, c1] t (0, 0))) :
    w.cell? ⟨b, 0, none⟩ = some c0 ∧ w.cell? ⟨b, 1, none⟩ = some c1 ∧ w.frozen? ⟨b, 0, none⟩ = false ∧ w.frozen? ⟨b, 1, none⟩ = false ∧ b < w.heap.size := by
  refine ⟨?_, ?_, ?_, ?_, lt_of_block h⟩
  · rw [cell_of_row w b 0 _ _ _ h]; rfl
  · rw [cell_of_row w b 1 _ _ _ h]; rfl
  · exact frozen_of_row w b 0 _ _ h
  · exact frozen_of_row w b 1 _ _ h
/-- what ref leaves -/
def WrP (w : World) (W : WP) (left : Nat) (ps : List Pm) (vs : List Nm) (e : Ending) (w' : World) : Prop :=
  ∃ (r : Rf) (A : Option Addr) (n c i' : Nat), e = .returned (.agg #[.string ⟨r.name.toArray⟩, .slice A n c]) ∧ RfW W.ms ps vs r ∧ IdxM w' (w.heap.size ≤ ·) r.idx A n ∧ WrM w' W i' left ∧ w.grownBy w' (some W.q)
/-- two cells of a block are written -/
def set2 (w : World) (r : Nat) (u0 u1 : Value) : World := (w.setCell ⟨r, 0, none⟩ u0).setCell ⟨r, 1, none⟩ u1
theorem set2_size (w : World) (r : Nat) (u0 u1 : Value) : (set2 w r u0 u1).heap.size = w.heap.size := by
  unfold set2
  simp [World.setCell]
theorem set2_keep (w : World) (r : Nat) (u0 u1 : Value) (b : Nat) (hb : b ≠ r) : (set2 w r u0 u1).heap[b]? = w.heap[b]? := by
  unfold set2
  rw [Below.heap_setCell _ _ _ b hb, Below.heap_setCell _ _ _ b hb]
theorem set2_at {w : World} {b : Nat} {c0 c1 : Value} {t : TypeId} (h : w.heap[b]? = some (.cells #[c0, c1] t (0, 0))) (u0 u1 : Value) : (set2 w b u0 u1).heap[b]? = some (.cells #[u0, u1] t (0, 0)) := by
  unfold set2
  simp [World.setCell, Array.getElem?_modify, h]
theorem set2_cells {w : World} {b : Nat} {c0 c1 : Value} {t : TypeId} (h : w.heap[b]? = some (.cells #[c0, c1] t (0, 0))) (u0 u1 : Value) (o : Obj) : ((set2 w b u0 u1).alloc o).cell? ⟨b, 0, none⟩ = some u0 ∧ ((set2 w b u0 u1).alloc o).cell? ⟨b, 1, none⟩ = some u1 := by
  have hl := lt_of_block h
  have h2 := (Below.heap_alloc (set2 w b u0 u1) o b (by rw [set2_size]; exact hl)).trans (set2_at h u0 u1)
  obtain ⟨a0, a1, -⟩ := mblk2 h2
  exact ⟨a0, a1⟩
theorem wr_end {w w4 W' : World} {W : WP} {i i' left n c : Nat} {ps : List Pm} {vs : List Nm} {r : Rf} {A : Option Addr} (h0 : WrM w W i left) (hr : RfW W.ms ps vs r) (hI : IdxM W' (w.heap.size ≤ ·) r.idx A n) (hS : Src w4 W.q W.xs i') (hG : w.grownBy w4 (some W.q))
    (hk : ∀ b, b < w.heap.size → W'.heap[b]? = w4.heap[b]?) (ho : W'.os = w4.os ∧ W'.tape = w4.tape ∧ W'.output = w4.output) (hsz : w4.heap.size ≤ W'.heap.size) : WrP w W left ps vs (.returned (.agg #[.string ⟨r.name.toArray⟩, .slice A n c])) W' := by
  have hq := h0.src.lt
  have hg : w.grownBy W' (some W.q) := ⟨ho.1.trans hG.os, ho.2.1.trans hG.tape, ho.2.2.trans hG.output, by have := hG.size; omega, fun b hb hn => (hk b hb).trans (hG.block b hb hn)⟩
  exact ⟨r, A, n, c, i', rfl, hr, hI, h0.next (hS.keep fun b hb => hk b (by omega)) hg, hg⟩
theorem wr_idx {w w3 w4 w5 : World} {nm : List UInt8} {f : EF} {E : Ex} (h1 : w.heap.size + 2 ≤ w3.heap.size) (h2 : w3.heap.size + 1 ≤ w4.heap.size) (h5 : w5.heap.size = w4.heap.size) (hk : ∀ b, b ≠ w3.heap.size → w5.heap[b]? = w4.heap[b]?) (hM : ExM w4 (w3.heap.size + 1 ≤ ·) E f) :
    IdxM ((set2 w5 (w.heap.size + 1) (.string ⟨nm.toArray⟩) (.slice (some ⟨w4.heap.size, 0, none⟩) 1 1)).alloc (.cells #[.int .i64 f.op, .int .i64 f.num, .string ⟨f.name.toArray⟩, .slice f.A f.n f.c] 89)) (w.heap.size ≤ ·) (some E) (some ⟨w4.heap.size, 0, none⟩) 1 ∧
    (∀ b, b < w.heap.size → ((set2 w5 (w.heap.size + 1) (.string ⟨nm.toArray⟩) (.slice (some ⟨w4.heap.size, 0, none⟩) 1 1)).alloc (.cells #[.int .i64 f.op, .int .i64 f.num, .string ⟨f.name.toArray⟩, .slice f.A f.n f.c] 89)).heap[b]? = w4.heap[b]?) ∧
    w4.heap.size ≤ ((set2 w5 (w.heap.size + 1) (.string ⟨nm.toArray⟩) (.slice (some ⟨w4.heap.size, 0, none⟩) 1 1)).alloc (.cells #[.int .i64 f.op, .int .i64 f.num, .string ⟨f.name.toArray⟩, .slice f.A f.n f.c] 89)).heap.size := by
  have hs := set2_size w5 (w.heap.size + 1) (.string ⟨nm.toArray⟩) (.slice (some ⟨w4.heap.size, 0, none⟩) 1 1)
  have hk2 : ∀ b, b ≠ w.heap.size + 1 → (set2 w5 (w.heap.size + 1) (.string ⟨nm.toArray⟩) (.slice (some ⟨w4.heap.size, 0, none⟩) 1 1)).heap[b]? = w5.heap[b]? := fun b hb => set2_keep w5 _ _ _ b hb
  generalize set2 w5 (w.heap.size + 1) (.string ⟨nm.toArray⟩) (.slice (some ⟨w4.heap.size, 0, none⟩) 1 1) = w6 at *
  have hn := heap_alloc_new w6 (.cells #[.int .i64 f.op, .int .i64 f.num, .string ⟨f.name.toArray⟩, .slice f.A f.n f.c] 89)
  rw [hs, h5] at hn
  have hal : ∀ b, b < w4.heap.size → (w6.alloc (.cells #[.int .i64 f.op, .int .i64 f.num, .string ⟨f.name.toArray⟩, .slice f.A f.n f.c] 89)).heap[b]? = w6.heap[b]? := fun b hb => Below.heap_alloc w6 _ b (by omega)
  refine ⟨⟨rfl, w4.heap.size, 0, f, rfl, by omega, ?_, ?_⟩, fun b hb => (hal b (by omega)).trans ((hk2 b (by omega)).trans (hk b (by omega))), by simp; omega⟩
  · obtain ⟨q0, q1, q2, q3, -⟩ := blk4 hn
    exact ⟨q0, q1, q2, q3⟩
  · exact (hM.keep fun b hb hlt => (hal b hlt).trans ((hk2 b (by omega)).trans (hk b (by omega)))).more fun b hb => by omega
/-- the loops of ref -/
def RfL (B : Nat) (W2 : World) (N : List Nm) (v : Value) (wr : World) : Prop := OwnR strK 9 wr B v N ∧ Below B W2 wr
theorem mblk3 {w : World} {b : Nat} {c0 c1 c2 : Value} {t : TypeId} (h : w.heap[b]? = some (.cells #[c0, c1, c2] t (0, 0))) :
    w.cell? ⟨b, 0, none⟩ = some c0 ∧ w.cell? ⟨b, 1, none⟩ = some c1 ∧ w.cell? ⟨b, 2, none⟩ = some c2 := by
  refine ⟨?_, ?_, ?_⟩
  · rw [cell_of_row w b 0 _ _ _ h]; rfl
  · rw [cell_of_row w b 1 _ _ _ h]; rfl
  · rw [cell_of_row w b 2 _ _ _ h]; rfl
theorem rf_low {w W2 wr w3 : World} {q : Nat} (h1 : Below w.heap.size w W2) (h2 : Below (w.heap.size + 2) W2 wr) (h3 : wr.grownBy w3 (some q)) (hs : W2.heap.size = w.heap.size + 2) : w.grownBy w3 (some q) :=
  ⟨h3.os.trans (h2.os.trans h1.os), h3.tape.trans (h2.tape.trans h1.tape), h3.output.trans (h2.output.trans h1.output), by have := h1.size; have := h2.size; have := h3.size; omega,
    fun b hb hn => (h3.block b (by have := h2.size; omega) hn).trans ((h2.block b (by omega)).trans (h1.block b hb))⟩
theorem rf_grow {B : Nat} {W2 wr w5 : World} {v : Value} {o : Obj} (h : Below B W2 wr) (hg : (wr.alloc o).grownBy w5 v.ownBlock) (hv : ∀ k, v.ownBlock = some k → B ≤ k) (hB : B ≤ W2.heap.size) : Below B W2 w5 :=
  (h.alloc (Nat.le_trans hB h.size) o).grown hg (by have := h.size; simp; omega) hv
theorem StrN.later {w w' : World} {g : Nat} {A : Option Addr} {xs : List (List UInt8)} (h : StrN w g A xs) (hb : Below w.heap.size w w') : StrN w' g A xs := by
  intro i hi
  obtain ⟨b, off, e, hn, hc⟩ := h i hi
  exact ⟨b, off, e, hn, cell_later hb hc⟩

set_option maxRecDepth 100000 in
set_option maxHeartbeats 8000000 in
theorem wref_any (w : World) (W : WP) (i left : Nat) (vs : List Nm) (A : Option Addr) (c : Nat) (fn : Nm) (ps : List Pm) (pA bA : Option Addr) (pc bn bc : Nat) (hW : WrM w W i left) (hV : StrN w W.q A vs) (hn : vs.length ≤ 1000) (hP : PmsM w (fun b => b ≠ W.g ∧ b ≠ W.q) ps pA) (hps : ps.length ≤ 2) :
    Calls Try.prog 46 #[.pointer (some ⟨W.g, 0, none⟩), .agg #[.string ⟨fn.toArray⟩, .slice pA ps.length pc, .slice bA bn bc], .slice A vs.length c] w (WrP w W left ps vs) := by
  obtain ⟨i0, hi, hz0, hz1, hz2⟩ := info_parts Try.infoStr
  obtain ⟨hn1, hn2⟩ := new2 w (.cells #[.string ⟨fn.toArray⟩, .slice pA ps.length pc, .slice bA bn bc] 70) (.cells #[.string ⟨#[]⟩, .slice none 0 0] 91)
  have hbw : Below w.heap.size w ((w.alloc (.cells #[.string ⟨fn.toArray⟩, .slice pA ps.length pc, .slice bA bn bc] 70)).alloc (.cells #[.string ⟨#[]⟩, .slice none 0 0] 91)) := ((Below.refl _ _).alloc (Nat.le_refl _) _).alloc (by simp) _
  have hsz : ((w.alloc (.cells #[.string ⟨fn.toArray⟩, .slice pA ps.length pc, .slice bA bn bc] 70)).alloc (.cells #[.string ⟨#[]⟩, .slice none 0 0] 91)).heap.size = w.heap.size + 2 := by simp
  have HW := Lib.hid (hW.later hbw)
  have HV := Lib.hid (hV.later hbw)
  have HP := Lib.hid (hP.keep (w' := ((w.alloc (.cells #[.string ⟨fn.toArray⟩, .slice pA ps.length pc, .slice bA bn bc] 70)).alloc (.cells #[.string ⟨#[]⟩, .slice none 0 0] 91))) fun b _ hl => hbw.block b hl)
  have HW0 := Lib.hid hW
  have HP0 := Lib.hid hP
  have hml := hW.ml
  have hms := Lib.hid hW.ms
  have hgl := hW.cells.2.2.2.2.2.2
  have hql := hW.src.lt
  clear hW hV hP
  go_enter Try.func46, Try.ntmps46
  go_wp2_with fail
  generalize hw2 : ((w.alloc (.cells #[.string ⟨fn.toArray⟩, .slice pA ps.length pc, .slice bA bn bc] 70)).alloc (.cells #[.string ⟨#[]⟩, .slice none 0 0] 91)) = W2 at *
  have HBW := Lib.hid hbw
  have HSZ := Lib.hid hsz
  have HX1 := Lib.hid hn1
  have HX2 := Lib.hid hn2
  clear hw2 hbw hsz hn1 hn2
  go_loopw [7, 8] (fun v j wr => ∃ k : Nat, k ≤ W.ms.length ∧ j = .int .i64 k ∧ Hid (RfL (w.heap.size + 2) W2 ((W.ms.take k).map (·.name)) v wr)) (fun _ j _ => W.ms.length - (intOf j).toNat)
  case atStart => exact ⟨0, Nat.zero_le _, rfl, OwnR.nil _ _ _ _, by rw [← HSZ.out]; exact Below.refl _ _⟩
  case round =>
    obtain ⟨k, hk, rfl, hL⟩ := hrel
    obtain ⟨hO, hB⟩ := hL.out
    have hB' : Below W2.heap.size W2 wr := by rw [HSZ.out]; exact hB
    have hWr := HW.out.later hB'
    obtain ⟨q0, q2, q3, q4, q5, -, hgl'⟩ := hWr.cells
    obtain ⟨vA, vc, rfl⟩ := hO.form
    have hsl : w.heap.size + 2 ≤ wr.heap.size := by have := hB.size; have := HSZ.out; omega
    have HO := Lib.hid hO
    have HB := Lib.hid hB
    have HWr := Lib.hid hWr
    have HPr := Lib.hid (HP.out.keep (w' := wr) fun b _ hl => hB'.block b hl)
    have HVr := Lib.hid (HV.out.later hB')
    have HR0 := Lib.hid ((hB'.block _ (by rw [HSZ.out]; omega)).trans HX1.out)
    have HR1 := Lib.hid ((hB'.block _ (by rw [HSZ.out]; omega)).trans HX2.out)
    clear hL hO hB hB' hWr q0 q3 q4 q5
    by_cases hlt : k < W.ms.length
    · obtain ⟨b, hAM, n1, n2, c0, c2⟩ := HWr.out.mx k hlt
      rw [hAM] at q2
      have hnl : (W.ms[k]).name.length ≤ 16 := (hms.out k hlt).2
      have HNS : Hid ((W.ms.take (k + 1)).map (·.name) = (W.ms.take k).map (·.name) ++ [(W.ms[k]).name]) := by show _ = _; rw [List.take_succ_eq_append_getElem hlt, List.map_append]; rfl
      have HLN : Hid (((W.ms.take k).map (·.name)).length = k) := by show _ = _; simp; omega
      generalize hNs : (W.ms.take k).map (·.name) = Ns at *
      generalize hnm : (W.ms[k]).name = nm at *
      clear hNs hnm hAM c2 n1 n2
      have hNl : Ns.length ≤ 4 := by have := HLN.out; omega
      go_wp2_with (first | (at_builtin; refine wpList_append_lies _ rfl (.tmp 23) (.tmp 33) 42 rfl (w.heap.size + 2) 9 i0 _ 1 16 Try.underlying42 hi hz0 hz1 hz2 rfl (by decide) _ Ns.length (strK.cs Ns) rfl (HO.out.alloc _).1 ⟨wr.heap.size, 0, none⟩ 1 1 [.string ⟨nm.toArray⟩] rfl rfl (news_any wr _ rfl _ _) (strK.one nm) (by omega) (by unfold maxLen; omega) (by omega) (by simp; omega) _ rfl ?_))
      intro g cap w5 hown hgrow hlies hgl
      have HO5 : Hid (OwnR strK 9 w5 (w.heap.size + 2) (.slice (some ⟨g, 0, none⟩) (Ns.length + 1) cap) (Ns ++ [nm])) := by
        refine ⟨?_, fun _ _ => trivial⟩
        rw [strK.cs_snoc, List.length_append]
        exact hown
      have HB5 := Lib.hid (rf_grow HB.out hgrow (fun k hk => (HO.out.1.lt k hk).1) (by have := HSZ.out; omega))
      clear hown hgrow hlies hgl HPr HVr HR0 HR1 HWr
      go_wp2_with fail
      go_roundw
      case rel =>
        refine ⟨k + 1, by omega, by go_num, ?_⟩
        rw [HNS.out, show Ns.length + 1 = (Ns ++ [nm]).length by simp]
        exact ⟨by rw [List.length_append]; exact HO5.out, HB5.out⟩
      case measure => simp [intOf]; omega
    · have hke : W.ms.take k = W.ms := List.take_of_length_le (by omega)
      rw [hke] at HO
      have HNL : Hid ((W.ms.map (·.name)).length = W.ms.length) := by show _ = _; simp
      have hln : (List.map (fun x => x.name) (List.take k W.ms)).length = W.ms.length := by rw [hke]; simp
      rw [hln]
      clear hke hln
      go_wp2_with fail
      have hr0 : rfN W.ms (ps.take 0) = W.ms.map (·.name) := by unfold rfN; simp
      rw [← hr0] at HO
      have HRL : Hid (∃ vA' vc', RfL (w.heap.size + 2) W2 (rfN W.ms (ps.take 0)) (.slice vA' (rfN W.ms (ps.take 0)).length vc') wr ∧ vA' = vA ∧ vc' = vc) := ⟨vA, vc, ⟨by
        have := HO.out
        rw [hr0] at this ⊢
        simpa using this, HB.out⟩, rfl, rfl⟩
      have hn0 : (rfN W.ms (ps.take 0)).length = W.ms.length := by rw [hr0]; simp
      clear HO HNL hk hlt hr0 HPr HVr HR0 HR1 HWr HB q2 hgl' hsl
      go_loopw [7, 10] (fun v j wr => ∃ k : Nat, k ≤ ps.length ∧ j = .int .i64 k ∧ Hid (RfL (w.heap.size + 2) W2 (rfN W.ms (ps.take k)) v wr)) (fun _ j _ => ps.length - (intOf j).toNat)
      case atStart =>
        refine ⟨0, Nat.zero_le _, rfl, ?_⟩
        obtain ⟨vA', vc', h, rfl, rfl⟩ := HRL.out
        rw [hn0] at h
        exact h
      case round =>
        clear HRL hn0
        obtain ⟨k, hk, rfl, hL⟩ := hrel
        obtain ⟨hO, hB⟩ := hL.out
        have hB' : Below W2.heap.size W2 wr := by rw [HSZ.out]; exact hB
        obtain ⟨vA, vc, rfl⟩ := hO.form
        have hsl : w.heap.size + 2 ≤ wr.heap.size := by have := hB.size; have := HSZ.out; omega
        have hf := (hB'.block _ (by rw [HSZ.out]; omega)).trans HX1.out
        obtain ⟨f0, f1, f2⟩ := mblk3 hf
        have HO := Lib.hid hO
        have HB := Lib.hid hB
        have HPr := Lib.hid (HP.out.keep (w' := wr) fun b _ hl => hB'.block b hl)
        have HLE := Lib.hid (rfN_len W.ms (ps.take k))
        have hrl : (rfN W.ms (ps.take k)).length ≤ 8 := by have := HLE.out.2; simp at this; omega
        clear hL hO hB hB' hf
        by_cases hlt : k < ps.length
        · obtain ⟨b, off, hpA, hbS, c0, c1⟩ := HPr.out k hlt
          have HBL : Hid (b < w.heap.size) := by
            obtain ⟨b2, off2, e2, -, d0, -⟩ := HP0.out k hlt
            rw [hpA] at e2
            injection e2 with e2
            injection e2 with e2
            have := World.block_lt_of_cell? _ _ d0
            show b < _
            simp at this
            omega
          subst hpA
          have HSN := Lib.hid (rfN_snoc W.ms ps k hlt)
          generalize hNs : rfN W.ms (ps.take k) = Ns at *
          have i0' : (0 : Int) ≤ (k : Int) := by omega
          have i1' : (k : Int) < (ps.length : Int) := by omega
          cases hpm : ps[k].m with
          | false =>
            rw [hpm] at c1 HSN
            clear hpm
            go_wp2_with fail
            go_roundw
            case rel =>
              refine ⟨k + 1, by omega, by go_num, ?_⟩
              rw [HSN.out]
              simp only [Bool.false_eq_true, if_false, List.append_nil]
              exact ⟨HO.out, HB.out⟩
            case measure => simp [intOf]; omega
          | true =>
            rw [hpm] at c1 HSN
            clear hpm
            generalize ps[k].name = nm at *
            have hbl : b < wr.heap.size := World.block_lt_of_cell? _ _ c0
            have hne0 : (Value.slice vA Ns.length vc).ownBlock ≠ some w.heap.size := fun e => by have := (HO.out.1.lt _ e).1; omega
            have hneb : (Value.slice vA Ns.length vc).ownBlock ≠ some b := fun e => by have := (HO.out.1.lt _ e).1; have := HBL.out; omega
            have HSN2 : Hid (rfN W.ms (ps.take (k + 1)) = Ns ++ [nm, nm]) := HSN.out
            clear HSN
            go_wp2_with fail
            go_region_held3 (fun w' => w'.cell? ⟨w.heap.size, 1, none⟩ = some (.slice (some ⟨b, off, none⟩) ps.length pc) ∧ w'.cell? ⟨b, off + k * 2, none⟩ = some (.string ⟨nm.toArray⟩))
              (first
                | go_keep
                | (go_split_ands; refine ⟨?_, ?_⟩ <;> first | (rw [hgrow.cell_far _ (by simp; omega) (Ne.symm hne0)]; simp [*]; done) | (rw [hgrow.cell_far _ (by simp; omega) (Ne.symm hneb)]; simp [*]; done)))
              (first
                | (refine step_append_lies _ (by rfl) _ _ _ (by rfl) (w.heap.size + 2) 9 i0 _ 1 16 Try.underlying42 hi hz0 hz1 hz2 rfl (by decide) (.slice vA Ns.length vc) Ns.length (strK.cs Ns) (by rfl) ((HO.out.1.drew).alloc _) ⟨wr.heap.size, 0, none⟩ 2 2 [.string ⟨nm.toArray⟩, .string ⟨nm.toArray⟩] (by rfl) (by rfl) (World.news_of_block (heap_alloc_new wr.drew _)) (by simp [Value.oneCell']) (by omega) (by unfold maxLen; omega) (by omega) (by simp; omega) (wr.heap.size + 1) (by simp) ?_; intro gg cap' w5 hown5 hgrow hat5 hlt5))
            have HO5 : Hid (OwnR strK 9 w5 (w.heap.size + 2) (.slice (some ⟨gg, 0, none⟩) (Ns.length + 2) cap') (Ns ++ [nm, nm])) := OwnR.snoc2 hown5
            have HB5 := Lib.hid (rf_grow (o := .cells #[.string ⟨nm.toArray⟩, .string ⟨nm.toArray⟩] 9) (v := .slice vA Ns.length vc) HB.out.drew hgrow (fun j hj => (HO.out.1.lt j hj).1) (by have := HSZ.out; omega))
            clear hown5 hgrow hat5 hlt5 HPr f0 f1 f2 c0 c1 hne0 hneb
            go_wp2_with fail
            go_roundw
            case rel =>
              refine ⟨k + 1, by omega, by go_num, ?_⟩
              rw [HSN2.out, show Ns.length + 2 = (Ns ++ [nm, nm]).length by simp]
              exact ⟨by rw [List.length_append]; exact HO5.out, HB5.out⟩
            case measure => simp [intOf]; omega
        · have hke : ps.take k = ps := List.take_of_length_le (by omega)
          rw [hke] at HO HLE hrl
          have HWr := Lib.hid (HW.out.later (by rw [HSZ.out]; exact HB.out))
          have HVr := Lib.hid (HV.out.later (by rw [HSZ.out]; exact HB.out))
          have HR1 := Lib.hid ((HB.out.block (w.heap.size + 1) (by omega)).trans HX2.out)
          have hgl' := HWr.out.cells.2.2.2.2.2.2
          rw [hke]
          obtain ⟨q0, q2, q3, q4, q5, -, -⟩ := HWr.out.cells
          have HMX := Lib.hid HWr.out.mx
          clear hke HPr q3 q4 q5
          have hNs := HLE.out
          have HNlow := Lib.hid (rfN_low W.ms ps)
          have HNhigh := Lib.hid (rfN_high W.ms ps)
          generalize rfN W.ms ps = Ns at *
          go_wp2_with fail
          refine (next_any _ W.q W.xs i ((Ns.length : Nat) : Int) HWr.out.src (by omega) (by omega)).mono ?_
          rintro e w3 ⟨rfl, hS3, hG3⟩
          rw [Int.toNat_natCast]
          have hkl := nextV_lt W.xs i Ns.length (by omega)
          generalize nextV W.xs i Ns.length = m at *
          have HW3 := Lib.hid (HWr.out.next hS3 hG3)
          have HO3 := Lib.hid (HO.out.grown hG3 (by omega))
          have HV3 := Lib.hid (HVr.out.grown hG3)
          have HR3 := Lib.hid ((hG3.block _ (lt_of_block HR1.out) (fun e => by injection e with e; omega)).trans HR1.out)
          have HG3 := Lib.hid (rf_low HBW.out HB.out hG3 HSZ.out)
          obtain ⟨nb, rfl, hnb, hnl, cn⟩ := strK_read HO3.out m hkl
          have hs3 : w.heap.size + 2 ≤ w3.heap.size := by omega
          obtain ⟨z0, z2, -, -, -, -, hgl3⟩ := HW3.out.cells
          have HNM : Hid (∀ h : m < W.ms.length, Ns[m] = (W.ms[m]).name) := fun h => HNlow.out m h hkl
          have HNH : Hid (W.ms.length ≤ m → ∃ i, ∃ hi : i < ps.length, ps[i].m = true ∧ Ns[m] = ps[i].name) := fun h => HNhigh.out m h hkl
          generalize Ns[m] = nm at *
          obtain ⟨r0, r1, g0, g1, grl⟩ := mblk2 HR3.out
          have i0m : (0 : Int) ≤ (m : Int) := by omega
          have i1m : (m : Int) < (Ns.length : Int) := by omega
          clear hS3 hG3 q0 q2 HO HO3 HVr HWr HR1 HNlow HNhigh HB HP HP0 HMX HW HV HX1 HX2 f0 f1 f2
          by_cases hmm : m < W.ms.length
          · obtain ⟨b', hAM, n1, n2, c0, c2⟩ := HW3.out.mx m hmm
            rw [hAM] at z2
            have hbl' : b' < w3.heap.size := World.block_lt_of_cell? _ _ c2
            by_cases hsz0 : (W.ms[m]).size = 0
            · have ts : (((W.ms[m]).size : Nat) : Int) = 0 := by omega
              have hrw : RfW W.ms ps vs ⟨nm, none⟩ := .inl ⟨m, hmm, HNM.out hmm, .inl ⟨hsz0, rfl⟩⟩
              go_wp2_with fail
              obtain ⟨e0, e1⟩ := set2_cells HR3.out (.string ⟨nm.toArray⟩) (.slice none 0 0) (.cells #[.string ⟨nm.toArray⟩, .slice none 0 0] 91)
              unfold set2 at e0 e1
              refine bodyPost_ret (v := .agg #[.string ⟨nm.toArray⟩, .slice none 0 0]) (by simp only [results, Try.results46]; simp [go_sem, e0, e1]) rfl ?_
              exact wr_end (r := ⟨nm, none⟩) HW0.out hrw rfl HW3.out.src HG3.out (fun b hb => (Below.heap_alloc _ _ b (by simp; omega)).trans (set2_keep w3 (w.heap.size + 1) _ _ b (by omega))) ⟨rfl, rfl, rfl⟩ (by simp)
            · have hsz3 := (hms.out m hmm).1
              have HX := Lib.hid (windex_any (w3.alloc (.cells #[.string ⟨nm.toArray⟩, .slice none 0 0] 91)) W (nextI W.xs i) left vs A c (W.ms[m]).size (by omega) hsz3 (HW3.out.alloc _) (HV3.out.alloc _) hn)
              have HNS : Hid (∀ E, ExW 1 vs E → RfW W.ms ps vs ⟨nm, some E⟩) := fun E hE => .inl ⟨m, hmm, HNM.out hmm, .inr ⟨by omega, E, rfl, hE⟩⟩
              generalize (W.ms[m]).size = size at *
              have ts := bF (show ((size : Nat) : Int) ≠ 0 by omega)
              have hps0 : (0 : Int) < (size : Int) := by omega
              go_wp2_with fail
              refine HX.out.mono ?_
              rintro e w4 ⟨f, E, i', rfl, hE, hM, hW4, hG4⟩
              have hz3' : (w3.alloc (.cells #[.string ⟨nm.toArray⟩, .slice none 0 0] 91)).heap.size = w3.heap.size + 1 := by simp
              have hz4 : w3.heap.size + 1 ≤ w4.heap.size := by have := hG4.size; omega
              have HRb := Lib.hid ((hG4.block w3.heap.size (by omega) (fun e => by injection e with e; omega)).trans (heap_alloc_new w3 _))
              have HR4 := Lib.hid ((hG4.block (w.heap.size + 1) (by omega) (fun e => by injection e with e; omega)).trans ((Below.heap_alloc w3 _ _ (by omega)).trans HR3.out))
              have HM4 := Lib.hid hM
              have HW4 := Lib.hid hW4
              have HG4 : Hid (w.grownBy w4 (some W.q)) := grown_trans HG3.out (grown_of_alloc hG4)
              have HE4 := Lib.hid (HNS.out E hE)
              obtain ⟨rb0, rb1, gb0, gb1, gbl⟩ := mblk2 HRb.out
              obtain ⟨rr0, rr1, gr0, gr1, grl4⟩ := mblk2 HR4.out
              clear hE hM hW4 hG4 r0 r1 g0 g1
              have hq := HW0.out.src.lt
              unfold EF.val
              go_wp2_with fail
              have HR5 : (w4.setCell ⟨w3.heap.size, 1, none⟩ (.slice (some ⟨w4.heap.size, 0, none⟩) 1 1)).heap[w.heap.size + 1]? = _ := (Below.heap_setCell w4 ⟨w3.heap.size, 1, none⟩ _ (w.heap.size + 1) (by show w.heap.size + 1 ≠ w3.heap.size; omega)).trans HR4.out
              obtain ⟨e0, e1⟩ := set2_cells HR5 (.string ⟨nm.toArray⟩) (.slice (some ⟨w4.heap.size, 0, none⟩) 1 1) (.cells #[.int .i64 f.op, .int .i64 f.num, .string ⟨f.name.toArray⟩, .slice f.A f.n f.c] 89)
              have hsz5 : (w4.setCell ⟨w3.heap.size, 1, none⟩ (.slice (some ⟨w4.heap.size, 0, none⟩) 1 1)).heap.size = w4.heap.size := by simp
              have hk5 : ∀ b, b ≠ w3.heap.size → (w4.setCell ⟨w3.heap.size, 1, none⟩ (.slice (some ⟨w4.heap.size, 0, none⟩) 1 1)).heap[b]? = w4.heap[b]? := fun b hb => Below.heap_setCell w4 ⟨w3.heap.size, 1, none⟩ _ b hb
              have hwe := wr_idx (w := w) (w3 := w3) (w4 := w4) (nm := nm) (f := f) (by omega) (by omega) hsz5 hk5 (HM4.out.more (S' := (w3.heap.size + 1 ≤ ·)) fun b hb => by rw [hz3'] at hb; exact hb)
              unfold set2 at e0 e1
              refine bodyPost_ret (v := .agg #[.string ⟨nm.toArray⟩, .slice (some ⟨w4.heap.size, 0, none⟩) 1 1]) (by simp only [results, Try.results46]; simp [go_sem, e0, e1]) rfl ?_
              exact wr_end (r := ⟨nm, some E⟩) HW0.out HE4.out hwe.1 HW4.out.src HG4.out hwe.2.1 ⟨rfl, rfl, rfl⟩ hwe.2.2
          · have hrw : RfW W.ms ps vs ⟨nm, none⟩ := .inr (by obtain ⟨j, hj, h1, h2⟩ := HNH.out (by omega); exact ⟨j, hj, h1, h2, rfl⟩)
            go_wp2_with fail
            obtain ⟨e0, e1⟩ := set2_cells HR3.out (.string ⟨nm.toArray⟩) (.slice none 0 0) (.cells #[.string ⟨nm.toArray⟩, .slice none 0 0] 91)
            unfold set2 at e0 e1
            refine bodyPost_ret (v := .agg #[.string ⟨nm.toArray⟩, .slice none 0 0]) (by simp only [results, Try.results46]; simp [go_sem, e0, e1]) rfl ?_
            exact wr_end (r := ⟨nm, none⟩) HW0.out hrw rfl HW3.out.src HG3.out (fun b hb => (Below.heap_alloc _ _ b (by simp; omega)).trans (set2_keep w3 (w.heap.size + 1) _ _ b (by omega))) ⟨rfl, rfl, rfl⟩ (by simp)
end Go.Proofs.Ytlnbmmgbfgmboaa
