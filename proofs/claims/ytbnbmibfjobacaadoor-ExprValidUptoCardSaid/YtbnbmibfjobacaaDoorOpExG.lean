/- An expression that came in lies in memory as a tree. No statement of the program is proved in this file. -/
import Derived.Test.YtbnbmibfjobacaaDoorVdEqG
import Derived.Test.YtbnbmibfjobacaaDoorRows
import Derived.OpenShut
import Derived.ProofKit
import Derived.LaidMore
namespace Go.Proofs.YtbnbmibfjobacaaDoor
open Go.ChangeShapes Go.WideShapes Go.ChangeAt Go.RowKit

theorem bulk_pos {H : Type} (d : DataW H) : 1 ≤ Rows.uptoBulk d := by
  cases d with
  | lit l => cases l <;> simp [Rows.uptoBulk]
  | _ => simp [Rows.uptoBulk]
theorem bulkAll_app {H : Type} (a b : List (DataW H)) : Rows.uptoBulkAll (a ++ b) = Rows.uptoBulkAll a + Rows.uptoBulkAll b := by
  induction a with
  | nil => simp [Rows.uptoBulkAll]
  | cons x r ih => rw [List.cons_append, Rows.uptoBulkAll, Rows.uptoBulkAll, ih]; omega
theorem bulkAll_at {H : Type} (a : List (DataW H)) (i : Nat) (h : i < a.length) : Rows.uptoBulk a[i] ≤ Rows.uptoBulkAll a := by
  induction a generalizing i with
  | nil => simp at h
  | cons x r ih =>
    rw [Rows.uptoBulkAll]
    cases i with
    | zero => simp
    | succ i =>
      have := ih i (by simpa using h)
      simp
      omega
theorem cnts_le {H : Type} (args : List Ex) (ds : List (DataW H)) (hl : args.length = ds.length) (h : ∀ i (h1 : i < args.length) (h2 : i < ds.length), 5 * exCnt args[i] ≤ Rows.uptoBulk ds[i]) : 5 * exCnts args ≤ Rows.uptoBulkAll ds := by
  induction args generalizing ds with
  | nil => rw [exCnts]; omega
  | cons x r ih =>
    cases ds with
    | nil => simp at hl
    | cons d ds =>
      have h0 := h 0 (by simp) (by simp)
      have h1 := ih ds (by simpa using hl) (fun i h1 h2 => h (i + 1) (Nat.succ_lt_succ h1) (Nat.succ_lt_succ h2))
      rw [exCnts, Rows.uptoBulkAll]
      simp only [List.getElem_cons_zero] at h0
      omega
theorem cnt_pos (E : Ex) : 1 ≤ exCnt E := by
  cases E with
  | mk _ _ _ _ => rw [exCnt]; omega
theorem cnts_len (args : List Ex) : args.length ≤ exCnts args := by
  induction args with
  | nil => simp
  | cons x r ih =>
    have := cnt_pos x
    rw [exCnts]
    simp
    omega

/-- what is known of an expression that was read -/
def OpP {H : Type} (w : World) (cs : List Value) (d : DataW H) (E : Ex) (f : EF) : Prop :=
  cs = [.int .i64 f.op, .int .i64 f.num, .string ⟨f.name.toArray⟩, .slice f.A f.n f.c] ∧ ExM w (fun _ => True) E f ∧ ExI E ∧ 5 * exCnt E ≤ Rows.uptoBulk d ∧ (Rows.uptoBulk d ≤ 1048576 → ExB E)

theorem elem_plain {w : World} {base : Nat} {a : Addr} {cs : List Value} (hc : w.cells? base (a.add (0 * 4)) 4 = some cs) : ∃ b off, a = ⟨b, off, none⟩ := by
  obtain ⟨_, hl, h⟩ := World.cells?_some hc
  have h0 := h 0 (by omega)
  rw [List.getElem?_eq_getElem (by omega)] at h0
  have h1 := World.cell?_spot h0
  obtain ⟨b, off, spot⟩ := a
  have : spot = none := by simpa [Addr.add] using h1
  subst this
  exact ⟨b, off, rfl⟩
theorem elem_at {w : World} {base b off i : Nat} {f : EF} {cs : List Value} (hc : w.cells? base ((⟨b, off, none⟩ : Addr).add (i * 4)) 4 = some cs) (he : cs = [.int .i64 f.op, .int .i64 f.num, .string ⟨f.name.toArray⟩, .slice f.A f.n f.c]) : EFat w b (off + i * 4) f := by
  obtain ⟨_, _, h⟩ := World.cells?_some hc
  subst he
  rw [add_plain] at h
  have h0 := h 0 (by omega)
  have h1 := h 1 (by omega)
  have h2 := h 2 (by omega)
  have h3 := h 3 (by omega)
  rw [add_plain] at h0 h1 h2 h3
  exact ⟨h0, h1, h2, h3⟩

set_option maxRecDepth 100000 in
theorem open_expr {H : Type} (enc : TypeId × Value → H) (w : World) (N : Nat) : ∀ fuel, fuel < N → ∀ (cs : List Value) (x : DataW H × List MemPlace), DataW.trod enc Tryd.prog w 0 (fun _ => true) true fuel 25 cs = some x → ∃ E f, OpP w cs x.1 E f := by
  have c4 : Tryd.prog.cellsOf 25 = 4 := by kernel_rfl
  have ci : Tryd.prog.cellsOf 3 = 1 := by kernel_rfl
  have cst : Tryd.prog.cellsOf 9 = 1 := by kernel_rfl
  have csl : Tryd.prog.cellsOf 23 = 1 := by kernel_rfl
  induction N with
  | zero => intro fuel h; omega
  | succ N ih =>
    intro fuel hN cs x h
    obtain ⟨xs, n, hf, rfl, hl, hlen, hfld⟩ := DataW.trod_struct Tryd.underlying25 h
    rw [c4] at hl
    have hlen4 : xs.length = 4 := hlen
    match xs, hlen4, hfld with
    | [y0, y1, y2, y3], _, hfld =>
    match cs, hl, hfld with
    | [c0, c1, c2, c3], _, hfld =>
    have g0 : DataW.trod enc Tryd.prog w 0 (fun _ => true) true n 3 (([c0, c1, c2, c3].drop 0).take (Tryd.prog.cellsOf 3)) = some y0 := hfld 0 _ rfl
    have g1 : DataW.trod enc Tryd.prog w 0 (fun _ => true) true n 3 (([c0, c1, c2, c3].drop 1).take (Tryd.prog.cellsOf 3)) = some y1 := hfld 1 _ rfl
    have g2 : DataW.trod enc Tryd.prog w 0 (fun _ => true) true n 9 (([c0, c1, c2, c3].drop 2).take (Tryd.prog.cellsOf 9)) = some y2 := hfld 2 _ rfl
    have g3 : DataW.trod enc Tryd.prog w 0 (fun _ => true) true n 23 (([c0, c1, c2, c3].drop 3).take (Tryd.prog.cellsOf 23)) = some y3 := hfld 3 _ rfl
    rw [ci] at g0 g1
    rw [cst] at g2
    rw [csl] at g3
    obtain ⟨op, e0, z0, _⟩ := DataW.trod_int Tryd.underlying3 g0
    obtain ⟨num, e1, z1, wf1⟩ := DataW.trod_int Tryd.underlying3 g1
    obtain ⟨s, e2, z2, _⟩ := DataW.trod_string Tryd.underlying9 g2
    have hc0 : c0 = .int .i64 op := by simpa using e0
    have hc1 : c1 = .int .i64 num := by simpa using e1
    have hc2 : c2 = .string s := by simpa using e2
    have hnb := bounds_i64 wf1
    have hsn : s = ⟨s.data.toList.toArray⟩ := by cases s; simp
    have hbk : Rows.uptoBulk (DataW.agg ([y0, y1, y2, y3].map (·.1)) : DataW H) = 1 + (1 + (s.data.toList.length + 1 + (Rows.uptoBulk y3.1 + 0))) + 1 := by
      show Rows.uptoBulkAll [y0.1, y1.1, y2.1, y3.1] + 1 = _
      rw [z0, z1, z2]
      simp only [Rows.uptoBulkAll, Rows.uptoBulk]
    rcases DataW.trod_slice Tryd.underlying23 g3 with ⟨e3, z3⟩ | ⟨a, len, cap, elems, rest, m, hn, e3, z3, _, hlc, _, hel, hcell, _, _⟩
    · have hc3 : c3 = .slice none 0 0 := by simpa using e3
      have hb3 : Rows.uptoBulk y3.1 = 1 := by rw [z3]; rfl
      refine ⟨.mk op num s.data.toList [], ⟨op, num, s.data.toList, none, 0, 0⟩, ?_, ExM.leaf _ _ _ _ _ _ _, .mk _ _ _ _ (by omega) (fun i hi => absurd hi (by simp)), ?_, fun hb => .mk _ _ _ _ (by simp) (by rw [hbk] at hb; omega) (fun i hi => absurd hi (by simp))⟩
      · rw [hc0, hc1, hc2, hc3, ← hsn]
      · rw [hbk, hb3, exCnt, exCnts]
        omega
    · have hc3 : c3 = .slice (some a) len cap := by simpa using e3
      rw [c4] at hcell
      have hex : ∀ i, i < len → ∃ E f cs', w.cells? 0 (a.add (i * 4)) 4 = some cs' ∧ ∃ hi : i < elems.length, OpP w cs' (elems[i]).1 E f := by
        intro i hi
        have hi' : i < elems.length := by omega
        have hk := hcell i hi
        rw [List.getElem?_eq_getElem hi'] at hk
        obtain ⟨cs', k1, k2⟩ := Option.bind_eq_some_iff.1 hk
        obtain ⟨E, f, hP⟩ := ih m (by omega) cs' _ k2
        exact ⟨E, f, cs', k1, hi', hP⟩
      obtain ⟨G, hG⟩ : ∃ G : Nat → Ex × EF, ∀ i, i < len → ∃ cs', w.cells? 0 (a.add (i * 4)) 4 = some cs' ∧ ∃ hi : i < elems.length, OpP w cs' (elems[i]).1 (G i).1 (G i).2 := by
        refine ⟨fun i => if h : i < len then (Classical.choose (hex i h), Classical.choose (Classical.choose_spec (hex i h))) else (.mk 0 0 [] [], ⟨0, 0, [], none, 0, 0⟩), fun i hi => ?_⟩
        simp only [dif_pos hi]
        exact Classical.choose_spec (Classical.choose_spec (hex i hi))
      have hal : ((List.range len).map fun i => (G i).1).length = len := by simp
      have hget : ∀ i (h : i < ((List.range len).map fun i => (G i).1).length), ((List.range len).map fun i => (G i).1)[i] = (G i).1 := by intro i h; simp
      obtain ⟨args, hargs⟩ : ∃ args, args = (List.range len).map fun i => (G i).1 := ⟨_, rfl⟩
      rw [← hargs] at hal
      have hget' : ∀ i (h : i < args.length), args[i] = (G i).1 := by subst hargs; exact hget
      have hkids : ∀ i (h : i < args.length), ∃ cs', w.cells? 0 (a.add (i * 4)) 4 = some cs' ∧ ∃ hi : i < elems.length, OpP w cs' (elems[i]).1 args[i] (G i).2 := by
        intro i hi
        rw [hget' i hi]
        exact hG i (by omega)
      have hb3 : Rows.uptoBulkAll (elems.map (·.1)) + 1 ≤ Rows.uptoBulk y3.1 := by
        rw [z3]
        show _ ≤ Rows.uptoBulkAll (elems.map (·.1)) + Rows.uptoBulkAll (rest.map (·.1)) + 1
        omega
      have hcn : 5 * exCnts args ≤ Rows.uptoBulkAll (elems.map (·.1)) := by
        refine cnts_le args _ (by simp; omega) (fun i h1 h2 => ?_)
        obtain ⟨cs', _, hi, hP⟩ := hkids i h1
        have := hP.2.2.2.1
        simpa using this
      have hln := cnts_len args
      refine ⟨.mk op num s.data.toList args, ⟨op, num, s.data.toList, some a, args.length, cap⟩, ?_, ?_, .mk _ _ _ _ (by omega) (fun i hi => ?_), ?_, fun hb => .mk _ _ _ _ (by rw [hbk] at hb; omega) (by rw [hbk] at hb; omega) (fun i hi => ?_)⟩
      · rw [hc0, hc1, hc2, hc3, ← hsn, hal]
      · refine .mk op num s.data.toList args (some a) cap (fun i => (G i).2) (fun i hi => ?_) (fun i hi => ?_)
        · obtain ⟨cs0, k0, _⟩ := hkids 0 (by omega)
          obtain ⟨b, off, e⟩ := elem_plain k0
          obtain ⟨cs', k1, _, hP⟩ := hkids i hi
          rw [e] at k1
          exact ⟨b, off, by rw [e], trivial, elem_at k1 hP.1⟩
        · obtain ⟨cs', _, _, hP⟩ := hkids i hi
          exact hP.2.1
      · obtain ⟨cs', _, _, hP⟩ := hkids i hi
        exact hP.2.2.1
      · rw [hbk, exCnt_mk]
        omega
      · obtain ⟨cs', _, hi', hP⟩ := hkids i hi
        have h1 := bulkAll_at (elems.map (·.1)) i (by simpa using hi')
        simp at h1
        exact hP.2.2.2.2 (by rw [hbk] at hb; omega)
end Go.Proofs.YtbnbmibfjobacaaDoor
