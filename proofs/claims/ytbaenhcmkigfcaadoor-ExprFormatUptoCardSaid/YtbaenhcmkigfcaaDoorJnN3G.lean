/- What join and Format of package expr return, for expressions with numbers too. -/
import Derived.Test.YtbaenhcmkigfcaaDoorJnN2G
namespace Go.Proofs.YtbaenhcmkigfcaaDoor
open Go.RowKit

/-- what holds at the head of join's loop -/
def JnRelN (w : World) (C : Nat) (T : List UInt8) (g : Nat) (l : List Pc) (ts : List (List UInt8)) (v3 v4 : Value) (wr : World) : Prop :=
  g = pcsM l ∧ ts.length + pcsM l ≤ C ∧ l.length ≤ pcsM l ∧ 0 < l.length + ts.length ∧ wr.ownsRow (w.heap.size + 1) 89 5 v4 l.length (pcCells l) ∧ wr.ownsRow (w.heap.size + 1) 9 1 v3 ts.length (ts.map fun s => Value.string ⟨s.toArray⟩) ∧
    (∀ i ∈ l, PcOkN w i) ∧ Below w.heap.size w wr ∧ pcsT l ++ ts.reverse.flatten = T

set_option maxRecDepth 100000 in
set_option maxHeartbeats 8000000 in
theorem join_anyN (w : World) (E : Ex) (op num : Int) (name : List UInt8) (A : Option Addr) (n c : Nat) (hM : ExM w (fun _ => True) E ⟨op, num, name, A, n, c⟩) (hG : ExN E) (hC : exCnt E ≤ 1000000000) (hT : (exText E).length ≤ 1000000000) (hS : SgT w) (hP : PwT w) :
    Calls Tryd.prog 30 #[.agg #[.int .i64 op, .int .i64 num, .string ⟨name.toArray⟩, .slice A n c]] w fun e w' => e = .returned (.string ⟨(exText E).toArray⟩) ∧ Below w.heap.size w w' := by
  obtain ⟨i0, hi, hz0, hz1, hz2⟩ := info_parts Tryd.infoPc
  obtain ⟨j0, hj, hy0, hy1, hy2⟩ := info_parts Tryd.infoStr
  have hop := hG.op
  have HR0 : Hid (∃ l ts, JnRelN w (8 * exCnt E) (exText E) (8 * exCnt E) l ts (.slice none 0 0) (.slice (some ⟨w.heap.size + 1, 0, none⟩) 1 1) ((w.alloc (.cells #[.int .i64 op, .int .i64 num, .string ⟨name.toArray⟩, .slice A n c] 38)).alloc (.cells #[.string ⟨#[]⟩, .int .i64 op, .int .i64 num, .string ⟨name.toArray⟩, .slice A n c] 89))) := by
    have hpm : pcsM [⟨[], E, ⟨op, num, name, A, n, c⟩⟩] = 8 * exCnt E := by
      show pcM _ + 0 = _
      unfold pcM
      rw [if_neg (by show ¬ E.op = 0; omega)]
      rfl
    have hpt : pcsT [⟨[], E, ⟨op, num, name, A, n, c⟩⟩] = exText E := by
      show pcT _ ++ [] = _
      unfold pcT
      rw [if_neg (by show ¬ E.op = 0; omega)]
      simp
    refine ⟨[⟨[], E, ⟨op, num, name, A, n, c⟩⟩], [], hpm.symm, by rw [hpm]; simp, pcsM_len _, by simp, ?_, World.ownsRow_nil _ _ _ _, ?_, ((Below.refl _ _).alloc (Nat.le_refl _) _).alloc (by simp) _, by rw [hpt]; simp⟩
    · have := World.ownsRow_lit (base := w.heap.size + 1) (e := 89) (size := 5) (w.alloc (.cells #[.int .i64 op, .int .i64 num, .string ⟨name.toArray⟩, .slice A n c] 38)) #[.string ⟨#[]⟩, .int .i64 op, .int .i64 num, .string ⟨name.toArray⟩, .slice A n c] 1 (by simp) (by unfold maxLen; omega) (by simp)
      rw [show (w.alloc (.cells #[.int .i64 op, .int .i64 num, .string ⟨name.toArray⟩, .slice A n c] 38)).heap.size = w.heap.size + 1 by simp] at this
      exact this
    · intro i hi
      simp at hi
      subst hi
      exact .inr ⟨hM, hG⟩
  have hC8 : 8 * exCnt E ≤ 8000000000 := by omega
  have HT := Lib.hid hT
  have HS := Lib.hid hS
  have HP := Lib.hid hP
  generalize exText E = T at *
  generalize 8 * exCnt E = C at *
  clear hM hG hC hT hS hP hop
  go_enter Tryd.func30, Tryd.ntmps30
  go_wp2_with fail
  go_loopg [3, 4] C (fun g v3 v4 wr => Hid (∃ l ts, JnRelN w C T g l ts v3 v4 wr))
  case atStart => exact HR0
  case round =>
    clear HR0
    obtain ⟨l, ts, hg, hsum, hlm, hne0, hown, htx, hok, hbel, htext⟩ := hrel.out
    clear hrel
    rcases List.eq_nil_or_concat l with rfl | ⟨l, it, rfl⟩
    · have htn : 0 < ts.length := by simpa using hne0
      obtain ⟨sa4, sc4, rfl⟩ := owns_form hown
      obtain ⟨sa3, sc3, rfl⟩ := owns_form htx
      obtain ⟨g3, rfl⟩ := owns_some htx htn
      have HTX : Hid (ts.reverse.flatten = T) := by
        show _ = T
        simpa [pcsT] using htext
      have htl : ts.length ≤ 8000000000 := by omega
      have HO3 := Lib.hid (own_le (base' := w.heap.size) htx (by omega))
      have HBE := Lib.hid hbel
      clear hown htx hok hbel htext hsum hg hlm hne0
      dsimp only [List.length_nil]
      go_wp2_with fail
      refine (reverse_own ts g3 sc3 w.heap.size w wr HBE.out HO3.out (by omega)).mono ?_
      rintro e w2 ⟨rfl, ho2, hb2⟩
      have HO2 := Lib.hid ho2
      have HB2 := Lib.hid hb2
      clear ho2 hb2
      go_wp2_with fail
      have hrl : ts.reverse.length = ts.length := List.length_reverse
      have HJ := Lib.hid (join_own0 ts.reverse g3 sc3 w.heap.size w2)
      rw [hrl] at HJ
      refine (HJ.out HO2.out (by omega) (by rw [HTX.out]; exact HT.out)).mono ?_
      rintro e w3 ⟨rfl, hb3⟩
      rw [HTX.out]
      have HB3 := Lib.hid (below_rev' hb3 HB2.out)
      clear hb3 hrl
      go_wp2_with fail
      go_ret
      exact ⟨rfl, HB3.out⟩
    · rw [List.concat_eq_append] at *
      obtain ⟨s, x, fi⟩ := it
      have hlen : (l ++ [(⟨s, x, fi⟩ : Pc)]).length = l.length + 1 := by simp
      rw [hlen] at hown hlm
      obtain ⟨sa, cap, rfl⟩ := owns_form hown
      obtain ⟨gb, rfl⟩ := owns_some hown (by omega)
      obtain ⟨sa3, sc3, rfl⟩ := owns_form htx
      have hll : l.length + 1 ≤ 8000000000 := by omega
      have htl : ts.length ≤ 8000000000 := by omega
      have q : ∀ j, j < 5 → wr.cell? ⟨gb, l.length * 5 + j, none⟩ = [Value.string ⟨s.toArray⟩, .int .i64 fi.op, .int .i64 fi.num, .string ⟨fi.name.toArray⟩, .slice fi.A fi.n fi.c][j]? := fun j hj => (World.ownsRow.cellAt hown _ (by omega)).trans (pc_item l ⟨s, x, fi⟩ j hj)
      have q0 : wr.cell? ⟨gb, l.length * 5, none⟩ = some (.string ⟨s.toArray⟩) := q 0 (by omega)
      have q1 : wr.cell? ⟨gb, l.length * 5 + 1, none⟩ = some (.int .i64 fi.op) := q 1 (by omega)
      have q2 : wr.cell? ⟨gb, l.length * 5 + 2, none⟩ = some (.int .i64 fi.num) := q 2 (by omega)
      have q3 : wr.cell? ⟨gb, l.length * 5 + 3, none⟩ = some (.string ⟨fi.name.toArray⟩) := q 3 (by omega)
      have q4 : wr.cell? ⟨gb, l.length * 5 + 4, none⟩ = some (.slice fi.A fi.n fi.c) := q 4 (by omega)
      have hown2 : wr.ownsRow (w.heap.size + 1) 89 5 (.slice (some ⟨gb, 0, none⟩) l.length cap) l.length (pcCells l) := by
        refine ownsRow_pop (last := (⟨s, x, fi⟩ : Pc).cells) (pcCells_len l) ?_
        have e1 : pcCells [(⟨s, x, fi⟩ : Pc)] = (⟨s, x, fi⟩ : Pc).cells := by simp [pcCells]
        rw [← e1, ← pcCells_app]
        exact hown
      have hcap : l.length + 1 ≤ cap := by
        rcases hown.2 with ⟨h0, _⟩ | ⟨g', cap', cur, e', _, _, hle, _⟩
        · cases h0
        · injection e' with _ _ e3
          omega
      have hit : PcOkN w ⟨s, x, fi⟩ := hok _ (by simp)
      have HOK : Hid (∀ i ∈ l, PcOkN w i) := fun i hi => hok i (by simp [hi])
      have HSM : Hid (ts.length + (pcsM l + pcM ⟨s, x, fi⟩) ≤ C ∧ gk = pcsM l + pcM ⟨s, x, fi⟩) := by
        rw [pcsM_app] at hsum hg
        simp only [pcsM] at hsum hg
        exact ⟨by omega, by omega⟩
      have HTT : Hid (pcsT l ++ (pcT ⟨s, x, fi⟩ ++ ts.reverse.flatten) = T) := by
        rw [pcsT_app, show pcsT [(⟨s, x, fi⟩ : Pc)] = pcT ⟨s, x, fi⟩ by simp [pcsT], List.append_assoc] at htext
        exact htext
      have HO := Lib.hid hown2
      have HX3 := Lib.hid htx
      have HBE := Lib.hid hbel
      have hws : w.heap.size ≤ wr.heap.size := hbel.size
      clear hown hown2 htx hok hbel htext hsum hg q hlen hlm hne0
      rcases hit with ⟨hx0, hf0⟩ | ⟨hMx, hGx⟩
      · dsimp only at hx0 hf0
        have t0 := bT hf0
        have HPM : Hid (pcM ⟨s, x, fi⟩ = 1) := if_pos hx0
        have HPT : Hid (pcT ⟨s, x, fi⟩ = s) := if_pos hx0
        clear hx0 hf0
        go_wp2_with (first | (at_builtin; refine wpList_append_lies _ rfl _ _ _ rfl (w.heap.size + 1) 9 j0 _ 1 16 Tryd.underlying52 hj hy0 hy1 hy2 rfl (by decide) (.slice sa3 ts.length sc3) ts.length (ts.map fun s => Value.string ⟨s.toArray⟩) rfl ((HX3.out.alloc _).alloc _) ⟨wr.heap.size + 1, 0, none⟩ 1 1 [.string ⟨s.toArray⟩] rfl rfl (news_one (wr.alloc _) (wr.heap.size + 1) (by simp) _ _) (one_one _) (by omega) (by unfold maxLen; omega) (by omega) (by simp; omega) (wr.heap.size + 2) (by simp) ?_))
        intro g5 cap5 w5 hown5 hgrow hat5 hlt5
        have HO5 := Lib.hid hown5
        have HP5 := Lib.hid (World.ownsRow.kept ((HO.out.alloc _).alloc _) hgrow (rows_apart HO.out HX3.out (by decide)))
        have HB5 : Hid (Below w.heap.size w w5) := (((HBE.out.alloc hws _).alloc (by simp; omega) _).grown hgrow (by simp; omega) (fun k hk => by have := (owns_block HX3.out k hk).1; omega))
        clear hown5 hgrow hat5 hlt5 q0 q1 q2 q3 q4
        go_wp2_with fail
        go_roundg (pcsM l)
        case rel =>
          have h1 := HSM.out
          have h2 := HPM.out
          refine ⟨l, ts ++ [s], rfl, ?_, pcsM_len l, by simp <;> omega, HP5.out, ?_, HOK.out, HB5.out, ?_⟩
          · simp
            omega
          · have h3 := HO5.out
            have e1 : (ts ++ [s]).length = ts.length + 1 := by simp
            rw [e1, List.map_append]
            exact h3
          · have h4 := HTT.out
            rw [HPT.out] at h4
            simpa using h4
        case measure =>
          have h1 := HSM.out
          have h2 := HPM.out
          omega
      · cases hMx with
        | mk op' num' name' args A' c' F hcc hss =>
        have hop := hGx.op
        have hop' : 1 ≤ op' ∧ op' ≤ 17 := hop
        have t0 := bF (show op' ≠ 0 by omega)
        have hx0 : ¬ (⟨s, .mk op' num' name' args, ⟨op', num', name', A', args.length, c'⟩⟩ : Pc).x.op = 0 := by show ¬ op' = 0; omega
        have HPM : Hid (pcM ⟨s, .mk op' num' name' args, ⟨op', num', name', A', args.length, c'⟩⟩ = 8 * exCnt (.mk op' num' name' args)) := if_neg hx0
        have HPT : Hid (pcT ⟨s, .mk op' num' name' args, ⟨op', num', name', A', args.length, c'⟩⟩ = exText (.mk op' num' name' args)) := if_neg hx0
        have hal : args.length ≤ 2 := by
          cases hGx with
          | mk _ _ _ _ hn ha hs => omega
        have HPA := Lib.hid (pcs_allN w op' num' name' args F hGx hss)
        have hpl : 1 ≤ (pcsN op' num' name' args F).length ∧ (pcsN op' num' name' args F).length ≤ 7 := by
          refine ⟨?_, HPA.out.2.2.2⟩
          unfold pcsN
          split
          · simp
          unfold pcsOf
          split
          · simp
          · simp
          · have := argPc_len op' 0
            simp
            omega
        have hbW : Below w.heap.size w (wr.alloc (.cells #[.string ⟨s.toArray⟩, .int .i64 op', .int .i64 num', .string ⟨name'.toArray⟩, .slice A' args.length c'] 89)) := HBE.out.alloc hws _
        have HPC := Lib.hid (pieces_anyN (wr.alloc (.cells #[.string ⟨s.toArray⟩, .int .i64 op', .int .i64 num', .string ⟨name'.toArray⟩, .slice A' args.length c'] 89)) op' num' name' args A' c' F hGx (by omega) (fun i hi => by
          obtain ⟨b, off, e, h1, hat⟩ := hcc i hi
          exact ⟨b, off, e, h1, hat.keep (hbW.block b hat.lt)⟩) (fun i hi => (hss i hi).later hbW) (HS.out.later hbW) (HP.out.later hbW))
        have HBW := Lib.hid hbW
        clear hcc hss hGx hop hop' hx0 hbW
        dsimp only at q0 q1 q2 q3 q4
        generalize pcsN op' num' name' args F = PL at *
        go_wp2_with fail
        refine HPC.out.mono ?_
        rintro e w2 ⟨g2, cc2, rfl, hown2, hb2⟩
        have HO2 := Lib.hid (owns_later (HO.out.alloc _) hb2)
        have HX2 := Lib.hid (owns_later (HX3.out.alloc _) hb2)
        have HN2 := Lib.hid hown2
        have HB2 := Lib.hid (below_rev' hb2 HBW.out)
        have hw2 : w.heap.size + 1 ≤ w2.heap.size := by have := hb2.size; simp at this; omega
        clear hown2 hb2 q0 q1 q2 q3 q4
        go_wp2_with (first | (at_builtin; refine wpList_append_lies _ rfl _ _ _ rfl (w.heap.size + 1) 89 i0 _ 5 72 Tryd.underlying90 hi hz0 hz1 hz2 rfl (by decide) (.slice (some ⟨gb, 0, none⟩) l.length cap) l.length (pcCells l) rfl HO2.out ⟨g2, 0, none⟩ PL.length cc2 (pcCells PL) rfl (pcCells_len PL) (own_cells HN2.out) (pcCells_one PL) (by omega) (by unfold maxLen; omega) (by omega) hw2 w2.heap.size rfl ?_))
        intro g5 cap5 w5 hown5 hgrow hat5 hlt5
        have HO5 := Lib.hid hown5
        have HP5 := Lib.hid (World.ownsRow.kept HX2.out hgrow (rows_apart HX2.out HO2.out (by decide)))
        have HB5 : Hid (Below w.heap.size w w5) := HB2.out.grown hgrow HB2.out.size (fun k hk => by have := (owns_block HO2.out k hk).1; omega)
        clear hown5 hgrow hat5 hlt5
        go_wp2_with fail
        go_roundg (pcsM (l ++ PL))
        case rel =>
          have h1 := HSM.out
          have h2 := HPM.out
          obtain ⟨p1, p2, p3, p4⟩ := HPA.out
          refine ⟨l ++ PL, ts, rfl, ?_, pcsM_len _, by simp; omega, ?_, HP5.out, ?_, HB5.out, ?_⟩
          · rw [pcsM_app]
            omega
          · rw [List.length_append, pcCells_app]
            exact HO5.out
          · intro i hi
            rcases List.mem_append.1 hi with h | h
            · exact HOK.out i h
            · exact p3 i h
          · have h4 := HTT.out
            rw [HPT.out, ← p1] at h4
            rw [pcsT_app, List.append_assoc]
            exact h4
        case measure =>
          have h1 := HSM.out
          have h2 := HPM.out
          obtain ⟨p1, p2, p3, p4⟩ := HPA.out
          rw [pcsM_app]
          omega

set_option maxRecDepth 100000 in
set_option maxHeartbeats 1000000 in
/-- Format of a valid expression -/
theorem format_anyN (w : World) (E : Ex) (op num : Int) (name : List UInt8) (A : Option Addr) (n c : Nat) (hM : ExM w (fun _ => True) E ⟨op, num, name, A, n, c⟩) (hB : ExB E) (hG : ExN E) (hV : exV E 0 = true) (hC : exCnt E ≤ 1000000000) (hT : (exText E).length ≤ 1000000000) (hS : SgT w) (hP : PwT w) :
    Calls Tryd.prog 18 #[.agg #[.int .i64 op, .int .i64 num, .string ⟨name.toArray⟩, .slice A n c]] w fun e w' => e = .returned (.string ⟨(exText E).toArray⟩) ∧ Below w.heap.size w w' := by
  have hb0 : Below w.heap.size w (w.alloc (.cells #[.int .i64 op, .int .i64 num, .string ⟨name.toArray⟩, .slice A n c] 38)) := (Below.refl _ _).alloc (Nat.le_refl _) _
  have HV := Lib.hid (valid_any _ E op num name A n c (hM.later hb0) hB (by omega))
  have HJ := Lib.hid (fun W (hb : Below w.heap.size w W) => join_anyN W E op num name A n c (hM.later hb) hG hC hT (hS.later hb) (hP.later hb))
  have HB0 := Lib.hid hb0
  have HVV := Lib.hid hV
  clear hM hB hG hC hT hS hP hb0 hV
  generalize exText E = T at *
  go_enter Tryd.func18, Tryd.ntmps18
  go_wp2_with fail
  refine HV.out.mono ?_
  rintro e w1 ⟨rfl, hb1⟩
  rw [HVV.out]
  obtain ⟨q0, q1, q2, q3, -, -, -, -, -⟩ := blk4 ((hb1.block _ (by simp)).trans (heap_alloc_new w _))
  have HB1 := Lib.hid (below_rev' hb1 HB0.out)
  clear hb1
  go_wp2_with fail
  refine (HJ.out w1 HB1.out).mono ?_
  rintro e w2 ⟨rfl, hb2⟩
  have HB2 := Lib.hid (below_rev' hb2 HB1.out)
  clear hb2
  go_wp2_with fail
  go_ret
  exact ⟨rfl, HB2.out⟩

end Go.Proofs.YtbaenhcmkigfcaaDoor
