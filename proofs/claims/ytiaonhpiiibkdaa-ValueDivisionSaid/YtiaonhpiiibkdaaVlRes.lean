/- What resolved does: the plain function rsG. -/
import Derived.Test.YtiaonhpiiibkdaaVlSpec
import Derived.Test.YtiaonhpiiibkdaaRowG
import Derived.Deep.RegionLaw
import Derived.RegionTactic
import Derived.Deep.RegionHeld3
namespace Go.Proofs.Ytiaonhpiiibkdaa
open Go.RowKit
set_option maxRecDepth 100000

mutual
/-- names are replaced by variables -/
def rsG : Ex → Ex
  | .mk op num name args => if op = 2 then (if name = [97] then .mk 18 0 [] [] else if name = [98] then .mk 19 1 [] [] else .mk 19 0 [] []) else .mk op num [] (rsGs args)
def rsGs : List Ex → List Ex
  | [] => []
  | e :: r => rsG e :: rsGs r
end
theorem rsG_mk (op num : Int) (name : List UInt8) (args : List Ex) : rsG (.mk op num name args) = if op = 2 then (if name = [97] then .mk 18 0 [] [] else if name = [98] then .mk 19 1 [] [] else .mk 19 0 [] []) else .mk op num [] (rsGs args) := by rw [rsG]
theorem rsGs_nil : rsGs [] = [] := by rw [rsGs]
theorem rsGs_cons (e : Ex) (r : List Ex) : rsGs (e :: r) = rsG e :: rsGs r := by rw [rsGs]
theorem rsGs_len (l : List Ex) : (rsGs l).length = l.length := by
  induction l with
  | nil => rw [rsGs_nil]
  | cons e r ih => rw [rsGs_cons, List.length_cons, ih, List.length_cons]
theorem rsGs_snoc (l : List Ex) (m : Nat) (h : m < l.length) : rsGs (l.take (m + 1)) = rsGs (l.take m) ++ [rsG l[m]] := by
  induction l generalizing m with
  | nil => simp at h
  | cons e r ih =>
    cases m with
    | zero => simp [rsGs_cons, rsGs_nil]
    | succ m =>
      rw [List.take_succ_cons, List.take_succ_cons, rsGs_cons, rsGs_cons, ih m (by simpa using h)]
      simp
theorem rsGs_at (l : List Ex) (i : Nat) (h : i < l.length) (h' : i < (rsGs l).length) : (rsGs l)[i] = rsG l[i] := by
  induction l generalizing i with
  | nil => simp at h
  | cons e r ih =>
    cases i with
    | zero => simp [rsGs_cons]
    | succ i => simp only [rsGs_cons, List.getElem_cons_succ]; exact ih i (by simpa using h) _
/-- expressions -/
def exK : RowK (Ex × EF) where
  cl := fun p => [.int .i64 p.2.op, .int .i64 p.2.num, .string ⟨p.2.name.toArray⟩, .slice p.2.A p.2.n p.2.c]
  sz := 4
  hsz := fun _ => rfl
  one := fun p u hu => by
    simp at hu
    rcases hu with rfl | rfl | rfl | rfl <;> rfl
  In := fun w S p => ExM w S p.1 p.2
  keep := fun h hk => h.keep hk
  more := fun {w S S' a} h hs => h.low'.more fun b hb => hs b hb.1 hb.2
theorem Try.infoEx : (Try.prog.info? 25).map (fun i => (i.zero, i.size, i.bytes)) = some (some (.agg #[.int .i64 0, .int .i64 0, .string ⟨#[]⟩, .slice none 0 0]), 4, 56) := by kernel_rfl
/-- a node whose Args lie in a row of the call's own -/
theorem exM_of_own {t : TypeId} {w : World} {B n c : Nat} {A : Option Addr} {P : List (Ex × EF)} (h : OwnR exK t w B (.slice A n c) P) (op num : Int) (name : List UInt8) : ExM w (B ≤ ·) (.mk op num name (P.map (·.1))) ⟨op, num, name, A, n, c⟩ := by
  obtain ⟨A', c', e⟩ := h.form
  simp only [Value.slice.injEq] at e
  obtain ⟨-, rfl, rfl⟩ := e
  have hpl : P.length = (P.map (·.1)).length := by simp
  rw [hpl]
  refine .mk op num name (P.map (·.1)) A c (fun i => (P.map (·.2)).getD i ⟨0, 0, [], none, 0, 0⟩) (fun i hi => ?_) (fun i hi => ?_)
  · have hi' : i < P.length := by simpa using hi
    obtain ⟨g, hA, hg⟩ : ∃ g, A = some ⟨g, 0, none⟩ ∧ B ≤ g := by
      rcases h.1.2 with ⟨_, h0⟩ | ⟨g, cap', cur, e, hg, _⟩
      · omega
      · simp only [Value.slice.injEq] at e
        exact ⟨g, e.1, hg⟩
    subst hA
    have q : ∀ j, j < 4 → w.cell? ⟨g, i * 4 + j, none⟩ = (exK.cl P[i])[j]? := fun j hj => (World.ownsRow.cellAt h.1 _ (by show i * 4 + j < P.length * 4; omega)).trans (exK.cs_at P i j hi' hj)
    have eF : (P.map (·.2)).getD i ⟨0, 0, [], none, 0, 0⟩ = P[i].2 := by rw [List.getD_eq_getElem?_getD, List.getElem?_eq_getElem (by simpa using hi')]; simp
    rw [eF]
    refine ⟨g, 0, rfl, hg, ?_⟩
    rw [Nat.zero_add]
    exact ⟨q 0 (by omega), q 1 (by omega), q 2 (by omega), q 3 (by omega)⟩
  · have hi' : i < P.length := by simpa using hi
    have eF : (P.map (·.2)).getD i ⟨0, 0, [], none, 0, 0⟩ = P[i].2 := by rw [List.getD_eq_getElem?_getD, List.getElem?_eq_getElem (by simpa using hi')]; simp
    rw [eF]
    simp only [List.getElem_map]
    exact (h.2 P[i] (List.getElem_mem hi')).more fun b hb => hb.1

/-- what resolved leaves -/
def ResPost (w : World) (E : Ex) (e : Ending) (w' : World) : Prop :=
  ∃ f : EF, e = .returned f.val ∧ ExM w' (w.heap.size ≤ ·) E f ∧ Below w.heap.size w w'

/-- what holds while the Args are put together -/
structure RsRel (w : World) (op num : Int) (name : List UInt8) (A : Option Addr) (n c : Nat) (AP : Option Addr) (cP : Nat) (P : List (Ex × EF)) (wr : World) : Prop where
  e : wr.heap[w.heap.size]? = some (.cells #[.int .i64 op, .int .i64 num, .string ⟨name.toArray⟩, .slice A n c] 25 (0, 0))
  r : wr.heap[w.heap.size + 1]? = some (.cells #[.int .i64 0, .int .i64 0, .string ⟨#[]⟩, .slice none 0 0] 25 (0, 0))
  o : wr.heap[w.heap.size + 2]? = some (.cells #[.int .i64 op, .int .i64 num, .string ⟨#[]⟩, .slice AP P.length cP] 25 (0, 0))
  own : OwnR exK 25 wr (w.heap.size + 3) (.slice AP P.length cP) P
  low : Below w.heap.size w wr
theorem RsRel.later {w : World} {op num : Int} {name : List UInt8} {A : Option Addr} {n c : Nat} {AP : Option Addr} {cP : Nat} {P : List (Ex × EF)} {wr wb : World} (h : RsRel w op num name A n c AP cP P wr) (hb : Below wr.heap.size wr wb) : RsRel w op num name A n c AP cP P wb :=
  ⟨(hb.block _ (lt_of_block h.e)).trans h.e, (hb.block _ (lt_of_block h.r)).trans h.r, (hb.block _ (lt_of_block h.o)).trans h.o, h.own.keep hb.size (fun b _ hl => hb.block b hl), below_rev' hb h.low⟩
theorem RsRel.oc {w : World} {op num : Int} {name : List UInt8} {A : Option Addr} {n c : Nat} {AP : Option Addr} {cP : Nat} {P : List (Ex × EF)} {wb wc : World} {ob : Obj} (h : RsRel w op num name A n c AP cP P wb) (hgrow : (wb.alloc ob).grownBy wc (Value.slice AP P.length cP).ownBlock) :
    wc.heap[w.heap.size + 2]? = some (.cells #[.int .i64 op, .int .i64 num, .string ⟨#[]⟩, .slice AP P.length cP] 25 (0, 0)) := by
  have hol := lt_of_block h.o
  exact (hgrow.block _ (by simp; omega) (fun e => by have := (h.own.1.lt _ e.symm).1; omega)).trans ((Below.heap_alloc wb _ _ hol).trans h.o)
theorem RsRel.step {w : World} {op num : Int} {name : List UInt8} {A : Option Addr} {n c : Nat} {AP : Option Addr} {cP : Nat} {P : List (Ex × EF)} {N : Nat} {wb wc : World} {x : Ex} {f : EF} {ob : Obj} {gb cap : Nat} (h : RsRel w op num name A n c AP cP P wb)
    (hE : ExM wb (N ≤ ·) x f) (hN0 : ∀ k, (Value.slice AP P.length cP).ownBlock = some k → k < N) (hN1 : w.heap.size + 3 ≤ N) (hown : wc.ownsRow (w.heap.size + 3) 25 4 (.slice (some ⟨gb, 0, none⟩) (P.length + 1) cap) (P.length + 1) (exK.cs P ++ exK.cl (x, f)))
    (hgrow : (wb.alloc ob).grownBy wc (Value.slice AP P.length cP).ownBlock) (hlies : (Value.slice AP P.length cP).ownBlock = some gb ∨ gb = wb.heap.size + 1) :
    RsRel w op num name A n c (some ⟨gb, 0, none⟩) cap (P ++ [(x, f)]) (wc.setCell ⟨w.heap.size + 2, 3, none⟩ (.slice (some ⟨gb, 0, none⟩) (P.length + 1) cap)) := by
  have hol := lt_of_block h.o
  have hgo : ∀ b, b < w.heap.size + 3 → wc.heap[b]? = wb.heap[b]? := fun b hb => (hgrow.block b (by simp; omega) (fun e => by have := (h.own.1.lt b e.symm).1; omega)).trans (Below.heap_alloc wb _ b (by omega))
  have hs : wb.heap.size ≤ wc.heap.size := by have := hgrow.size; simp at this; omega
  have hset : ∀ b, b ≠ w.heap.size + 2 → (wc.setCell ⟨w.heap.size + 2, 3, none⟩ (.slice (some ⟨gb, 0, none⟩) (P.length + 1) cap)).heap[b]? = wc.heap[b]? := fun b hb => heap_setCell_other wc ⟨w.heap.size + 2, 3, none⟩ b _ (fun e => hb e)
  refine ⟨(hset _ (by omega)).trans ((hgo _ (by omega)).trans h.e), (hset _ (by omega)).trans ((hgo _ (by omega)).trans h.r), ?_, ?_, ?_⟩
  · have := heap_setCell_same wc (w.heap.size + 2) 3 _ _ (.slice (some ⟨gb, 0, none⟩) (P.length + 1) cap) ((hgo _ (by omega)).trans h.o)
    rw [List.length_append]
    exact this
  · have ha : exK.In (wb.alloc ob) (fun b => w.heap.size + 3 ≤ b ∧ some b ≠ (Value.slice AP P.length cP).ownBlock) (x, f) :=
      exK.more (w := wb.alloc ob) (S := (N ≤ ·)) (hE.keep fun b _ hl => Below.heap_alloc wb ob b hl) (fun b hb _ => ⟨by omega, fun e => by have := hN0 b e.symm; omega⟩)
    have hsn := (h.own.alloc ob).snoc ha hown hgrow (lies_own (w := wb.alloc ob) (by have hsz : (wb.alloc ob).heap.size = wb.heap.size + 1 := by simp
                                                                                     rw [hsz]; exact hlies))
    have h2 := hsn.keep (w' := wc.setCell ⟨w.heap.size + 2, 3, none⟩ (.slice (some ⟨gb, 0, none⟩) (P.length + 1) cap)) (by simp) (fun b hb _ => hset b (by omega))
    rw [List.length_append]
    exact h2
  · refine ⟨hgrow.os.trans h.low.os, hgrow.tape.trans h.low.tape, hgrow.output.trans h.low.output, by have := h.low.size; simp; omega, fun b hb => (hset b (by omega)).trans ((hgo b (by omega)).trans (h.low.block b hb))⟩

set_option maxHeartbeats 8000000 in
theorem resolved_fuel (N : Nat) : ∀ (E : Ex) (op num : Int) (name : List UInt8) (A : Option Addr) (n c : Nat) (w : World), SizeOf.sizeOf E < N → ExB E → ExM w (fun _ => True) E ⟨op, num, name, A, n, c⟩ →
    Calls Try.prog 10 #[.agg #[.int .i64 op, .int .i64 num, .string ⟨name.toArray⟩, .slice A n c]] w (ResPost w (rsG E)) := by
  induction N with
  | zero => intro E op num name A n c w h; omega
  | succ N ih =>
    intro E op num name A n c w hN hB hM
    obtain ⟨i0, hi, hz0, hz1, hz2⟩ := info_parts Try.infoEx
    have IH := Lib.hid ih
    clear ih
    cases hM with
    | mk _ _ _ args _ _ F hc hs =>
    have HSZ := Lib.hid (fun i h => size_arg op num name args i h)
    have HVX := Lib.hid (rsG_mk op num name args)
    cases hB with
    | mk _ _ _ _ hl hn hbs =>
    by_cases h2 : op = 2
    · subst h2
      clear hc hs hbs
      by_cases ha : name = [97]
      · have HV : Hid (rsG (.mk 2 num name args) = .mk 18 0 [] []) := by show _ = _; rw [HVX.out, if_pos rfl, if_pos ha]
        have ta := str_eq_T ha
        clear HVX ha
        go_enter Try.func10, Try.ntmps10
        go_wp2_with fail
        refine bodyPost_ret (v := .agg #[.int .i64 18, .int .i64 0, .string ⟨#[]⟩, .slice none 0 0]) (by simp [results, Try.results10, go_sem]) rfl ?_
        refine ⟨⟨18, 0, [], none, 0, 0⟩, rfl, ?_, ((Below.refl _ _).alloc (Nat.le_refl _) _).alloc (by simp) _⟩
        rw [HV.out]
        exact ExM.leaf _ _ _ _ _ _ _
      · have ta := str_eq_F ha
        by_cases hb : name = [98]
        · have HV : Hid (rsG (.mk 2 num name args) = .mk 19 1 [] []) := by show _ = _; rw [HVX.out, if_pos rfl, if_neg ha, if_pos hb]
          have tb := str_eq_T hb
          clear HVX ha hb
          go_enter Try.func10, Try.ntmps10
          go_wp2_with fail
          refine bodyPost_ret (v := .agg #[.int .i64 19, .int .i64 1, .string ⟨#[]⟩, .slice none 0 0]) (by simp [results, Try.results10, go_sem]) rfl ?_
          refine ⟨⟨19, 1, [], none, 0, 0⟩, rfl, ?_, ((Below.refl _ _).alloc (Nat.le_refl _) _).alloc (by simp) _⟩
          rw [HV.out]
          exact ExM.leaf _ _ _ _ _ _ _
        · have HV : Hid (rsG (.mk 2 num name args) = .mk 19 0 [] []) := by show _ = _; rw [HVX.out, if_pos rfl, if_neg ha, if_neg hb]
          have tb := str_eq_F hb
          clear HVX ha hb
          go_enter Try.func10, Try.ntmps10
          go_wp2_with fail
          refine bodyPost_ret (v := .agg #[.int .i64 19, .int .i64 0, .string ⟨#[]⟩, .slice none 0 0]) (by simp [results, Try.results10, go_sem]) rfl ?_
          refine ⟨⟨19, 0, [], none, 0, 0⟩, rfl, ?_, ((Below.refl _ _).alloc (Nat.le_refl _) _).alloc (by simp) _⟩
          rw [HV.out]
          exact ExM.leaf _ _ _ _ _ _ _
    · have t2 := bF h2
      have HV : Hid (rsG (.mk op num name args) = .mk op num [] (rsGs args)) := by show _ = _; rw [HVX.out, if_neg h2]
      have HC := Lib.hid hc
      have HS := Lib.hid hs
      have HBS := Lib.hid hbs
      clear HVX hc hs hbs h2
      go_enter Try.func10, Try.ntmps10
      go_wp2_with fail
      go_loopw [4] (fun i wr => ∃ k : Nat, k ≤ args.length ∧ i = .int .i64 k ∧ Hid (∃ AP cP P, P.map (·.1) = rsGs (args.take k) ∧ P.length = k ∧ RsRel w op num name A args.length c AP cP P wr))
        (fun i _ => args.length - (intOf i).toNat)
      case atStart =>
        refine ⟨0, Nat.zero_le _, rfl, none, 0, [], by rw [List.take_zero, rsGs_nil]; rfl, rfl, ?_, ?_, ?_, OwnR.nil _ _ _ _, ?_⟩
        · exact (Below.heap_alloc _ _ _ (by simp; omega)).trans ((Below.heap_alloc _ _ _ (by simp)).trans (heap_alloc_new w _))
        · refine (Below.heap_alloc _ _ _ (by simp)).trans ?_
          have := heap_alloc_new (w.alloc (.cells #[.int .i64 op, .int .i64 num, .string ⟨name.toArray⟩, .slice A args.length c] 25)) (.cells #[.int .i64 0, .int .i64 0, .string ⟨#[]⟩, .slice none 0 0] 25)
          rw [show (w.alloc (.cells #[.int .i64 op, .int .i64 num, .string ⟨name.toArray⟩, .slice A args.length c] 25)).heap.size = w.heap.size + 1 by simp] at this
          exact this
        · have := heap_alloc_new ((w.alloc (.cells #[.int .i64 op, .int .i64 num, .string ⟨name.toArray⟩, .slice A args.length c] 25)).alloc (.cells #[.int .i64 0, .int .i64 0, .string ⟨#[]⟩, .slice none 0 0] 25)) (.cells #[.int .i64 op, .int .i64 num, .string ⟨#[]⟩, .slice none 0 0] 25)
          rw [show ((w.alloc (.cells #[.int .i64 op, .int .i64 num, .string ⟨name.toArray⟩, .slice A args.length c] 25)).alloc (.cells #[.int .i64 0, .int .i64 0, .string ⟨#[]⟩, .slice none 0 0] 25)).heap.size = w.heap.size + 2 by simp] at this
          exact this
        · exact (((Below.refl _ _).alloc (Nat.le_refl _) _).alloc (by simp) _).alloc (by simp; omega) _
      case round =>
        obtain ⟨k, hk, rfl, hrel⟩ := hrel
        obtain ⟨AP, cP, P, hP, hPl, hR⟩ := hrel.out
        clear hrel
        have HR := Lib.hid hR
        have HP := Lib.hid hP
        have HPL := Lib.hid hPl
        have hpl2 : P.length ≤ 1000000 := by omega
        obtain ⟨q0, q1, q2, q3, -, -, -, f3, hz⟩ := blk4 hR.e
        obtain ⟨o0, o1, o2, o3, -, -, -, g3, hz3⟩ := blk4 hR.o
        clear hR hP hPl
        by_cases hlt : k < args.length
        · obtain ⟨b, off, rfl, -, hat⟩ := HC.out k hlt
          obtain ⟨a0, a1, a2, a3⟩ := hat.keep (HR.out.low.block b hat.lt)
          have HE := Lib.hid (fun W (h : Below w.heap.size w W) => IH.out args[k] (F k).op (F k).num (F k).name (F k).A (F k).n (F k).c W (by have := HSZ.out k hlt; omega) (HBS.out k hlt) ((HS.out k hlt).later h))
          have i2 : (0 : Int) ≤ (k : Int) := by omega
          have i3 : (k : Int) < (args.length : Int) := by omega
          go_wp2_with fail
          go_region_law (first
            | (refine step_append_lies _ (by rfl) _ _ _ (by rfl) (w.heap.size + 3) 25 i0 _ 4 56 Try.underlying23 hi hz0 hz1 hz2 rfl (by omega) (.slice AP P.length cP) P.length (exK.cs P) (by rfl) (HRb.out.own.alloc _).1 ⟨wb.heap.size, 0, none⟩ 1 1 (exK.cl (rsG args[k], f)) (by rfl) (by rfl) (World.news_of_block (heap_alloc_new wb _)) (exK.one (rsG args[k], f)) (by omega) (by unfold maxLen; omega) (by omega) (by simp; omega) (wb.heap.size + 1) (by simp) ?_; intro gb cap wc hown hgrow hlies hgl; obtain ⟨c0, c1, c2, c3, -, -, -, cf3, -⟩ := blk4 (RsRel.oc HRb.out hgrow))
            | (go_simp; go_at_call 10; refine (HE.out wr.drew HR.out.low.drew).mono ?_; rintro x wb ⟨f, rfl, hf, hb⟩; unfold EF.val; have hb := (Below.refl wr.heap.size wr).drew.trans hb; have HRb := Lib.hid (HR.out.later (wb := wb) hb); have HF := Lib.hid hf; obtain ⟨b0, b1, b2, b3, -, -, -, -, hzb⟩ := blk4 HRb.out.o))
          all_goals
            have HRN := Lib.hid (RsRel.step (N := wr.heap.size) HRb.out HF.out (fun j hj => (HR.out.own.1.lt j hj).2) (by omega) hown hgrow hlies)
            clear hown hgrow hlies hgl c0 c1 c2 c3 cf3 b0 b1 b2 b3 q0 q1 q2 q3 o0 o1 o2 o3 a0 a1 a2 a3 HRb hb f3 g3
            go_wp2_with fail
            go_roundw
            case rel =>
              refine ⟨k + 1, by omega, by go_num, _, _, P ++ [(rsG args[k], f)], ?_, ?_, HRN.out⟩
              · rw [List.map_append, HP.out, rsGs_snoc args k hlt]
                rfl
              · rw [List.length_append, HPL.out]
                rfl
            case measure => simp [intOf]; omega
        · have hke : Hid (args.take k = args) := List.take_of_length_le (by omega)
          obtain ⟨r0, r1, r2, r3, fr0, fr1, fr2, fr3, hzr⟩ := blk4 HR.out.r
          clear f3 g3
          go_wp2_with fail
          refine bodyPost_ret (v := .agg #[.int .i64 op, .int .i64 num, .string ⟨#[]⟩, .slice AP P.length cP]) (by simp [results, Try.results10, go_sem, r0, r1, r2, r3]) rfl ?_
          refine ⟨⟨op, num, [], AP, P.length, cP⟩, rfl, ?_, ?_⟩
          · rw [HV.out, ← hke.out, ← HP.out]
            exact ((exM_of_own HR.out.own op num []).keep fun b hb _ => set4_keep wr (w.heap.size + 1) _ _ _ _ b (by omega)).more fun b hb => by omega
          · obtain ⟨s1, s2, s3⟩ := set4_os wr (w.heap.size + 1) (.int .i64 op) (.int .i64 num) (.string ⟨#[]⟩) (.slice AP P.length cP)
            have hb := HR.out.low
            exact ⟨s1.trans hb.os, s2.trans hb.tape, s3.trans hb.output, by have := set4_size wr (w.heap.size + 1) (.int .i64 op) (.int .i64 num) (.string ⟨#[]⟩) (.slice AP P.length cP); have := hb.size; show w.heap.size ≤ (set4 wr (w.heap.size + 1) (.int .i64 op) (.int .i64 num) (.string ⟨#[]⟩) (.slice AP P.length cP)).heap.size; omega, fun b hbb => (set4_keep wr (w.heap.size + 1) (.int .i64 op) (.int .i64 num) (.string ⟨#[]⟩) (.slice AP P.length cP) b (by omega)).trans (hb.block b hbb)⟩

theorem resolved_any (w : World) (E : Ex) (f : EF) (hB : ExB E) (hM : ExM w (fun _ => True) E f) : Calls Try.prog 10 #[f.val] w (ResPost w (rsG E)) :=
  resolved_fuel (SizeOf.sizeOf E + 1) E f.op f.num f.name f.A f.n f.c w (by omega) hB hM
end Go.Proofs.Ytiaonhpiiibkdaa
