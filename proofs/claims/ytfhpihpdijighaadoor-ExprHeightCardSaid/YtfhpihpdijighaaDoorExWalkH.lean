/- What walk of package expr returns for the function that Height hands to it, and what Height and Valid return. -/
import Derived.Test.YtfhpihpdijighaaDoorExWalkV
import Derived.Deep.LoopGhost
import Derived.Deep.AppendLies
import Derived.IntWalk
namespace Go.Proofs.YtfhpihpdijighaaDoor
open Go.RowKit

/-- the list of parts lies in memory of the call's own -/
def HkRel (w : World) (hb C : Nat) (g : Nat) (l : List It) (v : Value) (wr : World) : Prop :=
  g = cSum l ∧ cSum l ≤ C ∧ wr.ownsRow (w.heap.size + 1) 87 5 v l.length (itCells l) ∧ (∀ i ∈ l, ItOk w (· ≠ hb) C i) ∧ w.grownBy wr (some hb)

/-- what holds while the Args of a part are put on the list -/
def HkIn (w : World) (hb : Nat) (h : Nat) (lb : Nat) (l : List It) (op num : Int) (name : List UInt8) (A : Option Addr) (args : List Ex) (c a : Nat) (F : Nat → EF) (j : Nat) (v : Value) (wx : World) : Prop :=
  j ≤ args.length ∧ wx.ownsRow (w.heap.size + 1) 87 5 v (l.length + j) (itCells (l ++ kidsI op a F 0 (args.take j))) ∧ v.ownBlock ≠ some lb ∧
    wx.heap[lb]? = some (.cells #[.int .i64 op, .int .i64 num, .string ⟨name.toArray⟩, .slice A args.length c, .int .i64 (a : Int)] 87 (0, 0)) ∧ w.grownBy wx (some hb) ∧ wx.heap[hb]? = some (.cells #[.int .i64 (h : Int)] 3 (0, 0))

theorem hk_step {w wr w3 w5 : World} {hb lb n gg : Nat} {v : Value} {o o2 L H : Obj} {xs : List Value} {t : TypeId} {sz : Nat} (hbw : hb < w.heap.size) (hL : wr.heap[lb]? = some L) (hH : wr.heap[hb]? = some H) (hB : w.grownBy wr (some hb)) (hO : wr.ownsRow (w.heap.size + 1) t sz v n xs) (h3 : Below (wr.alloc o).drew.heap.size (wr.alloc o).drew w3)
    (hg : (w3.alloc o2).grownBy w5 v.ownBlock) (hne : v.ownBlock ≠ some lb) (hat : v.ownBlock = some gg ∨ gg = w3.heap.size + 1) : some gg ≠ some lb ∧ w5.heap[lb]? = some L ∧ w.grownBy w5 (some hb) ∧ w5.heap[hb]? = some H := by
  have hlt : lb < wr.heap.size := lt_of_block hL
  have hs : (wr.alloc o).drew.heap.size = wr.heap.size + 1 := by simp
  have h3s := h3.size
  have hbs := hB.size
  have hk : ∀ b, b < wr.heap.size → some b ≠ v.ownBlock → w5.heap[b]? = wr.heap[b]? := fun b hb hne =>
    (hg.block b (by simp; omega) hne).trans ((Below.heap_alloc w3 o2 b (by omega)).trans ((h3.block b (by omega)).trans (Below.heap_alloc wr o b hb)))
  refine ⟨?_, (hk lb hlt (fun e => hne e.symm)).trans hL, ⟨hg.os.trans (h3.os.trans hB.os), hg.tape.trans (h3.tape.trans hB.tape), hg.output.trans (h3.output.trans hB.output), ?_, fun b hbb hnb => ?_⟩, ?_⟩
  · rcases hat with h | h
    · rw [← h]; exact hne
    · intro e
      injection e with e
      omega
  · have := hg.size
    simp at this
    omega
  · exact (hk b (by omega) (fun e => by have := (owns_block hO b e.symm).1; omega)).trans (hB.block b hbb hnb)
  · exact (hk hb (by omega) (fun e => by have := (owns_block hO hb e.symm).1; omega)).trans hH

set_option maxRecDepth 100000 in
set_option maxHeartbeats 8000000 in
theorem walkH_any (w : World) (E : Ex) (op num : Int) (name : List UInt8) (A : Option Addr) (n c hb h0 : Nat) (hM : ExM w (· ≠ hb) E ⟨op, num, name, A, n, c⟩) (hB : ExB E) (hC : exCnt E ≤ 100000000000) (hH : w.heap[hb]? = some (.cells #[.int .i64 (h0 : Int)] 3 (0, 0))) :
    Calls Tryd.prog 31 #[.agg #[.int .i64 op, .int .i64 num, .string ⟨name.toArray⟩, .slice A n c], .func (.func 35) #[] #[.pointer (some ⟨hb, 0, none⟩)]] w fun e w' => e = .returned (.bool true) ∧ w'.heap[hb]? = some (.cells #[.int .i64 ((max h0 (exDm E 0) : Nat) : Int)] 3 (0, 0)) ∧ w.grownBy w' (some hb) := by
  obtain ⟨i0, hi, hz0, hz1, hz2⟩ := info_parts Tryd.infoNst
  have hbw : hb < w.heap.size := lt_of_block hH
  have HR0 : Hid (∃ l h, HkRel w hb (exCnt E) (exCnt E) l (.slice (some ⟨w.heap.size + 1, 0, none⟩) 1 1) ((w.alloc (.cells #[.int .i64 op, .int .i64 num, .string ⟨name.toArray⟩, .slice A n c] 38)).alloc (.cells #[.int .i64 op, .int .i64 num, .string ⟨name.toArray⟩, .slice A n c, .int .i64 0] 87)) ∧ ((w.alloc (.cells #[.int .i64 op, .int .i64 num, .string ⟨name.toArray⟩, .slice A n c] 38)).alloc (.cells #[.int .i64 op, .int .i64 num, .string ⟨name.toArray⟩, .slice A n c, .int .i64 0] 87)).heap[hb]? = some (.cells #[.int .i64 ((h : Nat) : Int)] 3 (0, 0)) ∧ max h (dMax l) = max h0 (exDm E 0)) := by
    refine ⟨[⟨E, ⟨op, num, name, A, n, c⟩, 0⟩], h0, ⟨by simp [cSum], by simp [cSum], ?_, ?_, ⟨rfl, rfl, rfl, by simp; omega, fun b hb' _ => (Below.heap_alloc _ _ b (by simp; omega)).trans (Below.heap_alloc w _ b hb')⟩⟩, (Below.heap_alloc _ _ hb (by simp; omega)).trans ((Below.heap_alloc w _ hb hbw).trans hH), by simp [dMax]⟩
    · have := World.ownsRow_lit (base := w.heap.size + 1) (e := 87) (size := 5) (w.alloc (.cells #[.int .i64 op, .int .i64 num, .string ⟨name.toArray⟩, .slice A n c] 38)) #[.int .i64 op, .int .i64 num, .string ⟨name.toArray⟩, .slice A n c, .int .i64 0] 1 (by simp) (by unfold maxLen; omega) (by simp)
      rw [show (w.alloc (.cells #[.int .i64 op, .int .i64 num, .string ⟨name.toArray⟩, .slice A n c] 38)).heap.size = w.heap.size + 1 by simp] at this
      exact this
    · intro i hi
      simp at hi
      subst hi
      exact ⟨hM, hB, by dsimp only; omega⟩
  have HC := Lib.hid hC
  generalize hV0 : max h0 (exDm E 0) = V0 at *
  generalize exCnt E = C at *
  clear hM hB hC hV0 hH
  go_enter Tryd.func31, Tryd.ntmps31
  go_wp2_with fail
  go_loopg [5] C (fun g v wr => Hid (∃ l h, HkRel w hb C g l v wr ∧ wr.heap[hb]? = some (.cells #[.int .i64 ((h : Nat) : Int)] 3 (0, 0)) ∧ max h (dMax l) = V0))
  case atStart => exact HR0
  case round =>
    clear HR0
    obtain ⟨l, h, ⟨hg, hsum, hown, hok, hbel⟩, hH, hvl⟩ := hrel.out
    have HH := Lib.hid hH
    clear hH
    clear hrel
    rcases List.eq_nil_or_concat l with rfl | ⟨l, it, rfl⟩
    · obtain ⟨sa, sc, rfl⟩ := owns_form hown
      have HBE := Lib.hid hbel
      have HV : Hid (h = V0) := by
        show h = V0
        simpa [dMax] using hvl
      clear hown hok hbel hvl hsum hg
      dsimp only [List.length_nil]
      go_wp2_with fail
      go_ret
      rw [← HV.out]
      exact ⟨rfl, HH.out, HBE.out⟩
    · rw [List.concat_eq_append] at *
      obtain ⟨x, fi, a⟩ := it
      have hlen : (l ++ [(⟨x, fi, a⟩ : It)]).length = l.length + 1 := by simp
      rw [hlen] at hown
      obtain ⟨sa, cap, rfl⟩ := owns_form hown
      obtain ⟨gb, rfl⟩ := owns_some hown (by omega)
      have hcl := cSum_len (l ++ [(⟨x, fi, a⟩ : It)])
      rw [hlen] at hcl
      have hC := HC.out
      have q : ∀ j, j < 5 → wr.cell? ⟨gb, l.length * 5 + j, none⟩ = [Value.int .i64 fi.op, .int .i64 fi.num, .string ⟨fi.name.toArray⟩, .slice fi.A fi.n fi.c, .int .i64 (a : Int)][j]? := fun j hj => (World.ownsRow.cellAt hown _ (by omega)).trans (item_cells l ⟨x, fi, a⟩ j hj)
      have q0 : wr.cell? ⟨gb, l.length * 5, none⟩ = some (.int .i64 fi.op) := q 0 (by omega)
      have q1 : wr.cell? ⟨gb, l.length * 5 + 1, none⟩ = some (.int .i64 fi.num) := q 1 (by omega)
      have q2 : wr.cell? ⟨gb, l.length * 5 + 2, none⟩ = some (.string ⟨fi.name.toArray⟩) := q 2 (by omega)
      have q3 : wr.cell? ⟨gb, l.length * 5 + 3, none⟩ = some (.slice fi.A fi.n fi.c) := q 3 (by omega)
      have q4 : wr.cell? ⟨gb, l.length * 5 + 4, none⟩ = some (.int .i64 (a : Int)) := q 4 (by omega)
      have hown2 : wr.ownsRow (w.heap.size + 1) 87 5 (.slice (some ⟨gb, 0, none⟩) l.length cap) l.length (itCells l) := by
        refine ownsRow_pop (last := [.int .i64 fi.op, .int .i64 fi.num, .string ⟨fi.name.toArray⟩, .slice fi.A fi.n fi.c, .int .i64 (a : Int)]) (itCells_len l) ?_
        rw [← itCells_snoc l ⟨x, fi, a⟩]
        exact hown
      have hcap : l.length + 1 ≤ cap := by
        rcases hown.2 with ⟨h0, _⟩ | ⟨g', cap', cur, e', _, _, hle, _⟩
        · cases h0
        · injection e' with _ _ e3
          omega
      have hgbl := (owns_block hown gb rfl)
      have hll : l.length + 1 ≤ 100000000000 := by omega
      have hit : ItOk w (· ≠ hb) C ⟨x, fi, a⟩ := hok _ (by simp)
      have HOK : Hid (∀ i ∈ l, ItOk w (· ≠ hb) C i) := fun i hi => hok i (by simp [hi])
      have HS : Hid (cSum l + exCnt x ≤ C ∧ gk = cSum l + exCnt x) := by
        rw [cSum_app] at hsum hg
        simp only [cSum] at hsum hg
        exact ⟨by omega, by omega⟩
      have HVL : Hid (max h (max (dMax l) (exDm x a)) = V0) := by
        rw [dMax_app] at hvl
        show max h (max (dMax l) (exDm x a)) = V0
        simpa [dMax] using hvl
      have HO := Lib.hid hown2
      have HBE := Lib.hid hbel
      obtain ⟨hMx, hBx, hCx⟩ := hit
      dsimp only at hMx hBx hCx
      clear hown hown2 hok hbel hvl hsum hg q hlen hcl
      cases hMx with
      | mk op' num' name' args A' c' F hcc hss =>
      dsimp only at q0 q1 q2 q3 q4
      have HCC := Lib.hid hcc
      have HSS := Lib.hid hss
      have HNL : Hid (name'.length ≤ 9223372036854775807) := by
        cases hBx with
        | mk _ _ _ _ hl hn hs => exact hn
      have hal : args.length ≤ 1000000 := by
        cases hBx with
        | mk _ _ _ _ hl hn hs => exact hl
      have HKI : Hid (∀ it ∈ kidsI op' a F 0 args, ItOk w (· ≠ hb) C it) := ItOk.kids F (f := ⟨op', num', name', A', args.length, c'⟩) ⟨.mk op' num' name' args A' c' F hcc hss, hBx, hCx⟩ hss
      have HVX : Hid (exDm (.mk op' num' name' args) a = max a (dMax (kidsI op' a F 0 args))) := by rw [exDm_mk, exDms_kids op' a F 0 args]; rfl
      have HCX : Hid (exCnt (.mk op' num' name' args) = cSum (kidsI op' a F 0 args) + 1) := by rw [exCnt_mk, exCnts_kids op' a F 0 args]; rfl
      have haC : a ≤ 2 * C := by omega
      clear hcc hss hBx hCx
      have i1 : (0 : Int) ≤ (l.length : Int) := by omega
      go_wp2_with fail
      have hwsz : w.heap.size ≤ wr.heap.size := HBE.out.size
      have hH1 : (wr.alloc (.cells #[.int .i64 op', .int .i64 num', .string ⟨name'.toArray⟩, .slice A' args.length c', .int .i64 (a : Int)] 87)).heap[hb]? = some (.cells #[.int .i64 ((h : Nat) : Int)] 3 (0, 0)) := (Below.heap_alloc wr _ hb (by omega)).trans HH.out
      have HH1 := Lib.hid hH1
      clear hH1
      refine (hvisit_any _ (h : Int) op' num' name' A' args.length c' a hb HH1.out).mono ?_
      rintro e w2 ⟨rfl, hH2, hb2⟩
      have hs1 : (wr.alloc (.cells #[.int .i64 op', .int .i64 num', .string ⟨name'.toArray⟩, .slice A' args.length c', .int .i64 (a : Int)] 87)).heap.size = wr.heap.size + 1 := by simp
      have hL2 : w2.heap[wr.heap.size]? = some (.cells #[.int .i64 op', .int .i64 num', .string ⟨name'.toArray⟩, .slice A' args.length c', .int .i64 (a : Int)] 87 (0, 0)) := (hb2.block _ (by omega) (fun e => by injection e with e; omega)).trans (heap_alloc_new wr _)
      have HO2 := Lib.hid ((HO.out.alloc (.cells #[.int .i64 op', .int .i64 num', .string ⟨name'.toArray⟩, .slice A' args.length c', .int .i64 (a : Int)] 87)).kept hb2 (.inr (fun e => by have h1 : some gb = some hb := e; injection h1 with h1; omega)))
      have HBE2 : Hid (w.grownBy w2 (some hb)) := grown_trans HBE.out (grown_of_alloc hb2)
      have HH2 : Hid (w2.heap[hb]? = some (.cells #[.int .i64 ((max h a : Nat) : Int)] 3 (0, 0))) := by
        rw [show ((max h a : Nat) : Int) = max (h : Int) (a : Int) by omega]
        exact hH2
      clear hH2
      have hws : w.heap.size ≤ wr.heap.size := HBE.out.size
      have hlw : wr.heap.size < w2.heap.size := lt_of_block hL2
      clear hb2 hs1 q0 q1 q2 q3 q4
      obtain ⟨c0, c1, c2, c3, c4⟩ := blk5 hL2
      have HL2 := Lib.hid hL2
      clear hL2
      have HV : Hid (max (max h a) (max (dMax l) (dMax (kidsI op' a F 0 args))) = V0) := by
        have := HVL.out
        rw [HVX.out] at this
        show _ = V0
        omega
      have HRI : Hid (HkIn w hb (max h a) wr.heap.size l op' num' name' A' args c' a F 0 (.slice (some ⟨gb, 0, none⟩) l.length cap) w2) := by
        refine ⟨by omega, ?_, ?_, HL2.out, HBE2.out, HH2.out⟩
        · rw [List.take_zero]
          show w2.ownsRow (w.heap.size + 1) 87 5 _ (l.length + 0) (itCells (l ++ []))
          rw [Nat.add_zero, List.append_nil]
          exact HO2.out
        · show some gb ≠ some wr.heap.size
          intro e
          injection e with e
          omega
      clear HVL HVX HO2 HBE2 HL2 c0 c1 c2 c4 HO HBE HH HH1 HH2
      generalize wr.heap.size = lb at *
      go_wp2_with fail
      go_loopw [5, 37] (fun v i wr => ∃ j : Nat, j ≤ args.length ∧ i = .int .i64 (j : Int) ∧ Hid (HkIn w hb (max h a) lb l op' num' name' A' args c' a F j v wr)) (fun _ i _ => args.length - (intOf i).toNat)
      case atStart => exact ⟨0, by omega, rfl, HRI⟩
      case round =>
        obtain ⟨j, hj, rfl, hrel⟩ := hrel
        clear HRI
        obtain ⟨-, hown, hne, hL, hbel, hH⟩ := hrel.out
        have HHx := Lib.hid hH
        clear hH
        clear hrel
        obtain ⟨c0', c1', c2', c3', c4'⟩ := blk5 hL
        have hlx : lb < wr.heap.size := lt_of_block hL
        by_cases hlt : j < args.length
        · obtain ⟨b, off, rfl, hbh, hat⟩ := HCC.out j hlt
          have hat1 := hat.keep (hbel.block b hat.lt (fun e => by injection e with e; exact hbh e))
          have hbl : b < w.heap.size := hat.lt
          have hbx : b < wr.heap.size := hat1.lt
          obtain ⟨a0, a1, a2, a3⟩ := hat1
          have hopq : (F j).op = args[j].op := (HSS.out j hlt).op_eq
          have HSN : Hid (itCells (l ++ kidsI op' a F 0 (args.take (j + 1))) = itCells (l ++ kidsI op' a F 0 (args.take j)) ++ [.int .i64 (F j).op, .int .i64 (F j).num, .string ⟨(F j).name.toArray⟩, .slice (F j).A (F j).n (F j).c, .int .i64 ((a : Int) + (addV op' (F j).op j : Int))]) := by
            rw [kidsI_snoc op' a F 0 args j hlt, ← List.append_assoc, itCells_snoc, Nat.zero_add, hopq]
            show _ = _
            simp
          obtain ⟨sa, sc, rfl⟩ := owns_form hown
          have hnea : (Value.slice sa (l.length + j) sc).ownBlock ≠ some wr.heap.size := fun e => by have := (owns_block hown _ e).2; omega
          have hneb : (Value.slice sa (l.length + j) sc).ownBlock ≠ some b := fun e => by have := (owns_block hown _ e).1; omega
          have HOx := Lib.hid hown
          have HBx := Lib.hid hbel
          have HLx := Lib.hid hL
          have hav := inPar_le op' (F j).op j
          have hjl : l.length + j + 1 ≤ 200000000000 := by omega
          have i2 : (0 : Int) ≤ (j : Int) := by omega
          have i3 : (j : Int) < (args.length : Int) := by omega
          clear hown hbel hL hat hopq
          obtain ⟨cs, hcs⟩ : ∃ cs, cs = itCells (l ++ kidsI op' a F 0 (args.take j)) := ⟨_, rfl⟩
          rw [← hcs] at HOx HSN
          clear hcs
          have HAD := Lib.hid (fun W (kc : W.cell? ⟨b, off + j * 4, none⟩ = some (.int .i64 (F j).op)) => added_any W op' num' name' (some ⟨b, off, none⟩) args.length c' b off j (F j).op rfl hlt (by omega) kc)
          generalize addV op' (F j).op j = AV at *
          have hwr : IntKind.i64.wrap ((a : Int) + (AV : Int)) = (a : Int) + (AV : Int) := IntWalk.i64_in _ (by have := HC.out; omega)
          go_wp2_with fail
          go_region_held3 (fun w' => w'.cell? ⟨wr.heap.size, 0, none⟩ = some (.int .i64 (F j).op) ∧ w'.cell? ⟨wr.heap.size, 1, none⟩ = some (.int .i64 (F j).num) ∧ w'.cell? ⟨wr.heap.size, 2, none⟩ = some (.string ⟨(F j).name.toArray⟩) ∧ w'.cell? ⟨wr.heap.size, 3, none⟩ = some (.slice (F j).A (F j).n (F j).c) ∧
              w'.cell? ⟨lb, 0, none⟩ = some (.int .i64 op') ∧ w'.cell? ⟨lb, 1, none⟩ = some (.int .i64 num') ∧ w'.cell? ⟨lb, 2, none⟩ = some (.string ⟨name'.toArray⟩) ∧ w'.cell? ⟨lb, 3, none⟩ = some (.slice (some ⟨b, off, none⟩) args.length c') ∧ w'.cell? ⟨lb, 4, none⟩ = some (.int .i64 (a : Int)) ∧ w'.cell? ⟨b, off + j * 4, none⟩ = some (.int .i64 (F j).op))
            (first
              | go_keep
              | (go_split_ands; refine ⟨?_, ?_, ?_, ?_, ?_, ?_, ?_, ?_, ?_, ?_⟩ <;> first | (rw [hgrow.cell_far _ (by simp; omega) (Ne.symm hnea)]; simp [*]; done) | (rw [hgrow.cell_far _ (by simp; omega) (Ne.symm hne)]; simp [*]; done) | (rw [hgrow.cell_far _ (by simp; omega) (Ne.symm hneb)]; simp [*]; done)))
            (first
              | (go_at_call 56; obtain ⟨k0, k1, k2, k3, k4, k5, k6, k7, k8, kc⟩ := ‹_ ∧ _ ∧ _ ∧ _ ∧ _ ∧ _ ∧ _ ∧ _ ∧ _ ∧ World.cell? _ ⟨b, off + j * 4, none⟩ = _›; refine (HAD.out _ kc).mono ?_; rintro e w3 ⟨rfl, hb3⟩; have r0 := cell_later hb3 k0; have r1 := cell_later hb3 k1; have r2 := cell_later hb3 k2; have r3 := cell_later hb3 k3; have r4 := cell_later hb3 k4; have r5 := cell_later hb3 k5; have r6 := cell_later hb3 k6; have r7 := cell_later hb3 k7; have r8 := cell_later hb3 k8; have rc := cell_later hb3 kc; have hz3 : wr.heap.size + 1 ≤ w3.heap.size := (by have := hb3.size; simp at this; omega); have HB3 := Lib.hid hb3; clear k0 k1 k2 k3 k4 k5 k6 k7 k8 kc hb3)
              | (refine step_append_lies _ (by rfl) _ _ _ (by rfl) (w.heap.size + 1) 87 i0 _ 5 64 Tryd.underlying88 hi hz0 hz1 hz2 rfl (by omega) (.slice sa (l.length + j) sc) (l.length + j) cs (by rfl) ((owns_later ((HOx.out.alloc _).drew) HB3.out).alloc _) ⟨w3.heap.size, 0, none⟩ 1 1 [.int .i64 (F j).op, .int .i64 (F j).num, .string ⟨(F j).name.toArray⟩, .slice (F j).A (F j).n (F j).c, .int .i64 ((a : Int) + (AV : Int))] (by rfl) (by rfl) (World.news_of_block (heap_alloc_new w3 _)) (by simp [Value.oneCell']) (by omega) (by unfold maxLen; omega) (by omega) (by simp; omega) (w3.heap.size + 1) (by simp) ?_; intro gg cap' w5 hown5 hgrow hat5 hlt5))
          clear r0 r1 r2 r3 r4 r5 r6 r7 r8 rc c0' c1' c2' c3' c4' a0 a1 a2 a3 hwr
          have HST := Lib.hid (hk_step hbw HLx.out HHx.out HBx.out HOx.out HB3.out hgrow hne hat5)
          have HO5 := Lib.hid hown5
          clear hown5 hgrow hat5 hlt5
          go_wp2_with fail
          go_roundw
          case rel =>
            obtain ⟨s1, s2, s3, s4⟩ := HST.out
            refine ⟨j + 1, by omega, by go_num, ?_⟩
            refine ⟨by omega, ?_, s1, s2, s3, s4⟩
            rw [HSN.out]
            exact HO5.out
          case measure => simp [intOf]; omega
        · have hke : args.take j = args := List.take_of_length_le (by omega)
          have hje : j = args.length := by omega
          rw [hke] at hown
          have HO5 := Lib.hid hown
          have HB5 := Lib.hid hbel
          have HJ := Lib.hid hje
          clear hown hbel hL hne hke hje c0' c1' c2' c3' c4' c3
          go_wp2_with fail
          go_roundg (cSum (l ++ kidsI op' a F 0 args))
          case rel =>
            refine ⟨l ++ kidsI op' a F 0 args, max h a, ⟨rfl, ?_, ?_, ?_, HB5.out⟩, HHx.out, ?_⟩
            · have h1 := HS.out
              have h2 := HCX.out
              rw [cSum_app]
              omega
            · have := HO5.out
              rw [HJ.out] at this
              rw [List.length_append, kidsI_len]
              exact this
            · intro i hi
              rcases List.mem_append.1 hi with h | h
              · exact HOK.out i h
              · exact HKI.out i h
            · rw [dMax_app]
              exact HV.out
          case measure =>
            have h1 := HS.out
            have h2 := HCX.out
            rw [cSum_app]
            omega

set_option maxRecDepth 100000 in
set_option maxHeartbeats 1000000 in
/-- Valid -/
theorem valid_any (w : World) (E : Ex) (op num : Int) (name : List UInt8) (A : Option Addr) (n c : Nat) (hM : ExM w (fun _ => True) E ⟨op, num, name, A, n, c⟩) (hB : ExB E) (hC : exCnt E ≤ 100000000000) :
    Calls Tryd.prog 21 #[.agg #[.int .i64 op, .int .i64 num, .string ⟨name.toArray⟩, .slice A n c]] w fun e w' => e = .returned (.bool (exV E 0)) ∧ Below w.heap.size w w' := by
  have hmf : ∀ (fn : Fn) (first cap : Array Value) (w : World), (Instr.makeFunc fn first cap).run Tryd.prog w = .ok (.func fn first cap) w := fun _ _ _ _ => rfl
  have hb0 : Below w.heap.size w (w.alloc (.cells #[.int .i64 op, .int .i64 num, .string ⟨name.toArray⟩, .slice A n c] 38)) := (Below.refl _ _).alloc (Nat.le_refl _) _
  have HM := Lib.hid (hM.later hb0)
  have HB0 := Lib.hid hb0
  have HB := Lib.hid hB
  have HC := Lib.hid hC
  clear hM hB hC hb0
  go_enter Tryd.func21, Tryd.ntmps21
  go_wp2_with fail
  refine (walkV_any _ E op num name A n c HM.out HB.out HC.out).mono ?_
  rintro e w1 ⟨rfl, hb1⟩
  have HB1 := Lib.hid (below_rev' hb1 HB0.out)
  clear hb1
  go_wp2_with fail
  go_ret
  exact ⟨rfl, HB1.out⟩

set_option maxRecDepth 100000 in
set_option maxHeartbeats 1000000 in
/-- Height -/
theorem heightD_any (w : World) (E : Ex) (op num : Int) (name : List UInt8) (A : Option Addr) (n c : Nat) (hM : ExM w (fun _ => True) E ⟨op, num, name, A, n, c⟩) (hB : ExB E) (hC : exCnt E ≤ 100000000000) :
    Calls Tryd.prog 23 #[.agg #[.int .i64 op, .int .i64 num, .string ⟨name.toArray⟩, .slice A n c]] w fun e w' => e = .returned (.int .i64 (exDm E 0 : Int)) ∧ Below w.heap.size w w' := by
  have hmf : ∀ (fn : Fn) (first cap : Array Value) (w : World), (Instr.makeFunc fn first cap).run Tryd.prog w = .ok (.func fn first cap) w := fun _ _ _ _ => rfl
  have HM : Hid (∀ W hb, Below w.heap.size w W → w.heap.size ≤ hb → ExM W (· ≠ hb) E ⟨op, num, name, A, n, c⟩) := fun W hb hb0 hle => ((hM.inside.later hb0).more fun b hb' => by have := hb'.2; omega)
  have HB := Lib.hid hB
  have HC := Lib.hid hC
  clear hM hB hC
  go_enter Tryd.func23, Tryd.ntmps23
  go_wp2_with fail
  have hb2 : Below w.heap.size w ((w.alloc (.cells #[.int .i64 op, .int .i64 num, .string ⟨name.toArray⟩, .slice A n c] 38)).alloc (.cells #[.int .i64 0] 3)) := ((Below.refl _ _).alloc (Nat.le_refl _) _).alloc (by simp) _
  have hH : ((w.alloc (.cells #[.int .i64 op, .int .i64 num, .string ⟨name.toArray⟩, .slice A n c] 38)).alloc (.cells #[.int .i64 0] 3)).heap[w.heap.size + 1]? = some (.cells #[.int .i64 ((0 : Nat) : Int)] 3 (0, 0)) := by
    have := heap_alloc_new (w.alloc (.cells #[.int .i64 op, .int .i64 num, .string ⟨name.toArray⟩, .slice A n c] 38)) (.cells #[.int .i64 0] 3)
    simpa using this
  refine (walkH_any _ E op num name A n c (w.heap.size + 1) 0 (HM.out _ _ hb2 (by omega)) HB.out HC.out hH).mono ?_
  rintro e w1 ⟨rfl, hH1, hG⟩
  have q0 : w1.cell? ⟨w.heap.size + 1, 0, none⟩ = some (.int .i64 ((max 0 (exDm E 0) : Nat) : Int)) := by rw [cell_of_row w1 _ 0 _ _ _ hH1]; rfl
  rw [Nat.zero_max] at q0
  have HB1 : Hid (Below w.heap.size w w1) := (below_new hG).1
  clear hb2 hH hH1 hG
  go_wp2_with fail
  go_ret
  exact ⟨rfl, HB1.out⟩

end Go.Proofs.YtfhpihpdijighaaDoor
