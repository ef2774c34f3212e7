/- Same of the reference returns true for one program that lies in memory twice. -/
import Derived.Test.YtjjooekkieddbaaDoorSm1G
namespace Go.Proofs.YtjjooekkieddbaaDoor
open Go.RowKit

theorem PmsM.later {w w' : World} {l : List Pm} {A : Option Addr} (h : PmsM w (fun _ => True) l A) (hb : Below w.heap.size w w') : PmsM w' (fun _ => True) l A := h.keep fun b _ hl => hb.block b hl
/-- the rows of a program, read only -/
structure PgM (w : World) (p : Pg) (AG AM AF : Option Addr) (H : Nat → FnG) : Prop where
  g : ∀ i (h : i < p.gs.length), ∃ b, AG = some ⟨b, 0, none⟩ ∧ w.cell? ⟨b, i * 2, none⟩ = some (.string ⟨p.gs[i].name.toArray⟩) ∧ w.cell? ⟨b, i * 2 + 1, none⟩ = some (.int .i64 p.gs[i].init)
  m : ∀ i (h : i < p.ms.length), ∃ b, AM = some ⟨b, 0, none⟩ ∧ w.cell? ⟨b, i * 3, none⟩ = some (.string ⟨p.ms[i].name.toArray⟩) ∧ w.cell? ⟨b, i * 3 + 1, none⟩ = some (.bool p.ms[i].re) ∧ w.cell? ⟨b, i * 3 + 2, none⟩ = some (.int .i64 (p.ms[i].size : Int))
  f : ∀ i (h : i < p.fs.length), ∃ b, AF = some ⟨b, 0, none⟩ ∧ w.cell? ⟨b, i * 3, none⟩ = some (.string ⟨p.fs[i].name.toArray⟩) ∧ w.cell? ⟨b, i * 3 + 1, none⟩ = some (.slice (H i).A p.fs[i].ps.length (H i).c) ∧ w.cell? ⟨b, i * 3 + 2, none⟩ = some (.slice (H i).B p.fs[i].body.length (H i).d)
  ps : ∀ i (h : i < p.fs.length), PmsM w (fun _ => True) p.fs[i].ps (H i).A
  bd : ∀ i (h : i < p.fs.length), StsM w (fun _ => True) p.fs[i].body (H i).B
theorem cl_later {w w' : World} (hb : Below w.heap.size w w') {b o : Nat} {v : Value} (h : w.cell? ⟨b, o, none⟩ = some v) : w'.cell? ⟨b, o, none⟩ = some v :=
  (World.cell?_of_block (a := ⟨b, o, none⟩) (hb.block b (World.block_lt_of_cell? _ _ h))).trans h
theorem PgM.later {w w' : World} {p : Pg} {AG AM AF : Option Addr} {H : Nat → FnG} (h : PgM w p AG AM AF H) (hb : Below w.heap.size w w') : PgM w' p AG AM AF H := by
  refine ⟨fun i hi => ?_, fun i hi => ?_, fun i hi => ?_, fun i hi => (h.ps i hi).later hb, fun i hi => (h.bd i hi).later hb⟩
  · obtain ⟨b, e, h0, h1⟩ := h.g i hi
    exact ⟨b, e, cl_later hb h0, cl_later hb h1⟩
  · obtain ⟨b, e, h0, h1, h2⟩ := h.m i hi
    exact ⟨b, e, cl_later hb h0, cl_later hb h1, cl_later hb h2⟩
  · obtain ⟨b, e, h0, h1, h2⟩ := h.f i hi
    exact ⟨b, e, cl_later hb h0, cl_later hb h1, cl_later hb h2⟩
theorem owns_addr {w : World} {B n c size m : Nat} {t : TypeId} {A : Option Addr} {xs : List Value} (h : w.ownsRow B t size (.slice A n c) m xs) (hm : 0 < m) : ∃ g, A = some ⟨g, 0, none⟩ := by
  rcases h.2 with ⟨_, h0⟩ | ⟨g, cap', cur, e, hg, _⟩
  · omega
  · simp only [Value.slice.injEq] at e
    exact ⟨g, e.1⟩
theorem PgR.read {w : World} {B cG cM cF : Nat} {AG AM AF : Option Addr} {PG : List Gl} {PM : List Mx} {PF : List (Fn × FnG)} (h : PgR w B (.slice AG PG.length cG) (.slice AM PM.length cM) (.slice AF PF.length cF) PG PM PF) :
    ∃ H, PgM w ⟨PG, PM, PF.map (·.1)⟩ AG AM AF H := by
  refine ⟨fun i => if hi : i < PF.length then PF[i].2 else ⟨none, 0, none, 0⟩, fun i hi => ?_, fun i hi => ?_, fun i hi => ?_, fun i hi => ?_, fun i hi => ?_⟩
  · obtain ⟨b, e⟩ := owns_addr h.rG (Nat.lt_of_le_of_lt (Nat.zero_le _) hi)
    subst e
    have q : ∀ j, j < 2 → w.cell? ⟨b, i * 2 + j, none⟩ = (glK.cl PG[i])[j]? := fun j hj => (World.ownsRow.cellAt h.rG _ (by have : i < PG.length := hi; show i * 2 + j < PG.length * 2; omega)).trans (glK.cs_at PG i j hi hj)
    exact ⟨b, rfl, q 0 (by omega), q 1 (by omega)⟩
  · obtain ⟨b, e⟩ := owns_addr h.rM (Nat.lt_of_le_of_lt (Nat.zero_le _) hi)
    subst e
    have q : ∀ j, j < 3 → w.cell? ⟨b, i * 3 + j, none⟩ = (mxK.cl PM[i])[j]? := fun j hj => (World.ownsRow.cellAt h.rM _ (by have : i < PM.length := hi; show i * 3 + j < PM.length * 3; omega)).trans (mxK.cs_at PM i j hi hj)
    exact ⟨b, rfl, q 0 (by omega), q 1 (by omega), q 2 (by omega)⟩
  · have hi' : i < PF.length := by simpa using hi
    obtain ⟨b, e⟩ := owns_addr h.rF (Nat.lt_of_le_of_lt (Nat.zero_le _) hi')
    subst e
    have q : ∀ j, j < 3 → w.cell? ⟨b, i * 3 + j, none⟩ = (fnK.cl PF[i])[j]? := fun j hj => (World.ownsRow.cellAt h.rF _ (by show i * 3 + j < PF.length * 3; omega)).trans (fnK.cs_at PF i j hi' hj)
    simp only [List.getElem_map, dif_pos hi']
    exact ⟨b, rfl, q 0 (by omega), q 1 (by omega), q 2 (by omega)⟩
  · have hi' : i < PF.length := by simpa using hi
    simp only [List.getElem_map, dif_pos hi']
    exact (h.inF PF[i] (List.getElem_mem hi')).1.more fun _ _ _ => trivial
  · have hi' : i < PF.length := by simpa using hi
    simp only [List.getElem_map, dif_pos hi']
    exact (h.inF PF[i] (List.getElem_mem hi')).2.more fun _ _ _ => trivial

set_option maxRecDepth 100000 in
set_option maxHeartbeats 8000000 in
theorem sameP_any (p : Pg) (hB : PgB p) (AG AM AF AG' AM' AF' : Option Addr) (cG cM cF cG' cM' cF' : Nat) (H H' : Nat → FnG) (w : World) (hM : PgM w p AG AM AF H) (hM' : PgM w p AG' AM' AF' H') :
    Calls Tryd.prog 30 #[.agg #[.slice AG p.gs.length cG, .slice AM p.ms.length cM, .slice AF p.fs.length cF], .agg #[.slice AG' p.gs.length cG', .slice AM' p.ms.length cM', .slice AF' p.fs.length cF']] w fun e w' => e = .returned (.bool true) ∧ Below w.heap.size w w' := by
  obtain ⟨W, hW⟩ : ∃ W, W = (w.alloc (.cells #[.slice AG p.gs.length cG, .slice AM p.ms.length cM, .slice AF p.fs.length cF] 44)).alloc (.cells #[.slice AG' p.gs.length cG', .slice AM' p.ms.length cM', .slice AF' p.fs.length cF'] 44) := ⟨_, rfl⟩
  obtain ⟨hn1, hn2⟩ := new2 w (.cells #[.slice AG p.gs.length cG, .slice AM p.ms.length cM, .slice AF p.fs.length cF] 44) (.cells #[.slice AG' p.gs.length cG', .slice AM' p.ms.length cM', .slice AF' p.fs.length cF'] 44)
  rw [← hW] at hn1 hn2
  have HX := Lib.hid hn1
  have HY := Lib.hid hn2
  have HBW : Hid (Below w.heap.size w W) := by rw [hW]; exact ((Below.refl _ _).alloc (Nat.le_refl _) _).alloc (by simp) _
  have HM := Lib.hid (hM.later HBW.out)
  have HM' := Lib.hid (hM'.later HBW.out)
  have hg := hB.g
  have hm := hB.m
  have hf := hB.f
  have HFB := Lib.hid hB.b
  have HW := Lib.hid hW
  have n1 := nF (show ((p.gs.length : Nat) : Int) = p.gs.length from rfl)
  have n2 := nF (show ((p.ms.length : Nat) : Int) = p.ms.length from rfl)
  have n3 := nF (show ((p.fs.length : Nat) : Int) = p.fs.length from rfl)
  clear hn1 hn2 hM hM' hB hW
  go_enter Tryd.func30, Tryd.ntmps30
  go_wp2_with fail
  rw [← HW.out]
  clear HW n1 n2 n3
  go_loopw [5] (fun i wr => ∃ k : Nat, k ≤ p.gs.length ∧ i = .int .i64 k ∧ Hid (Below W.heap.size W wr)) (fun i _ => p.gs.length - (intOf i).toNat)
  case atStart => exact ⟨0, Nat.zero_le _, rfl, Below.refl _ _⟩
  case round =>
    obtain ⟨k, hk, rfl, HBk⟩ := hrel
    obtain ⟨x0, -, -, -, hxl⟩ := blk3 ((HBk.out.block _ (lt_of_block HX.out)).trans HX.out)
    obtain ⟨y0, -, -, -, hyl⟩ := blk3 ((HBk.out.block _ (lt_of_block HY.out)).trans HY.out)
    by_cases hlt : k < p.gs.length
    · obtain ⟨b, rfl, a0, a1⟩ := (HM.out.later HBk.out).g k hlt
      obtain ⟨b', rfl, e0, e1⟩ := (HM'.out.later HBk.out).g k hlt
      generalize p.gs[k] = gl at *
      have i0 : (0 : Int) ≤ (k : Int) := by omega
      have i1 : (k : Int) < (p.gs.length : Int) := by omega
      have dlt : decide ((k : Int) < (p.gs.length : Int)) = true := decide_eq_true (by omega)
      go_wp2_with fail
      go_region
      all_goals
        go_wp2_with fail
        go_roundw
        case rel => exact ⟨k + 1, by omega, by go_num, HBk.out.drew⟩
        case measure => simp [intOf]; omega
    · have dlt : decide ((k : Int) < (p.gs.length : Int)) = false := decide_eq_false (by omega)
      go_wp2_with fail
      clear x0 y0 hxl hyl
      go_loopw [6] (fun i wr => ∃ k : Nat, k ≤ p.ms.length ∧ i = .int .i64 k ∧ Hid (Below W.heap.size W wr)) (fun i _ => p.ms.length - (intOf i).toNat)
      case atStart => exact ⟨0, Nat.zero_le _, rfl, HBk⟩
      case round =>
        clear HBk hlt dlt
        obtain ⟨k2, hk2, rfl, HBk⟩ := hrel
        obtain ⟨-, x1, -, -, hxl⟩ := blk3 ((HBk.out.block _ (lt_of_block HX.out)).trans HX.out)
        obtain ⟨-, y1, -, -, hyl⟩ := blk3 ((HBk.out.block _ (lt_of_block HY.out)).trans HY.out)
        by_cases hlt : k2 < p.ms.length
        · obtain ⟨b, rfl, a0, a1, a2⟩ := (HM.out.later HBk.out).m k2 hlt
          obtain ⟨b', rfl, e0, e1, e2⟩ := (HM'.out.later HBk.out).m k2 hlt
          generalize p.ms[k2] = mx at *
          have i0 : (0 : Int) ≤ (k2 : Int) := by omega
          have i1 : (k2 : Int) < (p.ms.length : Int) := by omega
          have dlt : decide ((k2 : Int) < (p.ms.length : Int)) = true := decide_eq_true (by omega)
          go_wp2_with fail
          go_region
          all_goals
            go_wp2_with fail
            go_roundw
            case rel => exact ⟨k2 + 1, by omega, by go_num, HBk.out.drew⟩
            case measure => simp [intOf]; omega
        · have dlt : decide ((k2 : Int) < (p.ms.length : Int)) = false := decide_eq_false (by omega)
          go_wp2_with fail
          clear x1 y1 hxl hyl
          go_loopw [7] (fun i wr => ∃ k : Nat, k ≤ p.fs.length ∧ i = .int .i64 k ∧ Hid (Below W.heap.size W wr)) (fun i _ => p.fs.length - (intOf i).toNat)
          case atStart => exact ⟨0, Nat.zero_le _, rfl, HBk⟩
          case round =>
            clear HBk hlt dlt
            obtain ⟨j, hj, rfl, HBj⟩ := hrel
            obtain ⟨-, -, x2, -, hxl⟩ := blk3 ((HBj.out.block _ (lt_of_block HX.out)).trans HX.out)
            obtain ⟨-, -, y2, -, hyl⟩ := blk3 ((HBj.out.block _ (lt_of_block HY.out)).trans HY.out)
            by_cases hlt : j < p.fs.length
            · have hMj := HM.out.later HBj.out
              have hMj' := HM'.out.later HBj.out
              obtain ⟨b, hAe, a0, a1, a2⟩ := hMj.f j hlt
              obtain ⟨b', hAe', e0, e1, e2⟩ := hMj'.f j hlt
              have HPs := Lib.hid (hMj.ps j hlt)
              have HPs' := Lib.hid (hMj'.ps j hlt)
              have HS := Lib.hid (hMj.bd j hlt)
              have HS' := Lib.hid (hMj'.bd j hlt)
              have hFB := HFB.out p.fs[j] (List.getElem_mem hlt)
              have hpl := hFB.1
              have HBD := Lib.hid hFB.2
              generalize p.fs[j] = fn at *
              generalize H j = G at *
              generalize H' j = G' at *
              clear hMj hMj' hFB
              subst hAe hAe'
              have hbl : b < wr.heap.size := World.block_lt_of_cell? _ _ a0
              have hbl' : b' < wr.heap.size := World.block_lt_of_cell? _ _ e0
              have hb1 : b ≠ wr.heap.size := by omega
              have hb2 : b ≠ wr.heap.size + 1 := by omega
              have hb3 : b' ≠ wr.heap.size := by omega
              have hb4 : b' ≠ wr.heap.size + 1 := by omega
              have hxn : w.heap.size ≠ wr.heap.size := by omega
              have hxn2 : w.heap.size ≠ wr.heap.size + 1 := by omega
              have hyn : w.heap.size + 1 ≠ wr.heap.size := by omega
              have hyn2 : w.heap.size + 1 ≠ wr.heap.size + 1 := by omega
              have i0 : (0 : Int) ≤ (j : Int) := by omega
              have i1 : (j : Int) < (p.fs.length : Int) := by omega
              have dlt : decide ((j : Int) < (p.fs.length : Int)) = true := decide_eq_true (by omega)
              go_wp2_with fail
              go_region
              · obtain ⟨U, hU⟩ : ∃ U, U = ((wr.alloc (.cells #[.string ⟨fn.name.toArray⟩, .slice G.A fn.ps.length G.c, .slice G.B fn.body.length G.d] 64)).alloc (.cells #[.string ⟨fn.name.toArray⟩, .slice G'.A fn.ps.length G'.c, .slice G'.B fn.body.length G'.d] 64)).drew := ⟨_, rfl⟩
                obtain ⟨hn1, hn2⟩ := new2 wr (.cells #[.string ⟨fn.name.toArray⟩, .slice G.A fn.ps.length G.c, .slice G.B fn.body.length G.d] 64) (.cells #[.string ⟨fn.name.toArray⟩, .slice G'.A fn.ps.length G'.c, .slice G'.B fn.body.length G'.d] 64)
                have HX3 : Hid (U.heap[wr.heap.size]? = some (.cells #[.string ⟨fn.name.toArray⟩, .slice G.A fn.ps.length G.c, .slice G.B fn.body.length G.d] 64 (0, 0))) := by rw [hU]; exact hn1
                have HY3 : Hid (U.heap[wr.heap.size + 1]? = some (.cells #[.string ⟨fn.name.toArray⟩, .slice G'.A fn.ps.length G'.c, .slice G'.B fn.body.length G'.d] 64 (0, 0))) := by rw [hU]; exact hn2
                have HBx : Hid (Below wr.heap.size wr U) := by rw [hU]; exact (((Below.refl _ _).alloc (Nat.le_refl _) _).alloc (by simp) _).drew
                rw [← hU]
                clear hU hn1 hn2 a0 a1 a2 e0 e1 e2 x2 y2
                obtain ⟨bx, hbx⟩ : ∃ x, x = wr.heap.size := ⟨_, rfl⟩
                obtain ⟨by_, hby⟩ : ∃ x, x = wr.heap.size + 1 := ⟨_, rfl⟩
                rw [← hby] at HY3 ⊢
                rw [← hbx] at HX3 ⊢
                clear hbx hby
                have n0 : (fn.name == fn.name) = true := beq_self_eq_true fn.name
                have n1 := nF (show ((fn.ps.length : Nat) : Int) = fn.ps.length from rfl)
                obtain ⟨u0, u1, u2, -, hul⟩ := blk3 HX3.out
                obtain ⟨v0, v1, v2, -, hvl⟩ := blk3 HY3.out
                go_wp2_with fail
                refine (sameS_any fn.body G.B G'.B G.d G'.d U HBD.out (HS.out.later HBx.out) (HS'.out.later HBx.out)).mono ?_
                rintro e V ⟨rfl, hb⟩
                have HX4 := Lib.hid ((hb.block _ hul).trans HX3.out)
                have HY4 := Lib.hid ((hb.block _ hvl).trans HY3.out)
                have HPm := Lib.hid ((HPs.out.later HBx.out).later hb)
                have HPm' := Lib.hid ((HPs'.out.later HBx.out).later hb)
                have HBV := Lib.hid (below_rev hb (below_rev HBx.out HBj.out))
                clear hb u0 u1 u2 v0 v1 v2 hul hvl HX3 HY3 n0 n1
                go_wp2_with fail
                go_loopw [10] (fun i wr => ∃ q : Nat, q ≤ fn.ps.length ∧ i = .int .i64 q ∧ Hid (Below V.heap.size V wr)) (fun i _ => fn.ps.length - (intOf i).toNat)
                case atStart => exact ⟨0, Nat.zero_le _, rfl, Below.refl _ _⟩
                case round =>
                  obtain ⟨q, hq, rfl, HBq⟩ := hrel
                  obtain ⟨-, u1, -, -, hul⟩ := blk3 ((HBq.out.block _ (lt_of_block HX4.out)).trans HX4.out)
                  obtain ⟨-, v1, -, -, hvl⟩ := blk3 ((HBq.out.block _ (lt_of_block HY4.out)).trans HY4.out)
                  by_cases hql : q < fn.ps.length
                  · obtain ⟨ba, oa, hA, -, m0, m1⟩ := (HPm.out.later HBq.out) q hql
                    obtain ⟨ba', oa', hA', -, m0', m1'⟩ := (HPm'.out.later HBq.out) q hql
                    rw [hA] at u1
                    rw [hA'] at v1
                    generalize fn.ps[q] = pm at *
                    have i2 : (0 : Int) ≤ (q : Int) := by omega
                    have i3 : (q : Int) < (fn.ps.length : Int) := by omega
                    have djl : decide ((q : Int) < (fn.ps.length : Int)) = true := decide_eq_true (by omega)
                    clear hA hA'
                    go_wp2_with fail
                    go_region
                    all_goals
                      go_wp2_with fail
                      go_roundw
                      case rel => exact ⟨q + 1, by omega, by go_num, HBq.out.drew⟩
                      case measure => simp [intOf]; omega
                  · have djl : decide ((q : Int) < (fn.ps.length : Int)) = false := decide_eq_false (by omega)
                    go_wp2_with fail
                    go_roundw
                    case rel => exact ⟨j + 1, by omega, by go_num, below_rev HBq.out HBV.out⟩
                    case measure => simp [intOf]; omega
              · obtain ⟨U, hU⟩ : ∃ U, U = ((wr.alloc (.cells #[.string ⟨fn.name.toArray⟩, .slice G'.A fn.ps.length G'.c, .slice G'.B fn.body.length G'.d] 64)).alloc (.cells #[.string ⟨fn.name.toArray⟩, .slice G.A fn.ps.length G.c, .slice G.B fn.body.length G.d] 64)).drew := ⟨_, rfl⟩
                obtain ⟨hn1, hn2⟩ := new2 wr (.cells #[.string ⟨fn.name.toArray⟩, .slice G'.A fn.ps.length G'.c, .slice G'.B fn.body.length G'.d] 64) (.cells #[.string ⟨fn.name.toArray⟩, .slice G.A fn.ps.length G.c, .slice G.B fn.body.length G.d] 64)
                have HX3 : Hid (U.heap[wr.heap.size + 1]? = some (.cells #[.string ⟨fn.name.toArray⟩, .slice G.A fn.ps.length G.c, .slice G.B fn.body.length G.d] 64 (0, 0))) := by rw [hU]; exact hn2
                have HY3 : Hid (U.heap[wr.heap.size]? = some (.cells #[.string ⟨fn.name.toArray⟩, .slice G'.A fn.ps.length G'.c, .slice G'.B fn.body.length G'.d] 64 (0, 0))) := by rw [hU]; exact hn1
                have HBx : Hid (Below wr.heap.size wr U) := by rw [hU]; exact (((Below.refl _ _).alloc (Nat.le_refl _) _).alloc (by simp) _).drew
                rw [← hU]
                clear hU hn1 hn2 a0 a1 a2 e0 e1 e2 x2 y2
                obtain ⟨bx, hbx⟩ : ∃ x, x = wr.heap.size + 1 := ⟨_, rfl⟩
                obtain ⟨by_, hby⟩ : ∃ x, x = wr.heap.size := ⟨_, rfl⟩
                rw [← hbx] at HX3 ⊢
                rw [← hby] at HY3 ⊢
                clear hbx hby
                have n0 : (fn.name == fn.name) = true := beq_self_eq_true fn.name
                have n1 := nF (show ((fn.ps.length : Nat) : Int) = fn.ps.length from rfl)
                obtain ⟨u0, u1, u2, -, hul⟩ := blk3 HX3.out
                obtain ⟨v0, v1, v2, -, hvl⟩ := blk3 HY3.out
                go_wp2_with fail
                refine (sameS_any fn.body G.B G'.B G.d G'.d U HBD.out (HS.out.later HBx.out) (HS'.out.later HBx.out)).mono ?_
                rintro e V ⟨rfl, hb⟩
                have HX4 := Lib.hid ((hb.block _ hul).trans HX3.out)
                have HY4 := Lib.hid ((hb.block _ hvl).trans HY3.out)
                have HPm := Lib.hid ((HPs.out.later HBx.out).later hb)
                have HPm' := Lib.hid ((HPs'.out.later HBx.out).later hb)
                have HBV := Lib.hid (below_rev hb (below_rev HBx.out HBj.out))
                clear hb u0 u1 u2 v0 v1 v2 hul hvl HX3 HY3 n0 n1
                go_wp2_with fail
                go_loopw [10] (fun i wr => ∃ q : Nat, q ≤ fn.ps.length ∧ i = .int .i64 q ∧ Hid (Below V.heap.size V wr)) (fun i _ => fn.ps.length - (intOf i).toNat)
                case atStart => exact ⟨0, Nat.zero_le _, rfl, Below.refl _ _⟩
                case round =>
                  obtain ⟨q, hq, rfl, HBq⟩ := hrel
                  obtain ⟨-, u1, -, -, hul⟩ := blk3 ((HBq.out.block _ (lt_of_block HX4.out)).trans HX4.out)
                  obtain ⟨-, v1, -, -, hvl⟩ := blk3 ((HBq.out.block _ (lt_of_block HY4.out)).trans HY4.out)
                  by_cases hql : q < fn.ps.length
                  · obtain ⟨ba, oa, hA, -, m0, m1⟩ := (HPm.out.later HBq.out) q hql
                    obtain ⟨ba', oa', hA', -, m0', m1'⟩ := (HPm'.out.later HBq.out) q hql
                    rw [hA] at u1
                    rw [hA'] at v1
                    generalize fn.ps[q] = pm at *
                    have i2 : (0 : Int) ≤ (q : Int) := by omega
                    have i3 : (q : Int) < (fn.ps.length : Int) := by omega
                    have djl : decide ((q : Int) < (fn.ps.length : Int)) = true := decide_eq_true (by omega)
                    clear hA hA'
                    go_wp2_with fail
                    go_region
                    all_goals
                      go_wp2_with fail
                      go_roundw
                      case rel => exact ⟨q + 1, by omega, by go_num, HBq.out.drew⟩
                      case measure => simp [intOf]; omega
                  · have djl : decide ((q : Int) < (fn.ps.length : Int)) = false := decide_eq_false (by omega)
                    go_wp2_with fail
                    go_roundw
                    case rel => exact ⟨j + 1, by omega, by go_num, below_rev HBq.out HBV.out⟩
                    case measure => simp [intOf]; omega
            · have dlt : decide ((j : Int) < (p.fs.length : Int)) = false := decide_eq_false (by omega)
              go_wp2_with fail
              go_ret
              exact ⟨rfl, below_rev HBj.out HBW.out⟩
end Go.Proofs.YtjjooekkieddbaaDoor
