/- The walk of ValueIndex. -/
import Derived.Test.YtiaonhpiiibkdaaVlIdx
import Derived.Test.YtiaonhpiiibkdaaVlLawT
namespace Go.Proofs.Ytiaonhpiiibkdaa
open Go.RowKit
set_option maxRecDepth 100000

def mxO : Obj := .cells #[.string ⟨#[97]⟩, .bool false, .int .i64 0, .string ⟨#[98]⟩, .bool false, .int .i64 1, .string ⟨#[99]⟩, .bool false, .int .i64 5, .string ⟨#[100]⟩, .bool false, .int .i64 64] 40
theorem sz_mem (w : World) : SzAt (w.alloc mxO) (some ⟨w.heap.size, 0, none⟩) [0, 1, 5, 64] := by
  have q : ∀ j, (w.alloc mxO).cell? ⟨w.heap.size, j, none⟩ = _ := fun j => cell_of_row _ w.heap.size j _ _ _ (heap_alloc_new w mxO)
  intro i hi
  have : i = 0 ∨ i = 1 ∨ i = 2 ∨ i = 3 := by simp at hi; omega
  rcases this with rfl | rfl | rfl | rfl
  · exact ⟨_, 0, rfl, q 2⟩
  · exact ⟨_, 0, rfl, q 5⟩
  · exact ⟨_, 0, rfl, q 8⟩
  · exact ⟨_, 0, rfl, q 11⟩
theorem sz_at {w W : World} (h : SzAt W (some ⟨w.heap.size, 0, none⟩) [0, 1, 5, 64]) (k : Nat) (hk : k < 4) : W.cell? ⟨w.heap.size, k * 3 + 2, none⟩ = some (.int .i64 ([0, 1, 5, 64] : List Int)[k]) := by
  obtain ⟨b, off, e, hc⟩ := h k hk
  injection e with e
  injection e with e1 e2 e3
  subst e1 e2
  rw [Nat.zero_add] at hc
  exact hc

theorem mx_size (k : Nat) (h1 : 1 ≤ k) (h3 : k ≤ 3) (h : k < ([0, 1, 5, 64] : List Int).length) : 1 ≤ ([0, 1, 5, 64] : List Int)[k] := by
  have : k = 1 ∨ k = 2 ∨ k = 3 := by omega
  rcases this with rfl | rfl | rfl
  · show (1 : Int) ≤ 1; omega
  · show (1 : Int) ≤ 5; omega
  · show (1 : Int) ≤ 64; omega
/-- what lies behind the Place of the law -/
theorem idx_mid {w w4 : World} {k : Nat} {X : Ex} {f : EF} (hP : w4.heap[w.heap.size + 1]? = some (.cells #[.bool false, .int .i64 (k : Int), .slice none 0 0] 43 (0, 0))) (hB : Below w.heap.size w w4) (hS : SzAt w4 (some ⟨w.heap.size, 0, none⟩) [0, 1, 5, 64]) (hM : ExM w4 (fun b => w.heap.size + 2 ≤ b) X f) :
    ∃ wx, (w4.setCell ⟨w.heap.size + 1, 2, none⟩ (.slice (some ⟨w4.heap.size, 0, none⟩) 1 1)).alloc (.cells #[.int .i64 f.op, .int .i64 f.num, .string ⟨f.name.toArray⟩, .slice f.A f.n f.c] 25) = wx ∧ wx.heap.size = w4.heap.size + 1 ∧
      wx.heap[w.heap.size + 1]? = some (.cells #[.bool false, .int .i64 (k : Int), .slice (some ⟨w4.heap.size, 0, none⟩) 1 1] 43 (0, 0)) ∧ Below w.heap.size w wx ∧ SzAt wx (some ⟨w.heap.size, 0, none⟩) [0, 1, 5, 64] ∧ ExM wx (fun _ => True) X f ∧ EFat wx w4.heap.size 0 f := by
  have hl := lt_of_block hP
  have hst := heap_setCell_same w4 (w.heap.size + 1) 2 _ _ (.slice (some ⟨w4.heap.size, 0, none⟩) 1 1) hP
  have hset : ∀ b, b ≠ w.heap.size + 1 → (w4.setCell ⟨w.heap.size + 1, 2, none⟩ (.slice (some ⟨w4.heap.size, 0, none⟩) 1 1)).heap[b]? = w4.heap[b]? := fun b hb => heap_setCell_other w4 ⟨w.heap.size + 1, 2, none⟩ b _ (fun e => hb e)
  have hsz : (w4.setCell ⟨w.heap.size + 1, 2, none⟩ (.slice (some ⟨w4.heap.size, 0, none⟩) 1 1)).heap.size = w4.heap.size := by simp
  have hbs : Below w.heap.size w (w4.setCell ⟨w.heap.size + 1, 2, none⟩ (.slice (some ⟨w4.heap.size, 0, none⟩) 1 1)) := hB.setCell (by simp) _
  generalize w4.setCell ⟨w.heap.size + 1, 2, none⟩ (.slice (some ⟨w4.heap.size, 0, none⟩) 1 1) = ws at *
  have hn := heap_alloc_new ws (.cells #[.int .i64 f.op, .int .i64 f.num, .string ⟨f.name.toArray⟩, .slice f.A f.n f.c] 25)
  rw [hsz] at hn
  have hal : ∀ b, b < w4.heap.size → (ws.alloc (.cells #[.int .i64 f.op, .int .i64 f.num, .string ⟨f.name.toArray⟩, .slice f.A f.n f.c] 25)).heap[b]? = ws.heap[b]? := fun b hb => Below.heap_alloc _ _ b (by omega)
  refine ⟨_, rfl, by simp [hsz], (hal _ hl).trans hst, hbs.alloc hbs.size _, fun i hi => ?_, ?_, ?_⟩
  · obtain ⟨b, off, e, hc⟩ := hS i hi
    have hbl : b < w4.heap.size := World.block_lt_of_cell? _ _ hc
    have hbe : b = w.heap.size := by
      injection e with e
      injection e with e1 e2 e3
      exact e1.symm
    exact ⟨b, off, e, (World.cell?_of_block ((hal b hbl).trans (hset b (by omega)))).trans hc⟩
  · exact (hM.keep fun b hb hlt => (hal b hlt).trans (hset b (by omega))).more fun _ _ => trivial
  · obtain ⟨q0, q1, q2, q3, -⟩ := blk4 hn
    exact ⟨q0, q1, q2, q3⟩

set_option maxHeartbeats 8000000 in
theorem valueIndex_any (xs : List Int) (A : Option Addr) (cap : Nat) (m a b c : Int) (scalar : Bool) (w : World) (hR : IntR w A xs) (hc : xs.length ≤ cap) (hm : xs.length ≤ 9223372036854775807) (hmm : I64 m) (ha : I64 a) (hb : I64 b) (hcc : I64 c) :
    Calls Try.prog 9 #[.slice A xs.length cap, .int .i64 m, .int .i64 a, .int .i64 b, .int .i64 c, .bool scalar] w fun e w' => e = .returned (.bool true) ∧ Below w.heap.size w w' := by
  have HW := Lib.hid (fun W => within_big m 4 W hmm (by omega) (by omega))
  have HEX := Lib.hid (fun W (h : Below w.heap.size w W) => madeExpr_any xs A cap W (hR.later h) hc hm)
  obtain ⟨m1, m2, m3⟩ := madeG_ok xs
  clear hR hc hm
  go_enter Try.func9, Try.ntmps9
  go_wp2_with fail
  refine (HW.out _).mono ?_
  rintro e w1 ⟨rfl, rfl⟩
  rw [show (4 : Int).toNat = 4 from rfl]
  have hq := within_i64 m 4 (by omega)
  generalize ((within m 4 : Nat) : Int) = q at *
  obtain ⟨hq0, hq1⟩ := hq
  cases scalar with
  | true =>
    have HSZ := Lib.hid (sz_mem w)
    have hbm := (Below.refl w.heap.size w).alloc (Nat.le_refl _) mxO
    have HBM := Lib.hid hbm
    have hs1 : (w.alloc mxO).heap.size = w.heap.size + 1 := by simp
    have hpn := heap_alloc_new (w.alloc mxO) (.cells #[.bool false, .int .i64 0, .slice none 0 0] 43)
    rw [hs1] at hpn
    have HPN := Lib.hid hpn
    clear hbm hpn HEX m1 m2 m3 hq0 hq1 HW
    have hmx : .cells #[.string ⟨#[97]⟩, .bool false, .int .i64 0, .string ⟨#[98]⟩, .bool false, .int .i64 1, .string ⟨#[99]⟩, .bool false, .int .i64 5, .string ⟨#[100]⟩, .bool false, .int .i64 64] 40 = mxO := rfl
    go_wp2_with fail
    clear hmx
    have hb3 : Below (w.alloc mxO).heap.size (w.alloc mxO) ((((w.alloc mxO).alloc (.cells #[.bool false, .int .i64 0, .slice none 0 0] 43)).alloc (.cells #[.int .i64 b, .int .i64 c] 3)).alloc (.cells #[.int .i64 a] 3)) := (((Below.refl _ _).alloc (Nat.le_refl _) _).alloc (by simp) _).alloc (by simp) _
    have hp3 := (Below.heap_alloc ((((w.alloc mxO).alloc (.cells #[.bool false, .int .i64 0, .slice none 0 0] 43)).alloc (.cells #[.int .i64 b, .int .i64 c] 3))) (.cells #[.int .i64 a] 3) (w.heap.size + 1) (by simp)).trans ((Below.heap_alloc ((w.alloc mxO).alloc (.cells #[.bool false, .int .i64 0, .slice none 0 0] 43)) (.cells #[.int .i64 b, .int .i64 c] 3) (w.heap.size + 1) (by simp)).trans HPN.out)
    generalize (((w.alloc mxO).alloc (.cells #[.bool false, .int .i64 0, .slice none 0 0] 43)).alloc (.cells #[.int .i64 b, .int .i64 c] 3)).alloc (.cells #[.int .i64 a] 3) = w3 at *
    refine (vindexS_any w3 (some ⟨w.heap.size, 0, none⟩) [0, 1, 5, 64] 4 (by simp) (HSZ.out.later hb3) _ _ rfl).mono ?_
    rintro e w4 ⟨rfl, hb4⟩
    obtain ⟨p0, p1, p2⟩ := vblk3 ((hb4.block _ (lt_of_block hp3)).trans hp3)
    have HP4 := Lib.hid ((hb4.block _ (lt_of_block hp3)).trans hp3)
    have HB4 := Lib.hid (below_two (below_two HBM.out hb3) hb4)
    have HS4 := Lib.hid ((HSZ.out.later hb3).later hb4)
    clear hb3 hp3 hb4 HPN HBM HSZ
    go_wp2_with fail
    have hbw : Below w4.heap.size w4 ((w4.alloc (.cells #[.int .i64 b, .int .i64 c] 3)).alloc (.cells #[.int .i64 a] 3)) := ((Below.refl _ _).alloc (Nat.le_refl _) _).alloc (by simp) _
    generalize (w4.alloc (.cells #[.int .i64 b, .int .i64 c] 3)).alloc (.cells #[.int .i64 a] 3) = w5 at *
    refine (rindexS_any w5 _ _ _).mono ?_
    rintro e w6 ⟨rfl, hb6⟩
    have hb46 := below_two hbw hb6
    obtain ⟨p0', p1', p2'⟩ := vblk3 ((hb46.block _ (lt_of_block HP4.out)).trans HP4.out)
    have hsz := sz_at (HS4.out.later hb46) 0 (by omega)
    rw [Nat.zero_mul, Nat.zero_add] at hsz
    have HB6 := Lib.hid (below_two HB4.out hb46)
    clear p0 p1 p2 HP4 HB4 HS4 hbw hb6 hb46
    go_wp2_with fail
    refine (awake7_any w6).mono ?_
    rintro e w7 ⟨rfl, hb7⟩
    have HB7 := Lib.hid (below_two HB6.out hb7)
    clear hb7 HB6
    go_wp2_with fail
    go_ret
    exact ⟨rfl, HB7.out⟩
  | false =>
    have HSZ := Lib.hid (sz_mem w)
    have hbm := (Below.refl w.heap.size w).alloc (Nat.le_refl _) mxO
    have HBM := Lib.hid hbm
    have hs1 : (w.alloc mxO).heap.size = w.heap.size + 1 := by simp
    have hpn := heap_alloc_new (w.alloc mxO) (.cells #[.bool false, .int .i64 (1 + q % 3), .slice none 0 0] 43)
    rw [hs1] at hpn
    have HPN := Lib.hid hpn
    clear hbm hpn HW
    have hmx : .cells #[.string ⟨#[97]⟩, .bool false, .int .i64 0, .string ⟨#[98]⟩, .bool false, .int .i64 1, .string ⟨#[99]⟩, .bool false, .int .i64 5, .string ⟨#[100]⟩, .bool false, .int .i64 64] 40 = mxO := rfl
    go_wp2_with fail
    clear hmx
    have hb2 : Below (w.alloc mxO).heap.size (w.alloc mxO) ((w.alloc mxO).alloc (.cells #[.bool false, .int .i64 (1 + q % 3), .slice none 0 0] 43)) := (Below.refl _ _).alloc (Nat.le_refl _) _
    obtain ⟨k, hk, hk1, hk3⟩ : ∃ k : Nat, 1 + q % 3 = (k : Int) ∧ 1 ≤ k ∧ k ≤ 3 := ⟨(1 + q % 3).toNat, by omega, by omega, by omega⟩
    rw [hk] at HPN hb2 ⊢
    generalize (w.alloc mxO).alloc (.cells #[.bool false, .int .i64 (k : Int), .slice none 0 0] 43) = w2 at *
    have HB2 := Lib.hid (below_two HBM.out hb2)
    have HS2 := Lib.hid (HSZ.out.later hb2)
    clear hb2 HSZ HBM hk hq0 hq1 hs1
    refine (HEX.out w2 HB2.out).mono ?_
    rintro e w3 ⟨num, name, A1, n1, c1, rfl, hM1, hb3⟩
    have HR1 := Lib.hid (resolved_any w3 (madeG xs) ⟨(madeG xs).op, num, name, A1, n1, c1⟩ m2 (hM1.more fun _ _ => trivial))
    have HB3 := Lib.hid (below_two HB2.out hb3)
    have HS3 := Lib.hid (HS2.out.later hb3)
    have HP3 := Lib.hid ((hb3.block _ (lt_of_block HPN.out)).trans HPN.out)
    clear hM1 hb3 HEX m1 m2 m3 HB2 HS2 HPN
    go_wp2_with fail
    refine HR1.out.mono ?_
    rintro e w4 ⟨f, rfl, hf, hb4⟩
    have HP4 := Lib.hid ((hb4.block _ (lt_of_block HP3.out)).trans HP3.out)
    have HB4 := Lib.hid (below_two HB3.out hb4)
    have HS4 := Lib.hid (HS3.out.later hb4)
    have HF4 : Hid (ExM w4 (fun b => w.heap.size + 2 ≤ b) (vmE xs) f) := hf.more fun b hb => by have := lt_of_block HP3.out; omega
    unfold EF.val
    obtain ⟨p0, p1, p2⟩ := vblk3 HP4.out
    have pf := frozen_of_row w4 (w.heap.size + 1) 2 _ _ HP4.out
    have hpl := lt_of_block HP4.out
    clear hf hb4 HR1 HB3 HS3 HP3
    obtain ⟨v1, v2⟩ := vmE_ok (ng := 2) (nl := 1) (Nat.le_refl _) (Nat.le_refl _) xs
    generalize vmE xs = X at *
    go_wp2_with fail
    clear p0 p1 p2 pf
    obtain ⟨wx, hwx, hxs, hxp, hxb, hxz, hxm, hxe⟩ := idx_mid HP4.out HB4.out HS4.out HF4.out
    rw [hwx]
    clear hwx HP4 HB4 HS4 HF4
    have hbw : Below wx.heap.size wx ((wx.alloc (.cells #[.int .i64 b, .int .i64 c] 3)).alloc (.cells #[.int .i64 a] 3)) := ((Below.refl _ _).alloc (Nat.le_refl _) _).alloc (by simp) _
    have hg : IntR ((wx.alloc (.cells #[.int .i64 b, .int .i64 c] 3)).alloc (.cells #[.int .i64 a] 3)) (some ⟨w4.heap.size + 1, 0, none⟩) [b, c] := by
      have := (intR_new2 wx b c hb hcc).alloc (.cells #[.int .i64 a] 3)
      rw [hxs] at this
      exact this
    have hl : IntR ((wx.alloc (.cells #[.int .i64 b, .int .i64 c] 3)).alloc (.cells #[.int .i64 a] 3)) (some ⟨w4.heap.size + 1 + 1, 0, none⟩) [a] := by
      have := intR_new1 (wx.alloc (.cells #[.int .i64 b, .int .i64 c] 3)) a ha
      rw [show (wx.alloc (.cells #[.int .i64 b, .int .i64 c] 3)).heap.size = w4.heap.size + 1 + 1 by simp [hxs]] at this
      exact this
    have hk4 : k < ([0, 1, 5, 64] : List Int).length := by show k < 4; omega
    have hsk : 1 ≤ ([0, 1, 5, 64] : List Int)[k] := mx_size k hk1 hk3 hk4
    refine (vindex_any _ k (some ⟨w.heap.size, 0, none⟩) [0, 1, 5, 64] 4 hk4 (hxz.later hbw) w4.heap.size 0 1 X f [b, c] [a] (some ⟨w4.heap.size + 1, 0, none⟩) (some ⟨w4.heap.size + 1 + 1, 0, none⟩) 2 1 hsk (hxe.keep (hbw.block _ (by omega))) (hxm.later hbw) v1 (by omega) hg hl (allI_2 hb hcc) (allI_1 ha)).mono ?_
    rintro e w5 ⟨rfl, hb5⟩
    have hbx5 := below_two hbw hb5
    have hro := evV_ok (allI_2 hb hcc) (allI_1 ha) X v1
    obtain ⟨hi0, hi1⟩ := ixV_in ([0, 1, 5, 64] : List Int)[k] (evV [b, c] [a] X) hsk
    have HP5 := Lib.hid ((hbx5.block _ (lt_of_block hxp)).trans hxp)
    have HB5 := Lib.hid (below_two hxb hbx5)
    have HS5 := Lib.hid (hxz.later hbx5)
    have HM5 := Lib.hid (hxm.later hbx5)
    have HE5 := Lib.hid (hxe.keep (hbx5.block _ (by omega)))
    obtain ⟨p0, p1, p2⟩ := vblk3 HP5.out
    clear hbw hg hl hb5 hbx5 hxs hxp hxb hxz hxm hxe hro
    go_wp2_with fail
    clear p0 p1 p2
    have hbw : Below w5.heap.size w5 ((w5.alloc (.cells #[.int .i64 b, .int .i64 c] 3)).alloc (.cells #[.int .i64 a] 3)) := ((Below.refl _ _).alloc (Nat.le_refl _) _).alloc (by simp) _
    have hg : IntR ((w5.alloc (.cells #[.int .i64 b, .int .i64 c] 3)).alloc (.cells #[.int .i64 a] 3)) (some ⟨w5.heap.size, 0, none⟩) [b, c] := (intR_new2 w5 b c hb hcc).alloc (.cells #[.int .i64 a] 3)
    have hl : IntR ((w5.alloc (.cells #[.int .i64 b, .int .i64 c] 3)).alloc (.cells #[.int .i64 a] 3)) (some ⟨w5.heap.size + 1, 0, none⟩) [a] := by
      have := intR_new1 (w5.alloc (.cells #[.int .i64 b, .int .i64 c] 3)) a ha
      rw [show (w5.alloc (.cells #[.int .i64 b, .int .i64 c] 3)).heap.size = w5.heap.size + 1 by simp] at this
      exact this
    refine (rindex_of _ k (some ⟨w.heap.size, 0, none⟩) [0, 1, 5, 64] 4 hk4 (HS5.out.later hbw) w4.heap.size 0 1 X f [b, c] [a] (some ⟨w5.heap.size, 0, none⟩) (some ⟨w5.heap.size + 1, 0, none⟩) 2 1 hsk (HE5.out.keep (hbw.block _ HE5.out.lt)) (HM5.out.later hbw) v1 hg hl (allI_2 hb hcc) (allI_1 ha)).mono ?_
    rintro e w6 ⟨rfl, hb6⟩
    have hb56 := below_two hbw hb6
    obtain ⟨p0, p1, p2⟩ := vblk3 ((hb56.block _ (lt_of_block HP5.out)).trans HP5.out)
    have hsz := sz_at (HS5.out.later hb56) k (by omega)
    have HB6 := Lib.hid (below_two HB5.out hb56)
    generalize ([0, 1, 5, 64] : List Int)[k] = s at *
    generalize ixV s (evV [b, c] [a] X) = R at *
    clear HP5 HB5 HS5 HM5 HE5 hbw hg hl hb6 hb56
    obtain ⟨r1, r2⟩ := R
    dsimp only at *
    have i0 : (0 : Int) ≤ (k : Int) := by omega
    have i1 : (k : Int) < 4 := by omega
    go_wp2_with fail
    all_goals
      refine (awake7_any w6).mono ?_
      rintro e w7 ⟨rfl, hb7⟩
      have HB7 := Lib.hid (below_two HB6.out hb7)
      clear hb7 HB6
      go_wp2_with fail
      go_ret
      exact ⟨rfl, HB7.out⟩
end Go.Proofs.Ytiaonhpiiibkdaa
