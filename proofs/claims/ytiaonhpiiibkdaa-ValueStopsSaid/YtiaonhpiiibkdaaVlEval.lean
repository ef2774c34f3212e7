/- What Eval of package value does: the plain function evV. -/
import Derived.Test.YtiaonhpiiibkdaaVlValue
import Derived.Deep.LoopGhost
import Derived.Deep.AppendLies
import Derived.WalkSmall
import Derived.Deep.RegionLaw
namespace Go.Proofs.Ytiaonhpiiibkdaa
open Go.RowKit

/-- an expression on the list of open ones -/
structure Fr where
  E : Ex
  f : EF
  b : Nat
  p : Nat
  k : Nat
  x : Int
  y : Int
def frCells (l : List Fr) : List Value := l.flatMap fun i => [.pointer (some ⟨i.b, i.p, none⟩), .int .i64 (i.k : Int), .int .i64 i.x, .int .i64 i.y]
theorem frCells_snoc (l : List Fr) (i : Fr) : frCells (l ++ [i]) = frCells l ++ [.pointer (some ⟨i.b, i.p, none⟩), .int .i64 (i.k : Int), .int .i64 i.x, .int .i64 i.y] := by simp [frCells]
theorem frCells_len (l : List Fr) : (frCells l).length = l.length * 4 := by
  induction l with
  | nil => rfl
  | cons i r ih =>
    have : frCells (i :: r) = [.pointer (some ⟨i.b, i.p, none⟩), .int .i64 (i.k : Int), .int .i64 i.x, .int .i64 i.y] ++ frCells r := by simp [frCells]
    rw [this, List.length_append, ih, List.length_cons]
    simp
    omega
theorem fr_cells (l : List Fr) (i : Fr) (j : Nat) (hj : j < 4) : (frCells (l ++ [i]))[l.length * 4 + j]? = [Value.pointer (some ⟨i.b, i.p, none⟩), .int .i64 (i.k : Int), .int .i64 i.x, .int .i64 i.y][j]? := by
  rw [frCells_snoc, List.getElem?_append_right (by rw [frCells_len]; omega), frCells_len]
  congr 1
  omega
/-- what is known of an open expression -/
structure FrOk (w : World) (ng nl : Nat) (i : Fr) : Prop where
  at_ : EFat w i.b i.p i.f
  mem : ExM w (fun _ => True) i.E i.f
  ok : RsOk ng nl i.E
  le : i.k ≤ i.E.argsOf.length
  y0 : i.k < 2 → i.y = 0
  x0 : i.k < 1 → i.x = 0
  xi : I64 i.x
  yi : I64 i.y
/-- what the value of an Arg makes of the expression that waits for it -/
def stepV (gs ls : List Int) (i : Fr) (r : Int × Int) : Int × Int :=
  if r.2 ≠ 0 then (0, r.2) else finK gs ls i.E (i.k + 1) (if i.k = 0 then r.1 else i.x) (if i.k = 1 then r.1 else i.y)
def conV (gs ls : List Int) (l : List Fr) (r : Int × Int) : Int × Int := l.foldr (stepV gs ls) r
theorem conV_snoc (gs ls : List Int) (l : List Fr) (i : Fr) (r : Int × Int) : conV gs ls (l ++ [i]) r = conV gs ls l (stepV gs ls i r) := by
  unfold conV
  rw [List.foldr_append]
  rfl
theorem conV_fault (gs ls : List Int) (l : List Fr) (r : Int × Int) (h : r.2 ≠ 0) (h0 : r.1 = 0) : conV gs ls l r = r := by
  induction l with
  | nil => rfl
  | cons i l ih =>
    unfold conV at ih ⊢
    rw [List.foldr_cons, ih]
    unfold stepV
    rw [if_pos h, ← h0]
/-- how much is left of an expression that waits, and of the last one -/
def wgtW (i : Fr) : Nat := 1 + 2 * exCnts (i.E.argsOf.drop (i.k + 1))
def wgtT (i : Fr) : Nat := 1 + 2 * exCnts (i.E.argsOf.drop i.k)
def wgtS : List Fr → Nat
  | [] => 0
  | i :: r => wgtW i + wgtS r
theorem wgtS_snoc (l : List Fr) (i : Fr) : wgtS (l ++ [i]) = wgtS l + wgtW i := by
  induction l with
  | nil => simp [wgtS]
  | cons j r ih => rw [List.cons_append, wgtS, wgtS, ih]; omega
theorem wgtS_len (l : List Fr) : l.length ≤ wgtS l := by
  induction l with
  | nil => simp
  | cons j r ih => rw [wgtS, List.length_cons]; unfold wgtW; omega
theorem exCnts_cons' (e : Ex) (r : List Ex) : exCnts (e :: r) = exCnt e + exCnts r := by rw [exCnts]
theorem exCnt_args (E : Ex) : exCnt E = exCnts E.argsOf + 1 := by cases E; rw [exCnt]; rfl
theorem wgt_push (i : Fr) (h : i.k < i.E.argsOf.length) (j : Fr) (hj : j.E = i.E.argsOf[i.k]) (hk : j.k = 0) : wgtW i + wgtT j + 1 = wgtT i := by
  unfold wgtW wgtT
  rw [hk, List.drop_zero, hj, List.drop_eq_getElem_cons h, exCnts_cons', exCnt_args]
  omega

theorem ExM.n_eq {w : World} {S : Nat → Prop} {E : Ex} {f : EF} (h : ExM w S E f) : f.n = E.argsOf.length := by
  cases h
  rfl
theorem ExM.num_eq {w : World} {S : Nat → Prop} {E : Ex} {f : EF} (h : ExM w S E f) : f.num = E.numOf := by
  cases h
  rfl
/-- the Arg that is to be evaluated next -/
theorem FrOk.arg {w : World} {ng nl : Nat} {i : Fr} (h : FrOk w ng nl i) (hk : i.k < i.E.argsOf.length) : ∃ b off f, i.f.A = some ⟨b, off, none⟩ ∧ FrOk w ng nl ⟨i.E.argsOf[i.k], f, b, off + i.k * 4, 0, 0, 0⟩ := by
  obtain ⟨hat, hM, hR, -, -, -, -, -⟩ := h
  obtain ⟨E, f, b, p, k, x, y⟩ := i
  dsimp only at *
  cases hM with
  | mk op num name args A c F hc hs =>
    obtain ⟨b', off, e, -, hat'⟩ := hc k hk
    refine ⟨b', off, F k, e, hat', hs k hk, ?_, Nat.zero_le _, fun _ => rfl, fun _ => rfl, by unfold I64; dsimp only; omega, by unfold I64; dsimp only; omega⟩
    cases hR with
    | mk _ _ _ _ _ _ _ hss => exact hss k hk
theorem RsOk.op_in {ng nl : Nat} {E : Ex} (h : RsOk ng nl E) : (E.op = 1 ∨ E.op = 18 ∨ E.op = 19 ∨ 3 ≤ E.op ∧ E.op ≤ 17) ∧ I64 E.numOf := by
  cases h with
  | mk op num name args hn hl ha hs =>
    refine ⟨?_, hn⟩
    rw [op_eq_mk]
    omega
theorem valB_ok {gs ls : List Int} (hg : AllI gs) (hl : AllI ls) {op num a b : Int} (hn : I64 num) (ha : I64 a) : ResOk (valB gs ls op num a b) := by
  unfold valB
  split
  · exact ⟨hn, .inl rfl⟩
  · split
    · exact ⟨varV_i64 hl _, .inl rfl⟩
    · split
      · exact ⟨varV_i64 hg _, .inl rfl⟩
      · split
        · exact ⟨by unfold I64; omega, .inr ⟨rfl, rfl⟩⟩
        · exact ⟨opV_i64 ha, .inl rfl⟩
/-- an open expression with the value of one more Arg -/
def Fr.add (i : Fr) (v : Int) : Fr := ⟨i.E, i.f, i.b, i.p, i.k + 1, if i.k = 0 then v else i.x, if i.k = 1 then v else i.y⟩
theorem fr_add (l : List Fr) (i : Fr) (v : Int) (hk : i.k < 2) : ((frCells (l ++ [i])).set (l.length * 4 + 2 + i.k) (.int .i64 v)).set (l.length * 4 + 1) (.int .i64 ((i.k + 1 : Nat) : Int)) = frCells (l ++ [i.add v]) := by
  rw [frCells_snoc, frCells_snoc]
  rw [List.set_append_right _ _ (by rw [frCells_len]; omega), List.set_append_right _ _ (by rw [frCells_len]; omega), frCells_len]
  rw [show l.length * 4 + 2 + i.k - l.length * 4 = 2 + i.k by omega, show l.length * 4 + 1 - l.length * 4 = 1 by omega]
  have hc : i.k = 0 ∨ i.k = 1 := by omega
  unfold Fr.add
  rcases hc with h | h
  · rw [h]; rfl
  · rw [h]; rfl
theorem FrOk.added {w : World} {ng nl : Nat} {i : Fr} (h : FrOk w ng nl i) (hk : i.k < i.E.argsOf.length) (hk2 : i.k < 2) (v : Int) (hv : I64 v) : FrOk w ng nl (i.add v) := by
  obtain ⟨hat, hM, hR, hle, hy, hx, hxi, hyi⟩ := h
  have hc : i.k = 0 ∨ i.k = 1 := by omega
  refine ⟨hat, hM, hR, hk, ?_, ?_, ?_, ?_⟩
  · intro h2
    have : i.k + 1 < 2 := h2
    obtain h0 : i.k = 0 := by omega
    show (if i.k = 1 then v else i.y) = 0
    rw [if_neg (by omega)]
    exact hy (by omega)
  · intro h1
    have : i.k + 1 < 1 := h1
    omega
  · show I64 (if i.k = 0 then v else i.x)
    split
    · exact hv
    · exact hxi
  · show I64 (if i.k = 1 then v else i.y)
    split
    · exact hv
    · exact hyi
theorem vk_grow {w1 w2 w5 : World} {v : Value} {o : Obj} (h2 : Below w1.heap.size w1 w2) (hg : (w2.drew.alloc o).grownBy w5 v.ownBlock) (hv : ∀ k, v.ownBlock = some k → w1.heap.size ≤ k) : Below w1.heap.size w1 w5 :=
  ((h2.drew).alloc h2.size o).grown hg (by have := h2.size; simp; omega) hv
theorem Try.infoStp : (Try.prog.info? 57).map (fun i => (i.zero, i.size, i.bytes)) = some (some (.agg #[.pointer none, .int .i64 0, .int .i64 0, .int .i64 0]), 4, 32) := by kernel_rfl

/-- the list of open expressions lies in memory of the call's own; the last one is t -/
def VkRel (w1 : World) (gs ls : List Int) (C : Nat) (V0 : Int × Int) (g : Nat) (l : List Fr) (t : Fr) (v : Value) (wr : World) : Prop :=
  g = wgtS l + wgtT t ∧ g ≤ C ∧ wr.ownsRow w1.heap.size 57 4 v (l.length + 1) (frCells (l ++ [t])) ∧ (∀ i ∈ l, FrOk w1 gs.length ls.length i ∧ i.k < i.E.argsOf.length ∧ i.k < 2) ∧ FrOk w1 gs.length ls.length t ∧ conV gs ls l (finK gs ls t.E t.k t.x t.y) = V0 ∧ Below w1.heap.size w1 wr

set_option maxRecDepth 100000 in
set_option maxHeartbeats 8000000 in
theorem eval_any (w : World) (E : Ex) (op num : Int) (name : List UInt8) (A : Option Addr) (n c : Nat) (gs ls : List Int) (ga la : Option Addr) (gc lc : Nat) (hM : ExM w (fun _ => True) E ⟨op, num, name, A, n, c⟩) (hR : RsOk gs.length ls.length E) (hC : exCnt E ≤ 10000000000) (hG : IntR w ga gs) (hL : IntR w la ls) (hag : AllI gs) (hal : AllI ls) :
    Calls Try.prog 12 #[.agg #[.int .i64 op, .int .i64 num, .string ⟨name.toArray⟩, .slice A n c], .slice ga gs.length gc, .slice la ls.length lc] w fun e w' => e = .returned (.tuple #[.int .i64 (evV gs ls E).1, .int .i64 (evV gs ls E).2]) ∧ Below w.heap.size w w' := by
  obtain ⟨i0, hi, hz0, hz1, hz2⟩ := info_parts Try.infoStp
  obtain ⟨w1, hw1⟩ : ∃ w1, w1 = w.alloc (.cells #[.int .i64 op, .int .i64 num, .string ⟨name.toArray⟩, .slice A n c] 25) := ⟨_, rfl⟩
  have hb1 : Below w.heap.size w w1 := by rw [hw1]; exact (Below.refl _ _).alloc (Nat.le_refl _) _
  have hat : EFat w1 w.heap.size 0 ⟨op, num, name, A, n, c⟩ := by
    have h := heap_alloc_new w (.cells #[.int .i64 op, .int .i64 num, .string ⟨name.toArray⟩, .slice A n c] 25)
    rw [← hw1] at h
    obtain ⟨q0, q1, q2, q3, -⟩ := blk4 h
    exact ⟨q0, q1, q2, q3⟩
  have HR0 : Hid (∃ l t, VkRel w1 gs ls (2 * exCnt E) (evV gs ls E) (2 * exCnt E - 1) l t (.slice (some ⟨w1.heap.size, 0, none⟩) 1 1) (w1.alloc (.cells #[.pointer (some ⟨w.heap.size, 0, none⟩), .int .i64 0, .int .i64 0, .int .i64 0] 57))) := by
    refine ⟨[], ⟨E, ⟨op, num, name, A, n, c⟩, w.heap.size, 0, 0, 0, 0⟩, ?_, by omega, ?_, by simp, ⟨hat, hM.later hb1, hR, by simp, fun _ => rfl, fun _ => rfl, by unfold I64; dsimp only; omega, by unfold I64; dsimp only; omega⟩, ?_, (Below.refl _ _).alloc (Nat.le_refl _) _⟩
    · rw [wgtS, wgtT, exCnt_args]
      dsimp only
      rw [List.drop_zero]
      omega
    · exact World.ownsRow_lit w1 #[.pointer (some ⟨w.heap.size, 0, none⟩), .int .i64 0, .int .i64 0, .int .i64 0] 1 (by simp) (by unfold maxLen; omega) (by simp)
    · rw [finK_zero]
      rfl
  have hws : w1.heap.size = w.heap.size + 1 := by rw [hw1]; simp
  have HB1 := Lib.hid hb1
  have HG := Lib.hid (hG.later hb1)
  have HL := Lib.hid (hL.later hb1)
  have HAG := Lib.hid hag
  have HAL := Lib.hid hal
  have hC0 : 1 ≤ exCnt E := by rw [exCnt_args]; omega
  have HC : Hid (2 * exCnt E ≤ 20000000000) := by show _ ≤ _; omega
  generalize hV0 : evV gs ls E = V0 at *
  generalize hCE : 2 * exCnt E = C at *
  clear hM hR hC hb1 hat hV0 hG hL hag hal hCE hC0
  subst hw1
  go_enter Try.func12, Try.ntmps12
  go_wp2_with fail
  rw [hws] at HR0
  generalize w.alloc (.cells #[.int .i64 op, .int .i64 num, .string ⟨name.toArray⟩, .slice A n c] 25) = w1 at *
  go_loopg [8] (C - 1) (fun g v wr => Hid (∃ l t, VkRel w1 gs ls C V0 g l t v wr))
  case atStart => exact HR0
  case round =>
    clear HR0
    obtain ⟨l, t, hg, hgC, hown, hok, ht, hcv, hbel⟩ := hrel.out
    clear hrel
    obtain ⟨sa, cap, rfl⟩ := owns_form hown
    obtain ⟨gb, rfl⟩ := owns_some hown (by omega)
    have hC := HC.out
    have hll := wgtS_len l
    have hl2 : l.length + 1 ≤ 20000000000 := by unfold wgtT at hg; omega
    have q : ∀ j, j < 4 → wr.cell? ⟨gb, l.length * 4 + j, none⟩ = [Value.pointer (some ⟨t.b, t.p, none⟩), .int .i64 (t.k : Int), .int .i64 t.x, .int .i64 t.y][j]? := fun j hj => (World.ownsRow.cellAt hown _ (by omega)).trans (fr_cells l t j hj)
    have HS : Hid (StpAt wr gb (l.length * 4) t.b t.p t.k t.x t.y) := ⟨q 0 (by omega), q 1 (by omega), q 2 (by omega), q 3 (by omega)⟩
    have hFZ := World.ownsRow.frozenAt hown
    have HFZ := Lib.hid hFZ
    have hgbl := owns_block hown gb rfl
    have HT := Lib.hid ht
    have HOK := Lib.hid hok
    have HW := Lib.hid (show gk = wgtS l + wgtT t ∧ gk ≤ C from ⟨hg, hgC⟩)
    have HO := Lib.hid hown
    have HCV := Lib.hid hcv
    have HBE := Lib.hid hbel
    clear hg hgC hown hok ht hcv hbel q hFZ hll
    have i1 : (0 : Int) ≤ (l.length : Int) := by omega
    go_wp2_with fail
    have he1 : EFat wr t.b t.p t.f := HT.out.at_.keep (HBE.out.block _ HT.out.at_.lt)
    refine (decided_any wr gb (l.length * 4) t.b t.p t.k t.x t.y t.f HS.out he1).mono ?_
    rintro e w2 ⟨rfl, hb2⟩
    have hE2 : Below w1.heap.size w1 w2 := HBE.out.trans (hb2.mono HBE.out.size)
    have HO2 := Lib.hid (owns_later HO.out hb2)
    have HS2 : Hid (StpAt w2 gb (l.length * 4) t.b t.p t.k t.x t.y) := ⟨cell_later hb2 HS.out.1, cell_later hb2 HS.out.2.1, cell_later hb2 HS.out.2.2.1, cell_later hb2 HS.out.2.2.2⟩
    have he2 : EFat w2 t.b t.p t.f := HT.out.at_.keep (hE2.block _ HT.out.at_.lt)
    have HE2 := Lib.hid hE2
    have hop := HT.out.mem.op_eq
    have hnn := HT.out.mem.n_eq
    have hnm := HT.out.mem.num_eq
    have hgb2 : w1.heap.size ≤ gb ∧ gb < w2.heap.size := ⟨hgbl.1, by have := hb2.size; omega⟩
    have htb : t.b < w1.heap.size := HT.out.at_.lt
    clear hb2 hE2 HO HS HFZ HBE hgbl he1
    cases hd : decB t.f.op t.f.n t.k t.x with
    | false =>
      rw [hop, hnn, ← decV_eq] at hd
      obtain ⟨hlt, hk2, hfin⟩ := finK_open gs ls t.E t.k t.x t.y HT.out.ok HT.out.le hd
      obtain ⟨b', off', f', hA, hF⟩ := HT.out.arg hlt
      obtain ⟨s0, s1, s2, s3⟩ := HS2.out
      obtain ⟨e0, e1, e2, e3⟩ := he2
      rw [hA] at e3
      have i2 : (0 : Int) ≤ (t.k : Int) := by omega
      have i3 : (t.k : Int) < (t.f.n : Int) := by omega
      have hnl : (frCells (l ++ [t]) ++ [.pointer (some ⟨b', off' + t.k * 4, none⟩), .int .i64 0, .int .i64 0, .int .i64 0]) = frCells ((l ++ [t]) ++ [⟨t.E.argsOf[t.k], f', b', off' + t.k * 4, 0, 0, 0⟩]) := (frCells_snoc (l ++ [t]) ⟨t.E.argsOf[t.k], f', b', off' + t.k * 4, 0, 0, 0⟩).symm
      have HNL := Lib.hid hnl
      clear hd hop hnm hnl
      go_wp2_with fail
      go_region_law (first | (refine step_append_lies _ (by rfl) _ _ _ (by rfl) w1.heap.size 57 i0 _ 4 32 Try.underlying58 hi hz0 hz1 hz2 rfl (by omega) (.slice (some ⟨gb, 0, none⟩) (l.length + 1) cap) (l.length + 1) (frCells (l ++ [t])) (by rfl) ((HO2.out.drew).alloc _) ⟨w2.heap.size, 0, none⟩ 1 1 [.pointer (some ⟨b', off' + t.k * 4, none⟩), .int .i64 0, .int .i64 0, .int .i64 0] (by rfl) (by rfl) (World.news_of_block (heap_alloc_new w2.drew _)) (by simp [Value.oneCell']) (by omega) (by unfold maxLen; omega) (by omega) (by simp; omega) (w2.heap.size + 1) (by simp) ?_; intro gg cap' w5 hown5 hgrow hat5 hlt5))
      all_goals
        clear s0 s1 s2 s3 e0 e1 e2 e3
        have HO5 := Lib.hid hown5
        have HB5 := Lib.hid (vk_grow HE2.out hgrow (fun k hk => by have h1 : some gb = some k := hk; injection h1 with h1; have := hgb2.1; omega))
        clear hown5 hgrow hat5 hlt5
        go_wp2_with fail
        go_roundg (wgtS (l ++ [t]) + wgtT ⟨t.E.argsOf[t.k], f', b', off' + t.k * 4, 0, 0, 0⟩)
        case rel =>
          have hw := wgt_push t hlt ⟨t.E.argsOf[t.k], f', b', off' + t.k * 4, 0, 0, 0⟩ rfl rfl
          refine ⟨l ++ [t], ⟨t.E.argsOf[t.k], f', b', off' + t.k * 4, 0, 0, 0⟩, rfl, ?_, ?_, ?_, hF, ?_, HB5.out⟩
          · have := HW.out
            rw [wgtS_snoc]
            omega
          · rw [List.length_append, ← HNL.out]
            exact HO5.out
          · intro i hi
            rcases List.mem_append.1 hi with h | h
            · exact HOK.out i h
            · rw [List.mem_singleton.1 h]
              exact ⟨HT.out, hlt, hk2⟩
          · rw [conV_snoc, finK_zero, ← HCV.out]
            congr 1
            obtain ⟨h1, h2⟩ := hfin _ rfl
            unfold stepV
            split
            · rename_i hf
              exact (h1 hf).symm
            · rename_i hf
              exact (h2 (Decidable.not_not.1 hf)).symm
        case measure =>
          have hw := wgt_push t hlt ⟨t.E.argsOf[t.k], f', b', off' + t.k * 4, 0, 0, 0⟩ rfl rfl
          have := HW.out
          rw [wgtS_snoc]
          omega
    | true =>
      rw [hop, hnn, ← decV_eq] at hd
      have hfin := finK_dec gs ls t.E t.k t.x t.y HT.out.ok HT.out.le HT.out.y0 hd
      rw [valV_eq, ← hop, ← hnm] at hfin
      have hoi := HT.out.ok.op_in
      rw [← hop, ← hnm] at hoi
      have hro : ResOk (valB gs ls t.f.op t.f.num t.x t.y) := valB_ok HAG.out HAL.out hoi.2 HT.out.xi
      rw [hfin] at HCV
      have HVA := Lib.hid (value_any w2 gb (l.length * 4) t.b t.p t.k t.x t.y t.f gs ls ga la gc lc HS2.out he2 hoi.1 hoi.2 (HG.out.later HE2.out) (HL.out.later HE2.out))
      have hcap : l.length + 1 ≤ cap := by
        rcases HO2.out.2 with ⟨h0, _⟩ | ⟨g', cap', cur, e', _, _, hle, _⟩
        · cases h0
        · injection e' with _ _ e3
          omega
      generalize valB gs ls t.f.op t.f.num t.x t.y = R at *
      clear hd hop hnm hfin hoi he2 hnn
      go_wp2_with fail
      refine HVA.out.mono ?_
      rintro e w3 ⟨rfl, hb3⟩
      obtain ⟨r1, r2⟩ := R
      dsimp only at *
      rcases Decidable.em (r2 = 0) with h0 | h0
      · subst h0
        rcases List.eq_nil_or_concat l with rfl | ⟨l, t', rfl⟩
        · have HV : Hid ((r1, (0 : Int)) = V0) := HCV.out
          have HB3 := Lib.hid ((HB1.out.trans (HE2.out.mono (by omega))).trans (hb3.mono (by have := HE2.out.size; omega)))
          clear HCV hb3
          dsimp only [List.length_nil] at *
          go_wp2_with fail
          go_ret2
          rw [← HV.out]
          exact ⟨rfl, HB3.out⟩
        · rw [List.concat_eq_append] at *
          have hlen : (l ++ [t']).length = l.length + 1 := by simp
          rw [hlen] at hl2 hcap HO2
          rw [hlen]
          obtain ⟨ht', hk1, hk2⟩ := HOK.out t' (by simp)
          have hP : w3.ownsRow w1.heap.size 57 4 (.slice (some ⟨gb, 0, none⟩) (l.length + 1) cap) (l.length + 1) (frCells (l ++ [t'])) := by
            refine ownsRow_pop (last := [.pointer (some ⟨t.b, t.p, none⟩), .int .i64 (t.k : Int), .int .i64 t.x, .int .i64 t.y]) (by rw [frCells_len, hlen]) ?_
            rw [← frCells_snoc]
            exact owns_later HO2.out hb3
          have q : ∀ j, j < 4 → w3.cell? ⟨gb, l.length * 4 + j, none⟩ = [Value.pointer (some ⟨t'.b, t'.p, none⟩), .int .i64 (t'.k : Int), .int .i64 t'.x, .int .i64 t'.y][j]? := fun j hj => (World.ownsRow.cellAt hP _ (by omega)).trans (fr_cells l t' j hj)
          have HAD := Lib.hid (add_any w3 gb (l.length * 4) t'.b t'.p t'.k t'.x t'.y r1 ⟨q 0 (by omega), q 1 (by omega), q 2 (by omega), q 3 (by omega)⟩ (by omega) (World.ownsRow.frozenAt hP))
          have st1 := World.ownsRow.stored hP (l.length * 4 + 2 + t'.k) (.int .i64 r1)
          have st2 := World.ownsRow.stored st1.1 (l.length * 4 + 1) (.int .i64 ((t'.k + 1 : Nat) : Int))
          rw [fr_add l t' r1 hk2] at st2
          have hE3 : Below w1.heap.size w1 w3 := HE2.out.trans (hb3.mono HE2.out.size)
          have hE4 := (hE3.grown st1.2 hE3.size (fun k hk => by injection hk with hk; have := hgb2.1; omega))
          have hE5 := hE4.grown st2.2 hE4.size (fun k hk => by injection hk with hk; have := hgb2.1; omega)
          have HO5 := Lib.hid st2.1
          have HB5 := Lib.hid hE5
          have HOL : Hid (∀ i ∈ l, FrOk w1 gs.length ls.length i ∧ i.k < i.E.argsOf.length ∧ i.k < 2) := fun i hi => HOK.out i (by simp [hi])
          have HT5 := Lib.hid (ht'.added hk1 hk2 r1 hro.1)
          have HCV5 : Hid (conV gs ls l (finK gs ls (t'.add r1).E (t'.add r1).k (t'.add r1).x (t'.add r1).y) = V0) := by
            have h := HCV.out
            rw [conV_snoc] at h
            unfold stepV at h
            rw [if_neg (by simp)] at h
            exact h
          have HW5 : Hid (wgtS l + wgtT (t'.add r1) < gk ∧ gk ≤ C) := by
            have h := HW.out
            rw [wgtS_snoc] at h
            have h2 : wgtT (t'.add r1) = wgtW t' := rfl
            have h3 : 1 ≤ wgtT t := by unfold wgtT; omega
            exact ⟨by omega, h.2⟩
          clear hP q st1 st2 hE3 hE4 hE5 ht' HOK HCV HW HO2 hb3 HE2 HT
          go_wp2_with fail
          refine HAD.out.mono ?_
          rintro e w4 ⟨rfl, rfl⟩
          go_wp2_with fail
          go_roundg (wgtS l + wgtT (t'.add r1))
          case rel => exact ⟨l, t'.add r1, rfl, by have := HW5.out; omega, HO5.out, HOL.out, HT5.out, HCV5.out, HB5.out⟩
          case measure => exact HW5.out.1
      · have t0 := bF h0
        have HV : Hid ((r1, r2) = V0) := by
          show _ = _
          rw [← HCV.out]
          refine (conV_fault gs ls l (r1, r2) h0 ?_).symm
          rcases hro.2 with h | h
          · exact absurd h h0
          · exact h.2
        have HB3 := Lib.hid ((HB1.out.trans (HE2.out.mono (by omega))).trans (hb3.mono (by have := HE2.out.size; omega)))
        clear HCV hb3 h0
        go_wp2_with fail
        go_ret2
        rw [← HV.out]
        exact ⟨rfl, HB3.out⟩
end Go.Proofs.Ytiaonhpiiibkdaa
