/- What args of the writer of the made programs returns. What the loop of block of the writer of the made programs keeps. No statement of the program is proved in this file. The rows of the loop of block of the writer of the made programs, with blocks that no statement uses. No statement of the program is proved in this file. What the cases of block of the writer of the made programs need. No statement of the program is proved in this file. Slices of numbers that came in. No statement of the program is proved in this file. The list of numbers that a made program is made of. No statement of the program is proved in this file. What it means that the memory holds a program. No statement of the program is proved in this file. The writer of the made programs while it makes the declarations of a program. No statement of the program is proved in this file. A piece of a function's code, and what a round of block's loop leaves. No statement of the program is proved in this file. What the loops of Program of the made inputs leave. No statement of the program is proved in this file. -/
import Derived.Test.YtlnbmmgbfgmboaaMdRG
import Derived.Test.YtlnbmmgbfgmboaaPp11G
import Derived.Test.YtlnbmmgbfgmboaaQ1
import Derived.Test.YtlnbmmgbfgmboaaQ6
namespace Go.Proofs.Ytlnbmmgbfgmboaa
open Go.RowKit

/-- what args leaves -/
def WaP (w : World) (W : WP) (left : Nat) (ps gps : List Pm) (vs : List Nm) (e : Ending) (w' : World) : Prop :=
  ∃ (l : List Ar) (A : Option Addr) (c i' : Nat), e = .returned (.slice A l.length c) ∧ l.length = gps.length ∧ (∀ j (h1 : j < gps.length) (h2 : j < l.length), ArW W.ms ps vs gps[j] l[j]) ∧ ArsM w' (w.heap.size ≤ ·) l A ∧ WrM w' W i' left ∧ w.grownBy w' (some W.q)
/-- its loop -/
def WaL (w : World) (W : WP) (ps gps : List Pm) (vs : List Nm) (fo gO : Obj) (k : Nat) (v : Value) (wr : World) : Prop :=
  ∃ (P : List (Ar × ArG)) (i' : Nat), P.length = k ∧ OwnR arK 102 wr (w.heap.size + 2) v P ∧ Src wr W.q W.xs i' ∧ w.grownBy wr (some W.q) ∧ (∀ j (h1 : j < gps.length) (h2 : j < P.length), ArW W.ms ps vs gps[j] P[j].1) ∧
    wr.heap[w.heap.size]? = some fo ∧ wr.heap[w.heap.size + 1]? = some gO ∧ w.heap.size + 2 ≤ wr.heap.size
theorem OwnR.low {α : Type} {K : RowK α} {t : TypeId} {w : World} {B B' : Nat} {v : Value} {P : List α} (h : OwnR K t w B v P) (hB : B' ≤ B) : OwnR K t w B' v P := by
  refine ⟨⟨h.1.1, ?_⟩, fun p hp => K.more (h.2 p hp) fun b hb _ => ⟨by omega, hb.2⟩⟩
  rcases h.1.2 with h0 | ⟨g, cap, cur, e, hg, hb, r⟩
  · exact .inl h0
  · exact .inr ⟨g, cap, cur, e, by omega, hb, r⟩
theorem arW_snoc {ms : List Mx} {ps gps : List Pm} {vs : List Nm} {P : List (Ar × ArG)} {a : Ar × ArG} (h : ∀ j (h1 : j < gps.length) (h2 : j < P.length), ArW ms ps vs gps[j] P[j].1) (hk : P.length < gps.length) (ha : ArW ms ps vs gps[P.length] a.1) :
    ∀ j (h1 : j < gps.length) (h2 : j < (P ++ [a]).length), ArW ms ps vs gps[j] (P ++ [a])[j].1 := by
  intro j h1 h2
  by_cases hj : j < P.length
  · rw [List.getElem_append_left hj]
    exact h j h1 hj
  · have : j = P.length := by simp at h2; omega
    subst this
    simpa using ha
/-- one argument more -/
theorem WaL.snoc {w w3 w5 : World} {W : WP} {i3 : Nat} {ps gps : List Pm} {vs : List Nm} {fo gO o : Obj} {k : Nat} {v v' : Value} {P : List (Ar × ArG)} {a : Ar × ArG} (hPk : P.length = k) (hO : OwnR arK 102 w3 (w.heap.size + 2) v P) (hW : Src w3 W.q W.xs i3) (hqw : W.q < w.heap.size) (hG : w.grownBy w3 (some W.q))
    (hA : ∀ j (h1 : j < gps.length) (h2 : j < P.length), ArW W.ms ps vs gps[j] P[j].1) (hk : P.length < gps.length) (ha : ArW W.ms ps vs gps[P.length] a.1) (hf : w3.heap[w.heap.size]? = some fo) (hg : w3.heap[w.heap.size + 1]? = some gO) (hs : w.heap.size + 2 ≤ w3.heap.size)
    (hin : arK.In (w3.alloc o) (fun b => w.heap.size + 2 ≤ b ∧ some b ≠ v.ownBlock) a) (hown : w5.ownsRow (w.heap.size + 2) 102 arK.sz v' (P.length + 1) (arK.cs P ++ arK.cl a)) (hgrow : (w3.alloc o).grownBy w5 v.ownBlock)
    (hv : v'.ownBlock = v.ownBlock ∨ ∃ k, v'.ownBlock = some k ∧ (w3.alloc o).heap.size ≤ k) : WaL w W ps gps vs fo gO (k + 1) v' w5 := by
  have hne : ∀ b, b < w.heap.size + 2 → some b ≠ v.ownBlock := fun b hb e => by have := (hO.1.lt b e.symm).1; omega
  have hkp : ∀ b, b < w3.heap.size → some b ≠ v.ownBlock → w5.heap[b]? = w3.heap[b]? := fun b hb hn => (hgrow.block b (by simp; omega) hn).trans (Below.heap_alloc w3 o b hb)
  have hG5 : w.grownBy w5 (some W.q) := ⟨hgrow.os.trans hG.os, hgrow.tape.trans hG.tape, hgrow.output.trans hG.output, Nat.le_trans hG.size (Nat.le_trans (by simp) hgrow.size), fun b hb hn => (hkp b (by omega) (hne b (by omega))).trans (hG.block b hb hn)⟩
  subst hPk
  refine ⟨P ++ [a], i3, by simp, (hO.alloc o).snoc hin hown hgrow hv, hW.keep fun b hb => hkp b (by omega) (hne b (by omega)), hG5, arW_snoc hA hk ha, (hkp _ (by omega) (hne _ (by omega))).trans hf, (hkp _ (by omega) (hne _ (by omega))).trans hg, Nat.le_trans hs (Nat.le_trans (by simp) hgrow.size)⟩

set_option maxRecDepth 100000 in
set_option maxHeartbeats 8000000 in
theorem wargs_any (w : World) (W : WP) (i left : Nat) (vs : List Nm) (A : Option Addr) (c : Nat) (fn : Nm) (ps : List Pm) (pA bA : Option Addr) (pc bn bc : Nat) (gn : Nm) (gps : List Pm) (gA gB : Option Addr) (gc gbn gbc : Nat)
    (hW : WrM w W i left) (hV : StrN w W.q A vs) (hn : vs.length ≤ 1000) (hP : PmsM w (fun b => b ≠ W.g ∧ b ≠ W.q) ps pA) (hps : ps.length ≤ 2) (hGP : PmsM w (fun b => b ≠ W.g ∧ b ≠ W.q) gps gA) (hgps : gps.length ≤ 2) :
    Calls Try.prog 48 #[.pointer (some ⟨W.g, 0, none⟩), .agg #[.string ⟨fn.toArray⟩, .slice pA ps.length pc, .slice bA bn bc], .agg #[.string ⟨gn.toArray⟩, .slice gA gps.length gc, .slice gB gbn gbc], .slice A vs.length c] w (WaP w W left ps gps vs) := by
  obtain ⟨i0, hi, hz0, hz1, hz2⟩ := info_parts Try.infoArg
  obtain ⟨hn1, hn2⟩ := new2 w (.cells #[.string ⟨fn.toArray⟩, .slice pA ps.length pc, .slice bA bn bc] 70) (.cells #[.string ⟨gn.toArray⟩, .slice gA gps.length gc, .slice gB gbn gbc] 70)
  have hbw : Below w.heap.size w ((w.alloc (.cells #[.string ⟨fn.toArray⟩, .slice pA ps.length pc, .slice bA bn bc] 70)).alloc (.cells #[.string ⟨gn.toArray⟩, .slice gA gps.length gc, .slice gB gbn gbc] 70)) := ((Below.refl _ _).alloc (Nat.le_refl _) _).alloc (by simp) _
  have hsz : ((w.alloc (.cells #[.string ⟨fn.toArray⟩, .slice pA ps.length pc, .slice bA bn bc] 70)).alloc (.cells #[.string ⟨gn.toArray⟩, .slice gA gps.length gc, .slice gB gbn gbc] 70)).heap.size = w.heap.size + 2 := by simp
  have HL0 : Hid (WaL w W ps gps vs (.cells #[.string ⟨fn.toArray⟩, .slice pA ps.length pc, .slice bA bn bc] 70 (0, 0)) (.cells #[.string ⟨gn.toArray⟩, .slice gA gps.length gc, .slice gB gbn gbc] 70 (0, 0)) 0 (.slice none 0 0) ((w.alloc (.cells #[.string ⟨fn.toArray⟩, .slice pA ps.length pc, .slice bA bn bc] 70)).alloc (.cells #[.string ⟨gn.toArray⟩, .slice gA gps.length gc, .slice gB gbn gbc] 70))) :=
    ⟨[], i, rfl, OwnR.nil _ _ _ _, (hW.later hbw).src, grown_below hbw, fun j _ h2 => absurd h2 (by simp), hn1, hn2, by omega⟩
  have HW0 := Lib.hid hW
  have HV := Lib.hid hV
  have HP := Lib.hid hP
  have HGP := Lib.hid hGP
  have hgl : W.g < w.heap.size := hW.cells.2.2.2.2.2.2
  have hql : W.q < w.heap.size := hW.src.lt
  clear hW hV hP hGP hbw hsz hn1 hn2
  go_enter Try.func48, Try.ntmps48
  go_wp2_with fail
  go_loopw [9, 10] (fun v j wr => ∃ k : Nat, k ≤ gps.length ∧ j = .int .i64 k ∧ Hid (WaL w W ps gps vs (.cells #[.string ⟨fn.toArray⟩, .slice pA ps.length pc, .slice bA bn bc] 70 (0, 0)) (.cells #[.string ⟨gn.toArray⟩, .slice gA gps.length gc, .slice gB gbn gbc] 70 (0, 0)) k v wr)) (fun _ j _ => gps.length - (intOf j).toNat)
  case atStart => exact ⟨0, Nat.zero_le _, rfl, HL0.out⟩
  case round =>
    clear HL0
    obtain ⟨k, hk, rfl, hL⟩ := hrel
    obtain ⟨P, i', hPk, hO, hWr, hGr, hA, hf, hg, hsl⟩ := hL.out
    subst hPk
    obtain ⟨vA, vc, rfl⟩ := hO.form
    have HO := Lib.hid hO
    have HS := Lib.hid hWr
    have HWr := Lib.hid (HW0.out.next hWr hGr)
    have HGr := Lib.hid hGr
    have HA := Lib.hid hA
    have HF := Lib.hid hf
    have HG := Lib.hid hg
    have HVr := Lib.hid (HV.out.grown hGr)
    have HPr := Lib.hid (HP.out.keep (w' := wr) fun b hb hl => hGr.block b hl (fun e => by injection e with e; exact hb.2 e))
    have HGPr := Lib.hid (HGP.out.keep (w' := wr) fun b hb hl => hGr.block b hl (fun e => by injection e with e; exact hb.2 e))
    obtain ⟨f0, f1, f2⟩ := mblk3 hf
    obtain ⟨g0, g1, g2⟩ := mblk3 hg
    clear hL hO hWr hGr hA hf hg
    by_cases hlt : P.length < gps.length
    · obtain ⟨b, off, hgA, hbS, c0, c1⟩ := HGPr.out P.length hlt
      subst hgA
      have i0' : (0 : Int) ≤ (P.length : Int) := by omega
      have i1' : (P.length : Int) < (gps.length : Int) := by omega
      cases hpm : gps[P.length].m with
      | true =>
        rw [hpm] at c1
        go_wp2_with fail
        refine (wref_any wr W i' left vs A c fn ps pA bA pc bn bc HWr.out HVr.out hn HPr.out hps).mono ?_
        rintro e w3 ⟨r, rA, rn, rc, i3, rfl, hR, hI, hW3, hG3⟩
        have HG3 := Lib.hid (grown_trans HGr.out hG3)
        have HO3 := Lib.hid (HO.out.grown hG3 (by omega))
        have HS3 := Lib.hid hW3.src
        have HF3 := Lib.hid ((hG3.block _ (by omega) (fun e => by injection e with e; omega)).trans HF.out)
        have HGG := Lib.hid ((hG3.block _ (by omega) (fun e => by injection e with e; omega)).trans HG.out)
        have HI : Hid (∀ o, arK.In (w3.alloc o) (wr.heap.size ≤ ·) ((⟨true, r, noEx⟩ : Ar), (⟨rA, rn, rc, ⟨0, 0, [], none, 0, 0⟩⟩ : ArG))) := fun o => arK.keep ⟨hI, ExM.leaf _ _ _ _ _ _ _⟩ fun b _ hl => Below.heap_alloc w3 o b hl
        have HR : Hid (ArW W.ms ps vs gps[P.length] (⟨true, r, noEx⟩ : Ar)) := .inl ⟨hpm, rfl, hR, rfl⟩
        have hl3 : w.heap.size + 2 ≤ w3.heap.size := Nat.le_trans hsl hG3.size
        clear hR hI hW3 hG3 hpm f0 f1 f2 g0 g1 g2 c0 c1
        go_wp2_with (first | (at_builtin; refine wpList_append_lies _ rfl (.tmp 24) (.tmp 30) 92 rfl (w.heap.size + 2) 102 i0 _ 7 104 Try.underlying92 hi hz0 hz1 hz2 rfl (by decide) _ P.length (arK.cs P) rfl (HO3.out.alloc _).1 ⟨w3.heap.size, 0, none⟩ 1 1 [.bool true, .string ⟨r.name.toArray⟩, .slice rA rn rc, .int .i64 0, .int .i64 0, .string ⟨#[]⟩, .slice none 0 0] rfl rfl (news_any w3 _ rfl _ _) (arK.one ((⟨true, r, noEx⟩ : Ar), ⟨rA, rn, rc, ⟨0, 0, [], none, 0, 0⟩⟩)) (by omega) (by unfold maxLen; omega) (by omega) (by simp; omega) _ rfl ?_))
        intro gb cap w5 hown hgrow hlies hgl
        have HL5 := Lib.hid (WaL.snoc (W := W) (gps := gps) (a := ((⟨true, r, noEx⟩ : Ar), (⟨rA, rn, rc, ⟨0, 0, [], none, 0, 0⟩⟩ : ArG))) rfl HO3.out HS3.out hql HG3.out HA.out hlt HR.out HF3.out HGG.out hl3 (arK.fresh (HI.out _) HO.out (Nat.le_refl _) hsl) hown hgrow (lies_at hlies (by simp)))
        clear hown hgrow hlies hgl HR HI
        go_wp2_with fail
        go_roundw
        case rel => exact ⟨P.length + 1, by omega, by go_num, HL5.out⟩
        case measure => simp [intOf]; omega
      | false =>
        rw [hpm] at c1
        go_wp2_with fail
        refine (wexpr_any wr W i' left vs A c HWr.out HVr.out hn).mono ?_
        rintro e w3 ⟨f, E, i3, rfl, hR, hI, hW3, hG3⟩
        have HG3 := Lib.hid (grown_trans HGr.out hG3)
        have HO3 := Lib.hid (HO.out.grown hG3 (by omega))
        have HS3 := Lib.hid hW3.src
        have HF3 := Lib.hid ((hG3.block _ (by omega) (fun e => by injection e with e; omega)).trans HF.out)
        have HGG := Lib.hid ((hG3.block _ (by omega) (fun e => by injection e with e; omega)).trans HG.out)
        have HI : Hid (∀ o, arK.In (w3.alloc o) (wr.heap.size ≤ ·) ((⟨false, noRf, E⟩ : Ar), (⟨none, 0, 0, f⟩ : ArG))) := fun o => arK.keep ⟨rfl, hI⟩ fun b _ hl => Below.heap_alloc w3 o b hl
        have HR : Hid (ArW W.ms ps vs gps[P.length] (⟨false, noRf, E⟩ : Ar)) := .inr ⟨hpm, rfl, rfl, hR⟩
        have hl3 : w.heap.size + 2 ≤ w3.heap.size := Nat.le_trans hsl hG3.size
        unfold EF.val
        clear hR hI hW3 hG3 hpm f0 f1 f2 g0 g1 g2 c0 c1
        go_wp2_with (first | (at_builtin; refine wpList_append_lies _ rfl (.tmp 32) (.tmp 37) 92 rfl (w.heap.size + 2) 102 i0 _ 7 104 Try.underlying92 hi hz0 hz1 hz2 rfl (by decide) _ P.length (arK.cs P) rfl (HO3.out.alloc _).1 ⟨w3.heap.size, 0, none⟩ 1 1 [.bool false, .string ⟨#[]⟩, .slice none 0 0, .int .i64 f.op, .int .i64 f.num, .string ⟨f.name.toArray⟩, .slice f.A f.n f.c] rfl rfl (news_any w3 _ rfl _ _) (arK.one ((⟨false, noRf, E⟩ : Ar), ⟨none, 0, 0, f⟩)) (by omega) (by unfold maxLen; omega) (by omega) (by simp; omega) _ rfl ?_))
        intro gb cap w5 hown hgrow hlies hgl
        have HL5 := Lib.hid (WaL.snoc (W := W) (gps := gps) (a := ((⟨false, noRf, E⟩ : Ar), (⟨none, 0, 0, f⟩ : ArG))) rfl HO3.out HS3.out hql HG3.out HA.out hlt HR.out HF3.out HGG.out hl3 (arK.fresh (HI.out _) HO.out (Nat.le_refl _) hsl) hown hgrow (lies_at hlies (by simp)))
        clear hown hgrow hlies hgl HR HI
        go_wp2_with fail
        go_roundw
        case rel => exact ⟨P.length + 1, by omega, by go_num, HL5.out⟩
        case measure => simp [intOf]; omega
    · go_wp2_with fail
      go_ret
      have he : P.length = gps.length := by omega
      refine ⟨P.map (·.1), vA, vc, i', by rw [List.length_map]; rfl, by rw [List.length_map]; exact he, fun j h1 h2 => ?_, ?_, HWr.out, HGr.out⟩
      · rw [List.getElem_map]
        exact HA.out j h1 (by simpa using h2)
      · exact arsM_of_own (HO.out.low (by omega))
end Go.Proofs.Ytlnbmmgbfgmboaa

namespace Go.Proofs.Ytlnbmmgbfgmboaa
open Go.RowKit

section
variable {P : Program}
/-- nothing is appended -/
theorem run_append_zero (w : World) (t ty e : TypeId) (i : TypeInfo) (ht : P.underlying t = some (.slice e)) (hi : P.info? e = some i) (b A : Option Addr) (n cap c : Nat) (hn : n ≤ cap) :
    (Builtin.append_ #[t, t] ty #[.slice b n cap, .slice A 0 c]).run P w = .ok (.slice b n cap) w := by
  have hf : (Builtin.firstCells i.size 0 (.slice A 0 c)).run P w = .ok #[] w := by
    cases A with
    | none => simp [Builtin.firstCells]
    | some a => exact run_firstCells_some (P := P) w i.size 0 a 0 c [] (by simp) (by simp)
  cases b with
  | none => simp [Builtin.append_, run_underlying ht, sizeOf, typeInfo, hi, Builtin.lenOf, hn, hf]
  | some b => simp [Builtin.append_, run_underlying ht, sizeOf, typeInfo, hi, Builtin.lenOf, hn, hf, storeCells]
theorem wpList_append_zero (w : World) {ops : Array Oper} {rest : List Oper} {o : Oper} {a : Act} {Q : Exit → Act → World → Prop} (hgd : o.guard = none) (s x : Operand) (t : TypeId)
    (ho : o.op = .call { callee := .builtin .append, args := #[s, x], argTypes := #[t, t] }) (e : TypeId) (i : TypeInfo) (ht : P.underlying t = some (.slice e)) (hi : P.info? e = some i)
    (b A : Option Addr) (n cap c : Nat) (hn : n ≤ cap) (hs : a.eval s = .slice b n cap) (hx : a.eval x = .slice A 0 c)
    (h : wpList P ops Q rest (a.put o.dst (.slice b n cap)) w) : wpList P ops Q (o :: rest) a w := by
  refine wpList_plain hgd fun K hK => ?_
  have hr := run_append_zero (P := P) w t o.type e i ht hi b A n cap c hn
  unfold Oper.wp execOp
  simp only [ho, resolve, invoke, builtin, Sem.run_bind, Sem.run_pure, Result.andThen_ok, List.map_toArray, List.map_cons, List.map_nil, hs, hx, hr]
  exact hK _ _ h
/-- an append of a slice that may be empty -/
theorem wpList_append_some (w : World) {ops : Array Oper} {rest : List Oper} {o : Oper} {a : Act} {Q : Exit → Act → World → Prop} (hgd : o.guard = none) (s x : Operand) (t : TypeId)
    (ho : o.op = .call { callee := .builtin .append, args := #[s, x], argTypes := #[t, t] })
    (base : Nat) (e : TypeId) (i : TypeInfo) (z : Value) (size bytes : Nat) (ht : P.underlying t = some (.slice e)) (hi : P.info? e = some i) (hz : i.zero = some z)
    (hsize : i.size = size) (hby : i.bytes = bytes) (hzs : z.cells.size = size) (hsz : 0 < size)
    (g0 cap0 : Nat) (n : Nat) (xs : List Value) (hs : a.eval s = .slice (some ⟨g0, 0, none⟩) n cap0) (hown : w.ownsRow base e size (.slice (some ⟨g0, 0, none⟩) n cap0) n xs)
    (A : Option Addr) (m c : Nat) (news : List Value) (hx : a.eval x = .slice A m c) (hl : news.length = m * size) (hA : 0 < m → ∃ ad, A = some ad ∧ ∀ j u, news[j]? = some u → w.cell? (ad.add j) = some u) (h1 : ∀ u ∈ news, u.oneCell' = true)
    (h63 : n + m ≤ maxLen) (hbytes : (n + m) * bytes ≤ 140737488355328) (hbase : base ≤ w.heap.size) (H : Nat) (hH : w.heap.size = H)
    (h : ∀ g cap w', w'.ownsRow base e size (.slice (some ⟨g, 0, none⟩) (n + m) cap) (n + m) (xs ++ news) → w.grownBy w' (some g0) → (some g0 = some g ∨ g = H) → g < w'.heap.size → wpList P ops Q rest (a.put o.dst (.slice (some ⟨g, 0, none⟩) (n + m) cap)) w') : wpList P ops Q (o :: rest) a w := by
  by_cases hm : m = 0
  · subst hm
    have hnil : news = [] := List.length_eq_zero_iff.1 (by omega)
    subst hnil
    have hcap : n ≤ cap0 := by
      rcases hown.2 with ⟨h0, _⟩ | ⟨g, cap, cur, e1, _, _, hc, _⟩
      · cases h0
      · injection e1 with _ _ e3
        omega
    exact wpList_append_zero w hgd s x t ho e i ht hi _ A n cap0 c hcap hs hx (h g0 cap0 w (by simpa using hown) ⟨rfl, rfl, rfl, Nat.le_refl _, fun _ _ _ => rfl⟩ (.inl rfl) (hown.lt g0 rfl).2)
  · obtain ⟨ad, rfl, hnews⟩ := hA (by omega)
    exact wpList_append_lies w hgd s x t ho base e i z size bytes ht hi hz hsize hby hzs hsz _ n xs hs hown ad m c news hx hl hnews h1 (by omega) h63 hbytes hbase H hH h
end

/-- new cells from the start of block g on -/
def NewsAt (w : World) (g : Nat) (cs : List Value) : Prop := ∀ j u, cs[j]? = some u → w.cell? ((⟨g, 0, none⟩ : Addr).add j) = some u
theorem NewsAt.alloc (W : World) (g : Nat) (hg : g = W.heap.size) (cs : List Value) (t : TypeId) : NewsAt (W.alloc (.cells cs.toArray t)) g cs := fun j u hj => news_any W g hg cs t j u hj
theorem NewsAt.keep {w w' : World} {g : Nat} {cs : List Value} (h : NewsAt w g cs) (hk : w'.heap[g]? = w.heap[g]?) : NewsAt w' g cs := fun j u hj => by
  have h1 := h j u hj
  rw [Go.WideShapes.add_plain] at h1 ⊢
  exact (World.cell?_of_block (a := ⟨g, 0 + j, none⟩) hk).trans h1
theorem NewsAt.set {w : World} {g T k : Nat} {u : Value} {cs : List Value} (h : NewsAt w g cs) (hT : g ≠ T) : NewsAt (w.setCell ⟨T, k, none⟩ u) g cs := h.keep (Below.heap_setCell w ⟨T, k, none⟩ u g hT)
theorem NewsAt.drew {w : World} {g : Nat} {cs : List Value} (h : NewsAt w g cs) : NewsAt w.drew g cs := h
theorem conv_two (ca cb : UInt8) (w : World) (g c : Nat) (h : NewsAt w g [.int .u8 (ca.toNat : Int), .int .u8 (cb.toNat : Int)]) : (convert 23 9 (.slice (some ⟨g, 0, none⟩) 2 c)).run Try.prog w = .ok (.string ⟨[ca, cb].toArray⟩) w := by
  refine run_convert_bytes_back (P := Try.prog) w 23 9 5 ⟨g, 0, none⟩ c [ca, cb] Try.underlying23 Try.underlying5 Try.underlying9 ?_
  intro j hj
  refine h j _ ?_
  match j, hj with
  | 0, _ => rfl
  | 1, _ => rfl
theorem vname_a (lo : Nat) (h : lo ≤ 24) : IntKind.u8.wrap (IntKind.i64.wrap (97 + (lo : Int).tmod 26)) = ((UInt8.ofNat (97 + lo % 26)).toNat : Int) := by
  have : ∀ k : Fin 25, IntKind.u8.wrap (IntKind.i64.wrap (97 + ((k.val : Nat) : Int).tmod 26)) = ((UInt8.ofNat (97 + k.val % 26)).toNat : Int) := by decide
  exact this ⟨lo, by omega⟩
theorem vname_b (lo : Nat) (h : lo ≤ 24) : IntKind.u8.wrap (IntKind.i64.wrap (97 + (IntKind.i64.wrap ((lo : Int) / 26)).tmod 26)) = ((UInt8.ofNat (97 + lo / 26 % 26)).toNat : Int) := by
  have : ∀ k : Fin 25, IntKind.u8.wrap (IntKind.i64.wrap (97 + (IntKind.i64.wrap (((k.val : Nat) : Int) / 26)).tmod 26)) = ((UInt8.ofNat (97 + k.val / 26 % 26)).toNat : Int) := by decide
  exact this ⟨lo, by omega⟩
/-- a block of eleven cells behind a call -/
theorem aft11 {a q T : Nat} {wr w3 w4 : World} {c0 c1 c2 c3 c4 c5 c6 c7 c8 c9 c10 : Value} {t : TypeId} (hF : Fr a q wr w3) (hG : w3.grownBy w4 (some q)) (hT : w3.heap[T]? = some (.cells #[c0, c1, c2, c3, c4, c5, c6, c7, c8, c9, c10] t (0, 0))) (hq : T ≠ q) :
    Fr a q wr w4 ∧ w4.heap[T]? = some (.cells #[c0, c1, c2, c3, c4, c5, c6, c7, c8, c9, c10] t (0, 0)) ∧ (w4.cell? ⟨T, 0, none⟩ = some c0 ∧ w4.cell? ⟨T, 1, none⟩ = some c1 ∧ w4.cell? ⟨T, 2, none⟩ = some c2 ∧ w4.cell? ⟨T, 3, none⟩ = some c3 ∧ w4.cell? ⟨T, 4, none⟩ = some c4 ∧ w4.cell? ⟨T, 5, none⟩ = some c5 ∧ w4.cell? ⟨T, 6, none⟩ = some c6 ∧ w4.cell? ⟨T, 7, none⟩ = some c7 ∧ w4.cell? ⟨T, 8, none⟩ = some c8 ∧ w4.cell? ⟨T, 9, none⟩ = some c9 ∧ w4.cell? ⟨T, 10, none⟩ = some c10) ∧ (∀ j, w4.frozen? ⟨T, j, none⟩ = false) ∧ T < w4.heap.size ∧ T ≠ w4.heap.size ∧ w3.heap.size ≤ w4.heap.size := by
  have h4 := (hG.block _ (lt_of_block hT) (fun e => by injection e with e; exact hq e)).trans hT
  obtain ⟨s0, s1, s2, s3, s4, s5, s6, s7, s8, s9, s10, sf, hl⟩ := blk11 h4
  exact ⟨hF.trans (Fr.of_grown hG), h4, ⟨s0, s1, s2, s3, s4, s5, s6, s7, s8, s9, s10⟩, sf, hl, by omega, hG.size⟩
theorem keep_alc {w : World} {a : Addr} {v : Value} (o : Obj) (h : w.cell? a = some v) : (w.alloc o).cell? a = some v := cell_later (((Below.refl _ _).alloc (Nat.le_refl _) o)) h
theorem keep_set {w : World} {a : Addr} {v : Value} {T k : Nat} {u : Value} (hT : a.block ≠ T) (h : w.cell? a = some v) : (w.setCell ⟨T, k, none⟩ u).cell? a = some v := (World.cell?_of_block (Below.heap_setCell w ⟨T, k, none⟩ u a.block hT)).trans h
theorem aft11f {a q T : Nat} {wr w3 w4 : World} {c0 c1 c2 c3 c4 c5 c6 c7 c8 c9 c10 : Value} {t : TypeId} (hF : Fr a q wr w3) (hG : Fr a q w3 w4) (hT : w3.heap[T]? = some (.cells #[c0, c1, c2, c3, c4, c5, c6, c7, c8, c9, c10] t (0, 0))) (ha : T ≠ a) (hq : T ≠ q) :
    Fr a q wr w4 ∧ w4.heap[T]? = some (.cells #[c0, c1, c2, c3, c4, c5, c6, c7, c8, c9, c10] t (0, 0)) ∧ (w4.cell? ⟨T, 0, none⟩ = some c0 ∧ w4.cell? ⟨T, 1, none⟩ = some c1 ∧ w4.cell? ⟨T, 2, none⟩ = some c2 ∧ w4.cell? ⟨T, 3, none⟩ = some c3 ∧ w4.cell? ⟨T, 4, none⟩ = some c4 ∧ w4.cell? ⟨T, 5, none⟩ = some c5 ∧ w4.cell? ⟨T, 6, none⟩ = some c6 ∧ w4.cell? ⟨T, 7, none⟩ = some c7 ∧ w4.cell? ⟨T, 8, none⟩ = some c8 ∧ w4.cell? ⟨T, 9, none⟩ = some c9 ∧ w4.cell? ⟨T, 10, none⟩ = some c10) ∧ (∀ j, w4.frozen? ⟨T, j, none⟩ = false) ∧ T < w4.heap.size ∧ T ≠ w4.heap.size ∧ w3.heap.size ≤ w4.heap.size := by
  have h4 := (hG.block _ (lt_of_block hT) ha hq).trans hT
  obtain ⟨s0, s1, s2, s3, s4, s5, s6, s7, s8, s9, s10, sf, hl⟩ := blk11 h4
  exact ⟨hF.trans hG, h4, ⟨s0, s1, s2, s3, s4, s5, s6, s7, s8, s9, s10⟩, sf, hl, by omega, hG.size⟩
/-- the same block behind a store to its first cell and an alloc -/
theorem stp11 {T : Nat} {w4 : World} {c0 c1 c2 c3 c4 c5 c6 c7 c8 c9 c10 : Value} {t : TypeId} (u : Value) (o : Obj) (hT : w4.heap[T]? = some (.cells #[c0, c1, c2, c3, c4, c5, c6, c7, c8, c9, c10] t (0, 0))) :
    (((w4.setCell ⟨T, 0, none⟩ u).alloc o).cell? ⟨T, 2, none⟩ = some c2 ∧ ((w4.setCell ⟨T, 0, none⟩ u).alloc o).cell? ⟨T, 3, none⟩ = some c3 ∧ ((w4.setCell ⟨T, 0, none⟩ u).alloc o).cell? ⟨T, 4, none⟩ = some c4 ∧ ((w4.setCell ⟨T, 0, none⟩ u).alloc o).cell? ⟨T, 5, none⟩ = some c5) ∧ (∀ j, ((w4.setCell ⟨T, 0, none⟩ u).alloc o).frozen? ⟨T, j, none⟩ = false) := by
  have h1 := blkset_any 0 u hT
  have h2 := (Below.heap_alloc _ o T (lt_of_block h1)).trans h1
  obtain ⟨-, -, s2, s3, s4, s5, -, -, -, -, -, sf, -⟩ := blk11 h2
  exact ⟨⟨s2, s3, s4, s5⟩, sf⟩
theorem StsM.putAt' {w w' : World} {r M N : Nat} {l : List St} {A : Option Addr} (h : StsM w (M ≤ ·) l A) (hp : PutAt r w w') (hr : r < M) (hN : N ≤ M) : StsM w' (N ≤ ·) l A := by
  obtain ⟨F, h1, h2⟩ := h.putAt hp hr
  refine ⟨F, fun i hi => ?_, fun i hi => (h2 i hi).more fun b hb _ => by omega⟩
  obtain ⟨b, off, e, hb, hc⟩ := h1 i hi
  exact ⟨b, off, e, by omega, hc⟩
theorem keep_drw {w : World} {a : Addr} {v : Value} (h : w.cell? a = some v) : w.drew.cell? a = some v := h
theorem WrM.drew {w : World} {W : WP} {i left : Nat} (h : WrM w W i left) : WrM w.drew W i left := h.keep fun _ _ => rfl
theorem StrN.drew {w : World} {g : Nat} {A : Option Addr} {xs : List (List UInt8)} (h : StrN w g A xs) : StrN w.drew g A xs := h
theorem Fr.drw {a b : Nat} {w w' : World} (h : Fr a b w w') : Fr a b w w'.drew := ⟨h.os, h.tape, h.output, h.size, h.block⟩
theorem Fr.put {a b T : Nat} {w w1 w2 : World} (h : Fr a b w w1) (hp : Fr T T w1 w2) (hT : w.heap.size ≤ T) : Fr a b w w2 :=
  ⟨hp.os.trans h.os, hp.tape.trans h.tape, hp.output.trans h.output, Nat.le_trans h.size hp.size, fun i hi ha hb => (hp.block i (Nat.lt_of_lt_of_le hi h.size) (by omega) (by omega)).trans (h.block i hi ha hb)⟩
theorem heap_alc {w : World} {T : Nat} {o : Obj} (o' : Obj) (h : w.heap[T]? = some o) : (w.alloc o').heap[T]? = some o := (Below.heap_alloc _ _ _ (lt_of_block h)).trans h
theorem heap_drw {w : World} {T : Nat} {o : Obj} (h : w.heap[T]? = some o) : w.drew.heap[T]? = some o := h
theorem BlW.whl2 {ms : List Mx} {fs : List Hd} {ps : List Pm} {d d' : Nat} {vs : List Nm} {hi m lo : Nat} {l : List St} {us u1 : List Nm} (hd : d = d' + 1) (e : Ex) (thn : List St) (h : BlW ms fs ps d vs hi (m + 1) l us) (he : ExW 2 us e)
    (h1 : BlW ms fs ps d' us m lo thn u1) : BlW ms fs ps d vs hi lo (l ++ [.mk 8 [] e noRf [] thn []]) us := by
  subst hd
  exact BlW.whl e thn h he h1
theorem BlW.cond2 {ms : List Mx} {fs : List Hd} {ps : List Pm} {d d' : Nat} {vs : List Nm} {hi m n lo : Nat} {l : List St} {us u1 u2 : List Nm} (hd : d = d' + 1) (e : Ex) (thn els : List St) (h : BlW ms fs ps d vs hi (m + 1) l us) (he : ExW 2 us e)
    (h1 : BlW ms fs ps d' us m n thn u1) (h2 : BlW ms fs ps d' us n lo els u2) : BlW ms fs ps d vs hi lo (l ++ [.mk 7 [] e noRf [] thn els]) us := by
  subst hd
  exact BlW.cond e thn els h he h1 h2
theorem wlift {K : Act → World → Prop} {a : Act} {w : World} (R : World → Prop) (h : R w) (k : ∀ w', R w' → K a w') : K a w := k w h
theorem BlW.len {ms : List Mx} {fs : List Hd} {ps : List Pm} {d : Nat} {vs : List Nm} {hi lo : Nat} {l : List St} {us : List Nm} (h : BlW ms fs ps d vs hi lo l us) : l.length + 2 * lo ≤ 2 * hi := by
  induction h with
  | nil => simp
  | cond e thn els h he h1 h2 ih ih1 ih2 => have := h1.le; have := h2.le; simp; omega
  | whl e thn h he h1 ih ih1 => have := h1.le; simp; omega
  | around r h hr h2 ih ih2 => simp; omega
  | _ => simp; omega

/-- the rows of the loop: v holds the statements P, vv the names us -/
structure BkS (w : World) (W : WP) (fo : Obj) (P : List (St × SG)) (us : List Nm) (v vv : Value) (i lo : Nat) (wr : World) : Prop where
  o : wr.ownsRow (w.heap.size + 1) 94 11 v P.length (stK.cs P)
  n : wr.ownsRow (w.heap.size + 1) 9 1 vv us.length (strK.cs us)
  ne : ∀ b, v.ownBlock = some b → vv.ownBlock ≠ some b
  inn : ∀ p ∈ P, StM wr (fun b => w.heap.size + 1 ≤ b ∧ some b ≠ v.ownBlock ∧ some b ≠ vv.ownBlock) p.1 p.2
  wm : WrM wr W i lo
  fr : Fr W.g W.q w wr
  f : wr.heap[w.heap.size]? = some fo
  w0 : ∃ i0 l0, WrM w W i0 l0
theorem BkS.hg {w : World} {W : WP} {fo : Obj} {P : List (St × SG)} {us : List Nm} {v vv : Value} {i lo : Nat} {wr : World} (h : BkS w W fo P us v vv i lo wr) : W.g < w.heap.size := by
  obtain ⟨_, _, h0⟩ := h.w0
  exact lt_of_block h0.blk
theorem BkS.hq {w : World} {W : WP} {fo : Obj} {P : List (St × SG)} {us : List Nm} {v vv : Value} {i lo : Nat} {wr : World} (h : BkS w W fo P us v vv i lo wr) : W.q < w.heap.size := by
  obtain ⟨_, _, h0⟩ := h.w0
  exact h0.src.lt
theorem WrM.fr {w w' : World} {W : WP} {i0 l0 i lo : Nat} (h : WrM w W i0 l0) (hF : Fr W.g W.q w w') (hb : w'.heap[W.g]? = some (.cells #[.pointer (some ⟨W.q, 0, none⟩), W.vG, .slice W.AM W.ms.length W.cM, .slice W.AF W.fs.length W.cF, .int .i64 (lo : Int), .bool W.ar] 62 (0, 0)))
    (hs : Src w' W.q W.xs i) (hl : lo ≤ 24) : WrM w' W i lo := by
  have hc : ∀ {b o : Nat} {v : Value}, b ≠ W.g → b ≠ W.q → w.cell? ⟨b, o, none⟩ = some v → w'.cell? ⟨b, o, none⟩ = some v := fun {b o v} n1 n2 hv => (World.cell?_of_block (a := ⟨b, o, none⟩) (hF.block b (World.block_lt_of_cell? _ _ hv) n1 n2)).trans hv
  refine ⟨hb, hs, h.ne, fun k hk => ?_, fun k hk => ?_, h.ml, h.fl, hl, h.ms, h.fs⟩
  · obtain ⟨b, e, n1, n2, c0, c2⟩ := h.mx k hk
    exact ⟨b, e, n1, n2, hc n1 n2 c0, hc n1 n2 c2⟩
  · obtain ⟨b, A, c, B, n, d, e, n1, n2, c0, c1, c2, hp⟩ := h.fn k hk
    exact ⟨b, A, c, B, n, d, e, n1, n2, hc n1 n2 c0, hc n1 n2 c1, hc n1 n2 c2, hp.keep fun b hb hl => hF.block b hl hb.1 hb.2⟩
theorem ownsRow_keep {w w' : World} {B : Nat} {t : TypeId} {sz n : Nat} {v : Value} {cs : List Value} (h : w.ownsRow B t sz v n cs) (hk : ∀ b, B ≤ b → b < w.heap.size → v.ownBlock = some b → w'.heap[b]? = w.heap[b]?) : w'.ownsRow B t sz v n cs := by
  refine ⟨h.1, ?_⟩
  rcases h.2 with h0 | ⟨g, cap, cur, e, hg, hb, r⟩
  · exact .inl h0
  · exact .inr ⟨g, cap, cur, e, hg, (hk g hg (lt_of_block hb) (by rw [e]; rfl)).trans hb, r⟩
/-- only the writer, its Source and new blocks change -/
theorem BkS.go {w : World} {W : WP} {fo : Obj} {P : List (St × SG)} {us : List Nm} {v vv : Value} {i lo i' lo' : Nat} {wr w' : World} (h : BkS w W fo P us v vv i lo wr) (hF : Fr W.g W.q wr w') (hW : WrM w' W i' lo') : BkS w W fo P us v vv i' lo' w' := by
  have hg := h.hg
  have hq := h.hq
  have hk : ∀ b, w.heap.size ≤ b → b < wr.heap.size → w'.heap[b]? = wr.heap[b]? := fun b hb hl => hF.block b hl (by omega) (by omega)
  exact ⟨ownsRow_keep h.o fun b hb hl _ => hk b (by omega) hl, ownsRow_keep h.n fun b hb hl _ => hk b (by omega) hl, h.ne, fun p hp => (h.inn p hp).keep fun b hb hl => hk b (by omega) hl, hW, h.fr.trans hF, (hk _ (Nat.le_refl _) (lt_of_block h.f)).trans h.f, h.w0⟩
/-- what the calls of a round need -/
theorem BkS.names {w : World} {W : WP} {fo : Obj} {P : List (St × SG)} {us : List Nm} {v : Value} {A : Option Addr} {c : Nat} {i lo : Nat} {wr w' : World} (h : BkS w W fo P us v (.slice A us.length c) i lo wr) (hF : Fr W.g W.q wr w') : StrN w' W.q A us ∧ StrN w' W.g A us := by
  have hg := h.hg
  have hq := h.hq
  have hO : OwnR strK 9 wr (w.heap.size + 1) (.slice A us.length c) us := ⟨h.n, fun _ _ => trivial⟩
  refine ⟨fun k hk => ?_, fun k hk => ?_⟩ <;>
  · obtain ⟨b, e, hb, hl, hc⟩ := strK_read hO k hk
    exact ⟨b, 0, e, by omega, by rw [Nat.zero_add]; exact (World.cell?_of_block (a := ⟨b, k, none⟩) (hF.block b hl (by omega) (by omega))).trans hc⟩
theorem BkS.func {w : World} {W : WP} {fo : Obj} {P : List (St × SG)} {us : List Nm} {v vv : Value} {i lo : Nat} {wr w' : World} (h : BkS w W fo P us v vv i lo wr) (hF : Fr W.g W.q wr w') : w'.heap[w.heap.size]? = some fo :=
  (hF.block _ (lt_of_block h.f) (by have := h.hg; omega) (by have := h.hq; omega)).trans h.f
theorem BkS.params {w : World} {W : WP} {fo : Obj} {P : List (St × SG)} {us : List Nm} {v vv : Value} {i lo : Nat} {wr w' : World} {ps : List Pm} {A : Option Addr} (h : BkS w W fo P us v vv i lo wr) (hF : Fr W.g W.q wr w') (hP : PmsM w (fun b => b ≠ W.g ∧ b ≠ W.q) ps A) : PmsM w' (fun b => b ≠ W.g ∧ b ≠ W.q) ps A :=
  hP.keep fun b hb hl => (h.fr.trans hF).block b hl hb.1 hb.2
/-- the writer while a new block is written -/
theorem BkS.wmk {w : World} {W : WP} {fo : Obj} {P : List (St × SG)} {us : List Nm} {v vv : Value} {i lo i' lo' T : Nat} {wr w4 wk : World} (h : BkS w W fo P us v vv i lo wr) (hF : Fr W.g W.q wr wk) (hk : WrM w4 W i' lo') (hp : PutAt T w4 wk) (hT : wr.heap.size ≤ T) : WrM wk W i' lo' := by
  obtain ⟨i0, l0, h0⟩ := h.w0
  have hg := h.hg
  have hq := h.hq
  have hs := h.fr.size
  exact h0.fr (h.fr.trans hF) ((hp.2.2.2.2 _ (by omega)).trans hk.blk) (hk.src.keep fun b hb => hp.2.2.2.2 b (by omega)) hk.ll
theorem BkS.lt {w : World} {W : WP} {fo : Obj} {P : List (St × SG)} {us : List Nm} {v vv : Value} {i lo : Nat} {wr : World} (h : BkS w W fo P us v vv i lo wr) : ∀ b, v.ownBlock = some b ∨ vv.ownBlock = some b → b < wr.heap.size := by
  intro b hb
  rcases hb with hb | hb
  · exact (h.o.lt b hb).2
  · exact (h.n.lt b hb).2
theorem BkS.sz {w : World} {W : WP} {fo : Obj} {P : List (St × SG)} {us : List Nm} {v vv : Value} {i lo : Nat} {wr : World} (h : BkS w W fo P us v vv i lo wr) : w.heap.size + 1 ≤ wr.heap.size := lt_of_block h.f
theorem BkS.wmf {w : World} {W : WP} {fo : Obj} {P : List (St × SG)} {us : List Nm} {v vv : Value} {i lo i' lo' T : Nat} {wr w4 wk : World} (h : BkS w W fo P us v vv i lo wr) (hF : Fr W.g W.q wr wk) (hk : WrM w4 W i' lo') (hp : Fr T T w4 wk) (hT : wr.heap.size ≤ T) : WrM wk W i' lo' := by
  obtain ⟨i0, l0, h0⟩ := h.w0
  have hg := h.hg
  have hq := h.hq
  have hs := h.fr.size
  have h1 := lt_of_block hk.blk
  exact h0.fr (h.fr.trans hF) ((hp.block _ h1 (by omega) (by omega)).trans hk.blk) (hk.src.keep fun b hb => hp.block b (by have := hk.src.lt; omega) (by omega) (by omega)) hk.ll
/-- some statements more -/
theorem BkS.snocs {w : World} {W : WP} {fo : Obj} {P : List (St × SG)} {us : List Nm} {v v' vv : Value} {i lo : Nat} {wr w5 : World} {S0 : Nat → Prop} {P2 : List (St × SG)} (h : BkS w W fo P us v vv i lo wr) (ha : ∀ p ∈ P2, StM wr S0 p.1 p.2)
    (hS0 : ∀ b, S0 b → w.heap.size + 1 ≤ b ∧ some b ≠ v.ownBlock ∧ some b ≠ vv.ownBlock)
    (hown : w5.ownsRow (w.heap.size + 1) 94 11 v' (P.length + P2.length) (stK.cs P ++ stK.cs P2)) (hgrow : wr.grownBy w5 v.ownBlock)
    (hv : v'.ownBlock = v.ownBlock ∨ ∃ k, v'.ownBlock = some k ∧ wr.heap.size ≤ k) : BkS w W fo (P ++ P2) us v' vv i lo w5 := by
  have hg := h.hg
  have hq := h.hq
  have hov : ∀ b, v.ownBlock = some b → w.heap.size + 1 ≤ b ∧ b < wr.heap.size := fun b hb => h.o.lt b hb
  have hkp : ∀ b, b < wr.heap.size → some b ≠ v.ownBlock → w5.heap[b]? = wr.heap[b]? := fun b hb hn => hgrow.block b hb hn
  have hlow : ∀ b, b < wr.heap.size → b < w.heap.size + 1 → w5.heap[b]? = wr.heap[b]? := fun b hl hb => hkp b hl fun e => by have := (hov b e.symm).1; omega
  have hin : ∀ (s : St) (G : SG) (S : Nat → Prop), (∀ b, S b → w.heap.size + 1 ≤ b ∧ some b ≠ v.ownBlock ∧ some b ≠ vv.ownBlock) → StM wr S s G → StM w5 (fun b => w.heap.size + 1 ≤ b ∧ some b ≠ v'.ownBlock ∧ some b ≠ vv.ownBlock) s G := fun s G S hS hs => by
    have h1 : StM w5 (fun b => S b ∧ b < wr.heap.size) s G := (hs.more fun b hb hl => (⟨hb, hl⟩ : S b ∧ b < wr.heap.size)).keep fun b hb hl => hkp b hl (hS b hb.1).2.1
    refine h1.more fun b hb _ => ⟨(hS b hb.1).1, ?_, (hS b hb.1).2.2⟩
    rcases hv with e | ⟨k, e, hk⟩
    · rw [e]; exact (hS b hb.1).2.1
    · rw [e]
      intro e2
      injection e2 with e2
      have := hb.2
      omega
  have hnv : ∀ b, vv.ownBlock = some b → some b ≠ v.ownBlock := fun b hb e => h.ne b e.symm hb
  have hgn : some W.g ≠ v.ownBlock := fun e => by have := (hov _ e.symm).1; omega
  have hWl := h.wm.src.lt
  have hWg := lt_of_block h.wm.blk
  have hws := h.fr.size
  have hF : Fr W.g W.q w w5 := ⟨hgrow.os.trans h.fr.os, hgrow.tape.trans h.fr.tape, hgrow.output.trans h.fr.output, Nat.le_trans hws hgrow.size, fun b hb n1 n2 => (hlow b (by omega) (by omega)).trans (h.fr.block b hb n1 n2)⟩
  refine ⟨?_, ownsRow_keep h.n fun b hb hl e => hkp b hl (hnv b e), fun b hb e => ?_, fun p hp => ?_, ?_, ?_, (hlow _ (lt_of_block h.f) (by omega)).trans h.f, h.w0⟩
  · rw [show stK.cs (P ++ P2) = stK.cs P ++ stK.cs P2 by simp [RowK.cs, List.flatMap_append], List.length_append]
    exact hown
  · rcases hv with e2 | ⟨k, e2, hk⟩
    · exact h.ne b (e2.symm.trans hb) e
    · rw [e2] at hb
      injection hb with hb
      have := (h.n.lt b e).2
      omega
  · rcases List.mem_append.1 hp with h1 | h1
    · exact hin _ _ _ (fun b hb => hb) (h.inn p h1)
    · exact hin _ _ _ hS0 (ha p h1)
  · obtain ⟨i0, l0, h0⟩ := h.w0
    exact h0.fr hF ((hlow _ hWg (by omega)).trans h.wm.blk) (h.wm.src.keep fun b hb => hlow b (by omega) (by omega)) h.wm.ll
  · exact hF
/-- one statement more -/
theorem BkS.snocS {w : World} {W : WP} {fo : Obj} {P : List (St × SG)} {us : List Nm} {v v' vv : Value} {i lo : Nat} {wr w5 : World} {o : Obj} {S0 : Nat → Prop} {a : St × SG} (h : BkS w W fo P us v vv i lo wr) (ha : StM wr S0 a.1 a.2)
    (hS0 : ∀ b, S0 b → w.heap.size + 1 ≤ b ∧ some b ≠ v.ownBlock ∧ some b ≠ vv.ownBlock)
    (hown : w5.ownsRow (w.heap.size + 1) 94 11 v' (P.length + 1) (stK.cs P ++ stK.cl a)) (hgrow : (wr.alloc o).grownBy w5 v.ownBlock)
    (hv : v'.ownBlock = v.ownBlock ∨ ∃ k, v'.ownBlock = some k ∧ (wr.alloc o).heap.size ≤ k) : BkS w W fo (P ++ [a]) us v' vv i lo w5 := by
  refine h.snocs (P2 := [a]) (S0 := S0) (fun p hp => by rw [List.mem_singleton.1 hp]; exact ha) hS0 (by simpa [RowK.cs] using hown) ⟨hgrow.os, hgrow.tape, hgrow.output, Nat.le_trans (by simp) hgrow.size, fun b hb hn => (hgrow.block b (by simp; omega) hn).trans (Below.heap_alloc wr o b hb)⟩ ?_
  rcases hv with e | ⟨k, e, hk⟩
  · exact .inl e
  · exact .inr ⟨k, e, by simp at hk; omega⟩
theorem BkS.snoc {w : World} {W : WP} {fo : Obj} {P : List (St × SG)} {us : List Nm} {v v' vv : Value} {i lo : Nat} {wr w5 : World} {o : Obj} {N : Nat} {a : St × SG} (h : BkS w W fo P us v vv i lo wr) (ha : StM wr (N ≤ ·) a.1 a.2)
    (hN : ∀ b, v.ownBlock = some b ∨ vv.ownBlock = some b → b < N) (hN2 : w.heap.size + 1 ≤ N)
    (hown : w5.ownsRow (w.heap.size + 1) 94 11 v' (P.length + 1) (stK.cs P ++ stK.cl a)) (hgrow : (wr.alloc o).grownBy w5 v.ownBlock)
    (hv : v'.ownBlock = v.ownBlock ∨ ∃ k, v'.ownBlock = some k ∧ (wr.alloc o).heap.size ≤ k) : BkS w W fo (P ++ [a]) us v' vv i lo w5 :=
  h.snocS (S0 := (N ≤ ·)) ha (fun b hb => ⟨Nat.le_trans hN2 hb, fun e => by have := hN b (.inl e.symm); omega, fun e => by have := hN b (.inr e.symm); omega⟩) hown hgrow hv
/-- one name more -/
theorem BkS.snocN {w : World} {W : WP} {fo : Obj} {P : List (St × SG)} {us : List Nm} {v vv vv' : Value} {i lo : Nat} {wr w5 : World} {o : Obj} {a : Nm} (h : BkS w W fo P us v vv i lo wr)
    (hown : w5.ownsRow (w.heap.size + 1) 9 1 vv' (us.length + 1) (strK.cs us ++ strK.cl a)) (hgrow : (wr.alloc o).grownBy w5 vv.ownBlock)
    (hv : vv'.ownBlock = vv.ownBlock ∨ ∃ k, vv'.ownBlock = some k ∧ (wr.alloc o).heap.size ≤ k) : BkS w W fo P (us ++ [a]) v vv' i lo w5 := by
  have hg := h.hg
  have hq := h.hq
  have hov : ∀ b, vv.ownBlock = some b → w.heap.size + 1 ≤ b ∧ b < wr.heap.size := fun b hb => h.n.lt b hb
  have hkp : ∀ b, b < wr.heap.size → some b ≠ vv.ownBlock → w5.heap[b]? = wr.heap[b]? := fun b hb hn => (hgrow.block b (by simp; omega) hn).trans (Below.heap_alloc wr o b hb)
  have hlow : ∀ b, b < wr.heap.size → b < w.heap.size + 1 → w5.heap[b]? = wr.heap[b]? := fun b hl hb => hkp b hl fun e => by have := (hov b e.symm).1; omega
  have hWl := h.wm.src.lt
  have hWg := lt_of_block h.wm.blk
  have hws := h.fr.size
  have hF : Fr W.g W.q w w5 := ⟨hgrow.os.trans h.fr.os, hgrow.tape.trans h.fr.tape, hgrow.output.trans h.fr.output, Nat.le_trans hws (Nat.le_trans (by simp) hgrow.size), fun b hb n1 n2 => (hlow b (by omega) (by omega)).trans (h.fr.block b hb n1 n2)⟩
  refine ⟨ownsRow_keep h.o fun b hb hl e => hkp b hl (fun e2 => h.ne b e e2.symm), ?_, fun b hb e => ?_, fun p hp => ?_, ?_, hF, (hlow _ (lt_of_block h.f) (by omega)).trans h.f, h.w0⟩
  · rw [strK.cs_snoc, List.length_append]
    exact hown
  · rcases hv with e2 | ⟨k, e2, hk⟩
    · exact h.ne b hb (e2.symm.trans e)
    · rw [e2] at e
      injection e with e
      have := (h.o.lt b hb).2
      simp at hk
      omega
  · have h1 := ((h.inn p hp).more (S' := fun b => (w.heap.size + 1 ≤ b ∧ some b ≠ v.ownBlock ∧ some b ≠ vv.ownBlock) ∧ b < wr.heap.size) fun b hb hl => ⟨hb, hl⟩).keep (w' := w5) fun b hb hl => hkp b hl hb.1.2.2
    refine h1.more fun b hb _ => ⟨hb.1.1, hb.1.2.1, ?_⟩
    rcases hv with e | ⟨k, e, hk⟩
    · rw [e]; exact hb.1.2.2
    · rw [e]
      intro e2
      injection e2 with e2
      have := hb.2
      simp at hk
      omega
  · obtain ⟨i0, l0, h0⟩ := h.w0
    exact h0.fr hF ((hlow _ hWg (by omega)).trans h.wm.blk) (h.wm.src.keep fun b hb => hlow b (by omega) (by omega)) h.wm.ll
end Go.Proofs.Ytlnbmmgbfgmboaa

namespace Go.Proofs.Ytlnbmmgbfgmboaa
open Go.RowKit

/-- as BkS; and no statement of P uses a block of Z -/
structure BkZ (Z : Nat → Prop) (w : World) (W : WP) (fo : Obj) (P : List (St × SG)) (us : List Nm) (v vv : Value) (i lo : Nat) (wr : World) : Prop where
  o : wr.ownsRow (w.heap.size + 1) 94 11 v P.length (stK.cs P)
  n : wr.ownsRow (w.heap.size + 1) 9 1 vv us.length (strK.cs us)
  ne : ∀ b, v.ownBlock = some b → vv.ownBlock ≠ some b
  inn : ∀ p ∈ P, StM wr (fun b => w.heap.size + 1 ≤ b ∧ some b ≠ v.ownBlock ∧ some b ≠ vv.ownBlock ∧ ¬ Z b) p.1 p.2
  wm : WrM wr W i lo
  fr : Fr W.g W.q w wr
  f : wr.heap[w.heap.size]? = some fo
  w0 : ∃ i0 l0, WrM w W i0 l0
theorem BkZ.s {Z : Nat → Prop} {w : World} {W : WP} {fo : Obj} {P : List (St × SG)} {us : List Nm} {v vv : Value} {i lo : Nat} {wr : World} (h : BkZ Z w W fo P us v vv i lo wr) : BkS w W fo P us v vv i lo wr :=
  ⟨h.o, h.n, h.ne, fun p hp => (h.inn p hp).more fun _ hb _ => ⟨hb.1, hb.2.1, hb.2.2.1⟩, h.wm, h.fr, h.f, h.w0⟩
theorem BkS.z {w : World} {W : WP} {fo : Obj} {P : List (St × SG)} {us : List Nm} {v vv : Value} {i lo : Nat} {wr : World} (h : BkS w W fo P us v vv i lo wr) (Z : Nat → Prop) (hZ : ∀ b, Z b → wr.heap.size ≤ b) : BkZ Z w W fo P us v vv i lo wr :=
  ⟨h.o, h.n, h.ne, fun p hp => (h.inn p hp).more fun b hb hl => ⟨hb.1, hb.2.1, hb.2.2, fun hz => by have := hZ b hz; omega⟩, h.wm, h.fr, h.f, h.w0⟩
/-- a block of Z is written -/
theorem BkZ.put {Z : Nat → Prop} {w : World} {W : WP} {fo : Obj} {P : List (St × SG)} {us : List Nm} {v vv : Value} {i lo T : Nat} {wr w' : World} (h : BkZ Z w W fo P us v vv i lo wr) (hp : PutAt T wr w') (hz : Z T) (hT : w.heap.size + 1 ≤ T) (hv : some T ≠ v.ownBlock) (hvv : some T ≠ vv.ownBlock) : BkZ Z w W fo P us v vv i lo w' := by
  have hg := h.s.hg
  have hq := h.s.hq
  have hF : Fr W.g W.q w w' := h.fr.putAt hp (by omega)
  refine ⟨ownsRow_keep h.o fun b _ _ e => hp.2.2.2.2 b (fun e2 => hv (by rw [← e2, e])), ownsRow_keep h.n fun b _ _ e => hp.2.2.2.2 b (fun e2 => hvv (by rw [← e2, e])), h.ne, fun p hpp => (h.inn p hpp).keep fun b hb _ => hp.2.2.2.2 b (fun e => hb.2.2.2 (e ▸ hz)), ?_, hF, (hp.2.2.2.2 _ (by omega)).trans h.f, h.w0⟩
  obtain ⟨i0, l0, h0⟩ := h.w0
  exact h0.fr hF ((hp.2.2.2.2 _ (by omega)).trans h.wm.blk) (h.wm.src.keep fun b hb => hp.2.2.2.2 b (by omega)) h.wm.ll
theorem BkZ.go {Z : Nat → Prop} {w : World} {W : WP} {fo : Obj} {P : List (St × SG)} {us : List Nm} {v vv : Value} {i lo i' lo' : Nat} {wr w' : World} (h : BkZ Z w W fo P us v vv i lo wr) (hF : Fr W.g W.q wr w') (hW : WrM w' W i' lo') : BkZ Z w W fo P us v vv i' lo' w' := by
  have hg := h.s.hg
  have hq := h.s.hq
  have hk : ∀ b, w.heap.size ≤ b → b < wr.heap.size → w'.heap[b]? = wr.heap[b]? := fun b hb hl => hF.block b hl (by omega) (by omega)
  exact ⟨ownsRow_keep h.o fun b hb hl _ => hk b (by omega) hl, ownsRow_keep h.n fun b hb hl _ => hk b (by omega) hl, h.ne, fun p hp => (h.inn p hp).keep fun b hb hl => hk b (by omega) hl, hW, h.fr.trans hF, (hk _ (Nat.le_refl _) (lt_of_block h.f)).trans h.f, h.w0⟩
theorem BkZ.snocs {Z : Nat → Prop} {w : World} {W : WP} {fo : Obj} {P : List (St × SG)} {us : List Nm} {v v' vv : Value} {i lo : Nat} {wr w5 : World} {S0 : Nat → Prop} {P2 : List (St × SG)} (h : BkZ Z w W fo P us v vv i lo wr) (ha : ∀ p ∈ P2, StM wr S0 p.1 p.2)
    (hS0 : ∀ b, S0 b → w.heap.size + 1 ≤ b ∧ some b ≠ v.ownBlock ∧ some b ≠ vv.ownBlock ∧ ¬ Z b)
    (hown : w5.ownsRow (w.heap.size + 1) 94 11 v' (P.length + P2.length) (stK.cs P ++ stK.cs P2)) (hgrow : wr.grownBy w5 v.ownBlock)
    (hv : v'.ownBlock = v.ownBlock ∨ ∃ k, v'.ownBlock = some k ∧ wr.heap.size ≤ k) : BkZ Z w W fo (P ++ P2) us v' vv i lo w5 := by
  have hg := h.s.hg
  have hq := h.s.hq
  have hov : ∀ b, v.ownBlock = some b → w.heap.size + 1 ≤ b ∧ b < wr.heap.size := fun b hb => h.o.lt b hb
  have hkp : ∀ b, b < wr.heap.size → some b ≠ v.ownBlock → w5.heap[b]? = wr.heap[b]? := fun b hb hn => hgrow.block b hb hn
  have hlow : ∀ b, b < wr.heap.size → b < w.heap.size + 1 → w5.heap[b]? = wr.heap[b]? := fun b hl hb => hkp b hl fun e => by have := (hov b e.symm).1; omega
  have hin : ∀ (s : St) (G : SG) (S : Nat → Prop), (∀ b, S b → w.heap.size + 1 ≤ b ∧ some b ≠ v.ownBlock ∧ some b ≠ vv.ownBlock ∧ ¬ Z b) → StM wr S s G → StM w5 (fun b => w.heap.size + 1 ≤ b ∧ some b ≠ v'.ownBlock ∧ some b ≠ vv.ownBlock ∧ ¬ Z b) s G := fun s G S hS hs => by
    have h1 : StM w5 (fun b => S b ∧ b < wr.heap.size) s G := (hs.more fun b hb hl => (⟨hb, hl⟩ : S b ∧ b < wr.heap.size)).keep fun b hb hl => hkp b hl (hS b hb.1).2.1
    refine h1.more fun b hb _ => ⟨(hS b hb.1).1, ?_, (hS b hb.1).2.2⟩
    rcases hv with e | ⟨k, e, hk⟩
    · rw [e]; exact (hS b hb.1).2.1
    · rw [e]
      intro e2
      injection e2 with e2
      have := hb.2
      omega
  have hnv : ∀ b, vv.ownBlock = some b → some b ≠ v.ownBlock := fun b hb e => h.ne b e.symm hb
  have hgn : some W.g ≠ v.ownBlock := fun e => by have := (hov _ e.symm).1; omega
  have hWl := h.wm.src.lt
  have hWg := lt_of_block h.wm.blk
  have hws := h.fr.size
  have hF : Fr W.g W.q w w5 := ⟨hgrow.os.trans h.fr.os, hgrow.tape.trans h.fr.tape, hgrow.output.trans h.fr.output, Nat.le_trans hws hgrow.size, fun b hb n1 n2 => (hlow b (by omega) (by omega)).trans (h.fr.block b hb n1 n2)⟩
  refine ⟨?_, ownsRow_keep h.n fun b hb hl e => hkp b hl (hnv b e), fun b hb e => ?_, fun p hp => ?_, ?_, ?_, (hlow _ (lt_of_block h.f) (by omega)).trans h.f, h.w0⟩
  · rw [show stK.cs (P ++ P2) = stK.cs P ++ stK.cs P2 by simp [RowK.cs, List.flatMap_append], List.length_append]
    exact hown
  · rcases hv with e2 | ⟨k, e2, hk⟩
    · exact h.ne b (e2.symm.trans hb) e
    · rw [e2] at hb
      injection hb with hb
      have := (h.n.lt b e).2
      omega
  · rcases List.mem_append.1 hp with h1 | h1
    · exact hin _ _ _ (fun b hb => hb) (h.inn p h1)
    · exact hin _ _ _ hS0 (ha p h1)
  · obtain ⟨i0, l0, h0⟩ := h.w0
    exact h0.fr hF ((hlow _ hWg (by omega)).trans h.wm.blk) (h.wm.src.keep fun b hb => hlow b (by omega) (by omega)) h.wm.ll
  · exact hF
theorem BkZ.snocS {Z : Nat → Prop} {w : World} {W : WP} {fo : Obj} {P : List (St × SG)} {us : List Nm} {v v' vv : Value} {i lo : Nat} {wr w5 : World} {o : Obj} {S0 : Nat → Prop} {a : St × SG} (h : BkZ Z w W fo P us v vv i lo wr) (ha : StM wr S0 a.1 a.2)
    (hS0 : ∀ b, S0 b → w.heap.size + 1 ≤ b ∧ some b ≠ v.ownBlock ∧ some b ≠ vv.ownBlock ∧ ¬ Z b)
    (hown : w5.ownsRow (w.heap.size + 1) 94 11 v' (P.length + 1) (stK.cs P ++ stK.cl a)) (hgrow : (wr.alloc o).grownBy w5 v.ownBlock)
    (hv : v'.ownBlock = v.ownBlock ∨ ∃ k, v'.ownBlock = some k ∧ (wr.alloc o).heap.size ≤ k) : BkZ Z w W fo (P ++ [a]) us v' vv i lo w5 := by
  refine h.snocs (P2 := [a]) (S0 := S0) (fun p hp => by rw [List.mem_singleton.1 hp]; exact ha) hS0 (by simpa [RowK.cs] using hown) ⟨hgrow.os, hgrow.tape, hgrow.output, Nat.le_trans (by simp) hgrow.size, fun b hb hn => (hgrow.block b (by simp; omega) hn).trans (Below.heap_alloc wr o b hb)⟩ ?_
  rcases hv with e | ⟨k, e, hk⟩
  · exact .inl e
  · exact .inr ⟨k, e, by simp at hk; omega⟩
theorem BkZ.snoc {Z : Nat → Prop} {w : World} {W : WP} {fo : Obj} {P : List (St × SG)} {us : List Nm} {v v' vv : Value} {i lo : Nat} {wr w5 : World} {o : Obj} {N : Nat} {a : St × SG} (h : BkZ Z w W fo P us v vv i lo wr) (ha : StM wr (N ≤ ·) a.1 a.2)
    (hN : ∀ b, v.ownBlock = some b ∨ vv.ownBlock = some b → b < N) (hN2 : w.heap.size + 1 ≤ N) (hNZ : ∀ b, Z b → b < N)
    (hown : w5.ownsRow (w.heap.size + 1) 94 11 v' (P.length + 1) (stK.cs P ++ stK.cl a)) (hgrow : (wr.alloc o).grownBy w5 v.ownBlock)
    (hv : v'.ownBlock = v.ownBlock ∨ ∃ k, v'.ownBlock = some k ∧ (wr.alloc o).heap.size ≤ k) : BkZ Z w W fo (P ++ [a]) us v' vv i lo w5 :=
  h.snocS (S0 := (N ≤ ·)) ha (fun b hb => ⟨Nat.le_trans hN2 hb, fun e => by have := hN b (.inl e.symm); omega, fun e => by have := hN b (.inr e.symm); omega, fun hz => by have := hNZ b hz; omega⟩) hown hgrow hv
/-- a block of eleven cells is written whole -/
theorem all11 {w : World} {T : Nat} {c0 c1 c2 c3 c4 c5 c6 c7 c8 c9 c10 v0 v1 v2 v3 v4 v5 v6 v7 v8 v9 v10 : Value} {t : TypeId} (h : w.heap[T]? = some (.cells #[c0, c1, c2, c3, c4, c5, c6, c7, c8, c9, c10] t (0, 0))) :
    PutAt T w (((((((((((w.setCell ⟨T, 0, none⟩ v0).setCell ⟨T, 1, none⟩ v1).setCell ⟨T, 2, none⟩ v2).setCell ⟨T, 3, none⟩ v3).setCell ⟨T, 4, none⟩ v4).setCell ⟨T, 5, none⟩ v5).setCell ⟨T, 6, none⟩ v6).setCell ⟨T, 7, none⟩ v7).setCell ⟨T, 8, none⟩ v8).setCell ⟨T, 9, none⟩ v9).setCell ⟨T, 10, none⟩ v10) ∧ (((((((((((w.setCell ⟨T, 0, none⟩ v0).setCell ⟨T, 1, none⟩ v1).setCell ⟨T, 2, none⟩ v2).setCell ⟨T, 3, none⟩ v3).setCell ⟨T, 4, none⟩ v4).setCell ⟨T, 5, none⟩ v5).setCell ⟨T, 6, none⟩ v6).setCell ⟨T, 7, none⟩ v7).setCell ⟨T, 8, none⟩ v8).setCell ⟨T, 9, none⟩ v9).setCell ⟨T, 10, none⟩ v10).heap[T]? = some (.cells #[v0, v1, v2, v3, v4, v5, v6, v7, v8, v9, v10] t (0, 0)) := by
  have h1 : (w.setCell ⟨T, 0, none⟩ v0).heap[T]? = some (.cells #[v0, c1, c2, c3, c4, c5, c6, c7, c8, c9, c10] t (0, 0)) := blkset_any 0 v0 h
  have h2 : ((w.setCell ⟨T, 0, none⟩ v0).setCell ⟨T, 1, none⟩ v1).heap[T]? = some (.cells #[v0, v1, c2, c3, c4, c5, c6, c7, c8, c9, c10] t (0, 0)) := blkset_any 1 v1 h1
  have h3 : (((w.setCell ⟨T, 0, none⟩ v0).setCell ⟨T, 1, none⟩ v1).setCell ⟨T, 2, none⟩ v2).heap[T]? = some (.cells #[v0, v1, v2, c3, c4, c5, c6, c7, c8, c9, c10] t (0, 0)) := blkset_any 2 v2 h2
  have h4 : ((((w.setCell ⟨T, 0, none⟩ v0).setCell ⟨T, 1, none⟩ v1).setCell ⟨T, 2, none⟩ v2).setCell ⟨T, 3, none⟩ v3).heap[T]? = some (.cells #[v0, v1, v2, v3, c4, c5, c6, c7, c8, c9, c10] t (0, 0)) := blkset_any 3 v3 h3
  have h5 : (((((w.setCell ⟨T, 0, none⟩ v0).setCell ⟨T, 1, none⟩ v1).setCell ⟨T, 2, none⟩ v2).setCell ⟨T, 3, none⟩ v3).setCell ⟨T, 4, none⟩ v4).heap[T]? = some (.cells #[v0, v1, v2, v3, v4, c5, c6, c7, c8, c9, c10] t (0, 0)) := blkset_any 4 v4 h4
  have h6 : ((((((w.setCell ⟨T, 0, none⟩ v0).setCell ⟨T, 1, none⟩ v1).setCell ⟨T, 2, none⟩ v2).setCell ⟨T, 3, none⟩ v3).setCell ⟨T, 4, none⟩ v4).setCell ⟨T, 5, none⟩ v5).heap[T]? = some (.cells #[v0, v1, v2, v3, v4, v5, c6, c7, c8, c9, c10] t (0, 0)) := blkset_any 5 v5 h5
  have h7 : (((((((w.setCell ⟨T, 0, none⟩ v0).setCell ⟨T, 1, none⟩ v1).setCell ⟨T, 2, none⟩ v2).setCell ⟨T, 3, none⟩ v3).setCell ⟨T, 4, none⟩ v4).setCell ⟨T, 5, none⟩ v5).setCell ⟨T, 6, none⟩ v6).heap[T]? = some (.cells #[v0, v1, v2, v3, v4, v5, v6, c7, c8, c9, c10] t (0, 0)) := blkset_any 6 v6 h6
  have h8 : ((((((((w.setCell ⟨T, 0, none⟩ v0).setCell ⟨T, 1, none⟩ v1).setCell ⟨T, 2, none⟩ v2).setCell ⟨T, 3, none⟩ v3).setCell ⟨T, 4, none⟩ v4).setCell ⟨T, 5, none⟩ v5).setCell ⟨T, 6, none⟩ v6).setCell ⟨T, 7, none⟩ v7).heap[T]? = some (.cells #[v0, v1, v2, v3, v4, v5, v6, v7, c8, c9, c10] t (0, 0)) := blkset_any 7 v7 h7
  have h9 : (((((((((w.setCell ⟨T, 0, none⟩ v0).setCell ⟨T, 1, none⟩ v1).setCell ⟨T, 2, none⟩ v2).setCell ⟨T, 3, none⟩ v3).setCell ⟨T, 4, none⟩ v4).setCell ⟨T, 5, none⟩ v5).setCell ⟨T, 6, none⟩ v6).setCell ⟨T, 7, none⟩ v7).setCell ⟨T, 8, none⟩ v8).heap[T]? = some (.cells #[v0, v1, v2, v3, v4, v5, v6, v7, v8, c9, c10] t (0, 0)) := blkset_any 8 v8 h8
  have h10 : ((((((((((w.setCell ⟨T, 0, none⟩ v0).setCell ⟨T, 1, none⟩ v1).setCell ⟨T, 2, none⟩ v2).setCell ⟨T, 3, none⟩ v3).setCell ⟨T, 4, none⟩ v4).setCell ⟨T, 5, none⟩ v5).setCell ⟨T, 6, none⟩ v6).setCell ⟨T, 7, none⟩ v7).setCell ⟨T, 8, none⟩ v8).setCell ⟨T, 9, none⟩ v9).heap[T]? = some (.cells #[v0, v1, v2, v3, v4, v5, v6, v7, v8, v9, c10] t (0, 0)) := blkset_any 9 v9 h9
  have h11 : (((((((((((w.setCell ⟨T, 0, none⟩ v0).setCell ⟨T, 1, none⟩ v1).setCell ⟨T, 2, none⟩ v2).setCell ⟨T, 3, none⟩ v3).setCell ⟨T, 4, none⟩ v4).setCell ⟨T, 5, none⟩ v5).setCell ⟨T, 6, none⟩ v6).setCell ⟨T, 7, none⟩ v7).setCell ⟨T, 8, none⟩ v8).setCell ⟨T, 9, none⟩ v9).setCell ⟨T, 10, none⟩ v10).heap[T]? = some (.cells #[v0, v1, v2, v3, v4, v5, v6, v7, v8, v9, v10] t (0, 0)) := blkset_any 10 v10 h10
  exact ⟨((((((((((((PutAt.refl T w).set 0 v0).set 1 v1).set 2 v2).set 3 v3).set 4 v4).set 5 v5).set 6 v6).set 7 v7).set 8 v8).set 9 v9).set 10 v10), h11⟩
end Go.Proofs.Ytlnbmmgbfgmboaa

namespace Go.Proofs.Ytlnbmmgbfgmboaa
open Go.RowKit

/-- what block leaves -/
def WbP (w : World) (W : WP) (ps : List Pm) (d left : Nat) (vs : List Nm) (e : Ending) (w' : World) : Prop :=
  ∃ (l : List St) (P : List (St × SG)) (A : Option Addr) (c i' lo : Nat) (us : List Nm), l = P.map (·.1) ∧ e = .returned (.slice A l.length c) ∧ BlW W.ms W.fs ps d vs left lo l us ∧ StsM w' (w.heap.size ≤ ·) l A ∧ OwnR stK 94 w' w.heap.size (.slice A l.length c) P ∧ WrM w' W i' lo ∧ Fr W.g W.q w w'
theorem WbP.done {w w' : World} {W : WP} {ps : List Pm} {d left i' lo : Nat} {vs us : List Nm} {fo : Obj} {P : List (St × SG)} {A : Option Addr} {c : Nat} {vv : Value} (h : BkS w W fo P us (.slice A P.length c) vv i' lo w') (hB : BlW W.ms W.fs ps d vs left lo (P.map (·.1)) us) : WbP w W ps d left vs (.returned (.slice A P.length c)) w' := by
  have hO : OwnR stK 94 w' w.heap.size (.slice A P.length c) P := OwnR.low ⟨h.o, fun p hp => (h.inn p hp).more fun b hb _ => ⟨hb.1, hb.2.1⟩⟩ (by omega)
  exact ⟨P.map (·.1), P, A, c, i', lo, us, rfl, by rw [List.length_map], hB, stsM_of_own hO, by rw [List.length_map]; exact hO, h.wm, h.fr⟩
theorem strN_add {w : World} {g : Nat} {A : Option Addr} {vs : List Nm} (h : StrN w g A vs) (hv : 0 < vs.length) : ∃ ad, A = some ad ∧ ∀ j u, (strK.cs vs)[j]? = some u → w.cell? (ad.add j) = some u := by
  obtain ⟨b, off, e, -, -⟩ := h 0 hv
  refine ⟨_, e, fun j u hu => ?_⟩
  have hj : j < vs.length := by
    have := (List.getElem?_eq_some_iff.1 hu).1
    rw [strK.cs_len] at this
    simpa [strK] using this
  obtain ⟨b', off', e', -, hc⟩ := h j hj
  rw [e] at e'
  injection e' with e'
  injection e' with e1 e2
  subst e1
  subst e2
  have hr := strK.cs_at vs j 0 hj (by show 0 < 1; omega)
  rw [show j * strK.sz + 0 = j by show j * 1 + 0 = j; omega] at hr
  rw [hr] at hu
  rw [Go.WideShapes.add_plain, hc]
  exact hu
/-- the rows at the loop's begin -/
theorem bkS_start {w w5 : World} {W : WP} {i left : Nat} {fo : Obj} {vs : List Nm} {g cap : Nat} (hW : WrM w W i left) (h : w5.ownsRow (w.heap.size + 1) 9 1 (.slice (some ⟨g, 0, none⟩) vs.length cap) vs.length (strK.cs vs))
    (hf : (w.alloc fo).heap[w.heap.size]? = some fo) (hgrow : ((w.alloc fo).alloc (.cells #[] 9)).grownBy w5 (some (w.heap.size + 1))) : BkS w W fo [] vs (.slice none 0 0) (.slice (some ⟨g, 0, none⟩) vs.length cap) i left w5 := by
  have hk : ∀ b, b < w.heap.size → w5.heap[b]? = w.heap[b]? := fun b hb => (hgrow.block b (by simp; omega) (fun e => by injection e with e; omega)).trans ((Below.heap_alloc _ _ b (by simp; omega)).trans (Below.heap_alloc w fo b hb))
  refine ⟨World.ownsRow_nil _ _ _ _, h, fun b hb => (by cases hb), fun p hp => absurd hp (by simp), hW.keep hk, ⟨hgrow.os, hgrow.tape, hgrow.output, Nat.le_trans (by simp; omega) hgrow.size, fun b hb _ _ => hk b hb⟩, ?_, ⟨i, left, hW⟩⟩
  exact (hgrow.block _ (by simp; omega) (fun e => by injection e with e; omega)).trans ((Below.heap_alloc _ _ _ (by simp)).trans hf)
/-- a new statement of kind 1 -/
structure VarP (W : WP) (wr : World) (lo i4 : Nat) (ca cb : UInt8) (E : Ex) (fo fx : Int) (fname : List UInt8) (fA : Option Addr) (fl fc : Nat) (wx : World) : Prop where
  wm : WrM wx W i4 lo
  fr : Fr W.g W.q wr wx
  t : wx.heap[wr.heap.size]? = some (.cells #[.int .i64 1, .string ⟨#[118, ca, cb]⟩, .int .i64 fo, .int .i64 fx, .string ⟨fname.toArray⟩, .slice fA fl fc, .string ⟨#[]⟩, .slice none 0 0, .slice none 0 0, .slice none 0 0, .slice none 0 0] 94 (0, 0))
  e : ExM wx (wr.heap.size + 1 ≤ ·) E ⟨fo, fx, fname, fA, fl, fc⟩
theorem VarP.alloc {W : WP} {wr wx : World} {lo i4 : Nat} {ca cb : UInt8} {E : Ex} {fo fx : Int} {fname : List UInt8} {fA : Option Addr} {fl fc : Nat} (h : VarP W wr lo i4 ca cb E fo fx fname fA fl fc wx) (o : Obj) : VarP W wr lo i4 ca cb E fo fx fname fA fl fc (wx.alloc o) :=
  ⟨h.wm.alloc o, h.fr.alloc o, heap_alc o h.t, h.e.keep fun b _ hl => Below.heap_alloc wx o b hl⟩
theorem varP_fin {w : World} {W : WP} {f0 : Obj} {P : List (St × SG)} {us : List Nm} {v vv : Value} {i0 lo0 i4 lo s3 : Nat} {wr w4 : World} (ca cb : UInt8) {E : Ex} {fo fx : Int} {fname : List UInt8} {fA : Option Addr} {fl fc : Nat} (h : BkS w W f0 P us v vv i0 lo0 wr) (hF : Fr W.g W.q wr w4) (hW : WrM w4 W i4 lo)
    (hT : w4.heap[wr.heap.size]? = some (.cells #[.int .i64 5, .string ⟨#[]⟩, .int .i64 0, .int .i64 0, .string ⟨#[]⟩, .slice none 0 0, .string ⟨#[]⟩, .slice none 0 0, .slice none 0 0, .slice none 0 0, .slice none 0 0] 94 (0, 0))) (hM : ExM w4 (s3 ≤ ·) E ⟨fo, fx, fname, fA, fl, fc⟩) (h3 : wr.heap.size < s3) :
    VarP W wr lo i4 ca cb E fo fx fname fA fl fc ((((((w4.setCell ⟨wr.heap.size, 0, none⟩ (.int .i64 1)).setCell ⟨wr.heap.size, 2, none⟩ (.int .i64 fo)).setCell ⟨wr.heap.size, 3, none⟩ (.int .i64 fx)).setCell ⟨wr.heap.size, 4, none⟩ (.string ⟨fname.toArray⟩)).setCell ⟨wr.heap.size, 5, none⟩ (.slice fA fl fc)).setCell ⟨wr.heap.size, 1, none⟩ (.string ⟨#[118, ca, cb]⟩)) := by
  have hQ := ((((((PutAt.refl wr.heap.size w4).set 0 (.int .i64 1)).set 2 (.int .i64 fo)).set 3 (.int .i64 fx)).set 4 (.string ⟨fname.toArray⟩)).set 5 (.slice fA fl fc)).set 1 (.string ⟨#[118, ca, cb]⟩)
  have hFk := hF.putAt hQ (Nat.le_refl _)
  refine ⟨h.wmk hFk hW hQ (Nat.le_refl _), hFk, ?_, (hM.keep fun b hb _ => hQ.2.2.2.2 b (by omega)).more fun b hb => by omega⟩
  exact blkset_any 1 _ (blkset_any 5 _ (blkset_any 4 _ (blkset_any 3 _ (blkset_any 2 _ (blkset_any 0 _ hT)))))
/-- a new block of three cells behind a call -/
theorem new_fn {wn w5 : World} {q : Nat} {a b c : Value} {t : TypeId} (hG : (wn.alloc (.cells #[a, b, c] t)).drew.grownBy w5 (some q)) (hq : q < wn.heap.size) :
    w5.heap[wn.heap.size]? = some (.cells #[a, b, c] t (0, 0)) ∧ w5.cell? ⟨wn.heap.size, 0, none⟩ = some a ∧ w5.cell? ⟨wn.heap.size, 1, none⟩ = some b ∧ w5.cell? ⟨wn.heap.size, 2, none⟩ = some c ∧ ∀ j, w5.frozen? ⟨wn.heap.size, j, none⟩ = false := by
  have h : w5.heap[wn.heap.size]? = some (.cells #[a, b, c] t (0, 0)) := (hG.block wn.heap.size (show wn.heap.size < (wn.alloc (.cells #[a, b, c] t)).heap.size by simp) (fun e => by injection e with e; omega)).trans (heap_alloc_new wn (.cells #[a, b, c] t))
  obtain ⟨x0, x1, x2⟩ := mblk3 h
  exact ⟨h, x0, x1, x2, fun j => frozen_of_row w5 _ j _ _ h⟩
/-- a new statement of kind K, and the called function's row in block X -/
structure CalP (W : WP) (wr : World) (lo i4 : Nat) (K : Int) (gj : Hd) (gA gB : Option Addr) (gc gbn gbc : Nat) (X : Nat) (wx : World) : Prop where
  wm : WrM wx W i4 lo
  fr : Fr W.g W.q wr wx
  t : wx.heap[wr.heap.size]? = some (.cells #[.int .i64 K, .string ⟨#[]⟩, .int .i64 0, .int .i64 0, .string ⟨#[]⟩, .slice none 0 0, .string ⟨#[]⟩, .slice none 0 0, .slice none 0 0, .slice none 0 0, .slice none 0 0] 94 (0, 0))
  x : wx.heap[X]? = some (.cells #[.string ⟨gj.name.toArray⟩, .slice gA gj.ps.length gc, .slice gB gbn gbc] 70 (0, 0))
  hx : wr.heap.size < X
theorem calP_new {W : WP} {wr w5 : World} {lo i4 : Nat} {K : Int} {gj : Hd} {gA gB : Option Addr} {gc gbn gbc : Nat} (hW : WrM w5 W i4 lo) (hF : Fr W.g W.q wr w5)
    (hT : w5.heap[wr.heap.size]? = some (.cells #[.int .i64 K, .string ⟨#[]⟩, .int .i64 0, .int .i64 0, .string ⟨#[]⟩, .slice none 0 0, .string ⟨#[]⟩, .slice none 0 0, .slice none 0 0, .slice none 0 0, .slice none 0 0] 94 (0, 0))) :
    CalP W wr lo i4 K gj gA gB gc gbn gbc w5.heap.size (w5.alloc (.cells #[.string ⟨gj.name.toArray⟩, .slice gA gj.ps.length gc, .slice gB gbn gbc] 70)) :=
  ⟨hW.alloc _, hF.alloc _, heap_alc _ hT, heap_alloc_new w5 _, lt_of_block hT⟩
theorem calP_set {w : World} {W : WP} {f0 : Obj} {P : List (St × SG)} {us : List Nm} {v vv : Value} {i0 lo0 X : Nat} {wr w5 : World} {lo i4 : Nat} {K : Int} {gj : Hd} {gA gB : Option Addr} {gc gbn gbc : Nat} (h : BkS w W f0 P us v vv i0 lo0 wr) (hW : WrM w5 W i4 lo) (hF : Fr W.g W.q wr w5)
    (hT : w5.heap[wr.heap.size]? = some (.cells #[.int .i64 K, .string ⟨#[]⟩, .int .i64 0, .int .i64 0, .string ⟨#[]⟩, .slice none 0 0, .string ⟨#[]⟩, .slice none 0 0, .slice none 0 0, .slice none 0 0, .slice none 0 0] 94 (0, 0)))
    (hX : w5.heap[X]? = some (.cells #[.string ⟨#[]⟩, .slice none 0 0, .slice none 0 0] 70 (0, 0))) (hx : wr.heap.size < X) :
    CalP W wr lo i4 K gj gA gB gc gbn gbc X (((w5.setCell ⟨X, 0, none⟩ (.string ⟨gj.name.toArray⟩)).setCell ⟨X, 1, none⟩ (.slice gA gj.ps.length gc)).setCell ⟨X, 2, none⟩ (.slice gB gbn gbc)) := by
  have hQ := (((PutAt.refl X w5).set 0 (.string ⟨gj.name.toArray⟩)).set 1 (.slice gA gj.ps.length gc)).set 2 (.slice gB gbn gbc)
  have hFk := hF.putAt hQ (by omega)
  exact ⟨h.wmk hFk hW hQ (by omega), hFk, (hQ.2.2.2.2 _ (by omega)).trans hT, blkset_any 2 _ (blkset_any 1 _ (blkset_any 0 _ hX)), hx⟩
theorem own_add {w : World} {B sz n c : Nat} {t : TypeId} {A : Option Addr} {cs : List Value} (h : w.ownsRow B t sz (.slice A n c) n cs) (hn : 0 < n) : ∃ ad, A = some ad ∧ ∀ j u, cs[j]? = some u → w.cell? (ad.add j) = some u := by
  rcases h.2 with ⟨_, h0⟩ | ⟨g, cap, cur, e, _⟩
  · omega
  · injection e with e1 _ e3
    subst e1 e3
    refine ⟨_, rfl, fun j u hj => ?_⟩
    rw [Go.WideShapes.add_plain, Nat.zero_add]
    exact (World.ownsRow.cellAt h j (by have h1 := (List.getElem?_eq_some_iff.1 hj).1; have h2 : cs.length = n * sz := h.1; rw [← h2]; exact h1)).trans hj
/-- the loop -/
def BkL (w : World) (W : WP) (ps : List Pm) (fo : Obj) (d left most : Nat) (vs : List Nm) (vv v n : Value) (wr : World) : Prop :=
  ∃ (k : Nat) (P : List (St × SG)) (us : List Nm) (i lo : Nat), n = .int .i64 k ∧ k ≤ most ∧ us.length + lo ≤ 1000 ∧ lo ≤ left ∧ BlW W.ms W.fs ps d vs left lo (P.map (·.1)) us ∧ BkS w W fo P us v vv i lo wr

end Go.Proofs.Ytlnbmmgbfgmboaa

namespace Go.Proofs.Ytlnbmmgbfgmboaa
open Go.RowKit

/-- the slice at A holds the numbers xs, which fit -/
def IntR (w : World) (A : Option Addr) (xs : List Int) : Prop :=
  ∀ i (h : i < xs.length), ∃ b off, A = some ⟨b, off, none⟩ ∧ w.cell? ⟨b, off + i, none⟩ = some (.int .i64 xs[i]) ∧ -9223372036854775808 ≤ xs[i] ∧ xs[i] ≤ 9223372036854775807
theorem IntR.later {w w' : World} {A : Option Addr} {xs : List Int} (h : IntR w A xs) (hb : Below w.heap.size w w') : IntR w' A xs := by
  intro i hi
  obtain ⟨b, off, e, hc, r⟩ := h i hi
  exact ⟨b, off, e, cell_later hb hc, r⟩
end Go.Proofs.Ytlnbmmgbfgmboaa

namespace Go.Proofs.Ytlnbmmgbfgmboaa
open Go.RowKit

theorem IntR.take {w : World} {A : Option Addr} {xs : List Int} (h : IntR w A xs) (n : Nat) : IntR w A (xs.take n) := fun i hi => by
  have h1 : i < xs.length := by simp at hi; omega
  obtain ⟨b, off, e, h2, r⟩ := h i h1
  exact ⟨b, off, e, by simpa using h2, by simpa using r⟩
set_option maxHeartbeats 1000000 in
theorem cutN_any (n : Nat) (hn : n ≤ 1000000) (xs : List Int) (A : Option Addr) (cap : Nat) (w : World) (hR : IntR w A xs) (hc : xs.length ≤ cap) (hm : xs.length ≤ 9223372036854775807) :
    Calls Try.prog 15 #[.slice A xs.length cap, .int .i64 (n : Int)] w fun e w' => e = .returned (.slice A (xs.take n).length cap) ∧ w = w' := by
  by_cases h : n < xs.length
  · obtain ⟨b, off, rfl, -⟩ := hR 0 (by omega)
    have HL : Hid ((xs.take n).length = n) := by show _ = _; simp; omega
    have hcap : n ≤ cap := by omega
    clear hR
    go_enter Try.func15, Try.ntmps15
    go_wp2
    go_ret
    exact ⟨by rw [HL.out]; rfl, rfl⟩
  · have HL : Hid ((xs.take n).length = xs.length) := by show _ = _; simp; omega
    clear hR
    go_enter Try.func15, Try.ntmps15
    go_wp2
    go_ret
    exact ⟨by rw [HL.out]; rfl, rfl⟩
/-- a new Source over a list that came in -/
theorem new_src {w : World} {A : Option Addr} {xs : List Int} {cap : Nat} (hR : IntR w A xs) (hx : xs.length ≤ 1000) (Z N : Obj) :
    Src (((w.alloc Z).alloc (.cells #[.slice A xs.length cap, .int .i64 0] 39)).alloc N) (w.heap.size + 1) xs 0 := by
  have hk : ∀ b, b < w.heap.size → (((w.alloc Z).alloc (.cells #[.slice A xs.length cap, .int .i64 0] 39)).alloc N).heap[b]? = w.heap[b]? := fun b hb =>
    (Below.heap_alloc _ _ b (by simp; omega)).trans ((Below.heap_alloc _ _ b (by simp; omega)).trans (Below.heap_alloc w Z b hb))
  refine ⟨A, cap, ?_, by omega, hx, fun k hkk => ?_⟩
  · refine (Below.heap_alloc _ _ _ (by simp)).trans ?_
    have := heap_alloc_new (w.alloc Z) (.cells #[.slice A xs.length cap, .int .i64 0] 39)
    rw [show (w.alloc Z).heap.size = w.heap.size + 1 by simp] at this
    exact this
  · obtain ⟨b, off, e, hc, r⟩ := hR k hkk
    have hbl : b < w.heap.size := World.block_lt_of_cell? _ _ hc
    exact ⟨b, off, e, by omega, (World.cell?_of_block (hk b hbl)).trans hc, r⟩
end Go.Proofs.Ytlnbmmgbfgmboaa

namespace Go.Proofs.Ytlnbmmgbfgmboaa
open Go.RowKit

theorem StsM.later {w w' : World} {l : List St} {A : Option Addr} (h : StsM w (fun _ => True) l A) (hb : Below w.heap.size w w') : StsM w' (fun _ => True) l A := h.keep fun b _ hl => hb.block b hl
theorem PmsM.later {w w' : World} {l : List Pm} {A : Option Addr} (h : PmsM w (fun _ => True) l A) (hb : Below w.heap.size w w') : PmsM w' (fun _ => True) l A := h.keep fun b _ hl => hb.block b hl
/-- the rows of a program, read only -/
structure PgM (w : World) (p : Pg) (AG AM AF : Option Addr) (H : Nat → FnG) : Prop where
  g : ∀ i (h : i < p.gs.length), ∃ b, AG = some ⟨b, 0, none⟩ ∧ w.cell? ⟨b, i * 2, none⟩ = some (.string ⟨p.gs[i].name.toArray⟩) ∧ w.cell? ⟨b, i * 2 + 1, none⟩ = some (.int .i64 p.gs[i].init)
  m : ∀ i (h : i < p.ms.length), ∃ b, AM = some ⟨b, 0, none⟩ ∧ w.cell? ⟨b, i * 3, none⟩ = some (.string ⟨p.ms[i].name.toArray⟩) ∧ w.cell? ⟨b, i * 3 + 1, none⟩ = some (.bool p.ms[i].re) ∧ w.cell? ⟨b, i * 3 + 2, none⟩ = some (.int .i64 (p.ms[i].size : Int))
  f : ∀ i (h : i < p.fs.length), ∃ b, AF = some ⟨b, 0, none⟩ ∧ w.cell? ⟨b, i * 3, none⟩ = some (.string ⟨p.fs[i].name.toArray⟩) ∧ w.cell? ⟨b, i * 3 + 1, none⟩ = some (.slice (H i).A p.fs[i].ps.length (H i).c) ∧ w.cell? ⟨b, i * 3 + 2, none⟩ = some (.slice (H i).B p.fs[i].body.length (H i).d)
  ps : ∀ i (h : i < p.fs.length), PmsM w (fun _ => True) p.fs[i].ps (H i).A
  bd : ∀ i (h : i < p.fs.length), StsM w (fun _ => True) p.fs[i].body (H i).B
theorem cl_later {w w' : World} (hb : Below w.heap.size w w') {b o : Nat} {v : Value} (h : w.cell? ⟨b, o, none⟩ = some v) : w'.cell? ⟨b, o, none⟩ = some v :=
  (World.cell?_of_block (a := ⟨b, o, none⟩) (hb.block b (World.block_lt_of_cell? _ _ h))).trans h
theorem PgM.later {w w' : World} {p : Pg} {AG AM AF : Option Addr} {H : Nat → FnG} (h : PgM w p AG AM AF H) (hb : Below w.heap.size w w') : PgM w' p AG AM AF H := by
  refine ⟨fun i hi => ?_, fun i hi => ?_, fun i hi => ?_, fun i hi => (h.ps i hi).later hb, fun i hi => (h.bd i hi).later hb⟩
  · obtain ⟨b, e, h0, h1⟩ := h.g i hi
    exact ⟨b, e, cl_later hb h0, cl_later hb h1⟩
  · obtain ⟨b, e, h0, h1, h2⟩ := h.m i hi
    exact ⟨b, e, cl_later hb h0, cl_later hb h1, cl_later hb h2⟩
  · obtain ⟨b, e, h0, h1, h2⟩ := h.f i hi
    exact ⟨b, e, cl_later hb h0, cl_later hb h1, cl_later hb h2⟩
theorem owns_addr {w : World} {B n c size m : Nat} {t : TypeId} {A : Option Addr} {xs : List Value} (h : w.ownsRow B t size (.slice A n c) m xs) (hm : 0 < m) : ∃ g, A = some ⟨g, 0, none⟩ := by
  rcases h.2 with ⟨_, h0⟩ | ⟨g, cap', cur, e, hg, _⟩
  · omega
  · simp only [Value.slice.injEq] at e
    exact ⟨g, e.1⟩
theorem PgR.read {w : World} {B cG cM cF : Nat} {AG AM AF : Option Addr} {PG : List Gl} {PM : List Mx} {PF : List (Fn × FnG)} (h : PgR w B (.slice AG PG.length cG) (.slice AM PM.length cM) (.slice AF PF.length cF) PG PM PF) :
    ∃ H, PgM w ⟨PG, PM, PF.map (·.1)⟩ AG AM AF H := by
  refine ⟨fun i => if hi : i < PF.length then PF[i].2 else ⟨none, 0, none, 0⟩, fun i hi => ?_, fun i hi => ?_, fun i hi => ?_, fun i hi => ?_, fun i hi => ?_⟩
  · obtain ⟨b, e⟩ := owns_addr h.rG (Nat.lt_of_le_of_lt (Nat.zero_le _) hi)
    subst e
    have q : ∀ j, j < 2 → w.cell? ⟨b, i * 2 + j, none⟩ = (glK.cl PG[i])[j]? := fun j hj => (World.ownsRow.cellAt h.rG _ (by have : i < PG.length := hi; show i * 2 + j < PG.length * 2; omega)).trans (glK.cs_at PG i j hi hj)
    exact ⟨b, rfl, q 0 (by omega), q 1 (by omega)⟩
  · obtain ⟨b, e⟩ := owns_addr h.rM (Nat.lt_of_le_of_lt (Nat.zero_le _) hi)
    subst e
    have q : ∀ j, j < 3 → w.cell? ⟨b, i * 3 + j, none⟩ = (mxK.cl PM[i])[j]? := fun j hj => (World.ownsRow.cellAt h.rM _ (by have : i < PM.length := hi; show i * 3 + j < PM.length * 3; omega)).trans (mxK.cs_at PM i j hi hj)
    exact ⟨b, rfl, q 0 (by omega), q 1 (by omega), q 2 (by omega)⟩
  · have hi' : i < PF.length := by simpa using hi
    obtain ⟨b, e⟩ := owns_addr h.rF (Nat.lt_of_le_of_lt (Nat.zero_le _) hi')
    subst e
    have q : ∀ j, j < 3 → w.cell? ⟨b, i * 3 + j, none⟩ = (fnK.cl PF[i])[j]? := fun j hj => (World.ownsRow.cellAt h.rF _ (by show i * 3 + j < PF.length * 3; omega)).trans (fnK.cs_at PF i j hi' hj)
    simp only [List.getElem_map, dif_pos hi']
    exact ⟨b, rfl, q 0 (by omega), q 1 (by omega), q 2 (by omega)⟩
  · have hi' : i < PF.length := by simpa using hi
    simp only [List.getElem_map, dif_pos hi']
    exact (h.inF PF[i] (List.getElem_mem hi')).1.more fun _ _ _ => trivial
  · have hi' : i < PF.length := by simpa using hi
    simp only [List.getElem_map, dif_pos hi']
    exact (h.inF PF[i] (List.getElem_mem hi')).2.more fun _ _ _ => trivial

end Go.Proofs.Ytlnbmmgbfgmboaa

namespace Go.Proofs.Ytlnbmmgbfgmboaa
open Go.RowKit

/-- the result's block, the Source's, the writer's with its three slices, and the rows behind them -/
structure PwR (w : World) (g : Nat) (ys : List Int) (ar : Bool) (kG kM kF : Value) (vV : Value) (us : List Nm) (vG vM vF : Value) (PG : List Gl) (PM : List Mx) (PF : List (Fn × FnG)) (i : Nat) (wr : World) : Prop where
  r : wr.heap[w.heap.size]? = some (.cells #[.slice none 0 0, .slice none 0 0, .slice none 0 0] 50 (0, 0))
  gb : wr.heap[g]? = some (.cells #[.pointer (some ⟨w.heap.size + 1, 0, none⟩), kG, kM, kF, .int .i64 24, .bool ar] 62 (0, 0))
  s : Src wr (w.heap.size + 1) ys i
  p : PgR wr (g + 1) vG vM vF PG PM PF
  v : wr.ownsRow (g + 1) 9 1 vV us.length (strK.cs us)
  dG : Dj vV vG
  dM : Dj vV vM
  dF : Dj vV vF
  b : Below w.heap.size w wr
  hg : g = w.heap.size + 1 + 1
/-- .. where the three slices are those of the rows -/
abbrev PwS (w : World) (g : Nat) (ys : List Int) (ar : Bool) (vV : Value) (us : List Nm) (vG vM vF : Value) (PG : List Gl) (PM : List Mx) (PF : List (Fn × FnG)) (i : Nat) (wr : World) : Prop := PwR w g ys ar vG vM vF vV us vG vM vF PG PM PF i wr
theorem PwR.next {w wr w' : World} {g : Nat} {ys : List Int} {ar : Bool} {kG kM kF vV vG vM vF : Value} {us : List Nm} {PG : List Gl} {PM : List Mx} {PF : List (Fn × FnG)} {i i' : Nat} (h : PwR w g ys ar kG kM kF vV us vG vM vF PG PM PF i wr) (hs : Src w' (w.heap.size + 1) ys i') (hg : wr.grownBy w' (some (w.heap.size + 1))) : PwR w g ys ar kG kM kF vV us vG vM vF PG PM PF i' w' := by
  have hgl := lt_of_block h.gb
  have hgE := h.hg
  have hk : ∀ b, b < wr.heap.size → b ≠ w.heap.size + 1 → w'.heap[b]? = wr.heap[b]? := fun b hb hn => hg.block b hb fun e => by injection e with e; exact hn e
  exact ⟨(hk _ (by omega) (by omega)).trans h.r, (hk _ hgl (by omega)).trans h.gb, hs, h.p.keep fun b hb hl => hk b hl (by omega), ownsRow_keep h.v fun b hb hl _ => hk b hl (by omega), h.dG, h.dM, h.dF,
    ⟨hg.os.trans h.b.os, hg.tape.trans h.b.tape, hg.output.trans h.b.output, by have := h.b.size; have := hg.size; omega, fun b hb => (hk b (by omega) (by omega)).trans (h.b.block b hb)⟩, h.hg⟩
theorem PwR.drew {w wr : World} {g : Nat} {ys : List Int} {ar : Bool} {kG kM kF vV vG vM vF : Value} {us : List Nm} {PG : List Gl} {PM : List Mx} {PF : List (Fn × FnG)} {i : Nat} (h : PwR w g ys ar kG kM kF vV us vG vM vF PG PM PF i wr) : PwR w g ys ar kG kM kF vV us vG vM vF PG PM PF i wr.drew :=
  h.next (h.s.keep fun _ _ => rfl) (grown_drw (grown_below (Below.refl _ _)))
theorem PwR.alloc {w wr : World} {g : Nat} {ys : List Int} {ar : Bool} {kG kM kF vV vG vM vF : Value} {us : List Nm} {PG : List Gl} {PM : List Mx} {PF : List (Fn × FnG)} {i : Nat} (h : PwR w g ys ar kG kM kF vV us vG vM vF PG PM PF i wr) (o : Obj) : PwR w g ys ar kG kM kF vV us vG vM vF PG PM PF i (wr.alloc o) :=
  h.next (h.s.keep fun b hb => Below.heap_alloc wr o b (by have := lt_of_block h.gb; have := h.hg; omega)) (grown_below ((Below.refl _ _).alloc (Nat.le_refl _) o))
theorem PwR.cells {w wr : World} {g : Nat} {ys : List Int} {ar : Bool} {kG kM kF vV vG vM vF : Value} {us : List Nm} {PG : List Gl} {PM : List Mx} {PF : List (Fn × FnG)} {i : Nat} (h : PwR w g ys ar kG kM kF vV us vG vM vF PG PM PF i wr) :
    wr.cell? ⟨g, 0, none⟩ = some (.pointer (some ⟨w.heap.size + 1, 0, none⟩)) ∧ wr.cell? ⟨g, 1, none⟩ = some kG ∧ wr.cell? ⟨g, 2, none⟩ = some kM ∧ wr.cell? ⟨g, 3, none⟩ = some kF ∧ wr.cell? ⟨g, 5, none⟩ = some (.bool ar) ∧ (∀ j, wr.frozen? ⟨g, j, none⟩ = false) ∧ g < wr.heap.size := by
  have hg := h.gb
  refine ⟨?_, ?_, ?_, ?_, ?_, fun j => by simp [World.frozen?, hg], lt_of_block hg⟩
  · rw [cell_of_row wr _ 0 _ _ _ hg]; rfl
  · rw [cell_of_row wr _ 1 _ _ _ hg]; rfl
  · rw [cell_of_row wr _ 2 _ _ _ hg]; rfl
  · rw [cell_of_row wr _ 3 _ _ _ hg]; rfl
  · rw [cell_of_row wr _ 5 _ _ _ hg]; rfl
theorem PwR.aG {w wr w5 : World} {g : Nat} {ys : List Int} {ar : Bool} {kG kM kF vV vG vM vF v' : Value} {us : List Nm} {PG : List Gl} {PM : List Mx} {PF : List (Fn × FnG)} {i : Nat} (h : PwR w g ys ar kG kM kF vV us vG vM vF PG PM PF i wr) (a : Gl)
    (hown : w5.ownsRow (g + 1) 66 2 v' (PG.length + 1) (glK.cs PG ++ glK.cl a)) (hgrow : wr.grownBy w5 vG.ownBlock) (hv : Grw wr vG v') : PwR w g ys ar kG kM kF vV us v' vM vF (PG ++ [a]) PM PF i w5 := by
  have hgl := lt_of_block h.gb
  have hgE := h.hg
  have hov : ∀ b, vG.ownBlock = some b → g + 1 ≤ b ∧ b < wr.heap.size := fun b hb => h.p.rG.lt b hb
  have hlow : ∀ b, b < g + 1 → w5.heap[b]? = wr.heap[b]? := fun b hb => hgrow.block b (by omega) fun e => by have := (hov b e.symm).1; omega
  refine ⟨(hlow _ (by omega)).trans h.r, (hlow _ (by omega)).trans h.gb, h.s.keep fun b hb => hlow b (by omega), h.p.snocG a hown hgrow hv, h.v.kept hgrow h.dG, (h.dG.symm.grw hv h.v).symm, h.dM, h.dF, ?_, h.hg⟩
  exact ⟨hgrow.os.trans h.b.os, hgrow.tape.trans h.b.tape, hgrow.output.trans h.b.output, by have := h.b.size; have := hgrow.size; omega, fun b hb => (hlow b (by omega)).trans (h.b.block b hb)⟩
theorem PwR.aM {w wr w5 : World} {g : Nat} {ys : List Int} {ar : Bool} {kG kM kF vV vG vM vF v' : Value} {us : List Nm} {PG : List Gl} {PM : List Mx} {PF : List (Fn × FnG)} {i : Nat} (h : PwR w g ys ar kG kM kF vV us vG vM vF PG PM PF i wr) (a : Mx)
    (hown : w5.ownsRow (g + 1) 64 3 v' (PM.length + 1) (mxK.cs PM ++ mxK.cl a)) (hgrow : wr.grownBy w5 vM.ownBlock) (hv : Grw wr vM v') : PwR w g ys ar kG kM kF vV us vG v' vF PG (PM ++ [a]) PF i w5 := by
  have hgl := lt_of_block h.gb
  have hgE := h.hg
  have hov : ∀ b, vM.ownBlock = some b → g + 1 ≤ b ∧ b < wr.heap.size := fun b hb => h.p.rM.lt b hb
  have hlow : ∀ b, b < g + 1 → w5.heap[b]? = wr.heap[b]? := fun b hb => hgrow.block b (by omega) fun e => by have := (hov b e.symm).1; omega
  refine ⟨(hlow _ (by omega)).trans h.r, (hlow _ (by omega)).trans h.gb, h.s.keep fun b hb => hlow b (by omega), h.p.snocM a hown hgrow hv, h.v.kept hgrow h.dM, h.dG, (h.dM.symm.grw hv h.v).symm, h.dF, ?_, h.hg⟩
  exact ⟨hgrow.os.trans h.b.os, hgrow.tape.trans h.b.tape, hgrow.output.trans h.b.output, by have := h.b.size; have := hgrow.size; omega, fun b hb => (hlow b (by omega)).trans (h.b.block b hb)⟩
theorem PwR.aF {w wr w5 : World} {g : Nat} {ys : List Int} {ar : Bool} {kG kM kF vV vG vM vF v' : Value} {us : List Nm} {PG : List Gl} {PM : List Mx} {PF : List (Fn × FnG)} {i : Nat} (h : PwR w g ys ar kG kM kF vV us vG vM vF PG PM PF i wr) (a : Fn × FnG) (ha : fnK.In wr (S3 (g + 1) vG vM vF) a)
    (hown : w5.ownsRow (g + 1) 70 3 v' (PF.length + 1) (fnK.cs PF ++ fnK.cl a)) (hgrow : wr.grownBy w5 vF.ownBlock) (hv : Grw wr vF v') : PwR w g ys ar kG kM kF vV us vG vM v' PG PM (PF ++ [a]) i w5 := by
  have hgl := lt_of_block h.gb
  have hgE := h.hg
  have hov : ∀ b, vF.ownBlock = some b → g + 1 ≤ b ∧ b < wr.heap.size := fun b hb => h.p.rF.lt b hb
  have hlow : ∀ b, b < g + 1 → w5.heap[b]? = wr.heap[b]? := fun b hb => hgrow.block b (by omega) fun e => by have := (hov b e.symm).1; omega
  refine ⟨(hlow _ (by omega)).trans h.r, (hlow _ (by omega)).trans h.gb, h.s.keep fun b hb => hlow b (by omega), h.p.snocF a ha hown hgrow hv, h.v.kept hgrow h.dF, h.dG, h.dM, (h.dF.symm.grw hv h.v).symm, ?_, h.hg⟩
  exact ⟨hgrow.os.trans h.b.os, hgrow.tape.trans h.b.tape, hgrow.output.trans h.b.output, by have := h.b.size; have := hgrow.size; omega, fun b hb => (hlow b (by omega)).trans (h.b.block b hb)⟩
theorem PwR.sG {w wr : World} {g : Nat} {ys : List Int} {ar : Bool} {kG kM kF vV vG vM vF : Value} {us : List Nm} {PG : List Gl} {PM : List Mx} {PF : List (Fn × FnG)} {i : Nat} (h : PwR w g ys ar kG kM kF vV us vG vM vF PG PM PF i wr) (u : Value) : PwR w g ys ar u kM kF vV us vG vM vF PG PM PF i (wr.setCell ⟨g, 1, none⟩ u) := by
  have hgE := h.hg
  have hst := (PutAt.refl g wr).set 1 u
  refine ⟨(hst.2.2.2.2 _ (by omega)).trans h.r, blkset_any 1 u h.gb, h.s.keep fun b hb => hst.2.2.2.2 b (by omega), h.p.putAt hst (by omega), ownsRow_keep h.v fun b hb _ _ => hst.2.2.2.2 b (by omega), h.dG, h.dM, h.dF, ?_, h.hg⟩
  exact ⟨hst.1.trans h.b.os, hst.2.1.trans h.b.tape, hst.2.2.1.trans h.b.output, by have := h.b.size; have := hst.2.2.2.1; omega, fun b hb => (hst.2.2.2.2 b (by omega)).trans (h.b.block b hb)⟩
theorem PwR.sM {w wr : World} {g : Nat} {ys : List Int} {ar : Bool} {kG kM kF vV vG vM vF : Value} {us : List Nm} {PG : List Gl} {PM : List Mx} {PF : List (Fn × FnG)} {i : Nat} (h : PwR w g ys ar kG kM kF vV us vG vM vF PG PM PF i wr) (u : Value) : PwR w g ys ar kG u kF vV us vG vM vF PG PM PF i (wr.setCell ⟨g, 2, none⟩ u) := by
  have hgE := h.hg
  have hst := (PutAt.refl g wr).set 2 u
  refine ⟨(hst.2.2.2.2 _ (by omega)).trans h.r, blkset_any 2 u h.gb, h.s.keep fun b hb => hst.2.2.2.2 b (by omega), h.p.putAt hst (by omega), ownsRow_keep h.v fun b hb _ _ => hst.2.2.2.2 b (by omega), h.dG, h.dM, h.dF, ?_, h.hg⟩
  exact ⟨hst.1.trans h.b.os, hst.2.1.trans h.b.tape, hst.2.2.1.trans h.b.output, by have := h.b.size; have := hst.2.2.2.1; omega, fun b hb => (hst.2.2.2.2 b (by omega)).trans (h.b.block b hb)⟩
theorem PwR.sF {w wr : World} {g : Nat} {ys : List Int} {ar : Bool} {kG kM kF vV vG vM vF : Value} {us : List Nm} {PG : List Gl} {PM : List Mx} {PF : List (Fn × FnG)} {i : Nat} (h : PwR w g ys ar kG kM kF vV us vG vM vF PG PM PF i wr) (u : Value) : PwR w g ys ar kG kM u vV us vG vM vF PG PM PF i (wr.setCell ⟨g, 3, none⟩ u) := by
  have hgE := h.hg
  have hst := (PutAt.refl g wr).set 3 u
  refine ⟨(hst.2.2.2.2 _ (by omega)).trans h.r, blkset_any 3 u h.gb, h.s.keep fun b hb => hst.2.2.2.2 b (by omega), h.p.putAt hst (by omega), ownsRow_keep h.v fun b hb _ _ => hst.2.2.2.2 b (by omega), h.dG, h.dM, h.dF, ?_, h.hg⟩
  exact ⟨hst.1.trans h.b.os, hst.2.1.trans h.b.tape, hst.2.2.1.trans h.b.output, by have := h.b.size; have := hst.2.2.2.1; omega, fun b hb => (hst.2.2.2.2 b (by omega)).trans (h.b.block b hb)⟩
theorem PwR.aV {w wr w5 : World} {g : Nat} {ys : List Int} {ar : Bool} {kG kM kF vV vG vM vF v' : Value} {us : List Nm} {PG : List Gl} {PM : List Mx} {i : Nat} (h : PwR w g ys ar kG kM kF vV us vG vM vF PG PM [] i wr) (a : Nm)
    (hown : w5.ownsRow (g + 1) 9 1 v' (us.length + 1) (strK.cs us ++ strK.cl a)) (hgrow : wr.grownBy w5 vV.ownBlock) (hv : Grw wr vV v') : PwR w g ys ar kG kM kF v' (us ++ [a]) vG vM vF PG PM [] i w5 := by
  have hgl := lt_of_block h.gb
  have hgE := h.hg
  have hov : ∀ b, vV.ownBlock = some b → g + 1 ≤ b ∧ b < wr.heap.size := fun b hb => h.v.lt b hb
  have hlow : ∀ b, b < g + 1 → w5.heap[b]? = wr.heap[b]? := fun b hb => hgrow.block b (by omega) fun e => by have := (hov b e.symm).1; omega
  refine ⟨(hlow _ (by omega)).trans h.r, (hlow _ (by omega)).trans h.gb, h.s.keep fun b hb => hlow b (by omega), ⟨h.p.rG.kept hgrow h.dG.symm, h.p.rM.kept hgrow h.dM.symm, h.p.rF.kept hgrow h.dF.symm, fun p hp => absurd hp (by simp), h.p.gm, h.p.gf, h.p.mf⟩, ?_, h.dG.grw hv h.p.rG, h.dM.grw hv h.p.rM, h.dF.grw hv h.p.rF, ?_, h.hg⟩
  · rw [strK.cs_snoc, List.length_append]
    exact hown
  · exact ⟨hgrow.os.trans h.b.os, hgrow.tape.trans h.b.tape, hgrow.output.trans h.b.output, by have := h.b.size; have := hgrow.size; omega, fun b hb => (hlow b (by omega)).trans (h.b.block b hb)⟩
theorem PwR.snocM {w wr w5 : World} {g : Nat} {ys : List Int} {ar : Bool} {vV vG vM vF v' : Value} {us : List Nm} {PG : List Gl} {PM : List Mx} {PF : List (Fn × FnG)} {i : Nat} (h : PwS w g ys ar vV us vG vM vF PG PM PF i wr) (a : Mx)
    (hown : w5.ownsRow (g + 1) 64 3 v' (PM.length + 1) (mxK.cs PM ++ mxK.cl a)) (hgrow : wr.grownBy w5 vM.ownBlock) (hv : Grw wr vM v') : PwS w g ys ar vV us vG v' vF PG (PM ++ [a]) PF i (w5.setCell ⟨g, 2, none⟩ v') := (h.aM a hown hgrow hv).sM v'
theorem PwR.snocF {w wr w5 : World} {g : Nat} {ys : List Int} {ar : Bool} {vV vG vM vF v' : Value} {us : List Nm} {PG : List Gl} {PM : List Mx} {PF : List (Fn × FnG)} {i : Nat} (h : PwS w g ys ar vV us vG vM vF PG PM PF i wr) (a : Fn × FnG) (ha : fnK.In wr (S3 (g + 1) vG vM vF) a)
    (hown : w5.ownsRow (g + 1) 70 3 v' (PF.length + 1) (fnK.cs PF ++ fnK.cl a)) (hgrow : wr.grownBy w5 vF.ownBlock) (hv : Grw wr vF v') : PwS w g ys ar vV us vG vM v' PG PM (PF ++ [a]) i (w5.setCell ⟨g, 3, none⟩ v') := (h.aF a ha hown hgrow hv).sF v'
theorem PwR.kg {w wr w5 : World} {g : Nat} {ys : List Int} {ar : Bool} {kG kM kF vV vG vM vF v : Value} {us : List Nm} {PG : List Gl} {PM : List Mx} {PF : List (Fn × FnG)} {i n sz : Nat} {t : TypeId} {cs : List Value} (h : PwR w g ys ar kG kM kF vV us vG vM vF PG PM PF i wr) (hv : wr.ownsRow (g + 1) t sz v n cs) (hgrow : wr.grownBy w5 v.ownBlock) :
    w5.cell? ⟨g, 0, none⟩ = some (.pointer (some ⟨w.heap.size + 1, 0, none⟩)) ∧ w5.cell? ⟨g, 1, none⟩ = some kG ∧ w5.cell? ⟨g, 2, none⟩ = some kM ∧ w5.cell? ⟨g, 3, none⟩ = some kF ∧ (∀ j, w5.frozen? ⟨g, j, none⟩ = false) := by
  have hk := (hgrow.block g (lt_of_block h.gb) fun e => by have := (hv.lt _ e.symm).1; omega).trans h.gb
  refine ⟨?_, ?_, ?_, ?_, fun j => by simp [World.frozen?, hk]⟩
  · rw [cell_of_row w5 _ 0 _ _ _ hk]; rfl
  · rw [cell_of_row w5 _ 1 _ _ _ hk]; rfl
  · rw [cell_of_row w5 _ 2 _ _ _ hk]; rfl
  · rw [cell_of_row w5 _ 3 _ _ _ hk]; rfl
theorem PwR.rowG {w wr : World} {g : Nat} {ys : List Int} {ar : Bool} {kG kM kF vV vG vM vF : Value} {us : List Nm} {PG : List Gl} {PM : List Mx} {PF : List (Fn × FnG)} {i : Nat} (h : PwR w g ys ar kG kM kF vV us vG vM vF PG PM PF i wr) : wr.ownsRow (g + 1) 66 2 vG PG.length (glK.cs PG) := h.p.rG
theorem PwR.rowV {w wr : World} {g : Nat} {ys : List Int} {ar : Bool} {kG kM kF vV vG vM vF : Value} {us : List Nm} {PG : List Gl} {PM : List Mx} {PF : List (Fn × FnG)} {i : Nat} (h : PwR w g ys ar kG kM kF vV us vG vM vF PG PM PF i wr) : wr.ownsRow (g + 1) 9 1 vV us.length (strK.cs us) := h.v
/-- a byte as a text of its own -/
theorem conv_chr (ca : UInt8) (w : World) (g c : Nat) (h : NewsAt w g [.int .u8 (ca.toNat : Int)]) : (convert 23 9 (.slice (some ⟨g, 0, none⟩) 1 c)).run Try.prog w = .ok (.string ⟨[ca].toArray⟩) w := by
  refine run_convert_bytes_back (P := Try.prog) w 23 9 5 ⟨g, 0, none⟩ c [ca] Try.underlying23 Try.underlying5 Try.underlying9 ?_
  intro j hj
  refine h j _ ?_
  match j, hj with
  | 0, _ => rfl
theorem chr97 (k : Nat) (h : k < 10) : IntKind.u8.wrap (97 + (k : Int)) = ((UInt8.ofNat (97 + k)).toNat : Int) := by
  have : ∀ k : Fin 10, IntKind.u8.wrap (97 + ((k.val : Nat) : Int)) = ((UInt8.ofNat (97 + k.val)).toNat : Int) := by decide
  exact this ⟨k, h⟩
theorem chr48 (k : Nat) (h : k < 10) : IntKind.u8.wrap (48 + (k : Int)) = ((UInt8.ofNat (48 + k)).toNat : Int) := by
  have : ∀ k : Fin 10, IntKind.u8.wrap (48 + ((k.val : Nat) : Int)) = ((UInt8.ofNat (48 + k.val)).toNat : Int) := by decide
  exact this ⟨k, h⟩
/-- what is allocated anew lies there -/
theorem NewsAt.later {w w' : World} {g : Nat} {cs : List Value} (h : NewsAt w g cs) (hl : w'.heap[g]? = w.heap[g]?) : NewsAt w' g cs := h.keep hl
end Go.Proofs.Ytlnbmmgbfgmboaa

namespace Go.Proofs.Ytlnbmmgbfgmboaa
open Go.RowKit

/-- the piece of the code at a place -/
def nav : List Bool → Code → Code
  | [], c => c
  | false :: p, .seq a _ => nav p a
  | true :: p, .seq _ b => nav p b
  | false :: p, .cond _ a _ => nav p a
  | true :: p, .cond _ _ b => nav p b
  | _ :: p, .block _ b => nav p b
  | _ :: p, .loop b => nav p b
  | _ :: _, c => c
/-- what is known where a round of the loop has drawn the kind of its statement -/
structure RndC (W : WP) (fn : Nm) (ps : List Pm) (pA bA : Option Addr) (pc bn bc N left d most k : Nat) (w wr w3 : World) (vs us : List Nm) (P : List (St × SG)) (oA vA : Option Addr) (oc vc i1 i2 lo m : Nat) : Prop where
  hps : ps.length ≤ 2
  hl : left < N + 1
  hd : d ≤ 1000
  hm : most ≤ 1000
  hn : vs.length + left ≤ 1000
  hql : W.q < w.heap.size
  hgl : W.g < w.heap.size
  hll : left ≤ 24
  hgl' : W.g < wr.heap.size
  hwr : w.heap.size ≤ wr.heap.size
  hk : k ≤ most
  hk0 : 0 < k
  hun : us.length + (lo + 1) ≤ 1000
  hlo : lo + 1 ≤ left
  hPl : P.length + 2 * (lo + 1) ≤ 2 * left
  hm14 : m < 14
  HP : Hid (PmsM w (fun b => b ≠ W.g ∧ b ≠ W.q) ps pA)
  IH3 : Hid (∀ (w : World) (i left : Nat) (vs : List Nm) (A : Option Addr) (c d : Nat) (dd : Int), left < N → d ≤ 1000 → dd = (d : Int) → WrM w W i left → StrN w W.q A vs → StrN w W.g A vs → vs.length + left ≤ 1000 → PmsM w (fun b => b ≠ W.g ∧ b ≠ W.q) ps pA →
    Calls Try.prog 31 #[.pointer (some ⟨W.g, 0, none⟩), .agg #[.string ⟨fn.toArray⟩, .slice pA ps.length pc, .slice bA bn bc], .slice A vs.length c, .int .i64 dd, .int .i64 3] w (WbP w W ps d left vs))
  IH2 : Hid (∀ (w : World) (i left : Nat) (vs : List Nm) (A : Option Addr) (c : Nat), left < N → WrM w W i left → StrN w W.q A vs → StrN w W.g A vs → vs.length + left ≤ 1000 → PmsM w (fun b => b ≠ W.g ∧ b ≠ W.q) ps pA →
    Calls Try.prog 31 #[.pointer (some ⟨W.g, 0, none⟩), .agg #[.string ⟨fn.toArray⟩, .slice pA ps.length pc, .slice bA bn bc], .slice A vs.length c, .int .i64 0, .int .i64 2] w (WbP w W ps 0 left vs))
  HBL : Hid (BlW W.ms W.fs ps d vs left (lo + 1) (P.map (·.1)) us)
  HS : Hid (BkS w W (.cells #[.string ⟨fn.toArray⟩, .slice pA ps.length pc, .slice bA bn bc] 70 (0, 0)) P us (.slice oA P.length oc) (.slice vA us.length vc) i1 (lo + 1) wr)
  HF3 : Hid (Fr W.g W.q wr w3)
  HT3 : Hid (w3.heap[wr.heap.size]? = some (.cells #[.int .i64 5, .string ⟨#[]⟩, .int .i64 0, .int .i64 0, .string ⟨#[]⟩, .slice none 0 0, .string ⟨#[]⟩, .slice none 0 0, .slice none 0 0, .slice none 0 0, .slice none 0 0] 94 (0, 0)))
  HW3 : Hid (WrM w3 W i2 lo)
  HNq : Hid (StrN w3 W.q vA us)
  HNg : Hid (StrN w3 W.g vA us)
  HPm : Hid (PmsM w3 (fun b => b ≠ W.g ∧ b ≠ W.q) ps pA)
  f0 : w3.cell? ⟨w.heap.size, 0, none⟩ = some (.string ⟨fn.toArray⟩)
  f1 : w3.cell? ⟨w.heap.size, 1, none⟩ = some (.slice pA ps.length pc)
  f2 : w3.cell? ⟨w.heap.size, 2, none⟩ = some (.slice bA bn bc)
end Go.Proofs.Ytlnbmmgbfgmboaa

namespace Go.Proofs.Ytlnbmmgbfgmboaa
open Go.RowKit

/-- what Program leaves -/
def MpP (w : World) (e : Ending) (w' : World) : Prop :=
  ∃ (P : Pg) (AG AM AF : Option Addr) (cG cM cF : Nat) (H : Nat → FnG), e = .returned (.agg #[.slice AG P.gs.length cG, .slice AM P.ms.length cM, .slice AF P.fs.length cF]) ∧ PgW P ∧ PgM w' P AG AM AF H ∧ Below w.heap.size w w'
/-- a made mutex -/
def MxOk (PM : List Mx) : Prop := ∀ j (h : j < PM.length), PM[j].name = [UInt8.ofNat (97 + j)] ∧ PM[j].size ≤ 3 ∧ (PM[j].re = true → PM[j].size = 0)
theorem MxOk.snoc {PM : List Mx} (h : MxOk PM) {a : Mx} (h0 : a.name = [UInt8.ofNat (97 + PM.length)]) (h1 : a.size ≤ 3) (h2 : a.re = true → a.size = 0) : MxOk (PM ++ [a]) := by
  intro j hj
  rw [List.getElem_append]
  split
  · exact h j ‹_›
  · have : j = PM.length := by simp at hj; omega
    subst this
    simp only [Nat.sub_self, List.getElem_cons_zero]
    exact ⟨h0, h1, h2⟩
/-- the loop over the mutexes -/
def ML1 (w : World) (g : Nat) (ys : List Int) (ar : Bool) (k : Nat) (wr : World) : Prop :=
  ∃ (PM : List Mx) (AM : Option Addr) (cM i : Nat), PM.length = k ∧ MxOk PM ∧ PwS w g ys ar (.slice none 0 0) [] (.slice none 0 0) (.slice AM PM.length cM) (.slice none 0 0) [] PM [] i wr
theorem hid_nil (B : Nat) (t : TypeId) (w : World) : w.ownsRow B t 1 (.slice none 0 0) ([] : List Nm).length (strK.cs []) := World.ownsRow_nil _ _ _ _
theorem pws_start {w : World} {ys : List Int} {A : Option Addr} {cap : Nat} (hR : IntR w A ys) (hx : ys.length ≤ 1000) :
    PwS w (w.heap.size + 1 + 1) ys false (.slice none 0 0) [] (.slice none 0 0) (.slice none 0 0) (.slice none 0 0) [] [] [] 0 (((w.alloc (.cells #[.slice none 0 0, .slice none 0 0, .slice none 0 0] 50)).alloc (.cells #[.slice A ys.length cap, .int .i64 0] 39)).alloc (.cells #[.pointer (some ⟨w.heap.size + 1, 0, none⟩), .slice none 0 0, .slice none 0 0, .slice none 0 0, .int .i64 24, .bool false] 62)) := by
  have h1 : (w.alloc (.cells #[.slice none 0 0, .slice none 0 0, .slice none 0 0] 50)).heap.size = w.heap.size + 1 := by simp
  have h2 : ((w.alloc (.cells #[.slice none 0 0, .slice none 0 0, .slice none 0 0] 50)).alloc (.cells #[.slice A ys.length cap, .int .i64 0] 39)).heap.size = w.heap.size + 2 := by simp
  refine ⟨(Below.heap_alloc _ _ _ (by omega)).trans ((Below.heap_alloc _ _ _ (by omega)).trans (heap_alloc_new w _)), ?_, new_src hR hx _ _, PgR.nil _ _, hid_nil _ _ _, .inl rfl, .inl rfl, .inl rfl, ((((Below.refl _ _).alloc (Nat.le_refl _) _).alloc (by simp) _).alloc (by simp; omega) _), rfl⟩
  have := heap_alloc_new ((w.alloc (.cells #[.slice none 0 0, .slice none 0 0, .slice none 0 0] 50)).alloc (.cells #[.slice A ys.length cap, .int .i64 0] 39)) (.cells #[.pointer (some ⟨w.heap.size + 1, 0, none⟩), .slice none 0 0, .slice none 0 0, .slice none 0 0, .int .i64 24, .bool false] 62)
  rw [h2] at this
  exact this
/-- the writer's flag is set -/
theorem PwR.arith {w wr : World} {g : Nat} {ys : List Int} {ar : Bool} {vV vG vM vF : Value} {us : List Nm} {PG : List Gl} {PM : List Mx} {PF : List (Fn × FnG)} {i : Nat} (h : PwS w g ys ar vV us vG vM vF PG PM PF i wr) (b : Bool) : PwS w g ys b vV us vG vM vF PG PM PF i (wr.setCell ⟨g, 5, none⟩ (.bool b)) := by
  have hgE := h.hg
  have hst := (PutAt.refl g wr).set 5 (.bool b)
  refine ⟨(hst.2.2.2.2 _ (by omega)).trans h.r, blkset_any 5 _ h.gb, h.s.keep fun b hb => hst.2.2.2.2 b (by omega), h.p.putAt hst (by omega), ownsRow_keep h.v fun b hb _ _ => hst.2.2.2.2 b (by omega), h.dG, h.dM, h.dF, ?_, h.hg⟩
  exact ⟨hst.1.trans h.b.os, hst.2.1.trans h.b.tape, hst.2.2.1.trans h.b.output, by have := h.b.size; have := hst.2.2.2.1; omega, fun b hb => (hst.2.2.2.2 b (by omega)).trans (h.b.block b hb)⟩

theorem inBlock_imp {Q Q' : Exit → Act → World → Prop} (b : Nat) (h : ∀ e a w, Q e a w → Q' e a w) : ∀ e a w, Exit.inBlock b Q e a w → Exit.inBlock b Q' e a w := by
  intro e a w hq
  unfold Exit.inBlock at hq ⊢
  split at hq <;> first | exact h _ _ _ hq | (split at hq <;> simp_all)
/-- nothing but the way on is open -/
def Nrm (R : Act → World → Prop) : Exit → Act → World → Prop
  | .normal, a, w => R a w
  | _, _, _ => False
theorem Nrm.imp {Q : Exit → Act → World → Prop} (e : Exit) (a : Act) (w : World) (h : Nrm (fun a w => Q .normal a w) e a w) : Q e a w := by
  cases e <;> first | exact h | exact h.elim
end Go.Proofs.Ytlnbmmgbfgmboaa
