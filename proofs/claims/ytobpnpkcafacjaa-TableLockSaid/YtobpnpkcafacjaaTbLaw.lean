/- make and append of tables, for the walk. No statement of the program is proved in this file. -/
import Derived.Test.YtobpnpkcafacjaaTbM
namespace Go.Proofs.Ytobpnpkcafacjaa
open Go.RowKit
set_option maxRecDepth 100000

/-- what is known of a table that a function is given -/
structure TbV (w : World) (A : Option Addr) (c : Nat) (hs : List TH) : Prop where
  r : TbR w A hs
  le : hs.length ≤ c
  nil : A = none → c = 0
theorem TbV.later {w w' : World} {A : Option Addr} {c : Nat} {hs : List TH} (h : TbV w A c hs) (hb : Below w.heap.size w w') : TbV w' A c hs := ⟨h.r.later hb, h.le, h.nil⟩
/-- what a function returns: a table of its own -/
structure TbN (w : World) (B : Nat) (A : Option Addr) (c : Nat) (hs : List TH) : Prop where
  o : TbO w B A c hs
  le : hs.length ≤ c
  nil : A = none → c = 0
theorem TbN.later {w w' : World} {B : Nat} {A : Option Addr} {c : Nat} {hs : List TH} (h : TbN w B A c hs) (hb : Below w.heap.size w w') : TbN w' B A c hs := ⟨h.o.later hb, h.le, h.nil⟩
theorem TbN.v {w : World} {B : Nat} {A : Option Addr} {c : Nat} {hs : List TH} (h : TbN w B A c hs) : TbV w A c hs := ⟨h.o.read, h.le, h.nil⟩
theorem TbN.base {w : World} {B B' : Nat} {A : Option Addr} {c : Nat} {hs : List TH} (h : TbN w B A c hs) (hB : B' ≤ B) : TbN w B' A c hs := ⟨h.o.base hB, h.le, h.nil⟩

theorem made_tb (n : Nat) : (madeCells #[Value.int .i64 0, .int .i64 0] (n * 2)).toList = tCs (List.replicate n (0, 0)) := by
  have hl : (tCs (List.replicate n (0, 0))).length = n * 2 := by rw [tCs_len, List.length_replicate]
  refine List.ext_getElem (by simp [madeCells, hl]) fun i h1 h2 => ?_
  rw [hl] at h2
  obtain ⟨q0, q1⟩ := tCs_at (List.replicate n (0, 0)) (i / 2) (by rw [List.length_replicate]; omega)
  have e1 : (madeCells #[Value.int .i64 0, .int .i64 0] (n * 2)).toList[i] = .int .i64 0 := by
    simp [madeCells]
    rcases (show i % 2 = 0 ∨ i % 2 = 1 by omega) with e | e <;> rw [e] <;> rfl
  rw [e1]
  rcases (show i = i / 2 * 2 ∨ i = i / 2 * 2 + 1 by omega) with e | e
  · rw [← e, List.getElem?_eq_getElem (by omega)] at q0
    injection q0 with q0
    rw [q0]; simp
  · rw [← e, List.getElem?_eq_getElem (by omega)] at q1
    injection q1 with q1
    rw [q1]; simp
theorem wpList_make_tb (w : World) {ops : Array Oper} {rest : List Oper} {o : Oper} {a : Act} {Q : Exit → Act → World → Prop} (hg : o.guard = none) (l c : Operand) (hop : o.op = Op.makeSlice 27 l c)
    (n : Nat) (hl : a.eval l = .int .i64 (n : Int)) (hc : a.eval c = .int .i64 (n : Int)) (hn : n ≤ 1000000) (H : Nat) (hH : w.heap.size = H)
    (hK : ∀ w', TbN w' H (some ⟨H, 0, none⟩) n (List.replicate n (0, 0)) → Below w.heap.size w w' → w'.heap.size = H + 1 → wpList Try.prog ops Q rest (a.put o.dst (.slice (some ⟨H, 0, none⟩) n n)) w') : wpList Try.prog ops Q (o :: rest) a w := by
  refine wpList_plain hg fun K hK' => ?_
  subst hH
  obtain ⟨i, hi, hzz⟩ := Option.map_eq_some_iff.1 Try.infoHd
  simp only [Prod.mk.injEq] at hzz
  obtain ⟨hz, hs, hb⟩ := hzz
  have hr := run_make (P := Try.prog) w 27 30 i _ Try.underlying27 hi hz .i64 .i64 (n : Int) (n : Int) (by omega) (Int.le_refl _) (by rw [hb]; omega) (by omega)
  rw [hs, Int.toNat_natCast] at hr
  unfold Oper.wp
  simp only [execOp, hop, hl, hc]
  simp [hr, Result.andThen]
  have hbl := (Below.refl w.heap.size w).alloc (Nat.le_refl _) (.cells (madeCells #[Value.int .i64 0, .int .i64 0] (n * 2)) 30)
  refine hK' _ _ (hK _ ⟨?_, by simp, by simp⟩ hbl (by simp))
  by_cases h0 : n = 0
  · subst h0; exact .inl rfl
  · refine .inr ⟨by rw [tCs_len], .inr ⟨w.heap.size, n, madeCells #[Value.int .i64 0, .int .i64 0] (n * 2), by simp, Nat.le_refl _, heap_alloc_new w _, by simp, by unfold maxLen; omega, by rw [size_madeCells], ?_⟩⟩
    rw [made_tb, List.take_of_length_le (by rw [tCs_len]; simp)]
theorem wpList_append_tb (w : World) {ops : Array Oper} {rest : List Oper} {o : Oper} {a : Act} {Q : Exit → Act → World → Prop} (hgd : o.guard = none) (s x : Operand)
    (ho : o.op = .call { callee := .builtin .append, args := #[s, x], argTypes := #[27, 27] }) (bo : Option Addr) (hs : a.eval s = .slice bo 0 0) (A : Option Addr) (n c : Nat) (ts : List TH) (hx : a.eval x = .slice A n c) (hn : n = ts.length) (hR : TbV w A c ts) (hle : ts.length ≤ 1000000)
    (hK : ∀ A' c' w', TbN w' w.heap.size A' c' ts → Below w.heap.size w w' → wpList Try.prog ops Q rest (a.put o.dst (.slice A' n c')) w') : wpList Try.prog ops Q (o :: rest) a w := by
  subst hn
  obtain ⟨i, hi, hzz⟩ := Option.map_eq_some_iff.1 Try.infoHd
  simp only [Prod.mk.injEq] at hzz
  obtain ⟨hz, hsz, hb⟩ := hzz
  cases ts with
  | nil =>
    refine wpList_plain hgd fun K hK' => ?_
    have hf : (Builtin.firstCells i.size 0 (.slice A 0 c)).run Try.prog w = .ok #[] w := by
      cases A with
      | none => simp [Builtin.firstCells]
      | some a => exact run_firstCells_some (P := Try.prog) w i.size 0 a 0 c [] (by simp) (by simp)
    have hr : (Builtin.append_ #[27, 27] o.type #[.slice bo 0 0, .slice A 0 c]).run Try.prog w = .ok (.slice bo 0 0) w := by
      cases bo with
      | none => simp [Builtin.append_, run_underlying Try.underlying27, sizeOf, typeInfo, hi, Builtin.lenOf, hf]
      | some b => simp [Builtin.append_, run_underlying Try.underlying27, sizeOf, typeInfo, hi, Builtin.lenOf, hf, storeCells]
    simp only [List.length_nil] at hx
    unfold Oper.wp execOp
    simp only [ho, resolve, invoke, builtin, Sem.run_bind, Sem.run_pure, Result.andThen_ok, List.map_toArray, List.map_cons, List.map_nil, hs, hx, hr]
    exact hK' _ _ (hK bo 0 w ⟨.inl rfl, Nat.le_refl _, fun _ => rfl⟩ (Below.refl _ _))
  | cons t r =>
    obtain ⟨b, off, rfl, -⟩ := hR.r 0 (by simp)
    refine wpList_append_grows w hgd s x 27 ho 30 i _ 2 16 Try.underlying27 hi hz hsz hb (by rfl) (by omega) bo 0 0 [] hs (fun _ => ⟨rfl, rfl⟩) rfl (fun _ _ j u hu => by simp at hu) ⟨b, off, none⟩ (t :: r).length c (tCs (t :: r)) hx (tCs_len _) hR.r.news (tCs_one _) (by simp) (by unfold maxLen; omega) (by omega) ?_
    intro v' w' hown hgr
    rw [List.nil_append, Nat.zero_add] at hown
    obtain ⟨A', c', rfl⟩ := owns_form hown
    have hown' := hown
    rcases hown'.2 with ⟨_, h0⟩ | ⟨g, cap, cur, e, hB, hbk, hnc, _⟩
    · simp at h0
    · injection e with e1 _ e3
      subst e1 e3
      exact hK _ _ _ ⟨.inr hown, hnc, fun e => by cases e⟩ ⟨hgr.os, hgr.tape, hgr.output, hgr.size, fun k hk => hgr.block k hk (by simp)⟩
end Go.Proofs.Ytobpnpkcafacjaa
