/- What block of package parse does. -/
import Derived.Test.YtlnbmmgbfgmboaaPp10G
namespace Go.Proofs.Ytlnbmmgbfgmboaa
open Go.RowKit

/-- statements -/
def stK : RowK (St × SG) where
  cl := fun p => [.int .i64 p.1.kind, .string ⟨p.1.name.toArray⟩, .int .i64 p.2.f.op, .int .i64 p.2.f.num, .string ⟨p.2.f.name.toArray⟩, .slice p.2.f.A p.2.f.n p.2.f.c, .string ⟨p.1.rf.name.toArray⟩, .slice p.2.rA p.2.rn p.2.rc, .slice p.2.aA p.1.ars.length p.2.ac, .slice p.2.tA p.1.thn.length p.2.tc, .slice p.2.eA p.1.els.length p.2.ec]
  sz := 11
  hsz := fun _ => rfl
  one := fun p u hu => by
    simp at hu
    rcases hu with rfl | rfl | rfl | rfl | rfl | rfl | rfl | rfl | rfl | rfl | rfl <;> rfl
  In := fun w S p => StM w S p.1 p.2
  keep := fun h hk => h.keep hk
  more := fun h hs => h.more hs
theorem stsM_of_own {t : TypeId} {w : World} {B n c : Nat} {A : Option Addr} {P : List (St × SG)} (h : OwnR stK t w B (.slice A n c) P) : StsM w (B ≤ ·) (P.map (·.1)) A := by
  obtain ⟨A', c', e⟩ := h.form
  simp only [Value.slice.injEq] at e
  obtain ⟨-, rfl, rfl⟩ := e
  refine ⟨fun i => if hi : i < P.length then P[i].2 else ⟨⟨0, 0, [], none, 0, 0⟩, none, 0, 0, none, 0, none, 0, none, 0⟩, fun i hi => ?_, fun i hi => ?_⟩
  · have hi' : i < P.length := by simpa using hi
    obtain ⟨g, hA, hg⟩ : ∃ g, A = some ⟨g, 0, none⟩ ∧ B ≤ g := by
      rcases h.1.2 with ⟨_, h0⟩ | ⟨g, cap', cur, e, hg, _⟩
      · omega
      · simp only [Value.slice.injEq] at e
        exact ⟨g, e.1, hg⟩
    subst hA
    have q : ∀ j, j < 11 → w.cell? ⟨g, 0 + i * 11 + j, none⟩ = (stK.cl P[i])[j]? := fun j hj => by
      rw [Nat.zero_add]
      exact (World.ownsRow.cellAt h.1 _ (by show i * 11 + j < P.length * 11; omega)).trans (stK.cs_at P i j hi' hj)
    simp only [List.getElem_map, dif_pos hi']
    exact ⟨g, 0, rfl, hg, q 0 (by omega), q 1 (by omega), q 2 (by omega), q 3 (by omega), q 4 (by omega), q 5 (by omega), q 6 (by omega), q 7 (by omega), q 8 (by omega), q 9 (by omega), q 10 (by omega)⟩
  · have hi' : i < P.length := by simpa using hi
    simp only [List.getElem_map, dif_pos hi']
    exact (h.2 P[i] (List.getElem_mem hi')).more fun b hb _ => hb.1
theorem Try.infoSt : (Try.prog.info? 94).map (fun i => (i.zero, i.size, i.bytes)) = some (some (.agg #[.int .i64 0, .string ⟨#[]⟩, .int .i64 0, .int .i64 0, .string ⟨#[]⟩, .slice none 0 0, .string ⟨#[]⟩, .slice none 0 0, .slice none 0 0, .slice none 0 0, .slice none 0 0]), 11, 192) := by kernel_rfl
theorem sStmts_bad (ts : List Tk.Tok) (st : Pa.Sg → St × Pa.Sg) (f m e : Nat) (l : List St) : Pa.sStmts ts st f (.bad m e) l = (l, .bad m e) := by
  cases f with
  | zero => rfl
  | succ f => rw [Pa.sStmts, if_pos (show (Pa.Sg.bad m e).live = false from rfl)]
theorem sStmts_end (ts : List Tk.Tok) (st : Pa.Sg → St × Pa.Sg) (f k : Nat) (l : List St) (h : Pa.isS ts (.at_ k) [125] = true) : Pa.sStmts ts st (f + 1) (.at_ k) l = (l, .at_ (k + 1)) := by
  rw [Pa.sStmts, if_neg (show ¬ (Pa.Sg.at_ k).live = false from fun e => by cases e), if_pos h]
  rfl
theorem sStmts_go (ts : List Tk.Tok) (st : Pa.Sg → St × Pa.Sg) (f k : Nat) (l : List St) (h : Pa.isS ts (.at_ k) [125] = false) : Pa.sStmts ts st (f + 1) (.at_ k) l = Pa.sStmts ts st f (st (.at_ k)).2 (l ++ [(st (.at_ k)).1]) := by
  rw [Pa.sStmts, if_neg (show ¬ (Pa.Sg.at_ k).live = false from fun e => by cases e), if_neg (by rw [h]; decide)]
/-- the state before the opening brace -/
def opS (ts : List Tk.Tok) (σ : Pa.Sg) (o : Nat) : Pa.Sg := if Pa.isS ts σ [123] = true then Pa.lm σ o 24 else σ
theorem opS_live {ts : List Tk.Tok} {σ : Pa.Sg} {o : Nat} (h : (Pa.xp ts (opS ts σ o) [123]).live = true) : o < 24 := by
  rcases Nat.lt_or_ge o 24 with h1 | h1
  · exact h1
  · exfalso
    cases hI : Pa.isS ts σ [123] with
    | true =>
      have e : opS ts σ o = Pa.fl σ 3 := by unfold opS; rw [if_pos hI]; exact if_pos h1
      rw [e] at h
      have := (Pa.xp_fws ts (Pa.fl σ 3) [123] h).1
      rw [Pa.fl_dead] at this
      cases this
    | false =>
      have e : opS ts σ o = σ := by unfold opS; rw [if_neg (by rw [hI]; decide)]
      rw [e] at h
      unfold Pa.xp at h
      rw [if_neg (by rw [hI]; decide), Pa.fl_dead] at h
      cases h

end Go.Proofs.Ytlnbmmgbfgmboaa
