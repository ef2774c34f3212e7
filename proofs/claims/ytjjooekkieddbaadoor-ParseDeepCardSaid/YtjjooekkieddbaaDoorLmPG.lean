/- What the plain parser does with the texts of the limits. No statement of the program is proved in this file. -/
import Derived.Test.YtjjooekkieddbaaDoorLxSG
import Derived.Test.YtjjooekkieddbaaDoorRs9G
namespace Go.Proofs.YtjjooekkieddbaaDoor

/-- from place k on, the tokens are T -/
def Rd (ts : List Tk.Tok) (k : Nat) (T : List (Nat × List UInt8 × Nat)) : Prop := ∀ j (h : j < T.length), Ps.kindAt ts (k + j) = (T[j]).1 ∧ Ps.textAt ts (k + j) = (T[j]).2.1 ∧ Ps.numAt ts (k + j) = (T[j]).2.2
theorem Rd.of {ts : List Tk.Tok} {X T Y : List (Nat × List UInt8 × Nat)} (h : ts.map kt = X ++ (T ++ Y)) : Rd ts X.length T := by
  intro j hj
  have e : (ts.map kt)[X.length + j]? = some T[j] := by
    rw [h, List.getElem?_append_right (by omega), Nat.add_sub_cancel_left, List.getElem?_append_left hj, List.getElem?_eq_getElem hj]
  rw [List.getElem?_map] at e
  cases ht : ts[X.length + j]? with
  | none => rw [ht] at e; cases e
  | some t =>
    rw [ht] at e
    have e2 : kt t = T[j] := by simpa using e
    rw [← e2]
    unfold Ps.kindAt Ps.textAt Ps.numAt
    rw [ht]
    exact ⟨rfl, rfl, rfl⟩
theorem isS_yes {ts : List Tk.Tok} {k : Nat} {s : List UInt8} (h1 : Ps.kindAt ts k = Pa.kd s) (h2 : Ps.textAt ts k = s) : Pa.isS ts (.at_ k) s = true := by simp [Pa.isS, h1, h2]
theorem isS_txt {ts : List Tk.Tok} {k : Nat} {s s' : List UInt8} (h2 : Ps.textAt ts k = s') (hne : s' ≠ s) : Pa.isS ts (.at_ k) s = false := by simp [Pa.isS, h2, hne]
theorem kdS_yes {ts : List Tk.Tok} {k K : Nat} (h : Ps.kindAt ts k = K) : Pa.kdS ts (.at_ k) K = true := by simp [Pa.kdS, h]
theorem kdS_no {ts : List Tk.Tok} {k K : Nat} (h : Ps.kindAt ts k ≠ K) : Pa.kdS ts (.at_ k) K = false := by simp [Pa.kdS, h]
theorem xp_yes {ts : List Tk.Tok} {k : Nat} {s : List UInt8} (h : Pa.isS ts (.at_ k) s = true) : Pa.xp ts (.at_ k) s = .at_ (k + 1) := if_pos h
theorem ac_yes {ts : List Tk.Tok} {k : Nat} {s : List UInt8} (h : Pa.isS ts (.at_ k) s = true) : Pa.ac ts (.at_ k) s = .at_ (k + 1) := if_pos h
theorem ac_no {ts : List Tk.Tok} {σ : Pa.Sg} {s : List UInt8} (h : Pa.isS ts σ s = false) : Pa.ac ts σ s = σ := if_neg (by rw [h]; decide)
theorem lm_no {σ : Pa.Sg} {c m : Nat} (h : c < m) : Pa.lm σ c m = σ := if_neg (by omega)
theorem lm_yes {k c m : Nat} (h : m ≤ c) : Pa.lm (.at_ k) c m = .bad k 3 := if_pos h
theorem nm_yes {ts : List Tk.Tok} {k : Nat} (h : Pa.kdS ts (.at_ k) 1 = true) : Pa.nmV ts (.at_ k) = Ps.textAt ts k := if_pos h
theorem prog_in {ts : List Tk.Tok} {k : Nat} (h : Ps.kindAt ts k ≠ 5) : ¬ ((Pa.Sg.at_ k).live = false ∨ Pa.kdS ts (.at_ k) 5 = true) := by
  rintro (h1 | h1)
  · cases h1
  · rw [kdS_no h] at h1; cases h1
theorem prog_end {ts : List Tk.Tok} {k : Nat} (f : Nat) (p : Pg) (h : Ps.kindAt ts k = 5) : Pa.sProg ts (f + 1) (.at_ k) p = (p, .at_ k) := by
  rw [Pa.sProg, if_pos (.inr (kdS_yes h))]

def kVar : Nat × List UInt8 × Nat := (3, [118, 97, 114], 0)
def kMut : Nat × List UInt8 × Nat := (3, [109, 117, 116, 101, 120], 0)
def kRmu : Nat × List UInt8 × Nat := (3, [114, 109, 117, 116, 101, 120], 0)
def kFun : Nat × List UInt8 × Nat := (3, [102, 117, 110, 99], 0)
def kNm (s : List UInt8) : Nat × List UInt8 × Nat := (1, s, 0)
def kSg (c : UInt8) : Nat × List UInt8 × Nat := (4, [c], 0)

/-- a global variable -/
theorem var_step {ts : List Tk.Tok} {k : Nat} {x : List UInt8} (h : Rd ts k [kVar, kNm x, kSg 59]) (f : Nat) (p : Pg) (hl : p.gs.length < 16) :
    ∃ g, Pa.sProg ts (f + 1) (.at_ k) p = Pa.sProg ts f (.at_ (k + 3)) { p with gs := p.gs ++ [g] } := by
  have a0 : Ps.kindAt ts k = 3 := (h 0 (by show 0 < 3; decide)).1
  have a1 : Ps.textAt ts k = [118, 97, 114] := (h 0 (by show 0 < 3; decide)).2.1
  have b0 : Ps.kindAt ts (k + 1) = 1 := (h 1 (by show 1 < 3; decide)).1
  have b1 : Ps.textAt ts (k + 1) = x := (h 1 (by show 1 < 3; decide)).2.1
  have c0 : Ps.kindAt ts (k + 2) = 4 := (h 2 (by show 2 < 3; decide)).1
  have c1 : Ps.textAt ts (k + 2) = [59] := (h 2 (by show 2 < 3; decide)).2.1
  have e1 := isS_yes (s := [118, 97, 114]) a0 a1
  have e2 := kdS_yes b0
  have e3 := isS_yes (s := [59]) c0 c1
  have e4 : Pa.isS ts (.at_ (k + 2)) [61] = false := isS_txt c1 (by decide)
  refine ⟨⟨Pa.nmV ts (.at_ (k + 1)), 0⟩, ?_⟩
  rw [Pa.sProg, if_neg (prog_in (by rw [a0]; decide)), if_pos e1, lm_no hl, ac_yes e1]
  have e5 : Pa.sGlobal ts (.at_ (k + 1)) = (⟨Pa.nmV ts (.at_ (k + 1)), 0⟩, .at_ (k + 3)) := by
    unfold Pa.sGlobal
    rw [tk_yes e2, if_neg (by rw [e4]; decide), xp_yes e3]
  rw [e5]
theorem var_bad {ts : List Tk.Tok} {k : Nat} {x : List UInt8} (h : Rd ts k [kVar, kNm x, kSg 59]) (f : Nat) (p : Pg) (hl : 16 ≤ p.gs.length) : (Pa.sProg ts (f + 1) (.at_ k) p).2 = .bad k 3 := by
  have a0 : Ps.kindAt ts k = 3 := (h 0 (by show 0 < 3; decide)).1
  have a1 : Ps.textAt ts k = [118, 97, 114] := (h 0 (by show 0 < 3; decide)).2.1
  have e1 := isS_yes (s := [118, 97, 114]) a0 a1
  rw [Pa.sProg, if_neg (prog_in (by rw [a0]; decide)), if_pos e1, lm_yes hl]
  rw [show Pa.ac ts (.bad k 3) [118, 97, 114] = .bad k 3 from rfl, Pa.sProg_dead _ _ _ _ (by rw [sGlobal_dead]; rfl)]
  exact sGlobal_dead ts k 3
/-- a mutex -/
theorem mut_eq {ts : List Tk.Tok} {k : Nat} (re : Bool) (e2 : Pa.kdS ts (.at_ k) 1 = true) (e3 : Pa.isS ts (.at_ (k + 1)) [59] = true) (e4 : Pa.isS ts (.at_ (k + 1)) [91] = false) : Pa.sMutex ts re (.at_ k) = (⟨Pa.nmV ts (.at_ k), re, 0⟩, .at_ (k + 2)) := by
  unfold Pa.sMutex
  rw [tk_yes e2, if_neg (fun h => by rw [e4] at h; exact absurd h.2 (by decide)), xp_yes e3]
theorem mut_step {ts : List Tk.Tok} {k : Nat} {x : List UInt8} (h : Rd ts k [kMut, kNm x, kSg 59]) (f : Nat) (p : Pg) (hl : p.ms.length < 12) :
    ∃ g, Pa.sProg ts (f + 1) (.at_ k) p = Pa.sProg ts f (.at_ (k + 3)) { p with ms := p.ms ++ [g] } := by
  have a0 : Ps.kindAt ts k = 3 := (h 0 (by show 0 < 3; decide)).1
  have a1 : Ps.textAt ts k = [109, 117, 116, 101, 120] := (h 0 (by show 0 < 3; decide)).2.1
  have b0 : Ps.kindAt ts (k + 1) = 1 := (h 1 (by show 1 < 3; decide)).1
  have b1 : Ps.textAt ts (k + 1) = x := (h 1 (by show 1 < 3; decide)).2.1
  have c0 : Ps.kindAt ts (k + 2) = 4 := (h 2 (by show 2 < 3; decide)).1
  have c1 : Ps.textAt ts (k + 2) = [59] := (h 2 (by show 2 < 3; decide)).2.1
  have e0 : Pa.isS ts (.at_ k) [118, 97, 114] = false := isS_txt a1 (by decide)
  have e1 := isS_yes (s := [109, 117, 116, 101, 120]) a0 a1
  refine ⟨⟨Pa.nmV ts (.at_ (k + 1)), false, 0⟩, ?_⟩
  rw [Pa.sProg, if_neg (prog_in (by rw [a0]; decide)), if_neg (by rw [e0]; decide), if_pos e1, lm_no hl, ac_yes e1, mut_eq false (kdS_yes b0) (isS_yes (s := [59]) c0 c1) (isS_txt c1 (by decide))]
theorem mut_bad {ts : List Tk.Tok} {k : Nat} {x : List UInt8} (h : Rd ts k [kMut, kNm x, kSg 59]) (f : Nat) (p : Pg) (hl : 12 ≤ p.ms.length) : (Pa.sProg ts (f + 1) (.at_ k) p).2 = .bad k 3 := by
  have a0 : Ps.kindAt ts k = 3 := (h 0 (by show 0 < 3; decide)).1
  have a1 : Ps.textAt ts k = [109, 117, 116, 101, 120] := (h 0 (by show 0 < 3; decide)).2.1
  have e0 : Pa.isS ts (.at_ k) [118, 97, 114] = false := isS_txt a1 (by decide)
  have e1 := isS_yes (s := [109, 117, 116, 101, 120]) a0 a1
  rw [Pa.sProg, if_neg (prog_in (by rw [a0]; decide)), if_neg (by rw [e0]; decide), if_pos e1, lm_yes hl]
  rw [show Pa.ac ts (.bad k 3) [109, 117, 116, 101, 120] = .bad k 3 from rfl, Pa.sProg_dead _ _ _ _ (by rw [sMutex_dead]; rfl)]
  exact sMutex_dead ts false k 3
theorem rmu_step {ts : List Tk.Tok} {k : Nat} {x : List UInt8} (h : Rd ts k [kRmu, kNm x, kSg 59]) (f : Nat) (p : Pg) (hl : p.ms.length < 12) :
    ∃ g, Pa.sProg ts (f + 1) (.at_ k) p = Pa.sProg ts f (.at_ (k + 3)) { p with ms := p.ms ++ [g] } := by
  have a0 : Ps.kindAt ts k = 3 := (h 0 (by show 0 < 3; decide)).1
  have a1 : Ps.textAt ts k = [114, 109, 117, 116, 101, 120] := (h 0 (by show 0 < 3; decide)).2.1
  have b0 : Ps.kindAt ts (k + 1) = 1 := (h 1 (by show 1 < 3; decide)).1
  have b1 : Ps.textAt ts (k + 1) = x := (h 1 (by show 1 < 3; decide)).2.1
  have c0 : Ps.kindAt ts (k + 2) = 4 := (h 2 (by show 2 < 3; decide)).1
  have c1 : Ps.textAt ts (k + 2) = [59] := (h 2 (by show 2 < 3; decide)).2.1
  have e0 : Pa.isS ts (.at_ k) [118, 97, 114] = false := isS_txt a1 (by decide)
  have e0' : Pa.isS ts (.at_ k) [109, 117, 116, 101, 120] = false := isS_txt a1 (by decide)
  have e1 := isS_yes (s := [114, 109, 117, 116, 101, 120]) a0 a1
  refine ⟨⟨Pa.nmV ts (.at_ (k + 1)), true, 0⟩, ?_⟩
  rw [Pa.sProg, if_neg (prog_in (by rw [a0]; decide)), if_neg (by rw [e0]; decide), if_neg (by rw [e0']; decide), if_pos e1, lm_no hl, ac_yes e1, mut_eq true (kdS_yes b0) (isS_yes (s := [59]) c0 c1) (isS_txt c1 (by decide))]
theorem rmu_bad {ts : List Tk.Tok} {k : Nat} {x : List UInt8} (h : Rd ts k [kRmu, kNm x, kSg 59]) (f : Nat) (p : Pg) (hl : 12 ≤ p.ms.length) : (Pa.sProg ts (f + 1) (.at_ k) p).2 = .bad k 3 := by
  have a0 : Ps.kindAt ts k = 3 := (h 0 (by show 0 < 3; decide)).1
  have a1 : Ps.textAt ts k = [114, 109, 117, 116, 101, 120] := (h 0 (by show 0 < 3; decide)).2.1
  have e0 : Pa.isS ts (.at_ k) [118, 97, 114] = false := isS_txt a1 (by decide)
  have e0' : Pa.isS ts (.at_ k) [109, 117, 116, 101, 120] = false := isS_txt a1 (by decide)
  have e1 := isS_yes (s := [114, 109, 117, 116, 101, 120]) a0 a1
  rw [Pa.sProg, if_neg (prog_in (by rw [a0]; decide)), if_neg (by rw [e0]; decide), if_neg (by rw [e0']; decide), if_pos e1, lm_yes hl]
  rw [show Pa.ac ts (.bad k 3) [114, 109, 117, 116, 101, 120] = .bad k 3 from rfl, Pa.sProg_dead _ _ _ _ (by rw [sMutex_dead]; rfl)]
  exact sMutex_dead ts true k 3
/-- an empty block -/
theorem blk_empty {ts : List Tk.Tok} {k : Nat} (h : Rd ts k [kSg 123, kSg 125]) (f o : Nat) (ho : o < 24) : Pa.sBlock ts (f + 1) o (.at_ k) = ([], .at_ (k + 2)) := by
  have a0 : Ps.kindAt ts k = 4 := (h 0 (by show 0 < 2; decide)).1
  have a1 : Ps.textAt ts k = [123] := (h 0 (by show 0 < 2; decide)).2.1
  have b0 : Ps.kindAt ts (k + 1) = 4 := (h 1 (by show 1 < 2; decide)).1
  have b1 : Ps.textAt ts (k + 1) = [125] := (h 1 (by show 1 < 2; decide)).2.1
  have e1 := isS_yes (s := [123]) a0 a1
  have e2 := isS_yes (s := [125]) b0 b1
  rw [Pa.sBlock, if_pos e1, lm_no ho, xp_yes e1]
  exact sStmts_end ts _ ts.length (k + 1) [] e2
/-- the step of a function, where its parts are known -/
theorem fun_go {ts : List Tk.Tok} {k : Nat} (a0 : Ps.kindAt ts k = 3) (a1 : Ps.textAt ts k = [102, 117, 110, 99]) (f : Nat) (p : Pg) (hl : p.fs.length < 16) :
    Pa.sProg ts (f + 1) (.at_ k) p = Pa.sProg ts f (Pa.sFunc ts (.at_ (k + 1))).2 { p with fs := p.fs ++ [(Pa.sFunc ts (.at_ (k + 1))).1] } := by
  have e0 : Pa.isS ts (.at_ k) [118, 97, 114] = false := isS_txt a1 (by decide)
  have e0' : Pa.isS ts (.at_ k) [109, 117, 116, 101, 120] = false := isS_txt a1 (by decide)
  have e0'' : Pa.isS ts (.at_ k) [114, 109, 117, 116, 101, 120] = false := isS_txt a1 (by decide)
  have e1 := isS_yes (s := [102, 117, 110, 99]) a0 a1
  rw [Pa.sProg, if_neg (prog_in (by rw [a0]; decide)), if_neg (by rw [e0]; decide), if_neg (by rw [e0']; decide), if_neg (by rw [e0'']; decide), if_pos e1, lm_no hl, ac_yes e1]
def kF6 (x : List UInt8) : List (Nat × List UInt8 × Nat) := [kFun, kNm x, kSg 40, kSg 41, kSg 123, kSg 125]
theorem fun_step {ts : List Tk.Tok} {k : Nat} {x : List UInt8} (h : Rd ts k (kF6 x)) (f : Nat) (p : Pg) (hl : p.fs.length < 16) :
    ∃ g, Pa.sProg ts (f + 1) (.at_ k) p = Pa.sProg ts f (.at_ (k + 6)) { p with fs := p.fs ++ [g] } := by
  have a0 : Ps.kindAt ts k = 3 := (h 0 (by show 0 < 6; decide)).1
  have a1 : Ps.textAt ts k = [102, 117, 110, 99] := (h 0 (by show 0 < 6; decide)).2.1
  have b0 : Ps.kindAt ts (k + 1) = 1 := (h 1 (by show 1 < 6; decide)).1
  have b1 : Ps.textAt ts (k + 1) = x := (h 1 (by show 1 < 6; decide)).2.1
  have c0 : Ps.kindAt ts (k + 2) = 4 := (h 2 (by show 2 < 6; decide)).1
  have c1 : Ps.textAt ts (k + 2) = [40] := (h 2 (by show 2 < 6; decide)).2.1
  have d0 : Ps.kindAt ts (k + 3) = 4 := (h 3 (by show 3 < 6; decide)).1
  have d1 : Ps.textAt ts (k + 3) = [41] := (h 3 (by show 3 < 6; decide)).2.1
  have hb : Rd ts (k + 4) [kSg 123, kSg 125] := by
    intro j hj
    have hj2 : j < 2 := hj
    have := h (4 + j) (by show 4 + j < 6; omega)
    rw [← Nat.add_assoc] at this
    have hc : j = 0 ∨ j = 1 := by omega
    rcases hc with rfl | rfl <;> exact this
  have e : (Pa.sFunc ts (.at_ (k + 1))).2 = .at_ (k + 6) := by
    show (Pa.sBlock ts 25 0 (Pa.sParams ts (Pa.tk ts (.at_ (k + 1)) 1)).2).2 = _
    have ep : Pa.sParams ts (.at_ (k + 2)) = ([], .at_ (k + 4)) := by
      unfold Pa.sParams
      rw [xp_yes (isS_yes (s := [40]) c0 c1), if_pos (isS_yes (s := [41]) d0 d1)]
      rfl
    rw [tk_yes (kdS_yes b0), ep, blk_empty hb 24 0 (by omega)]
  refine ⟨(Pa.sFunc ts (.at_ (k + 1))).1, ?_⟩
  rw [fun_go a0 a1 f p hl, e]
theorem fun_bad {ts : List Tk.Tok} {k : Nat} {x : List UInt8} (h : Rd ts k (kF6 x)) (f : Nat) (p : Pg) (hl : 16 ≤ p.fs.length) : (Pa.sProg ts (f + 1) (.at_ k) p).2 = .bad k 3 := by
  have a0 : Ps.kindAt ts k = 3 := (h 0 (by show 0 < 6; decide)).1
  have a1 : Ps.textAt ts k = [102, 117, 110, 99] := (h 0 (by show 0 < 6; decide)).2.1
  have e0 : Pa.isS ts (.at_ k) [118, 97, 114] = false := isS_txt a1 (by decide)
  have e0' : Pa.isS ts (.at_ k) [109, 117, 116, 101, 120] = false := isS_txt a1 (by decide)
  have e0'' : Pa.isS ts (.at_ k) [114, 109, 117, 116, 101, 120] = false := isS_txt a1 (by decide)
  have e1 := isS_yes (s := [102, 117, 110, 99]) a0 a1
  rw [Pa.sProg, if_neg (prog_in (by rw [a0]; decide)), if_neg (by rw [e0]; decide), if_neg (by rw [e0']; decide), if_neg (by rw [e0'']; decide), if_pos e1, lm_yes hl]
  rw [show Pa.ac ts (.bad k 3) [102, 117, 110, 99] = .bad k 3 from rfl, Pa.sProg_dead _ _ _ _ (by rw [sFunc_dead]; rfl)]
  exact sFunc_dead ts k 3

/-- pieces one behind another -/
def cat {α : Type} (S : Nat → List α) : Nat → List α
  | 0 => []
  | n + 1 => cat S n ++ S n
theorem cat_len {α : Type} (S : Nat → List α) (m : Nat) (hm : ∀ i, (S i).length = m) (n : Nat) : (cat S n).length = n * m := by
  induction n with
  | zero => simp [cat]
  | succ n ih => rw [cat, List.length_append, ih, hm, Nat.succ_mul]
theorem cat_split {α : Type} (S : Nat → List α) (n i : Nat) (h : i < n) : ∃ Y, cat S n = cat S i ++ (S i ++ Y) := by
  induction n with
  | zero => omega
  | succ n ih =>
    rcases Nat.lt_or_ge i n with h1 | h1
    · obtain ⟨Y, e⟩ := ih h1
      exact ⟨Y ++ S n, by rw [cat, e]; simp⟩
    · have : i = n := by omega
      subst this
      exact ⟨[], by rw [cat]; simp⟩
theorem cat_lx (S : Nat → List UInt8) (D : Nat → List (Nat × List UInt8 × Nat)) (h : ∀ i, LxA (S i) (D i)) (n : Nat) : LxA (cat S n) (cat D n) := by
  induction n with
  | zero => exact LxA.nil
  | succ n ih => exact ih.app (h n)
/-- one declaration after another -/
theorem lim_steps (ts : List Tk.Tok) (m : Nat) (cnt : Pg → Nat) (most n : Nat) (h0 : cnt noPg = 0) (hst : ∀ i p f, i < n → cnt p = i → i < most → ∃ p', cnt p' = i + 1 ∧ Pa.sProg ts (f + 1) (.at_ (i * m)) p = Pa.sProg ts f (.at_ ((i + 1) * m)) p') :
    ∀ i, i ≤ n → i ≤ most → ∀ f, ∃ p, cnt p = i ∧ Pa.sProg ts (f + i) (.at_ 0) noPg = Pa.sProg ts f (.at_ (i * m)) p := by
  intro i
  induction i with
  | zero => intro _ _ f; exact ⟨noPg, h0, by rw [Nat.zero_mul]; rfl⟩
  | succ i ih =>
    intro h1 h2 f
    obtain ⟨p, hp, e⟩ := ih (by omega) (by omega) (f + 1)
    obtain ⟨p', hp', e'⟩ := hst i p f (by omega) hp (by omega)
    exact ⟨p', hp', by rw [show f + (i + 1) = f + 1 + i by omega, e, e']⟩
theorem progV_of {s : List UInt8} {A : List Tk.Tok} {n0 : Nat} (h : Tk.lex s = (A, n0, 0)) : (progV s).2.2 = (Pa.sProg A A.length (.at_ 0) noPg).2.e := by
  unfold progV
  rw [h, if_pos rfl]
  unfold progT
  split
  · rename_i hl
    dsimp only at hl ⊢
    cases hs : (Pa.sProg A A.length (.at_ 0) noPg).2 with
    | at_ k => rfl
    | bad m e => rw [hs] at hl; cases hl
  · rfl
theorem lim_all (S : Nat → List UInt8) (D : Nat → List (Nat × List UInt8 × Nat)) (m : Nat) (cnt : Pg → Nat) (most n : Nat) (hm1 : 1 ≤ m) (hmm : ∀ i, (D i).length = m) (hlx : ∀ i, LxA (S i) (D i)) (hSl : ∀ i, m ≤ (S i).length ∧ (S i).length ≤ 1000) (hn : n ≤ 69) (hmx : m ≤ 10) (h0 : cnt noPg = 0)
    (hst : ∀ ts i p f, Rd ts (i * m) (D i) → cnt p = i → i < most → ∃ p', cnt p' = i + 1 ∧ Pa.sProg ts (f + 1) (.at_ (i * m)) p = Pa.sProg ts f (.at_ ((i + 1) * m)) p')
    (hbad : ∀ ts k i p f, Rd ts k (D i) → most ≤ cnt p → (Pa.sProg ts (f + 1) (.at_ k) p).2 = .bad k 3) :
    (progV (cat S n)).2.2 = if n ≤ most then 0 else 3 := by
  have hT := cat_len D m hmm n
  have hs : ∀ n, n * m ≤ (cat S n).length ∧ (cat S n).length ≤ n * 1000 := by
    intro n
    induction n with
    | zero => simp [cat]
    | succ n ih =>
      have := hSl n
      rw [cat, List.length_append, Nat.succ_mul, Nat.succ_mul]
      omega
  have hnm : n * m ≤ 690 := by
    calc n * m ≤ 69 * 10 := Nat.mul_le_mul hn hmx
      _ = 690 := rfl
  obtain ⟨A, e1, e2⟩ := (cat_lx S D hlx n).lex (by omega) (by have := (hs n).1; omega) (by have := (hs n).2; omega)
  have hA : A.length = n * m := by rw [← hT, ← e1, List.length_map]
  rw [progV_of e2]
  generalize hts : A ++ [(⟨5, [], 0, (cat S n).length⟩ : Tk.Tok)] = ts
  have hk : ts.map kt = cat D n ++ [(5, [], 0)] := by rw [← hts, List.map_append, e1]; rfl
  have hlen : ts.length = n * m + 1 := by rw [← hts, List.length_append, hA]; rfl
  have hn1 : n ≤ n * m := by
    calc n = n * 1 := (Nat.mul_one n).symm
      _ ≤ n * m := Nat.mul_le_mul_left n hm1
  have hrd : ∀ i, i < n → Rd ts (i * m) (D i) := by
    intro i hi
    obtain ⟨Y, e⟩ := cat_split D n i hi
    have := Rd.of (ts := ts) (X := cat D i) (T := D i) (Y := Y ++ [(5, [], 0)]) (by rw [hk, e]; simp)
    rwa [cat_len D m hmm i] at this
  have hend : Ps.kindAt ts (n * m) = 5 := by
    have := Rd.of (ts := ts) (X := cat D n) (T := [(5, [], 0)]) (Y := []) (by rw [hk]; simp)
    rw [hT] at this
    exact (this 0 (by simp)).1
  have hsteps := lim_steps ts m cnt most n h0 (fun i p f hi hp hl => hst ts i p f (hrd i hi) hp hl)
  split
  · rename_i hle
    obtain ⟨p, hp, e⟩ := hsteps n (Nat.le_refl _) hle (n * m - n + 1)
    rw [hlen, show n * m + 1 = n * m - n + 1 + n by omega, e, prog_end _ _ hend]
    rfl
  · rename_i hgt
    obtain ⟨p, hp, e⟩ := hsteps most (by omega) (Nat.le_refl _) (n * m - most + 1)
    rw [hlen, show n * m + 1 = n * m - most + 1 + most by omega, e, hbad ts (most * m) most p _ (hrd most (by omega)) (by omega)]
    rfl
end Go.Proofs.YtjjooekkieddbaaDoor
