/- The texts of the limits, and which error each has. No statement of the program is proved in this file. -/
import Derived.Test.YtjjooekkieddbaaDoorLmPG
namespace Go.Proofs.YtjjooekkieddbaaDoor

theorem LxN.res (s : List UInt8) (h : wordB s = true) (hr : Tk.resv s = true) : LxN s [(3, s, 0)] := by
  have := LxN.word s h
  rwa [if_pos hr] at this
theorem LxN.nam (s : List UInt8) (h : wordB s = true) (hr : Tk.resv s = false) : LxN s [(1, s, 0)] := by
  have := LxN.word s h
  rwa [if_neg (by rw [hr]; decide)] at this
theorem lx_x59 (x : UInt8) (h : wordB [x] = true) (hr : Tk.resv [x] = false) : LxA [32, x, 59, 32] [kNm [x], kSg 59] :=
  LxA.sp.app ((LxN.nam [x] h hr).app (c := 59) (s' := [32]) (by decide) ((LxA.sg 59 (by decide)).app LxA.sp))
/-- kind 0 -/
def limS0 (_ : Nat) : List UInt8 := [118, 97, 114, 32, 120, 59, 32]
theorem lim0 (n : Nat) (hn : n ≤ 69) : (progV (cat limS0 n)).2.2 = if n ≤ 16 then 0 else 3 := by
  refine lim_all limS0 (fun _ => [kVar, kNm [120], kSg 59]) 3 (fun p => p.gs.length) 16 n (by omega) (fun _ => rfl) (fun _ => ?_) (fun _ => ⟨by simp [limS0], by simp [limS0]⟩) hn (by omega) rfl ?_ ?_
  · exact (LxN.res [118, 97, 114] (by decide) (by decide)).app (c := 32) (s' := [120, 59, 32]) (by decide) (lx_x59 120 (by decide) (by decide))
  · intro ts i p f hr hp hl
    obtain ⟨g, e⟩ := var_step hr f p (by omega)
    exact ⟨{ p with gs := p.gs ++ [g] }, by simp; omega, by rw [e, Nat.succ_mul]⟩
  · intro ts k i p f hr hp
    exact var_bad hr f p hp
/-- kind 1 -/
def limS1 (i : Nat) : List UInt8 := if i % 2 = 0 then [109, 117, 116, 101, 120, 32, 120, 59, 32] else [114, 109, 117, 116, 101, 120, 32, 121, 59, 32]
theorem lim1 (n : Nat) (hn : n ≤ 69) : (progV (cat limS1 n)).2.2 = if n ≤ 12 then 0 else 3 := by
  refine lim_all limS1 (fun i => if i % 2 = 0 then [kMut, kNm [120], kSg 59] else [kRmu, kNm [121], kSg 59]) 3 (fun p => p.ms.length) 12 n (by omega) (fun i => by split <;> rfl) (fun i => ?_) (fun i => by unfold limS1; split <;> exact ⟨by decide, by decide⟩) hn (by omega) rfl ?_ ?_
  · unfold limS1
    split
    · exact (LxN.res [109, 117, 116, 101, 120] (by decide) (by decide)).app (c := 32) (s' := [120, 59, 32]) (by decide) (lx_x59 120 (by decide) (by decide))
    · exact (LxN.res [114, 109, 117, 116, 101, 120] (by decide) (by decide)).app (c := 32) (s' := [121, 59, 32]) (by decide) (lx_x59 121 (by decide) (by decide))
  · intro ts i p f hr hp hl
    by_cases h2 : i % 2 = 0
    · rw [if_pos h2] at hr
      obtain ⟨g, e⟩ := mut_step hr f p (by omega)
      exact ⟨{ p with ms := p.ms ++ [g] }, by simp; omega, by rw [e, Nat.succ_mul]⟩
    · rw [if_neg h2] at hr
      obtain ⟨g, e⟩ := rmu_step hr f p (by omega)
      exact ⟨{ p with ms := p.ms ++ [g] }, by simp; omega, by rw [e, Nat.succ_mul]⟩
  · intro ts k i p f hr hp
    by_cases h2 : i % 2 = 0
    · rw [if_pos h2] at hr
      exact mut_bad hr f p hp
    · rw [if_neg h2] at hr
      exact rmu_bad hr f p hp
/-- kind 2 -/
def limS2 (_ : Nat) : List UInt8 := [102, 117, 110, 99, 32, 102, 40, 41, 32, 123, 32, 125, 32]
theorem lx_ff : LxA [102, 117, 110, 99, 32, 102, 40] [kFun, kNm [102], kSg 40] :=
  (LxN.res [102, 117, 110, 99] (by decide) (by decide)).app (c := 32) (s' := [102, 40]) (by decide) (LxA.sp.app ((LxN.nam [102] (by decide) (by decide)).app (c := 40) (s' := []) (by decide) (LxA.sg 40 (by decide))))
theorem lx_end : LxA [41, 32, 123, 32, 125] [kSg 41, kSg 123, kSg 125] :=
  (LxA.sg 41 (by decide)).app (LxA.sp.app ((LxA.sg 123 (by decide)).app (LxA.sp.app (LxA.sg 125 (by decide)))))
theorem lim2 (n : Nat) (hn : n ≤ 69) : (progV (cat limS2 n)).2.2 = if n ≤ 16 then 0 else 3 := by
  refine lim_all limS2 (fun _ => kF6 [102]) 6 (fun p => p.fs.length) 16 n (by omega) (fun _ => rfl) (fun _ => ?_) (fun _ => ⟨by simp [limS2], by simp [limS2]⟩) hn (by omega) rfl ?_ ?_
  · exact lx_ff.app (lx_end.app LxA.sp)
  · intro ts i p f hr hp hl
    obtain ⟨g, e⟩ := fun_step hr f p (by omega)
    exact ⟨{ p with fs := p.fs ++ [g] }, by simp; omega, by rw [e, Nat.succ_mul]⟩
  · intro ts k i p f hr hp
    exact fun_bad hr f p hp
/-- kind 3 -/
def limS3 (i : Nat) : List UInt8 := if i = 0 then [120] else [44, 32, 109, 117, 116, 101, 120, 32, 121]
def limD3 (i : Nat) : List (Nat × List UInt8 × Nat) := if i = 0 then [kNm [120]] else [kSg 44, kMut, kNm [121]]
def limT3 (n : Nat) : List UInt8 := [102, 117, 110, 99, 32, 102, 40] ++ (cat limS3 n ++ [41, 32, 123, 32, 125])
theorem lx_par : LxN [44, 32, 109, 117, 116, 101, 120, 32, 121] [kSg 44, kMut, kNm [121]] :=
  (LxA.sg 44 (by decide)).appN (LxA.sp.appN ((LxN.res [109, 117, 116, 101, 120] (by decide) (by decide)).appN (c := 32) (s' := [121]) (by decide) (LxA.sp.appN (LxN.nam [121] (by decide) (by decide)))))
theorem lx_pars (n : Nat) : LxN (cat limS3 (n + 1)) (cat limD3 (n + 1)) := by
  induction n with
  | zero => exact LxN.nam [120] (by decide) (by decide)
  | succ n ih => exact ih.appN (c := 44) (s' := [32, 109, 117, 116, 101, 120, 32, 121]) (by decide) lx_par
theorem lx_t3 (n : Nat) : LxA (limT3 n) ([kFun, kNm [102], kSg 40] ++ (cat limD3 n ++ [kSg 41, kSg 123, kSg 125])) := by
  unfold limT3
  refine lx_ff.app ?_
  cases n with
  | zero => exact lx_end
  | succ n => exact (lx_pars n).app (c := 41) (s' := [32, 123, 32, 125]) (by decide) lx_end
theorem d3_len (n : Nat) : (cat limD3 (n + 1)).length = 3 * n + 1 := by
  induction n with
  | zero => rfl
  | succ n ih =>
    rw [cat, List.length_append, ih]
    show 3 * n + 1 + 3 = _
    omega
theorem s3_len (n : Nat) : (cat limS3 n).length ≤ 9 * n ∧ (cat limD3 n).length ≤ (cat limS3 n).length := by
  induction n with
  | zero => simp [cat]
  | succ n ih =>
    rw [cat, cat, List.length_append, List.length_append]
    have : (limS3 n).length ≤ 9 ∧ (limD3 n).length ≤ (limS3 n).length := by unfold limS3 limD3; split <;> exact ⟨by decide, by decide⟩
    omega
theorem par_steps (ts : List Tk.Tok) (n : Nat) (hx : Rd ts 3 [kNm [120]]) (hp : ∀ i, 1 ≤ i → i < n → Rd ts (3 * i + 1) [kSg 44, kMut, kNm [121]]) : ∀ i, 1 ≤ i → i ≤ n → i ≤ 6 → ∀ f, ∃ l : List Pm, l.length = i ∧
    Pa.sParamL ts (f + i) (.at_ 3) [] = if Pa.isS ts (.at_ (3 * i + 1)) [44] = true then Pa.sParamL ts f (.at_ (3 * i + 2)) l else (l, Pa.xp ts (.at_ (3 * i + 1)) [41]) := by
  intro i
  induction i with
  | zero => intro h; omega
  | succ i ih =>
    intro _ hn h6 f
    rcases Nat.eq_zero_or_pos i with rfl | hi
    · have a0 : Ps.kindAt ts 3 = 1 := (hx 0 (by decide)).1
      have a1 : Ps.textAt ts 3 = [120] := (hx 0 (by decide)).2.1
      have e : (Pa.sParam ts 0 (.at_ 3)).2 = .at_ 4 := by
        rw [sParam_eq, sParam_few ts 0 _ (by omega), ac_no (isS_txt a1 (by decide))]
        exact tk_yes (kdS_yes a0)
      refine ⟨[(Pa.sParam ts 0 (.at_ 3)).1], rfl, ?_⟩
      rw [Pa.sParamL, show ([] : List Pm).length = 0 from rfl, e]
      rfl
    · obtain ⟨l, hl, e⟩ := ih hi (by omega) (by omega) (f + 1)
      have hr := hp i hi (by omega)
      have c0 : Ps.kindAt ts (3 * i + 1) = 4 := (hr 0 (by decide)).1
      have c1 : Ps.textAt ts (3 * i + 1) = [44] := (hr 0 (by decide)).2.1
      have m0 : Ps.kindAt ts (3 * i + 2) = 3 := (hr 1 (by decide)).1
      have m1 : Ps.textAt ts (3 * i + 2) = [109, 117, 116, 101, 120] := (hr 1 (by decide)).2.1
      have y0 : Ps.kindAt ts (3 * i + 3) = 1 := (hr 2 (by decide)).1
      have e2 : (Pa.sParam ts l.length (.at_ (3 * i + 2))).2 = .at_ (3 * i + 4) := by
        rw [sParam_eq, sParam_few ts _ _ (by omega), ac_yes (isS_yes (s := [109, 117, 116, 101, 120]) m0 m1)]
        exact tk_yes (kdS_yes y0)
      refine ⟨l ++ [(Pa.sParam ts l.length (.at_ (3 * i + 2))).1], by simp; omega, ?_⟩
      rw [show f + (i + 1) = f + 1 + i by omega, e, if_pos (isS_yes (s := [44]) c0 c1), Pa.sParamL, e2]
      rfl
theorem lim3 (n : Nat) (hn : n ≤ 69) : (progV (limT3 n)).2.2 = if n ≤ 6 then 0 else 3 := by
  have hs := s3_len n
  have hlT : (limT3 n).length = (cat limS3 n).length + 12 := by unfold limT3; simp
  obtain ⟨A, e1, e2⟩ := (lx_t3 n).lex (by simp; omega) (by rw [hlT]; simp; omega) (by omega)
  rw [progV_of e2]
  generalize hts : A ++ [(⟨5, [], 0, (limT3 n).length⟩ : Tk.Tok)] = ts
  have hk : ts.map kt = [kFun, kNm [102], kSg 40] ++ (cat limD3 n ++ ([kSg 41, kSg 123, kSg 125] ++ [(5, [], 0)])) := by
    rw [← hts, List.map_append, e1]
    simp [kt]
  have hlen : ts.length = (cat limD3 n).length + 7 := by
    have := congrArg List.length hk
    simpa using this
  have h3 : Rd ts 0 [kFun, kNm [102], kSg 40] := Rd.of (X := []) hk
  have a0 : Ps.kindAt ts 0 = 3 := (h3 0 (by decide)).1
  have a1 : Ps.textAt ts 0 = [102, 117, 110, 99] := (h3 0 (by decide)).2.1
  have b0 : Ps.kindAt ts 1 = 1 := (h3 1 (by decide)).1
  have c0 : Ps.kindAt ts 2 = 4 := (h3 2 (by decide)).1
  have c1 : Ps.textAt ts 2 = [40] := (h3 2 (by decide)).2.1
  have hfin : ∀ q, (Pa.sParams ts (.at_ 2)).2 = .at_ q → Rd ts q ([kSg 123, kSg 125] ++ [(5, [], 0)]) → (Pa.sProg ts ts.length (.at_ 0) noPg).2.e = 0 := by
    intro q hq hr
    have hb : Rd ts q [kSg 123, kSg 125] := fun j hj => by
      have hj2 : j < 2 := hj
      have hc : j = 0 ∨ j = 1 := by omega
      rcases hc with rfl | rfl
      · exact hr 0 (by decide)
      · exact hr 1 (by decide)
    have h5 : Ps.kindAt ts (q + 2) = 5 := (hr 2 (by decide)).1
    have ef : (Pa.sFunc ts (.at_ 1)).2 = .at_ (q + 2) := by
      show (Pa.sBlock ts 25 0 (Pa.sParams ts (Pa.tk ts (.at_ 1) 1)).2).2 = _
      rw [tk_yes (kdS_yes b0), hq, blk_empty hb 24 0 (by omega)]
    rw [hlen, show (cat limD3 n).length + 7 = (cat limD3 n).length + 5 + 1 + 1 by omega, fun_go a0 a1 _ _ (by decide), ef, prog_end _ _ h5]
    rfl
  have hop : Pa.xp ts (.at_ 2) [40] = .at_ 3 := xp_yes (isS_yes (s := [40]) c0 c1)
  cases n with
  | zero =>
    have h4 : Rd ts 3 ([kSg 41, kSg 123, kSg 125] ++ [(5, [], 0)]) := Rd.of (X := [kFun, kNm [102], kSg 40]) (Y := []) (by rw [hk]; simp [cat])
    rw [if_pos (by omega)]
    refine hfin 4 ?_ (fun j hj => ?_)
    · unfold Pa.sParams
      rw [hop, if_pos (isS_yes (s := [41]) (h4 0 (by decide)).1 (h4 0 (by decide)).2.1)]
      rfl
    · have hj3 : j < 3 := hj
      have hc : j = 0 ∨ j = 1 ∨ j = 2 := by omega
      rcases hc with rfl | rfl | rfl
      · exact h4 1 (by decide)
      · exact h4 2 (by decide)
      · exact h4 3 (by decide)
  | succ n =>
    have hx : Rd ts 3 [kNm [120]] := by
      obtain ⟨Y, e⟩ := cat_split limD3 (n + 1) 0 (by omega)
      exact Rd.of (X := [kFun, kNm [102], kSg 40]) (T := [kNm [120]]) (Y := Y ++ ([kSg 41, kSg 123, kSg 125] ++ [(5, [], 0)])) (by rw [hk, e]; simp [cat, limD3])
    have hp : ∀ i, 1 ≤ i → i < n + 1 → Rd ts (3 * i + 1) [kSg 44, kMut, kNm [121]] := by
      intro i h1 h2
      obtain ⟨Y, e⟩ := cat_split limD3 (n + 1) i h2
      have hi : limD3 i = [kSg 44, kMut, kNm [121]] := if_neg (by omega)
      have := Rd.of (ts := ts) (X := [kFun, kNm [102], kSg 40] ++ cat limD3 i) (T := [kSg 44, kMut, kNm [121]]) (Y := Y ++ ([kSg 41, kSg 123, kSg 125] ++ [(5, [], 0)])) (by rw [hk, e, hi]; simp)
      obtain ⟨j, rfl⟩ : ∃ j, i = j + 1 := ⟨i - 1, by omega⟩
      rw [List.length_append, d3_len] at this
      rw [show 3 * (j + 1) + 1 = [kFun, kNm [102], kSg 40].length + (3 * j + 1) by show _ = 3 + (3 * j + 1); omega]
      exact this
    have hst := par_steps ts (n + 1) hx hp
    have hno : Pa.isS ts (.at_ 3) [41] = false := isS_txt (hx 0 (by decide)).2.1 (by decide)
    by_cases hle : n + 1 ≤ 6
    · rw [if_pos hle]
      obtain ⟨l, hl, e⟩ := hst (n + 1) (by omega) (Nat.le_refl _) hle (ts.length + 1 - (n + 1))
      have hlD : (cat limD3 (n + 1)).length = 3 * n + 1 := d3_len n
      have h4 : Rd ts (3 * (n + 1) + 1) ([kSg 41, kSg 123, kSg 125] ++ [(5, [], 0)]) := by
        have := Rd.of (ts := ts) (X := [kFun, kNm [102], kSg 40] ++ cat limD3 (n + 1)) (T := [kSg 41, kSg 123, kSg 125] ++ [(5, [], 0)]) (Y := []) (by rw [hk]; simp)
        rw [List.length_append, d3_len] at this
        rw [show 3 * (n + 1) + 1 = [kFun, kNm [102], kSg 40].length + (3 * n + 1) by show _ = 3 + (3 * n + 1); omega]
        exact this
      have q0 : Ps.kindAt ts (3 * (n + 1) + 1) = 4 := (h4 0 (by decide)).1
      have q1 : Ps.textAt ts (3 * (n + 1) + 1) = [41] := (h4 0 (by decide)).2.1
      refine hfin (3 * (n + 1) + 2) ?_ (fun j hj => ?_)
      · unfold Pa.sParams
        rw [hop, if_neg (by rw [hno]; decide)]
        rw [show ts.length + 1 = ts.length + 1 - (n + 1) + (n + 1) by omega, e, if_neg (by rw [isS_txt q1 (by decide)]; decide)]
        exact xp_yes (isS_yes (s := [41]) q0 q1)
      · have hj3 : j < 3 := hj
        have hc : j = 0 ∨ j = 1 ∨ j = 2 := by omega
        rcases hc with rfl | rfl | rfl
        · exact h4 1 (by decide)
        · exact h4 2 (by decide)
        · exact h4 3 (by decide)
    · rw [if_neg hle]
      have hlD : (cat limD3 (n + 1)).length = 3 * n + 1 := d3_len n
      obtain ⟨l, hl, e⟩ := hst 6 (by omega) (by omega) (Nat.le_refl _) (ts.length + 1 - 6)
      have hr := hp 6 (by omega) (by omega)
      have k0 : Ps.kindAt ts 19 = 4 := (hr 0 (by decide)).1
      have k1 : Ps.textAt ts 19 = [44] := (hr 0 (by decide)).2.1
      have m0 : Ps.kindAt ts 20 = 3 := (hr 1 (by decide)).1
      have m1 : Ps.textAt ts 20 = [109, 117, 116, 101, 120] := (hr 1 (by decide)).2.1
      have e3 : (Pa.sParam ts l.length (.at_ 20)).2 = .bad 20 3 := by
        rw [sParam_eq]
        have : pmS ts l.length (.at_ 20) = .bad 20 3 := by
          unfold pmS
          rw [if_pos (.inl (isS_yes (s := [109, 117, 116, 101, 120]) m0 m1))]
          exact lm_yes (by omega)
        rw [this]
        rfl
      have ep : (Pa.sParams ts (.at_ 2)).2 = .bad 20 3 := by
        unfold Pa.sParams
        rw [hop, if_neg (by rw [hno]; decide)]
        rw [show ts.length + 1 = ts.length + 1 - 6 + 6 by omega, e, if_pos (isS_yes (s := [44]) k0 k1)]
        obtain ⟨q, hq⟩ : ∃ q, ts.length + 1 - 6 = q + 1 := ⟨ts.length - 6, by omega⟩
        rw [hq, Pa.sParamL, e3]
        rfl
      have ef : (Pa.sFunc ts (.at_ 1)).2 = .bad 20 3 := by
        show (Pa.sBlock ts 25 0 (Pa.sParams ts (Pa.tk ts (.at_ 1) 1)).2).2 = _
        rw [tk_yes (kdS_yes b0), ep, Pa.sBlock]
        exact congrArg Prod.snd (sStmts_bad _ _ _ _ _ _)
      rw [hlen, show (cat limD3 (n + 1)).length + 7 = (cat limD3 (n + 1)).length + 6 + 1 by omega, fun_go a0 a1 _ _ (by decide), ef, Pa.sProg_dead _ _ _ _ rfl]
      rfl
/-- kind 4 -/
def limT4 (n : Nat) : List UInt8 := [109, 117, 116, 101, 120, 32, 120, 91] ++ (numText (n : Int) ++ [93, 59])
theorem lim4_all : ((List.range 70).all fun n => (progV (limT4 n)).2.2 == if n = 0 ∨ 64 < n then 3 else 0) = true := by kernel_rfl
theorem lim4 (n : Nat) (hn : n ≤ 69) : (progV (limT4 n)).2.2 = if n = 0 ∨ 64 < n then 3 else 0 := by
  have := List.all_eq_true.1 lim4_all n (by simp; omega)
  simpa using this
end Go.Proofs.YtjjooekkieddbaaDoor
