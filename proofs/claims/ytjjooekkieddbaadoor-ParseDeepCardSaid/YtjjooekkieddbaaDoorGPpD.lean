/- What program of package parse does. What Program of package parse returns: the plain function progV. The tokens of a text without an error: what the parsers ask of them. Plain lists only. -/
import Derived.Test.YtjjooekkieddbaaDoorGPpC
import Derived.Deep.RegionLaw
import Derived.Test.YtjjooekkieddbaaDoorGTxt
namespace Go.Proofs.YtjjooekkieddbaaDoor
open Go.RowKit

/-- what program leaves -/
def PrgP (w : World) (g : Nat) (ts : List Tk.Tok) (R : Pg × Pa.Sg) (e : Ending) (w' : World) : Prop :=
  ∃ vG vM vF PG PM PF, e = .returned (.agg #[vG, vM, vF]) ∧ PgR w' (w.heap.size + 2) vG vM vF PG PM PF ∧ (R.2.live = true → R.1 = ⟨PG, PM, PF.map (·.1)⟩) ∧ Pps w' g ts R.2 0 ∧ w.grownBy w' (some g)
/-- the loop over declarations -/
def PrgL (w : World) (g : Nat) (ts : List Tk.Tok) (R : Pg × Pa.Sg) (f : Nat) (wr : World) : Prop :=
  ∃ vG vM vF PG PM PF τ p, wr.heap[w.heap.size]? = some (.cells #[.slice none 0 0, .slice none 0 0, .slice none 0 0] 44 (0, 0)) ∧ wr.heap[w.heap.size + 1]? = some (.cells #[vG, vM, vF] 44 (0, 0)) ∧ PgR wr (w.heap.size + 2) vG vM vF PG PM PF ∧ Pps wr g ts τ 0 ∧ w.grownBy wr (some g) ∧
    (τ.live = true → p = ⟨PG, PM, PF.map (·.1)⟩ ∧ PG.length ≤ τ.k ∧ PM.length ≤ τ.k ∧ PF.length ≤ τ.k ∧ ts.length ≤ f + τ.k) ∧ Pa.sProg ts f τ p = R
theorem sMutex_dead (ts : List Tk.Tok) (re : Bool) (m e : Nat) : (Pa.sMutex ts re (.bad m e)).2 = .bad m e := by
  unfold Pa.sMutex
  split <;> rfl
theorem mx_eq_mutex (ts : List Tk.Tok) (σ : Pa.Sg) (c m : Nat) (h : Pa.isS ts σ [109, 117, 116, 101, 120] = true) : (Pa.sMutex ts (Pa.isS ts (Pa.lm σ c m) [114, 109, 117, 116, 101, 120]) (mxS ts (Pa.lm σ c m))).2 = (Pa.sMutex ts false (Pa.ac ts (Pa.lm σ c m) [109, 117, 116, 101, 120])).2 ∧
    ((Pa.sMutex ts false (Pa.ac ts (Pa.lm σ c m) [109, 117, 116, 101, 120])).2.live = true → (Pa.sMutex ts (Pa.isS ts (Pa.lm σ c m) [114, 109, 117, 116, 101, 120]) (mxS ts (Pa.lm σ c m))).1 = (Pa.sMutex ts false (Pa.ac ts (Pa.lm σ c m) [109, 117, 116, 101, 120])).1) := by
  have hx := Pa.xp_ac ts σ c m _ h
  have hr : Pa.isS ts (Pa.lm σ c m) [114, 109, 117, 116, 101, 120] = false := by
    obtain ⟨k, rfl, h1, h2⟩ := isS_at h
    unfold Pa.lm
    split
    · rfl
    · simp [Pa.isS, h2]
  have hm : mxS ts (Pa.lm σ c m) = Pa.ac ts (Pa.lm σ c m) [109, 117, 116, 101, 120] := by
    unfold mxS
    rw [if_neg (by rw [hr]; decide), hx]
  rw [hr, hm]
  exact ⟨rfl, fun _ => rfl⟩
theorem mx_eq_rmutex (ts : List Tk.Tok) (σ : Pa.Sg) (c m : Nat) (h : Pa.isS ts σ [114, 109, 117, 116, 101, 120] = true) : (Pa.sMutex ts (Pa.isS ts (Pa.lm σ c m) [114, 109, 117, 116, 101, 120]) (mxS ts (Pa.lm σ c m))).2 = (Pa.sMutex ts true (Pa.ac ts (Pa.lm σ c m) [114, 109, 117, 116, 101, 120])).2 ∧
    ((Pa.sMutex ts true (Pa.ac ts (Pa.lm σ c m) [114, 109, 117, 116, 101, 120])).2.live = true → (Pa.sMutex ts (Pa.isS ts (Pa.lm σ c m) [114, 109, 117, 116, 101, 120]) (mxS ts (Pa.lm σ c m))).1 = (Pa.sMutex ts true (Pa.ac ts (Pa.lm σ c m) [114, 109, 117, 116, 101, 120])).1) := by
  obtain ⟨k, rfl, h1, h2⟩ := isS_at h
  unfold Pa.lm
  split
  · have e1 : Pa.isS ts (Pa.fl (.at_ k) 3) [114, 109, 117, 116, 101, 120] = false := rfl
    have e2 : mxS ts (Pa.fl (.at_ k) 3) = .bad k 3 := rfl
    have e3 : Pa.ac ts (Pa.fl (.at_ k) 3) [114, 109, 117, 116, 101, 120] = .bad k 3 := rfl
    rw [e1, e2, e3, sMutex_dead, sMutex_dead]
    exact ⟨rfl, fun h => by cases h⟩
  · have e2 : mxS ts (.at_ k) = Pa.ac ts (.at_ k) [114, 109, 117, 116, 101, 120] := by
      unfold mxS Pa.ac
      rw [if_pos h, if_pos h]
    rw [h, e2]
    exact ⟨rfl, fun _ => rfl⟩

theorem slice_form {w : World} {B n size : Nat} {t : TypeId} {v : Value} {xs : List Value} (h : w.ownsRow B t size v n xs) : ∃ A c, v = .slice A n c := owns_form h

set_option maxRecDepth 100000 in
set_option maxHeartbeats 8000000 in
theorem pprogram_any (w : World) (g : Nat) (ts : List Tk.Tok) (hN : ∀ k, Ps.numAt ts k ≤ 9223372036854775807) (σ : Pa.Sg) (f : Nat) (hf : ts.length ≤ f + σ.k) (hP : Pps w g ts σ 0) (hS : SgG w g) :
    Calls Tryd.prog 32 #[.pointer (some ⟨g, 0, none⟩)] w (PrgP w g ts (Pa.sProg ts f σ ⟨[], [], []⟩)) := by
  obtain ⟨iG, hiG, hgG0, hgG1, hgG2⟩ := info_parts Tryd.infoGl
  obtain ⟨iM, hiM, hgM0, hgM1, hgM2⟩ := info_parts Tryd.infoMx
  obtain ⟨iF, hiF, hgF0, hgF1, hgF2⟩ := info_parts Tryd.infoFn
  have HS := Lib.hid hS
  have HNU := Lib.hid hN
  have hgw := hP.lt
  have hgR' : w.heap.size ≠ g := by omega
  have hgT' : w.heap.size + 1 ≠ g := by omega
  have hTR : w.heap.size + 1 ≠ w.heap.size := by omega
  obtain ⟨hn1, hn2⟩ := new2 w (.cells #[.slice none 0 0, .slice none 0 0, .slice none 0 0] 44) (.cells #[.slice none 0 0, .slice none 0 0, .slice none 0 0] 44)
  have HL0 : Hid (PrgL w g ts (Pa.sProg ts f σ ⟨[], [], []⟩) f ((w.alloc (.cells #[.slice none 0 0, .slice none 0 0, .slice none 0 0] 44)).alloc (.cells #[.slice none 0 0, .slice none 0 0, .slice none 0 0] 44))) :=
    ⟨_, _, _, [], [], [], σ, ⟨[], [], []⟩, hn1, hn2, PgR.nil _ _, (hP.alloc _).alloc _, grown_alc (grown_alc (grown_below (Below.refl _ _)) _) _, fun _ => ⟨rfl, by simp, by simp, by simp, hf⟩, rfl⟩
  generalize Pa.sProg ts f σ ⟨[], [], []⟩ = R at *
  clear hP hS hN hf hn1 hn2
  go_enter Tryd.func32, Tryd.ntmps32
  go_wp2_with fail
  go_loopg [16] f (fun k v wr => Hid (PrgL w g ts R k wr))
  case atStart => exact HL0.out
  case round =>
    clear HL0
    obtain ⟨vG, vM, vF, PG, PM, PF, τ, p, hRb, hTb, hPg, hP, hG, hlv, hR⟩ := hrel.out
    clear hrel
    have HRb := Lib.hid hRb
    have HTb := Lib.hid hTb
    have HPg := Lib.hid hPg
    have HPr := Lib.hid hP
    have HGr := Lib.hid hG
    have HLV := Lib.hid hlv
    have HR := Lib.hid hR
    have hnn : ts.length ≤ 1000000 := by obtain ⟨_, _, _, _, _, h, _⟩ := hP; exact h
    have hwl : w.heap.size + 1 < wr.heap.size := lt_of_block hTb
    obtain ⟨br, cr, -, -, -, -, s2, s3, -⟩ := hP.cells
    clear hRb hTb hPg hP hG hlv hR s2
    obtain ⟨AG, cG, rfl⟩ := slice_form HPg.out.rG
    obtain ⟨AM, cM, rfl⟩ := slice_form HPg.out.rM
    obtain ⟨AF, cF, rfl⟩ := slice_form HPg.out.rF
    cases τ with
    | bad m e =>
      have he : e ≠ 0 := HPr.out.err rfl
      have t0 : (((Pa.Sg.bad m e).e : Int) == 0) = false := bF (show ((e : Nat) : Int) ≠ 0 by omega)
      have HRR : Hid (R = (p, .bad m e)) := by show _ = _; rw [← HR.out]; exact Pa.sProg_dead ts _ _ p rfl
      clear he HR HLV
      obtain ⟨t1, t2, t3, -, -⟩ := blk3 HTb.out
      obtain ⟨r0, r1, r2, rf, -⟩ := blk3 HRb.out
      have f0 := rf 0
      have f1 := rf 1
      have f2 := rf 2
      clear rf
      go_wp2_with fail
      have hq : PutAt w.heap.size wr _ := (((PutAt.refl w.heap.size wr).set 0 (.slice AG PG.length cG)).set 1 (.slice AM PM.length cM)).set 2 (.slice AF PF.length cF)
      refine bodyPost_ret (v := .agg #[.slice AG PG.length cG, .slice AM PM.length cM, .slice AF PF.length cF]) (by simp [results, Tryd.results32, go_sem, r0, r1, r2]) rfl ⟨_, _, _, PG, PM, PF, rfl, HPg.out.putAt hq (by omega), ?_, ?_, grown_putAt HGr.out hq (Nat.le_refl _)⟩
      · rw [HRR.out]
        intro h
        cases h
      · rw [HRR.out]
        exact HPr.out.putAt hq hgw
    | at_ k0 =>
      have t0 : (((Pa.Sg.at_ k0).e : Int) == 0) = true := rfl
      obtain ⟨hp, hg1, hm1, hf1, hk2⟩ := HLV.out rfl
      have hk3 : (Pa.Sg.at_ k0).k = k0 := rfl
      have hkT : k0 < ts.length := HPr.out.inT
      rw [hk3] at hg1 hm1 hf1 hk2
      subst hp
      obtain ⟨f1, rfl⟩ : ∃ f1, gk = f1 + 1 := ⟨gk - 1, by omega⟩
      have HP0 := HPr
      have HR0 := HRb
      have HT0 := HTb
      have HPg0 := HPg
      have HG0 := HGr
      clear hk3 HLV HPr HRb HTb HPg HGr
      go_wp2_with fail
      refine (pseesKind_any wr g ts (.at_ k0) 0 5 5 rfl HP0.out).mono ?_
      rintro x w1 ⟨rfl, hb1⟩
      have HP1 := Lib.hid (HP0.out.later hb1)
      have HR1 := Lib.hid ((hb1.block _ (by have := lt_of_block HR0.out; exact this)).trans HR0.out)
      have HT1 := Lib.hid ((hb1.block _ (by have := lt_of_block HT0.out; exact this)).trans HT0.out)
      have HPg1 := Lib.hid (HPg0.out.keep fun b _ hl => hb1.block b hl)
      have HG1 := Lib.hid (grown_trans HG0.out (grown_below (g := g) hb1))
      clear hb1 HP0 HR0 HT0 HPg0 HG0
      clear s3
      cases hE : Pa.kdS ts (.at_ k0) 5 with
      | true =>
        have HRR : Hid (R = (⟨PG, PM, PF.map (·.1)⟩, .at_ k0)) := by show _ = _; rw [← HR.out, Pa.sProg, if_pos (.inr hE)]
        clear hE HR
        obtain ⟨t1, t2, t3, -, -⟩ := blk3 HT1.out
        obtain ⟨r0, r1, r2, rf, -⟩ := blk3 HR1.out
        have f0 := rf 0
        have f1 := rf 1
        have f2 := rf 2
        clear rf
        go_wp2_with fail
        have hq : PutAt w.heap.size w1 _ := (((PutAt.refl w.heap.size w1).set 0 (.slice AG PG.length cG)).set 1 (.slice AM PM.length cM)).set 2 (.slice AF PF.length cF)
        refine bodyPost_ret (v := .agg #[.slice AG PG.length cG, .slice AM PM.length cM, .slice AF PF.length cF]) (by simp [results, Tryd.results32, go_sem, r0, r1, r2]) rfl ⟨_, _, _, PG, PM, PF, rfl, HPg1.out.putAt hq (by omega), ?_, ?_, grown_putAt HG1.out hq (Nat.le_refl _)⟩
        · rw [HRR.out]
          intro _
          rfl
        · rw [HRR.out]
          exact HP1.out.putAt hq hgw
      | false =>
        have HE := Lib.hid hE
        clear hE
        go_wp2_with fail
        refine (psees_any w1 g ts (.at_ k0) 0 [118, 97, 114] HP1.out).mono ?_
        rintro x w2 ⟨rfl, hb2⟩
        have HP2 := Lib.hid (HP1.out.later hb2)
        have HR2 := Lib.hid ((hb2.block _ (by have := lt_of_block HR1.out; exact this)).trans HR1.out)
        have HT2 := Lib.hid ((hb2.block _ (by have := lt_of_block HT1.out; exact this)).trans HT1.out)
        have HPg2 := Lib.hid (HPg1.out.keep fun b _ hl => hb2.block b hl)
        have HG2 := Lib.hid (grown_trans HG1.out (grown_below (g := g) hb2))
        clear hb2 HP1 HR1 HT1 HPg1 HG1
        cases hI : Pa.isS ts (.at_ k0) [118, 97, 114] with
        | true =>
          obtain ⟨t1, t2, t3, -, -⟩ := blk3 HT2.out
          go_wp2_with fail
          refine (plimit_any w2 g ts (.at_ k0) 0 PG.length 16 _ 16 rfl rfl HP2.out).mono ?_
          rintro x wa ⟨rfl, hPa, hGa⟩
          have HPa := Lib.hid hPa
          have HRa := Lib.hid (kept_own hGa HR2.out hgR')
          have HTa := Lib.hid (kept_own hGa HT2.out hgT')
          have HPga := Lib.hid (HPg2.out.grown hGa (by omega))
          have HGa := Lib.hid (grown_trans HG2.out hGa)
          have hla : w.heap.size + 1 < wa.heap.size := lt_of_block HTa.out
          have HLM := Lib.hid (Pa.lm_fwd (.at_ k0) PG.length 16)
          have HRR : Hid (Pa.sProg ts f1 (Pa.sGlobal ts (Pa.ac ts (Pa.lm (.at_ k0) PG.length 16) [118, 97, 114])).2 ⟨PG ++ [(Pa.sGlobal ts (Pa.ac ts (Pa.lm (.at_ k0) PG.length 16) [118, 97, 114])).1], PM, PF.map (·.1)⟩ = R) := by
            show _ = _
            rw [← HR.out]
            exact (by rw [Pa.sProg, if_neg (fun h => by rcases h with h | h; cases h; rw [HE.out] at h; cases h), if_pos hI])
          have HXA := Lib.hid (Pa.xp_ac ts (.at_ k0) PG.length 16 [118, 97, 114] hI)
          rw [← HXA.out] at HRR
          clear hPa hGa t1 t2 t3 HP2 HR2 HT2 HPg2 HG2 hI HR HXA
          generalize Pa.lm (.at_ k0) PG.length 16 = ρ at *
          obtain ⟨t1, t2, t3, -, -⟩ := blk3 HTa.out
          have HFW := Lib.hid ((Pa.xp_fws ts ρ [118, 97, 114]).then (Pa.sGlobal_fws ts (Pa.xp ts ρ [118, 97, 114])).fwd)
          go_wp2_with fail
          go_region_law (first
            | (refine step_append_lies _ (by rfl) _ _ _ (by rfl) (w.heap.size + 2) 90 iG _ 2 24 Tryd.underlying40 hiG hgG0 hgG1 hgG2 rfl (by omega) (.slice AG PG.length cG) PG.length (glK.cs PG) (by rfl) (HPgb.out.alloc _).rG ⟨wb.heap.size, 0, none⟩ 1 1 (glK.cl a) (by rfl) (by rfl) (news_any wb _ rfl _ _) (glK.one a) (by omega) (by unfold maxLen; omega) (by omega) (by simp; omega) (wb.heap.size + 1) (by simp) ?_; intro gb cap wc hown hgrow hlies hgl; have HTc := Lib.hid ((hgrow.block (w.heap.size + 1) (by simp; omega) (fun e => by have := (HPgb.out.rG.lt _ e.symm).1; omega)).trans ((Below.heap_alloc wb _ _ hlb).trans HTb.out)); obtain ⟨c1, c2, c3, cf, ccl⟩ := blk3 HTc.out; have cf0 := cf 0; clear cf)
            | (go_simp; go_at_call 61; refine (pglobal_any wa.drew g ts HNU.out ρ 0 HPa.out.drw).mono ?_; rintro x wb ⟨rfl, hPb, hGb⟩; have HPb := Lib.hid hPb; have HRb := Lib.hid (kept_own hGb HRa.out hgR'); have HTb := Lib.hid (kept_own hGb HTa.out hgT'); have HPgb := Lib.hid ((HPga.out.keep (w' := wa.drew) fun _ _ _ => rfl).grown hGb (by omega)); have HGb := Lib.hid (grown_trans HGa.out (grown_trans (grown_drw (grown_below (Below.refl _ _))) hGb)); have hlb : w.heap.size + 1 < wb.heap.size := lt_of_block HTb.out; clear hPb hGb; obtain ⟨b1, b2, b3, -, -⟩ := blk3 HTb.out; generalize (Pa.sGlobal ts (Pa.xp ts ρ [118, 97, 114])).1 = a at *; generalize (Pa.sGlobal ts (Pa.xp ts ρ [118, 97, 114])).2 = τ2 at *))
          all_goals
            have hgo : ∀ b, b < w.heap.size + 2 → b < wb.heap.size → wc.heap[b]? = wb.heap[b]? := fun b hb hl => (hgrow.block b (by simp; omega) (fun e => by have := (HPgb.out.rG.lt _ e.symm).1; omega)).trans (Below.heap_alloc wb _ b hl)
            have HPgc := Lib.hid ((HPgb.out.alloc _).snocG a hown hgrow (lies_at hlies (by simp)))
            have HPc := Lib.hid (HPb.out.keep fun b hb => hgo b (by omega) (by have := HPb.out.lt; omega))
            have HGc : Hid (w.grownBy wc (some g)) := ⟨hgrow.os.trans HGb.out.os, hgrow.tape.trans HGb.out.tape, hgrow.output.trans HGb.out.output, Nat.le_trans HGb.out.size (Nat.le_trans (by simp) hgrow.size), fun b hb hne => (hgo b (by omega) (by omega)).trans (HGb.out.block b hb hne)⟩
            have HRc := Lib.hid ((hgo w.heap.size (by omega) (by omega)).trans HRb.out)
            have HQ := Lib.hid (show PutAt (w.heap.size + 1) wc (wc.setCell ⟨w.heap.size + 1, 0, none⟩ (.slice (some ⟨gb, 0, none⟩) (PG.length + 1) cap)) from (PutAt.refl _ wc).set 0 _)
            clear hown hgrow hlies hgl hgo HPgb HPb HRb HTb HGb c1 c2 c3 cf0
            go_wp2_with fail
            go_roundg f1
            case rel =>
              refine ⟨_, .slice AM PM.length cM, .slice AF PF.length cF, PG ++ [a], PM, PF, τ2, _, (HQ.out.2.2.2.2 _ (by omega)).trans HRc.out, blk3set0 _ HTc.out, HPgc.out.putAt HQ.out (by omega), HPc.out.putAt HQ.out (by omega), grown_putAt HGc.out HQ.out (by omega), fun hl => ?_, HRR.out⟩
              have h1 := HFW.out hl
              have h2 := HLM.out h1.1
              have h3 : (Pa.Sg.at_ k0).k = k0 := rfl
              rw [h3] at h2
              exact ⟨rfl, by simp; omega, by omega, by omega, by omega⟩
            case measure => omega
        | false =>
          have HN0 := Lib.hid hI
          clear hI
          go_wp2_with fail
          refine (psees_any w2 g ts (.at_ k0) 0 [109, 117, 116, 101, 120] HP2.out).mono ?_
          rintro x w3 ⟨rfl, hb3⟩
          have HP3 := Lib.hid (HP2.out.later hb3)
          have HR3 := Lib.hid ((hb3.block _ (by have := lt_of_block HR2.out; exact this)).trans HR2.out)
          have HT3 := Lib.hid ((hb3.block _ (by have := lt_of_block HT2.out; exact this)).trans HT2.out)
          have HPg3 := Lib.hid (HPg2.out.keep fun b _ hl => hb3.block b hl)
          have HG3 := Lib.hid (grown_trans HG2.out (grown_below (g := g) hb3))
          clear hb3 HP2 HR2 HT2 HPg2 HG2
          cases hI : Pa.isS ts (.at_ k0) [109, 117, 116, 101, 120] with
          | true =>
            obtain ⟨t1, t2, t3, -, -⟩ := blk3 HT3.out
            go_wp2_with fail
            refine (plimit_any w3 g ts (.at_ k0) 0 PM.length 12 _ 12 rfl rfl HP3.out).mono ?_
            rintro x wa ⟨rfl, hPa, hGa⟩
            have HPa := Lib.hid hPa
            have HRa := Lib.hid (kept_own hGa HR3.out hgR')
            have HTa := Lib.hid (kept_own hGa HT3.out hgT')
            have HPga := Lib.hid (HPg3.out.grown hGa (by omega))
            have HGa := Lib.hid (grown_trans HG3.out hGa)
            have hla : w.heap.size + 1 < wa.heap.size := lt_of_block HTa.out
            have HLM := Lib.hid (Pa.lm_fwd (.at_ k0) PM.length 12)
            have HRR : Hid (Pa.sProg ts f1 (Pa.sMutex ts false (Pa.ac ts (Pa.lm (.at_ k0) PM.length 12) [109, 117, 116, 101, 120])).2 ⟨PG, PM ++ [(Pa.sMutex ts false (Pa.ac ts (Pa.lm (.at_ k0) PM.length 12) [109, 117, 116, 101, 120])).1], PF.map (·.1)⟩ = R) := by
              show _ = _
              rw [← HR.out]
              exact (by rw [Pa.sProg, if_neg (fun h => by rcases h with h | h; cases h; rw [HE.out] at h; cases h), if_neg (by rw [HN0.out]; decide), if_pos hI])
            have HMX := Lib.hid (mx_eq_mutex ts (.at_ k0) PM.length 12 hI)
            clear hPa hGa t1 t2 t3 HP3 HR3 HT3 HPg3 HG3 hI HR
            generalize Pa.lm (.at_ k0) PM.length 12 = ρ at *
            obtain ⟨t1, t2, t3, -, -⟩ := blk3 HTa.out
            have HFW : Hid (Pa.Fws ρ (Pa.sMutex ts false (Pa.ac ts ρ [109, 117, 116, 101, 120])).2) := (Pa.ac_fwd ts ρ [109, 117, 116, 101, 120]).then (Pa.sMutex_fws ts false _)
            go_wp2_with fail
            go_region_law (first
              | (refine step_append_lies _ (by rfl) _ _ _ (by rfl) (w.heap.size + 2) 93 iM _ 3 32 Tryd.underlying41 hiM hgM0 hgM1 hgM2 rfl (by omega) (.slice AM PM.length cM) PM.length (mxK.cs PM) (by rfl) (HPgb.out.alloc _).rM ⟨wb.heap.size, 0, none⟩ 1 1 (mxK.cl ⟨nm, re, sz⟩) (by rfl) (by rfl) (news_any wb _ rfl _ _) (mxK.one ⟨nm, re, sz⟩) (by omega) (by unfold maxLen; omega) (by omega) (by simp; omega) (wb.heap.size + 1) (by simp) ?_; intro gb cap wc hown hgrow hlies hgl; have HTc := Lib.hid ((hgrow.block (w.heap.size + 1) (by simp; omega) (fun e => by have := (HPgb.out.rM.lt _ e.symm).1; omega)).trans ((Below.heap_alloc wb _ _ hlb).trans HTb.out)); obtain ⟨c1, c2, c3, cf, ccl⟩ := blk3 HTc.out; have cf0 := cf 1; clear cf)
              | (go_simp; go_at_call 62; refine (pmutex_any wa.drew g ts ρ 0 HPa.out.drw).mono ?_; rintro x wb ⟨nm, re, sz, rfl, hval, hPb, hGb⟩; have HVAL := Lib.hid hval; clear hval; have HPb := Lib.hid hPb; have HRb := Lib.hid (kept_own hGb HRa.out hgR'); have HTb := Lib.hid (kept_own hGb HTa.out hgT'); have HPgb := Lib.hid ((HPga.out.keep (w' := wa.drew) fun _ _ _ => rfl).grown hGb (by omega)); have HGb := Lib.hid (grown_trans HGa.out (grown_trans (grown_drw (grown_below (Below.refl _ _))) hGb)); have hlb : w.heap.size + 1 < wb.heap.size := lt_of_block HTb.out; clear hPb hGb; obtain ⟨b1, b2, b3, -, -⟩ := blk3 HTb.out; skip))
            all_goals
              have hgo : ∀ b, b < w.heap.size + 2 → b < wb.heap.size → wc.heap[b]? = wb.heap[b]? := fun b hb hl => (hgrow.block b (by simp; omega) (fun e => by have := (HPgb.out.rM.lt _ e.symm).1; omega)).trans (Below.heap_alloc wb _ b hl)
              have HPgc := Lib.hid ((HPgb.out.alloc _).snocM ⟨nm, re, sz⟩ hown hgrow (lies_at hlies (by simp)))
              have HPc := Lib.hid (HPb.out.keep fun b hb => hgo b (by omega) (by have := HPb.out.lt; omega))
              have HGc : Hid (w.grownBy wc (some g)) := ⟨hgrow.os.trans HGb.out.os, hgrow.tape.trans HGb.out.tape, hgrow.output.trans HGb.out.output, Nat.le_trans HGb.out.size (Nat.le_trans (by simp) hgrow.size), fun b hb hne => (hgo b (by omega) (by omega)).trans (HGb.out.block b hb hne)⟩
              have HRc := Lib.hid ((hgo w.heap.size (by omega) (by omega)).trans HRb.out)
              have HQ := Lib.hid (show PutAt (w.heap.size + 1) wc (wc.setCell ⟨w.heap.size + 1, 1, none⟩ (.slice (some ⟨gb, 0, none⟩) (PM.length + 1) cap)) from (PutAt.refl _ wc).set 1 _)
              clear hown hgrow hlies hgl hgo HPgb HPb HRb HTb HGb c1 c2 c3 cf0
              go_wp2_with fail
              go_roundg f1
              case rel =>
                have hst := HMX.out.1
                have hPcc := HPc.out
                rw [hst] at hPcc
                refine ⟨.slice AG PG.length cG, _, .slice AF PF.length cF, PG, PM ++ [⟨nm, re, sz⟩], PF, (Pa.sMutex ts false (Pa.ac ts ρ [109, 117, 116, 101, 120])).2, _, (HQ.out.2.2.2.2 _ (by omega)).trans HRc.out, blk3set1 _ HTc.out, HPgc.out.putAt HQ.out (by omega), hPcc.putAt HQ.out (by omega), grown_putAt HGc.out HQ.out (by omega), fun hl => ?_, HRR.out⟩
                have h1 := HFW.out hl
                have h2 := HLM.out h1.1
                have h3 : (Pa.Sg.at_ k0).k = k0 := rfl
                rw [h3] at h2
                refine ⟨?_, by omega, by simp; omega, by omega, by omega⟩
                have hl2 := hl
                rw [← hst] at hl2
                rw [← HMX.out.2 hl, HVAL.out hl2]
              case measure => omega
          | false =>
            have HN1 := Lib.hid hI
            clear hI
            go_wp2_with fail
            refine (psees_any w3 g ts (.at_ k0) 0 [114, 109, 117, 116, 101, 120] HP3.out).mono ?_
            rintro x w4 ⟨rfl, hb4⟩
            have HP4 := Lib.hid (HP3.out.later hb4)
            have HR4 := Lib.hid ((hb4.block _ (by have := lt_of_block HR3.out; exact this)).trans HR3.out)
            have HT4 := Lib.hid ((hb4.block _ (by have := lt_of_block HT3.out; exact this)).trans HT3.out)
            have HPg4 := Lib.hid (HPg3.out.keep fun b _ hl => hb4.block b hl)
            have HG4 := Lib.hid (grown_trans HG3.out (grown_below (g := g) hb4))
            clear hb4 HP3 HR3 HT3 HPg3 HG3
            cases hI : Pa.isS ts (.at_ k0) [114, 109, 117, 116, 101, 120] with
            | true =>
              obtain ⟨t1, t2, t3, -, -⟩ := blk3 HT4.out
              go_wp2_with fail
              refine (plimit_any w4 g ts (.at_ k0) 0 PM.length 12 _ 12 rfl rfl HP4.out).mono ?_
              rintro x wa ⟨rfl, hPa, hGa⟩
              have HPa := Lib.hid hPa
              have HRa := Lib.hid (kept_own hGa HR4.out hgR')
              have HTa := Lib.hid (kept_own hGa HT4.out hgT')
              have HPga := Lib.hid (HPg4.out.grown hGa (by omega))
              have HGa := Lib.hid (grown_trans HG4.out hGa)
              have hla : w.heap.size + 1 < wa.heap.size := lt_of_block HTa.out
              have HLM := Lib.hid (Pa.lm_fwd (.at_ k0) PM.length 12)
              have HRR : Hid (Pa.sProg ts f1 (Pa.sMutex ts true (Pa.ac ts (Pa.lm (.at_ k0) PM.length 12) [114, 109, 117, 116, 101, 120])).2 ⟨PG, PM ++ [(Pa.sMutex ts true (Pa.ac ts (Pa.lm (.at_ k0) PM.length 12) [114, 109, 117, 116, 101, 120])).1], PF.map (·.1)⟩ = R) := by
                show _ = _
                rw [← HR.out]
                exact (by rw [Pa.sProg, if_neg (fun h => by rcases h with h | h; cases h; rw [HE.out] at h; cases h), if_neg (by rw [HN0.out]; decide), if_neg (by rw [HN1.out]; decide), if_pos hI])
              have HMX := Lib.hid (mx_eq_rmutex ts (.at_ k0) PM.length 12 hI)
              clear hPa hGa t1 t2 t3 HP4 HR4 HT4 HPg4 HG4 hI HR
              generalize Pa.lm (.at_ k0) PM.length 12 = ρ at *
              obtain ⟨t1, t2, t3, -, -⟩ := blk3 HTa.out
              have HFW : Hid (Pa.Fws ρ (Pa.sMutex ts true (Pa.ac ts ρ [114, 109, 117, 116, 101, 120])).2) := (Pa.ac_fwd ts ρ [114, 109, 117, 116, 101, 120]).then (Pa.sMutex_fws ts true _)
              go_wp2_with fail
              go_region_law (first
                | (refine step_append_lies _ (by rfl) _ _ _ (by rfl) (w.heap.size + 2) 93 iM _ 3 32 Tryd.underlying41 hiM hgM0 hgM1 hgM2 rfl (by omega) (.slice AM PM.length cM) PM.length (mxK.cs PM) (by rfl) (HPgb.out.alloc _).rM ⟨wb.heap.size, 0, none⟩ 1 1 (mxK.cl ⟨nm, re, sz⟩) (by rfl) (by rfl) (news_any wb _ rfl _ _) (mxK.one ⟨nm, re, sz⟩) (by omega) (by unfold maxLen; omega) (by omega) (by simp; omega) (wb.heap.size + 1) (by simp) ?_; intro gb cap wc hown hgrow hlies hgl; have HTc := Lib.hid ((hgrow.block (w.heap.size + 1) (by simp; omega) (fun e => by have := (HPgb.out.rM.lt _ e.symm).1; omega)).trans ((Below.heap_alloc wb _ _ hlb).trans HTb.out)); obtain ⟨c1, c2, c3, cf, ccl⟩ := blk3 HTc.out; have cf0 := cf 1; clear cf)
                | (go_simp; go_at_call 62; refine (pmutex_any wa.drew g ts ρ 0 HPa.out.drw).mono ?_; rintro x wb ⟨nm, re, sz, rfl, hval, hPb, hGb⟩; have HVAL := Lib.hid hval; clear hval; have HPb := Lib.hid hPb; have HRb := Lib.hid (kept_own hGb HRa.out hgR'); have HTb := Lib.hid (kept_own hGb HTa.out hgT'); have HPgb := Lib.hid ((HPga.out.keep (w' := wa.drew) fun _ _ _ => rfl).grown hGb (by omega)); have HGb := Lib.hid (grown_trans HGa.out (grown_trans (grown_drw (grown_below (Below.refl _ _))) hGb)); have hlb : w.heap.size + 1 < wb.heap.size := lt_of_block HTb.out; clear hPb hGb; obtain ⟨b1, b2, b3, -, -⟩ := blk3 HTb.out; skip))
              all_goals
                have hgo : ∀ b, b < w.heap.size + 2 → b < wb.heap.size → wc.heap[b]? = wb.heap[b]? := fun b hb hl => (hgrow.block b (by simp; omega) (fun e => by have := (HPgb.out.rM.lt _ e.symm).1; omega)).trans (Below.heap_alloc wb _ b hl)
                have HPgc := Lib.hid ((HPgb.out.alloc _).snocM ⟨nm, re, sz⟩ hown hgrow (lies_at hlies (by simp)))
                have HPc := Lib.hid (HPb.out.keep fun b hb => hgo b (by omega) (by have := HPb.out.lt; omega))
                have HGc : Hid (w.grownBy wc (some g)) := ⟨hgrow.os.trans HGb.out.os, hgrow.tape.trans HGb.out.tape, hgrow.output.trans HGb.out.output, Nat.le_trans HGb.out.size (Nat.le_trans (by simp) hgrow.size), fun b hb hne => (hgo b (by omega) (by omega)).trans (HGb.out.block b hb hne)⟩
                have HRc := Lib.hid ((hgo w.heap.size (by omega) (by omega)).trans HRb.out)
                have HQ := Lib.hid (show PutAt (w.heap.size + 1) wc (wc.setCell ⟨w.heap.size + 1, 1, none⟩ (.slice (some ⟨gb, 0, none⟩) (PM.length + 1) cap)) from (PutAt.refl _ wc).set 1 _)
                clear hown hgrow hlies hgl hgo HPgb HPb HRb HTb HGb c1 c2 c3 cf0
                go_wp2_with fail
                go_roundg f1
                case rel =>
                  have hst := HMX.out.1
                  have hPcc := HPc.out
                  rw [hst] at hPcc
                  refine ⟨.slice AG PG.length cG, _, .slice AF PF.length cF, PG, PM ++ [⟨nm, re, sz⟩], PF, (Pa.sMutex ts true (Pa.ac ts ρ [114, 109, 117, 116, 101, 120])).2, _, (HQ.out.2.2.2.2 _ (by omega)).trans HRc.out, blk3set1 _ HTc.out, HPgc.out.putAt HQ.out (by omega), hPcc.putAt HQ.out (by omega), grown_putAt HGc.out HQ.out (by omega), fun hl => ?_, HRR.out⟩
                  have h1 := HFW.out hl
                  have h2 := HLM.out h1.1
                  have h3 : (Pa.Sg.at_ k0).k = k0 := rfl
                  rw [h3] at h2
                  refine ⟨?_, by omega, by simp; omega, by omega, by omega⟩
                  have hl2 := hl
                  rw [← hst] at hl2
                  rw [← HMX.out.2 hl, HVAL.out hl2]
                case measure => omega
            | false =>
              have HN2 := Lib.hid hI
              clear hI
              go_wp2_with fail
              refine (psees_any w4 g ts (.at_ k0) 0 [102, 117, 110, 99] HP4.out).mono ?_
              rintro x w5 ⟨rfl, hb5⟩
              have HP5 := Lib.hid (HP4.out.later hb5)
              have HR5 := Lib.hid ((hb5.block _ (by have := lt_of_block HR4.out; exact this)).trans HR4.out)
              have HT5 := Lib.hid ((hb5.block _ (by have := lt_of_block HT4.out; exact this)).trans HT4.out)
              have HPg5 := Lib.hid (HPg4.out.keep fun b _ hl => hb5.block b hl)
              have HG5 := Lib.hid (grown_trans HG4.out (grown_below (g := g) hb5))
              clear hb5 HP4 HR4 HT4 HPg4 HG4
              cases hI : Pa.isS ts (.at_ k0) [102, 117, 110, 99] with
              | true =>
                obtain ⟨t1, t2, t3, -, -⟩ := blk3 HT5.out
                go_wp2_with fail
                refine (plimit_any w5 g ts (.at_ k0) 0 PF.length 16 _ 16 rfl rfl HP5.out).mono ?_
                rintro x wa ⟨rfl, hPa, hGa⟩
                have HPa := Lib.hid hPa
                have HRa := Lib.hid (kept_own hGa HR5.out hgR')
                have HTa := Lib.hid (kept_own hGa HT5.out hgT')
                have HPga := Lib.hid (HPg5.out.grown hGa (by omega))
                have HGa := Lib.hid (grown_trans HG5.out hGa)
                have hla : w.heap.size + 1 < wa.heap.size := lt_of_block HTa.out
                have HLM := Lib.hid (Pa.lm_fwd (.at_ k0) PF.length 16)
                have HRR : Hid (Pa.sProg ts f1 (Pa.sFunc ts (Pa.ac ts (Pa.lm (.at_ k0) PF.length 16) [102, 117, 110, 99])).2 ⟨PG, PM, PF.map (·.1) ++ [(Pa.sFunc ts (Pa.ac ts (Pa.lm (.at_ k0) PF.length 16) [102, 117, 110, 99])).1]⟩ = R) := by
                  show _ = _
                  rw [← HR.out]
                  exact (by rw [Pa.sProg, if_neg (fun h => by rcases h with h | h; cases h; rw [HE.out] at h; cases h), if_neg (by rw [HN0.out]; decide), if_neg (by rw [HN1.out]; decide), if_neg (by rw [HN2.out]; decide), if_pos hI]; simp only [List.length_map])
                have HXA := Lib.hid (Pa.xp_ac ts (.at_ k0) PF.length 16 [102, 117, 110, 99] hI)
                rw [← HXA.out] at HRR
                clear hPa hGa t1 t2 t3 HP5 HR5 HT5 HPg5 HG5 hI HR HXA
                generalize Pa.lm (.at_ k0) PF.length 16 = ρ at *
                obtain ⟨t1, t2, t3, -, -⟩ := blk3 HTa.out
                have HFW := Lib.hid ((Pa.xp_fws ts ρ [102, 117, 110, 99]).then (Pa.sFunc_fws ts (Pa.xp ts ρ [102, 117, 110, 99])).fwd)
                go_wp2_with fail
                go_region_law (first
                  | (refine step_append_lies _ (by rfl) _ _ _ (by rfl) (w.heap.size + 2) 64 iF _ 3 64 Tryd.underlying42 hiF hgF0 hgF1 hgF2 rfl (by omega) (.slice AF PF.length cF) PF.length (fnK.cs PF) (by rfl) (HPgb.out.alloc _).rF ⟨wb.heap.size, 0, none⟩ 1 1 (fnK.cl (a, ⟨fA, fc, fB, fd⟩)) (by rfl) (by rfl) (news_any wb _ rfl _ _) (fnK.one (a, ⟨fA, fc, fB, fd⟩)) (by omega) (by unfold maxLen; omega) (by omega) (by simp; omega) (wb.heap.size + 1) (by simp) ?_; intro gb cap wc hown hgrow hlies hgl; have HTc := Lib.hid ((hgrow.block (w.heap.size + 1) (by simp; omega) (fun e => by have := (HPgb.out.rF.lt _ e.symm).1; omega)).trans ((Below.heap_alloc wb _ _ hlb).trans HTb.out)); obtain ⟨c1, c2, c3, cf, ccl⟩ := blk3 HTc.out; have cf0 := cf 2; clear cf)
                  | (go_simp; go_at_call 63; refine (pfunc_any wa.drew g ts ρ HPa.out.drw (HS.out.grown (grown_drw HGa.out))).mono ?_; rintro x wb ⟨fA, fc, fB, fd, rfl, hX1, hX2, hPb, hGb⟩; have HPb := Lib.hid hPb; have HRb := Lib.hid (kept_own hGb HRa.out hgR'); have HTb := Lib.hid (kept_own hGb HTa.out hgT'); have HPgb := Lib.hid ((HPga.out.keep (w' := wa.drew) fun _ _ _ => rfl).grown hGb (by omega)); have HGb := Lib.hid (grown_trans HGa.out (grown_trans (grown_drw (grown_below (Below.refl _ _))) hGb)); have hlb : w.heap.size + 1 < wb.heap.size := lt_of_block HTb.out; clear hPb hGb; obtain ⟨b1, b2, b3, -, -⟩ := blk3 HTb.out; have HIN : Hid (fnK.In wb (wa.heap.size ≤ ·) ((Pa.sFunc ts (Pa.xp ts ρ [102, 117, 110, 99])).1, ⟨fA, fc, fB, fd⟩)) := ⟨hX1, hX2⟩; clear hX1 hX2; generalize (Pa.sFunc ts (Pa.xp ts ρ [102, 117, 110, 99])).1 = a at *; generalize (Pa.sFunc ts (Pa.xp ts ρ [102, 117, 110, 99])).2 = τ2 at *))
                all_goals
                  have hgo : ∀ b, b < w.heap.size + 2 → b < wb.heap.size → wc.heap[b]? = wb.heap[b]? := fun b hb hl => (hgrow.block b (by simp; omega) (fun e => by have := (HPgb.out.rF.lt _ e.symm).1; omega)).trans (Below.heap_alloc wb _ b hl)
                  have HPgc := Lib.hid ((HPgb.out.alloc _).snocF (a, ⟨fA, fc, fB, fd⟩) (fnK.keep (HPga.out.fresh HIN.out (Nat.le_refl _) (by omega)) fun b _ hl => Below.heap_alloc wb _ b hl) hown hgrow (lies_at hlies (by simp)))
                  have HPc := Lib.hid (HPb.out.keep fun b hb => hgo b (by omega) (by have := HPb.out.lt; omega))
                  have HGc : Hid (w.grownBy wc (some g)) := ⟨hgrow.os.trans HGb.out.os, hgrow.tape.trans HGb.out.tape, hgrow.output.trans HGb.out.output, Nat.le_trans HGb.out.size (Nat.le_trans (by simp) hgrow.size), fun b hb hne => (hgo b (by omega) (by omega)).trans (HGb.out.block b hb hne)⟩
                  have HRc := Lib.hid ((hgo w.heap.size (by omega) (by omega)).trans HRb.out)
                  have HQ := Lib.hid (show PutAt (w.heap.size + 1) wc (wc.setCell ⟨w.heap.size + 1, 2, none⟩ (.slice (some ⟨gb, 0, none⟩) (PF.length + 1) cap)) from (PutAt.refl _ wc).set 2 _)
                  clear hown hgrow hlies hgl hgo HPgb HPb HRb HTb HGb c1 c2 c3 cf0
                  go_wp2_with fail
                  go_roundg f1
                  case rel =>
                    refine ⟨.slice AG PG.length cG, .slice AM PM.length cM, _, PG, PM, PF ++ [(a, ⟨fA, fc, fB, fd⟩)], τ2, _, (HQ.out.2.2.2.2 _ (by omega)).trans HRc.out, blk3set2 _ HTc.out, HPgc.out.putAt HQ.out (by omega), HPc.out.putAt HQ.out (by omega), grown_putAt HGc.out HQ.out (by omega), fun hl => ?_, HRR.out⟩
                    have h1 := HFW.out hl
                    have h2 := HLM.out h1.1
                    have h3 : (Pa.Sg.at_ k0).k = k0 := rfl
                    rw [h3] at h2
                    exact ⟨by simp, by omega, by omega, by simp; omega, by omega⟩
                  case measure => omega
              | false =>
                have HRR : Hid (R = (⟨PG, PM, PF.map (·.1)⟩, Pa.fl (.at_ k0) 4)) := by
                  show _ = _
                  rw [← HR.out]
                  exact (by rw [Pa.sProg, if_neg (fun h => by rcases h with h | h; cases h; rw [HE.out] at h; cases h), if_neg (by rw [HN0.out]; decide), if_neg (by rw [HN1.out]; decide), if_neg (by rw [HN2.out]; decide), if_neg (by rw [hI]; decide)])
                clear hI HR
                go_wp2_with fail
                refine (pfail_any w5 g ts (.at_ k0) 0 4 4 rfl (by omega) HP5.out).mono ?_
                rintro x w6 ⟨rfl, hP6, hG6⟩
                have HP6 := Lib.hid hP6
                have HR6 := Lib.hid (kept_own hG6 HR5.out hgR')
                have HT6 := Lib.hid (kept_own hG6 HT5.out hgT')
                have HPg6 := Lib.hid (HPg5.out.grown hG6 (by omega))
                have HG6 := Lib.hid (grown_trans HG5.out hG6)
                clear hP6 hG6
                go_wp2_with fail
                go_roundg f1
                case rel =>
                  refine ⟨_, _, _, PG, PM, PF, Pa.fl (.at_ k0) 4, ⟨PG, PM, PF.map (·.1)⟩, HR6.out, HT6.out, HPg6.out, HP6.out, HG6.out, (fun h => by cases h), ?_⟩
                  rw [HRR.out]
                  exact Pa.sProg_dead ts _ _ _ rfl
                case measure => omega
end Go.Proofs.YtjjooekkieddbaaDoor

namespace Go.Proofs.YtjjooekkieddbaaDoor
open Go.RowKit

/-- what tokens without an error are like -/
structure LexOk (ts : List Tk.Tok) : Prop where
  pos : 0 < ts.length
  last : Ps.kindAt ts (ts.length - 1) = 5
  num : ∀ k, Ps.numAt ts k ≤ 9223372036854775807
def posAt (ts : List Tk.Tok) (k : Nat) : Nat := match ts[k]? with | some t => t.pos | none => 0
def noPg : Pg := ⟨[], [], []⟩
/-- the program of tokens, the offset, the error -/
def progT (ts : List Tk.Tok) (n : Nat) : Pg × Nat × Nat :=
  if (Pa.sProg ts ts.length (.at_ 0) noPg).2.live = true then ((Pa.sProg ts ts.length (.at_ 0) noPg).1, n, 0) else (noPg, posAt ts (Pa.sProg ts ts.length (.at_ 0) noPg).2.k, (Pa.sProg ts ts.length (.at_ 0) noPg).2.e)
def progV (l : List UInt8) : Pg × Nat × Nat := if (Tk.lex l).2.2 = 0 then progT (Tk.lex l).1 l.length else (noPg, (Tk.lex l).2.1, (Tk.lex l).2.2)
/-- what Program leaves -/
def PrgPost (w : World) (V : Pg × Nat × Nat) (e : Ending) (w' : World) : Prop :=
  ∃ vG vM vF PG PM PF B, e = .returned (.tuple #[.agg #[vG, vM, vF], .int .i64 (V.2.1 : Int), .int .i64 (V.2.2 : Int)]) ∧ w.heap.size ≤ B ∧ PgR w' B vG vM vF PG PM PF ∧ V.1 = ⟨PG, PM, PF.map (·.1)⟩ ∧ Below w.heap.size w w'
theorem pps_new {w : World} {ts : List Tk.Tok} {A : Option Addr} {c : Nat} (hT : TokS w A ts) (hL : LexOk ts) (hn : ts.length ≤ 1000000) :
    Pps (w.alloc (.cells #[.slice A ts.length c, .int .i64 0, .int .i64 0, .int .i64 0] 68)) w.heap.size ts (.at_ 0) 0 := by
  refine ⟨A, c, heap_alloc_new w _, hL.pos, by omega, hn, (fun h => by cases h), hL.last, fun i hi => ?_⟩
  obtain ⟨b, e, h0, h1, h2, h3⟩ := hT i hi
  have hbl : b < w.heap.size := World.block_lt_of_cell? _ _ h0
  have e1 : ∀ o', (w.alloc (.cells #[.slice A ts.length c, .int .i64 0, .int .i64 0, .int .i64 0] 68)).cell? ⟨b, o', none⟩ = w.cell? ⟨b, o', none⟩ := fun o' => World.cell?_of_block (Below.heap_alloc w _ b hbl)
  exact ⟨b, e, hbl, (e1 _).trans h0, (e1 _).trans h1, (e1 _).trans h2, (e1 _).trans h3⟩
theorem below_putR {w w' w'' : World} {r : Nat} (h : Below w.heap.size w w') (hp : PutAt r w' w'') (hr : w.heap.size ≤ r) : Below w.heap.size w w'' :=
  ⟨hp.1.trans h.os, hp.2.1.trans h.tape, hp.2.2.1.trans h.output, by have := h.size; have := hp.2.2.2.1; omega, fun b hb => (hp.2.2.2.2 b (by omega)).trans (h.block b hb)⟩

set_option maxRecDepth 100000 in
set_option maxHeartbeats 4000000 in
theorem pProgram_any (l : List UInt8) (ao : Option Addr) (cap : Nat) (w : World) (hB : Byt w ao l) (hl : l.length ≤ 262144) (hcap : l.length ≤ cap) (hS : SgT w) (hL : (Tk.lex l).2.2 = 0 → LexOk (Tk.lex l).1) :
    Calls Tryd.prog 17 #[.slice ao l.length cap] w (PrgPost w (progV l)) := by
  have HLX := Lib.hid (fun (o : Obj) => lex_any l ao cap (w.alloc o) (hB.later ((Below.refl _ _).alloc (Nat.le_refl _) _)) hl hcap)
  have hlen := lex_len l
  have HS := Lib.hid hS
  have HL := Lib.hid hL
  have HV : Hid (progV l = if (Tk.lex l).2.2 = 0 then progT (Tk.lex l).1 l.length else (noPg, (Tk.lex l).2.1, (Tk.lex l).2.2)) := rfl
  clear hB hcap hS hL
  go_enter Tryd.func17, Tryd.ntmps17
  go_wp2_with fail
  refine (HLX.out _).mono ?_
  intro e w1 hLP
  obtain ⟨A, c, rfl, hT, hb1⟩ := lexPost_open hLP
  have HT := Lib.hid hT
  have HR1 := Lib.hid ((hb1.block w.heap.size (by simp)).trans (heap_alloc_new w _))
  have HB1 : Hid (Below w.heap.size w w1) := below_rev (w1 := w.alloc _) hb1 ((Below.refl _ _).alloc (Nat.le_refl _) _)
  have hl1 : w.heap.size < w1.heap.size := lt_of_block HR1.out
  clear hLP hT hb1 HLX
  generalize (Tk.lex l).1 = ts at *
  generalize (Tk.lex l).2.1 = n0 at *
  generalize (Tk.lex l).2.2 = e0 at *
  by_cases he : e0 = 0
  · subst he
    have hLO := HL.out rfl
    have HLO := Lib.hid hLO
    have HV2 : Hid (progV l = progT ts l.length) := HV.out.trans (if_pos rfl)
    have hP1 := pps_new (c := c) HT.out hLO (by omega)
    have HSG : Hid (SgG (w1.alloc (.cells #[.slice A ts.length c, .int .i64 0, .int .i64 0, .int .i64 0] 68)) w1.heap.size) := ⟨(HS.out.later HB1.out).later ((Below.refl _ _).alloc (Nat.le_refl _) _), (HS.out.later HB1.out).lt⟩
    have HP1 := Lib.hid hP1
    clear hLO hP1 HV HL
    go_wp2_with fail
    refine (pprogram_any _ w1.heap.size ts HLO.out.num (.at_ 0) ts.length (by simp) HP1.out HSG.out).mono ?_
    rintro x w2 ⟨vG, vM, vF, PG, PM, PF, rfl, hPg, hval, hP2, hG2⟩
    have HPg := Lib.hid hPg
    have HP2 := Lib.hid hP2
    have HR2 := Lib.hid (kept_own hG2 ((Below.heap_alloc w1 _ w.heap.size hl1).trans HR1.out) (by omega))
    have hl2 : w1.heap.size < w2.heap.size := hP2.lt
    have HG2 := Lib.hid hG2
    have HV3 : Hid (progV l = if (Pa.sProg ts ts.length (.at_ 0) ⟨[], [], []⟩).2.live = true then ((Pa.sProg ts ts.length (.at_ 0) ⟨[], [], []⟩).1, l.length, 0) else (noPg, posAt ts (Pa.sProg ts ts.length (.at_ 0) ⟨[], [], []⟩).2.k, (Pa.sProg ts ts.length (.at_ 0) ⟨[], [], []⟩).2.e)) := HV2.out
    have HVA := Lib.hid hval
    clear hPg hP2 hG2 hval HV2 HP1 HSG HR1
    generalize Pa.sProg ts ts.length (.at_ 0) ⟨[], [], []⟩ = R at *
    obtain ⟨p, τ⟩ := R
    obtain ⟨AG, cG, rfl⟩ := slice_form HPg.out.rG
    obtain ⟨AM, cM, rfl⟩ := slice_form HPg.out.rM
    obtain ⟨AF, cF, rfl⟩ := slice_form HPg.out.rF
    have HRn := Lib.hid ((Below.heap_alloc w2 (.cells #[.slice AG PG.length cG, .slice AM PM.length cM, .slice AF PF.length cF] 44) w.heap.size (by omega)).trans HR2.out)
    have HPn : Hid (Pps (w2.alloc (.cells #[.slice AG PG.length cG, .slice AM PM.length cM, .slice AF PF.length cF] 44)) w1.heap.size ts τ 0) := HP2.out.alloc _
    have HBn : Hid (Below w.heap.size w (w2.alloc (.cells #[.slice AG PG.length cG, .slice AM PM.length cM, .slice AF PF.length cF] 44))) :=
      HB1.out.trans ⟨HG2.out.os, HG2.out.tape, HG2.out.output, by have := HG2.out.size; simp at this ⊢; omega, fun b hb => (Below.heap_alloc w2 _ b (by omega)).trans ((HG2.out.block b (by simp; omega) (fun e => by injection e with e; omega)).trans (Below.heap_alloc w1 _ b (by omega)))⟩
    have HTn : Hid (TokS (w2.alloc (.cells #[.slice AG PG.length cG, .slice AM PM.length cM, .slice AF PF.length cF] 44)) A ts) := fun i hi => by
      obtain ⟨b, e, h0, h1, h2, h3⟩ := HT.out i hi
      have hbl : b < w1.heap.size := World.block_lt_of_cell? _ _ h0
      have e1 : ∀ o', (w2.alloc (.cells #[.slice AG PG.length cG, .slice AM PM.length cM, .slice AF PF.length cF] 44)).cell? ⟨b, o', none⟩ = w1.cell? ⟨b, o', none⟩ := fun o' => World.cell?_of_block ((Below.heap_alloc w2 _ b (by omega)).trans ((HG2.out.block b (by simp; omega) (fun e => by injection e with e; omega)).trans (Below.heap_alloc w1 _ b (by omega))))
      exact ⟨b, e, (e1 _).trans h0, (e1 _).trans h1, (e1 _).trans h2, (e1 _).trans h3⟩
    obtain ⟨n0', n1', n2', -, -⟩ := blk3 (heap_alloc_new w2 (.cells #[.slice AG PG.length cG, .slice AM PM.length cM, .slice AF PF.length cF] 44))
    obtain ⟨r0, r1, r2, rf, -⟩ := blk3 HRn.out
    have f0 := rf 0
    have f1 := rf 1
    have f2 := rf 2
    clear rf
    obtain ⟨br, cr, -, -, -, s1, -, s3, -⟩ := HPn.out.cells
    cases τ with
    | at_ k0 =>
      have t0 : (((Pa.Sg.at_ k0).e : Int) != 0) = false := rfl
      have HV4 : Hid (progV l = (p, l.length, 0)) := HV3.out
      have HV5 : Hid (p = ⟨PG, PM, PF.map (·.1)⟩) := HVA.out rfl
      clear HV3 HVA s1 HTn
      go_wp2_with fail
      have hq : PutAt w.heap.size (w2.alloc (.cells #[.slice AG PG.length cG, .slice AM PM.length cM, .slice AF PF.length cF] 44)) _ := (((PutAt.refl w.heap.size _).set 0 (.slice AG PG.length cG)).set 1 (.slice AM PM.length cM)).set 2 (.slice AF PF.length cF)
      refine bodyPost_ret (v := .tuple #[.agg #[.slice AG PG.length cG, .slice AM PM.length cM, .slice AF PF.length cF], .int .i64 (l.length : Int), .int .i64 0]) (by simp [results, Tryd.results17, go_sem, r0, r1, r2]) rfl ⟨_, _, _, PG, PM, PF, (w1.alloc (.cells #[.slice A ts.length c, .int .i64 0, .int .i64 0, .int .i64 0] 68)).heap.size + 2, by rw [HV4.out]; rfl, by simp; omega, (HPg.out.alloc _).putAt hq (by simp; omega), by rw [HV4.out, HV5.out], below_putR HBn.out hq (Nat.le_refl _)⟩
    | bad m e =>
      have he : e ≠ 0 := HP2.out.err rfl
      have t0 : (((Pa.Sg.bad m e).e : Int) != 0) = true := nT (show ((e : Nat) : Int) ≠ 0 by omega)
      have HV4 : Hid (progV l = (noPg, posAt ts m, e)) := HV3.out
      have hm : m < ts.length := by obtain ⟨_, _, _, h, _⟩ := HP2.out; exact h
      have e1 : (Pa.Sg.bad m e).k = m := rfl
      have e2 : (Pa.Sg.bad m e).e = e := rfl
      rw [e1] at s1
      rw [e2] at s3 t0
      have hm4 : ts.length ≤ 4001 := hlen
      have hwn : w.heap.size ≠ w1.heap.size := by omega
      have hnw : w1.heap.size ≠ w.heap.size := by omega
      obtain ⟨b, hA, h0, -, -, h3⟩ := HTn.out m hm
      have hbw : b ≠ w.heap.size := by
        rintro rfl
        have hx := HRn.out
        simp [World.cell?, hx] at h3
      have hwb : w.heap.size ≠ b := hbw.symm
      have HM : Hid (posAt ts m = ts[m].pos) := by show _ = _; unfold posAt; rw [List.getElem?_eq_getElem hm]
      have i0 : (0 : Int) ≤ (m : Int) := by omega
      have i1 : (m : Int) < (ts.length : Int) := by omega
      generalize ts[m].pos = q at *
      generalize ts[m].kind = q' at *
      subst hA
      clear HV3 HVA e1 e2 he HTn HPn HP2 HG2 HT HPg HRn HR2 n0' n1' n2' h0
      go_wp2_with fail
      generalize w2.alloc (.cells #[.slice AG PG.length cG, .slice AM PM.length cM, .slice AF PF.length cF] 44) = W at *
      go_region
      all_goals
        go_wp2
        have hq : PutAt w.heap.size W _ := (((PutAt.refl w.heap.size W).set 0 (.slice none 0 0)).set 1 (.slice none 0 0)).set 2 (.slice none 0 0)
        refine bodyPost_ret (v := .tuple #[.agg #[.slice none 0 0, .slice none 0 0, .slice none 0 0], .int .i64 (q : Int), .int .i64 (e : Int)]) (by simp [results, Tryd.results17, go_sem, r0, r1, r2]) rfl ⟨_, _, _, [], [], [], w.heap.size, by rw [HV4.out, HM.out], Nat.le_refl _, PgR.nil _ _, by rw [HV4.out]; rfl, (below_putR HBn.out hq (Nat.le_refl _)).drew⟩
  · have HV2 : Hid (progV l = (noPg, n0, e0)) := HV.out.trans (if_neg he)
    have t0 : (((e0 : Nat) : Int) != 0) = true := nT (show ((e0 : Nat) : Int) ≠ 0 by omega)
    obtain ⟨r0, r1, r2, rf, -⟩ := blk3 HR1.out
    have f0 := rf 0
    have f1 := rf 1
    have f2 := rf 2
    clear rf he HV HL
    go_wp2_with fail
    have hq : PutAt w.heap.size w1 _ := (((PutAt.refl w.heap.size w1).set 0 (.slice none 0 0)).set 1 (.slice none 0 0)).set 2 (.slice none 0 0)
    refine bodyPost_ret (v := .tuple #[.agg #[.slice none 0 0, .slice none 0 0, .slice none 0 0], .int .i64 (n0 : Int), .int .i64 (e0 : Int)]) (by simp [results, Tryd.results17, go_sem, r0, r1, r2]) rfl ⟨_, _, _, [], [], [], w1.heap.size, by rw [HV2.out], by omega, PgR.nil _ _, by rw [HV2.out]; rfl, below_putR HB1.out hq (Nat.le_refl _)⟩
end Go.Proofs.YtjjooekkieddbaaDoor

namespace Go.Proofs.YtjjooekkieddbaaDoor

/-- what each token of a text is like -/
structure TokZ (t : Tk.Tok) : Prop where
  num : t.num ≤ 9223372036854775807
  name : t.kind = 1 → Tk.resv t.text = false
  word : t.kind = 3 → Tk.resv t.text = true
  sign : t.kind = 4 → Tk.isSg t.text = true
theorem numVal_le (s : List UInt8) : ∀ n m, n ≤ 9223372036854775807 → Tk.numVal n s = some m → m ≤ 9223372036854775807 := by
  induction s with
  | nil =>
    intro n m hn h
    injection h with h
    omega
  | cons c r ih =>
    intro n m hn h
    rw [Tk.numVal] at h
    split at h
    · cases h
    · have hc : c.toNat < 256 := c.toBitVec.isLt
      exact ih _ m (by omega) h
theorem tokAt_z (b : List UInt8) (k : Nat) (t : Tk.Tok) (h : Tk.tokAt b k = .ok t) : TokZ t := by
  unfold Tk.tokAt at h
  split at h
  · unfold Tk.nameAt at h
    dsimp only at h
    split at h
    · cases h
    · injection h with h
      subst h
      split
      · rename_i hr
        exact ⟨by simp, (fun e => absurd (show (3 : Nat) = 1 from e) (by decide)), fun _ => hr, (fun e => absurd (show (3 : Nat) = 4 from e) (by decide))⟩
      · rename_i hr
        exact ⟨by simp, fun _ => by simpa using hr, (fun e => absurd (show (1 : Nat) = 3 from e) (by decide)), (fun e => absurd (show (1 : Nat) = 4 from e) (by decide))⟩
  split at h
  · unfold Tk.numAt at h
    dsimp only at h
    split at h
    · cases h
    · rename_i n hn
      injection h with h
      subst h
      exact ⟨numVal_le _ 0 n (by omega) hn, (fun e => absurd (show (2 : Nat) = 1 from e) (by decide)), (fun e => absurd (show (2 : Nat) = 3 from e) (by decide)), (fun e => absurd (show (2 : Nat) = 4 from e) (by decide))⟩
  · unfold Tk.signAt at h
    split at h
    · rename_i hs
      injection h with h
      subst h
      exact ⟨by simp, (fun e => absurd (show (4 : Nat) = 1 from e) (by decide)), (fun e => absurd (show (4 : Nat) = 3 from e) (by decide)), fun _ => by show Tk.isSg _ = true; unfold Tk.isSg; rw [hs.2]; rfl⟩
    split at h
    · rename_i hs
      injection h with h
      subst h
      exact ⟨by simp, (fun e => absurd (show (4 : Nat) = 1 from e) (by decide)), (fun e => absurd (show (4 : Nat) = 3 from e) (by decide)), fun _ => by show Tk.isSg _ = true; unfold Tk.isSg; rw [hs, Bool.or_true]⟩
    · cases h
theorem tokZ_end (n : Nat) : TokZ ⟨5, [], 0, n⟩ := ⟨by simp, (fun e => absurd (show (5 : Nat) = 1 from e) (by decide)), (fun e => absurd (show (5 : Nat) = 3 from e) (by decide)), (fun e => absurd (show (5 : Nat) = 4 from e) (by decide))⟩
theorem lexGo_z (l : List UInt8) (f : Nat) : ∀ (k : Nat) (acc : List Tk.Tok), k ≤ l.length → l.length - k < f → (∀ t ∈ acc, TokZ t) → (Tk.lexGo f l k acc).2.2 = 0 →
    ∃ ts, (Tk.lexGo f l k acc).1 = ts ++ [⟨5, [], 0, l.length⟩] ∧ ∀ t ∈ ts, TokZ t := by
  induction f with
  | zero => intro k acc _ h; omega
  | succ f ih =>
    intro k acc hk hf hg h0
    rw [Tk.lexGo] at h0 ⊢
    split at h0
    · rename_i hc
      rw [if_pos hc]
      exact ⟨acc, rfl, hg⟩
    · rename_i hc
      rw [if_neg hc]
      cases ht : Tk.tokAt l k with
      | error e =>
        rw [ht] at h0
        have h1 := tok_err l k e ht
        have h2 : e = 0 := h0
        omega
      | ok t =>
        rw [ht] at h0
        dsimp only at h0 ⊢
        split at h0
        · cases h0
        · rename_i hn
          rw [if_neg hn]
          obtain ⟨hp, hle, -⟩ := tok_ok l k t (by omega) ht
          have hs : k + t.text.length ≤ Tk.skipTo l (k + t.text.length) := by unfold Tk.skipTo; omega
          refine ih _ _ (Tk.skipTo_le l _ hle) (by omega) ?_ h0
          intro u hu
          rcases List.mem_append.1 hu with hu | hu
          · exact hg u hu
          · rw [List.mem_singleton.1 hu]
            exact tokAt_z l k t ht
/-- what the tokens of a text without an error are like -/
theorem lex_z (l : List UInt8) (h0 : (Tk.lex l).2.2 = 0) : ∃ ts, (Tk.lex l).1 = ts ++ [⟨5, [], 0, l.length⟩] ∧ ∀ t ∈ (Tk.lex l).1, TokZ t := by
  by_cases hl : l.length > 262144
  · unfold Tk.lex at h0
    rw [if_pos hl] at h0
    cases h0
  · have e : Tk.lex l = Tk.lexGo (l.length + 1) l (Tk.skipTo l 0) [] := by unfold Tk.lex; rw [if_neg hl]
    rw [e] at h0 ⊢
    obtain ⟨ts, h1, h2⟩ := lexGo_z l (l.length + 1) (Tk.skipTo l 0) [] (Tk.skipTo_le l 0 (by omega)) (by omega) (by simp) h0
    refine ⟨ts, h1, fun t ht => ?_⟩
    rw [h1] at ht
    rcases List.mem_append.1 ht with h | h
    · exact h2 t h
    · rw [List.mem_singleton.1 h]
      exact tokZ_end _
theorem lex_ok (l : List UInt8) (h0 : (Tk.lex l).2.2 = 0) : LexOk (Tk.lex l).1 := by
  obtain ⟨ts, h1, h2⟩ := lex_z l h0
  refine ⟨by rw [h1]; simp, by rw [h1]; unfold Ps.kindAt; simp, fun k => ?_⟩
  unfold Ps.numAt
  cases hk : (Tk.lex l).1[k]? with
  | none => simp
  | some t => exact (h2 t (List.mem_of_getElem? hk)).num
/-- a sign or a reserved word: its kind goes with its text -/
def WdOk (ts : List Tk.Tok) : Prop := ∀ k, (Ps.kindAt ts k = 3 → Tk.resv (Ps.textAt ts k) = true) ∧ (Ps.kindAt ts k = 4 → Tk.resv (Ps.textAt ts k) = false)
theorem sg_resv (s : List UInt8) (h : Tk.isSg s = true) : Tk.resv s = false := by
  have h1 : ∀ x ∈ Tk.signs2 ++ Tk.signs1, Tk.resv x = false := by decide
  refine h1 s ?_
  unfold Tk.isSg at h
  simp only [Bool.or_eq_true, List.contains_iff_mem] at h
  exact List.mem_append.2 h
theorem lex_wd (l : List UInt8) (h0 : (Tk.lex l).2.2 = 0) : WdOk (Tk.lex l).1 := by
  obtain ⟨ts, h1, h2⟩ := lex_z l h0
  intro k
  unfold Ps.kindAt Ps.textAt
  cases hk : (Tk.lex l).1[k]? with
  | none => exact ⟨(fun e => absurd e (by decide)), (fun e => absurd e (by decide))⟩
  | some t =>
    have hz := h2 t (List.mem_of_getElem? hk)
    exact ⟨hz.word, fun e => sg_resv _ (hz.sign e)⟩
end Go.Proofs.YtjjooekkieddbaaDoor
