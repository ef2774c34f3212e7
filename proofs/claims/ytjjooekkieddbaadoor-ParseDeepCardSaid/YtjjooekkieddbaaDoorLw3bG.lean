/- The comparison of Program with the reference answers true for every text. -/
import Derived.Test.YtjjooekkieddbaaDoorLw3aG
import Derived.Test.YtjjooekkieddbaaDoorRs9G
import Derived.Test.YtjjooekkieddbaaDoorSm2G
namespace Go.Proofs.YtjjooekkieddbaaDoor
open Go.RowKit

set_option maxRecDepth 100000 in
set_option maxHeartbeats 4000000 in
theorem same3_any (l : List UInt8) (ao : Option Addr) (cap : Nat) (w : World) (hB : Byt w ao l) (hl : l.length ≤ 262144) (hcap : l.length ≤ cap) (hS : SgT w) :
    Calls Tryd.prog 13 #[.slice ao l.length cap] w fun e w' => e = .returned (.bool true) ∧ Below w.heap.size w w' := by
  have HP := Lib.hid (pProgram_any l ao cap w hB hl hcap hS (fun h => lex_ok l h))
  have HQ := Lib.hid (fun W (hb : Below w.heap.size w W) => rProgram_any l ao cap W (hB.later hb) hl hcap)
  have HX := Lib.hid (progV_B l hl)
  obtain ⟨p, n0, e0, hV⟩ : ∃ p n0 e0, progV l = (p, n0, e0) := ⟨_, _, _, rfl⟩
  rw [hV] at HP HQ HX
  clear hV hB hl hcap hS
  have t1 := bT (show ((n0 : Nat) : Int) = n0 from rfl)
  have t2 := bT (show ((e0 : Nat) : Int) = e0 from rfl)
  go_enter Tryd.func13, Tryd.ntmps13
  go_wp2_with fail
  refine HP.out.mono ?_
  rintro e w1 ⟨vG, vM, vF, PG, PM, PF, B, rfl, hB, hPg, hV, hb1⟩
  dsimp only at hV ⊢
  subst hV
  obtain ⟨AG, cG, rfl⟩ := slice_form hPg.rG
  obtain ⟨AM, cM, rfl⟩ := slice_form hPg.rM
  obtain ⟨AF, cF, rfl⟩ := slice_form hPg.rF
  obtain ⟨H, hM⟩ := hPg.read
  have HM := Lib.hid hM
  have HB1 := Lib.hid hb1
  clear hPg hM hb1 hB HP
  go_wp2_with fail
  refine (HQ.out _ (HB1.out.alloc HB1.out.size _)).mono ?_
  rintro e w2 ⟨vG2, vM2, vF2, PG2, PM2, PF2, B2, rfl, hB2, hPg2, hV2, hb2⟩
  dsimp only at hV2 ⊢
  obtain ⟨AG2, cG2, rfl⟩ := slice_form hPg2.rG
  obtain ⟨AM2, cM2, rfl⟩ := slice_form hPg2.rM
  obtain ⟨AF2, cF2, rfl⟩ := slice_form hPg2.rF
  obtain ⟨H2, hM2⟩ := hPg2.read
  rw [← hV2] at hM2
  injection hV2 with g1 g2 g3
  have hlF : PF2.length = PF.length := by have := congrArg List.length g3; simpa using this.symm
  subst g1 g2
  rw [hlF]
  have hx := (hb2.block w1.heap.size (by simp)).trans (heap_alloc_new w1 _)
  obtain ⟨x0, x1, x2, -, hxl⟩ := blk3 hx
  have HMb := Lib.hid ((HM.out.later ((Below.refl _ _).alloc (Nat.le_refl _) _)).later hb2)
  have HM2 := Lib.hid hM2
  have HB2 := Lib.hid (below_rev hb2 (HB1.out.alloc HB1.out.size _))
  clear hM2 hb2 hx hPg2 hB2 g3 HM HQ
  have HSM := Lib.hid (fun W (h1 : PgM W ⟨PG, PM, PF.map (·.1)⟩ AG AM AF H) (h2 : PgM W ⟨PG, PM, PF.map (·.1)⟩ AG2 AM2 AF2 H2) => sameP_any ⟨PG, PM, PF.map (·.1)⟩ HX.out AG AM AF AG2 AM2 AF2 cG cM cF cG2 cM2 cF2 H H2 W h1 h2)
  simp only [List.length_map] at HSM
  go_wp2_with fail
  refine (HSM.out _ (HMb.out.later ((Below.refl _ _).alloc (Nat.le_refl _) _)) (HM2.out.later ((Below.refl _ _).alloc (Nat.le_refl _) _))).mono ?_
  rintro e w3 ⟨rfl, hb3⟩
  have HB3 := Lib.hid (below_rev hb3 (HB2.out.alloc HB2.out.size _))
  clear hb3
  go_wp2_with fail
  go_ret
  exact ⟨rfl, HB3.out⟩
end Go.Proofs.YtjjooekkieddbaaDoor
