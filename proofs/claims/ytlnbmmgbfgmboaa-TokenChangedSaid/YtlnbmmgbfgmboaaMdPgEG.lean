/- The loop over the bodies of Program of the made inputs. No statement of the program is proved in this file. -/
import Derived.Test.YtlnbmmgbfgmboaaQ11
import Derived.Test.YtlnbmmgbfgmboaaMdPgFG
import Derived.Test.YtlnbmmgbfgmboaaMdBG
import Derived.Deep.RegionHeld3
namespace Go.Proofs.Ytlnbmmgbfgmboaa
open Go.RowKit

set_option maxRecDepth 100000 in
set_option maxHeartbeats 8000000 in
theorem pgLoop5 {w w4 : World} {g : Nat} {ys : List Int} {ar : Bool} {vA : Option Addr} {vc : Nat} {us : List Nm} {AG AM : Option Addr} {cG cM : Nat} {PG : List Gl} {PM : List Mx} {bF cF : Nat} {H0 : List Hd} {R : Act → World → Prop} {u0 u1 u2 u4 u5 u6 u8 u9 u10 u11 u12 u13 u14 u15 u19 u20 u21 u22 u23 u24 u25 u26 u27 u28 u29 u30 u31 u32 u33 u34 u35 u36 u37 u38 u39 u40 u41 u42 u43 u44 u45 u46 u47 u48 u49 u50 u51 u52 u53 u54 u55 u56 u57 u58 u59 u60 u61 u62 u63 u64 u65 u66 u67 u68 u69 u70 u71 u72 u73 u74 u75 u76 u77 u78 u79 u80 u81 u82 u83 u84 u85 u86 u87 u88 u89 u90 u91 u92 u93 u94 u95 u96 u97 u98 u99 u100 u101 u102 u103 u104 u105 u106 u107 u108 u109 u110 u111 u112 u113 u114 u115 u116 u117 u118 u119 u120 u121 u122 u123 u124 u125 u126 u127 u128 u129 u130 u131 u132 u133 u134 u135 u136 u137 u138 u139 u140 u141 u142 u143 u144 u145 u146 u147 u148 u149 u150 u151 u152 u153 u154 u155 u156 u157 u158 u159 u160 u161 u162 u163 u164 u165 u166 u167 u168 u169 u170 u171 u172 u173 u174 u175 u176 u177 u178 u179 u180 u181 u182 u183 u260 u261 u262 u263 u17 u18 u184 u185 u186 u187 u188 u189 u190 u191 u192 u193 u194 u195 u196 u197 u198 u199 u200 u201 u202 u203 u204 u205 u206 u207 u208 u209 u210 u211 u212 u213 u214 u215 u216 u217 u218 u219 u220 u221 u222 u223 u224 u225 u226 u227 u228 u229 u230 u231 u232 u233 u234 u235 u236 u237 u238 u239 u240 u241 u242 u243 u244 u245 u246 u247 u248 u249 u250 u251 u252 u253 u254 u255 u256 u257 u258 u259 : Value}
    (HGE : Hid (g = w.heap.size + 1 + 1)) (hf : 1 ≤ H0.length ∧ H0.length ≤ 4) (hm : 1 ≤ PM.length ∧ PM.length ≤ 4) (HM : Hid (∀ k (h : k < PM.length), PM[k].size ≤ 3 ∧ PM[k].name.length ≤ 16)) (HH : Hid (∀ k (h : k < H0.length), H0[k].ps.length ≤ 2 ∧ H0[k].name.length ≤ 16)) (hus : us.length ≤ 900) (HL1 : Hid (ML5 w g ys ar vA us AG AM cG cM PG PM bF cF H0 0 w4))
    (HQQ : Hid (∀ (x16 x17 x18 x184 x185 x186 x187 x188 x189 x190 x191 x192 x193 x194 x195 x196 x197 x198 x199 x200 x201 x202 x203 x204 x205 x206 x207 x208 x209 x210 x211 x212 x213 x214 x215 x216 x217 x218 x219 x220 x221 x222 x223 x224 x225 x226 x227 x228 x229 x230 x231 x232 x233 x234 x235 x236 x237 x238 x239 x240 x241 x242 x243 x244 x245 x246 x247 x248 x249 x250 x251 x252 x253 x254 x255 x256 x257 x258 x259 : Value) (w' : World), ML5 w g ys ar vA us AG AM cG cM PG PM bF cF H0 H0.length w' → R { tmps := #[u0, u1, u2, .pointer (some ⟨g, 0, none⟩), u4, u5, u6, .slice vA us.length vc, u8, u9, u10, u11, u12, u13, u14, u15, x16, x17, x18, u19, u20, u21, u22, u23, u24, u25, u26, u27, u28, u29, u30, u31, u32, u33, u34, u35, u36, u37, u38, u39, u40, u41, u42, u43, u44, u45, u46, u47, u48, u49, u50, u51, u52, u53, u54, u55, u56, u57, u58, u59, u60, u61, u62, u63, u64, u65, u66, u67, u68, u69, u70, u71, u72, u73, u74, u75, u76, u77, u78, u79, u80, u81, u82, u83, u84, u85, u86, u87, u88, u89, u90, u91, u92, u93, u94, u95, u96, u97, u98, u99, u100, u101, u102, u103, u104, u105, u106, u107, u108, u109, u110, u111, u112, u113, u114, u115, u116, u117, u118, u119, u120, u121, u122, u123, u124, u125, u126, u127, u128, u129, u130, u131, u132, u133, u134, u135, u136, u137, u138, u139, u140, u141, u142, u143, u144, u145, u146, u147, u148, u149, u150, u151, u152, u153, u154, u155, u156, u157, u158, u159, u160, u161, u162, u163, u164, u165, u166, u167, u168, u169, u170, u171, u172, u173, u174, u175, u176, u177, u178, u179, u180, u181, u182, u183, x184, x185, x186, x187, x188, x189, x190, x191, x192, x193, x194, x195, x196, x197, x198, x199, x200, x201, x202, x203, x204, x205, x206, x207, x208, x209, x210, x211, x212, x213, x214, x215, x216, x217, x218, x219, x220, x221, x222, x223, x224, x225, x226, x227, x228, x229, x230, x231, x232, x233, x234, x235, x236, x237, x238, x239, x240, x241, x242, x243, x244, x245, x246, x247, x248, x249, x250, x251, x252, x253, x254, x255, x256, x257, x258, x259, u260, u261, u262, u263], defers := [] } w')) :
    (nav [true, true, true, true, true, true, true, true, false, true, false] (Try.f18.body.getD .skip)).wp Try.prog (Exit.inBlock 9 (Nrm R)) { tmps := #[u0, u1, u2, .pointer (some ⟨g, 0, none⟩), u4, u5, u6, .slice vA us.length vc, u8, u9, u10, u11, u12, u13, u14, u15, .int .i64 0, u17, u18, u19, u20, u21, u22, u23, u24, u25, u26, u27, u28, u29, u30, u31, u32, u33, u34, u35, u36, u37, u38, u39, u40, u41, u42, u43, u44, u45, u46, u47, u48, u49, u50, u51, u52, u53, u54, u55, u56, u57, u58, u59, u60, u61, u62, u63, u64, u65, u66, u67, u68, u69, u70, u71, u72, u73, u74, u75, u76, u77, u78, u79, u80, u81, u82, u83, u84, u85, u86, u87, u88, u89, u90, u91, u92, u93, u94, u95, u96, u97, u98, u99, u100, u101, u102, u103, u104, u105, u106, u107, u108, u109, u110, u111, u112, u113, u114, u115, u116, u117, u118, u119, u120, u121, u122, u123, u124, u125, u126, u127, u128, u129, u130, u131, u132, u133, u134, u135, u136, u137, u138, u139, u140, u141, u142, u143, u144, u145, u146, u147, u148, u149, u150, u151, u152, u153, u154, u155, u156, u157, u158, u159, u160, u161, u162, u163, u164, u165, u166, u167, u168, u169, u170, u171, u172, u173, u174, u175, u176, u177, u178, u179, u180, u181, u182, u183, u184, u185, u186, u187, u188, u189, u190, u191, u192, u193, u194, u195, u196, u197, u198, u199, u200, u201, u202, u203, u204, u205, u206, u207, u208, u209, u210, u211, u212, u213, u214, u215, u216, u217, u218, u219, u220, u221, u222, u223, u224, u225, u226, u227, u228, u229, u230, u231, u232, u233, u234, u235, u236, u237, u238, u239, u240, u241, u242, u243, u244, u245, u246, u247, u248, u249, u250, u251, u252, u253, u254, u255, u256, u257, u258, u259, u260, u261, u262, u263], defers := [] } w4 := by
  obtain ⟨i0, hi0, hz0, hz1, hz2⟩ := info_parts Try.infoStr
  dsimp only [nav, Try.f18, Option.getD]
  go_loopw [16, 17, 18] (fun v _ _ wr => ∃ k : Nat, k ≤ H0.length ∧ v = .int .i64 k ∧ Hid (ML5 w g ys ar vA us AG AM cG cM PG PM bF cF H0 k wr)) (fun v _ _ _ => H0.length - (intOf v).toNat)
  case atStart => exact ⟨0, Nat.zero_le _, rfl, HL1⟩
  case round =>
    clear HL1
    obtain ⟨k, hk, rfl, hL⟩ := hrel
    obtain ⟨FS, i, left, L, hH, hP, hL0, hLk, hl, hb⟩ := hL.out
    have hlen : H0.length = FS.length := by rw [← hH]; simp [hdsOf]
    have HP := Lib.hid hP
    obtain ⟨-, -, g3, hgl⟩ := HP.out.cells
    have g0 : wr.cell? ⟨g, 0, none⟩ = some (.pointer (some ⟨w.heap.size + 1, 0, none⟩)) := by rw [cell_of_row wr g 0 _ _ _ HP.out.gb]; rfl
    by_cases hlt : k < FS.length
    · have HHH := Lib.hid hH
      have HL0 := Lib.hid hL0
      have HLk := Lib.hid hLk
      have HB := Lib.hid hb
      have HLEN := Lib.hid hlen
      have hf4 : FS.length ≤ 4 := by omega
      have hps : FS[k].1.ps.length ≤ 2 := by
        have h := (HH.out k (by omega)).1
        simpa [← hH, hdsOf] using h
      have i0' : (0 : Int) ≤ (k : Int) := by omega
      have i1' : (k : Int) < (FS.length : Int) := by omega
      have HOE : Hid ((wr.alloc (.cells #[] 9)).ownsRow wr.heap.size 9 1 (.slice (some ⟨wr.heap.size, 0, none⟩) 0 0) 0 []) := by
        have h := World.ownsRow_lit (base := wr.heap.size) (e := 9) (size := 1) wr #[] 0 (by simp) (by simp) (by simp)
        show World.ownsRow _ _ _ _ _ _ _
        simpa using h
      have HSL : Hid ((strK.cs us).length = us.length * 1) := strK.cs_len us
      have HS1 : Hid (∀ u ∈ strK.cs us, u.oneCell' = true) := fun u hu => by
        obtain ⟨a, _, ha⟩ := List.mem_flatMap.1 hu
        exact strK.one a u ha
      have HVA : Hid (0 < us.length → ∃ ad, vA = some ad ∧ ∀ j u, (strK.cs us)[j]? = some u → (wr.alloc (.cells #[] 9)).cell? (ad.add j) = some u) := fun h => strN_add ((pwf_strN HP.out).alloc _) h
      clear hL hH hP hL0 hLk hb hlen
      go_wp2_with (first | (at_builtin; refine wpList_append_some _ rfl (.tmp 194) (.tmp 195) 42 rfl wr.heap.size 9 i0 _ 1 16 Try.underlying42 hi0 hz0 hz1 hz2 rfl (by decide) wr.heap.size 0 0 [] rfl HOE.out vA us.length vc (strK.cs us) rfl HSL.out HVA.out HS1.out (by unfold maxLen; omega) (by omega) (by simp) _ rfl ?_))
      intro gg capg w5 hown hgrow hlies hgl5
      have HB5 : Hid (Below wr.heap.size wr w5) := ((Below.refl wr.heap.size wr).alloc (Nat.le_refl _) _).grown hgrow (by simp) fun b hb => by injection hb with hb; omega
      have HM6 : Hid (ML6 wr us (.slice (some ⟨gg, 0, none⟩) us.length capg) w5) := ⟨by simpa using hown, HB5.out⟩
      clear hown hgrow hlies hgl5 HOE HSL HS1 HVA g0 g3
      obtain ⟨wo, hwo⟩ : ∃ wo : World, wo = wr := ⟨_, rfl⟩
      rw [← hwo] at HP HM6 hgl
      clear hwo HB5
      go_wp2_with fail
      refine Code.wp_mono (inBlock_imp 11 Nrm.imp) (pgLoop6 (FS := FS) (kk := k) hlt hps (by omega) HP HM6 ?_)
      refine Lib.hid ?_
      intro x17 x18 x197 x198 x199 x200 x201 x202 x203 x204 x205 x206 x207 x208 x209 x210 x211 x212 x213 x214 x215 x216 x217 x218 x219 x220 x221 x222 x223 x224 x225 x226 x227 x228 x229 x230 x231 x232 x233 x234 x235 x236 x237 x238 x239 x240 wx hML
      dsimp only [Exit.then]
      obtain ⟨oA, oc, rfl⟩ := owns_form hML.1
      have HML := Lib.hid hML
      have HPx := Lib.hid (HP.out.later hML.2)
      obtain ⟨-, -, g3, hglx⟩ := HPx.out.cells
      have g0 : wx.cell? ⟨g, 0, none⟩ = some (.pointer (some ⟨w.heap.size + 1, 0, none⟩)) := by rw [cell_of_row wx g 0 _ _ _ HPx.out.gb]; rfl
      obtain ⟨c0, c1, c2⟩ := HPx.out.fn k hlt
      have hq1 : w.heap.size + 1 < wo.heap.size := by have := HGE.out; omega
      have HWd : Hid (WrM wx.drew (wpOf w g ys ar AG AM cG cM PG PM bF cF FS) i left) := (HPx.out.wrm hl hm (by have := HLEN.out; omega) HM.out (fun k h => by have h1 := HH.out k (by have := HLEN.out; omega); have h2 := HHH.out; subst h2; simpa [hdsOf] using h1)).drew
      have HSq : Hid (StrN wx.drew (w.heap.size + 1) oA (ownN us FS[k].1.ps)) := own_strN hML.1 hq1
      have HSg : Hid (StrN wx.drew g oA (ownN us FS[k].1.ps)) := own_strN hML.1 hgl
      have HPd : Hid (PmsM wx.drew (fun b => b ≠ g ∧ b ≠ w.heap.size + 1) FS[k].1.ps FS[k].2.A) := (HPx.out.ps k hlt).more fun b hb _ => ⟨hb.1, hb.2.1⟩
      have hol := ownN_len us FS[k].1.ps
      have hbFl := HPx.out.hbF
      have hgbF : g ≠ bF := by omega
      clear hML
      go_upto_region 41 with fail
      refine wp_region_held_drew (S := fun w' => w'.cell? ⟨g, 3, none⟩ = some (.slice (some ⟨bF, 0, none⟩) FS.length cF)) (by kernel_rfl) (by repeat (first | with_reducible assumption | with_reducible refine keep_drw ?_ | with_reducible refine keep_set hgbF ?_)) (fun hHeld => ?_)
      refine wpAnyH_take (i := 0) (oi := { dst := some 241, op := Op.move (Operand.tmp 3), type := 60, pos := "made.go:211", after := #[], guard := none }) (v := ?_) rfl (by kernel_rfl) (by kernel_rfl) (by kernel_rfl) (fun _ _ _ h => h) (Or.inl ⟨by rfl, ?y1⟩) (by assumption) ?ry1
      case y1 => intro wz hSw; (try dsimp only at hSw); go_simp; (try with_reducible rfl)
      try simp only [Act.put, List.setIfInBounds_toArray, List.set_cons_zero, List.set_cons_succ]
      refine wpAnyH_take (i := 1) (oi := { dst := some 242, op := Op.nilCheck (Operand.tmp 241), type := 0, pos := "made.go:211", after := #[{ on := 0, ground := Ground.data }], guard := none }) (v := ?_) rfl (by kernel_rfl) (by kernel_rfl) (by kernel_rfl) (fun _ _ _ h => h) (Or.inl ⟨by rfl, ?y2⟩) (by assumption) ?ry2
      case y2 => intro wz hSw; (try dsimp only at hSw); go_simp; (try with_reducible rfl)
      try simp only [Act.put, List.setIfInBounds_toArray, List.set_cons_zero, List.set_cons_succ]
      refine wpAnyH_take (i := 2) (oi := { dst := some 243, op := Op.fieldAddr 62 (Operand.tmp 242) 1, type := 0, pos := "made.go:211", after := #[{ on := 1, ground := Ground.data }], guard := none }) (v := ?_) rfl (by kernel_rfl) (by kernel_rfl) (by kernel_rfl) (fun _ _ _ h => h) (Or.inl ⟨by rfl, ?y3⟩) (by assumption) ?ry3
      case y3 => intro wz hSw; (try dsimp only at hSw); go_simp; (try with_reducible rfl)
      try simp only [Act.put, List.setIfInBounds_toArray, List.set_cons_zero, List.set_cons_succ]
      refine wpAnyH_take (i := 3) (oi := { dst := some 244, op := Op.fieldAddr 50 (Operand.tmp 243) 2, type := 0, pos := "made.go:211", after := #[{ on := 2, ground := Ground.data }], guard := none }) (v := ?_) rfl (by kernel_rfl) (by kernel_rfl) (by kernel_rfl) (fun _ _ _ h => h) (Or.inl ⟨by rfl, ?y4⟩) (by assumption) ?ry4
      case y4 => intro wz hSw; (try dsimp only at hSw); go_simp; (try with_reducible rfl)
      try simp only [Act.put, List.setIfInBounds_toArray, List.set_cons_zero, List.set_cons_succ]
      refine wpAnyH_take (i := 4) (oi := { dst := some 245, op := Op.load 48 (Operand.tmp 244), type := 48, pos := "made.go:211", after := #[{ on := 3, ground := Ground.data }], guard := none }) (v := ?_) rfl (by kernel_rfl) (by kernel_rfl) (by kernel_rfl) (fun _ _ _ h => h) (Or.inl ⟨by rfl, ?y5⟩) (by assumption) ?ry5
      case y5 => intro wz hSw; (try dsimp only at hSw); go_simp; (try with_reducible rfl)
      try simp only [Act.put, List.setIfInBounds_toArray, List.set_cons_zero, List.set_cons_succ]
      refine wpAnyH_take (i := 5) (oi := { dst := some 246, op := Op.move (Operand.tmp 16), type := 3, pos := "made.go:211", after := #[], guard := none }) (v := ?_) rfl (by kernel_rfl) (by kernel_rfl) (by kernel_rfl) (fun _ _ _ h => h) (Or.inl ⟨by rfl, ?y6⟩) (by assumption) ?ry6
      case y6 => intro wz hSw; (try dsimp only at hSw); go_simp; (try with_reducible rfl)
      try simp only [Act.put, List.setIfInBounds_toArray, List.set_cons_zero, List.set_cons_succ]
      refine wpAnyH_take (i := 6) (oi := { dst := some 247, op := Op.move (Operand.tmp 3), type := 60, pos := "made.go:211", after := #[], guard := none }) (v := ?_) rfl (by kernel_rfl) (by kernel_rfl) (by kernel_rfl) (fun _ _ _ h => h) (Or.inl ⟨by rfl, ?y7⟩) (by assumption) ?ry7
      case y7 => intro wz hSw; (try dsimp only at hSw); go_simp; (try with_reducible rfl)
      try simp only [Act.put, List.setIfInBounds_toArray, List.set_cons_zero, List.set_cons_succ]
      refine wpAnyH_take (i := 7) (oi := { dst := some 248, op := Op.move (Operand.tmp 3), type := 60, pos := "made.go:211", after := #[], guard := none }) (v := ?_) rfl (by kernel_rfl) (by kernel_rfl) (by kernel_rfl) (fun _ _ _ h => h) (Or.inl ⟨by rfl, ?y8⟩) (by assumption) ?ry8
      case y8 => intro wz hSw; (try dsimp only at hSw); go_simp; (try with_reducible rfl)
      try simp only [Act.put, List.setIfInBounds_toArray, List.set_cons_zero, List.set_cons_succ]
      refine wpAnyH_take (i := 8) (oi := { dst := some 249, op := Op.nilCheck (Operand.tmp 248), type := 0, pos := "made.go:211", after := #[{ on := 7, ground := Ground.data }], guard := none }) (v := ?_) rfl (by kernel_rfl) (by kernel_rfl) (by kernel_rfl) (fun _ _ _ h => h) (Or.inl ⟨by rfl, ?y9⟩) (by assumption) ?ry9
      case y9 => intro wz hSw; (try dsimp only at hSw); go_simp; (try with_reducible rfl)
      try simp only [Act.put, List.setIfInBounds_toArray, List.set_cons_zero, List.set_cons_succ]
      refine wpAnyH_take (i := 9) (oi := { dst := some 250, op := Op.fieldAddr 62 (Operand.tmp 249) 1, type := 0, pos := "made.go:211", after := #[{ on := 8, ground := Ground.data }], guard := none }) (v := ?_) rfl (by kernel_rfl) (by kernel_rfl) (by kernel_rfl) (fun _ _ _ h => h) (Or.inl ⟨by rfl, ?y10⟩) (by assumption) ?ry10
      case y10 => intro wz hSw; (try dsimp only at hSw); go_simp; (try with_reducible rfl)
      try simp only [Act.put, List.setIfInBounds_toArray, List.set_cons_zero, List.set_cons_succ]
      refine wpAnyH_take (i := 10) (oi := { dst := some 251, op := Op.fieldAddr 50 (Operand.tmp 250) 2, type := 0, pos := "made.go:211", after := #[{ on := 9, ground := Ground.data }], guard := none }) (v := ?_) rfl (by kernel_rfl) (by kernel_rfl) (by kernel_rfl) (fun _ _ _ h => h) (Or.inl ⟨by rfl, ?y11⟩) (by assumption) ?ry11
      case y11 => intro wz hSw; (try dsimp only at hSw); go_simp; (try with_reducible rfl)
      try simp only [Act.put, List.setIfInBounds_toArray, List.set_cons_zero, List.set_cons_succ]
      refine wpAnyH_take (i := 11) (oi := { dst := some 252, op := Op.load 48 (Operand.tmp 251), type := 48, pos := "made.go:211", after := #[{ on := 10, ground := Ground.data }], guard := none }) (v := ?_) rfl (by kernel_rfl) (by kernel_rfl) (by kernel_rfl) (fun _ _ _ h => h) (Or.inl ⟨by rfl, ?y12⟩) (by assumption) ?ry12
      case y12 => intro wz hSw; (try dsimp only at hSw); go_simp; (try with_reducible rfl)
      try simp only [Act.put, List.setIfInBounds_toArray, List.set_cons_zero, List.set_cons_succ]
      refine wpAnyH_take (i := 12) (oi := { dst := some 253, op := Op.move (Operand.tmp 16), type := 3, pos := "made.go:211", after := #[], guard := none }) (v := ?_) rfl (by kernel_rfl) (by kernel_rfl) (by kernel_rfl) (fun _ _ _ h => h) (Or.inl ⟨by rfl, ?y13⟩) (by assumption) ?ry13
      case y13 => intro wz hSw; (try dsimp only at hSw); go_simp; (try with_reducible rfl)
      try simp only [Act.put, List.setIfInBounds_toArray, List.set_cons_zero, List.set_cons_succ]
      refine wpAnyH_take (i := 13) (oi := { dst := some 254, op := Op.indexAddr 48 (Operand.tmp 252) (Operand.tmp 253), type := 0, pos := "made.go:211", after := #[{ on := 11, ground := Ground.data }, { on := 12, ground := Ground.data }], guard := none }) (v := ?_) rfl (by kernel_rfl) (by kernel_rfl) (by kernel_rfl) (fun _ _ _ h => h) (Or.inl ⟨by rfl, ?y14⟩) (by assumption) ?ry14
      case y14 => intro wz hSw; (try dsimp only at hSw); go_simp; (try with_reducible rfl)
      try simp only [Act.put, List.setIfInBounds_toArray, List.set_cons_zero, List.set_cons_succ]
      refine wpAnyH_take (i := 15) (oi := { dst := some 256, op := Op.move (Operand.tmp 17), type := 42, pos := "made.go:211", after := #[], guard := none }) (v := ?_) rfl (by kernel_rfl) (by kernel_rfl) (by kernel_rfl) (fun _ _ _ h => h) (Or.inl ⟨by rfl, ?y15⟩) (by assumption) ?ry15
      case y15 => intro wz hSw; (try dsimp only at hSw); go_simp; (try with_reducible rfl)
      try simp only [Act.put, List.setIfInBounds_toArray, List.set_cons_zero, List.set_cons_succ]
      refine wpAnyH_ready (rs := [14]) (by kernel_rfl) (by simp) ?_
      refine AllReadyH.cons (o := { dst := some 255, op := Op.load 70 (Operand.tmp 254), type := 70, pos := "made.go:211", after := #[{ on := 13, ground := Ground.data }], guard := none }) rfl (fun K hK => ?_) ?_
      · go_simp
        refine hK.out _ _ (by repeat (first | with_reducible assumption | with_reducible refine keep_drw ?_ | with_reducible refine keep_set hgbF ?_)) (fun hHeld => ?_)
        clear hK K
        try simp only [Act.put, List.setIfInBounds_toArray, List.set_cons_zero, List.set_cons_succ]
        refine wpAnyH_ready (rs := [16]) (by kernel_rfl) (by simp) ?_
        refine AllReadyH.cons (o := { dst := some 257, op := Op.call { callee := Callee.value (Operand.func 31), args := #[Operand.tmp 247, Operand.tmp 255, Operand.tmp 256, Operand.const (Value.int IntKind.i64 2), Operand.const (Value.int IntKind.i64 6)], argTypes := #[60, 70, 42, 3, 3] }, type := 68, pos := "made.go:211", after := #[{ on := 6, ground := Ground.data }, { on := 14, ground := Ground.data }, { on := 15, ground := Ground.data }], guard := none }) rfl (fun K hK => ?_) ?_
        · (go_simp; go_at_call 31; refine (wblock_fuel (wpOf w g ys ar AG AM cG cM PG PM bF cF FS) FS[k].1.name FS[k].1.ps FS[k].2.A FS[k].2.B FS[k].2.c FS[k].1.body.length FS[k].2.d hps 25 _ i left (ownN us FS[k].1.ps) oA oc 2 6 (by omega) (by decide) (by decide) HWd.out HSq.out HSg.out (by omega) HPd.out).mono ?_; rintro e w8 ⟨l, P8, A8, c8, i8, lo8, us8, hl8, rfl, hB8, hM8, hO8, hW8, hF8⟩; have HP8 := Lib.hid (PwF.call (wr := wx) HPx.out hW8 ⟨hF8.os, hF8.tape, hF8.output, hF8.size, hF8.block⟩); have HB8 := Lib.hid hB8; have HM8 := Lib.hid hM8; have hl8' := hB8.le; obtain ⟨-, -, g38, hgl8⟩ := HP8.out.cells; obtain ⟨d0, d1, d2⟩ := HP8.out.fn k hlt; have df := HP8.out.fz (k * 3 + 2); clear hB8 hM8 hO8 hW8 hF8 hl8; dsimp only)
          refine hK.out _ _ (by repeat (first | with_reducible assumption | with_reducible refine keep_drw ?_ | with_reducible refine keep_set hgbF ?_)) (fun hHeld => ?_)
          clear hK K
          try simp only [Act.put, List.setIfInBounds_toArray, List.set_cons_zero, List.set_cons_succ]
          refine wpAnyH_take (i := 17) (oi := { dst := some 258, op := Op.indexAddr 48 (Operand.tmp 245) (Operand.tmp 246), type := 0, pos := "made.go:211", after := #[{ on := 4, ground := Ground.data }, { on := 5, ground := Ground.data }, { on := 0, ground := Ground.phase }, { on := 1, ground := Ground.phase }, { on := 2, ground := Ground.phase }, { on := 3, ground := Ground.phase }, { on := 4, ground := Ground.phase }, { on := 5, ground := Ground.phase }, { on := 6, ground := Ground.phase }, { on := 7, ground := Ground.phase }, { on := 8, ground := Ground.phase }, { on := 9, ground := Ground.phase }, { on := 10, ground := Ground.phase }, { on := 11, ground := Ground.phase }, { on := 12, ground := Ground.phase }, { on := 13, ground := Ground.phase }, { on := 14, ground := Ground.phase }, { on := 15, ground := Ground.phase }, { on := 16, ground := Ground.phase }], guard := none }) (v := ?_) rfl (by kernel_rfl) (by kernel_rfl) (by kernel_rfl) (fun _ _ _ h => h) (Or.inl ⟨by rfl, ?y16⟩) (by assumption) ?ry16
          case y16 => intro wz hSw; (try dsimp only at hSw); go_simp; (try with_reducible rfl)
          try simp only [Act.put, List.setIfInBounds_toArray, List.set_cons_zero, List.set_cons_succ]
          refine wpAnyH_take (i := 18) (oi := { dst := some 259, op := Op.fieldAddr 70 (Operand.tmp 258) 2, type := 0, pos := "made.go:211", after := #[{ on := 17, ground := Ground.data }, { on := 0, ground := Ground.phase }, { on := 1, ground := Ground.phase }, { on := 2, ground := Ground.phase }, { on := 3, ground := Ground.phase }, { on := 4, ground := Ground.phase }, { on := 5, ground := Ground.phase }, { on := 6, ground := Ground.phase }, { on := 7, ground := Ground.phase }, { on := 8, ground := Ground.phase }, { on := 9, ground := Ground.phase }, { on := 10, ground := Ground.phase }, { on := 11, ground := Ground.phase }, { on := 12, ground := Ground.phase }, { on := 13, ground := Ground.phase }, { on := 14, ground := Ground.phase }, { on := 15, ground := Ground.phase }, { on := 16, ground := Ground.phase }], guard := none }) (v := ?_) rfl (by kernel_rfl) (by kernel_rfl) (by kernel_rfl) (fun _ _ _ h => h) (Or.inl ⟨by rfl, ?y17⟩) (by assumption) ?ry17
          case y17 => intro wz hSw; (try dsimp only at hSw); go_simp; (try with_reducible rfl)
          try simp only [Act.put, List.setIfInBounds_toArray, List.set_cons_zero, List.set_cons_succ]
          refine wpAnyH_ready (rs := [19]) (by kernel_rfl) (by simp) ?_
          refine AllReadyH.cons (o := { dst := none, op := Op.store 68 (Operand.tmp 259) (Operand.tmp 257), type := 0, pos := "made.go:211", after := #[{ on := 18, ground := Ground.data }, { on := 16, ground := Ground.data }, { on := 16, ground := Ground.chain }, { on := 0, ground := Ground.phase }, { on := 1, ground := Ground.phase }, { on := 2, ground := Ground.phase }, { on := 3, ground := Ground.phase }, { on := 4, ground := Ground.phase }, { on := 5, ground := Ground.phase }, { on := 6, ground := Ground.phase }, { on := 7, ground := Ground.phase }, { on := 8, ground := Ground.phase }, { on := 9, ground := Ground.phase }, { on := 10, ground := Ground.phase }, { on := 11, ground := Ground.phase }, { on := 12, ground := Ground.phase }, { on := 13, ground := Ground.phase }, { on := 14, ground := Ground.phase }, { on := 15, ground := Ground.phase }, { on := 16, ground := Ground.phase }], guard := none }) rfl (fun K hK => ?_) ?_
          · go_simp
            refine hK.out _ _ (by repeat (first | with_reducible assumption | with_reducible refine keep_drw ?_ | with_reducible refine keep_set hgbF ?_)) (fun hHeld => ?_)
            clear hK K
            try simp only [Act.put, List.setIfInBounds_toArray, List.set_cons_zero, List.set_cons_succ]
            refine wpAnyH_done (by kernel_rfl) ?_ _
            have HPz := Lib.hid (HP8.out.body hlt l A8 c8 (HM8.out.more fun b hb _ => ⟨by have h := hb; have := HPx.out.hbF; simp at h; omega, by have h := hb; have := HPx.out.hbF; have := HGE.out; simp at h; omega, by have h := hb; have := HPx.out.hbF; simp at h; omega, by have h := hb; simp at h; omega⟩))
            have HST := Lib.hid (ML5.step hlt HHH.out HL0.out HLk.out (by omega) HB.out (by have h := HB8.out; have e := HHH.out; subst e; exact h) HPz.out)
            clear g0 g3 c0 c1 c2 d0 d1 d2 df g38
            go_wp2_with fail
            go_roundw
            case rel => exact ⟨k + 1, by have := HLEN.out; omega, by go_num, HST.out⟩
            case measure => have := HLEN.out; simp [intOf]; omega
          exact AllReadyH.nil
        exact AllReadyH.nil
      exact AllReadyH.nil
    · have i1' : ¬ (k : Int) < (FS.length : Int) := by omega
      have hke : k = H0.length := by omega
      rw [hke] at hL
      clear hke hP hb hH
      go_wp2_with fail
      apply HQQ.out
      exact hL.out
end Go.Proofs.Ytlnbmmgbfgmboaa
