/- The loop over the functions of Program of the made inputs. No statement of the program is proved in this file. -/
import Derived.Test.YtlnbmmgbfgmboaaQ10
import Derived.Test.YtlnbmmgbfgmboaaMdPgDG
import Derived.Deep.RegionLaw
namespace Go.Proofs.Ytlnbmmgbfgmboaa
open Go.RowKit

set_option maxRecDepth 100000 in
set_option maxHeartbeats 8000000 in
theorem pgLoop3 {w w4 : World} {g kmax : Nat} {ys : List Int} {ar : Bool} {vV vG vM : Value} {us : List Nm} {PG : List Gl} {PM : List Mx} {R : Act → World → Prop} {u0 u1 u2 u4 u5 u6 u7 u8 u9 u10 u16 u17 u18 u19 u20 u21 u22 u23 u24 u25 u26 u27 u28 u29 u30 u31 u32 u33 u34 u35 u36 u37 u38 u39 u40 u41 u42 u43 u44 u45 u46 u47 u48 u49 u50 u51 u52 u53 u54 u55 u56 u57 u58 u59 u60 u61 u62 u63 u64 u65 u66 u67 u68 u69 u70 u71 u72 u73 u74 u75 u76 u77 u78 u79 u80 u81 u82 u83 u84 u85 u86 u87 u88 u89 u90 u91 u92 u93 u94 u95 u96 u97 u98 u99 u100 u101 u102 u103 u104 u105 u106 u107 u108 u109 u110 u111 u112 u113 u114 u115 u116 u117 u118 u119 u120 u121 u122 u123 u124 u184 u185 u186 u187 u188 u189 u190 u191 u192 u193 u194 u195 u196 u197 u198 u199 u200 u201 u202 u203 u204 u205 u206 u207 u208 u209 u210 u211 u212 u213 u214 u215 u216 u217 u218 u219 u220 u221 u222 u223 u224 u225 u226 u227 u228 u229 u230 u231 u232 u233 u234 u235 u236 u237 u238 u239 u240 u241 u242 u243 u244 u245 u246 u247 u248 u249 u250 u251 u252 u253 u254 u255 u256 u257 u258 u259 u260 u261 u262 u263 u13 u14 u15 u125 u126 u127 u128 u129 u130 u131 u132 u133 u134 u135 u136 u137 u138 u139 u140 u141 u142 u143 u144 u145 u146 u147 u148 u149 u150 u151 u152 u153 u154 u155 u156 u157 u158 u159 u160 u161 u162 u163 u164 u165 u166 u167 u168 u169 u170 u171 u172 u173 u174 u175 u176 u177 u178 u179 u180 u181 u182 u183 : Value} (HGE : Hid (g = w.heap.size + 1 + 1)) (hkm : kmax < 4) (HL1 : Hid (ML3 w g ys ar vV us vG vM PG PM 0 w4))
    (HQQ : Hid (∀ (x12 x13 x14 x15 x125 x126 x127 x128 x129 x130 x131 x132 x133 x134 x135 x136 x137 x138 x139 x140 x141 x142 x143 x144 x145 x146 x147 x148 x149 x150 x151 x152 x153 x154 x155 x156 x157 x158 x159 x160 x161 x162 x163 x164 x165 x166 x167 x168 x169 x170 x171 x172 x173 x174 x175 x176 x177 x178 x179 x180 x181 x182 x183 : Value) (w' : World), ML3 w g ys ar vV us vG vM PG PM (kmax + 1) w' → R { tmps := #[u0, u1, u2, .pointer (some ⟨g, 0, none⟩), u4, u5, u6, u7, u8, u9, u10, .int .i64 (kmax : Int), x12, x13, x14, x15, u16, u17, u18, u19, u20, u21, u22, u23, u24, u25, u26, u27, u28, u29, u30, u31, u32, u33, u34, u35, u36, u37, u38, u39, u40, u41, u42, u43, u44, u45, u46, u47, u48, u49, u50, u51, u52, u53, u54, u55, u56, u57, u58, u59, u60, u61, u62, u63, u64, u65, u66, u67, u68, u69, u70, u71, u72, u73, u74, u75, u76, u77, u78, u79, u80, u81, u82, u83, u84, u85, u86, u87, u88, u89, u90, u91, u92, u93, u94, u95, u96, u97, u98, u99, u100, u101, u102, u103, u104, u105, u106, u107, u108, u109, u110, u111, u112, u113, u114, u115, u116, u117, u118, u119, u120, u121, u122, u123, u124, x125, x126, x127, x128, x129, x130, x131, x132, x133, x134, x135, x136, x137, x138, x139, x140, x141, x142, x143, x144, x145, x146, x147, x148, x149, x150, x151, x152, x153, x154, x155, x156, x157, x158, x159, x160, x161, x162, x163, x164, x165, x166, x167, x168, x169, x170, x171, x172, x173, x174, x175, x176, x177, x178, x179, x180, x181, x182, x183, u184, u185, u186, u187, u188, u189, u190, u191, u192, u193, u194, u195, u196, u197, u198, u199, u200, u201, u202, u203, u204, u205, u206, u207, u208, u209, u210, u211, u212, u213, u214, u215, u216, u217, u218, u219, u220, u221, u222, u223, u224, u225, u226, u227, u228, u229, u230, u231, u232, u233, u234, u235, u236, u237, u238, u239, u240, u241, u242, u243, u244, u245, u246, u247, u248, u249, u250, u251, u252, u253, u254, u255, u256, u257, u258, u259, u260, u261, u262, u263], defers := [] } w')) :
    (nav [true, true, true, true, true, true, true, false, true, false] (Try.f18.body.getD .skip)).wp Try.prog (Exit.inBlock 5 (Nrm R)) { tmps := #[u0, u1, u2, .pointer (some ⟨g, 0, none⟩), u4, u5, u6, u7, u8, u9, u10, .int .i64 (kmax : Int), .int .i64 0, u13, u14, u15, u16, u17, u18, u19, u20, u21, u22, u23, u24, u25, u26, u27, u28, u29, u30, u31, u32, u33, u34, u35, u36, u37, u38, u39, u40, u41, u42, u43, u44, u45, u46, u47, u48, u49, u50, u51, u52, u53, u54, u55, u56, u57, u58, u59, u60, u61, u62, u63, u64, u65, u66, u67, u68, u69, u70, u71, u72, u73, u74, u75, u76, u77, u78, u79, u80, u81, u82, u83, u84, u85, u86, u87, u88, u89, u90, u91, u92, u93, u94, u95, u96, u97, u98, u99, u100, u101, u102, u103, u104, u105, u106, u107, u108, u109, u110, u111, u112, u113, u114, u115, u116, u117, u118, u119, u120, u121, u122, u123, u124, u125, u126, u127, u128, u129, u130, u131, u132, u133, u134, u135, u136, u137, u138, u139, u140, u141, u142, u143, u144, u145, u146, u147, u148, u149, u150, u151, u152, u153, u154, u155, u156, u157, u158, u159, u160, u161, u162, u163, u164, u165, u166, u167, u168, u169, u170, u171, u172, u173, u174, u175, u176, u177, u178, u179, u180, u181, u182, u183, u184, u185, u186, u187, u188, u189, u190, u191, u192, u193, u194, u195, u196, u197, u198, u199, u200, u201, u202, u203, u204, u205, u206, u207, u208, u209, u210, u211, u212, u213, u214, u215, u216, u217, u218, u219, u220, u221, u222, u223, u224, u225, u226, u227, u228, u229, u230, u231, u232, u233, u234, u235, u236, u237, u238, u239, u240, u241, u242, u243, u244, u245, u246, u247, u248, u249, u250, u251, u252, u253, u254, u255, u256, u257, u258, u259, u260, u261, u262, u263], defers := [] } w4 := by
  obtain ⟨iF, hiF, hgF0, hgF1, hgF2⟩ := info_parts Try.infoFn
  dsimp only [nav, Try.f18, Option.getD]
  go_loopw [12, 13, 14, 15] (fun v _ _ _ wr => ∃ k : Nat, k ≤ kmax + 1 ∧ v = .int .i64 k ∧ Hid (ML3 w g ys ar vV us vG vM PG PM k wr)) (fun v _ _ _ _ => kmax + 1 - (intOf v).toNat)
  case atStart => exact ⟨0, Nat.zero_le _, rfl, HL1⟩
  case round =>
    clear HL1
    obtain ⟨k, hk, rfl, hL⟩ := hrel
    by_cases hlt : k < kmax + 1
    · obtain ⟨PF, AF, cF, i, hPk, hFo, hS⟩ := hL.out
      have HS := Lib.hid hS
      have HFO := Lib.hid hFo
      subst hPk
      have hpl8 : PF.length ≤ 8 := by omega
      obtain ⟨s0, -, -, -, -, sf, sl⟩ := HS.out.cells
      clear hL hFo hS sf
      have i1 : (PF.length : Int) ≤ (kmax : Int) := by omega
      have hch := chr48 PF.length (by omega)
      have hch2 : IntKind.u8.wrap (IntKind.i64.wrap (48 + (PF.length : Int))) = ((UInt8.ofNat (48 + PF.length)).toNat : Int) := by rw [IntWalk.i64_in _ (by omega)]; exact hch
      obtain ⟨ca, hca⟩ : ∃ ca, ca = UInt8.ofNat (48 + PF.length) := ⟨_, rfl⟩
      rw [← hca] at hch hch2
      have HCA : Hid ([102, ca] = [102, UInt8.ofNat (48 + PF.length)]) := by show _ = _; rw [hca]
      clear hca
      have hcv := conv_chr ca (wr.alloc (.cells #[.int .u8 (ca.toNat : Int)] 5)) wr.heap.size 1 (NewsAt.alloc wr _ rfl _ _)
      have happ1 : (({ data := #[102] } : ByteArray) ++ { data := #[ca] }) = ⟨#[102, ca]⟩ := rfl
      have HG2 : Hid (wr.grownBy ((wr.alloc (.cells #[.int .u8 (ca.toNat : Int)] 5)).alloc (.cells #[.string ⟨#[102, ca]⟩, .slice none 0 0, .slice none 0 0] 70)) (some (w.heap.size + 1))) := grown_alc (grown_alc (grown_below (Below.refl _ _)) _) _
      have HT2 : Hid (((wr.alloc (.cells #[.int .u8 (ca.toNat : Int)] 5)).alloc (.cells #[.string ⟨#[102, ca]⟩, .slice none 0 0, .slice none 0 0] 70)).heap[wr.heap.size + 1]? = some (.cells #[.string ⟨#[102, ca]⟩, .slice none 0 0, .slice none 0 0] 70 (0, 0))) := (new2 wr (.cells #[.int .u8 (ca.toNat : Int)] 5) (.cells #[.string ⟨#[102, ca]⟩, .slice none 0 0, .slice none 0 0] 70)).2
      have HA2 := Lib.hid ((HS.out.alloc (.cells #[.int .u8 (ca.toNat : Int)] 5)).alloc (.cells #[.string ⟨#[102, ca]⟩, .slice none 0 0, .slice none 0 0] 70))
      obtain ⟨T, hTe⟩ : ∃ T, T = wr.heap.size + 1 := ⟨_, rfl⟩
      have HTE : Hid (w.heap.size + 1 < T ∧ wr.heap.size ≤ T ∧ g < T) := by have := HGE.out; exact ⟨by omega, by omega, by omega⟩
      have HTe := Lib.hid hTe
      clear hTe
      by_cases h0 : PF.length = 0
      · have d0 := bT (show (PF.length : Int) = 0 by omega)
        have H0 := Lib.hid h0
        clear h0
        go_upto_region 25 with fail
        rw [← HTe.out] at HT2 ⊢
        generalize ((wr.alloc (.cells #[.int .u8 (ca.toNat : Int)] 5)).alloc (.cells #[.string ⟨#[102, ca]⟩, .slice none 0 0, .slice none 0 0] 70)) = W2 at *
        obtain ⟨t0, t1, t2, tf, tl⟩ := blk3 HT2.out
        have tf0 := tf 0
        obtain ⟨s2, -⟩ := HA2.out.cells
        have hgT : g ≠ T := by have := HTE.out; omega
        have HQ := Lib.hid ((PutAt.refl T W2).set 0 (.string ⟨#[109, 97, 105, 110]⟩))
        have HT3 := Lib.hid (blkset_any 0 (.string ⟨#[109, 97, 105, 110]⟩) HT2.out)
        have HG3 := Lib.hid (grown_putAt HG2.out HQ.out HTE.out.2.1)
        have HS3 := Lib.hid (HS.out.next (HA2.out.s.keep fun b hb => HQ.out.2.2.2.2 b (by have := HTE.out; omega)) HG3.out)
        have s3 := HS3.out.cells.1
        clear tf
        go_wp2_with fail
        refine (next_any _ (w.heap.size + 1) ys i 3 HS3.out.s (by omega) (by omega)).mono ?_
        rintro e w5 ⟨rfl, hS5, hG5⟩
        (try dsimp only)
        rw [show (3 : Int).toNat = 3 from rfl]
        have hv5 := nextV_lt ys i 3 (by omega)
        have HS5 := Lib.hid hS5
        have HG5 := Lib.hid (grown_trans HG3.out hG5)
        have HT5 := Lib.hid ((hG5.block T (lt_of_block HT3.out) (fun e => by injection e with e; have := HTE.out; omega)).trans HT3.out)
        have s5 := (HS.out.next HS5.out HG5.out).cells.1
        clear hS5 hG5
        generalize nextV ys i 3 = v at *
        generalize nextI ys i = i5 at *
        clear s0 s2 s3 t0 t1 t2 tf0 tl hch hch2 hcv happ1
        have hv3 : (0 : Int) ≤ (v : Int) := by omega
        go_wp2_with fail
        obtain ⟨wo, hwo⟩ : ∃ wo : World, wo = wr := ⟨_, rfl⟩
        have HML : Hid (ML4 w wo g ys T [109, 97, 105, 110] 0 0 w5) := by rw [hwo]; exact pml_start HS5.out HG5.out HT5.out HTE.out.2.1
        rw [← hwo] at HS
        clear hwo HG5 HS5 HT5 HG3 HS3 HQ HT3 HG2 HT2 HA2
        have d1 : ¬ (0 : Int) < (PF.length : Int) := by have := H0.out; omega
        have d2 : ¬ 0 < PF.length := by have := H0.out; omega
        clear d0
        go_loopw [14, 15] (fun n _ wz => n = .int .i64 (v : Int) ∧ Hid (ML4 w wo g ys T [109, 97, 105, 110] 0 0 wz)) (fun _ _ _ => 0)
        case atStart => exact ⟨rfl, HML⟩
        case round =>
          clear HML
          obtain ⟨rfl, HML⟩ := hrel
          by_cases hv0 : 0 < v
          all_goals
            obtain ⟨i9, PS, pA, pc, hP9⟩ := HML.out
            have HP9 := Lib.hid hP9
            have HS9 := Lib.hid (HS.out.next hP9.src hP9.gr)
            obtain ⟨p0, -, -, p3, -, pf, pl⟩ := HS9.out.cells
            obtain ⟨t0, t1, t2, -, hTl⟩ := blk3 hP9.t
            have pf3 := pf 3
            have hln := hP9.len
            clear hP9 pf
            go_upto_region 31 with fail
            go_region_law (first
              | (refine step_append_lies _ (by rfl) _ _ _ (by rfl) (g + 1) 70 iF _ 3 64 Try.underlying48 hiF hgF0 hgF1 hgF2 rfl (by omega) (.slice AF PF.length cF) PF.length (fnK.cs PF) (by rfl) (HS9.out.drew.alloc _).p.rF ⟨wr.heap.size, 0, none⟩ 1 1 [.string ⟨#[109, 97, 105, 110]⟩, .slice pA PS.length pc, .slice none 0 0] (by rfl) (by rfl) (news_any wr.drew _ rfl _ _) (fnK.one ((⟨[109, 97, 105, 110], PS, []⟩, ⟨pA, pc, none, 0⟩) : Fn × FnG)) (by omega) (by unfold maxLen; omega) (by omega) (by simp; omega) (wr.heap.size + 1) (by simp) ?_; intro gb cap7 w7 hown hgrow hlies hgl7; obtain ⟨k0, -, -, k3, kf⟩ := (HS9.out.drew.alloc _).kg (HS9.out.drew.alloc _).p.rF hgrow; have kf3 := kf 3; clear kf))
            all_goals
              have HS7 := Lib.hid ((HS9.out.drew.alloc _).snocF ((⟨[109, 97, 105, 110], PS, []⟩, ⟨pA, pc, none, 0⟩) : Fn × FnG) (pml_in HS.out HP9.out fun b hb => Below.heap_alloc wr _ b hb) hown hgrow (lies_at hlies (by simp)))
              have HOK := Lib.hid (HFO.out.snoc (a := ((⟨[109, 97, 105, 110], PS, []⟩, ⟨pA, pc, none, 0⟩) : Fn × FnG)) ⟨by show [109, 97, 105, 110] = _; rw [if_pos H0.out], by show PS.length ≤ 2; omega, fun _ => List.eq_nil_of_length_eq_zero (by omega), fun i h => absurd h (by show ¬ i < PS.length; omega), rfl, rfl, rfl⟩)
              clear hown hgrow hlies hgl7 p0 p3 pf3 t0 t1 t2 HS9 HP9
              go_wp2_with fail
              go_roundw
              case rel =>
                refine ⟨PF.length + 1, by omega, by go_num, PF ++ [((⟨[109, 97, 105, 110], PS, []⟩, ⟨pA, pc, none, 0⟩) : Fn × FnG)], some ⟨gb, 0, none⟩, cap7, i9, by simp, HOK.out, ?_⟩
                rw [List.length_append]
                exact HS7.out
              case measure => simp [intOf]; omega
      · have d0 := bF (show (PF.length : Int) ≠ 0 by omega)
        go_wp2_with fail
        rw [← HTe.out] at HT2 ⊢
        generalize ((wr.alloc (.cells #[.int .u8 (ca.toNat : Int)] 5)).alloc (.cells #[.string ⟨#[102, ca]⟩, .slice none 0 0, .slice none 0 0] 70)) = W2 at *
        refine (next_any _ (w.heap.size + 1) ys i 3 HA2.out.s (by omega) (by omega)).mono ?_
        rintro e w5 ⟨rfl, hS5, hG5⟩
        (try dsimp only)
        rw [show (3 : Int).toNat = 3 from rfl]
        have hv5 := nextV_lt ys i 3 (by omega)
        have HS5 := Lib.hid hS5
        have HG5 := Lib.hid (grown_trans HG2.out hG5)
        have HT5 := Lib.hid ((hG5.block T (lt_of_block HT2.out) (fun e => by injection e with e; have := HTE.out; omega)).trans HT2.out)
        have s5 := (HS.out.next HS5.out HG5.out).cells.1
        clear hS5 hG5
        generalize nextV ys i 3 = v at *
        generalize nextI ys i = i5 at *
        clear s0 hch hch2 hcv happ1
        obtain ⟨wo, hwo⟩ : ∃ wo : World, wo = wr := ⟨_, rfl⟩
        have HML : Hid (ML4 w wo g ys T [102, ca] v v w5) := by rw [hwo]; exact pml_start HS5.out HG5.out HT5.out HTE.out.2.1
        rw [← hwo] at HS
        clear hwo HG5 HS5 HT5 HG2 HT2 HA2
        go_wp2_with fail
        refine Code.wp_mono (inBlock_imp 7 Nrm.imp) (pgLoop4 HGE (by omega) hv5 HS HML ?_)
        refine Lib.hid ?_
        intro x14 x15 x145 x146 x147 x148 x149 x150 x151 x152 x153 x154 x155 x156 x157 x158 x159 x160 x161 x162 x163 x164 x165 x166 x167 x168 x169 x170 x171 wx hML9
        dsimp only [Exit.then]
        obtain ⟨i9, PS, pA, pc, hP9⟩ := hML9
        have HP9 := Lib.hid hP9
        have HS9 := Lib.hid (HS.out.next hP9.src hP9.gr)
        obtain ⟨p0, -, -, p3, -, pf, pl⟩ := HS9.out.cells
        obtain ⟨t0, t1, t2, -, hTl⟩ := blk3 hP9.t
        have pf3 := pf 3
        have hln := hP9.len
        clear hP9 pf
        go_upto_region 31 with fail
        go_region_law (first
          | (refine step_append_lies _ (by rfl) _ _ _ (by rfl) (g + 1) 70 iF _ 3 64 Try.underlying48 hiF hgF0 hgF1 hgF2 rfl (by omega) (.slice AF PF.length cF) PF.length (fnK.cs PF) (by rfl) (HS9.out.drew.alloc _).p.rF ⟨wx.heap.size, 0, none⟩ 1 1 [.string ⟨#[102, ca]⟩, .slice pA PS.length pc, .slice none 0 0] (by rfl) (by rfl) (news_any wx.drew _ rfl _ _) (fnK.one ((⟨[102, ca], PS, []⟩, ⟨pA, pc, none, 0⟩) : Fn × FnG)) (by omega) (by unfold maxLen; omega) (by omega) (by simp; omega) (wx.heap.size + 1) (by simp) ?_; intro gb cap7 w7 hown hgrow hlies hgl7; obtain ⟨k0, -, -, k3, kf⟩ := (HS9.out.drew.alloc _).kg (HS9.out.drew.alloc _).p.rF hgrow; have kf3 := kf 3; clear kf))
        all_goals
          have HS7 := Lib.hid ((HS9.out.drew.alloc _).snocF ((⟨[102, ca], PS, []⟩, ⟨pA, pc, none, 0⟩) : Fn × FnG) (pml_in HS.out HP9.out fun b hb => Below.heap_alloc wx _ b hb) hown hgrow (lies_at hlies (by simp)))
          have HOK := Lib.hid (HFO.out.snoc (a := ((⟨[102, ca], PS, []⟩, ⟨pA, pc, none, 0⟩) : Fn × FnG)) ⟨by show [102, ca] = _; rw [if_neg h0]; exact HCA.out, by show PS.length ≤ 2; omega, fun h => absurd h h0, fun i h => by have h1 := HP9.out.ok i h; rwa [show v - i = PS.length - i by omega] at h1, rfl, rfl, rfl⟩)
          clear hown hgrow hlies hgl7 p0 p3 pf3 t0 t1 t2 HS9 HP9
          go_wp2_with fail
          go_roundw
          case rel =>
            refine ⟨PF.length + 1, by omega, by go_num, PF ++ [((⟨[102, ca], PS, []⟩, ⟨pA, pc, none, 0⟩) : Fn × FnG)], some ⟨gb, 0, none⟩, cap7, i9, by simp, HOK.out, ?_⟩
            rw [List.length_append]
            exact HS7.out
          case measure => simp [intOf]; omega
    · have i1 : ¬ (k : Int) ≤ (kmax : Int) := by omega
      have hke : k = kmax + 1 := by omega
      rw [hke] at hL
      clear hke
      go_wp2_with fail
      apply HQQ.out
      exact hL.out
end Go.Proofs.Ytlnbmmgbfgmboaa
