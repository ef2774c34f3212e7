/- One case of the loop of block of the writer of the made programs. No statement of the program is proved in this file. -/
import Derived.Test.YtlnbmmgbfgmboaaQ8
import Derived.Deep.CutRange
namespace Go.Proofs.Ytlnbmmgbfgmboaa
open Go.RowKit

set_option maxRecDepth 100000 in
set_option maxHeartbeats 8000000 in
theorem sw_cond {W : WP} {fn : Nm} {ps : List Pm} {pA bA : Option Addr} {pc bn bc N left d most k : Nat} {w wr w3 : World} {vs us : List Nm} {P : List (St × SG)} {oA vA : Option Addr} {oc vc i1 i2 lo m : Nat} {Q : Exit → Act → World → Prop} {K K1 K2 : Act → World → Prop} {u5 u7 u8 u9 u10 u15 u16 u17 u18 u19 u20 u21 u22 u23 u24 u25 u26 u27 u28 u29 u30 u31 u32 u33 u34 u35 u36 u37 u38 u39 u40 u41 u42 u43 u44 u45 u46 u47 u48 u49 u50 u51 u52 u53 u54 u55 u56 u57 u58 u59 u60 u61 u62 u63 u64 u65 u66 u67 u68 u69 u70 u71 u72 u73 u74 u75 u76 u77 u78 u79 u80 u81 u82 u83 u84 u85 u86 u87 u88 u89 u90 u91 u92 u93 u94 u95 u96 u97 u98 u99 u100 u101 u102 u103 u104 u105 u106 u107 u108 u109 u110 u111 u112 u113 u114 u115 u116 u117 u118 u119 u120 u121 u122 u123 u124 u125 u126 u127 u128 u129 u130 u131 u132 u133 u134 u135 u136 u137 u138 u139 u140 u141 u142 u143 u144 u145 u146 u147 u148 u149 u150 u151 u152 u153 u154 u155 u156 u157 u158 u159 u160 u161 u162 u163 u164 u165 u166 u167 u168 u169 u170 u171 u172 u173 u174 u175 u176 u177 u178 u179 u180 u181 u182 u183 u184 u185 u186 u187 u188 u189 u190 u191 u192 u193 u194 u195 u196 u197 u198 u199 u200 u201 u202 u203 u204 u205 u206 u207 u208 u209 u210 u211 u212 u213 u214 u215 u216 u217 u218 u219 u220 u221 u222 u223 u224 u225 u226 u227 u228 u229 u230 u231 u232 u233 u234 u235 u236 u237 u238 u239 u240 u241 u242 u243 u244 u245 u246 u247 u248 : Value} (hC : RndC W fn ps pA bA pc bn bc N left d most k w wr w3 vs us P oA vA oc vc i1 i2 lo m)
    (hK : ∀ a w, (nav [true, true, true, false, true, false, false, true, false, false, true, true, false, true, false, true] (Try.f31.body.getD .skip)).wp Try.prog (Exit.inBlock 2 (Exit.then K1 (Exit.inBlock 1 (Exit.then K2 Q)))) a w → K a w)
    (hK1 : ∀ a w, (nav [true, true, true, false, true, false, false, true, false, false, true, true, true] (Try.f31.body.getD .skip)).wp Try.prog (Exit.inBlock 1 (Exit.then K2 Q)) a w → K1 a w) (hK2 : ∀ a w, (nav [true, true, true, false, true, false, false, true, true] (Try.f31.body.getD .skip)).wp Try.prog Q a w → K2 a w)
    (HQQ : Hid (∀ (x13 x14 x15 x16 x27 x28 x29 x30 x31 x32 x33 x34 x35 x36 x37 x38 x39 x40 x41 x42 x43 x44 x45 x46 x47 x48 x49 x50 x51 x52 x53 x54 x55 x56 x57 x58 x59 x60 x61 x62 x63 x64 x65 x66 x67 x68 x69 x70 x71 x72 x73 x74 x75 x76 x77 x78 x79 x80 x81 x82 x83 x84 x85 x86 x87 x88 x89 x90 x91 x92 x93 x94 x95 x96 x97 x98 x99 x100 x101 x102 x103 x104 x105 x106 x107 x108 x109 x110 x111 x112 x113 x114 x115 x116 x117 x118 x119 x120 x121 x122 x123 x124 x125 x126 x127 x128 x129 x130 x131 x132 x133 x134 x135 x136 x137 x138 x139 x140 x141 x142 x143 x144 x145 x146 x147 x148 x149 x150 x151 x152 x153 x154 x155 x156 x157 x158 x159 x160 x161 x162 x163 x164 x165 x166 x167 x168 x169 x170 x171 x172 x173 x174 x175 x176 x177 x178 x179 x180 x181 x182 x183 x184 x185 x186 x187 x188 x189 x190 x191 x192 x193 x194 x195 x196 x197 x198 x199 x200 x201 x202 x203 x204 x205 x206 x207 x208 x209 x210 x211 x212 x213 x214 x215 x216 x217 x218 x219 x220 x221 x222 x223 x224 x225 x226 x227 x228 x229 x230 x231 x232 x233 x234 x235 x236 x237 x238 x239 x240 x241 x242 x243 x244 x245 x246 x247 vv vo vn : Value) (w' : World), BkL w W ps (.cells #[.string ⟨fn.toArray⟩, .slice pA ps.length pc, .slice bA bn bc] 70 (0, 0)) d left most vs vv vo vn w' → (intOf vn).toNat < k → Q .normal { tmps := #[.pointer (some ⟨W.g, 0, none⟩), .agg #[.string ⟨fn.toArray⟩, .slice pA ps.length pc, .slice bA bn bc], vv, .int .i64 (d : Int), .int .i64 (most : Int), u5, .pointer (some ⟨w.heap.size, 0, none⟩), u7, u8, u9, u10, vo, vn, x13, x14, x15, x16, u17, u18, u19, u20, u21, u22, u23, u24, u25, u26, x27, x28, x29, x30, x31, x32, x33, x34, x35, x36, x37, x38, x39, x40, x41, x42, x43, x44, x45, x46, x47, x48, x49, x50, x51, x52, x53, x54, x55, x56, x57, x58, x59, x60, x61, x62, x63, x64, x65, x66, x67, x68, x69, x70, x71, x72, x73, x74, x75, x76, x77, x78, x79, x80, x81, x82, x83, x84, x85, x86, x87, x88, x89, x90, x91, x92, x93, x94, x95, x96, x97, x98, x99, x100, x101, x102, x103, x104, x105, x106, x107, x108, x109, x110, x111, x112, x113, x114, x115, x116, x117, x118, x119, x120, x121, x122, x123, x124, x125, x126, x127, x128, x129, x130, x131, x132, x133, x134, x135, x136, x137, x138, x139, x140, x141, x142, x143, x144, x145, x146, x147, x148, x149, x150, x151, x152, x153, x154, x155, x156, x157, x158, x159, x160, x161, x162, x163, x164, x165, x166, x167, x168, x169, x170, x171, x172, x173, x174, x175, x176, x177, x178, x179, x180, x181, x182, x183, x184, x185, x186, x187, x188, x189, x190, x191, x192, x193, x194, x195, x196, x197, x198, x199, x200, x201, x202, x203, x204, x205, x206, x207, x208, x209, x210, x211, x212, x213, x214, x215, x216, x217, x218, x219, x220, x221, x222, x223, x224, x225, x226, x227, x228, x229, x230, x231, x232, x233, x234, x235, x236, x237, x238, x239, x240, x241, x242, x243, x244, x245, x246, x247, u248], defers := [] } w'))
    (e11 : m = 11 ∧ 0 < d) :
    (nav [true, true, true, false, true, false, false, true, false, false, true, true, false, true, false, false] (Try.f31.body.getD .skip)).wp Try.prog (Exit.then K (Exit.inBlock 2 (Exit.then K1 (Exit.inBlock 1 (Exit.then K2 Q))))) { tmps := #[.pointer (some ⟨W.g, 0, none⟩), .agg #[.string ⟨fn.toArray⟩, .slice pA ps.length pc, .slice bA bn bc], .slice vA us.length vc, .int .i64 (d : Int), .int .i64 (most : Int), u5, .pointer (some ⟨w.heap.size, 0, none⟩), u7, u8, u9, u10, .slice oA P.length oc, .int .i64 (k : Int), .pointer (some ⟨wr.heap.size, 0, none⟩), .int .i64 (m : Int), u15, u16, u17, u18, u19, u20, u21, u22, u23, u24, u25, u26, u27, u28, u29, u30, u31, u32, u33, u34, u35, u36, u37, u38, u39, u40, u41, u42, u43, u44, u45, u46, u47, u48, u49, u50, u51, u52, u53, u54, u55, u56, u57, u58, u59, u60, u61, u62, u63, u64, u65, u66, u67, u68, u69, u70, u71, u72, u73, u74, u75, u76, u77, u78, u79, u80, u81, u82, u83, u84, u85, u86, u87, u88, u89, u90, u91, u92, u93, u94, u95, u96, u97, u98, u99, u100, u101, u102, u103, u104, u105, u106, u107, u108, u109, u110, u111, u112, u113, u114, u115, u116, u117, u118, u119, u120, u121, u122, u123, u124, u125, u126, u127, u128, u129, u130, u131, u132, u133, u134, u135, u136, u137, u138, u139, u140, u141, u142, u143, u144, u145, u146, u147, u148, u149, u150, u151, u152, u153, u154, u155, u156, u157, u158, u159, u160, u161, u162, u163, u164, u165, u166, u167, u168, u169, u170, u171, u172, u173, u174, u175, u176, u177, u178, u179, u180, u181, u182, u183, u184, u185, u186, u187, u188, u189, u190, u191, u192, u193, u194, u195, u196, u197, u198, u199, u200, u201, u202, u203, u204, u205, u206, u207, u208, u209, u210, u211, u212, u213, u214, u215, u216, u217, u218, u219, u220, u221, u222, u223, u224, u225, u226, u227, u228, u229, u230, u231, u232, u233, u234, u235, u236, u237, u238, u239, u240, u241, u242, u243, u244, u245, u246, u247, u248], defers := [] } w3 := by
  obtain ⟨hps, hl, hd, hm, hn, hql, hgl, hll, hgl', hwr, hk, hk0, hun, hlo, hPl, hm14, HP, IH3, IH2, HBL, HS, HF3, HT3, HW3, HNq, HNg, HPm, f0, f1, f2⟩ := hC
  have hg0 := hgl
  have hq0 := hql
  obtain ⟨i0, hi, hz0, hz1, hz2⟩ := info_parts Try.infoStr
  obtain ⟨iS, hiS, hs0, hs1, hs2⟩ := info_parts Try.infoSt
  dsimp only [nav, Try.f31, Option.getD] at hK hK1 hK2 ⊢
  have h4 : ¬ m < 4 := by omega
  have t4 : ¬ ((m : Nat) : Int) < 4 := by omega
  have h7 : ¬ m < 7 := by omega
  have t7 : ¬ ((m : Nat) : Int) < 7 := by omega
  obtain ⟨rfl, hdp⟩ := e11
  have hTq : wr.heap.size ≠ W.q := by omega
  have hTg : wr.heap.size ≠ W.g := by omega
  have hgT : W.g ≠ wr.heap.size := by omega
  have hz3 := lt_of_block HT3.out
  have HW3d : Hid (WrM w3.drew W i2 lo) := HW3.out.keep fun _ _ => rfl
  have HNd : Hid (StrN w3.drew W.q vA us) := HNq.out
  have HT3d : Hid (w3.drew.heap[wr.heap.size]? = _) := HT3.out
  have HF3d : Hid (Fr W.g W.q wr w3.drew) := ⟨HF3.out.os, HF3.out.tape, HF3.out.output, HF3.out.size, HF3.out.block⟩
  have hzd : w3.drew.heap.size = w3.heap.size := rfl
  have HFC : Hid (∀ w', Fr W.g W.q wr w' → w'.cell? ⟨w.heap.size, 0, none⟩ = some (.string ⟨fn.toArray⟩) ∧ w'.cell? ⟨w.heap.size, 1, none⟩ = some (.slice pA ps.length pc) ∧ w'.cell? ⟨w.heap.size, 2, none⟩ = some (.slice bA bn bc)) := fun w' hF => mblk3 (HS.out.func hF)
  have hfT : w.heap.size ≠ wr.heap.size := by have := HS.out.sz; omega
  obtain ⟨d1, hd1⟩ : ∃ d', d = d' + 1 := ⟨d - 1, by omega⟩
  have hdd : (d : Int) - 1 = (d1 : Int) := by omega
  have hwd : IntKind.i64.wrap ((d : Int) - 1) = (d1 : Int) := (IntWalk.i64_in _ (by omega)).trans (by omega)
  have td : (0 : Int) < (d : Int) := by omega
  have hwd1 : IntKind.i64.wrap (d1 : Int) = (d1 : Int) := IntWalk.i64_in _ (by omega)
  have HD1 := Lib.hid hd1
  clear hd1
  clear t4 h4 hz0 hz1 hz2 hi f0 f1 f2
  obtain ⟨f0, f1, f2⟩ := HFC.out w3.drew HF3d.out
  go_wp2_with fail
  go_region_held3 (fun w' => w'.cell? ⟨w.heap.size, 0, none⟩ = some (.string ⟨fn.toArray⟩) ∧ w'.cell? ⟨w.heap.size, 1, none⟩ = some (.slice pA ps.length pc) ∧ w'.cell? ⟨w.heap.size, 2, none⟩ = some (.slice bA bn bc))
    (refine ⟨?_, ?_, ?_⟩ <;> repeat (first | with_reducible assumption | with_reducible refine keep_alc _ ?_ | with_reducible refine keep_set hfT ?_))
    (first
      | (go_simp; go_at_call 47; refine (wexpr_any _ W i2 lo us _ vc HW3d.out HNd.out (by omega)).mono ?_; rintro e w5 ⟨f, E, i5, rfl, hR, hI, hW5, hG5⟩; obtain ⟨fo, fx, fname, fA, fl, fc⟩ := f; obtain ⟨hF5, hT5, -, -, -, -, hz5⟩ := aft11 HF3d.out hG5 HT3d.out hTq; have HF5 := Lib.hid hF5; have HT5 := Lib.hid hT5; have HM5 := Lib.hid hI; have HW5 := Lib.hid hW5; have HR5 := Lib.hid hR; obtain ⟨u0, u1, u2⟩ := HFC.out w5 hF5; have HN5 := Lib.hid (HS.out.names hF5); have HP5 := Lib.hid (HS.out.params hF5 HP.out); have hw3z : w3.heap.size ≤ w5.heap.size := hz5; clear hR hI hW5 hG5 hF5 hT5; dsimp only [EF.val])
      | (go_simp; go_at_call 31; refine (IH3.out _ i5 lo us _ vc d1 _ (by omega) (by omega) (by first | exact hdd | exact hwd | exact hwd1 | rfl) HW5.out HN5.out.1 HN5.out.2 (by omega) HP5.out).mono ?_; rintro e w4 ⟨l2, P2, A2, c2, i4, lo2, us2, -, rfl, hB2, hM2, -, hW4, hF45⟩; obtain ⟨hF4, hT4, ⟨s0, s1, s2, s3, s4, s5, s6, s7, s8, s9, s10⟩, sf, hTw4, hTw5, hz4⟩ := aft11f HF5.out hF45 HT5.out hTg hTq; have HF4 := Lib.hid hF4; have HT4 := Lib.hid hT4; have HW4 := Lib.hid hW4; have HB2 := Lib.hid hB2; have HO2 := Lib.hid hM2; have HM4 := Lib.hid (HM5.out.keep fun b hb hl => hF45.block b hl (by omega) (by omega)); have hTw6 := Ne.symm hTw5; have hle2 := hB2.le; have hs45 := hF45.size; obtain ⟨v0, v1, v2⟩ := HFC.out w4 hF4; clear hB2 hM2 hW4 hF45 hF4 hT4; dsimp only))
  have HQ := Lib.hid (((((((PutAt.refl (wr.heap.size) w4).set 0 (.int .i64 7)).set 2 (.int .i64 fo)).set 3 (.int .i64 fx)).set 4 (.string ⟨fname.toArray⟩)).set 5 (.slice fA fl fc)).set 9 (.slice A2 l2.length c2))
  have HFk := Lib.hid (HF4.out.putAt HQ.out (Nat.le_refl _))
  have HBk := Lib.hid (HS.out.go HFk.out (HS.out.wmk HFk.out HW4.out HQ.out (Nat.le_refl _)))
  have HTk : Hid (((((((w4.setCell ⟨wr.heap.size, 0, none⟩ (.int .i64 7)).setCell ⟨wr.heap.size, 2, none⟩ (.int .i64 fo)).setCell ⟨wr.heap.size, 3, none⟩ (.int .i64 fx)).setCell ⟨wr.heap.size, 4, none⟩ (.string ⟨fname.toArray⟩)).setCell ⟨wr.heap.size, 5, none⟩ (.slice fA fl fc)).setCell ⟨wr.heap.size, 9, none⟩ (.slice A2 l2.length c2)).heap[wr.heap.size]? = some (.cells #[.int .i64 7, .string ⟨#[]⟩, .int .i64 fo, .int .i64 fx, .string ⟨fname.toArray⟩, .slice fA fl fc, .string ⟨#[]⟩, .slice none 0 0, .slice none 0 0, .slice A2 l2.length c2, .slice none 0 0] 94 (0, 0))) := (blkset_any 9 (.slice A2 l2.length c2) (blkset_any 5 (.slice fA fl fc) (blkset_any 4 (.string ⟨fname.toArray⟩) (blkset_any 3 (.int .i64 fx) (blkset_any 2 (.int .i64 fo) (blkset_any 0 (.int .i64 7) HT4.out))))))
  have HMk : Hid (ExM ((((((w4.setCell ⟨wr.heap.size, 0, none⟩ (.int .i64 7)).setCell ⟨wr.heap.size, 2, none⟩ (.int .i64 fo)).setCell ⟨wr.heap.size, 3, none⟩ (.int .i64 fx)).setCell ⟨wr.heap.size, 4, none⟩ (.string ⟨fname.toArray⟩)).setCell ⟨wr.heap.size, 5, none⟩ (.slice fA fl fc)).setCell ⟨wr.heap.size, 9, none⟩ (.slice A2 l2.length c2)) (wr.heap.size + 1 ≤ ·) E ⟨fo, fx, fname, fA, fl, fc⟩) := (HM4.out.keep fun b hb _ => HQ.out.2.2.2.2 b (by omega)).more fun b hb => by omega
  have HSk : Hid (StsM ((((((w4.setCell ⟨wr.heap.size, 0, none⟩ (.int .i64 7)).setCell ⟨wr.heap.size, 2, none⟩ (.int .i64 fo)).setCell ⟨wr.heap.size, 3, none⟩ (.int .i64 fx)).setCell ⟨wr.heap.size, 4, none⟩ (.string ⟨fname.toArray⟩)).setCell ⟨wr.heap.size, 5, none⟩ (.slice fA fl fc)).setCell ⟨wr.heap.size, 9, none⟩ (.slice A2 l2.length c2)) (wr.heap.size + 1 ≤ ·) l2 A2) := HO2.out.putAt' HQ.out (by omega) (by omega)
  have hsk : wr.heap.size + 1 ≤ ((((((w4.setCell ⟨wr.heap.size, 0, none⟩ (.int .i64 7)).setCell ⟨wr.heap.size, 2, none⟩ (.int .i64 fo)).setCell ⟨wr.heap.size, 3, none⟩ (.int .i64 fx)).setCell ⟨wr.heap.size, 4, none⟩ (.string ⟨fname.toArray⟩)).setCell ⟨wr.heap.size, 5, none⟩ (.slice fA fl fc)).setCell ⟨wr.heap.size, 9, none⟩ (.slice A2 l2.length c2)).heap.size := by have := lt_of_block HTk.out; omega
  clear HM4 HO2 HQ HT4 HW4 HF4 s0 s1 s2 s3 s4 s5 s6 s7 s8 s9 s10 sf v0 v1 v2 hTw4 hTw5 hTw6 hz4
  generalize ((((((w4.setCell ⟨wr.heap.size, 0, none⟩ (.int .i64 7)).setCell ⟨wr.heap.size, 2, none⟩ (.int .i64 fo)).setCell ⟨wr.heap.size, 3, none⟩ (.int .i64 fx)).setCell ⟨wr.heap.size, 4, none⟩ (.string ⟨fname.toArray⟩)).setCell ⟨wr.heap.size, 5, none⟩ (.slice fA fl fc)).setCell ⟨wr.heap.size, 9, none⟩ (.slice A2 l2.length c2)) = wk at *
  have HWk := Lib.hid HBk.out.wm
  obtain ⟨q0, -⟩ := HWk.out.cells
  go_wp2_with fail
  refine (next_any wk W.q W.xs i4 2 HWk.out.src (by omega) (by omega)).mono ?_
  rintro e w7 ⟨rfl, hS7, hG7⟩
  (try dsimp only)
  rw [show (2 : Int).toNat = 2 from rfl]
  have HW7 := Lib.hid (HWk.out.next hS7 hG7)
  obtain ⟨hF7, hT7, ⟨s0, s1, s2, s3, s4, s5, s6, s7, s8, s9, s10⟩, sf, hTw4, hTw5, hz7⟩ := aft11 HFk.out hG7 HTk.out hTq
  have HF7 := Lib.hid hF7
  have HT7 := Lib.hid hT7
  have HM7 : Hid (ExM w7 (wr.heap.size + 1 ≤ ·) E ⟨fo, fx, fname, fA, fl, fc⟩) := HMk.out.gr hG7 (by omega)
  have HS7 : Hid (StsM w7 (wr.heap.size + 1 ≤ ·) l2 A2) := HSk.out.gr hG7 (by omega)
  have HB7 := Lib.hid (HBk.out.go (Fr.of_grown hG7) HW7.out)
  clear hS7 hG7 hF7 hT7 HMk HSk HBk HWk HTk HFk q0
  by_cases h1 : nextV W.xs i4 2 = 1
  · have t1 := bT (show ((nextV W.xs i4 2 : Nat) : Int) = 1 by omega)
    clear h1
    obtain ⟨f0, f1, f2⟩ := HFC.out w7 HF7.out
    have HN7 := Lib.hid (HS.out.names HF7.out)
    have HP7 := Lib.hid (HS.out.params HF7.out HP.out)
    go_wp2_with fail
    refine (IH3.out w7 _ lo2 us vA vc d1 _ (by omega) (by omega) (by first | exact hdd | exact hwd | exact hwd1 | rfl) HW7.out HN7.out.1 HN7.out.2 (by omega) HP7.out).mono ?_
    rintro e w8 ⟨l3, P3, A3, c3, i8, lo3, us3, -, rfl, hB3, hM3, -, hW8, hF78⟩
    (try dsimp only)
    clear s0 s1 s2 s3 s4 s5 s6 s7 s8 s9 s10 sf hTw4 hTw5
    obtain ⟨hF8, hT8, ⟨s0, s1, s2, s3, s4, s5, s6, s7, s8, s9, s10⟩, sf, hTw4, hTw5, hz8⟩ := aft11f HF7.out hF78 HT7.out hTg hTq
    have HF8 := Lib.hid hF8
    have HW8 := Lib.hid hW8
    have HB3 := Lib.hid hB3
    have hle3 := hB3.le
    have HM8 := Lib.hid (HM7.out.keep (w' := w8) fun b hb hl => hF78.block b hl (by omega) (by omega))
    have HS8 := Lib.hid (HS7.out.keep (w' := w8) fun b hb hl => hF78.block b hl (by omega) (by omega))
    have HS9 := Lib.hid hM3
    have HFr := Lib.hid hF78
    clear hB3 hM3 hW8 hF78 hF8 hT8 HM7 HS7
    have HQ := Lib.hid ((PutAt.refl (wr.heap.size) w8).set 10 (.slice A3 l3.length c3))
    have HFk := Lib.hid (HF8.out.putAt HQ.out (Nat.le_refl _))
    have HBk := Lib.hid (HS.out.go HFk.out (HS.out.wmk HFk.out HW8.out HQ.out (Nat.le_refl _)))
    have HSM : Hid (StM (w8.setCell ⟨wr.heap.size, 10, none⟩ (.slice A3 l3.length c3)) (wr.heap.size ≤ ·) (St.mk 7 [] E noRf [] l2 l3) (⟨⟨fo, fx, fname, fA, fl, fc⟩, none, 0, 0, none, 0, A2, c2, A3, c3⟩ : SG)) := stM_mk 7 [] E noRf [] l2 l3 _ ((HM8.out.keep fun b hb _ => HQ.out.2.2.2.2 b (by omega)).more fun b hb => by omega) rfl (ArsM.nil _ _ _) (HS8.out.putAt' HQ.out (by omega) (by omega)) (HS9.out.putAt' HQ.out (by omega) (by omega))
    have HBW := Lib.hid (BlW.cond2 HD1.out E l2 l3 HBL.out HR5.out HB2.out HB3.out)
    have HNB := Lib.hid (HS.out.lt)
    go_wp2_with (first | (at_builtin; refine wpList_append_lies _ rfl (.tmp 244) (.tmp 246) 68 rfl (w.heap.size + 1) 94 iS _ 11 192 Try.underlying68 hiS hs0 hs1 hs2 rfl (by decide) (.slice oA P.length oc) P.length (stK.cs P) rfl (HBk.out.o.alloc _) ⟨w8.heap.size, 0, none⟩ 1 1 [.int .i64 7, .string ⟨#[]⟩, .int .i64 fo, .int .i64 fx, .string ⟨fname.toArray⟩, .slice fA fl fc, .string ⟨#[]⟩, .slice none 0 0, .slice none 0 0, .slice A2 l2.length c2, .slice A3 l3.length c3] rfl rfl (news_any (w8.setCell ⟨wr.heap.size, 10, none⟩ (.slice A3 l3.length c3)) _ (by simp [World.setCell]) _ _) (stK.one ((St.mk 7 [] E noRf [] l2 l3), (⟨⟨fo, fx, fname, fA, fl, fc⟩, none, 0, 0, none, 0, A2, c2, A3, c3⟩ : SG))) (by omega) (by unfold maxLen; omega) (by omega) (by simp [World.setCell]; omega) _ rfl ?_))
    intro gb cap7 w7 hown hgrow hlies hgl7
    have HB7 := Lib.hid (HBk.out.snoc (a := ((St.mk 7 [] E noRf [] l2 l3), (⟨⟨fo, fx, fname, fA, fl, fc⟩, none, 0, 0, none, 0, A2, c2, A3, c3⟩ : SG))) HSM.out HNB.out HS.out.sz hown hgrow (lies_at hlies (by simp)))
    clear hown hgrow hlies hgl7 HSM
    go_wp2_with fail
    apply HQQ.out
    · exact ⟨k - 1, P ++ [((St.mk 7 [] E noRf [] l2 l3), (⟨⟨fo, fx, fname, fA, fl, fc⟩, none, 0, 0, none, 0, A2, c2, A3, c3⟩ : SG))], us, i8, lo3, by go_num, by omega, by omega, by omega, by rw [List.map_append]; exact HBW.out, HB7.out⟩
    · simp [intOf]; omega
  · have t1 := bF (show ((nextV W.xs i4 2 : Nat) : Int) ≠ 1 by omega)
    clear h1
    have HSM : Hid (StM w7 (wr.heap.size ≤ ·) (St.mk 7 [] E noRf [] l2 []) (⟨⟨fo, fx, fname, fA, fl, fc⟩, none, 0, 0, none, 0, A2, c2, none, 0⟩ : SG)) := stM_mk 7 [] E noRf [] l2 [] _ (HM7.out.more fun b hb => by omega) rfl (ArsM.nil _ _ _) (HS7.out.putAt' (PutAt.refl wr.heap.size _) (by omega) (by omega)) (StsM.nil _ _ _)
    have HBW := Lib.hid (BlW.cond2 HD1.out E l2 [] HBL.out HR5.out HB2.out (BlW.nil _ _ _))
    have HNB := Lib.hid (HS.out.lt)
    go_wp2_with (first | (at_builtin; refine wpList_append_lies _ rfl (.tmp 244) (.tmp 246) 68 rfl (w.heap.size + 1) 94 iS _ 11 192 Try.underlying68 hiS hs0 hs1 hs2 rfl (by decide) (.slice oA P.length oc) P.length (stK.cs P) rfl (HB7.out.o.alloc _) ⟨w7.heap.size, 0, none⟩ 1 1 [.int .i64 7, .string ⟨#[]⟩, .int .i64 fo, .int .i64 fx, .string ⟨fname.toArray⟩, .slice fA fl fc, .string ⟨#[]⟩, .slice none 0 0, .slice none 0 0, .slice A2 l2.length c2, .slice none 0 0] rfl rfl (news_any w7 _ rfl _ _) (stK.one ((St.mk 7 [] E noRf [] l2 []), (⟨⟨fo, fx, fname, fA, fl, fc⟩, none, 0, 0, none, 0, A2, c2, none, 0⟩ : SG))) (by omega) (by unfold maxLen; omega) (by omega) (by simp; omega) _ rfl ?_))
    intro gb cap7 w7 hown hgrow hlies hgl7
    have HB7 := Lib.hid (HB7.out.snoc (a := ((St.mk 7 [] E noRf [] l2 []), (⟨⟨fo, fx, fname, fA, fl, fc⟩, none, 0, 0, none, 0, A2, c2, none, 0⟩ : SG))) HSM.out HNB.out HS.out.sz hown hgrow (lies_at hlies (by simp)))
    clear hown hgrow hlies hgl7 HSM
    go_wp2_with fail
    apply HQQ.out
    · exact ⟨k - 1, P ++ [((St.mk 7 [] E noRf [] l2 []), (⟨⟨fo, fx, fname, fA, fl, fc⟩, none, 0, 0, none, 0, A2, c2, none, 0⟩ : SG))], us, (nextI W.xs i4), lo2, by go_num, by omega, by omega, by omega, by rw [List.map_append]; exact HBW.out, HB7.out⟩
    · simp [intOf]; omega
end Go.Proofs.Ytlnbmmgbfgmboaa
