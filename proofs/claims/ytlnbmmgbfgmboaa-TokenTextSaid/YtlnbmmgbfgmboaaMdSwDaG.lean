/- One case of the loop of block of the writer of the made programs. No statement of the program is proved in this file. -/
import Derived.Test.YtlnbmmgbfgmboaaQ8
import Derived.Deep.CutRange
namespace Go.Proofs.Ytlnbmmgbfgmboaa
open Go.RowKit

set_option maxRecDepth 100000 in
set_option maxHeartbeats 8000000 in
theorem sw_da {W : WP} {fn : Nm} {ps : List Pm} {pA bA : Option Addr} {pc bn bc N left d most k : Nat} {w wr w3 : World} {vs us : List Nm} {P : List (St × SG)} {oA vA : Option Addr} {oc vc i1 i2 lo m : Nat} {Q : Exit → Act → World → Prop} {K K1 K2 : Act → World → Prop} {u5 u7 u8 u9 u10 u15 u16 u17 u18 u19 u20 u21 u22 u23 u24 u25 u26 u27 u28 u29 u30 u31 u32 u33 u34 u35 u36 u37 u38 u39 u40 u41 u42 u43 u44 u45 u46 u47 u48 u49 u50 u51 u52 u53 u54 u55 u56 u57 u58 u59 u60 u61 u62 u63 u64 u65 u66 u67 u68 u69 u70 u71 u72 u73 u74 u75 u76 u77 u78 u79 u80 u81 u82 u83 u84 u85 u86 u87 u88 u89 u90 u91 u92 u93 u94 u95 u96 u97 u98 u99 u100 u101 u102 u103 u104 u105 u106 u107 u108 u109 u110 u111 u112 u113 u114 u115 u116 u117 u118 u119 u120 u121 u122 u123 u124 u125 u126 u127 u128 u129 u130 u131 u132 u133 u134 u135 u136 u137 u138 u139 u140 u141 u142 u143 u144 u145 u146 u147 u148 u149 u150 u151 u152 u153 u154 u155 u156 u157 u158 u159 u160 u161 u162 u163 u164 u165 u166 u167 u168 u169 u170 u171 u172 u173 u174 u175 u176 u177 u178 u179 u180 u181 u182 u183 u184 u185 u186 u187 u188 u189 u190 u191 u192 u193 u194 u195 u196 u197 u198 u199 u200 u201 u202 u203 u204 u205 u206 u207 u208 u209 u210 u211 u212 u213 u214 u215 u216 u217 u218 u219 u220 u221 u222 u223 u224 u225 u226 u227 u228 u229 u230 u231 u232 u233 u234 u235 u236 u237 u238 u239 u240 u241 u242 u243 u244 u245 u246 u247 u248 : Value} (hC : RndC W fn ps pA bA pc bn bc N left d most k w wr w3 vs us P oA vA oc vc i1 i2 lo m)
    (hK : ∀ a w, (nav [true, true, true, false, true, false, false, true, false, false, true, true, false, true, false, true] (Try.f31.body.getD .skip)).wp Try.prog (Exit.inBlock 2 (Exit.then K1 (Exit.inBlock 1 (Exit.then K2 Q)))) a w → K a w)
    (hK1 : ∀ a w, (nav [true, true, true, false, true, false, false, true, false, false, true, true, true] (Try.f31.body.getD .skip)).wp Try.prog (Exit.inBlock 1 (Exit.then K2 Q)) a w → K1 a w) (hK2 : ∀ a w, (nav [true, true, true, false, true, false, false, true, true] (Try.f31.body.getD .skip)).wp Try.prog Q a w → K2 a w)
    (HQQ : Hid (∀ (x13 x14 x15 x16 x27 x28 x29 x30 x31 x32 x33 x34 x35 x36 x37 x38 x39 x40 x41 x42 x43 x44 x45 x46 x47 x48 x49 x50 x51 x52 x53 x54 x55 x56 x57 x58 x59 x60 x61 x62 x63 x64 x65 x66 x67 x68 x69 x70 x71 x72 x73 x74 x75 x76 x77 x78 x79 x80 x81 x82 x83 x84 x85 x86 x87 x88 x89 x90 x91 x92 x93 x94 x95 x96 x97 x98 x99 x100 x101 x102 x103 x104 x105 x106 x107 x108 x109 x110 x111 x112 x113 x114 x115 x116 x117 x118 x119 x120 x121 x122 x123 x124 x125 x126 x127 x128 x129 x130 x131 x132 x133 x134 x135 x136 x137 x138 x139 x140 x141 x142 x143 x144 x145 x146 x147 x148 x149 x150 x151 x152 x153 x154 x155 x156 x157 x158 x159 x160 x161 x162 x163 x164 x165 x166 x167 x168 x169 x170 x171 x172 x173 x174 x175 x176 x177 x178 x179 x180 x181 x182 x183 x184 x185 x186 x187 x188 x189 x190 x191 x192 x193 x194 x195 x196 x197 x198 x199 x200 x201 x202 x203 x204 x205 x206 x207 x208 x209 x210 x211 x212 x213 x214 x215 x216 x217 x218 x219 x220 x221 x222 x223 x224 x225 x226 x227 x228 x229 x230 x231 x232 x233 x234 x235 x236 x237 x238 x239 x240 x241 x242 x243 x244 x245 x246 x247 vv vo vn : Value) (w' : World), BkL w W ps (.cells #[.string ⟨fn.toArray⟩, .slice pA ps.length pc, .slice bA bn bc] 70 (0, 0)) d left most vs vv vo vn w' → (intOf vn).toNat < k → Q .normal { tmps := #[.pointer (some ⟨W.g, 0, none⟩), .agg #[.string ⟨fn.toArray⟩, .slice pA ps.length pc, .slice bA bn bc], vv, .int .i64 (d : Int), .int .i64 (most : Int), u5, .pointer (some ⟨w.heap.size, 0, none⟩), u7, u8, u9, u10, vo, vn, x13, x14, x15, x16, u17, u18, u19, u20, u21, u22, u23, u24, u25, u26, x27, x28, x29, x30, x31, x32, x33, x34, x35, x36, x37, x38, x39, x40, x41, x42, x43, x44, x45, x46, x47, x48, x49, x50, x51, x52, x53, x54, x55, x56, x57, x58, x59, x60, x61, x62, x63, x64, x65, x66, x67, x68, x69, x70, x71, x72, x73, x74, x75, x76, x77, x78, x79, x80, x81, x82, x83, x84, x85, x86, x87, x88, x89, x90, x91, x92, x93, x94, x95, x96, x97, x98, x99, x100, x101, x102, x103, x104, x105, x106, x107, x108, x109, x110, x111, x112, x113, x114, x115, x116, x117, x118, x119, x120, x121, x122, x123, x124, x125, x126, x127, x128, x129, x130, x131, x132, x133, x134, x135, x136, x137, x138, x139, x140, x141, x142, x143, x144, x145, x146, x147, x148, x149, x150, x151, x152, x153, x154, x155, x156, x157, x158, x159, x160, x161, x162, x163, x164, x165, x166, x167, x168, x169, x170, x171, x172, x173, x174, x175, x176, x177, x178, x179, x180, x181, x182, x183, x184, x185, x186, x187, x188, x189, x190, x191, x192, x193, x194, x195, x196, x197, x198, x199, x200, x201, x202, x203, x204, x205, x206, x207, x208, x209, x210, x211, x212, x213, x214, x215, x216, x217, x218, x219, x220, x221, x222, x223, x224, x225, x226, x227, x228, x229, x230, x231, x232, x233, x234, x235, x236, x237, x238, x239, x240, x241, x242, x243, x244, x245, x246, x247, u248], defers := [] } w'))
    (e8 : m = 8) (e0 : us.length = 0) :
    (nav [true, true, true, false, true, false, false, true, false, false, true, true, false, true, false, false] (Try.f31.body.getD .skip)).wp Try.prog (Exit.then K (Exit.inBlock 2 (Exit.then K1 (Exit.inBlock 1 (Exit.then K2 Q))))) { tmps := #[.pointer (some ⟨W.g, 0, none⟩), .agg #[.string ⟨fn.toArray⟩, .slice pA ps.length pc, .slice bA bn bc], .slice vA us.length vc, .int .i64 (d : Int), .int .i64 (most : Int), u5, .pointer (some ⟨w.heap.size, 0, none⟩), u7, u8, u9, u10, .slice oA P.length oc, .int .i64 (k : Int), .pointer (some ⟨wr.heap.size, 0, none⟩), .int .i64 (m : Int), u15, u16, u17, u18, u19, u20, u21, u22, u23, u24, u25, u26, u27, u28, u29, u30, u31, u32, u33, u34, u35, u36, u37, u38, u39, u40, u41, u42, u43, u44, u45, u46, u47, u48, u49, u50, u51, u52, u53, u54, u55, u56, u57, u58, u59, u60, u61, u62, u63, u64, u65, u66, u67, u68, u69, u70, u71, u72, u73, u74, u75, u76, u77, u78, u79, u80, u81, u82, u83, u84, u85, u86, u87, u88, u89, u90, u91, u92, u93, u94, u95, u96, u97, u98, u99, u100, u101, u102, u103, u104, u105, u106, u107, u108, u109, u110, u111, u112, u113, u114, u115, u116, u117, u118, u119, u120, u121, u122, u123, u124, u125, u126, u127, u128, u129, u130, u131, u132, u133, u134, u135, u136, u137, u138, u139, u140, u141, u142, u143, u144, u145, u146, u147, u148, u149, u150, u151, u152, u153, u154, u155, u156, u157, u158, u159, u160, u161, u162, u163, u164, u165, u166, u167, u168, u169, u170, u171, u172, u173, u174, u175, u176, u177, u178, u179, u180, u181, u182, u183, u184, u185, u186, u187, u188, u189, u190, u191, u192, u193, u194, u195, u196, u197, u198, u199, u200, u201, u202, u203, u204, u205, u206, u207, u208, u209, u210, u211, u212, u213, u214, u215, u216, u217, u218, u219, u220, u221, u222, u223, u224, u225, u226, u227, u228, u229, u230, u231, u232, u233, u234, u235, u236, u237, u238, u239, u240, u241, u242, u243, u244, u245, u246, u247, u248], defers := [] } w3 := by
  obtain ⟨hps, hl, hd, hm, hn, hql, hgl, hll, hgl', hwr, hk, hk0, hun, hlo, hPl, hm14, HP, IH3, IH2, HBL, HS, HF3, HT3, HW3, HNq, HNg, HPm, f0, f1, f2⟩ := hC
  have hg0 := hgl
  have hq0 := hql
  obtain ⟨i0, hi, hz0, hz1, hz2⟩ := info_parts Try.infoStr
  obtain ⟨iS, hiS, hs0, hs1, hs2⟩ := info_parts Try.infoSt
  dsimp only [nav, Try.f31, Option.getD] at hK hK1 hK2 ⊢
  have h4 : ¬ m < 4 := by omega
  have t4 : ¬ ((m : Nat) : Int) < 4 := by omega
  have h7 : ¬ m < 7 := by omega
  have t7 : ¬ ((m : Nat) : Int) < 7 := by omega
  subst e8
  have tu : ¬ (0 : Int) < (us.length : Int) := by omega
  clear e0
  have hTq : wr.heap.size ≠ W.q := by omega
  have hTg : wr.heap.size ≠ W.g := by omega
  have hgT : W.g ≠ wr.heap.size := by omega
  clear t4 t7 h4 h7 hm14
  go_wp2_with fail
  refine (wref_any w3 W i2 lo us vA vc fn ps pA bA pc bn bc HW3.out HNq.out (by omega) HPm.out hps).mono ?_
  rintro e w4 ⟨r, rA, rn, rc, i4, rfl, hR, hI, hW4, hG4⟩
  (try dsimp only)
  have HF4 := Lib.hid (HF3.out.trans (Fr.of_grown hG4))
  have HT4 := Lib.hid ((hG4.block _ (lt_of_block HT3.out) (fun e => by injection e with e; omega)).trans HT3.out)
  have HW4 := Lib.hid hW4
  have HR4 := Lib.hid hR
  have HI4 := Lib.hid hI
  obtain ⟨r0, r1, r2, r3, r4, r5, r6, r7, r8, r9, r10, rf, -⟩ := blk11 HT4.out
  have hz3 := lt_of_block HT3.out
  have hz4 := hG4.size
  have hzT := lt_of_block HT4.out
  clear hR hI hW4 hG4
  have HQ := Lib.hid (((PutAt.refl (wr.heap.size) w4).set 6 (.string ⟨r.name.toArray⟩)).set 7 (.slice rA rn rc))
  have HFk := Lib.hid (HF4.out.putAt HQ.out (Nat.le_refl _))
  have HWk := Lib.hid (HS.out.wmk HFk.out HW4.out HQ.out (Nat.le_refl _))
  have HTk : Hid (((w4.setCell ⟨wr.heap.size, 6, none⟩ (.string ⟨r.name.toArray⟩)).setCell ⟨wr.heap.size, 7, none⟩ (.slice rA rn rc)).heap[wr.heap.size]? = some (.cells #[.int .i64 5, .string ⟨#[]⟩, .int .i64 0, .int .i64 0, .string ⟨#[]⟩, .slice none 0 0, .string ⟨r.name.toArray⟩, .slice rA rn rc, .slice none 0 0, .slice none 0 0, .slice none 0 0] 94 (0, 0))) := blkset_any 7 _ (blkset_any 6 _ HT4.out)
  have HIk : Hid (IdxM ((w4.setCell ⟨wr.heap.size, 6, none⟩ (.string ⟨r.name.toArray⟩)).setCell ⟨wr.heap.size, 7, none⟩ (.slice rA rn rc)) (fun b => wr.heap.size + 1 ≤ b ∧ b < w4.heap.size) r.idx rA rn) := (HI4.out.more' (S' := fun b => wr.heap.size + 1 ≤ b ∧ b < w4.heap.size) fun b hb hl => ⟨by omega, hl⟩).keep fun b hb _ => HQ.out.2.2.2.2 b (by omega)
  have HSZ := Lib.hid (HS.out.z (· = wr.heap.size) (fun b e => by omega))
  have hLTs := Lib.hid HS.out.lt
  have hSz := HS.out.sz
  go_upto_region 11 with fail
  have HTU := Lib.hid (heap_alc (.cells #[.int .i64 6, .string ⟨#[]⟩, .int .i64 0, .int .i64 0, .string ⟨#[]⟩, .slice none 0 0, .string ⟨r.name.toArray⟩, .slice rA rn rc, .slice none 0 0, .slice none 0 0, .slice none 0 0] 94) HTk.out)
  have hUU := heap_alloc_new ((w4.setCell ⟨wr.heap.size, 6, none⟩ (.string ⟨r.name.toArray⟩)).setCell ⟨wr.heap.size, 7, none⟩ (.slice rA rn rc)) (.cells #[.int .i64 6, .string ⟨#[]⟩, .int .i64 0, .int .i64 0, .string ⟨#[]⟩, .slice none 0 0, .string ⟨r.name.toArray⟩, .slice rA rn rc, .slice none 0 0, .slice none 0 0, .slice none 0 0] 94)
  rw [show ((w4.setCell ⟨wr.heap.size, 6, none⟩ (.string ⟨r.name.toArray⟩)).setCell ⟨wr.heap.size, 7, none⟩ (.slice rA rn rc)).heap.size = w4.heap.size by simp [World.setCell]] at hUU
  have HUU := Lib.hid hUU
  have HZU := Lib.hid ((HSZ.out.go HFk.out HWk.out).go ((Fr.refl W.g W.q ((w4.setCell ⟨wr.heap.size, 6, none⟩ (.string ⟨r.name.toArray⟩)).setCell ⟨wr.heap.size, 7, none⟩ (.slice rA rn rc))).alloc (.cells #[.int .i64 6, .string ⟨#[]⟩, .int .i64 0, .int .i64 0, .string ⟨#[]⟩, .slice none 0 0, .string ⟨r.name.toArray⟩, .slice rA rn rc, .slice none 0 0, .slice none 0 0, .slice none 0 0] 94)) (HWk.out.alloc _))
  have HIU : Hid (IdxM (((w4.setCell ⟨wr.heap.size, 6, none⟩ (.string ⟨r.name.toArray⟩)).setCell ⟨wr.heap.size, 7, none⟩ (.slice rA rn rc)).alloc (.cells #[.int .i64 6, .string ⟨#[]⟩, .int .i64 0, .int .i64 0, .string ⟨#[]⟩, .slice none 0 0, .string ⟨r.name.toArray⟩, .slice rA rn rc, .slice none 0 0, .slice none 0 0, .slice none 0 0] 94)) (fun b => wr.heap.size + 1 ≤ b ∧ b < w4.heap.size) r.idx rA rn) := HIk.out.keep fun b _ hl => Below.heap_alloc _ _ b hl
  clear hUU HTk HIk HWk HFk HQ HI4 HW4 HF4 HT4 r0 r1 r2 r3 r4 r5 r6 r7 r8 r9 r10 rf HSZ
  generalize (((w4.setCell ⟨wr.heap.size, 6, none⟩ (.string ⟨r.name.toArray⟩)).setCell ⟨wr.heap.size, 7, none⟩ (.slice rA rn rc)).alloc (.cells #[.int .i64 6, .string ⟨#[]⟩, .int .i64 0, .int .i64 0, .string ⟨#[]⟩, .slice none 0 0, .string ⟨r.name.toArray⟩, .slice rA rn rc, .slice none 0 0, .slice none 0 0, .slice none 0 0] 94)) = wU at *
  generalize hu0 : w4.heap.size = u0 at *
  clear hu0
  obtain ⟨y0, y1, y2, y3, y4, y5, y6, y7, y8, y9, y10, yf, ylt⟩ := blk11 HTU.out
  have hUl := lt_of_block HUU.out
  have HSM : Hid (StM wU (wr.heap.size + 1 ≤ ·) (St.mk 5 [] noEx r [] [] []) (⟨⟨0, 0, [], none, 0, 0⟩, rA, rn, rc, none, 0, none, 0, none, 0⟩ : SG)) := stM_mk 5 [] noEx r [] [] [] _ (ExM.leaf _ _ _ _ _ _ _) (HIU.out.more fun b hb => hb.1) (ArsM.nil _ _ _) (StsM.nil _ _ _) (StsM.nil _ _ _)
  go_wp2_with (first | (at_builtin; refine wpList_append_lies _ rfl (.tmp 59) (.tmp 61) 68 rfl (w.heap.size + 1) 94 iS _ 11 192 Try.underlying68 hiS hs0 hs1 hs2 rfl (by decide) (.slice oA P.length oc) P.length (stK.cs P) rfl (HZU.out.o.alloc _) ⟨wU.heap.size, 0, none⟩ 1 1 [.int .i64 5, .string ⟨#[]⟩, .int .i64 0, .int .i64 0, .string ⟨#[]⟩, .slice none 0 0, .string ⟨r.name.toArray⟩, .slice rA rn rc, .slice none 0 0, .slice none 0 0, .slice none 0 0] rfl rfl (news_any wU _ rfl _ _) (stK.one ((St.mk 5 [] noEx r [] [] []), (⟨⟨0, 0, [], none, 0, 0⟩, rA, rn, rc, none, 0, none, 0, none, 0⟩ : SG))) (by omega) (by unfold maxLen; omega) (by omega) (by simp; omega) _ rfl ?_))
  intro gb cap7 w7 hown hgrow hlies hgl7
  have hNe : ∀ b, wr.heap.size ≤ b → some b ≠ (Value.slice oA P.length oc).ownBlock := fun b hb e => by have := hLTs.out _ (.inl e.symm); omega
  have hk7 : ∀ b, wr.heap.size ≤ b → b < wU.heap.size → w7.heap[b]? = wU.heap[b]? := fun b hb hl => (hgrow.block b (by simp; omega) (hNe b hb)).trans (Below.heap_alloc wU _ b hl)
  have HZ7 := Lib.hid (HZU.out.snoc (a := ((St.mk 5 [] noEx r [] [] []), (⟨⟨0, 0, [], none, 0, 0⟩, rA, rn, rc, none, 0, none, 0, none, 0⟩ : SG))) (N := wr.heap.size + 1) HSM.out (fun b hb => Nat.lt_succ_of_lt (hLTs.out b hb)) (by omega) (fun b e => by omega) hown hgrow (lies_at hlies (by simp)))
  have HT7 := Lib.hid ((hk7 _ (Nat.le_refl _) ylt).trans HTU.out)
  have HU7 := Lib.hid ((hk7 u0 (by omega) hUl).trans HUU.out)
  have hgb : gb < wr.heap.size ∨ u0 < gb := by
    rcases hlies with h | h
    · exact .inl (hLTs.out _ (.inl h))
    · exact .inr (by rw [h]; first | omega | (simp; omega))
  have HI7 : Hid (IdxM w7 (fun b => wr.heap.size + 1 ≤ b ∧ b < u0) r.idx rA rn) := HIU.out.keep fun b hb hl => hk7 b (by omega) hl
  have hT7 := lt_of_block HT7.out
  have hU7 := lt_of_block HU7.out
  obtain ⟨f0, f1, f2⟩ := mblk3 HZ7.out.f
  have HN7 := Lib.hid (HZ7.out.s.names (Fr.refl W.g W.q w7))
  have HP7 := Lib.hid (HZ7.out.s.params (Fr.refl W.g W.q w7) HP.out)
  clear hown hgrow hlies hgl7 hk7 HTU HUU HIU HSM y0 y1 y2 y3 y4 y5 y6 y7 y8 y9 y10 yf HZU
  go_wp2_with fail
  refine (IH2.out w7 i4 lo us vA vc (by omega) HZ7.out.wm HN7.out.1 HN7.out.2 (by omega) HP7.out).mono ?_
  rintro e w8 ⟨l2, P2, A2, c2, i8, lo2, us2, hl2, rfl, hB2, hM2, hO2, hW8, hF8⟩
  (try dsimp only)
  rw [hl2, List.length_map]
  have HL2 := Lib.hid hl2
  have HB2 := Lib.hid hB2
  have hle2 := hB2.le
  have hln2 := hB2.len
  rw [hl2, List.length_map] at hln2
  rw [hl2, List.length_map] at hO2
  have HZ8 := Lib.hid (HZ7.out.go hF8 hW8)
  have HT8 := Lib.hid ((hF8.block _ hT7 hTg hTq).trans HT7.out)
  have HU8 := Lib.hid ((hF8.block _ hU7 (by omega) (by omega)).trans HU7.out)
  have HI8 : Hid (IdxM w8 (fun b => wr.heap.size + 1 ≤ b ∧ b < u0) r.idx rA rn) := HI7.out.keep fun b hb hl => hF8.block b hl (by omega) (by omega)
  have HL8 : Hid ((P ++ [((St.mk 5 [] noEx r [] [] []), (⟨⟨0, 0, [], none, 0, 0⟩, rA, rn, rc, none, 0, none, 0, none, 0⟩ : SG))]).length = P.length + 1) := by show _ = _; simp
  have HO8 : Hid (w8.ownsRow (w.heap.size + 1) 94 11 (.slice (some ⟨gb, 0, none⟩) (P.length + 1) cap7) (P.length + 1) (stK.cs (P ++ [((St.mk 5 [] noEx r [] [] []), (⟨⟨0, 0, [], none, 0, 0⟩, rA, rn, rc, none, 0, none, 0, none, 0⟩ : SG))]))) := by
    have h := HZ8.out.o
    rw [HL8.out] at h
    exact h
  have HA8 := Lib.hid (own_add hO2.1)
  have HC8 : Hid (∀ u ∈ stK.cs P2, u.oneCell' = true) := fun u hu => by
    obtain ⟨a, _, ha⟩ := List.mem_flatMap.1 hu
    exact stK.one a u ha
  have HS8 : Hid (∀ p ∈ P2, StM w8 (fun b => w7.heap.size ≤ b) p.1 p.2) := fun p hp => (hO2.2 p hp).more fun _ hb _ => hb.1
  have HLn : Hid ((stK.cs P2).length = P2.length * 11) := stK.cs_len P2
  have hsz7 := HZ7.out.s.sz
  have HLt7 := Lib.hid HZ7.out.s.lt
  have hT8 := lt_of_block HT8.out
  have hU8 := lt_of_block HU8.out
  have hwz8 : w.heap.size + 1 ≤ w8.heap.size := Nat.le_trans hsz7 hF8.size
  clear hl2 hB2 hM2 hO2 hW8 hF8 HT7 HU7 HI7 HN7 HP7 f0 f1 f2 HZ7
  go_wp2_with (first | (at_builtin; refine wpList_append_some _ rfl (.tmp 63) (.tmp 67) 68 rfl (w.heap.size + 1) 94 iS _ 11 192 Try.underlying68 hiS hs0 hs1 hs2 rfl (by decide) gb cap7 (P.length + 1) (stK.cs (P ++ [((St.mk 5 [] noEx r [] [] []), (⟨⟨0, 0, [], none, 0, 0⟩, rA, rn, rc, none, 0, none, 0, none, 0⟩ : SG))])) rfl HO8.out A2 P2.length c2 (stK.cs P2) rfl HLn.out HA8.out HC8.out (by unfold maxLen; omega) (by omega) hwz8 _ rfl ?_))
  intro g9 cap9 w9 hown hgrow hlies hgl9
  have hl9 : gb = g9 ∨ g9 = w8.heap.size := by simpa using hlies
  have hg9 : g9 < wr.heap.size ∨ u0 < g9 := by
    rcases hl9 with h | h
    · rw [← h]; exact hgb
    · exact .inr (by omega)
  have HZ9 := Lib.hid (HZ8.out.snocs (P2 := P2) (S0 := fun b => w7.heap.size ≤ b) HS8.out (fun b hb => ⟨by omega, fun e => by have := HLt7.out _ (.inl e.symm); omega, fun e => by have := HLt7.out _ (.inr e.symm); omega, fun e => by omega⟩) (by rw [HL8.out]; exact hown) hgrow (lies_at (hl9.imp (fun h => congrArg some h) (fun h => h)) rfl))
  have HT9 := Lib.hid ((hgrow.block _ hT8 (fun e => by injection e with e; omega)).trans HT8.out)
  have HU9 := Lib.hid ((hgrow.block _ hU8 (fun e => by injection e with e; omega)).trans HU8.out)
  have HI9 : Hid (IdxM w9 (fun b => wr.heap.size + 1 ≤ b ∧ b < u0) r.idx rA rn) := HI8.out.keep fun b hb hl => hgrow.block b hl (fun e => by injection e with e; omega)
  have HL9 : Hid (((P ++ [((St.mk 5 [] noEx r [] [] []), (⟨⟨0, 0, [], none, 0, 0⟩, rA, rn, rc, none, 0, none, 0, none, 0⟩ : SG))]) ++ P2).length = P.length + 1 + P2.length) := by show _ = _; simp; omega
  clear hown hgrow hlies hgl9 HT8 HU8 HI8 HZ8 HS8 HA8 HC8 HO8 HLn HLt7
  obtain ⟨y0, y1, y2, y3, y4, y5, y6, y7, y8, y9, y10, yf, ylt⟩ := blk11 HT9.out
  obtain ⟨z0, z1, z2, z3, z4, z5, z6, z7, z8, z9, z10, zf, zlt⟩ := blk11 HU9.out
  go_upto_region 37 with fail
  have hA9 := all11 (v0 := .int .i64 6) (v1 := .string ⟨#[]⟩) (v2 := .int .i64 0) (v3 := .int .i64 0) (v4 := .string ⟨#[]⟩) (v5 := .slice none 0 0) (v6 := .string ⟨r.name.toArray⟩) (v7 := .slice rA rn rc) (v8 := .slice none 0 0) (v9 := .slice none 0 0) (v10 := .slice none 0 0) HT9.out
  have HQ9 := Lib.hid hA9.1
  have HTT := Lib.hid hA9.2
  have HZT := Lib.hid (HZ9.out.put HQ9.out rfl (by omega) (fun e => by injection e with e; have e' : wr.heap.size = g9 := e; omega) (fun e => by have := hLTs.out _ (.inr e.symm); omega))
  clear hA9
  have HIT : Hid (IdxM (((((((((((w9.setCell ⟨wr.heap.size, 0, none⟩ (.int .i64 6)).setCell ⟨wr.heap.size, 1, none⟩ (.string ⟨#[]⟩)).setCell ⟨wr.heap.size, 2, none⟩ (.int .i64 0)).setCell ⟨wr.heap.size, 3, none⟩ (.int .i64 0)).setCell ⟨wr.heap.size, 4, none⟩ (.string ⟨#[]⟩)).setCell ⟨wr.heap.size, 5, none⟩ (.slice none 0 0)).setCell ⟨wr.heap.size, 6, none⟩ (.string ⟨r.name.toArray⟩)).setCell ⟨wr.heap.size, 7, none⟩ (.slice rA rn rc)).setCell ⟨wr.heap.size, 8, none⟩ (.slice none 0 0)).setCell ⟨wr.heap.size, 9, none⟩ (.slice none 0 0)).setCell ⟨wr.heap.size, 10, none⟩ (.slice none 0 0)) (fun b => wr.heap.size + 1 ≤ b ∧ b < u0) r.idx rA rn) := HI9.out.keep fun b hb _ => HQ9.out.2.2.2.2 b (by omega)
  clear y0 y1 y2 y3 y4 y5 y6 y7 y8 y9 y10 yf z0 z1 z2 z3 z4 z5 z6 z7 z8 z9 z10 zf HQ9 HZ9 HT9 HU9 HI9 ylt zlt
  generalize (((((((((((w9.setCell ⟨wr.heap.size, 0, none⟩ (.int .i64 6)).setCell ⟨wr.heap.size, 1, none⟩ (.string ⟨#[]⟩)).setCell ⟨wr.heap.size, 2, none⟩ (.int .i64 0)).setCell ⟨wr.heap.size, 3, none⟩ (.int .i64 0)).setCell ⟨wr.heap.size, 4, none⟩ (.string ⟨#[]⟩)).setCell ⟨wr.heap.size, 5, none⟩ (.slice none 0 0)).setCell ⟨wr.heap.size, 6, none⟩ (.string ⟨r.name.toArray⟩)).setCell ⟨wr.heap.size, 7, none⟩ (.slice rA rn rc)).setCell ⟨wr.heap.size, 8, none⟩ (.slice none 0 0)).setCell ⟨wr.heap.size, 9, none⟩ (.slice none 0 0)).setCell ⟨wr.heap.size, 10, none⟩ (.slice none 0 0)) = wT at HZT HTT HIT ⊢
  obtain ⟨y0, y1, y2, y3, y4, y5, y6, y7, y8, y9, y10, yf, ylt⟩ := blk11 HTT.out
  have HOT : Hid (wT.ownsRow (w.heap.size + 1) 94 11 (.slice (some ⟨g9, 0, none⟩) (P.length + 1 + P2.length) cap9) (P.length + 1 + P2.length) (stK.cs ((P ++ [((St.mk 5 [] noEx r [] [] []), (⟨⟨0, 0, [], none, 0, 0⟩, rA, rn, rc, none, 0, none, 0, none, 0⟩ : SG))]) ++ P2))) := by
    have h := HZT.out.o
    rw [HL9.out] at h
    exact h
  have HSM : Hid (StM wT (fun b => wr.heap.size + 1 ≤ b ∧ b < u0) (St.mk 6 [] noEx r [] [] []) (⟨⟨0, 0, [], none, 0, 0⟩, rA, rn, rc, none, 0, none, 0, none, 0⟩ : SG)) := stM_mk 6 [] noEx r [] [] [] _ (ExM.leaf _ _ _ _ _ _ _) HIT.out (ArsM.nil _ _ _) (StsM.nil _ _ _) (StsM.nil _ _ _)
  have HBW := Lib.hid (BlW.around r HBL.out HR4.out HB2.out)
  clear HTT HIT
  go_wp2_with (first | (at_builtin; refine wpList_append_lies _ rfl (.tmp 244) (.tmp 246) 68 rfl (w.heap.size + 1) 94 iS _ 11 192 Try.underlying68 hiS hs0 hs1 hs2 rfl (by decide) (.slice (some ⟨g9, 0, none⟩) (P.length + 1 + P2.length) cap9) (P.length + 1 + P2.length) (stK.cs ((P ++ [((St.mk 5 [] noEx r [] [] []), (⟨⟨0, 0, [], none, 0, 0⟩, rA, rn, rc, none, 0, none, 0, none, 0⟩ : SG))]) ++ P2)) rfl (HOT.out.alloc _) ⟨wT.heap.size, 0, none⟩ 1 1 [.int .i64 6, .string ⟨#[]⟩, .int .i64 0, .int .i64 0, .string ⟨#[]⟩, .slice none 0 0, .string ⟨r.name.toArray⟩, .slice rA rn rc, .slice none 0 0, .slice none 0 0, .slice none 0 0] rfl rfl (news_any wT _ rfl _ _) (stK.one ((St.mk 6 [] noEx r [] [] []), (⟨⟨0, 0, [], none, 0, 0⟩, rA, rn, rc, none, 0, none, 0, none, 0⟩ : SG))) (by omega) (by unfold maxLen; omega) (by omega) (by simp; omega) _ rfl ?_))
  intro g3 cap3 w3' hown hgrow hlies hgl3
  have HB3 := Lib.hid (HZT.out.s.snocS (a := ((St.mk 6 [] noEx r [] [] []), (⟨⟨0, 0, [], none, 0, 0⟩, rA, rn, rc, none, 0, none, 0, none, 0⟩ : SG))) (S0 := fun b => wr.heap.size + 1 ≤ b ∧ b < u0) HSM.out (fun b hb => ⟨by omega, fun e => by injection e with e; have e' : b = g9 := e; omega, fun e => by have := hLTs.out _ (.inr e.symm); omega⟩) (by rw [HL9.out]; first | exact hown | (rw [List.append_assoc, List.singleton_append]; exact hown)) hgrow (lies_at hlies (by simp)))
  clear hown hgrow hlies hgl3 HSM HZT HOT
  go_wp2_with fail
  apply HQQ.out
  · exact ⟨k - 1, ((P ++ [((St.mk 5 [] noEx r [] [] []), (⟨⟨0, 0, [], none, 0, 0⟩, rA, rn, rc, none, 0, none, 0, none, 0⟩ : SG))]) ++ P2) ++ [((St.mk 6 [] noEx r [] [] []), (⟨⟨0, 0, [], none, 0, 0⟩, rA, rn, rc, none, 0, none, 0, none, 0⟩ : SG))], us, i8, lo2, by go_num, by omega, by omega, by omega, by rw [List.map_append, List.map_append, List.map_append, ← HL2.out]; exact HBW.out, HB3.out⟩
  · simp [intOf]; omega
end Go.Proofs.Ytlnbmmgbfgmboaa
