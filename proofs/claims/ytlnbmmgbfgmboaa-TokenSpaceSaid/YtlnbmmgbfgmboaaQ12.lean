/- Every case of the loop of block of the writer of the made programs. No statement of the program is proved in this file. -/
import Derived.Test.YtlnbmmgbfgmboaaMdSwLockG
import Derived.Test.YtlnbmmgbfgmboaaMdSwUnlockG
import Derived.Test.YtlnbmmgbfgmboaaMdSwVarG
import Derived.Test.YtlnbmmgbfgmboaaMdSwSetG
import Derived.Test.YtlnbmmgbfgmboaaMdSwCallG
import Derived.Test.YtlnbmmgbfgmboaaMdSwGosG
import Derived.Test.YtlnbmmgbfgmboaaMdSwCondG
import Derived.Test.YtlnbmmgbfgmboaaMdSwWhlG
import Derived.Test.YtlnbmmgbfgmboaaMdSwDaG
import Derived.Test.YtlnbmmgbfgmboaaMdSwDbG
import Derived.Test.YtlnbmmgbfgmboaaMdSwDcG
import Derived.Test.YtlnbmmgbfgmboaaMdSwRetG
import Derived.Test.YtlnbmmgbfgmboaaMdSwDdG
namespace Go.Proofs.Ytlnbmmgbfgmboaa
open Go.RowKit

theorem sw_any {W : WP} {fn : Nm} {ps : List Pm} {pA bA : Option Addr} {pc bn bc N left d most k : Nat} {w wr w3 : World} {vs us : List Nm} {P : List (St × SG)} {oA vA : Option Addr} {oc vc i1 i2 lo m : Nat} {Q : Exit → Act → World → Prop} {K K1 K2 : Act → World → Prop} {u5 u7 u8 u9 u10 u15 u16 u17 u18 u19 u20 u21 u22 u23 u24 u25 u26 u27 u28 u29 u30 u31 u32 u33 u34 u35 u36 u37 u38 u39 u40 u41 u42 u43 u44 u45 u46 u47 u48 u49 u50 u51 u52 u53 u54 u55 u56 u57 u58 u59 u60 u61 u62 u63 u64 u65 u66 u67 u68 u69 u70 u71 u72 u73 u74 u75 u76 u77 u78 u79 u80 u81 u82 u83 u84 u85 u86 u87 u88 u89 u90 u91 u92 u93 u94 u95 u96 u97 u98 u99 u100 u101 u102 u103 u104 u105 u106 u107 u108 u109 u110 u111 u112 u113 u114 u115 u116 u117 u118 u119 u120 u121 u122 u123 u124 u125 u126 u127 u128 u129 u130 u131 u132 u133 u134 u135 u136 u137 u138 u139 u140 u141 u142 u143 u144 u145 u146 u147 u148 u149 u150 u151 u152 u153 u154 u155 u156 u157 u158 u159 u160 u161 u162 u163 u164 u165 u166 u167 u168 u169 u170 u171 u172 u173 u174 u175 u176 u177 u178 u179 u180 u181 u182 u183 u184 u185 u186 u187 u188 u189 u190 u191 u192 u193 u194 u195 u196 u197 u198 u199 u200 u201 u202 u203 u204 u205 u206 u207 u208 u209 u210 u211 u212 u213 u214 u215 u216 u217 u218 u219 u220 u221 u222 u223 u224 u225 u226 u227 u228 u229 u230 u231 u232 u233 u234 u235 u236 u237 u238 u239 u240 u241 u242 u243 u244 u245 u246 u247 u248 : Value} (hC : RndC W fn ps pA bA pc bn bc N left d most k w wr w3 vs us P oA vA oc vc i1 i2 lo m)
    (hK : ∀ a w, (nav [true, true, true, false, true, false, false, true, false, false, true, true, false, true, false, true] (Try.f31.body.getD .skip)).wp Try.prog (Exit.inBlock 2 (Exit.then K1 (Exit.inBlock 1 (Exit.then K2 Q)))) a w → K a w)
    (hK1 : ∀ a w, (nav [true, true, true, false, true, false, false, true, false, false, true, true, true] (Try.f31.body.getD .skip)).wp Try.prog (Exit.inBlock 1 (Exit.then K2 Q)) a w → K1 a w) (hK2 : ∀ a w, (nav [true, true, true, false, true, false, false, true, true] (Try.f31.body.getD .skip)).wp Try.prog Q a w → K2 a w)
    (HQQ : Hid (∀ (x13 x14 x15 x16 x27 x28 x29 x30 x31 x32 x33 x34 x35 x36 x37 x38 x39 x40 x41 x42 x43 x44 x45 x46 x47 x48 x49 x50 x51 x52 x53 x54 x55 x56 x57 x58 x59 x60 x61 x62 x63 x64 x65 x66 x67 x68 x69 x70 x71 x72 x73 x74 x75 x76 x77 x78 x79 x80 x81 x82 x83 x84 x85 x86 x87 x88 x89 x90 x91 x92 x93 x94 x95 x96 x97 x98 x99 x100 x101 x102 x103 x104 x105 x106 x107 x108 x109 x110 x111 x112 x113 x114 x115 x116 x117 x118 x119 x120 x121 x122 x123 x124 x125 x126 x127 x128 x129 x130 x131 x132 x133 x134 x135 x136 x137 x138 x139 x140 x141 x142 x143 x144 x145 x146 x147 x148 x149 x150 x151 x152 x153 x154 x155 x156 x157 x158 x159 x160 x161 x162 x163 x164 x165 x166 x167 x168 x169 x170 x171 x172 x173 x174 x175 x176 x177 x178 x179 x180 x181 x182 x183 x184 x185 x186 x187 x188 x189 x190 x191 x192 x193 x194 x195 x196 x197 x198 x199 x200 x201 x202 x203 x204 x205 x206 x207 x208 x209 x210 x211 x212 x213 x214 x215 x216 x217 x218 x219 x220 x221 x222 x223 x224 x225 x226 x227 x228 x229 x230 x231 x232 x233 x234 x235 x236 x237 x238 x239 x240 x241 x242 x243 x244 x245 x246 x247 vv vo vn : Value) (w' : World), BkL w W ps (.cells #[.string ⟨fn.toArray⟩, .slice pA ps.length pc, .slice bA bn bc] 70 (0, 0)) d left most vs vv vo vn w' → (intOf vn).toNat < k → Q .normal { tmps := #[.pointer (some ⟨W.g, 0, none⟩), .agg #[.string ⟨fn.toArray⟩, .slice pA ps.length pc, .slice bA bn bc], vv, .int .i64 (d : Int), .int .i64 (most : Int), u5, .pointer (some ⟨w.heap.size, 0, none⟩), u7, u8, u9, u10, vo, vn, x13, x14, x15, x16, u17, u18, u19, u20, u21, u22, u23, u24, u25, u26, x27, x28, x29, x30, x31, x32, x33, x34, x35, x36, x37, x38, x39, x40, x41, x42, x43, x44, x45, x46, x47, x48, x49, x50, x51, x52, x53, x54, x55, x56, x57, x58, x59, x60, x61, x62, x63, x64, x65, x66, x67, x68, x69, x70, x71, x72, x73, x74, x75, x76, x77, x78, x79, x80, x81, x82, x83, x84, x85, x86, x87, x88, x89, x90, x91, x92, x93, x94, x95, x96, x97, x98, x99, x100, x101, x102, x103, x104, x105, x106, x107, x108, x109, x110, x111, x112, x113, x114, x115, x116, x117, x118, x119, x120, x121, x122, x123, x124, x125, x126, x127, x128, x129, x130, x131, x132, x133, x134, x135, x136, x137, x138, x139, x140, x141, x142, x143, x144, x145, x146, x147, x148, x149, x150, x151, x152, x153, x154, x155, x156, x157, x158, x159, x160, x161, x162, x163, x164, x165, x166, x167, x168, x169, x170, x171, x172, x173, x174, x175, x176, x177, x178, x179, x180, x181, x182, x183, x184, x185, x186, x187, x188, x189, x190, x191, x192, x193, x194, x195, x196, x197, x198, x199, x200, x201, x202, x203, x204, x205, x206, x207, x208, x209, x210, x211, x212, x213, x214, x215, x216, x217, x218, x219, x220, x221, x222, x223, x224, x225, x226, x227, x228, x229, x230, x231, x232, x233, x234, x235, x236, x237, x238, x239, x240, x241, x242, x243, x244, x245, x246, x247, u248], defers := [] } w')) :
    (nav [true, true, true, false, true, false, false, true, false, false, true, true, false, true, false, false] (Try.f31.body.getD .skip)).wp Try.prog (Exit.then K (Exit.inBlock 2 (Exit.then K1 (Exit.inBlock 1 (Exit.then K2 Q))))) { tmps := #[.pointer (some ⟨W.g, 0, none⟩), .agg #[.string ⟨fn.toArray⟩, .slice pA ps.length pc, .slice bA bn bc], .slice vA us.length vc, .int .i64 (d : Int), .int .i64 (most : Int), u5, .pointer (some ⟨w.heap.size, 0, none⟩), u7, u8, u9, u10, .slice oA P.length oc, .int .i64 (k : Int), .pointer (some ⟨wr.heap.size, 0, none⟩), .int .i64 (m : Int), u15, u16, u17, u18, u19, u20, u21, u22, u23, u24, u25, u26, u27, u28, u29, u30, u31, u32, u33, u34, u35, u36, u37, u38, u39, u40, u41, u42, u43, u44, u45, u46, u47, u48, u49, u50, u51, u52, u53, u54, u55, u56, u57, u58, u59, u60, u61, u62, u63, u64, u65, u66, u67, u68, u69, u70, u71, u72, u73, u74, u75, u76, u77, u78, u79, u80, u81, u82, u83, u84, u85, u86, u87, u88, u89, u90, u91, u92, u93, u94, u95, u96, u97, u98, u99, u100, u101, u102, u103, u104, u105, u106, u107, u108, u109, u110, u111, u112, u113, u114, u115, u116, u117, u118, u119, u120, u121, u122, u123, u124, u125, u126, u127, u128, u129, u130, u131, u132, u133, u134, u135, u136, u137, u138, u139, u140, u141, u142, u143, u144, u145, u146, u147, u148, u149, u150, u151, u152, u153, u154, u155, u156, u157, u158, u159, u160, u161, u162, u163, u164, u165, u166, u167, u168, u169, u170, u171, u172, u173, u174, u175, u176, u177, u178, u179, u180, u181, u182, u183, u184, u185, u186, u187, u188, u189, u190, u191, u192, u193, u194, u195, u196, u197, u198, u199, u200, u201, u202, u203, u204, u205, u206, u207, u208, u209, u210, u211, u212, u213, u214, u215, u216, u217, u218, u219, u220, u221, u222, u223, u224, u225, u226, u227, u228, u229, u230, u231, u232, u233, u234, u235, u236, u237, u238, u239, u240, u241, u242, u243, u244, u245, u246, u247, u248], defers := [] } w3 := by
  have hm14 := hC.hm14
  by_cases h4 : m < 4
  · exact sw_lock hC hK hK1 hK2 HQQ h4
  · by_cases h7 : m < 7
    · exact sw_unlock hC hK hK1 hK2 HQQ h4 h7
    · by_cases e7 : m = 7
      · exact sw_var hC hK hK1 hK2 HQQ e7
      · by_cases e8 : m = 8
        · by_cases hu : 0 < us.length
          · exact sw_set hC hK hK1 hK2 HQQ ⟨e8, hu⟩
          · exact sw_da hC hK hK1 hK2 HQQ e8 (by omega)
        · by_cases e9 : m = 9
          · exact sw_call hC hK hK1 hK2 HQQ e9
          · by_cases e10 : m = 10
            · exact sw_gos hC hK hK1 hK2 HQQ e10
            · by_cases e11 : m = 11
              · by_cases hd0 : 0 < d
                · exact sw_cond hC hK hK1 hK2 HQQ ⟨e11, hd0⟩
                · exact sw_db hC hK hK1 hK2 HQQ e11 (by omega)
              · by_cases e12 : m = 12
                · by_cases hd0 : 0 < d
                  · exact sw_whl hC hK hK1 hK2 HQQ ⟨e12, hd0⟩
                  · exact sw_dc hC hK hK1 hK2 HQQ e12 (by omega)
                · by_cases h1 : nextV W.xs i2 3 = 1
                  · exact sw_ret hC hK hK1 hK2 HQQ (by omega) h1
                  · exact sw_dd hC hK hK1 hK2 HQQ (by omega) h1
end Go.Proofs.Ytlnbmmgbfgmboaa
