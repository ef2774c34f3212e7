/- The loop over the mutexes of Program of the made inputs. No statement of the program is proved in this file. -/
import Derived.Test.YtlnbmmgbfgmboaaQ8
import Derived.Deep.RegionLaw
namespace Go.Proofs.Ytlnbmmgbfgmboaa
open Go.RowKit

set_option maxRecDepth 100000 in
set_option maxHeartbeats 8000000 in
theorem pgLoop1 {w w4 : World} {g n : Nat} {ys : List Int} {ar : Bool} {R : Act → World → Prop} {u0 u1 u2 u6 u7 u8 u9 u10 u11 u12 u13 u14 u15 u16 u17 u18 u19 u20 u21 u22 u23 u24 u25 u26 u27 u28 u29 u30 u31 u32 u33 u34 u35 u36 u37 u38 u39 u40 u41 u42 u43 u44 u45 u46 u47 u48 u49 u50 u51 u52 u53 u54 u55 u56 u57 u58 u59 u60 u61 u62 u63 u64 u65 u66 u67 u68 u69 u70 u71 u72 u73 u74 u75 u76 u77 u78 u79 u80 u81 u82 u83 u84 u85 u86 u87 u88 u89 u90 u91 u92 u93 u94 u95 u96 u97 u98 u99 u100 u101 u102 u103 u104 u105 u106 u107 u108 u109 u110 u111 u112 u113 u114 u115 u116 u117 u118 u119 u120 u121 u122 u123 u124 u125 u126 u127 u128 u129 u130 u131 u132 u133 u134 u135 u136 u137 u138 u139 u140 u141 u142 u143 u144 u145 u146 u147 u148 u149 u150 u151 u152 u153 u154 u155 u156 u157 u158 u159 u160 u161 u162 u163 u164 u165 u166 u167 u168 u169 u170 u171 u172 u173 u174 u175 u176 u177 u178 u179 u180 u181 u182 u183 u184 u185 u186 u187 u188 u189 u190 u191 u192 u193 u194 u195 u196 u197 u198 u199 u200 u201 u202 u203 u204 u205 u206 u207 u208 u209 u210 u211 u212 u213 u214 u215 u216 u217 u218 u219 u220 u221 u222 u223 u224 u225 u226 u227 u228 u229 u230 u231 u232 u233 u234 u235 u236 u237 u238 u239 u240 u241 u242 u243 u244 u245 u246 u247 u248 u249 u250 u251 u252 u253 u254 u255 u256 u257 u258 u259 u260 u261 u262 u263 : Value} (HGE : Hid (g = w.heap.size + 1 + 1)) (hn4 : n < 4) (HL1 : Hid (ML1 w g ys ar 0 w4))
    (HQQ : Hid (∀ (x4 x5 x6 x7 x8 x9 x10 x11 x12 x13 x14 x15 x16 x17 x18 x19 x20 x21 x22 x23 x24 x25 x26 x27 x28 x29 x30 x31 x32 x33 x34 x35 x36 x37 x38 x39 x40 x41 x42 x43 x44 x45 x46 x47 x48 x49 x50 x51 x52 x53 x54 x55 x56 x57 x58 x59 x60 x61 x62 x63 x64 x65 x66 x67 x68 x69 x70 x71 x72 x73 x74 x75 x76 x77 x78 x79 x80 x81 x82 x83 x84 x85 x86 x87 x88 x89 x90 x91 x92 x93 x94 x95 x96 x97 x98 x99 x100 x101 x102 x103 x104 x105 x106 x107 x108 x109 x110 x111 x112 x113 x114 x115 x116 x117 x118 x119 x120 x121 x122 x123 x124 x125 x126 x127 x128 x129 x130 x131 x132 x133 x134 x135 x136 x137 x138 x139 x140 x141 x142 x143 x144 x145 x146 x147 x148 x149 x150 x151 x152 x153 x154 x155 x156 x157 x158 x159 x160 x161 x162 x163 x164 x165 x166 x167 x168 x169 x170 x171 x172 x173 x174 x175 x176 x177 x178 x179 x180 x181 x182 x183 x184 x185 x186 x187 x188 x189 x190 x191 x192 x193 x194 x195 x196 x197 x198 x199 x200 x201 x202 x203 x204 x205 x206 x207 x208 x209 x210 x211 x212 x213 x214 x215 x216 x217 x218 x219 x220 x221 x222 x223 x224 x225 x226 x227 x228 x229 x230 x231 x232 x233 x234 x235 x236 x237 x238 x239 x240 x241 x242 x243 x244 x245 x246 x247 x248 x249 x250 x251 x252 x253 x254 x255 x256 x257 x258 x259 x260 x261 x262 x263 : Value) (w' : World), ML1 w g ys ar (n + 1) w' → R { tmps := #[u0, u1, u2, .pointer (some ⟨g, 0, none⟩), x4, x5, x6, x7, x8, x9, x10, x11, x12, x13, x14, x15, x16, x17, x18, x19, x20, x21, x22, x23, x24, x25, x26, x27, x28, x29, x30, x31, x32, x33, x34, x35, x36, x37, x38, x39, x40, x41, x42, x43, x44, x45, x46, x47, x48, x49, x50, x51, x52, x53, x54, x55, x56, x57, x58, x59, x60, x61, x62, x63, x64, x65, x66, x67, x68, x69, x70, x71, x72, x73, x74, x75, x76, x77, x78, x79, x80, x81, x82, x83, x84, x85, x86, x87, x88, x89, x90, x91, x92, x93, x94, x95, x96, x97, x98, x99, x100, x101, x102, x103, x104, x105, x106, x107, x108, x109, x110, x111, x112, x113, x114, x115, x116, x117, x118, x119, x120, x121, x122, x123, x124, x125, x126, x127, x128, x129, x130, x131, x132, x133, x134, x135, x136, x137, x138, x139, x140, x141, x142, x143, x144, x145, x146, x147, x148, x149, x150, x151, x152, x153, x154, x155, x156, x157, x158, x159, x160, x161, x162, x163, x164, x165, x166, x167, x168, x169, x170, x171, x172, x173, x174, x175, x176, x177, x178, x179, x180, x181, x182, x183, x184, x185, x186, x187, x188, x189, x190, x191, x192, x193, x194, x195, x196, x197, x198, x199, x200, x201, x202, x203, x204, x205, x206, x207, x208, x209, x210, x211, x212, x213, x214, x215, x216, x217, x218, x219, x220, x221, x222, x223, x224, x225, x226, x227, x228, x229, x230, x231, x232, x233, x234, x235, x236, x237, x238, x239, x240, x241, x242, x243, x244, x245, x246, x247, x248, x249, x250, x251, x252, x253, x254, x255, x256, x257, x258, x259, x260, x261, x262, x263], defers := [] } w')) :
    (nav [true, true, true, false, true, false] (Try.f18.body.getD .skip)).wp Try.prog (Exit.inBlock 0 (Nrm R)) { tmps := #[u0, u1, u2, .pointer (some ⟨g, 0, none⟩), .int .i64 0, .int .i64 (1 + (n : Int)), u6, u7, u8, u9, u10, u11, u12, u13, u14, u15, u16, u17, u18, u19, u20, u21, u22, u23, u24, u25, u26, u27, u28, u29, u30, u31, u32, u33, u34, u35, u36, u37, u38, u39, u40, u41, u42, u43, u44, u45, u46, u47, u48, u49, u50, u51, u52, u53, u54, u55, u56, u57, u58, u59, u60, u61, u62, u63, u64, u65, u66, u67, u68, u69, u70, u71, u72, u73, u74, u75, u76, u77, u78, u79, u80, u81, u82, u83, u84, u85, u86, u87, u88, u89, u90, u91, u92, u93, u94, u95, u96, u97, u98, u99, u100, u101, u102, u103, u104, u105, u106, u107, u108, u109, u110, u111, u112, u113, u114, u115, u116, u117, u118, u119, u120, u121, u122, u123, u124, u125, u126, u127, u128, u129, u130, u131, u132, u133, u134, u135, u136, u137, u138, u139, u140, u141, u142, u143, u144, u145, u146, u147, u148, u149, u150, u151, u152, u153, u154, u155, u156, u157, u158, u159, u160, u161, u162, u163, u164, u165, u166, u167, u168, u169, u170, u171, u172, u173, u174, u175, u176, u177, u178, u179, u180, u181, u182, u183, u184, u185, u186, u187, u188, u189, u190, u191, u192, u193, u194, u195, u196, u197, u198, u199, u200, u201, u202, u203, u204, u205, u206, u207, u208, u209, u210, u211, u212, u213, u214, u215, u216, u217, u218, u219, u220, u221, u222, u223, u224, u225, u226, u227, u228, u229, u230, u231, u232, u233, u234, u235, u236, u237, u238, u239, u240, u241, u242, u243, u244, u245, u246, u247, u248, u249, u250, u251, u252, u253, u254, u255, u256, u257, u258, u259, u260, u261, u262, u263], defers := [] } w4 := by
  obtain ⟨iM, hiM, hgM0, hgM1, hgM2⟩ := info_parts Try.infoMx
  dsimp only [nav, Try.f18, Option.getD]
  go_loopw [4, 6] (fun i _ wr => ∃ k : Nat, k ≤ n + 1 ∧ i = .int .i64 k ∧ Hid (ML1 w g ys ar k wr)) (fun i _ _ => n + 1 - (intOf i).toNat)
  case atStart => exact ⟨0, Nat.zero_le _, rfl, HL1⟩
  case round =>
    clear HL1
    obtain ⟨k, hk, rfl, hL⟩ := hrel
    obtain ⟨PM, AM, cM, i, hPk, hMx, hS⟩ := hL.out
    have HS := Lib.hid hS
    have HMX := Lib.hid hMx
    have hkl : PM.length ≤ 8 := by omega
    subst hPk
    obtain ⟨s0, -, s2, -, -, sf, sl⟩ := HS.out.cells
    by_cases hlt : PM.length < 1 + n
    · clear hL hMx hS
      have hch := chr97 PM.length (by omega)
      have hcv := conv_chr (UInt8.ofNat (97 + PM.length)) (wr.alloc (.cells #[.int .u8 ((UInt8.ofNat (97 + PM.length)).toNat : Int)] 5)) wr.heap.size 1 (NewsAt.alloc wr _ rfl _ _)
      have i1 : (PM.length : Int) < 1 + (n : Int) := by omega
      have HCA0 : Hid (∀ (b : Bool) (z : Nat), (⟨[UInt8.ofNat (97 + PM.length)], b, z⟩ : Mx).name = [UInt8.ofNat (97 + PM.length)]) := fun _ _ => rfl
      obtain ⟨ca, hca⟩ : ∃ ca, ca = UInt8.ofNat (97 + PM.length) := ⟨_, rfl⟩
      rw [← hca] at hch hcv
      have HCA : Hid ([ca] = [UInt8.ofNat (97 + PM.length)]) := by show _ = _; rw [hca]
      clear hca HCA0
      go_wp2_with fail
      clear s0 s2 sf hcv hch i1
      have HA2 := Lib.hid ((HS.out.alloc (.cells #[.int .u8 (ca.toNat : Int)] 5)).alloc (.cells #[.string ⟨#[ca]⟩, .bool false, .int .i64 0] 64))
      have HT2 := heap_alloc_new (wr.alloc (.cells #[.int .u8 (ca.toNat : Int)] 5)) (.cells #[.string ⟨#[ca]⟩, .bool false, .int .i64 0] 64)
      rw [show (wr.alloc (.cells #[.int .u8 (ca.toNat : Int)] 5)).heap.size = wr.heap.size + 1 by simp] at HT2
      have HG2 : Hid (wr.grownBy ((wr.alloc (.cells #[.int .u8 (ca.toNat : Int)] 5)).alloc (.cells #[.string ⟨#[ca]⟩, .bool false, .int .i64 0] 64)) (some (w.heap.size + 1))) := grown_alc (grown_alc (grown_below (Below.refl _ _)) _) _
      have HT2 := Lib.hid HT2
      generalize ((wr.alloc (.cells #[.int .u8 (ca.toNat : Int)] 5)).alloc (.cells #[.string ⟨#[ca]⟩, .bool false, .int .i64 0] 64)) = W2 at *
      obtain ⟨T, hTe⟩ : ∃ T, T = wr.heap.size + 1 := ⟨_, rfl⟩
      rw [← hTe] at HT2 ⊢
      have HTE : Hid (w.heap.size + 1 < T ∧ wr.heap.size ≤ T) := by have := HGE.out; exact ⟨by omega, by omega⟩
      clear hTe
      refine (next_any _ (w.heap.size + 1) ys i 5 HA2.out.s (by omega) (by omega)).mono ?_
      rintro e w5 ⟨rfl, hS5, hG5⟩
      (try dsimp only)
      rw [show (5 : Int).toNat = 5 from rfl]
      have hv5 := nextV_lt ys i 5 (by omega)
      have HS5 := Lib.hid hS5
      have HG5 := Lib.hid (grown_trans HG2.out hG5)
      have HT5 := Lib.hid ((hG5.block T (lt_of_block HT2.out) (fun e => by injection e with e; have := HTE.out; omega)).trans HT2.out)
      clear hS5 hG5 HA2 HT2 HG2
      generalize nextV ys i 5 = v at *
      generalize nextI ys i = i5 at *
      obtain ⟨t0, t1, t2, tf, tl⟩ := blk3 HT5.out
      have tf1 := tf 1
      have tf2 := tf 2
      by_cases h1 : v = 1
      · subst h1
        have HQ := Lib.hid ((PutAt.refl T w5).set 1 (.bool true))
        have HT6 := Lib.hid (blkset_any 1 (.bool true) HT5.out)
        have HS6 := Lib.hid (HS.out.next (HS5.out.keep fun b hb => HQ.out.2.2.2.2 b (by have := HTE.out; omega)) (grown_putAt HG5.out HQ.out HTE.out.2))
        go_upto_region 12 with fail
        have HSx := HS6
        have HTx : Hid ((w5.setCell ⟨T, 1, none⟩ (.bool true)).heap[T]? = some (.cells #[.string ⟨#[ca]⟩, .bool true, .int .i64 0] 64 (0, 0))) := HT6.out
        clear t0 t1 t2 tf1 tf2 tf tl HT6
        generalize (w5.setCell ⟨T, 1, none⟩ (.bool true)) = wx at HSx HTx ⊢
        obtain ⟨p0, -, p2, -, -, pf, pl⟩ := HSx.out.cells
        obtain ⟨t0, t1, t2, -, -⟩ := blk3 HTx.out
        have pf2 := pf 2
        clear pf
        go_region_law (first
          | (refine step_append_lies _ (by rfl) _ _ _ (by rfl) (g + 1) 64 iM _ 3 32 Try.underlying47 hiM hgM0 hgM1 hgM2 rfl (by omega) (.slice AM PM.length cM) PM.length (mxK.cs PM) (by rfl) (HSx.out.drew.alloc _).p.rM ⟨wx.heap.size, 0, none⟩ 1 1 [.string ⟨#[ca]⟩, .bool true, .int .i64 0] (by rfl) (by rfl) (news_any wx.drew _ rfl _ _) (mxK.one ⟨[ca], true, 0⟩) (by omega) (by unfold maxLen; omega) (by omega) (by simp; omega) (wx.heap.size + 1) (by simp) ?_; intro gb cap7 w7 hown hgrow hlies hgl7; obtain ⟨k0, -, k2, -, kf⟩ := (HSx.out.drew.alloc _).kg (HSx.out.drew.alloc _).p.rM hgrow; have kf2 := kf 2; clear kf))
        all_goals
          have HS7 := Lib.hid ((HSx.out.drew.alloc _).snocM ⟨[ca], true, 0⟩ hown hgrow (lies_at hlies (by simp)))
          clear hown hgrow hlies hgl7 p0 p2 pf2 t0 t1 t2 HSx HTx
          go_wp2_with fail
          go_roundw
          case rel =>
            refine ⟨PM.length + 1, by omega, by go_num, PM ++ [⟨[ca], true, 0⟩], some ⟨gb, 0, none⟩, cap7, i5, by simp, HMX.out.snoc HCA.out (by simp; try omega) (by simp), ?_⟩
            rw [List.length_append]
            exact HS7.out
          case measure => simp [intOf]; omega
      · by_cases h2 : v = 2
        · subst h2
          have HS5n := Lib.hid (HS.out.next HS5.out HG5.out)
          obtain ⟨s0, -⟩ := HS5n.out.cells
          go_wp2_with fail
          refine (next_any _ (w.heap.size + 1) ys i5 3 HS5.out (by omega) (by omega)).mono ?_
          rintro e w6 ⟨rfl, hS6, hG6⟩
          (try dsimp only)
          rw [show (3 : Int).toNat = 3 from rfl]
          have hv6 := nextV_lt ys i5 3 (by omega)
          have HS6 := Lib.hid hS6
          have HG6 := Lib.hid (grown_trans HG5.out hG6)
          have HTz := Lib.hid ((hG6.block T (lt_of_block HT5.out) (fun e => by injection e with e; have := HTE.out; omega)).trans HT5.out)
          clear hS6 hG6 s0 t0 t1 t2 tf1 tf2 tf tl HT5 HS5 HG5 HS5n
          generalize nextV ys i5 3 = v6 at *
          generalize nextI ys i5 = i6 at *
          obtain ⟨t0, t1, t2, tf, tl⟩ := blk3 HTz.out
          have tf1 := tf 1
          have tf2 := tf 2
          have HQ := Lib.hid ((PutAt.refl T w6).set 2 (.int .i64 (1 + (v6 : Int))))
          have HT6 := Lib.hid (blkset_any 2 (.int .i64 (1 + (v6 : Int))) HTz.out)
          have HS6 := Lib.hid (HS.out.next (HS6.out.keep fun b hb => HQ.out.2.2.2.2 b (by have := HTE.out; omega)) (grown_putAt HG6.out HQ.out HTE.out.2))
          go_upto_region 12 with fail
          have HSx := HS6
          have HTx : Hid ((w6.setCell ⟨T, 2, none⟩ (.int .i64 (1 + (v6 : Int)))).heap[T]? = some (.cells #[.string ⟨#[ca]⟩, .bool false, .int .i64 (1 + (v6 : Int))] 64 (0, 0))) := HT6.out
          clear t0 t1 t2 tf1 tf2 tf tl HT6
          generalize (w6.setCell ⟨T, 2, none⟩ (.int .i64 (1 + (v6 : Int)))) = wx at HSx HTx ⊢
          obtain ⟨p0, -, p2, -, -, pf, pl⟩ := HSx.out.cells
          obtain ⟨t0, t1, t2, -, -⟩ := blk3 HTx.out
          have pf2 := pf 2
          clear pf
          go_region_law (first
            | (refine step_append_lies _ (by rfl) _ _ _ (by rfl) (g + 1) 64 iM _ 3 32 Try.underlying47 hiM hgM0 hgM1 hgM2 rfl (by omega) (.slice AM PM.length cM) PM.length (mxK.cs PM) (by rfl) (HSx.out.drew.alloc _).p.rM ⟨wx.heap.size, 0, none⟩ 1 1 [.string ⟨#[ca]⟩, .bool false, .int .i64 (1 + (v6 : Int))] (by rfl) (by rfl) (news_any wx.drew _ rfl _ _) (mxK.one ⟨[ca], false, (1 + v6)⟩) (by omega) (by unfold maxLen; omega) (by omega) (by simp; omega) (wx.heap.size + 1) (by simp) ?_; intro gb cap7 w7 hown hgrow hlies hgl7; obtain ⟨k0, -, k2, -, kf⟩ := (HSx.out.drew.alloc _).kg (HSx.out.drew.alloc _).p.rM hgrow; have kf2 := kf 2; clear kf))
          all_goals
            have HS7 := Lib.hid ((HSx.out.drew.alloc _).snocM ⟨[ca], false, (1 + v6)⟩ hown hgrow (lies_at hlies (by simp)))
            clear hown hgrow hlies hgl7 p0 p2 pf2 t0 t1 t2 HSx HTx
            go_wp2_with fail
            go_roundw
            case rel =>
              refine ⟨PM.length + 1, by omega, by go_num, PM ++ [⟨[ca], false, (1 + v6)⟩], some ⟨gb, 0, none⟩, cap7, i6, by simp, HMX.out.snoc HCA.out (by simp; try omega) (by simp), ?_⟩
              rw [List.length_append]
              exact HS7.out
            case measure => simp [intOf]; omega
        · have n1 := bF (show ((v : Nat) : Int) ≠ 1 by omega)
          have n2 := bF (show ((v : Nat) : Int) ≠ 2 by omega)
          have HT6 := HT5
          have HS6 := Lib.hid (HS.out.next HS5.out HG5.out)
          go_upto_region 12 with fail
          have HSx := HS6
          have HTx : Hid (w5.heap[T]? = some (.cells #[.string ⟨#[ca]⟩, .bool false, .int .i64 0] 64 (0, 0))) := HT6.out
          clear t0 t1 t2 tf1 tf2 tf tl HT6
          generalize w5 = wx at HSx HTx ⊢
          obtain ⟨p0, -, p2, -, -, pf, pl⟩ := HSx.out.cells
          obtain ⟨t0, t1, t2, -, -⟩ := blk3 HTx.out
          have pf2 := pf 2
          clear pf
          go_region_law (first
            | (refine step_append_lies _ (by rfl) _ _ _ (by rfl) (g + 1) 64 iM _ 3 32 Try.underlying47 hiM hgM0 hgM1 hgM2 rfl (by omega) (.slice AM PM.length cM) PM.length (mxK.cs PM) (by rfl) (HSx.out.drew.alloc _).p.rM ⟨wx.heap.size, 0, none⟩ 1 1 [.string ⟨#[ca]⟩, .bool false, .int .i64 0] (by rfl) (by rfl) (news_any wx.drew _ rfl _ _) (mxK.one ⟨[ca], false, 0⟩) (by omega) (by unfold maxLen; omega) (by omega) (by simp; omega) (wx.heap.size + 1) (by simp) ?_; intro gb cap7 w7 hown hgrow hlies hgl7; obtain ⟨k0, -, k2, -, kf⟩ := (HSx.out.drew.alloc _).kg (HSx.out.drew.alloc _).p.rM hgrow; have kf2 := kf 2; clear kf))
          all_goals
            have HS7 := Lib.hid ((HSx.out.drew.alloc _).snocM ⟨[ca], false, 0⟩ hown hgrow (lies_at hlies (by simp)))
            clear hown hgrow hlies hgl7 p0 p2 pf2 t0 t1 t2 HSx HTx
            go_wp2_with fail
            go_roundw
            case rel =>
              refine ⟨PM.length + 1, by omega, by go_num, PM ++ [⟨[ca], false, 0⟩], some ⟨gb, 0, none⟩, cap7, i5, by simp, HMX.out.snoc HCA.out (by simp; try omega) (by simp), ?_⟩
              rw [List.length_append]
              exact HS7.out
            case measure => simp [intOf]; omega
    · have i1 : ¬ (PM.length : Int) < 1 + (n : Int) := by omega
      have hke : PM.length = n + 1 := by omega
      rw [hke] at hL
      clear hMx hS HS HMX hke
      go_wp2_with fail
      apply HQQ.out
      exact hL.out
end Go.Proofs.Ytlnbmmgbfgmboaa
