/- One case of the loop of block of the writer of the made programs. No statement of the program is proved in this file. -/
import Derived.Test.YtlnbmmgbfgmboaaQ8
import Derived.Deep.CutRange
namespace Go.Proofs.Ytlnbmmgbfgmboaa
open Go.RowKit

set_option maxRecDepth 100000 in
set_option maxHeartbeats 8000000 in
theorem sw_call {W : WP} {fn : Nm} {ps : List Pm} {pA bA : Option Addr} {pc bn bc N left d most k : Nat} {w wr w3 : World} {vs us : List Nm} {P : List (St × SG)} {oA vA : Option Addr} {oc vc i1 i2 lo m : Nat} {Q : Exit → Act → World → Prop} {K K1 K2 : Act → World → Prop} {u5 u7 u8 u9 u10 u15 u16 u17 u18 u19 u20 u21 u22 u23 u24 u25 u26 u27 u28 u29 u30 u31 u32 u33 u34 u35 u36 u37 u38 u39 u40 u41 u42 u43 u44 u45 u46 u47 u48 u49 u50 u51 u52 u53 u54 u55 u56 u57 u58 u59 u60 u61 u62 u63 u64 u65 u66 u67 u68 u69 u70 u71 u72 u73 u74 u75 u76 u77 u78 u79 u80 u81 u82 u83 u84 u85 u86 u87 u88 u89 u90 u91 u92 u93 u94 u95 u96 u97 u98 u99 u100 u101 u102 u103 u104 u105 u106 u107 u108 u109 u110 u111 u112 u113 u114 u115 u116 u117 u118 u119 u120 u121 u122 u123 u124 u125 u126 u127 u128 u129 u130 u131 u132 u133 u134 u135 u136 u137 u138 u139 u140 u141 u142 u143 u144 u145 u146 u147 u148 u149 u150 u151 u152 u153 u154 u155 u156 u157 u158 u159 u160 u161 u162 u163 u164 u165 u166 u167 u168 u169 u170 u171 u172 u173 u174 u175 u176 u177 u178 u179 u180 u181 u182 u183 u184 u185 u186 u187 u188 u189 u190 u191 u192 u193 u194 u195 u196 u197 u198 u199 u200 u201 u202 u203 u204 u205 u206 u207 u208 u209 u210 u211 u212 u213 u214 u215 u216 u217 u218 u219 u220 u221 u222 u223 u224 u225 u226 u227 u228 u229 u230 u231 u232 u233 u234 u235 u236 u237 u238 u239 u240 u241 u242 u243 u244 u245 u246 u247 u248 : Value} (hC : RndC W fn ps pA bA pc bn bc N left d most k w wr w3 vs us P oA vA oc vc i1 i2 lo m)
    (hK : ∀ a w, (nav [true, true, true, false, true, false, false, true, false, false, true, true, false, true, false, true] (Try.f31.body.getD .skip)).wp Try.prog (Exit.inBlock 2 (Exit.then K1 (Exit.inBlock 1 (Exit.then K2 Q)))) a w → K a w)
    (hK1 : ∀ a w, (nav [true, true, true, false, true, false, false, true, false, false, true, true, true] (Try.f31.body.getD .skip)).wp Try.prog (Exit.inBlock 1 (Exit.then K2 Q)) a w → K1 a w) (hK2 : ∀ a w, (nav [true, true, true, false, true, false, false, true, true] (Try.f31.body.getD .skip)).wp Try.prog Q a w → K2 a w)
    (HQQ : Hid (∀ (x13 x14 x15 x16 x27 x28 x29 x30 x31 x32 x33 x34 x35 x36 x37 x38 x39 x40 x41 x42 x43 x44 x45 x46 x47 x48 x49 x50 x51 x52 x53 x54 x55 x56 x57 x58 x59 x60 x61 x62 x63 x64 x65 x66 x67 x68 x69 x70 x71 x72 x73 x74 x75 x76 x77 x78 x79 x80 x81 x82 x83 x84 x85 x86 x87 x88 x89 x90 x91 x92 x93 x94 x95 x96 x97 x98 x99 x100 x101 x102 x103 x104 x105 x106 x107 x108 x109 x110 x111 x112 x113 x114 x115 x116 x117 x118 x119 x120 x121 x122 x123 x124 x125 x126 x127 x128 x129 x130 x131 x132 x133 x134 x135 x136 x137 x138 x139 x140 x141 x142 x143 x144 x145 x146 x147 x148 x149 x150 x151 x152 x153 x154 x155 x156 x157 x158 x159 x160 x161 x162 x163 x164 x165 x166 x167 x168 x169 x170 x171 x172 x173 x174 x175 x176 x177 x178 x179 x180 x181 x182 x183 x184 x185 x186 x187 x188 x189 x190 x191 x192 x193 x194 x195 x196 x197 x198 x199 x200 x201 x202 x203 x204 x205 x206 x207 x208 x209 x210 x211 x212 x213 x214 x215 x216 x217 x218 x219 x220 x221 x222 x223 x224 x225 x226 x227 x228 x229 x230 x231 x232 x233 x234 x235 x236 x237 x238 x239 x240 x241 x242 x243 x244 x245 x246 x247 vv vo vn : Value) (w' : World), BkL w W ps (.cells #[.string ⟨fn.toArray⟩, .slice pA ps.length pc, .slice bA bn bc] 70 (0, 0)) d left most vs vv vo vn w' → (intOf vn).toNat < k → Q .normal { tmps := #[.pointer (some ⟨W.g, 0, none⟩), .agg #[.string ⟨fn.toArray⟩, .slice pA ps.length pc, .slice bA bn bc], vv, .int .i64 (d : Int), .int .i64 (most : Int), u5, .pointer (some ⟨w.heap.size, 0, none⟩), u7, u8, u9, u10, vo, vn, x13, x14, x15, x16, u17, u18, u19, u20, u21, u22, u23, u24, u25, u26, x27, x28, x29, x30, x31, x32, x33, x34, x35, x36, x37, x38, x39, x40, x41, x42, x43, x44, x45, x46, x47, x48, x49, x50, x51, x52, x53, x54, x55, x56, x57, x58, x59, x60, x61, x62, x63, x64, x65, x66, x67, x68, x69, x70, x71, x72, x73, x74, x75, x76, x77, x78, x79, x80, x81, x82, x83, x84, x85, x86, x87, x88, x89, x90, x91, x92, x93, x94, x95, x96, x97, x98, x99, x100, x101, x102, x103, x104, x105, x106, x107, x108, x109, x110, x111, x112, x113, x114, x115, x116, x117, x118, x119, x120, x121, x122, x123, x124, x125, x126, x127, x128, x129, x130, x131, x132, x133, x134, x135, x136, x137, x138, x139, x140, x141, x142, x143, x144, x145, x146, x147, x148, x149, x150, x151, x152, x153, x154, x155, x156, x157, x158, x159, x160, x161, x162, x163, x164, x165, x166, x167, x168, x169, x170, x171, x172, x173, x174, x175, x176, x177, x178, x179, x180, x181, x182, x183, x184, x185, x186, x187, x188, x189, x190, x191, x192, x193, x194, x195, x196, x197, x198, x199, x200, x201, x202, x203, x204, x205, x206, x207, x208, x209, x210, x211, x212, x213, x214, x215, x216, x217, x218, x219, x220, x221, x222, x223, x224, x225, x226, x227, x228, x229, x230, x231, x232, x233, x234, x235, x236, x237, x238, x239, x240, x241, x242, x243, x244, x245, x246, x247, u248], defers := [] } w'))
    (e9 : m = 9) :
    (nav [true, true, true, false, true, false, false, true, false, false, true, true, false, true, false, false] (Try.f31.body.getD .skip)).wp Try.prog (Exit.then K (Exit.inBlock 2 (Exit.then K1 (Exit.inBlock 1 (Exit.then K2 Q))))) { tmps := #[.pointer (some ⟨W.g, 0, none⟩), .agg #[.string ⟨fn.toArray⟩, .slice pA ps.length pc, .slice bA bn bc], .slice vA us.length vc, .int .i64 (d : Int), .int .i64 (most : Int), u5, .pointer (some ⟨w.heap.size, 0, none⟩), u7, u8, u9, u10, .slice oA P.length oc, .int .i64 (k : Int), .pointer (some ⟨wr.heap.size, 0, none⟩), .int .i64 (m : Int), u15, u16, u17, u18, u19, u20, u21, u22, u23, u24, u25, u26, u27, u28, u29, u30, u31, u32, u33, u34, u35, u36, u37, u38, u39, u40, u41, u42, u43, u44, u45, u46, u47, u48, u49, u50, u51, u52, u53, u54, u55, u56, u57, u58, u59, u60, u61, u62, u63, u64, u65, u66, u67, u68, u69, u70, u71, u72, u73, u74, u75, u76, u77, u78, u79, u80, u81, u82, u83, u84, u85, u86, u87, u88, u89, u90, u91, u92, u93, u94, u95, u96, u97, u98, u99, u100, u101, u102, u103, u104, u105, u106, u107, u108, u109, u110, u111, u112, u113, u114, u115, u116, u117, u118, u119, u120, u121, u122, u123, u124, u125, u126, u127, u128, u129, u130, u131, u132, u133, u134, u135, u136, u137, u138, u139, u140, u141, u142, u143, u144, u145, u146, u147, u148, u149, u150, u151, u152, u153, u154, u155, u156, u157, u158, u159, u160, u161, u162, u163, u164, u165, u166, u167, u168, u169, u170, u171, u172, u173, u174, u175, u176, u177, u178, u179, u180, u181, u182, u183, u184, u185, u186, u187, u188, u189, u190, u191, u192, u193, u194, u195, u196, u197, u198, u199, u200, u201, u202, u203, u204, u205, u206, u207, u208, u209, u210, u211, u212, u213, u214, u215, u216, u217, u218, u219, u220, u221, u222, u223, u224, u225, u226, u227, u228, u229, u230, u231, u232, u233, u234, u235, u236, u237, u238, u239, u240, u241, u242, u243, u244, u245, u246, u247, u248], defers := [] } w3 := by
  obtain ⟨hps, hl, hd, hm, hn, hql, hgl, hll, hgl', hwr, hk, hk0, hun, hlo, hPl, hm14, HP, IH3, IH2, HBL, HS, HF3, HT3, HW3, HNq, HNg, HPm, f0, f1, f2⟩ := hC
  have hg0 := hgl
  have hq0 := hql
  obtain ⟨i0, hi, hz0, hz1, hz2⟩ := info_parts Try.infoStr
  obtain ⟨iS, hiS, hs0, hs1, hs2⟩ := info_parts Try.infoSt
  dsimp only [nav, Try.f31, Option.getD] at hK hK1 hK2 ⊢
  have h4 : ¬ m < 4 := by omega
  have t4 : ¬ ((m : Nat) : Int) < 4 := by omega
  have h7 : ¬ m < 7 := by omega
  have t7 : ¬ ((m : Nat) : Int) < 7 := by omega
  subst e9
  have hTq : wr.heap.size ≠ W.q := by omega
  have hTg : wr.heap.size ≠ W.g := by omega
  have hgT : W.g ≠ wr.heap.size := by omega
  have hfl := HS.out.wm.fl
  have hjl : nextV W.xs i2 W.fs.length < W.fs.length := nextV_lt W.xs i2 W.fs.length (by omega)
  obtain ⟨bF, gA, gc, gB, gbn, gbc, hAF, hbg, hbq, n0, n1, n2, hPg⟩ := HS.out.wm.fn (nextV W.xs i2 W.fs.length) hjl
  have hbl : bF < wr.heap.size := World.block_lt_of_cell? _ _ n0
  have HFC : Hid (∀ w', Fr W.g W.q wr w' → w'.cell? ⟨bF, nextV W.xs i2 W.fs.length * 3, none⟩ = some (.string ⟨W.fs[nextV W.xs i2 W.fs.length].name.toArray⟩) ∧ w'.cell? ⟨bF, nextV W.xs i2 W.fs.length * 3 + 1, none⟩ = some (.slice gA W.fs[nextV W.xs i2 W.fs.length].ps.length gc) ∧ w'.cell? ⟨bF, nextV W.xs i2 W.fs.length * 3 + 2, none⟩ = some (.slice gB gbn gbc) ∧ PmsM w' (fun b => b ≠ W.g ∧ b ≠ W.q) W.fs[nextV W.xs i2 W.fs.length].ps gA) := fun w' hF => ⟨(World.cell?_of_block (a := ⟨bF, _, none⟩) (hF.block bF hbl hbg hbq)).trans n0, (World.cell?_of_block (a := ⟨bF, _, none⟩) (hF.block bF hbl hbg hbq)).trans n1, (World.cell?_of_block (a := ⟨bF, _, none⟩) (hF.block bF hbl hbg hbq)).trans n2, hPg.keep fun b hb hl => hF.block b hl hb.1 hb.2⟩
  have HGL : Hid (W.fs[nextV W.xs i2 W.fs.length].ps.length ≤ 2) := (HS.out.wm.fs _ hjl).1
  have HCW : Hid (∀ args, args.length = W.fs[nextV W.xs i2 W.fs.length].ps.length → (∀ j (h1 : j < W.fs[nextV W.xs i2 W.fs.length].ps.length) (h2 : j < args.length), ArW W.ms ps us W.fs[nextV W.xs i2 W.fs.length].ps[j] args[j]) → BlW W.ms W.fs ps d vs left lo (P.map (·.1) ++ [.mk 3 W.fs[nextV W.xs i2 W.fs.length].name noEx noRf args [] []]) us) := fun args h1 h2 => BlW.call 3 _ args HBL.out (by omega) hjl h1 h2
  have hbT : bF ≠ wr.heap.size := by omega
  have HQ0 := Lib.hid ((PutAt.refl wr.heap.size w3).set 0 (.int .i64 3))
  have HFn := Lib.hid (HF3.out.putAt HQ0.out (Nat.le_refl _))
  have HWn := Lib.hid (HS.out.wmk HFn.out HW3.out HQ0.out (Nat.le_refl _))
  have HTn : Hid ((w3.setCell ⟨wr.heap.size, 0, none⟩ (.int .i64 3)).heap[wr.heap.size]? = some (.cells #[.int .i64 3, .string ⟨#[]⟩, .int .i64 0, .int .i64 0, .string ⟨#[]⟩, .slice none 0 0, .string ⟨#[]⟩, .slice none 0 0, .slice none 0 0, .slice none 0 0, .slice none 0 0] 94 (0, 0))) := (blkset_any 0 (.int .i64 3) HT3.out)
  have hzn : wr.heap.size < (w3.setCell ⟨wr.heap.size, 0, none⟩ (.int .i64 3)).heap.size := lt_of_block HTn.out
  obtain ⟨s0, -, -, -, -, -, -, -, -, -, -, sf, -⟩ := blk11 HT3.out
  clear n0 n1 n2 hPg f0 f1 f2 t4 h4 t7 h7 hz0 hz1 hz2 hi hm14
  generalize hnj : W.fs[nextV W.xs i2 W.fs.length] = gj at *
  clear hnj
  go_wp2_with fail
  generalize (w3.setCell ⟨wr.heap.size, 0, none⟩ (.int .i64 3)) = wn at *
  clear s0 sf HQ0
  obtain ⟨n0, n1, n2, -⟩ := HFC.out wn HFn.out
  have u0 := HWn.out.cells.1
  have u3 := HWn.out.cells.2.2.1
  rw [hAF] at u3
  have hgX : W.g ≠ wn.heap.size := by have := HWn.out.cells.2.2.2.2.2.2; omega
  have hbX : bF ≠ wn.heap.size := by omega
  have hj0 : (0 : Int) ≤ (nextV W.xs i2 W.fs.length : Int) := by omega
  have hj1 : (nextV W.xs i2 W.fs.length : Int) < (W.fs.length : Int) := by omega
  generalize hjn : nextV W.xs i2 W.fs.length = jn at *
  go_region_held3 (fun w' => w'.cell? ⟨W.g, 0, none⟩ = some (.pointer (some ⟨W.q, 0, none⟩)) ∧ w'.cell? ⟨W.g, 3, none⟩ = some (.slice (some ⟨bF, 0, none⟩) W.fs.length W.cF) ∧ w'.cell? ⟨bF, jn * 3, none⟩ = some (.string ⟨gj.name.toArray⟩) ∧ w'.cell? ⟨bF, jn * 3 + 1, none⟩ = some (.slice gA gj.ps.length gc) ∧ w'.cell? ⟨bF, jn * 3 + 2, none⟩ = some (.slice gB gbn gbc))
    (refine ⟨?_, ?_, ?_, ?_, ?_⟩ <;> repeat (first | with_reducible assumption | with_reducible refine keep_alc _ ?_ | with_reducible refine keep_drw ?_ | with_reducible refine keep_set hgX ?_ | with_reducible refine keep_set hbX ?_))
    ((go_simp; go_at_call 16; refine (next_any _ W.q W.xs i2 (W.fs.length : Int) (by with_reducible first | exact WrM.src (WrM.drew HWn.out) | exact WrM.src (WrM.drew (WrM.alloc HWn.out _)) | exact WrM.src (WrM.alloc HWn.out _) | exact WrM.src HWn.out) (by omega) (by omega)).mono ?_; rintro e w5 ⟨rfl, hS5, hG5⟩; rw [Int.toNat_natCast, hjn]; have HS5 := Lib.hid hS5; have hG6 : wn.grownBy w5 (some W.q) := (by with_reducible first | exact grown_undrew hG5 | exact grown_of_alloc (grown_undrew hG5) | exact grown_of_alloc hG5 | exact hG5); have HG5 := Lib.hid hG6; (try (have hG7 : (wn.alloc (.cells #[.string ⟨#[]⟩, .slice none 0 0, .slice none 0 0] 70)).drew.grownBy w5 (some W.q) := (by with_reducible exact hG5); obtain ⟨hx5, x0, x1, x2, xf⟩ := new_fn hG7 HWn.out.src.lt; clear hG7; have HX5 := Lib.hid hx5; clear hx5)); have HW5 := Lib.hid (HWn.out.next HS5.out HG5.out); have HF5 := Lib.hid (HFn.out.trans (Fr.of_grown HG5.out)); have k0 := HW5.out.cells.1; have k3 := HW5.out.cells.2.2.1; rw [hAF] at k3; obtain ⟨m0, m1, m2, -⟩ := HFC.out w5 HF5.out; have HT5 := Lib.hid ((hG6.block wr.heap.size hzn (fun e => by injection e with e; omega)).trans HTn.out); clear hS5 hG5 hG6; dsimp only))
  all_goals
    first
      | (refine wlift (CalP W wr lo (nextI W.xs i2) 3 gj gA gB gc gbn gbc w5.heap.size) (by with_reducible exact calP_new HW5.out HF5.out HT5.out) ?_; generalize w5.heap.size = X at *)
      | (refine wlift (CalP W wr lo (nextI W.xs i2) 3 gj gA gB gc gbn gbc wn.heap.size) (by with_reducible exact calP_set HS.out HW5.out HF5.out HT5.out HX5.out hzn) ?_; generalize wn.heap.size = X at *)
    rintro wk ⟨hWk, hFk, hTk, hXk, hxk⟩
    clear HS5 HG5 HW5 HF5 HT5 k0 k3 m0 m1 m2 u0 u3 n0 n1 n2 hgX hbX
    have HWk := Lib.hid hWk
    have HFk := Lib.hid hFk
    have HTk := Lib.hid hTk
    have HXk := Lib.hid hXk
    have HGP := Lib.hid (HFC.out wk hFk).2.2.2
    have HXd : Hid (wk.drew.heap[X]? = _) := hXk
    have hXl : X < wk.drew.heap.size := lt_of_block hXk
    have hXT : X ≠ wr.heap.size := by omega
    have hfT : w.heap.size ≠ wr.heap.size := by have := HS.out.sz; omega
    have HFE : Hid (∀ w', Fr W.g W.q wr w' → w'.cell? ⟨w.heap.size, 0, none⟩ = some (.string ⟨fn.toArray⟩) ∧ w'.cell? ⟨w.heap.size, 1, none⟩ = some (.slice pA ps.length pc) ∧ w'.cell? ⟨w.heap.size, 2, none⟩ = some (.slice bA bn bc)) := fun w' hF => mblk3 (HS.out.func hF)
    have HNk := Lib.hid (HS.out.names hFk).1
    have HPk := Lib.hid (HS.out.params hFk HP.out)
    obtain ⟨x0, x1, x2⟩ := mblk3 hXk
    obtain ⟨f0, f1, f2⟩ := mblk3 (HS.out.func hFk)
    have HWd : Hid (WrM wk.drew W (nextI W.xs i2) lo) := HWk.out.keep fun _ _ => rfl
    have HNd : Hid (StrN wk.drew W.q vA us) := HNk.out
    have HTd : Hid (wk.drew.heap[wr.heap.size]? = _) := HTk.out
    have HFd : Hid (Fr W.g W.q wr wk.drew) := ⟨HFk.out.os, HFk.out.tape, HFk.out.output, HFk.out.size, HFk.out.block⟩
    have HPd : Hid (PmsM wk.drew (fun b => b ≠ W.g ∧ b ≠ W.q) ps pA) := HPk.out
    have HGPd : Hid (PmsM wk.drew (fun b => b ≠ W.g ∧ b ≠ W.q) gj.ps gA) := HGP.out
    have hzk : wr.heap.size < wk.heap.size := lt_of_block hTk
    have hzd : wk.drew.heap.size = wk.heap.size := rfl
    clear hWk hFk hTk hXk HWk HFk HTk HXk HNk HPk HGP
    go_wp2_with fail
    go_region_held3 (fun w' => w'.cell? ⟨w.heap.size, 0, none⟩ = some (.string ⟨fn.toArray⟩) ∧ w'.cell? ⟨w.heap.size, 1, none⟩ = some (.slice pA ps.length pc) ∧ w'.cell? ⟨w.heap.size, 2, none⟩ = some (.slice bA bn bc) ∧ w'.cell? ⟨X, 0, none⟩ = some (.string ⟨gj.name.toArray⟩) ∧ w'.cell? ⟨X, 1, none⟩ = some (.slice gA gj.ps.length gc) ∧ w'.cell? ⟨X, 2, none⟩ = some (.slice gB gbn gbc))
      (refine ⟨?_, ?_, ?_, ?_, ?_, ?_⟩ <;> repeat (first | with_reducible assumption | with_reducible refine keep_drw ?_ | with_reducible refine keep_set hfT ?_ | with_reducible refine keep_set hXT ?_))
      ((go_simp; go_at_call 48; refine (wargs_any _ W _ lo us vA vc fn ps pA bA pc bn bc gj.name gj.ps gA gB gc gbn gbc HWd.out HNd.out (by omega) HPd.out hps HGPd.out HGL.out).mono ?_; rintro e w4 ⟨l4, A4, c4, i4, rfl, hll, har, hAr, hW4, hG4⟩; obtain ⟨hF4, hT4, ⟨s0, s1, s2, s3, s4, s5, s6, s7, s8, s9, s10⟩, sf, hTw4, hTw5, hz4⟩ := aft11 HFd.out hG4 HTd.out hTq; have HF4 := Lib.hid hF4; have HT4 := Lib.hid hT4; have HW4 := Lib.hid hW4; have HA4 := Lib.hid hAr; have HCB := Lib.hid (HCW.out l4 hll har); have v0 := HFE.out w4 hF4; obtain ⟨v0, v1, v2⟩ := v0; obtain ⟨y0, y1, y2⟩ := mblk3 ((hG4.block X hXl (fun e => by injection e with e; omega)).trans HXd.out); clear hll har hAr hW4 hG4 hF4 hT4; dsimp only))
    all_goals
      have HQ := Lib.hid (((PutAt.refl (wr.heap.size) w4).set 1 (.string ⟨gj.name.toArray⟩)).set 8 (.slice A4 l4.length c4))
      have HFk := Lib.hid (HF4.out.putAt HQ.out (Nat.le_refl _))
      have HBk := Lib.hid (HS.out.go HFk.out (HS.out.wmk HFk.out HW4.out HQ.out (Nat.le_refl _)))
      have HSM : Hid (StM ((w4.setCell ⟨wr.heap.size, 1, none⟩ (.string ⟨gj.name.toArray⟩)).setCell ⟨wr.heap.size, 8, none⟩ (.slice A4 l4.length c4)) (wr.heap.size ≤ ·) (St.mk 3 gj.name noEx noRf l4 [] []) (⟨⟨0, 0, [], none, 0, 0⟩, none, 0, 0, A4, c4, none, 0, none, 0⟩ : SG)) := stM_mk 3 gj.name noEx noRf l4 [] [] _ (ExM.leaf _ _ _ _ _ _ _) rfl ((HA4.out.keep fun b hb _ => HQ.out.2.2.2.2 b (by omega)).more fun b hb => by omega) (StsM.nil _ _ _) (StsM.nil _ _ _)
      have HBW := Lib.hid (HCB.out)
      have HNB := Lib.hid (HS.out.lt)
      go_wp2_with (first | (at_builtin; refine wpList_append_lies _ rfl (.tmp 244) (.tmp 246) 68 rfl (w.heap.size + 1) 94 iS _ 11 192 Try.underlying68 hiS hs0 hs1 hs2 rfl (by decide) (.slice oA P.length oc) P.length (stK.cs P) rfl (HBk.out.o.alloc _) ⟨w4.heap.size, 0, none⟩ 1 1 [.int .i64 3, .string ⟨gj.name.toArray⟩, .int .i64 0, .int .i64 0, .string ⟨#[]⟩, .slice none 0 0, .string ⟨#[]⟩, .slice none 0 0, .slice A4 l4.length c4, .slice none 0 0, .slice none 0 0] rfl rfl (news_any ((w4.setCell ⟨wr.heap.size, 1, none⟩ (.string ⟨gj.name.toArray⟩)).setCell ⟨wr.heap.size, 8, none⟩ (.slice A4 l4.length c4)) _ (by simp [World.setCell]) _ _) (stK.one ((St.mk 3 gj.name noEx noRf l4 [] []), (⟨⟨0, 0, [], none, 0, 0⟩, none, 0, 0, A4, c4, none, 0, none, 0⟩ : SG))) (by omega) (by unfold maxLen; omega) (by omega) (by simp [World.setCell]; omega) _ rfl ?_))
      intro gb cap7 w7 hown hgrow hlies hgl7
      have HB7 := Lib.hid (HBk.out.snoc (a := ((St.mk 3 gj.name noEx noRf l4 [] []), (⟨⟨0, 0, [], none, 0, 0⟩, none, 0, 0, A4, c4, none, 0, none, 0⟩ : SG))) HSM.out HNB.out HS.out.sz hown hgrow (lies_at hlies (by simp)))
      clear hown hgrow hlies hgl7 HSM
      go_wp2_with fail
      apply HQQ.out
      · exact ⟨k - 1, P ++ [((St.mk 3 gj.name noEx noRf l4 [] []), (⟨⟨0, 0, [], none, 0, 0⟩, none, 0, 0, A4, c4, none, 0, none, 0⟩ : SG))], us, i4, lo, by go_num, by omega, by omega, by omega, by rw [List.map_append]; exact HBW.out, HB7.out⟩
      · simp [intOf]; omega
end Go.Proofs.Ytlnbmmgbfgmboaa
