/- What Program of the made inputs returns. No statement of the program is proved in this file. -/
import Derived.Test.YtlnbmmgbfgmboaaMdPgAG
import Derived.Test.YtlnbmmgbfgmboaaMdPgBG
import Derived.Test.YtlnbmmgbfgmboaaMdPgCG
import Derived.Test.YtlnbmmgbfgmboaaMdPgEG
import Derived.Test.YtlnbmmgbfgmboaaQ16
namespace Go.Proofs.Ytlnbmmgbfgmboaa
open Go.RowKit

theorem pgW_of {w wr : World} {g : Nat} {ys : List Int} {ar : Bool} {vA : Option Addr} {AG AM : Option Addr} {cG cM : Nat} {PG : List Gl} {PM : List Mx} {bF cF : Nat} {PF : List (Fn × FnG)} (hG : GlOk PG) (hg2 : PG.length ≤ 2) (hM : MxOk PM) (hm : 1 ≤ PM.length ∧ PM.length ≤ 4) (hF : FnOk PF) (hf : 1 ≤ PF.length ∧ PF.length ≤ 4)
    (h5 : ML5 w g ys ar vA (PG.map (·.name)) AG AM cG cM PG PM bF cF (hdsOf PF) (hdsOf PF).length wr) : ∃ (FS : List (Fn × FnG)) (i left : Nat), FS.length = PF.length ∧ PgW ⟨PG, PM, FS.map (·.1)⟩ ∧ PwF w g ys ar vA (PG.map (·.name)) AG AM cG cM PG PM bF cF FS i left wr := by
  obtain ⟨FS, i, left, L, hH, hP, hL0, -, -, hb⟩ := h5
  have hlen : FS.length = PF.length := by have := congrArg List.length hH; simpa [hdsOf] using this
  have hhd : ∀ j (h : j < FS.length) (h' : j < PF.length), FS[j].1.name = PF[j].1.name ∧ FS[j].1.ps = PF[j].1.ps := fun j h h' => by
    have h1 : (hdsOf FS)[j]'(by simpa [hdsOf] using h) = (hdsOf PF)[j]'(by simpa [hdsOf] using h') := by simp only [hH]
    simp only [hdsOf, List.getElem_map, Hd.mk.injEq] at h1
    exact h1
  refine ⟨FS, i, left, hlen, ⟨hg2, hm, by simpa [hlen] using hf, hG, hM, fun j hj => ?_, ⟨L, by omega, fun j hj => ?_⟩⟩, hP⟩
  · have hj1 : j < FS.length := by simpa using hj
    have hj2 : j < PF.length := by omega
    obtain ⟨e1, e2⟩ := hhd j hj1 hj2
    obtain ⟨f1, f2, f3, f4, -, -, -⟩ := hF j hj2
    have hx : (List.map (·.1) FS)[j]'hj = FS[j].1 := List.getElem_map ..
    obtain ⟨⟨⟨fnm, fps, fbd⟩, fG⟩, hfj⟩ : ∃ p, p = FS[j] := ⟨_, rfl⟩
    rw [← hfj] at e1 e2 hx
    dsimp only at e1 e2 hx ⊢
    rw [hx]
    subst e1
    subst e2
    exact ⟨f1, f2, f3, f4⟩
  · have hj1 : j < FS.length := by simpa using hj
    obtain ⟨us', hB⟩ := hb j hj1 (by simpa [hdsOf, hlen] using (show j < PF.length by omega))
    refine ⟨us', ?_⟩
    have hh : (List.map (fun f : Fn => (⟨f.name, f.ps⟩ : Hd)) (List.map (·.1) FS)) = hdsOf FS := by simp [hdsOf, List.map_map, Function.comp_def]
    simp only [List.getElem_map]
    rw [hh, hH]
    exact hB

set_option maxRecDepth 100000 in
set_option maxHeartbeats 8000000 in
theorem wprogram_any (xs : List Int) : ProgC xs := by
  intro A cap w hR hc hm
  have hb0 : Below w.heap.size w (w.alloc (.cells #[.slice none 0 0, .slice none 0 0, .slice none 0 0] 50)) := (Below.refl _ _).alloc (Nat.le_refl _) _
  have HCUT := Lib.hid (cutN_any 400 (by omega) xs A cap _ (hR.later hb0) hc hm)
  have hx : (xs.take 400).length ≤ 1000 := by simp; omega
  have HST := Lib.hid (pws_start (cap := cap) (hR.take 400) hx)
  clear hR hc hm hb0 hx
  generalize xs.take 400 = ys at *
  go_enter Try.func18, Try.ntmps18
  go_wp2_with fail
  refine HCUT.out.mono ?_
  rintro e w1 ⟨rfl, rfl⟩
  obtain ⟨g, hgE⟩ : ∃ g, g = w.heap.size + 1 + 1 := ⟨_, rfl⟩
  obtain ⟨s0, -, -, -, -, sf, sl⟩ := HST.out.cells
  go_wp2_with fail
  clear s0 sf sl HCUT
  rw [← hgE] at HST ⊢
  have HGE := Lib.hid hgE
  clear hgE
  generalize (((w.alloc (.cells #[.slice none 0 0, .slice none 0 0, .slice none 0 0] 50)).alloc (.cells #[.slice A ys.length cap, .int .i64 0] 39)).alloc (.cells #[.pointer (some ⟨w.heap.size + 1, 0, none⟩), .slice none 0 0, .slice none 0 0, .slice none 0 0, .int .i64 24, .bool false] 62)) = W0 at *
  refine (next_any _ (w.heap.size + 1) ys 0 3 HST.out.s (by omega) (by omega)).mono ?_
  rintro e w2 ⟨rfl, hS2, hG2⟩
  have HS2 := Lib.hid (HST.out.next hS2 hG2)
  obtain ⟨s0, -, -, -, s5, sf, sl⟩ := HS2.out.cells
  clear hS2 hG2 HST
  generalize nextV ys 0 (Int.toNat 3) = v3 at *
  have sf5 := sf 5
  have HAR := Lib.hid (HS2.out.arith ((v3 : Int) == 1))
  go_wp2_with fail
  clear s0 s5 sf5 sf sl HS2
  generalize (w2.setCell ⟨g, 5, none⟩ (.bool ((v3 : Int) == 1))) = W3 at *
  generalize ((v3 : Int) == 1) = ar at *
  generalize nextI ys 0 = i3 at *
  refine (next_any _ (w.heap.size + 1) ys i3 4 HAR.out.s (by omega) (by omega)).mono ?_
  rintro e w4 ⟨rfl, hS4, hG4⟩
  rw [show (4 : Int).toNat = 4 from rfl]
  have hn4 := nextV_lt ys i3 4 (by omega)
  have HL1 : Hid (ML1 w g ys ar 0 w4) := ⟨[], none, 0, _, rfl, fun j h => absurd h (by simp), HAR.out.next hS4 hG4⟩
  clear hS4 hG4 HAR
  generalize nextV ys i3 4 = n at *
  go_wp2_with fail
  refine Code.wp_mono (inBlock_imp 0 Nrm.imp) (pgLoop1 HGE hn4 HL1 ?_)
  refine Lib.hid ?_
  intro x4 x5 x6 x7 x8 x9 x10 x11 x12 x13 x14 x15 x16 x17 x18 x19 x20 x21 x22 x23 x24 x25 x26 x27 x28 x29 x30 x31 x32 x33 x34 x35 x36 x37 x38 x39 x40 x41 x42 x43 x44 x45 x46 x47 x48 x49 x50 x51 x52 x53 x54 x55 x56 x57 x58 x59 x60 x61 x62 x63 x64 x65 x66 x67 x68 x69 x70 x71 x72 x73 x74 x75 x76 x77 x78 x79 x80 x81 x82 x83 x84 x85 x86 x87 x88 x89 x90 x91 x92 x93 x94 x95 x96 x97 x98 x99 x100 x101 x102 x103 x104 x105 x106 x107 x108 x109 x110 x111 x112 x113 x114 x115 x116 x117 x118 x119 x120 x121 x122 x123 x124 x125 x126 x127 x128 x129 x130 x131 x132 x133 x134 x135 x136 x137 x138 x139 x140 x141 x142 x143 x144 x145 x146 x147 x148 x149 x150 x151 x152 x153 x154 x155 x156 x157 x158 x159 x160 x161 x162 x163 x164 x165 x166 x167 x168 x169 x170 x171 x172 x173 x174 x175 x176 x177 x178 x179 x180 x181 x182 x183 x184 x185 x186 x187 x188 x189 x190 x191 x192 x193 x194 x195 x196 x197 x198 x199 x200 x201 x202 x203 x204 x205 x206 x207 x208 x209 x210 x211 x212 x213 x214 x215 x216 x217 x218 x219 x220 x221 x222 x223 x224 x225 x226 x227 x228 x229 x230 x231 x232 x233 x234 x235 x236 x237 x238 x239 x240 x241 x242 x243 x244 x245 x246 x247 x248 x249 x250 x251 x252 x253 x254 x255 x256 x257 x258 x259 x260 x261 x262 x263 w5 hM1
  dsimp only [Exit.then]
  obtain ⟨PM, AM, cM, i5, hPk, hMx, hS5⟩ := hM1
  have HS5 := Lib.hid hS5
  have HMX := Lib.hid hMx
  have HPK := Lib.hid hPk
  obtain ⟨s0, -⟩ := HS5.out.cells
  clear HL1 hPk hMx hS5
  go_wp2_with fail
  refine (next_any _ (w.heap.size + 1) ys i5 3 HS5.out.s (by omega) (by omega)).mono ?_
  rintro e w6 ⟨rfl, hS6, hG6⟩
  (try dsimp only)
  rw [show (3 : Int).toNat = 3 from rfl]
  have hn3 := nextV_lt ys i5 3 (by omega)
  have HL2 : Hid (ML2 w g ys ar PM (.slice AM PM.length cM) 0 (.slice none 0 0) w6) := ⟨[], none, none, 0, 0, _, rfl, rfl, fun j h => absurd h (by simp), HS5.out.next hS6 hG6⟩
  clear hS6 hG6 s0 HS5
  generalize nextV ys i5 3 = n3 at *
  go_wp2_with fail
  refine Code.wp_mono (inBlock_imp 3 Nrm.imp) (pgLoop2 HGE hn3 HL2 ?_)
  refine Lib.hid ?_
  intro x4 x5 x6 x8 x9 x10 x11 x12 x13 x14 x15 x16 x17 x18 x19 x20 x21 x22 x23 x24 x25 x26 x27 x28 x29 x30 x31 x32 x33 x34 x35 x36 x37 x38 x39 x40 x41 x42 x43 x44 x45 x46 x47 x48 x49 x50 x51 x52 x53 x54 x55 x56 x57 x58 x59 x60 x61 x62 x63 x64 x65 x66 x67 x68 x69 x70 x71 x72 x73 x74 x75 x76 x77 x78 x79 x80 x81 x82 x83 x84 x85 x86 x87 x88 x89 x90 x91 x92 x93 x94 x95 x96 x97 x98 x99 x100 x101 x102 x103 x104 x105 x106 x107 x108 x109 x110 x111 x112 x113 x114 x115 x116 x117 x118 x119 x120 x121 x122 x123 x124 x125 x126 x127 x128 x129 x130 x131 x132 x133 x134 x135 x136 x137 x138 x139 x140 x141 x142 x143 x144 x145 x146 x147 x148 x149 x150 x151 x152 x153 x154 x155 x156 x157 x158 x159 x160 x161 x162 x163 x164 x165 x166 x167 x168 x169 x170 x171 x172 x173 x174 x175 x176 x177 x178 x179 x180 x181 x182 x183 x184 x185 x186 x187 x188 x189 x190 x191 x192 x193 x194 x195 x196 x197 x198 x199 x200 x201 x202 x203 x204 x205 x206 x207 x208 x209 x210 x211 x212 x213 x214 x215 x216 x217 x218 x219 x220 x221 x222 x223 x224 x225 x226 x227 x228 x229 x230 x231 x232 x233 x234 x235 x236 x237 x238 x239 x240 x241 x242 x243 x244 x245 x246 x247 x248 x249 x250 x251 x252 x253 x254 x255 x256 x257 x258 x259 x260 x261 x262 x263 vv w7 hM2
  dsimp only [Exit.then]
  obtain ⟨PG, AG, vA, cG, vc, i7, hGk, rfl, hGo, hS7⟩ := hM2
  have HS7 := Lib.hid hS7
  have HGO := Lib.hid hGo
  have HGK := Lib.hid hGk
  obtain ⟨s0, -⟩ := HS7.out.cells
  clear HL2 hGk hGo hS7
  go_wp2_with fail
  refine (next_any _ (w.heap.size + 1) ys i7 4 HS7.out.s (by omega) (by omega)).mono ?_
  rintro e w8 ⟨rfl, hS8, hG8⟩
  (try dsimp only)
  rw [show (4 : Int).toNat = 4 from rfl]
  have hkm := nextV_lt ys i7 4 (by omega)
  have HL3 : Hid (ML3 w g ys ar (.slice vA PG.length vc) (PG.map (·.name)) (.slice AG PG.length cG) (.slice AM PM.length cM) PG PM 0 w8) := ⟨[], none, 0, _, rfl, fun j h => absurd h (by simp), HS7.out.next hS8 hG8⟩
  clear hS8 hG8 s0 HS7
  generalize nextV ys i7 4 = km at *
  go_wp2_with fail
  refine Code.wp_mono (inBlock_imp 5 Nrm.imp) (pgLoop3 HGE hkm HL3 ?_)
  refine Lib.hid ?_
  intro x12 x13 x14 x15 x125 x126 x127 x128 x129 x130 x131 x132 x133 x134 x135 x136 x137 x138 x139 x140 x141 x142 x143 x144 x145 x146 x147 x148 x149 x150 x151 x152 x153 x154 x155 x156 x157 x158 x159 x160 x161 x162 x163 x164 x165 x166 x167 x168 x169 x170 x171 x172 x173 x174 x175 x176 x177 x178 x179 x180 x181 x182 x183 w9 hM3
  dsimp only [Exit.then]
  obtain ⟨PF, AF, cF, i9, hFk, hFo, hS9⟩ := hM3
  have hul : (PG.map (·.name)).length = PG.length := List.length_map ..
  have hS9' : PwS w g ys ar (.slice vA (PG.map (·.name)).length vc) (PG.map (·.name)) (.slice AG PG.length cG) (.slice AM PM.length cM) (.slice AF PF.length cF) PG PM PF i9 w9 := by rw [hul]; exact hS9
  rw [← hul]
  obtain ⟨bF, rfl, hPF⟩ := pwf_start hS9' (by omega)
  have HL5 : Hid (ML5 w g ys ar vA (PG.map (·.name)) AG AM cG cM PG PM bF cF (hdsOf PF) 0 w9) := ⟨PF, i9, 24, fun _ => 24, rfl, hPF, rfl, rfl, Nat.le_refl _, fun j h hj => absurd hj (by omega)⟩
  have HFO := Lib.hid hFo
  have hpm : 1 ≤ PM.length ∧ PM.length ≤ 4 := by have := HPK.out; omega
  have hpf : 1 ≤ PF.length ∧ PF.length ≤ 4 := by omega
  have hpg : PG.length ≤ 2 := by have := HGK.out; omega
  have hH0 : (hdsOf PF).length = PF.length := by simp [hdsOf]
  have HMb : Hid (∀ k (h : k < PM.length), PM[k].size ≤ 3 ∧ PM[k].name.length ≤ 16) := fun k h => ⟨(HMX.out k h).2.1, by rw [(HMX.out k h).1]; simp⟩
  have HHb : Hid (∀ k (h : k < (hdsOf PF).length), (hdsOf PF)[k].ps.length ≤ 2 ∧ (hdsOf PF)[k].name.length ≤ 16) := fun k h => by
    have h' : k < PF.length := by omega
    have hF := HFO.out k h'
    simp only [hdsOf, List.getElem_map]
    refine ⟨hF.len, ?_⟩
    rw [hF.nm]
    split <;> simp
  have hus : (PG.map (·.name)).length ≤ 900 := by omega
  clear hFk hFo hS9 hS9' hPF HL3
  go_wp2_with fail
  refine Code.wp_mono (inBlock_imp 9 Nrm.imp) (pgLoop5 HGE (by omega) hpm HMb HHb hus HL5 ?_)
  refine Lib.hid ?_
  intro x16 x17 x18 x184 x185 x186 x187 x188 x189 x190 x191 x192 x193 x194 x195 x196 x197 x198 x199 x200 x201 x202 x203 x204 x205 x206 x207 x208 x209 x210 x211 x212 x213 x214 x215 x216 x217 x218 x219 x220 x221 x222 x223 x224 x225 x226 x227 x228 x229 x230 x231 x232 x233 x234 x235 x236 x237 x238 x239 x240 x241 x242 x243 x244 x245 x246 x247 x248 x249 x250 x251 x252 x253 x254 x255 x256 x257 x258 x259 wz hM5
  dsimp only [Exit.then]
  obtain ⟨FS, iz, lz, hFS, hW, hPz⟩ := pgW_of HGO.out hpg HMX.out hpm HFO.out hpf hM5
  have HW := Lib.hid hW
  have HPz := Lib.hid hPz
  have HFS := Lib.hid hFS
  obtain ⟨g1, g2, g3, hgl⟩ := hPz.cells
  obtain ⟨r0, r1, r2, rf, rl⟩ := blk3 hPz.r
  have rf0 := rf 0
  have rf1 := rf 1
  have rf2 := rf 2
  clear hW hPz hFS rf HL5 hM5
  go_wp2_with fail
  have hq := ((((PutAt.refl w.heap.size wz).set 0 (.slice AG PG.length cG)).set 1 (.slice AM PM.length cM)).set 2 (.slice (some ⟨bF, 0, none⟩) FS.length cF))
  obtain ⟨⟨H, hPM⟩, hB⟩ := HPz.out.out hq
  refine bodyPost_ret (v := .agg #[.slice AG PG.length cG, .slice AM PM.length cM, .slice (some ⟨bF, 0, none⟩) FS.length cF]) (by simp [results, Try.results18, go_sem, r0, r1, r2]) rfl ⟨⟨PG, PM, FS.map (·.1)⟩, AG, AM, some ⟨bF, 0, none⟩, cG, cM, cF, H, by simp, HW.out, hPM, hB⟩
end Go.Proofs.Ytlnbmmgbfgmboaa
