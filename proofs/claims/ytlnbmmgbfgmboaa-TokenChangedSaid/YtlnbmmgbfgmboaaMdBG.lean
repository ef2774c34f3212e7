/- What block of the writer of the made programs returns. -/
import Derived.Test.YtlnbmmgbfgmboaaQ12
import Derived.Deep.CutRange
namespace Go.Proofs.Ytlnbmmgbfgmboaa
open Go.RowKit

set_option maxRecDepth 100000 in
set_option maxHeartbeats 40000000 in
theorem wblock_fuel (W : WP) (fn : Nm) (ps : List Pm) (pA bA : Option Addr) (pc bn bc : Nat) (hps : ps.length ≤ 2) (N : Nat) : ∀ (w : World) (i left : Nat) (vs : List Nm) (A : Option Addr) (c d most : Nat), left < N → d ≤ 1000 → most ≤ 1000 →
    WrM w W i left → StrN w W.q A vs → StrN w W.g A vs → vs.length + left ≤ 1000 → PmsM w (fun b => b ≠ W.g ∧ b ≠ W.q) ps pA →
    Calls Try.prog 31 #[.pointer (some ⟨W.g, 0, none⟩), .agg #[.string ⟨fn.toArray⟩, .slice pA ps.length pc, .slice bA bn bc], .slice A vs.length c, .int .i64 (d : Int), .int .i64 (most : Int)] w (WbP w W ps d left vs) := by
  induction N with
  | zero => intro w i left vs A c d most h; omega
  | succ N ih =>
  intro w i left vs A c d most hl hd hm hW hV hV2 hn hP
  obtain ⟨i0, hi, hz0, hz1, hz2⟩ := info_parts Try.infoStr
  obtain ⟨iS, hiS, hs0, hs1, hs2⟩ := info_parts Try.infoSt
  have IH := Lib.hid ih
  have HW := Lib.hid hW
  have HP := Lib.hid hP
  have hql := hW.src.lt
  have hgl := lt_of_block hW.blk
  have hll := hW.ll
  obtain ⟨hn1, hn2⟩ := new2 w (.cells #[.string ⟨fn.toArray⟩, .slice pA ps.length pc, .slice bA bn bc] 70) (.cells #[] 9)
  have HVA : Hid (0 < vs.length → ∃ ad, A = some ad ∧ ∀ j u, (strK.cs vs)[j]? = some u → ((w.alloc (.cells #[.string ⟨fn.toArray⟩, .slice pA ps.length pc, .slice bA bn bc] 70)).alloc (.cells #[] 9)).cell? (ad.add j) = some u) :=
    fun h => strN_add ((hV.alloc _).alloc _) h
  have HOE : Hid (((w.alloc (.cells #[.string ⟨fn.toArray⟩, .slice pA ps.length pc, .slice bA bn bc] 70)).alloc (.cells #[] 9)).ownsRow (w.heap.size + 1) 9 1 (.slice (some ⟨w.heap.size + 1, 0, none⟩) 0 0) 0 []) :=
    have := World.ownsRow_lit (base := w.heap.size + 1) (e := 9) (size := 1) (w.alloc (.cells #[.string ⟨fn.toArray⟩, .slice pA ps.length pc, .slice bA bn bc] 70)) #[] 0 (by simp) (by simp) (by simp)
    by
      show World.ownsRow _ _ _ _ _ _ _
      simpa using this
  have hsz : ((w.alloc (.cells #[.string ⟨fn.toArray⟩, .slice pA ps.length pc, .slice bA bn bc] 70)).alloc (.cells #[] 9)).heap.size = w.heap.size + 2 := by simp
  have HSL : Hid ((strK.cs vs).length = vs.length * 1) := strK.cs_len vs
  have HS1 : Hid (∀ u ∈ strK.cs vs, u.oneCell' = true) := fun u hu => by
    obtain ⟨a, _, ha⟩ := List.mem_flatMap.1 hu
    exact strK.one a u ha
  have IH3 : Hid (∀ (w : World) (i left : Nat) (vs : List Nm) (A : Option Addr) (c d : Nat) (dd : Int), left < N → d ≤ 1000 → dd = (d : Int) → WrM w W i left → StrN w W.q A vs → StrN w W.g A vs → vs.length + left ≤ 1000 → PmsM w (fun b => b ≠ W.g ∧ b ≠ W.q) ps pA →
    Calls Try.prog 31 #[.pointer (some ⟨W.g, 0, none⟩), .agg #[.string ⟨fn.toArray⟩, .slice pA ps.length pc, .slice bA bn bc], .slice A vs.length c, .int .i64 dd, .int .i64 3] w (WbP w W ps d left vs)) := fun w i left vs A c d dd h1 h2 hdd h3 h4 h5 h6 h7 => by subst hdd; exact ih w i left vs A c d 3 h1 h2 (by decide) h3 h4 h5 h6 h7
  have IH2 : Hid (∀ (w : World) (i left : Nat) (vs : List Nm) (A : Option Addr) (c : Nat), left < N → WrM w W i left → StrN w W.q A vs → StrN w W.g A vs → vs.length + left ≤ 1000 → PmsM w (fun b => b ≠ W.g ∧ b ≠ W.q) ps pA →
    Calls Try.prog 31 #[.pointer (some ⟨W.g, 0, none⟩), .agg #[.string ⟨fn.toArray⟩, .slice pA ps.length pc, .slice bA bn bc], .slice A vs.length c, .int .i64 0, .int .i64 2] w (WbP w W ps 0 left vs)) := fun w i left vs A c h1 h3 h4 h5 h6 h7 => ih w i left vs A c 0 2 h1 (by decide) (by decide) h3 h4 h5 h6 h7
  clear ih hW hP hV hV2 hn2 IH
  go_enter Try.func31, Try.ntmps31
  go_wp2_with (first | (at_builtin; refine wpList_append_some _ rfl (.tmp 17) (.tmp 18) 42 rfl (w.heap.size + 1) 9 i0 _ 1 16 Try.underlying42 hi hz0 hz1 hz2 rfl (by decide) (w.heap.size + 1) 0 0 [] rfl HOE.out A vs.length c (strK.cs vs) rfl HSL.out HVA.out HS1.out (by unfold maxLen; omega) (by omega) (by rw [hsz]; omega) _ rfl ?_))
  intro g cap w5 hown hgrow hlies hgl5
  have HB0 := Lib.hid (bkS_start HW.out hown (heap_alloc_new w _) hgrow)
  clear hown hgrow hlies hgl5 HOE HVA HSL HS1 hsz hn1
  obtain ⟨p0, -⟩ := HB0.out.wm.cells
  go_wp2_with fail
  refine (next_any w5 W.q W.xs i ((most : Int) + 1) HB0.out.wm.src (by omega) (by omega)).mono ?_
  rintro e w6 ⟨rfl, hS, hG⟩
  have HL0 : Hid (BkL w W ps _ d left most vs (.slice (some ⟨g, 0, none⟩) vs.length cap) (.slice none 0 0) (.int .i64 (nextV W.xs i (((most : Int) + 1).toNat) : Int)) w6) := ⟨nextV W.xs i (((most : Int) + 1).toNat), [], vs, nextI W.xs i, left, rfl, by have := nextV_lt W.xs i (((most : Int) + 1).toNat) (by omega); omega, hn, Nat.le_refl _, .nil _ _ _, HB0.out.go (Fr.of_grown hG) (HB0.out.wm.next hS hG)⟩
  clear hS hG HB0 p0
  generalize nextV W.xs i (((most : Int) + 1).toNat) = k0 at *
  go_wp2_with fail
  go_loopw [2, 11, 12] (fun vv v n wr => Hid (BkL w W ps (.cells #[.string ⟨fn.toArray⟩, .slice pA ps.length pc, .slice bA bn bc] 70 (0, 0)) d left most vs vv v n wr)) (fun _ _ n _ => (intOf n).toNat)
  case atStart => exact HL0.out
  case round =>
    clear HL0
    obtain ⟨k, P, us, i1, lo, rfl, hk, hun, hlo, hBl, hS⟩ := hrel.out
    have HS := Lib.hid hS
    have HBL := Lib.hid hBl
    have hO : OwnR strK 9 wr (w.heap.size + 1) u2 us := ⟨hS.n, fun _ _ => trivial⟩
    obtain ⟨vA, vc, rfl⟩ := hO.form
    obtain ⟨oA, oc, rfl⟩ := owns_form hS.o
    obtain ⟨q0, q2, q3, q4, q5, q6, hgl'⟩ := hS.wm.cells
    have hPl := hBl.len
    rw [List.length_map] at hPl
    clear hrel hS hBl hO
    by_cases hk0 : 0 < k
    · by_cases hl0 : 0 < lo
      · obtain ⟨lo, rfl⟩ : ∃ l, lo = l + 1 := ⟨lo - 1, by omega⟩
        have HS0 := Lib.hid (HS.out.wm.less lo (lo : Int) (by omega) (by omega))
        go_wp2_with fail
        have HW2 := Lib.hid (HS0.out.alloc (.cells #[.int .i64 5, .string ⟨#[]⟩, .int .i64 0, .int .i64 0, .string ⟨#[]⟩, .slice none 0 0, .string ⟨#[]⟩, .slice none 0 0, .slice none 0 0, .slice none 0 0, .slice none 0 0] 94))
        have HF2 := Lib.hid (((Fr.refl W.g W.q wr).set (.inr (.inl rfl)) (.int .i64 (lo : Int)) (p := ⟨W.g, 4, none⟩)).alloc (.cells #[.int .i64 5, .string ⟨#[]⟩, .int .i64 0, .int .i64 0, .string ⟨#[]⟩, .slice none 0 0, .string ⟨#[]⟩, .slice none 0 0, .slice none 0 0, .slice none 0 0, .slice none 0 0] 94))
        have hT2 := heap_alloc_new (wr.setCell ⟨W.g, 4, none⟩ (.int .i64 (lo : Int))) (.cells #[.int .i64 5, .string ⟨#[]⟩, .int .i64 0, .int .i64 0, .string ⟨#[]⟩, .slice none 0 0, .string ⟨#[]⟩, .slice none 0 0, .slice none 0 0, .slice none 0 0, .slice none 0 0] 94)
        rw [show (wr.setCell ⟨W.g, 4, none⟩ (.int .i64 (lo : Int))).heap.size = wr.heap.size by simp [World.setCell]] at hT2
        have HT2 := Lib.hid hT2
        clear hT2 HS0 q0 q2 q3 q4 q5 q6
        generalize ((wr.setCell ⟨W.g, 4, none⟩ (.int .i64 (lo : Int))).alloc (.cells #[.int .i64 5, .string ⟨#[]⟩, .int .i64 0, .int .i64 0, .string ⟨#[]⟩, .slice none 0 0, .string ⟨#[]⟩, .slice none 0 0, .slice none 0 0, .slice none 0 0, .slice none 0 0] 94)) = W2 at *
        refine (next_any W2 W.q W.xs i1 14 HW2.out.src (by omega) (by omega)).mono ?_
        rintro e w3 ⟨rfl, hS3, hG3⟩
        rw [show (14 : Int).toNat = 14 from rfl]
        have hm14 := nextV_lt W.xs i1 14 (by omega)
        have HW3 := Lib.hid (HW2.out.next hS3 hG3)
        have HF3 := Lib.hid (HF2.out.trans (Fr.of_grown hG3))
        have hg0 := HS.out.hg
        have hq0 := HS.out.hq
        have hwr := HS.out.fr.size
        have HT3 := Lib.hid ((hG3.block _ (lt_of_block HT2.out) (fun e => by injection e with e; omega)).trans HT2.out)
        clear hS3 hG3 HW2 HF2 HT2
        generalize nextV W.xs i1 14 = m at *
        generalize nextI W.xs i1 = i2 at *
        have hNm := HS.out.names HF3.out
        have HNq := Lib.hid hNm.1
        have HNg := Lib.hid hNm.2
        have HPm := Lib.hid (HS.out.params HF3.out HP.out)
        obtain ⟨f0, f1, f2⟩ := mblk3 (HS.out.func HF3.out)
        clear hNm
        have hk0c := hk0
        have hgl2 := hgl
        have HRC : Hid (RndC W fn ps pA bA pc bn bc N left d most k w wr w3 vs us P oA vA oc vc i1 i2 lo m) := ⟨hps, hl, hd, hm, hn, hql, hgl, hll, hgl', hwr, hk, hk0, hun, hlo, hPl, hm14, HP, IH3, IH2, HBL, HS, HF3, HT3, HW3, HNq, HNg, HPm, f0, f1, f2⟩
        clear HNq HNg HPm f0 f1 f2 HF3 HT3 HW3 HS HBL hg0 hq0
        go_upto_region 14 with fail
        refine sw_any HRC.out (by assumption) (by assumption) (by assumption) ?_
        refine Lib.hid ?_
        intro x13 x14 x15 x16 x27 x28 x29 x30 x31 x32 x33 x34 x35 x36 x37 x38 x39 x40 x41 x42 x43 x44 x45 x46 x47 x48 x49 x50 x51 x52 x53 x54 x55 x56 x57 x58 x59 x60 x61 x62 x63 x64 x65 x66 x67 x68 x69 x70 x71 x72 x73 x74 x75 x76 x77 x78 x79 x80 x81 x82 x83 x84 x85 x86 x87 x88 x89 x90 x91 x92 x93 x94 x95 x96 x97 x98 x99 x100 x101 x102 x103 x104 x105 x106 x107 x108 x109 x110 x111 x112 x113 x114 x115 x116 x117 x118 x119 x120 x121 x122 x123 x124 x125 x126 x127 x128 x129 x130 x131 x132 x133 x134 x135 x136 x137 x138 x139 x140 x141 x142 x143 x144 x145 x146 x147 x148 x149 x150 x151 x152 x153 x154 x155 x156 x157 x158 x159 x160 x161 x162 x163 x164 x165 x166 x167 x168 x169 x170 x171 x172 x173 x174 x175 x176 x177 x178 x179 x180 x181 x182 x183 x184 x185 x186 x187 x188 x189 x190 x191 x192 x193 x194 x195 x196 x197 x198 x199 x200 x201 x202 x203 x204 x205 x206 x207 x208 x209 x210 x211 x212 x213 x214 x215 x216 x217 x218 x219 x220 x221 x222 x223 x224 x225 x226 x227 x228 x229 x230 x231 x232 x233 x234 x235 x236 x237 x238 x239 x240 x241 x242 x243 x244 x245 x246 x247 vv vo vn w9 hrel9 hlt9
        go_roundw
        case rel => exact ⟨vv, vo, vn, x13, x14, x15, x16, x27, x28, x29, x30, x31, x32, x33, x34, x35, x36, x37, x38, x39, x40, x41, x42, x43, x44, x45, x46, x47, x48, x49, x50, x51, x52, x53, x54, x55, x56, x57, x58, x59, x60, x61, x62, x63, x64, x65, x66, x67, x68, x69, x70, x71, x72, x73, x74, x75, x76, x77, x78, x79, x80, x81, x82, x83, x84, x85, x86, x87, x88, x89, x90, x91, x92, x93, x94, x95, x96, x97, x98, x99, x100, x101, x102, x103, x104, x105, x106, x107, x108, x109, x110, x111, x112, x113, x114, x115, x116, x117, x118, x119, x120, x121, x122, x123, x124, x125, x126, x127, x128, x129, x130, x131, x132, x133, x134, x135, x136, x137, x138, x139, x140, x141, x142, x143, x144, x145, x146, x147, x148, x149, x150, x151, x152, x153, x154, x155, x156, x157, x158, x159, x160, x161, x162, x163, x164, x165, x166, x167, x168, x169, x170, x171, x172, x173, x174, x175, x176, x177, x178, x179, x180, x181, x182, x183, x184, x185, x186, x187, x188, x189, x190, x191, x192, x193, x194, x195, x196, x197, x198, x199, x200, x201, x202, x203, x204, x205, x206, x207, x208, x209, x210, x211, x212, x213, x214, x215, x216, x217, x218, x219, x220, x221, x222, x223, x224, x225, x226, x227, x228, x229, x230, x231, x232, x233, x234, x235, x236, x237, x238, x239, x240, x241, x242, x243, x244, x245, x246, x247, hrel9, by simp⟩
        case measure => simpa [intOf] using hlt9
      · have hl1 : lo = 0 := by omega
        subst hl1
        go_wp2_with fail
        go_ret
        exact WbP.done HS.out HBL.out
    · go_wp2_with fail
      go_ret
      exact WbP.done HS.out HBL.out
end Go.Proofs.Ytlnbmmgbfgmboaa
