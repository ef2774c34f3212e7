/- The loop over the parameters of a function whose body is made. No statement of the program is proved in this file. -/
import Derived.Test.YtlnbmmgbfgmboaaQ11
import Derived.Test.YtlnbmmgbfgmboaaQ8
namespace Go.Proofs.Ytlnbmmgbfgmboaa
open Go.RowKit

set_option maxRecDepth 100000 in
set_option maxHeartbeats 8000000 in
theorem pgLoop6 {w wo w4 : World} {g kk : Nat} {ys : List Int} {ar : Bool} {vA : Option Addr} {us : List Nm} {AG AM : Option Addr} {cG cM : Nat} {PG : List Gl} {PM : List Mx} {bF cF : Nat} {FS : List (Fn × FnG)} {i left : Nat} {v17 : Value} {R : Act → World → Prop} {u0 u1 u2 u4 u5 u6 u7 u8 u9 u10 u11 u12 u13 u14 u15 u19 u20 u21 u22 u23 u24 u25 u26 u27 u28 u29 u30 u31 u32 u33 u34 u35 u36 u37 u38 u39 u40 u41 u42 u43 u44 u45 u46 u47 u48 u49 u50 u51 u52 u53 u54 u55 u56 u57 u58 u59 u60 u61 u62 u63 u64 u65 u66 u67 u68 u69 u70 u71 u72 u73 u74 u75 u76 u77 u78 u79 u80 u81 u82 u83 u84 u85 u86 u87 u88 u89 u90 u91 u92 u93 u94 u95 u96 u97 u98 u99 u100 u101 u102 u103 u104 u105 u106 u107 u108 u109 u110 u111 u112 u113 u114 u115 u116 u117 u118 u119 u120 u121 u122 u123 u124 u125 u126 u127 u128 u129 u130 u131 u132 u133 u134 u135 u136 u137 u138 u139 u140 u141 u142 u143 u144 u145 u146 u147 u148 u149 u150 u151 u152 u153 u154 u155 u156 u157 u158 u159 u160 u161 u162 u163 u164 u165 u166 u167 u168 u169 u170 u171 u172 u173 u174 u175 u176 u177 u178 u179 u180 u181 u182 u183 u184 u185 u186 u187 u188 u189 u190 u191 u192 u193 u194 u195 u196 u241 u242 u243 u244 u245 u246 u247 u248 u249 u250 u251 u252 u253 u254 u255 u256 u257 u258 u259 u260 u261 u262 u263 u197 u198 u199 u200 u201 u202 u203 u204 u205 u206 u207 u208 u209 u210 u211 u212 u213 u214 u215 u216 u217 u218 u219 u220 u221 u222 u223 u224 u225 u226 u227 u228 u229 u230 u231 u232 u233 u234 u235 u236 u237 u238 u239 u240 : Value}
    (hk : kk < FS.length) (hps : FS[kk].1.ps.length ≤ 2) (hus : us.length ≤ 1000) (HPF : Hid (PwF w g ys ar vA us AG AM cG cM PG PM bF cF FS i left wo)) (HL1 : Hid (ML6 wo us v17 w4))
    (HQQ : Hid (∀ (x17 x18 x197 x198 x199 x200 x201 x202 x203 x204 x205 x206 x207 x208 x209 x210 x211 x212 x213 x214 x215 x216 x217 x218 x219 x220 x221 x222 x223 x224 x225 x226 x227 x228 x229 x230 x231 x232 x233 x234 x235 x236 x237 x238 x239 x240 : Value) (w' : World), ML6 wo (ownN us FS[kk].1.ps) x17 w' → R { tmps := #[u0, u1, u2, .pointer (some ⟨g, 0, none⟩), u4, u5, u6, u7, u8, u9, u10, u11, u12, u13, u14, u15, .int .i64 (kk : Int), x17, x18, u19, u20, u21, u22, u23, u24, u25, u26, u27, u28, u29, u30, u31, u32, u33, u34, u35, u36, u37, u38, u39, u40, u41, u42, u43, u44, u45, u46, u47, u48, u49, u50, u51, u52, u53, u54, u55, u56, u57, u58, u59, u60, u61, u62, u63, u64, u65, u66, u67, u68, u69, u70, u71, u72, u73, u74, u75, u76, u77, u78, u79, u80, u81, u82, u83, u84, u85, u86, u87, u88, u89, u90, u91, u92, u93, u94, u95, u96, u97, u98, u99, u100, u101, u102, u103, u104, u105, u106, u107, u108, u109, u110, u111, u112, u113, u114, u115, u116, u117, u118, u119, u120, u121, u122, u123, u124, u125, u126, u127, u128, u129, u130, u131, u132, u133, u134, u135, u136, u137, u138, u139, u140, u141, u142, u143, u144, u145, u146, u147, u148, u149, u150, u151, u152, u153, u154, u155, u156, u157, u158, u159, u160, u161, u162, u163, u164, u165, u166, u167, u168, u169, u170, u171, u172, u173, u174, u175, u176, u177, u178, u179, u180, u181, u182, u183, u184, u185, u186, u187, u188, u189, u190, u191, u192, u193, u194, u195, u196, x197, x198, x199, x200, x201, x202, x203, x204, x205, x206, x207, x208, x209, x210, x211, x212, x213, x214, x215, x216, x217, x218, x219, x220, x221, x222, x223, x224, x225, x226, x227, x228, x229, x230, x231, x232, x233, x234, x235, x236, x237, x238, x239, x240, u241, u242, u243, u244, u245, u246, u247, u248, u249, u250, u251, u252, u253, u254, u255, u256, u257, u258, u259, u260, u261, u262, u263], defers := [] } w')) :
    (nav [true, true, true, true, true, true, true, true, false, true, false, false, true, false, false, true, false, true, false] (Try.f18.body.getD .skip)).wp Try.prog (Exit.inBlock 11 (Nrm R)) { tmps := #[u0, u1, u2, .pointer (some ⟨g, 0, none⟩), u4, u5, u6, u7, u8, u9, u10, u11, u12, u13, u14, u15, .int .i64 (kk : Int), v17, .int .i64 0, u19, u20, u21, u22, u23, u24, u25, u26, u27, u28, u29, u30, u31, u32, u33, u34, u35, u36, u37, u38, u39, u40, u41, u42, u43, u44, u45, u46, u47, u48, u49, u50, u51, u52, u53, u54, u55, u56, u57, u58, u59, u60, u61, u62, u63, u64, u65, u66, u67, u68, u69, u70, u71, u72, u73, u74, u75, u76, u77, u78, u79, u80, u81, u82, u83, u84, u85, u86, u87, u88, u89, u90, u91, u92, u93, u94, u95, u96, u97, u98, u99, u100, u101, u102, u103, u104, u105, u106, u107, u108, u109, u110, u111, u112, u113, u114, u115, u116, u117, u118, u119, u120, u121, u122, u123, u124, u125, u126, u127, u128, u129, u130, u131, u132, u133, u134, u135, u136, u137, u138, u139, u140, u141, u142, u143, u144, u145, u146, u147, u148, u149, u150, u151, u152, u153, u154, u155, u156, u157, u158, u159, u160, u161, u162, u163, u164, u165, u166, u167, u168, u169, u170, u171, u172, u173, u174, u175, u176, u177, u178, u179, u180, u181, u182, u183, u184, u185, u186, u187, u188, u189, u190, u191, u192, u193, u194, u195, u196, u197, u198, u199, u200, u201, u202, u203, u204, u205, u206, u207, u208, u209, u210, u211, u212, u213, u214, u215, u216, u217, u218, u219, u220, u221, u222, u223, u224, u225, u226, u227, u228, u229, u230, u231, u232, u233, u234, u235, u236, u237, u238, u239, u240, u241, u242, u243, u244, u245, u246, u247, u248, u249, u250, u251, u252, u253, u254, u255, u256, u257, u258, u259, u260, u261, u262, u263], defers := [] } w4 := by
  obtain ⟨i0, hi0, hz0, hz1, hz2⟩ := info_parts Try.infoStr
  dsimp only [nav, Try.f18, Option.getD]
  go_loopw [17, 18] (fun v j wr => ∃ q : Nat, q ≤ FS[kk].1.ps.length ∧ j = .int .i64 q ∧ Hid (ML6 wo (ownN us (FS[kk].1.ps.take q)) v wr)) (fun _ j _ => FS[kk].1.ps.length - (intOf j).toNat)
  case atStart => exact ⟨0, Nat.zero_le _, rfl, Lib.hid (by simpa [ownN] using HL1.out)⟩
  case round =>
    clear HL1
    obtain ⟨q, hq, rfl, hL⟩ := hrel
    have HB := Lib.hid hL.out.2
    have HPz := Lib.hid (HPF.out.later HB.out)
    obtain ⟨-, -, g3, hgl⟩ := HPz.out.cells
    have g0 : wr.cell? ⟨g, 0, none⟩ = some (.pointer (some ⟨w.heap.size + 1, 0, none⟩)) := by rw [cell_of_row wr g 0 _ _ _ HPz.out.gb]; rfl
    obtain ⟨c0, c1, -⟩ := HPz.out.fn kk hk
    have HPS := Lib.hid (HPz.out.ps kk hk)
    have HNL := Lib.hid (ownN_len us (FS[kk].1.ps.take q))
    have i0' : (0 : Int) ≤ (kk : Int) := by omega
    have i1' : (kk : Int) < (FS.length : Int) := by omega
    have HSN := Lib.hid (ownN_snoc us FS[kk].1.ps q)
    generalize hfk : FS[kk] = fk at *
    clear hfk
    obtain ⟨⟨fnm, fps, fbd⟩, ⟨fA, fc, fB, fd⟩⟩ := fk
    dsimp only at c0 c1 HPS HNL hps hq HSN hL HQQ ⊢
    obtain ⟨oA, oc, hv17⟩ := owns_form hL.out.1
    subst hv17
    by_cases hlt : q < fps.length
    · obtain ⟨b, off, hfA, -, m0, m1⟩ := HPS.out q hlt
      subst hfA
      have hS := HSN.out hlt
      have j0 : (0 : Int) ≤ (q : Int) := by omega
      have j1 : (q : Int) < (fps.length : Int) := by omega
      have hnl : (ownN us (fps.take q)).length ≤ 1002 := by have h := HNL.out; rw [List.length_take] at h; omega
      have HL := Lib.hid hL.out
      have HS2 := Lib.hid hS
      clear hS hL
      generalize ownN us (fps.take q) = N at *
      cases hm : fps[q].m with
      | true =>
        rw [hm] at m1 HS2
        go_wp2_with fail
        go_roundw
        case rel =>
          refine ⟨q + 1, by omega, by go_num, ?_⟩
          rw [HS2.out]
          exact Lib.hid (by simpa using HL.out)
        case measure => simp [intOf]; omega
      | false =>
        rw [hm] at m1 HS2
        generalize fps[q].name = nm at *
        go_wp2_with (first | (at_builtin; refine wpList_append_lies _ rfl (.tmp 225) (.tmp 239) 42 rfl wo.heap.size 9 i0 _ 1 16 Try.underlying42 hi0 hz0 hz1 hz2 rfl (by decide) (.slice oA N.length oc) N.length (strK.cs N) rfl (HL.out.1.alloc _) ⟨wr.heap.size, 0, none⟩ 1 1 [.string ⟨nm.toArray⟩] rfl rfl (news_any wr _ rfl _ _) (strK.one nm) (by omega) (by unfold maxLen; omega) (by omega) (by have := HB.out.size; simp; omega) _ rfl ?_))
        intro gb cap7 w7 hown hgrow hlies hgl7
        have HN7 : Hid (ML6 wo (N ++ [nm]) (.slice (some ⟨gb, 0, none⟩) (N.length + 1) cap7) w7) := by
          refine ⟨?_, (HB.out.alloc HB.out.size _).grown hgrow (by have := HB.out.size; simp; omega) fun b hb => (HL.out.1.lt b hb).1⟩
          rw [strK.cs_snoc, List.length_append]
          exact hown
        clear hown hgrow hlies hgl7
        go_wp2_with fail
        go_roundw
        case rel =>
          refine ⟨q + 1, by omega, by go_num, ?_⟩
          rw [HS2.out]
          exact Lib.hid (by simpa using HN7.out)
        case measure => simp [intOf]; omega
    · have j1 : ¬ (q : Int) < (fps.length : Int) := by omega
      have hqe : fps.take q = fps := List.take_of_length_le (by omega)
      have HQE := Lib.hid hqe
      clear hqe
      go_wp2_with fail
      apply HQQ.out
      have h := hL.out
      rw [HQE.out] at h ⊢
      exact h
end Go.Proofs.Ytlnbmmgbfgmboaa
