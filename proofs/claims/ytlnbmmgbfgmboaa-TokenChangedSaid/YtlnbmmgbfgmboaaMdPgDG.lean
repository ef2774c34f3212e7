/- The loop over the parameters of a function of Program of the made inputs. No statement of the program is proved in this file. -/
import Derived.Test.YtlnbmmgbfgmboaaQ10
import Derived.Deep.RegionHeld3
import Derived.Deep.RegionLaw
import Derived.Deep.CutRange
namespace Go.Proofs.Ytlnbmmgbfgmboaa
open Go.RowKit

set_option maxRecDepth 100000 in
set_option maxHeartbeats 8000000 in
theorem pgLoop4 {w wr0 w4 : World} {g T kk N : Nat} {ys : List Int} {ar : Bool} {kG kM kF vV vG vM vF : Value} {us : List Nm} {PG : List Gl} {PM : List Mx} {PF : List (Fn × FnG)} {i0 : Nat} {nm : Nm} {R : Act → World → Prop} {u0 u1 u2 u4 u5 u6 u7 u8 u9 u10 u11 u16 u17 u18 u19 u20 u21 u22 u23 u24 u25 u26 u27 u28 u29 u30 u31 u32 u33 u34 u35 u36 u37 u38 u39 u40 u41 u42 u43 u44 u45 u46 u47 u48 u49 u50 u51 u52 u53 u54 u55 u56 u57 u58 u59 u60 u61 u62 u63 u64 u65 u66 u67 u68 u69 u70 u71 u72 u73 u74 u75 u76 u77 u78 u79 u80 u81 u82 u83 u84 u85 u86 u87 u88 u89 u90 u91 u92 u93 u94 u95 u96 u97 u98 u99 u100 u101 u102 u103 u104 u105 u106 u107 u108 u109 u110 u111 u112 u113 u114 u115 u116 u117 u118 u119 u120 u121 u122 u123 u124 u125 u126 u127 u128 u129 u130 u131 u132 u133 u134 u135 u136 u137 u138 u139 u140 u141 u142 u143 u144 u172 u173 u174 u175 u176 u177 u178 u179 u180 u181 u182 u183 u184 u185 u186 u187 u188 u189 u190 u191 u192 u193 u194 u195 u196 u197 u198 u199 u200 u201 u202 u203 u204 u205 u206 u207 u208 u209 u210 u211 u212 u213 u214 u215 u216 u217 u218 u219 u220 u221 u222 u223 u224 u225 u226 u227 u228 u229 u230 u231 u232 u233 u234 u235 u236 u237 u238 u239 u240 u241 u242 u243 u244 u245 u246 u247 u248 u249 u250 u251 u252 u253 u254 u255 u256 u257 u258 u259 u260 u261 u262 u263 u15 u145 u146 u147 u148 u149 u150 u151 u152 u153 u154 u155 u156 u157 u158 u159 u160 u161 u162 u163 u164 u165 u166 u167 u168 u169 u170 u171 : Value} (HGE : Hid (g = w.heap.size + 1 + 1)) (hkk : 0 < kk) (hN : N < 3)
    (HS0 : Hid (PwR w g ys ar kG kM kF vV us vG vM vF PG PM PF i0 wr0)) (HL1 : Hid (ML4 w wr0 g ys T nm N N w4))
    (HQQ : Hid (∀ (x14 x15 x145 x146 x147 x148 x149 x150 x151 x152 x153 x154 x155 x156 x157 x158 x159 x160 x161 x162 x163 x164 x165 x166 x167 x168 x169 x170 x171 : Value) (w' : World), ML4 w wr0 g ys T nm N 0 w' → R { tmps := #[u0, u1, u2, .pointer (some ⟨g, 0, none⟩), u4, u5, u6, u7, u8, u9, u10, u11, .int .i64 (kk : Int), .pointer (some ⟨T, 0, none⟩), x14, x15, u16, u17, u18, u19, u20, u21, u22, u23, u24, u25, u26, u27, u28, u29, u30, u31, u32, u33, u34, u35, u36, u37, u38, u39, u40, u41, u42, u43, u44, u45, u46, u47, u48, u49, u50, u51, u52, u53, u54, u55, u56, u57, u58, u59, u60, u61, u62, u63, u64, u65, u66, u67, u68, u69, u70, u71, u72, u73, u74, u75, u76, u77, u78, u79, u80, u81, u82, u83, u84, u85, u86, u87, u88, u89, u90, u91, u92, u93, u94, u95, u96, u97, u98, u99, u100, u101, u102, u103, u104, u105, u106, u107, u108, u109, u110, u111, u112, u113, u114, u115, u116, u117, u118, u119, u120, u121, u122, u123, u124, u125, u126, u127, u128, u129, u130, u131, u132, u133, u134, u135, u136, u137, u138, u139, u140, u141, u142, u143, u144, x145, x146, x147, x148, x149, x150, x151, x152, x153, x154, x155, x156, x157, x158, x159, x160, x161, x162, x163, x164, x165, x166, x167, x168, x169, x170, x171, u172, u173, u174, u175, u176, u177, u178, u179, u180, u181, u182, u183, u184, u185, u186, u187, u188, u189, u190, u191, u192, u193, u194, u195, u196, u197, u198, u199, u200, u201, u202, u203, u204, u205, u206, u207, u208, u209, u210, u211, u212, u213, u214, u215, u216, u217, u218, u219, u220, u221, u222, u223, u224, u225, u226, u227, u228, u229, u230, u231, u232, u233, u234, u235, u236, u237, u238, u239, u240, u241, u242, u243, u244, u245, u246, u247, u248, u249, u250, u251, u252, u253, u254, u255, u256, u257, u258, u259, u260, u261, u262, u263], defers := [] } w')) :
    (nav [true, true, true, true, true, true, true, false, true, false, false, true, false, false, true, true, false, true, false] (Try.f18.body.getD .skip)).wp Try.prog (Exit.inBlock 7 (Nrm R)) { tmps := #[u0, u1, u2, .pointer (some ⟨g, 0, none⟩), u4, u5, u6, u7, u8, u9, u10, u11, .int .i64 (kk : Int), .pointer (some ⟨T, 0, none⟩), .int .i64 (N : Int), u15, u16, u17, u18, u19, u20, u21, u22, u23, u24, u25, u26, u27, u28, u29, u30, u31, u32, u33, u34, u35, u36, u37, u38, u39, u40, u41, u42, u43, u44, u45, u46, u47, u48, u49, u50, u51, u52, u53, u54, u55, u56, u57, u58, u59, u60, u61, u62, u63, u64, u65, u66, u67, u68, u69, u70, u71, u72, u73, u74, u75, u76, u77, u78, u79, u80, u81, u82, u83, u84, u85, u86, u87, u88, u89, u90, u91, u92, u93, u94, u95, u96, u97, u98, u99, u100, u101, u102, u103, u104, u105, u106, u107, u108, u109, u110, u111, u112, u113, u114, u115, u116, u117, u118, u119, u120, u121, u122, u123, u124, u125, u126, u127, u128, u129, u130, u131, u132, u133, u134, u135, u136, u137, u138, u139, u140, u141, u142, u143, u144, u145, u146, u147, u148, u149, u150, u151, u152, u153, u154, u155, u156, u157, u158, u159, u160, u161, u162, u163, u164, u165, u166, u167, u168, u169, u170, u171, u172, u173, u174, u175, u176, u177, u178, u179, u180, u181, u182, u183, u184, u185, u186, u187, u188, u189, u190, u191, u192, u193, u194, u195, u196, u197, u198, u199, u200, u201, u202, u203, u204, u205, u206, u207, u208, u209, u210, u211, u212, u213, u214, u215, u216, u217, u218, u219, u220, u221, u222, u223, u224, u225, u226, u227, u228, u229, u230, u231, u232, u233, u234, u235, u236, u237, u238, u239, u240, u241, u242, u243, u244, u245, u246, u247, u248, u249, u250, u251, u252, u253, u254, u255, u256, u257, u258, u259, u260, u261, u262, u263], defers := [] } w4 := by
  obtain ⟨iP, hiP, hgP0, hgP1, hgP2⟩ := info_parts Try.infoPar
  dsimp only [nav, Try.f18, Option.getD]
  go_loopw [14, 15] (fun v _ wr => ∃ m : Nat, m ≤ N ∧ v = .int .i64 m ∧ Hid (ML4 w wr0 g ys T nm N m wr)) (fun v _ _ => (intOf v).toNat)
  case atStart => exact ⟨N, Nat.le_refl _, rfl, HL1⟩
  case round =>
    clear HL1
    obtain ⟨m, hm, rfl, hL⟩ := hrel
    have hk1 : (0 : Int) < (kk : Int) := by omega
    by_cases hm0 : 0 < m
    · obtain ⟨m, rfl⟩ : ∃ m', m = m' + 1 := ⟨m - 1, by omega⟩
      obtain ⟨i, PS, pA, pc, hP⟩ := hL.out
      have HP := Lib.hid hP
      have HS := Lib.hid (HS0.out.next hP.src hP.gr)
      obtain ⟨s0, -, -, -, -, sf, sl⟩ := HS.out.cells
      have hpl := hP.len
      clear hL hP sf
      have hch := chr48 (m + 1) (by omega)
      have hch2 : IntKind.u8.wrap (IntKind.i64.wrap (48 + ((m + 1 : Nat) : Int))) = ((UInt8.ofNat (48 + (m + 1))).toNat : Int) := by rw [IntWalk.i64_in _ (by omega)]; exact hch
      obtain ⟨ca, hca⟩ : ∃ ca, ca = UInt8.ofNat (48 + (m + 1)) := ⟨_, rfl⟩
      rw [← hca] at hch hch2
      have HCA : Hid ([112, ca] = [112, UInt8.ofNat (48 + (m + 1))]) := by show _ = _; rw [hca]
      clear hca
      obtain ⟨mm, hmm⟩ : ∃ mm, mm = m + 1 := ⟨_, rfl⟩
      have HMM := Lib.hid hmm
      rw [← hmm] at hch hch2 hm hm0 ⊢
      clear hmm
      have hq1 : w.heap.size + 1 < wr.heap.size := by have := HGE.out; omega
      have hgT0 : g ≠ wr.heap.size := by omega
      have hgT1 : g ≠ wr.heap.size + 1 := by omega
      have happ1 : (({ data := #[112] } : ByteArray) ++ { data := #[ca] }) = ⟨#[112, ca]⟩ := rfl
      have hm1 : (0 : Int) < (mm : Int) := by omega
      go_wp2_with fail
      go_cut [15] from 153 to 165 (fun s15 wx => ∃ (T2 i5 : Nat) (b : Bool), s15 = .pointer (some ⟨T2, 0, none⟩) ∧ NwP w wr ys i5 T2 (.string ⟨#[112, ca]⟩) (.bool b) 72 wx)
      case first =>
        have cv1 : (convert 23 9 (.slice (some ⟨wr.heap.size, 0, none⟩) 1 1)).run Try.prog ((wr.alloc (.cells #[.int .u8 (ca.toNat : Int)] 5)).drew) = .ok (.string ⟨#[ca]⟩) ((wr.alloc (.cells #[.int .u8 (ca.toNat : Int)] 5)).drew) := conv_chr ca _ _ _ (NewsAt.drew (NewsAt.alloc wr _ rfl _ _))
        have cv2 : (convert 23 9 (.slice (some ⟨wr.heap.size, 0, none⟩) 1 1)).run Try.prog (((wr.alloc (.cells #[.int .u8 (ca.toNat : Int)] 5)).alloc (.cells #[.string ⟨#[]⟩, .bool false] 72)).drew) = .ok (.string ⟨#[ca]⟩) (((wr.alloc (.cells #[.int .u8 (ca.toNat : Int)] 5)).alloc (.cells #[.string ⟨#[]⟩, .bool false] 72)).drew) := conv_chr ca _ _ _ (NewsAt.drew (NewsAt.alc (.cells #[.string ⟨#[]⟩, .bool false] 72) (NewsAt.alloc wr _ rfl _ _)))
        have cv3 : (convert 23 9 (.slice (some ⟨wr.heap.size + 1, 0, none⟩) 1 1)).run Try.prog (((wr.alloc (.cells #[.string ⟨#[]⟩, .bool false] 72)).alloc (.cells #[.int .u8 (ca.toNat : Int)] 5)).drew) = .ok (.string ⟨#[ca]⟩) (((wr.alloc (.cells #[.string ⟨#[]⟩, .bool false] 72)).alloc (.cells #[.int .u8 (ca.toNat : Int)] 5)).drew) := conv_chr ca _ _ _ (NewsAt.drew (NewsAt.alloc (wr.alloc (.cells #[.string ⟨#[]⟩, .bool false] 72)) _ (by simp) _ _))
        go_region_law (first
          | (go_simp; go_at_call 16; refine (next_any _ (w.heap.size + 1) ys i 3 (by with_reducible first | exact PwR.src (PwR.drew HS.out) | exact PwR.src (PwR.drew (PwR.alloc HS.out _)) | exact PwR.src (PwR.drew (PwR.alloc (PwR.alloc HS.out _) _)) | exact PwR.src (PwR.alloc (PwR.alloc HS.out _) _) | exact PwR.src (PwR.alloc HS.out _)) (by omega) (by omega)).mono ?_; rintro e w5 ⟨rfl, hS5, hG5⟩; rw [show (3 : Int).toNat = 3 from rfl]; have hGx := grown_undrew hG5; have hG6 : wr.grownBy w5 (some (w.heap.size + 1)) := (by with_reducible first | exact hGx | exact grown_of_alloc hGx | exact grown_of_alloc (grown_of_alloc hGx)); (first | (with_reducible have hNb : NewsAt w5 (wr.heap.size + 1) [.int .u8 (ca.toNat : Int)] := news_blk (kept_new2b hGx hq1); have cv8 := conv_chr ca w5 _ 1 hNb; have cv9 := conv_chr ca (w5.alloc (.cells #[.string ⟨#[]⟩, .bool false] 72)) _ 1 (NewsAt.alc _ hNb)) | (with_reducible have hNb : NewsAt w5 wr.heap.size [.int .u8 (ca.toNat : Int)] := news_blk (kept_new2a hGx hq1); have cv8 := conv_chr ca w5 _ 1 hNb; have cv9 := conv_chr ca (w5.alloc (.cells #[.string ⟨#[]⟩, .bool false] 72)) _ 1 (NewsAt.alc _ hNb)) | (with_reducible have hNb : NewsAt w5 wr.heap.size [.int .u8 (ca.toNat : Int)] := news_blk (kept_new1 hGx hq1); have cv8 := conv_chr ca w5 _ 1 hNb; have cv9 := conv_chr ca (w5.alloc (.cells #[.string ⟨#[]⟩, .bool false] 72)) _ 1 (NewsAt.alc _ hNb)) | skip); (first | (with_reducible have hTz : w5.heap[wr.heap.size + 1]? = some (.cells #[.string ⟨#[]⟩, .bool false] 72 (0, 0)) := kept_new2b hGx hq1; obtain ⟨t0, t1, tf0, tf1⟩ := mblk2' hTz; have HTz := Lib.hid hTz) | (with_reducible have hTz : w5.heap[wr.heap.size]? = some (.cells #[.string ⟨#[]⟩, .bool false] 72 (0, 0)) := kept_new2a hGx hq1; obtain ⟨t0, t1, tf0, tf1⟩ := mblk2' hTz; have HTz := Lib.hid hTz) | (with_reducible have hTz : w5.heap[wr.heap.size]? = some (.cells #[.string ⟨#[]⟩, .bool false] 72 (0, 0)) := kept_new1 hGx hq1; obtain ⟨t0, t1, tf0, tf1⟩ := mblk2' hTz; have HTz := Lib.hid hTz; obtain ⟨a0, a1, af0, af1⟩ := mblk2' (heap_alc (.cells #[.int .u8 (ca.toNat : Int)] 5) hTz)) | skip); have cv5 : (convert 23 9 (.slice (some ⟨w5.heap.size, 0, none⟩) 1 1)).run Try.prog (w5.alloc (.cells #[.int .u8 (ca.toNat : Int)] 5)) = .ok (.string ⟨#[ca]⟩) (w5.alloc (.cells #[.int .u8 (ca.toNat : Int)] 5)) := conv_chr ca _ _ _ (NewsAt.alloc w5 _ rfl _ _); have cv6 : (convert 23 9 (.slice (some ⟨w5.heap.size, 0, none⟩) 1 1)).run Try.prog ((w5.alloc (.cells #[.int .u8 (ca.toNat : Int)] 5)).alloc (.cells #[.string ⟨#[]⟩, .bool false] 72)) = .ok (.string ⟨#[ca]⟩) ((w5.alloc (.cells #[.int .u8 (ca.toNat : Int)] 5)).alloc (.cells #[.string ⟨#[]⟩, .bool false] 72)) := conv_chr ca _ _ _ (NewsAt.alc (.cells #[.string ⟨#[]⟩, .bool false] 72) (NewsAt.alloc w5 _ rfl _ _)); have cv7 : (convert 23 9 (.slice (some ⟨w5.heap.size + 1, 0, none⟩) 1 1)).run Try.prog ((w5.alloc (.cells #[.string ⟨#[]⟩, .bool false] 72)).alloc (.cells #[.int .u8 (ca.toNat : Int)] 5)) = .ok (.string ⟨#[ca]⟩) ((w5.alloc (.cells #[.string ⟨#[]⟩, .bool false] 72)).alloc (.cells #[.int .u8 (ca.toNat : Int)] 5)) := conv_chr ca _ _ _ (NewsAt.alloc (w5.alloc (.cells #[.string ⟨#[]⟩, .bool false] 72)) _ (by simp) _ _); have hv5 := nextV_lt ys i 3 (by omega); have HS5 := Lib.hid hS5; have HG5 := Lib.hid hG6; have s5 := (HS.out.next hS5 hG6).cells.1; obtain ⟨b0, b1, bf0, bf1⟩ := mblk2' (heap_alc (.cells #[.int .u8 (ca.toNat : Int)] 5) (heap_alloc_new w5 (.cells #[.string ⟨#[]⟩, .bool false] 72))); generalize nextV ys i 3 = v at *; generalize nextI ys i = i5 at *; have hgW0 : g ≠ w5.heap.size := (by have := hG6.size; omega); have hgW1 : g ≠ w5.heap.size + 1 := (by have := hG6.size; omega); dsimp only))
        all_goals
          go_wp2_with fail
          go_meet
          refine ⟨_, i5, decide (0 < v), rfl, ?_⟩
          first
            | with_reducible exact nw_set HS5.out HG5.out hq1 HTz.out (Nat.le_refl _)
            | with_reducible exact nw_set HS5.out HG5.out hq1 HTz.out (Nat.le_succ _)
            | with_reducible exact nw_set (src_alc _ HS5.out) (grown_alc HG5.out _) hq1 (heap_alc _ HTz.out) (Nat.le_refl _)
            | with_reducible exact nw_set (src_alc _ HS5.out) (grown_alc HG5.out _) hq1 (heap_alc _ HTz.out) (Nat.le_succ _)
            | with_reducible exact nw_new HS5.out HG5.out
            | with_reducible exact nw_new2 _ HS5.out HG5.out
            | with_reducible exact NwP.alc (nw_new HS5.out HG5.out) _
            | with_reducible exact nw_set (src_alc _ (src_alc _ HS5.out)) (grown_alc (grown_alc HG5.out _) _) hq1 (heap_alc _ (heap_alloc_new _ _)) HG5.out.size
      case rest =>
        obtain ⟨T2, i5, b, rfl, hNw⟩ := hcut
        have HNw := Lib.hid hNw
        obtain ⟨t0, t1, -, -⟩ := mblk2' hNw.t
        have hTT : T ≠ w.heap.size + 1 := by have := HP.out.hT; have := HS0.out.cells.2.2.2.2.2.2; have := HGE.out; omega
        have HTf := Lib.hid ((hNw.gr.block T (lt_of_block HP.out.t) (fun e => by injection e with e; exact hTT e)).trans HP.out.t)
        obtain ⟨q0, q1, q2, qf, ql⟩ := blk3 HTf.out
        have qf1 := qf 1
        have hTl := lt_of_block hNw.t
        have HRow : Hid (wc.ownsRow (T + 1) 72 2 (.slice pA PS.length pc) PS.length (pmK.cs PS)) := ownsRow_keep HP.out.row fun b hb hl _ => hNw.gr.block b hl (fun e => by injection e with e; have := HP.out.hT; have := HGE.out; have := HS0.out.cells.2.2.2.2.2.2; omega)
        have HRl := Lib.hid HP.out.row.lt
        clear hNw qf
        go_wp2_with (first | (at_builtin; refine wpList_append_lies _ rfl (.tmp 167) (.tmp 169) 67 rfl (T + 1) 72 iP _ 2 24 Try.underlying67 hiP hgP0 hgP1 hgP2 rfl (by decide) (.slice pA PS.length pc) PS.length (pmK.cs PS) rfl (HRow.out.alloc _) ⟨wc.heap.size, 0, none⟩ 1 1 [.string ⟨#[112, ca]⟩, .bool b] rfl rfl (news_any wc _ rfl _ _) (pmK.one ⟨[112, ca], b⟩) (by omega) (by unfold maxLen; omega) (by omega) (by simp; omega) _ rfl ?_))
        intro gb cap7 w7 hown hgrow hlies hgl7
        have HT7 := Lib.hid ((hgrow.block T (by simp; omega) (fun e => by have := (HRl.out _ e.symm).1; omega)).trans (heap_alc _ HTf.out))
        have HP7 := Lib.hid (PmL.snoc (o := .cells #[.string ⟨#[112, ca]⟩, .bool b] 72) (m := m) (by have h := HP.out; exact h) (by have := HGE.out; have := HS0.out.cells.2.2.2.2.2.2; omega) ⟨[112, ca], b⟩ HNw.out.src HNw.out.gr HCA.out hown hgrow)
        clear hown hgrow hlies hgl7 t0 t1 q0 q1 q2 qf1
        obtain ⟨q0, q1, q2, qf, ql7⟩ := blk3 HT7.out
        have qf1 := qf 1
        clear qf
        go_wp2_with fail
        go_roundw
        case rel => exact ⟨m, by have := HMM.out; omega, by have := HMM.out; go_num, i5, PS ++ [⟨[112, ca], b⟩], some ⟨gb, 0, none⟩, cap7, HP7.out⟩
        case measure => have := HMM.out; simp [intOf]; omega
    · have hme : m = 0 := by omega
      subst hme
      go_wp2_with fail
      apply HQQ.out
      exact hL.out
end Go.Proofs.Ytlnbmmgbfgmboaa
