/- The walks of ParseProgram and ParseTokens: true for all arguments. -/
import Derived.Test.YtjjooekkieddbaaDoorLw3bG
import Derived.Test.YtjjooekkieddbaaDoorIntRowG
namespace Go.Proofs.YtjjooekkieddbaaDoor
open Go.RowKit

set_option maxRecDepth 100000 in
set_option maxHeartbeats 4000000 in
theorem parseProgram_any (l : List UInt8) (ao : Option Addr) (cap : Nat) (w : World) (hB : Byt w ao l) (hl : l.length ≤ 9223372036854775807) (hcap : l.length ≤ cap) (hS : SgT w) :
    Calls Tryd.prog 4 #[.slice ao l.length cap] w fun e w' => e = .returned (.bool true) ∧ Below w.heap.size w w' := by
  have HSG := Lib.hid hS
  have hT : Byt w ao (l.take 1000) := by
    intro i hi
    have hi' : i < l.length := by simp at hi; omega
    obtain ⟨b, off, e, hc⟩ := hB i hi'
    exact ⟨b, off, e, by rw [hc]; simp⟩
  by_cases h4 : l.length ≤ 1000
  · have HS := Lib.hid (same3_any l ao cap w hB (by omega) hcap hS)
    have m4 : min (l.length : Int) 1000 = (l.length : Int) := by omega
    clear hT hB hS
    go_enter Tryd.func4, Tryd.ntmps4
    go_wp2_with fail
    refine HS.out.mono ?_
    rintro e w1 ⟨rfl, hb1⟩
    have HB1 := Lib.hid hb1
    clear hb1
    go_wp2_with fail
    refine (awake3_any _ (HSG.out.later HB1.out)).mono ?_
    rintro e w2 ⟨rfl, hb2⟩
    have HB2 := Lib.hid (below_rev hb2 HB1.out)
    clear hb2
    go_wp2_with fail
    go_ret
    exact ⟨rfl, HB2.out⟩
  · have hlen : (l.take 1000).length = 1000 := by simp; omega
    have hs := same3_any (l.take 1000) ao cap w hT (by omega) (by omega) hS
    rw [hlen] at hs
    have HS := Lib.hid hs
    have m4 : min (l.length : Int) 1000 = 1000 := by omega
    have hcap4 : 1000 ≤ cap := by omega
    clear hT hB hs hlen hS
    go_enter Tryd.func4, Tryd.ntmps4
    go_wp2_with fail
    refine HS.out.mono ?_
    rintro e w1 ⟨rfl, hb1⟩
    have HB1 := Lib.hid hb1
    clear hb1
    go_wp2_with fail
    refine (awake3_any _ (HSG.out.later HB1.out)).mono ?_
    rintro e w2 ⟨rfl, hb2⟩
    have HB2 := Lib.hid (below_rev hb2 HB1.out)
    clear hb2
    go_wp2_with fail
    go_ret
    exact ⟨rfl, HB2.out⟩

def tk33 : List (List UInt8) := [[118, 97, 114], [109, 117, 116, 101, 120], [114, 109, 117, 116, 101, 120], [102, 117, 110, 99], [108, 111, 99, 107], [117, 110, 108, 111, 99, 107], [103, 111], [105, 102], [101, 108, 115, 101], [119, 104, 105, 108, 101], [114, 101, 116, 117, 114, 110], [120], [121], [51], [48], [54, 53], [40], [41], [123], [125], [91], [93], [44], [59], [61], [45], [43], [102, 117, 110, 99, 32, 102, 40, 41, 32, 123], [125, 32], [118, 97, 114, 32, 120, 32, 61, 32, 49, 59], [109, 117, 116, 101, 120, 32, 109, 91, 50, 93, 59], [108, 111, 99, 107, 32, 120, 59], [105, 102, 32, 120, 32, 123]]
theorem tk33_len : (tk33.all fun s => decide (s.length ≤ 12)) = true := by kernel_rfl
theorem tk33_at (w : World) (q : Nat) (hq : q < 33) : ∃ s : List UInt8, s.length ≤ 12 ∧ (w.alloc (.cells #[.string ⟨#[118, 97, 114]⟩, .string ⟨#[109, 117, 116, 101, 120]⟩, .string ⟨#[114, 109, 117, 116, 101, 120]⟩, .string ⟨#[102, 117, 110, 99]⟩, .string ⟨#[108, 111, 99, 107]⟩, .string ⟨#[117, 110, 108, 111, 99, 107]⟩, .string ⟨#[103, 111]⟩, .string ⟨#[105, 102]⟩, .string ⟨#[101, 108, 115, 101]⟩, .string ⟨#[119, 104, 105, 108, 101]⟩, .string ⟨#[114, 101, 116, 117, 114, 110]⟩, .string ⟨#[120]⟩, .string ⟨#[121]⟩, .string ⟨#[51]⟩, .string ⟨#[48]⟩, .string ⟨#[54, 53]⟩, .string ⟨#[40]⟩, .string ⟨#[41]⟩, .string ⟨#[123]⟩, .string ⟨#[125]⟩, .string ⟨#[91]⟩, .string ⟨#[93]⟩, .string ⟨#[44]⟩, .string ⟨#[59]⟩, .string ⟨#[61]⟩, .string ⟨#[45]⟩, .string ⟨#[43]⟩, .string ⟨#[102, 117, 110, 99, 32, 102, 40, 41, 32, 123]⟩, .string ⟨#[125, 32]⟩, .string ⟨#[118, 97, 114, 32, 120, 32, 61, 32, 49, 59]⟩, .string ⟨#[109, 117, 116, 101, 120, 32, 109, 91, 50, 93, 59]⟩, .string ⟨#[108, 111, 99, 107, 32, 120, 59]⟩, .string ⟨#[105, 102, 32, 120, 32, 123]⟩] 9)).cell? ⟨w.heap.size, q, none⟩ = some (.string ⟨s.toArray⟩) := by
  have hq' : q < tk33.length := hq
  refine ⟨tk33[q], by simpa using List.all_eq_true.1 tk33_len _ (List.getElem_mem hq'), ?_⟩
  rw [World.cell?_alloc_mark]
  have e : (#[.string ⟨#[118, 97, 114]⟩, .string ⟨#[109, 117, 116, 101, 120]⟩, .string ⟨#[114, 109, 117, 116, 101, 120]⟩, .string ⟨#[102, 117, 110, 99]⟩, .string ⟨#[108, 111, 99, 107]⟩, .string ⟨#[117, 110, 108, 111, 99, 107]⟩, .string ⟨#[103, 111]⟩, .string ⟨#[105, 102]⟩, .string ⟨#[101, 108, 115, 101]⟩, .string ⟨#[119, 104, 105, 108, 101]⟩, .string ⟨#[114, 101, 116, 117, 114, 110]⟩, .string ⟨#[120]⟩, .string ⟨#[121]⟩, .string ⟨#[51]⟩, .string ⟨#[48]⟩, .string ⟨#[54, 53]⟩, .string ⟨#[40]⟩, .string ⟨#[41]⟩, .string ⟨#[123]⟩, .string ⟨#[125]⟩, .string ⟨#[91]⟩, .string ⟨#[93]⟩, .string ⟨#[44]⟩, .string ⟨#[59]⟩, .string ⟨#[61]⟩, .string ⟨#[45]⟩, .string ⟨#[43]⟩, .string ⟨#[102, 117, 110, 99, 32, 102, 40, 41, 32, 123]⟩, .string ⟨#[125, 32]⟩, .string ⟨#[118, 97, 114, 32, 120, 32, 61, 32, 49, 59]⟩, .string ⟨#[109, 117, 116, 101, 120, 32, 109, 91, 50, 93, 59]⟩, .string ⟨#[108, 111, 99, 107, 32, 120, 59]⟩, .string ⟨#[105, 102, 32, 120, 32, 123]⟩] : Array Value) = (tk33.map fun s => Value.string ⟨s.toArray⟩).toArray := rfl
  rw [e]
  simp [List.getElem?_eq_getElem hq']

set_option maxRecDepth 100000 in
set_option maxHeartbeats 4000000 in
theorem parseTokens_any (xs : List Int) (A : Option Addr) (cap : Nat) (w : World) (hR : IntR w A xs) (hl : xs.length ≤ 9223372036854775807) (hS : SgT w) :
    Calls Tryd.prog 5 #[.slice A xs.length cap] w fun e w' => e = .returned (.bool true) ∧ Below w.heap.size w w' := by
  have HR := Lib.hid hR
  have HS := Lib.hid hS
  have HTK := Lib.hid (tk33_at w)
  have HB0 : Hid (Below w.heap.size w (w.alloc (.cells #[.string ⟨#[118, 97, 114]⟩, .string ⟨#[109, 117, 116, 101, 120]⟩, .string ⟨#[114, 109, 117, 116, 101, 120]⟩, .string ⟨#[102, 117, 110, 99]⟩, .string ⟨#[108, 111, 99, 107]⟩, .string ⟨#[117, 110, 108, 111, 99, 107]⟩, .string ⟨#[103, 111]⟩, .string ⟨#[105, 102]⟩, .string ⟨#[101, 108, 115, 101]⟩, .string ⟨#[119, 104, 105, 108, 101]⟩, .string ⟨#[114, 101, 116, 117, 114, 110]⟩, .string ⟨#[120]⟩, .string ⟨#[121]⟩, .string ⟨#[51]⟩, .string ⟨#[48]⟩, .string ⟨#[54, 53]⟩, .string ⟨#[40]⟩, .string ⟨#[41]⟩, .string ⟨#[123]⟩, .string ⟨#[125]⟩, .string ⟨#[91]⟩, .string ⟨#[93]⟩, .string ⟨#[44]⟩, .string ⟨#[59]⟩, .string ⟨#[61]⟩, .string ⟨#[45]⟩, .string ⟨#[43]⟩, .string ⟨#[102, 117, 110, 99, 32, 102, 40, 41, 32, 123]⟩, .string ⟨#[125, 32]⟩, .string ⟨#[118, 97, 114, 32, 120, 32, 61, 32, 49, 59]⟩, .string ⟨#[109, 117, 116, 101, 120, 32, 109, 91, 50, 93, 59]⟩, .string ⟨#[108, 111, 99, 107, 32, 120, 59]⟩, .string ⟨#[105, 102, 32, 120, 32, 123]⟩] 9))) := (Below.refl _ _).alloc (Nat.le_refl _) _
  have happ := bapp
  clear hR hS
  go_enter Tryd.func5, Tryd.ntmps5
  go_wp2_with fail
  obtain ⟨W, hW⟩ : ∃ W, W = w.alloc (.cells #[.string ⟨#[118, 97, 114]⟩, .string ⟨#[109, 117, 116, 101, 120]⟩, .string ⟨#[114, 109, 117, 116, 101, 120]⟩, .string ⟨#[102, 117, 110, 99]⟩, .string ⟨#[108, 111, 99, 107]⟩, .string ⟨#[117, 110, 108, 111, 99, 107]⟩, .string ⟨#[103, 111]⟩, .string ⟨#[105, 102]⟩, .string ⟨#[101, 108, 115, 101]⟩, .string ⟨#[119, 104, 105, 108, 101]⟩, .string ⟨#[114, 101, 116, 117, 114, 110]⟩, .string ⟨#[120]⟩, .string ⟨#[121]⟩, .string ⟨#[51]⟩, .string ⟨#[48]⟩, .string ⟨#[54, 53]⟩, .string ⟨#[40]⟩, .string ⟨#[41]⟩, .string ⟨#[123]⟩, .string ⟨#[125]⟩, .string ⟨#[91]⟩, .string ⟨#[93]⟩, .string ⟨#[44]⟩, .string ⟨#[59]⟩, .string ⟨#[61]⟩, .string ⟨#[45]⟩, .string ⟨#[43]⟩, .string ⟨#[102, 117, 110, 99, 32, 102, 40, 41, 32, 123]⟩, .string ⟨#[125, 32]⟩, .string ⟨#[118, 97, 114, 32, 120, 32, 61, 32, 49, 59]⟩, .string ⟨#[109, 117, 116, 101, 120, 32, 109, 91, 50, 93, 59]⟩, .string ⟨#[108, 111, 99, 107, 32, 120, 59]⟩, .string ⟨#[105, 102, 32, 120, 32, 123]⟩] 9) := ⟨_, rfl⟩
  rw [← hW] at HTK HB0 ⊢
  clear hW
  go_loopw [4, 5] (fun v i wr => ∃ (k : Nat) (acc : List UInt8), k ≤ xs.length ∧ k ≤ 60 ∧ acc.length ≤ 13 * k ∧ v = .string ⟨acc.toArray⟩ ∧ i = .int .i64 (k : Int) ∧ wr = W) (fun _ i _ => 60 - (intOf i).toNat)
  case atStart => exact ⟨0, [], by omega, by omega, by simp, rfl, rfl, rfl⟩
  case round =>
    obtain ⟨k, acc, hk, hk60, hal, rfl, rfl, rfl⟩ := hrel
    by_cases hlt : k < xs.length ∧ k < 60
    · obtain ⟨hkx, hk6⟩ := hlt
      obtain ⟨b, off, rfl, hc, r1, r2⟩ := (HR.out.later HB0.out) k hkx
      have hq := within_lt xs[k] 33 (by omega)
      obtain ⟨q, hqe⟩ : ∃ q, q = within xs[k] 33 := ⟨_, rfl⟩
      rw [← hqe] at hq
      have HQ := Lib.hid hqe
      obtain ⟨s, hsl, hcs⟩ := HTK.out q hq
      have i1 : (0 : Int) ≤ (q : Int) := by omega
      have i2 : (q : Int) < 33 := by omega
      have i3 : (0 : Int) ≤ (k : Int) := by omega
      have d1 : decide ((k : Int) < (xs.length : Int)) = true := decide_eq_true (by omega)
      have d2 : decide ((k : Int) < 60) = true := decide_eq_true (by omega)
      clear hqe
      go_wp2_with fail
      refine (within_big xs[k] 33 wr ⟨r1, r2⟩ (by omega) (by omega)).mono ?_
      rintro e w2 ⟨rfl, rfl⟩
      rw [show (33 : Int).toNat = 33 from rfl, ← HQ.out]
      have hap2 : ∀ a : List UInt8, (⟨a.toArray⟩ : ByteArray) ++ (⟨#[32]⟩ : ByteArray) = ⟨(a ++ [32]).toArray⟩ := fun a => bapp a [32]
      go_wp2_with fail
      go_roundw
      case rel => exact ⟨k + 1, acc ++ (s ++ [32]), by omega, by omega, by simp; omega, rfl, by go_num, trivial⟩
      case measure => simp [intOf]; omega
    · obtain ⟨c, W1, hrun, hBy, hcp, hb3⟩ := conv_bytes acc wr
      have HBW := Lib.hid (below_rev hb3 HB0.out)
      have HSM := Lib.hid (same3_any acc _ c W1 hBy (by omega) hcp (HS.out.later HBW.out))
      clear hBy hb3
      by_cases hkx : k < xs.length
      · have d1 : decide ((k : Int) < (xs.length : Int)) = true := decide_eq_true (by omega)
        have d2 : decide ((k : Int) < 60) = false := decide_eq_false (by omega)
        clear hlt
        go_wp2_with fail
        refine HSM.out.mono ?_
        rintro e w1 ⟨rfl, hb1⟩
        have HB1 := Lib.hid (below_rev hb1 HBW.out)
        clear hb1
        go_wp2_with fail
        refine (awake3_any _ (HS.out.later HB1.out)).mono ?_
        rintro e w2 ⟨rfl, hb2⟩
        have HB2 := Lib.hid (below_rev hb2 HB1.out)
        clear hb2
        go_wp2_with fail
        go_ret
        exact ⟨rfl, HB2.out⟩
      · have d1 : decide ((k : Int) < (xs.length : Int)) = false := decide_eq_false (by omega)
        clear hlt
        go_wp2_with fail
        refine HSM.out.mono ?_
        rintro e w1 ⟨rfl, hb1⟩
        have HB1 := Lib.hid (below_rev hb1 HBW.out)
        clear hb1
        go_wp2_with fail
        refine (awake3_any _ (HS.out.later HB1.out)).mono ?_
        rintro e w2 ⟨rfl, hb2⟩
        have HB2 := Lib.hid (below_rev hb2 HB1.out)
        clear hb2
        go_wp2_with fail
        go_ret
        exact ⟨rfl, HB2.out⟩
end Go.Proofs.YtjjooekkieddbaaDoor
