/- What inner, digits and Number of the reference return. -/
import Derived.Test.YtfhpihpdijighaaDoorRefSigns
import Derived.Test.YtfhpihpdijighaaDoorSrcExpr
import Derived.Test.YtfhpihpdijighaaDoorDec
import Derived.Deep.RegionHeld3
namespace Go.Proofs.YtfhpihpdijighaaDoor
open Go.RowKit

def Ex.op : Ex → Int | .mk o _ _ _ => o
def Ex.num : Ex → Int | .mk _ n _ _ => n
def Ex.name : Ex → List UInt8 | .mk _ _ s _ => s
def Ex.args : Ex → List Ex | .mk _ _ _ l => l

/-- is Arg number k printed in parentheses -/
def innerV (op : Int) (aop : Int) (k : Nat) : Bool := decide (strV aop < strV op) || (strV aop == strV op && k == 1)

theorem below_two {w w1 w2 : World} (h1 : Below w.heap.size w w1) (h2 : Below w1.heap.size w1 w2) : Below w.heap.size w w2 := h1.trans (h2.mono h1.size)

theorem below_rev {w w1 w2 : World} (h2 : Below w1.heap.size w1 w2) (h1 : Below w.heap.size w w1) : Below w.heap.size w w2 := h1.trans (h2.mono h1.size)

set_option maxRecDepth 100000 in
set_option maxHeartbeats 1000000 in
theorem inner_any (w : World) (f : EF) (b off k : Nat) (aop : Int) (hA : f.A = some ⟨b, off, none⟩) (hk : k < f.n) (hn : f.n ≤ 1000000) (hc : w.cell? ⟨b, off + k * 4, none⟩ = some (.int .i64 aop)) :
    Calls Tryd.prog 36 #[f.val, .int .i64 (k : Int)] w fun e w' => e = .returned (.bool (innerV f.op aop k)) ∧ Below w.heap.size w w' := by
  obtain ⟨op, num, name, A, n, c⟩ := f
  dsimp only at hA hk hn ⊢
  subst hA
  unfold EF.val
  dsimp only
  have hbl : b < w.heap.size := World.block_lt_of_cell? _ _ hc
  have hcc : (w.alloc (.cells #[.int .i64 op, .int .i64 num, .string ⟨name.toArray⟩, .slice (some ⟨b, off, none⟩) n c] 38)).cell? ⟨b, off + k * 4, none⟩ = some (.int .i64 aop) := (World.cell?_alloc_lt _ _ _ hbl).trans hc
  have i0 : (0 : Int) ≤ (k : Int) := by omega
  have i1 : (k : Int) < (n : Int) := by omega
  go_enter Tryd.func36, Tryd.ntmps36
  go_wp2
  have hb0 : Below w.heap.size w (w.alloc (.cells #[.int .i64 op, .int .i64 num, .string ⟨name.toArray⟩, .slice (some ⟨b, off, none⟩) n c] 38)) := (Below.refl _ _).alloc (Nat.le_refl _) _
  go_region_held3 (fun w' => w'.cell? ⟨w.heap.size, 0, none⟩ = some (.int .i64 op) ∧ w'.cell? ⟨w.heap.size, 3, none⟩ = some (.slice (some ⟨b, off, none⟩) n c) ∧ w'.cell? ⟨b, off + k * 4, none⟩ = some (.int .i64 aop) ∧ Below w.heap.size w w')
    (refine ⟨?_, ?_, ?_, ?_⟩ <;> first | assumption | (simp [*]; done) | (refine Below.drew ?_; assumption))
    (first | (go_at_call 37; refine (strength_any _ _).mono ?_; rintro e w' ⟨rfl, hb⟩; obtain ⟨k0, k3, kc, hbw⟩ := ‹_ ∧ _ ∧ _ ∧ Below w.heap.size w _›; have r0 := cell_later hb k0; have r3 := cell_later hb k3; have rc := cell_later hb kc; have rb := below_rev hb hbw; clear k0 k3 kc hbw hb))
  clear r0 r3 rc
  have HB := Lib.hid rb
  clear rb
  go_wp2
  all_goals
    go_ret
    refine ⟨ret_bool ?_, HB.out⟩
    rw [Bool.eq_iff_iff]
    simp [innerV]
    omega

/-- the decimal text of a number -/
def numText (n : Int) : List UInt8 := if n < 0 then 45 :: decLoop 20 (-n).toNat [] else decLoop 20 n.toNat []
theorem decLoop_first (n : Nat) : decLoop 19 (n / 10) [digC n] = decLoop 20 n [] := by
  conv => rhs; rw [show (20 : Nat) = 19 + 1 from rfl, decLoop_go 19 n [] (.inr rfl)]

set_option maxRecDepth 100000 in
set_option maxHeartbeats 1000000 in
theorem digits_any (n : Nat) (w : World) (hn : n ≤ 18446744073709551615) :
    Calls Tryd.prog 73 #[.int .u64 (n : Int)] w fun e w' => e = .returned (.string ⟨(decLoop 20 n []).toArray⟩) ∧ Below w.heap.size w w' := by
  have hcv := conv_one n w w.heap.size rfl
  go_enter Tryd.func73, Tryd.ntmps73
  go_wp2
  clear hcv
  go_loopw [0, 3] (fun i v wr => ∃ (k f : Nat) (s : List UInt8), k ≤ 18446744073709551615 ∧ v = .string ⟨s.toArray⟩ ∧ i = .int .u64 k ∧ s.length + f ≤ 20 ∧ Hid (k < 10 ^ f) ∧ Hid (s ≠ [] ∧ decLoop f k s = decLoop 20 n []) ∧ Below w.heap.size w wr)
    (fun i _ _ => (intOf i).toNat)
  case atStart => exact ⟨n / 10, 19, [digC n], by omega, rfl, by go_num, by simp, by show _ < _; omega, ⟨by simp, decLoop_first n⟩, (Below.refl _ _).alloc (Nat.le_refl _) _⟩
  case round =>
    obtain ⟨k, f, s, hk, rfl, rfl, hsl, hf, hrel, hbel⟩ := hrel
    have HBE := Lib.hid hbel
    clear hbel
    have hcv := conv_one k wr wr.heap.size rfl
    have happ := bapp
    by_cases hk0 : 0 < k
    · have hfpos : Hid (0 < f) := by
        have := hf.out
        rcases Nat.eq_zero_or_pos f with h | h
        · subst h
          simp at this
          omega
        · exact h
      go_wp2
      go_roundw
      case rel =>
        have h1 := hf.out
        have hfp := hfpos.out
        obtain ⟨f', rfl⟩ : ∃ g, f = g + 1 := ⟨f - 1, by omega⟩
        refine ⟨k / 10, f', digC k :: s, by omega, ?_, ?_, by simp; omega, ?_, ⟨by simp, ?_⟩, HBE.out.alloc HBE.out.size _⟩
        · rfl
        · go_num
        · rw [Nat.pow_succ] at h1
          show _ < _
          omega
        · exact (decLoop_go f' k s (.inl hk0)).symm.trans hrel.out.2
      case measure =>
        simp [intOf]
        omega
    · have HD := Lib.hid ((decLoop_stop f k s (by simp [hrel.out.1]; omega)).symm.trans hrel.out.2)
      go_wp2
      go_ret
      exact ⟨by rw [← HD.out]; rfl, HBE.out⟩

theorem digits_int (x : Int) (w : World) (h0 : 0 ≤ x) (h1 : x ≤ 18446744073709551615) :
    Calls Tryd.prog 73 #[.int .u64 x] w fun e w' => e = .returned (.string ⟨(decLoop 20 x.toNat []).toArray⟩) ∧ Below w.heap.size w w' := by
  obtain ⟨m, rfl⟩ := Int.eq_ofNat_of_zero_le h0
  exact digits_any m w (by omega)
theorem decLoop20_len (n : Nat) : (decLoop 20 n []).length ≤ 20 := by
  have := decLoop_len 20 n []
  simpa using this
theorem numText_len (n : Int) : (numText n).length ≤ 21 := by
  unfold numText
  split
  · have := decLoop20_len (-n).toNat
    simp
    omega
  · have := decLoop20_len n.toNat
    omega

set_option maxRecDepth 100000 in
set_option maxHeartbeats 1000000 in
theorem numberText_any (n : Int) (w : World) (h0 : -9223372036854775808 ≤ n) (h1 : n ≤ 9223372036854775807) :
    Calls Tryd.prog 54 #[.int .i64 n] w fun e w' => e = .returned (.string ⟨(numText n).toArray⟩) ∧ Below w.heap.size w w' := by
  by_cases hn : n < 0
  · have HT : Hid (numText n = 45 :: decLoop 20 (-n).toNat []) := if_pos hn
    have happ := bapp
    have hdl := decLoop20_len (-n).toNat
    go_enter Tryd.func54, Tryd.ntmps54
    go_wp2_with fail
    refine (digits_int (-(n + 1) + 1) w (by omega) (by omega)).mono ?_
    rintro e w1 ⟨rfl, hb⟩
    rw [show (-(n + 1) + 1).toNat = (-n).toNat by omega]
    go_wp2_with fail
    go_ret
    exact ⟨by rw [HT.out]; rfl, hb⟩
  · have HT : Hid (numText n = decLoop 20 n.toNat []) := if_neg hn
    obtain ⟨m, rfl⟩ := Int.eq_ofNat_of_zero_le (show 0 ≤ n by omega)
    go_enter Tryd.func54, Tryd.ntmps54
    go_wp2_with fail
    refine (digits_any m w (by omega)).mono ?_
    rintro e w1 ⟨rfl, hb⟩
    go_wp2_with fail
    go_ret
    exact ⟨by rw [HT.out, Int.toNat_natCast]; rfl, hb⟩

end Go.Proofs.YtfhpihpdijighaaDoor
