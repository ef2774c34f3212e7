/- What signs and strength of the reference return. What inner, digits and Number of the reference return. What the reference's text of an expression is: the plain function exText. What Name of the reference returns. What Height of the reference returns: the plain function exHt. -/
import Derived.Test.YtjjooekkieddbaaDoorGTok
import Derived.Test.YtjjooekkieddbaaDoorGSrc
import Derived.Test.YtjjooekkieddbaaDoorGNum
import Derived.Deep.RegionHeld3
import Derived.Deep.QuietTactic
import Derived.BigQuiet
namespace Go.Proofs.YtjjooekkieddbaaDoor
open Go.RowKit

/-- the slice at A holds the numbers xs -/
def IntS (w : World) (A : Option Addr) (xs : List Int) : Prop :=
  ∀ i (h : i < xs.length), ∃ b off, A = some ⟨b, off, none⟩ ∧ w.cell? ⟨b, off + i, none⟩ = some (.int .i64 xs[i])
theorem IntS.later {w w' : World} {A : Option Addr} {xs : List Int} (h : IntS w A xs) (hb : Below w.heap.size w w') : IntS w' A xs := by
  intro i hi
  obtain ⟨b, off, e, hc⟩ := h i hi
  exact ⟨b, off, e, cell_later hb hc⟩
theorem StrS.later {w w' : World} {A : Option Addr} {xs : List (List UInt8)} (h : StrS w A xs) (hb : Below w.heap.size w w') : StrS w' A xs := by
  intro i hi
  obtain ⟨b, off, e, hc⟩ := h i hi
  exact ⟨b, off, e, cell_later hb hc⟩

/-- the signs of a strength, and their operators -/
def sgS : Int → List (List UInt8)
  | 0 => [[124, 124]]
  | 1 => [[38, 38]]
  | 2 => [[61, 61], [33, 61], [60], [60, 61], [62], [62, 61]]
  | 3 => [[43], [45]]
  | _ => [[42], [47], [37]]
def sgO : Int → List Int
  | 0 => [17]
  | 1 => [16]
  | 2 => [14, 15, 10, 11, 12, 13]
  | 3 => [8, 9]
  | _ => [5, 6, 7]
def SignsPost (w : World) (level : Int) (e : Ending) (w' : World) : Prop :=
  ∃ b b', e = .returned (.tuple #[.slice (some ⟨b, 0, none⟩) (sgS level).length (sgS level).length, .slice (some ⟨b', 0, none⟩) (sgO level).length (sgO level).length]) ∧
    StrS w' (some ⟨b, 0, none⟩) (sgS level) ∧ IntS w' (some ⟨b', 0, none⟩) (sgO level) ∧ Below w.heap.size w w'

theorem strS_lit (w : World) (xs : List (List UInt8)) (vs : Array Value) (hv : vs = (xs.map fun s => Value.string ⟨s.toArray⟩).toArray) (o : Obj) (t : TypeId) : StrS ((w.alloc (.cells vs t)).alloc o) (some ⟨w.heap.size, 0, none⟩) xs := by
  subst hv
  exact (str_lit w xs t).later ((Below.refl _ _).alloc (Nat.le_refl _) _)
theorem intS_lit (w : World) (xs : List Int) (vs : Array Value) (hv : vs = (xs.map fun s => Value.int .i64 s).toArray) (g : Nat) (hg : g = w.heap.size) (t : TypeId) : IntS (w.alloc (.cells vs t)) (some ⟨g, 0, none⟩) xs := by
  subst hv hg
  intro i hi
  refine ⟨_, _, rfl, ?_⟩
  rw [Nat.zero_add, World.cell?_alloc_mark]
  simp [List.getElem?_eq_getElem hi]

set_option maxHeartbeats 1000000 in
theorem signs_any (level : Int) (w : World) : Calls Tryd.prog 66 #[.int .i64 level] w (SignsPost w level) := by
  by_cases h0 : level = 0
  · subst h0
    go_enter Tryd.func66, Tryd.ntmps66
    go_wp2
    go_ret2
    exact ⟨_, _, rfl, strS_lit _ _ _ rfl _ _, intS_lit _ _ _ rfl _ (by simp) _, ((Below.refl _ _).alloc (Nat.le_refl _) _).alloc (by simp) _⟩
  · have t0 := bF h0
    by_cases h1 : level = 1
    · subst h1
      clear h0
      go_enter Tryd.func66, Tryd.ntmps66
      go_wp2
      go_ret2
      exact ⟨_, _, rfl, strS_lit _ _ _ rfl _ _, intS_lit _ _ _ rfl _ (by simp) _, ((Below.refl _ _).alloc (Nat.le_refl _) _).alloc (by simp) _⟩
    · have t1 := bF h1
      by_cases h2 : level = 2
      · subst h2
        clear h0 h1
        go_enter Tryd.func66, Tryd.ntmps66
        go_wp2
        go_ret2
        exact ⟨_, _, rfl, strS_lit _ _ _ rfl _ _, intS_lit _ _ _ rfl _ (by simp) _, ((Below.refl _ _).alloc (Nat.le_refl _) _).alloc (by simp) _⟩
      · have t2 := bF h2
        by_cases h3 : level = 3
        · subst h3
          clear h0 h1 h2
          go_enter Tryd.func66, Tryd.ntmps66
          go_wp2
          go_ret2
          exact ⟨_, _, rfl, strS_lit _ _ _ rfl _ _, intS_lit _ _ _ rfl _ (by simp) _, ((Below.refl _ _).alloc (Nat.le_refl _) _).alloc (by simp) _⟩
        · have t3 := bF h3
          have e1 : sgS level = [[42], [47], [37]] := by
            unfold sgS
            split <;> simp_all
          have e2 : sgO level = [5, 6, 7] := by
            unfold sgO
            split <;> simp_all
          have E1 := Lib.hid e1
          have E2 := Lib.hid e2
          clear e1 e2 h0 h1 h2 h3
          go_enter Tryd.func66, Tryd.ntmps66
          go_wp2
          go_ret2
          unfold SignsPost
          rw [E1.out, E2.out]
          exact ⟨_, _, rfl, strS_lit _ _ _ rfl _ _, intS_lit _ _ _ rfl _ (by simp) _, ((Below.refl _ _).alloc (Nat.le_refl _) _).alloc (by simp) _⟩

/-- the strength of an operator -/
def strV (op : Int) : Nat :=
  if op = 17 then 0 else if op = 16 then 1 else if 10 ≤ op ∧ op ≤ 15 then 2 else if op = 8 ∨ op = 9 then 3 else if 5 ≤ op ∧ op ≤ 7 then 4 else if op = 3 ∨ op = 4 then 5 else 6
theorem str_found (op : Int) (k : Nat) (hk : k < 5) (h : op ∈ sgO (k : Int)) : strV op = k := by
  have hc : k = 0 ∨ k = 1 ∨ k = 2 ∨ k = 3 ∨ k = 4 := by omega
  rcases hc with rfl | rfl | rfl | rfl | rfl <;> simp [sgO] at h
  · subst h; decide
  · subst h; decide
  · rcases h with h | h | h | h | h | h <;> subst h <;> decide
  · rcases h with h | h <;> subst h <;> decide
  · rcases h with h | h | h <;> subst h <;> decide
theorem str_none (op : Int) (h : ∀ j : Nat, j < 5 → op ∉ sgO (j : Int)) : strV op = if op = 3 ∨ op = 4 then 5 else 6 := by
  have h0 := h 0 (by omega)
  have h1 := h 1 (by omega)
  have h2 := h 2 (by omega)
  have h3 := h 3 (by omega)
  have h4 := h 4 (by omega)
  simp [sgO] at h0 h1 h2 h3 h4
  unfold strV
  rw [if_neg (by omega), if_neg (by omega), if_neg (by omega), if_neg (by omega), if_neg (by omega)]
theorem sgO_len (level : Int) : (sgO level).length ≤ 6 := by
  unfold sgO
  split <;> simp
theorem int_not_in (xs : List Int) (s : Int) (m : Nat) (h : m < xs.length) (h0 : s ∉ xs.take m) (h1 : xs[m] ≠ s) : s ∉ xs.take (m + 1) := by
  rw [List.take_succ_eq_append_getElem h]
  simp only [List.mem_append, List.mem_singleton, not_or]
  exact ⟨h0, fun e => h1 e.symm⟩

set_option maxHeartbeats 1000000 in
theorem strength_any (op : Int) (w : World) : Calls Tryd.prog 39 #[.int .i64 op] w fun e w' => e = .returned (.int .i64 (strV op : Int)) ∧ Below w.heap.size w w' := by
  go_enter Tryd.func39, Tryd.ntmps39
  go_wp2
  go_loopw [3, 4, 5, 6] (fun i _ _ _ wr => ∃ k : Nat, k ≤ 5 ∧ i = .int .i64 k ∧ Hid (∀ j : Nat, j < k → op ∉ sgO (j : Int)) ∧ Below w.heap.size w wr) (fun i _ _ _ _ => 5 - (intOf i).toNat)
  case atStart => exact ⟨0, by omega, rfl, fun j hj => absurd hj (by omega), Below.refl _ _⟩
  case round =>
    obtain ⟨k, hk, rfl, hno, hbel⟩ := hrel
    have HBE := Lib.hid hbel
    clear hbel
    by_cases hk5 : k < 5
    · go_wp2_with fail
      refine (signs_any _ _).mono ?_
      rintro e w1 ⟨b, b', rfl, -, hI, hb1⟩
      have HI := Lib.hid hI
      have HB1 := Lib.hid (HBE.out.trans (hb1.mono HBE.out.size))
      clear hI hb1
      have hl6 := sgO_len (k : Int)
      have HF := Lib.hid (str_found op k hk5)
      obtain ⟨L, hL⟩ : ∃ L, L = sgO (k : Int) := ⟨_, rfl⟩
      have HLL := Lib.hid hL
      rw [← hL] at HI HF hl6 ⊢
      clear hL
      go_wp2
      go_loop [6] (fun i => ∃ m : Nat, m ≤ L.length ∧ i = .int .i64 m ∧ Hid (op ∉ L.take m)) (fun i => L.length - (intOf i).toNat)
      case atStart => exact ⟨0, by omega, rfl, by show _ ∉ _; simp⟩
      case round =>
        obtain ⟨m, hm, rfl, hrel2⟩ := hrel
        by_cases hlt : m < L.length
        · obtain ⟨b2, off, hA, hc⟩ := HI.out m hlt
          injection hA with hA
          injection hA with e1 e2
          subst e1 e2
          rw [Nat.zero_add] at hc
          by_cases he : L[m] = op
          · have HE : Hid (strV op = k) := HF.out (by rw [← he]; exact List.getElem_mem hlt)
            have t1 := bT he
            clear he
            go_wp2
            go_ret
            exact ⟨ret_int (by rw [HE.out]), HB1.out⟩
          · have t1 := bF he
            have HE := Lib.hid (int_not_in L op m hlt hrel2.out he)
            clear he
            go_wp2
            go_round
            case rel => exact ⟨m + 1, by omega, by go_num, HE⟩
            case measure => simp [intOf]; omega
        · have HE : Hid (op ∉ L) := by
            have := hrel2.out
            rw [List.take_of_length_le (by omega)] at this
            exact this
          go_wp2
          go_roundw
          case rel =>
            refine ⟨k + 1, by omega, by go_num, ?_, HB1.out⟩
            intro j hj
            by_cases hjk : j = k
            · subst hjk
              rw [← HLL.out]
              exact HE.out
            · exact hno.out j (by omega)
          case measure => simp [intOf]; omega
    · have hke : k = 5 := by omega
      subst hke
      have HN := Lib.hid (str_none op hno.out)
      by_cases h3 : op = 3
      · have t3 := bT h3
        have HN' : Hid (strV op = 5) := by rw [HN.out, if_pos (.inl h3)]; rfl
        clear h3
        go_wp2
        go_ret
        exact ⟨ret_int (by rw [HN'.out]; rfl), HBE.out⟩
      · have t3 := bF h3
        by_cases h4 : op = 4
        · have t4 := bT h4
          have HN' : Hid (strV op = 5) := by rw [HN.out, if_pos (.inr h4)]; rfl
          clear h3 h4
          go_wp2
          go_ret
          exact ⟨ret_int (by rw [HN'.out]; rfl), HBE.out⟩
        · have t4 := bF h4
          have HN' : Hid (strV op = 6) := by rw [HN.out, if_neg (by omega)]; rfl
          clear h3 h4
          go_wp2
          go_ret
          exact ⟨ret_int (by rw [HN'.out]; rfl), HBE.out⟩

end Go.Proofs.YtjjooekkieddbaaDoor

namespace Go.Proofs.YtjjooekkieddbaaDoor
open Go.RowKit

def Ex.op : Ex → Int | .mk o _ _ _ => o
def Ex.num : Ex → Int | .mk _ n _ _ => n
def Ex.name : Ex → List UInt8 | .mk _ _ s _ => s
def Ex.args : Ex → List Ex | .mk _ _ _ l => l

/-- is Arg number k printed in parentheses -/
def innerV (op : Int) (aop : Int) (k : Nat) : Bool := decide (strV aop < strV op) || (strV aop == strV op && k == 1)

theorem below_two {w w1 w2 : World} (h1 : Below w.heap.size w w1) (h2 : Below w1.heap.size w1 w2) : Below w.heap.size w w2 := h1.trans (h2.mono h1.size)

theorem below_rev {w w1 w2 : World} (h2 : Below w1.heap.size w1 w2) (h1 : Below w.heap.size w w1) : Below w.heap.size w w2 := h1.trans (h2.mono h1.size)

set_option maxRecDepth 100000 in
set_option maxHeartbeats 1000000 in
theorem inner_any (w : World) (f : EF) (b off k : Nat) (aop : Int) (hA : f.A = some ⟨b, off, none⟩) (hk : k < f.n) (hn : f.n ≤ 1000000) (hc : w.cell? ⟨b, off + k * 4, none⟩ = some (.int .i64 aop)) :
    Calls Tryd.prog 41 #[f.val, .int .i64 (k : Int)] w fun e w' => e = .returned (.bool (innerV f.op aop k)) ∧ Below w.heap.size w w' := by
  obtain ⟨op, num, name, A, n, c⟩ := f
  dsimp only at hA hk hn ⊢
  subst hA
  unfold EF.val
  dsimp only
  have hbl : b < w.heap.size := World.block_lt_of_cell? _ _ hc
  have hcc : (w.alloc (.cells #[.int .i64 op, .int .i64 num, .string ⟨name.toArray⟩, .slice (some ⟨b, off, none⟩) n c] 25)).cell? ⟨b, off + k * 4, none⟩ = some (.int .i64 aop) := (World.cell?_alloc_lt _ _ _ hbl).trans hc
  have i0 : (0 : Int) ≤ (k : Int) := by omega
  have i1 : (k : Int) < (n : Int) := by omega
  go_enter Tryd.func41, Tryd.ntmps41
  go_wp2
  have hb0 : Below w.heap.size w (w.alloc (.cells #[.int .i64 op, .int .i64 num, .string ⟨name.toArray⟩, .slice (some ⟨b, off, none⟩) n c] 25)) := (Below.refl _ _).alloc (Nat.le_refl _) _
  go_region_held3 (fun w' => w'.cell? ⟨w.heap.size, 0, none⟩ = some (.int .i64 op) ∧ w'.cell? ⟨w.heap.size, 3, none⟩ = some (.slice (some ⟨b, off, none⟩) n c) ∧ w'.cell? ⟨b, off + k * 4, none⟩ = some (.int .i64 aop) ∧ Below w.heap.size w w')
    (refine ⟨?_, ?_, ?_, ?_⟩ <;> first | assumption | (simp [*]; done) | (refine Below.drew ?_; assumption))
    (first | (go_at_call 39; refine (strength_any _ _).mono ?_; rintro e w' ⟨rfl, hb⟩; obtain ⟨k0, k3, kc, hbw⟩ := ‹_ ∧ _ ∧ _ ∧ Below w.heap.size w _›; have r0 := cell_later hb k0; have r3 := cell_later hb k3; have rc := cell_later hb kc; have rb := below_rev hb hbw; clear k0 k3 kc hbw hb))
  clear r0 r3 rc
  have HB := Lib.hid rb
  clear rb
  go_wp2
  all_goals
    go_ret
    refine ⟨ret_bool ?_, HB.out⟩
    rw [Bool.eq_iff_iff]
    simp [innerV]
    omega

/-- the decimal text of a number -/
def numText (n : Int) : List UInt8 := if n < 0 then 45 :: decLoop 20 (-n).toNat [] else decLoop 20 n.toNat []
theorem decLoop_first (n : Nat) : decLoop 19 (n / 10) [digC n] = decLoop 20 n [] := by
  conv => rhs; rw [show (20 : Nat) = 19 + 1 from rfl, decLoop_go 19 n [] (.inr rfl)]

set_option maxRecDepth 100000 in
set_option maxHeartbeats 1000000 in
theorem digits_any (n : Nat) (w : World) (hn : n ≤ 18446744073709551615) :
    Calls Tryd.prog 33 #[.int .u64 (n : Int)] w fun e w' => e = .returned (.string ⟨(decLoop 20 n []).toArray⟩) ∧ Below w.heap.size w w' := by
  have hcv := conv_one n w w.heap.size rfl
  go_enter Tryd.func33, Tryd.ntmps33
  go_wp2
  clear hcv
  go_loopw [0, 3] (fun i v wr => ∃ (k f : Nat) (s : List UInt8), k ≤ 18446744073709551615 ∧ v = .string ⟨s.toArray⟩ ∧ i = .int .u64 k ∧ s.length + f ≤ 20 ∧ Hid (k < 10 ^ f) ∧ Hid (s ≠ [] ∧ decLoop f k s = decLoop 20 n []) ∧ Below w.heap.size w wr)
    (fun i _ _ => (intOf i).toNat)
  case atStart => exact ⟨n / 10, 19, [digC n], by omega, rfl, by go_num, by simp, by show _ < _; omega, ⟨by simp, decLoop_first n⟩, (Below.refl _ _).alloc (Nat.le_refl _) _⟩
  case round =>
    obtain ⟨k, f, s, hk, rfl, rfl, hsl, hf, hrel, hbel⟩ := hrel
    have HBE := Lib.hid hbel
    clear hbel
    have hcv := conv_one k wr wr.heap.size rfl
    have happ := bapp
    by_cases hk0 : 0 < k
    · have hfpos : Hid (0 < f) := by
        have := hf.out
        rcases Nat.eq_zero_or_pos f with h | h
        · subst h
          simp at this
          omega
        · exact h
      go_wp2
      go_roundw
      case rel =>
        have h1 := hf.out
        have hfp := hfpos.out
        obtain ⟨f', rfl⟩ : ∃ g, f = g + 1 := ⟨f - 1, by omega⟩
        refine ⟨k / 10, f', digC k :: s, by omega, ?_, ?_, by simp; omega, ?_, ⟨by simp, ?_⟩, HBE.out.alloc HBE.out.size _⟩
        · rfl
        · go_num
        · rw [Nat.pow_succ] at h1
          show _ < _
          omega
        · exact (decLoop_go f' k s (.inl hk0)).symm.trans hrel.out.2
      case measure =>
        simp [intOf]
        omega
    · have HD := Lib.hid ((decLoop_stop f k s (by simp [hrel.out.1]; omega)).symm.trans hrel.out.2)
      go_wp2
      go_ret
      exact ⟨by rw [← HD.out]; rfl, HBE.out⟩

theorem digits_int (x : Int) (w : World) (h0 : 0 ≤ x) (h1 : x ≤ 18446744073709551615) :
    Calls Tryd.prog 33 #[.int .u64 x] w fun e w' => e = .returned (.string ⟨(decLoop 20 x.toNat []).toArray⟩) ∧ Below w.heap.size w w' := by
  obtain ⟨m, rfl⟩ := Int.eq_ofNat_of_zero_le h0
  exact digits_any m w (by omega)
theorem decLoop20_len (n : Nat) : (decLoop 20 n []).length ≤ 20 := by
  have := decLoop_len 20 n []
  simpa using this
theorem numText_len (n : Int) : (numText n).length ≤ 21 := by
  unfold numText
  split
  · have := decLoop20_len (-n).toNat
    simp
    omega
  · have := decLoop20_len n.toNat
    omega

set_option maxRecDepth 100000 in
set_option maxHeartbeats 1000000 in
theorem numberText_any (n : Int) (w : World) (h0 : -9223372036854775808 ≤ n) (h1 : n ≤ 9223372036854775807) :
    Calls Tryd.prog 18 #[.int .i64 n] w fun e w' => e = .returned (.string ⟨(numText n).toArray⟩) ∧ Below w.heap.size w w' := by
  by_cases hn : n < 0
  · have HT : Hid (numText n = 45 :: decLoop 20 (-n).toNat []) := if_pos hn
    have happ := bapp
    have hdl := decLoop20_len (-n).toNat
    go_enter Tryd.func18, Tryd.ntmps18
    go_wp2_with fail
    refine (digits_int (-(n + 1) + 1) w (by omega) (by omega)).mono ?_
    rintro e w1 ⟨rfl, hb⟩
    rw [show (-(n + 1) + 1).toNat = (-n).toNat by omega]
    go_wp2_with fail
    go_ret
    exact ⟨by rw [HT.out]; rfl, hb⟩
  · have HT : Hid (numText n = decLoop 20 n.toNat []) := if_neg hn
    obtain ⟨m, rfl⟩ := Int.eq_ofNat_of_zero_le (show 0 ≤ n by omega)
    go_enter Tryd.func18, Tryd.ntmps18
    go_wp2_with fail
    refine (digits_any m w (by omega)).mono ?_
    rintro e w1 ⟨rfl, hb⟩
    go_wp2_with fail
    go_ret
    exact ⟨by rw [HT.out, Int.toNat_natCast]; rfl, hb⟩

end Go.Proofs.YtjjooekkieddbaaDoor

namespace Go.Proofs.YtjjooekkieddbaaDoor
open Go.RowKit

/-- the sign of an operator, if it is a binary one -/
def signFind : List Int → List (List UInt8) → Int → Option (List UInt8)
  | o :: os, s :: ss, op => if o = op then some s else signFind os ss op
  | _, _, _ => none
def signOf (op : Int) : Option (List UInt8) := signFind (sgO (strV op : Int)) (sgS (strV op : Int)) op
/-- the text of an operator with the texts of its Args -/
def finText (op num : Int) (name : List UInt8) (ps : List (List UInt8)) : List UInt8 :=
  if op = 1 then numText num else if op = 2 then name else if op = 3 then 45 :: ps.getD 0 [] else if op = 4 then 33 :: ps.getD 0 [] else
  match signOf op with
  | some s => ps.getD 0 [] ++ [32] ++ s ++ [32] ++ ps.getD 1 []
  | none => []
mutual
def exText : Ex → List UInt8
  | .mk op num name args => finText op num name (exParts op 0 args)
def exParts (op : Int) : Nat → List Ex → List (List UInt8)
  | _, [] => []
  | k, e :: r => (if innerV op e.op k then 40 :: (exText e ++ [41]) else exText e) :: exParts op (k + 1) r
end
/-- the text of one Arg -/
def partText (op : Int) (k : Nat) (e : Ex) : List UInt8 := if innerV op e.op k then 40 :: (exText e ++ [41]) else exText e
theorem exText_mk (op num : Int) (name : List UInt8) (args : List Ex) : exText (.mk op num name args) = finText op num name (exParts op 0 args) := by rw [exText]
theorem exParts_cons (op : Int) (k : Nat) (e : Ex) (r : List Ex) : exParts op k (e :: r) = partText op k e :: exParts op (k + 1) r := by rw [exParts, partText]
theorem exParts_nil (op : Int) (k : Nat) : exParts op k [] = [] := by rw [exParts]
theorem exParts_len (op : Int) (k : Nat) (args : List Ex) : (exParts op k args).length = args.length := by
  induction args generalizing k with
  | nil => rw [exParts_nil]; rfl
  | cons e r ih => rw [exParts_cons, List.length_cons, ih, List.length_cons]
theorem exParts_snoc (op : Int) (k : Nat) (args : List Ex) (m : Nat) (h : m < args.length) : exParts op k (args.take (m + 1)) = exParts op k (args.take m) ++ [partText op (k + m) args[m]] := by
  induction args generalizing k m with
  | nil => simp at h
  | cons e r ih =>
    cases m with
    | zero => simp [exParts_cons, exParts_nil]
    | succ m =>
      have := ih (k + 1) m (by simpa using h)
      rw [List.take_succ_cons, List.take_succ_cons, exParts_cons, exParts_cons, this]
      simp
      congr 1
      omega
/-- the expressions that are printed -/
inductive ExOk : Ex → Prop
  | mk (op num : Int) (name : List UInt8) (args : List Ex) (hn : -9223372036854775808 ≤ num ∧ num ≤ 9223372036854775807)
      (ha : (op = 1 ∨ op = 2) ∧ args.length = 0 ∨ (op = 3 ∨ op = 4) ∧ args.length = 1 ∨ 5 ≤ op ∧ op ≤ 17 ∧ args.length = 2) (hs : ∀ i (h : i < args.length), ExOk args[i]) : ExOk (.mk op num name args)
theorem signOf_some (op : Int) (h : 5 ≤ op ∧ op ≤ 17) : ∃ s, signOf op = some s ∧ s.length ≤ 2 := by
  have hc : op = 5 ∨ op = 6 ∨ op = 7 ∨ op = 8 ∨ op = 9 ∨ op = 10 ∨ op = 11 ∨ op = 12 ∨ op = 13 ∨ op = 14 ∨ op = 15 ∨ op = 16 ∨ op = 17 := by omega
  rcases hc with rfl | rfl | rfl | rfl | rfl | rfl | rfl | rfl | rfl | rfl | rfl | rfl | rfl <;> exact ⟨_, rfl, by decide⟩
theorem signFind_at (os : List Int) (ss : List (List UInt8)) (op : Int) (m : Nat) (h : m < os.length) (h' : m < ss.length) (he : os[m] = op) (hn : op ∉ os.take m) : signFind os ss op = some ss[m] := by
  induction os generalizing ss m with
  | nil => simp at h
  | cons o os ih =>
    cases ss with
    | nil => simp at h'
    | cons s ss =>
      rw [signFind]
      cases m with
      | zero =>
        simp at he
        rw [if_pos he]
        rfl
      | succ m =>
        simp at hn he
        rw [if_neg (fun e => hn.1 e.symm), ih ss m (by simpa using h) (by simpa using h') he hn.2]
        simp
theorem sg_len (level : Int) : (sgS level).length = (sgO level).length := by
  unfold sgS sgO
  split <;> rfl
theorem sg_mem (op : Int) (h : 5 ≤ op ∧ op ≤ 17) : op ∈ sgO (strV op : Int) := by
  have hc : op = 5 ∨ op = 6 ∨ op = 7 ∨ op = 8 ∨ op = 9 ∨ op = 10 ∨ op = 11 ∨ op = 12 ∨ op = 13 ∨ op = 14 ∨ op = 15 ∨ op = 16 ∨ op = 17 := by omega
  rcases hc with rfl | rfl | rfl | rfl | rfl | rfl | rfl | rfl | rfl | rfl | rfl | rfl | rfl <;> decide
theorem sgS_len2 (level : Int) (m : Nat) (h : m < (sgS level).length) : ((sgS level)[m]).length ≤ 2 := by
  have hm := List.getElem_mem h
  generalize (sgS level)[m] = x at hm
  unfold sgS at hm
  split at hm <;> simp at hm <;> (first | (subst hm; decide) | (rcases hm with h | h | h | h | h | h <;> subst h <;> decide) | (rcases hm with h | h | h <;> subst h <;> decide) | (rcases hm with h | h <;> subst h <;> decide))
theorem size_arg (op num : Int) (name : List UInt8) (args : List Ex) (i : Nat) (h : i < args.length) : SizeOf.sizeOf args[i] < SizeOf.sizeOf (Ex.mk op num name args) := by
  have h1 := List.sizeOf_lt_of_mem (List.getElem_mem h)
  have h2 : SizeOf.sizeOf args < SizeOf.sizeOf (Ex.mk op num name args) := by simp; omega
  omega

theorem ExM.op_eq {w : World} {S : Nat → Prop} {E : Ex} {f : EF} (h : ExM w S E f) : f.op = E.op := by
  cases h
  rfl
theorem ExM.later {w w' : World} {S : Nat → Prop} {E : Ex} {f : EF} (h : ExM w S E f) (hb : Below w.heap.size w w') : ExM w' S E f := h.keep fun b _ hlt => hb.block b hlt
theorem part_le (op num : Int) (name : List UInt8) (args : List Ex) (hok : ExOk (.mk op num name args)) (i : Nat) (h : i < args.length) : (exText args[i]).length ≤ (exText (.mk op num name args)).length ∧ (partText op i args[i]).length ≤ (exText (.mk op num name args)).length := by
  have hp : (exText args[i]).length ≤ (partText op i args[i]).length := by
    unfold partText
    split
    · simp; omega
    · exact Nat.le_refl _
  suffices hq : (partText op i args[i]).length ≤ (exText (.mk op num name args)).length from ⟨Nat.le_trans hp hq, hq⟩
  rw [exText_mk]
  cases hok with
  | mk _ _ _ _ hn ha hs =>
    rcases ha with ⟨_, h0⟩ | ⟨ho, h1⟩ | ⟨o1, o2, h2⟩
    · omega
    · obtain ⟨a, rfl⟩ : ∃ a, args = [a] := List.length_eq_one_iff.1 h1
      have : i = 0 := by simpa using h
      subst this
      simp only [exParts_cons, exParts_nil, List.getElem_cons_zero]
      unfold finText
      rw [if_neg (by omega), if_neg (by omega)]
      rcases ho with rfl | rfl
      · simp
      · simp
    · obtain ⟨a, b, rfl⟩ : ∃ a b, args = [a, b] := by
        match args, h2 with
        | [a, b], _ => exact ⟨a, b, rfl⟩
      obtain ⟨s, hs, _⟩ := signOf_some op ⟨o1, o2⟩
      simp only [exParts_cons, exParts_nil]
      unfold finText
      rw [if_neg (by omega), if_neg (by omega), if_neg (by omega), if_neg (by omega), hs]
      have hi : i = 0 ∨ i = 1 := by simp at h; omega
      rcases hi with rfl | rfl
      · simp
      · simp
        omega

theorem inner_agg (w : World) (op num : Int) (name : List UInt8) (A : Option Addr) (n c b off k : Nat) (aop : Int) (hA : A = some ⟨b, off, none⟩) (hk : k < n) (hn : n ≤ 1000000) (hc : w.cell? ⟨b, off + k * 4, none⟩ = some (.int .i64 aop)) :
    Calls Tryd.prog 41 #[.agg #[.int .i64 op, .int .i64 num, .string ⟨name.toArray⟩, .slice A n c], .int .i64 (k : Int)] w fun e w' => e = .returned (.bool (innerV op aop k)) ∧ Below w.heap.size w w' :=
  inner_any w ⟨op, num, name, A, n, c⟩ b off k aop hA hk hn hc

def strCells (l : List (List UInt8)) : List Value := l.map fun s => Value.string ⟨s.toArray⟩
theorem strCells_snoc (l : List (List UInt8)) (s : List UInt8) : strCells (l ++ [s]) = strCells l ++ [.string ⟨s.toArray⟩] := by simp [strCells]

theorem owns_some {w : World} {base : Nat} {e : TypeId} {size n c : Nat} {A : Option Addr} {xs : List Value} (h : w.ownsRow base e size (.slice A n c) n xs) (hn : 0 < n) : ∃ g, A = some ⟨g, 0, none⟩ := by
  rcases h.2 with ⟨_, h0⟩ | ⟨g, cap, cur, e, _⟩
  · omega
  · injection e with e1
    exact ⟨g, e1⟩
/-- what an append to a row of the call's own leaves, behind one new block -/
theorem grown_row {w wr W w5 : World} {o0 o : Obj} {e size n : Nat} {v : Value} {xs : List Value} (ho : wr.ownsRow (w.heap.size + 1) e size v n xs) (hw : Below (w.alloc o0).heap.size (w.alloc o0) wr) (hb : Below wr.heap.size wr W)
    (hg : (W.alloc o).grownBy w5 v.ownBlock) : Below (w.alloc o0).heap.size (w.alloc o0) w5 := by
  have h1 := hw.size
  have h2 := hb.size
  exact ((hw.trans (hb.mono h1)).alloc (by omega) _).grown hg (by simp at *; omega) (fun k hk => by have := (owns_block ho k hk).1; simp; omega)

end Go.Proofs.YtjjooekkieddbaaDoor

namespace Go.Proofs.YtjjooekkieddbaaDoor
open Go.RowKit

def charOk (i : Nat) (c : UInt8) : Bool := Tk.isLet c || (i != 0 && Tk.isDig c)
def charsOk (s : List UInt8) : Prop := ∀ i (h : i < s.length), charOk i s[i] = true
instance (s : List UInt8) : Decidable (charsOk s) := by unfold charsOk; infer_instance
/-- may a name be declared -/
def nameB (s : List UInt8) : Bool := decide (charsOk s) && (decide (1 ≤ s.length) && decide (s.length ≤ 16) && !Tk.resv s)

set_option maxRecDepth 100000 in
set_option maxHeartbeats 1000000 in
theorem name_any (s : List UInt8) (w : World) (hl : s.length ≤ 9223372036854775807) :
    Calls Tryd.prog 40 #[.string ⟨s.toArray⟩] w fun e w' => e = .returned (.bool (nameB s)) ∧ Below w.heap.size w w' := by
  go_enter Tryd.func40, Tryd.ntmps40
  go_wp2_with fail
  go_loop [3] (fun i => ∃ m : Nat, m ≤ s.length ∧ i = .int .i64 m ∧ Hid (∀ j (_ : j < m) (h : j < s.length), charOk j s[j] = true)) (fun i => s.length - (intOf i).toNat)
  case atStart => exact ⟨0, by omega, rfl, fun j hj => absurd hj (by omega)⟩
  case round =>
    obtain ⟨m, hm, rfl, hrel⟩ := hrel
    by_cases hlt : m < s.length
    · have hsz : m < (⟨s.toArray⟩ : ByteArray).size := by simpa [ByteArray.size] using hlt
      have hby : (⟨s.toArray⟩ : ByteArray)[m]'hsz = s[m] := rfl
      by_cases hL : Tk.isLet s[m] = true
      · have HE : Hid (∀ j (_ : j < m + 1) (h : j < s.length), charOk j s[j] = true) := by
          intro j hj h
          by_cases hjm : j = m
          · subst hjm
            simp [charOk, hL]
          · exact hrel.out j (by omega) h
        go_wp2_with (first | (go_at_call 67; refine (letter_any _ _).mono ?_; rintro e w' ⟨rfl, rfl⟩))
        go_round
        case rel => exact ⟨m + 1, by omega, by go_num, HE⟩
        case measure => simp [intOf]; omega
      · have hL' : Tk.isLet s[m] = false := by simpa using hL
        clear hL
        by_cases h0 : m = 0
        · have t0 := bT (show ((m : Nat) : Int) = 0 by omega)
          have HE : Hid (nameB s = false) := by
            have hn : ¬ charsOk s := fun h => by
              have := h m hlt
              unfold charOk at this
              rw [hL', show (m != 0) = false by simp [h0]] at this
              simp at this
            show nameB s = false
            unfold nameB
            rw [decide_eq_false hn]
            rfl
          clear h0
          go_wp2_with (first | (go_at_call 67; refine (letter_any _ _).mono ?_; rintro e w' ⟨rfl, rfl⟩))
          go_ret
          exact ⟨ret_bool HE.out.symm, Below.refl _ _⟩
        · have t0 := bF (show ((m : Nat) : Int) ≠ 0 by omega)
          by_cases hD : Tk.isDig s[m] = true
          · have HE : Hid (∀ j (_ : j < m + 1) (h : j < s.length), charOk j s[j] = true) := by
              intro j hj h
              by_cases hjm : j = m
              · subst hjm
                simp [charOk, hD, h0]
              · exact hrel.out j (by omega) h
            clear h0
            go_wp2_with (first | (go_at_call 67; refine (letter_any _ _).mono ?_; rintro e w' ⟨rfl, rfl⟩) | (go_at_call 68; refine (digit_any _ _).mono ?_; rintro e w' ⟨rfl, rfl⟩))
            go_round
            case rel => exact ⟨m + 1, by omega, by go_num, HE⟩
            case measure => simp [intOf]; omega
          · have hD' : Tk.isDig s[m] = false := by simpa using hD
            have HE : Hid (nameB s = false) := by
              have hn : ¬ charsOk s := fun h => by
                have := h m hlt
                simp [charOk, hL', hD'] at this
              show nameB s = false
              unfold nameB
              rw [decide_eq_false hn]
              rfl
            clear h0 hD
            go_wp2_with (first | (go_at_call 67; refine (letter_any _ _).mono ?_; rintro e w' ⟨rfl, rfl⟩) | (go_at_call 68; refine (digit_any _ _).mono ?_; rintro e w' ⟨rfl, rfl⟩))
            go_ret
            exact ⟨ret_bool HE.out.symm, Below.refl _ _⟩
    · have HE : Hid (nameB s = (decide (1 ≤ s.length) && decide (s.length ≤ 16) && !Tk.resv s)) := by
        have hn : charsOk s := fun j h => hrel.out j (by omega) h
        show nameB s = _
        unfold nameB
        rw [decide_eq_true hn]
        rfl
      by_cases g1 : 1 ≤ s.length
      · by_cases g2 : s.length ≤ 16
        · have d1 : decide ((s.length : Int) ≥ 1) = true := by simp; omega
          have d2 : decide ((s.length : Int) ≤ 16) = true := by simp; omega
          have HE2 : Hid (nameB s = !Tk.resv s) := by rw [HE.out, decide_eq_true g1, decide_eq_true g2]; rfl
          go_wp2_with fail
          refine (refReserved_any s w).mono ?_
          rintro e w1 ⟨rfl, hb1⟩
          go_wp2_with fail
          go_ret
          exact ⟨ret_bool HE2.out.symm, hb1⟩
        · have d2 : decide ((s.length : Int) ≤ 16) = false := decide_eq_false (by omega)
          have HE2 : Hid (nameB s = false) := by rw [HE.out, decide_eq_true g1, decide_eq_false g2]; rfl
          go_wp2_with fail
          go_ret
          exact ⟨ret_bool HE2.out.symm, Below.refl _ _⟩
      · have HE2 : Hid (nameB s = false) := by rw [HE.out, decide_eq_false g1]; rfl
        go_wp2_with fail
        go_ret
        exact ⟨ret_bool HE2.out.symm, Below.refl _ _⟩

end Go.Proofs.YtjjooekkieddbaaDoor

namespace Go.Proofs.YtjjooekkieddbaaDoor
open Go.RowKit

mutual
def exHt : Ex → Nat
  | .mk op _ _ args => exHts op 0 args 0 + (if strV op = 5 then 1 else 0)
def exHts (op : Int) : Nat → List Ex → Nat → Nat
  | _, [], h => h
  | k, e :: r, h => exHts op (k + 1) r (max h (exHt e + (if innerV op e.op k then 1 else 0)))
end
def htPart (op : Int) (k : Nat) (e : Ex) : Nat := exHt e + (if innerV op e.op k then 1 else 0)
theorem exHt_mk (op num : Int) (name : List UInt8) (args : List Ex) : exHt (.mk op num name args) = exHts op 0 args 0 + (if strV op = 5 then 1 else 0) := by rw [exHt]
theorem exHts_cons (op : Int) (k : Nat) (e : Ex) (r : List Ex) (h : Nat) : exHts op k (e :: r) h = exHts op (k + 1) r (max h (htPart op k e)) := by rw [exHts, htPart]
theorem exHts_nil (op : Int) (k h : Nat) : exHts op k [] h = h := by rw [exHts]
theorem exHts_snoc (op : Int) (k : Nat) (args : List Ex) (m h : Nat) (hm : m < args.length) : exHts op k (args.take (m + 1)) h = max (exHts op k (args.take m) h) (htPart op (k + m) args[m]) := by
  induction args generalizing k m h with
  | nil => simp at hm
  | cons e r ih =>
    cases m with
    | zero => simp [exHts_cons, exHts_nil]
    | succ m =>
      have := ih (k + 1) m (max h (htPart op k e)) (by simpa using hm)
      rw [List.take_succ_cons, List.take_succ_cons, exHts_cons, exHts_cons, this]
      congr 2
      omega
theorem exHts_ge (op : Int) (k : Nat) (args : List Ex) (h : Nat) : h ≤ exHts op k args h := by
  induction args generalizing k h with
  | nil => rw [exHts_nil]; exact Nat.le_refl _
  | cons e r ih =>
    rw [exHts_cons]
    exact Nat.le_trans (Nat.le_max_left _ _) (ih _ _)
theorem exHts_take (op : Int) (k : Nat) (args : List Ex) (m h : Nat) : exHts op k (args.take m) h ≤ exHts op k args h := by
  induction args generalizing k m h with
  | nil => simp
  | cons e r ih =>
    cases m with
    | zero => rw [List.take_zero, exHts_nil]; exact exHts_ge _ _ _ _
    | succ m => rw [List.take_succ_cons, exHts_cons, exHts_cons]; exact ih _ _ _
theorem exHts_part (op : Int) (args : List Ex) (m : Nat) (hm : m < args.length) : htPart op m args[m] ≤ exHts op 0 args 0 := by
  have h1 := exHts_snoc op 0 args m 0 hm
  have h2 := exHts_take op 0 args (m + 1) 0
  rw [Nat.zero_add] at h1
  omega

/-- expressions with lists of Args that can be counted -/
inductive ExB : Ex → Prop
  | mk (op num : Int) (name : List UInt8) (args : List Ex) (hl : args.length ≤ 1000000) (hn : name.length ≤ 9223372036854775807) (hs : ∀ i (h : i < args.length), ExB args[i]) : ExB (.mk op num name args)

set_option maxRecDepth 100000 in
set_option maxHeartbeats 4000000 in
theorem height_fuel (N : Nat) : ∀ (E : Ex) (op num : Int) (name : List UInt8) (A : Option Addr) (n c : Nat) (w : World), SizeOf.sizeOf E < N → ExB E → exHt E ≤ 1000000000 → ExM w (fun _ => True) E ⟨op, num, name, A, n, c⟩ →
    Calls Tryd.prog 24 #[.agg #[.int .i64 op, .int .i64 num, .string ⟨name.toArray⟩, .slice A n c]] w fun e w' => e = .returned (.int .i64 (exHt E : Int)) ∧ Below w.heap.size w w' := by
  induction N with
  | zero => intro E op num name A n c w h; omega
  | succ N ih =>
    intro E op num name A n c w hN hok hlen hM
    have IH := Lib.hid ih
    clear ih
    cases hM with
    | mk _ _ _ args _ _ F hc hs =>
    have HC := Lib.hid hc
    have HS := Lib.hid hs
    have hsz := fun i h => size_arg op num name args i h
    have HSZ := Lib.hid hsz
    have HTX := Lib.hid (exHt_mk op num name args)
    have HLEN : Hid (exHts op 0 args 0 ≤ 1000000000) := by rw [exHt_mk] at hlen; show _ ≤ _; omega
    have hal : args.length ≤ 1000000 := by
      cases hok with
      | mk _ _ _ _ hl hn hs => exact hl
    have HIO : Hid (∀ i (h : i < args.length), ExB args[i]) := by
      cases hok with
      | mk _ _ _ _ hl hn hs => exact hs
    clear hok hlen hc hs hsz
    have hb0 : Below w.heap.size w (w.alloc (.cells #[.int .i64 op, .int .i64 num, .string ⟨name.toArray⟩, .slice A args.length c] 25)) := (Below.refl _ _).alloc (Nat.le_refl _) _
    have HB0 := Lib.hid hb0
    clear hb0
    go_enter Tryd.func24, Tryd.ntmps24
    go_wp2_with fail
    go_loopw [3, 4, 5] (fun v i _ wr => ∃ k h : Nat, k ≤ args.length ∧ i = .int .i64 k ∧ v = .int .i64 h ∧ h ≤ 1000000000 ∧ Hid (h = exHts op 0 (args.take k) 0) ∧ Below (w.alloc (.cells #[.int .i64 op, .int .i64 num, .string ⟨name.toArray⟩, .slice A args.length c] 25)).heap.size (w.alloc (.cells #[.int .i64 op, .int .i64 num, .string ⟨name.toArray⟩, .slice A args.length c] 25)) wr)
      (fun _ i _ _ => args.length - (intOf i).toNat)
    case atStart => exact ⟨0, 0, Nat.zero_le _, rfl, rfl, by omega, by rw [List.take_zero, exHts_nil]; rfl, Below.refl _ _⟩
    case round =>
      obtain ⟨k, h, hk, rfl, rfl, hh, hrel, hbel⟩ := hrel
      obtain ⟨q0, q1, q2, q3, f0, f1, f2, f3, hz⟩ := four_later hbel
      have HBE := Lib.hid hbel
      have HBW := Lib.hid (below_two HB0.out hbel)
      clear hbel f0 f1 f2 f3
      by_cases hlt : k < args.length
      · obtain ⟨b, off, rfl, -, hat⟩ := HC.out k hlt
        have hat1 := hat.keep (HBW.out.block b hat.lt)
        obtain ⟨a0, a1, a2, a3⟩ := hat1
        have HCH := Lib.hid ((HS.out k hlt).later HBW.out)
        have hopq : Hid ((F k).op = args[k].op) := (HS.out k hlt).op_eq
        have hpt : htPart op k args[k] = exHt args[k] + (if innerV op args[k].op k then 1 else 0) := rfl
        have hpl := exHts_part op args k hlt
        have hTl : exHt args[k] ≤ 1000000000 := by have := HLEN.out; omega
        have hpl2 : htPart op k args[k] ≤ 1000000000 := by have := HLEN.out; omega
        have HSN := Lib.hid (exHts_snoc op 0 args k 0 hlt)
        rw [← hopq.out] at hpt
        have HPT0 := Lib.hid hpt
        clear hpt hpl
        go_wp2_with fail
        refine (IH.out args[k] (F k).op (F k).num (F k).name (F k).A (F k).n (F k).c wr (by have := HSZ.out k hlt; omega) (HIO.out k hlt) hTl HCH.out).mono ?_
        rintro e w1 ⟨rfl, hb1⟩
        have q0' := cell_later hb1 q0
        have q1' := cell_later hb1 q1
        have q2' := cell_later hb1 q2
        have q3' := cell_later hb1 q3
        have a0' := cell_later hb1 a0
        have HB1 := Lib.hid hb1
        clear hb1 q0 q1 q2 q3 a0 a1 a2 a3
        generalize exHt args[k] = T at *
        go_wp2_with fail
        refine (inner_agg w1 op num name _ args.length c b off k (F k).op rfl hlt (by omega) a0').mono ?_
        rintro e w2 ⟨rfl, hb2⟩
        have HBX := Lib.hid (below_two HB1.out hb2)
        have HBN : Hid (Below (w.alloc (.cells #[.int .i64 op, .int .i64 num, .string ⟨name.toArray⟩, .slice (some ⟨b, off, none⟩) args.length c] 25)).heap.size (w.alloc (.cells #[.int .i64 op, .int .i64 num, .string ⟨name.toArray⟩, .slice (some ⟨b, off, none⟩) args.length c] 25)) w2) := below_two HBE.out HBX.out
        clear hb2 q0' q1' q2' q3' a0'
        by_cases hin : innerV op (F k).op k = true
        · have HPT : Hid (htPart op k args[k] = T + 1) := by rw [HPT0.out, if_pos hin]; rfl
          have hTT : T + 1 ≤ 1000000000 := by have := HPT.out; omega
          clear HPT0
          go_wp2_with fail
          go_roundw
          case rel =>
            refine ⟨k + 1, max h (T + 1), by omega, by go_num, ?_, by omega, ?_, HBN.out⟩
            · congr 1
              omega
            · show _ = _
              rw [HSN.out, Nat.zero_add, HPT.out, ← hrel.out]
          case measure => simp [intOf]; omega
        · have hin' : innerV op (F k).op k = false := by simpa using hin
          have HPT : Hid (htPart op k args[k] = T) := by rw [HPT0.out, if_neg hin]; rfl
          clear HPT0 hin
          go_wp2_with fail
          go_roundw
          case rel =>
            refine ⟨k + 1, max h (T), by omega, by go_num, ?_, by omega, ?_, HBN.out⟩
            · congr 1
              omega
            · show _ = _
              rw [HSN.out, Nat.zero_add, HPT.out, ← hrel.out]
          case measure => simp [intOf]; omega
      · have hke : Hid (args.take k = args) := List.take_of_length_le (by omega)
        go_wp2_with fail
        refine (strength_any op wr).mono ?_
        rintro e w1 ⟨rfl, hb1⟩
        have HB1 := Lib.hid (below_two HBW.out hb1)
        clear hb1 q1 q2 q3 q0
        by_cases h5 : strV op = 5
        · have t5 := bT (show ((strV op : Nat) : Int) = 5 by omega)
          have HF : Hid (exHt (.mk op num name args) = h + 1) := by rw [HTX.out, if_pos h5, hrel.out, hke.out]; rfl
          clear h5
          go_wp2_with fail
          go_ret
          exact ⟨ret_int (by rw [HF.out]; omega), HB1.out⟩
        · have t5 := bF (show ((strV op : Nat) : Int) ≠ 5 by omega)
          have HF : Hid (exHt (.mk op num name args) = h) := by rw [HTX.out, if_neg h5, hrel.out, hke.out]; rfl
          clear h5
          go_wp2_with fail
          go_ret
          exact ⟨ret_int (by rw [HF.out]), HB1.out⟩

end Go.Proofs.YtjjooekkieddbaaDoor
