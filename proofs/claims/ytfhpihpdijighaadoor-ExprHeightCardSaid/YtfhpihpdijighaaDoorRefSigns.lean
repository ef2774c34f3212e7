/- What signs and strength of the reference return. -/
import Derived.Test.YtfhpihpdijighaaDoorRefLeaf
namespace Go.Proofs.YtfhpihpdijighaaDoor
open Go.RowKit

/-- the slice at A holds the numbers xs -/
def IntS (w : World) (A : Option Addr) (xs : List Int) : Prop :=
  ∀ i (h : i < xs.length), ∃ b off, A = some ⟨b, off, none⟩ ∧ w.cell? ⟨b, off + i, none⟩ = some (.int .i64 xs[i])
theorem IntS.later {w w' : World} {A : Option Addr} {xs : List Int} (h : IntS w A xs) (hb : Below w.heap.size w w') : IntS w' A xs := by
  intro i hi
  obtain ⟨b, off, e, hc⟩ := h i hi
  exact ⟨b, off, e, cell_later hb hc⟩
theorem StrS.later {w w' : World} {A : Option Addr} {xs : List (List UInt8)} (h : StrS w A xs) (hb : Below w.heap.size w w') : StrS w' A xs := by
  intro i hi
  obtain ⟨b, off, e, hc⟩ := h i hi
  exact ⟨b, off, e, cell_later hb hc⟩

/-- the signs of a strength, and their operators -/
def sgS : Int → List (List UInt8)
  | 0 => [[124, 124]]
  | 1 => [[38, 38]]
  | 2 => [[61, 61], [33, 61], [60], [60, 61], [62], [62, 61]]
  | 3 => [[43], [45]]
  | _ => [[42], [47], [37]]
def sgO : Int → List Int
  | 0 => [17]
  | 1 => [16]
  | 2 => [14, 15, 10, 11, 12, 13]
  | 3 => [8, 9]
  | _ => [5, 6, 7]
def SignsPost (w : World) (level : Int) (e : Ending) (w' : World) : Prop :=
  ∃ b b', e = .returned (.tuple #[.slice (some ⟨b, 0, none⟩) (sgS level).length (sgS level).length, .slice (some ⟨b', 0, none⟩) (sgO level).length (sgO level).length]) ∧
    StrS w' (some ⟨b, 0, none⟩) (sgS level) ∧ IntS w' (some ⟨b', 0, none⟩) (sgO level) ∧ Below w.heap.size w w'

theorem strS_lit (w : World) (xs : List (List UInt8)) (vs : Array Value) (hv : vs = (xs.map fun s => Value.string ⟨s.toArray⟩).toArray) (o : Obj) (t : TypeId) : StrS ((w.alloc (.cells vs t)).alloc o) (some ⟨w.heap.size, 0, none⟩) xs := by
  subst hv
  exact (str_lit w xs t).later ((Below.refl _ _).alloc (Nat.le_refl _) _)
theorem intS_lit (w : World) (xs : List Int) (vs : Array Value) (hv : vs = (xs.map fun s => Value.int .i64 s).toArray) (g : Nat) (hg : g = w.heap.size) (t : TypeId) : IntS (w.alloc (.cells vs t)) (some ⟨g, 0, none⟩) xs := by
  subst hv hg
  intro i hi
  refine ⟨_, _, rfl, ?_⟩
  rw [Nat.zero_add, World.cell?_alloc_mark]
  simp [List.getElem?_eq_getElem hi]

set_option maxHeartbeats 1000000 in
theorem signs_any (level : Int) (w : World) : Calls Tryd.prog 55 #[.int .i64 level] w (SignsPost w level) := by
  by_cases h0 : level = 0
  · subst h0
    go_enter Tryd.func55, Tryd.ntmps55
    go_wp2
    go_ret2
    exact ⟨_, _, rfl, strS_lit _ _ _ rfl _ _, intS_lit _ _ _ rfl _ (by simp) _, ((Below.refl _ _).alloc (Nat.le_refl _) _).alloc (by simp) _⟩
  · have t0 := bF h0
    by_cases h1 : level = 1
    · subst h1
      clear h0
      go_enter Tryd.func55, Tryd.ntmps55
      go_wp2
      go_ret2
      exact ⟨_, _, rfl, strS_lit _ _ _ rfl _ _, intS_lit _ _ _ rfl _ (by simp) _, ((Below.refl _ _).alloc (Nat.le_refl _) _).alloc (by simp) _⟩
    · have t1 := bF h1
      by_cases h2 : level = 2
      · subst h2
        clear h0 h1
        go_enter Tryd.func55, Tryd.ntmps55
        go_wp2
        go_ret2
        exact ⟨_, _, rfl, strS_lit _ _ _ rfl _ _, intS_lit _ _ _ rfl _ (by simp) _, ((Below.refl _ _).alloc (Nat.le_refl _) _).alloc (by simp) _⟩
      · have t2 := bF h2
        by_cases h3 : level = 3
        · subst h3
          clear h0 h1 h2
          go_enter Tryd.func55, Tryd.ntmps55
          go_wp2
          go_ret2
          exact ⟨_, _, rfl, strS_lit _ _ _ rfl _ _, intS_lit _ _ _ rfl _ (by simp) _, ((Below.refl _ _).alloc (Nat.le_refl _) _).alloc (by simp) _⟩
        · have t3 := bF h3
          have e1 : sgS level = [[42], [47], [37]] := by
            unfold sgS
            split <;> simp_all
          have e2 : sgO level = [5, 6, 7] := by
            unfold sgO
            split <;> simp_all
          have E1 := Lib.hid e1
          have E2 := Lib.hid e2
          clear e1 e2 h0 h1 h2 h3
          go_enter Tryd.func55, Tryd.ntmps55
          go_wp2
          go_ret2
          unfold SignsPost
          rw [E1.out, E2.out]
          exact ⟨_, _, rfl, strS_lit _ _ _ rfl _ _, intS_lit _ _ _ rfl _ (by simp) _, ((Below.refl _ _).alloc (Nat.le_refl _) _).alloc (by simp) _⟩

/-- the strength of an operator -/
def strV (op : Int) : Nat :=
  if op = 17 then 0 else if op = 16 then 1 else if 10 ≤ op ∧ op ≤ 15 then 2 else if op = 8 ∨ op = 9 then 3 else if 5 ≤ op ∧ op ≤ 7 then 4 else if op = 3 ∨ op = 4 then 5 else 6
theorem str_found (op : Int) (k : Nat) (hk : k < 5) (h : op ∈ sgO (k : Int)) : strV op = k := by
  have hc : k = 0 ∨ k = 1 ∨ k = 2 ∨ k = 3 ∨ k = 4 := by omega
  rcases hc with rfl | rfl | rfl | rfl | rfl <;> simp [sgO] at h
  · subst h; decide
  · subst h; decide
  · rcases h with h | h | h | h | h | h <;> subst h <;> decide
  · rcases h with h | h <;> subst h <;> decide
  · rcases h with h | h | h <;> subst h <;> decide
theorem str_none (op : Int) (h : ∀ j : Nat, j < 5 → op ∉ sgO (j : Int)) : strV op = if op = 3 ∨ op = 4 then 5 else 6 := by
  have h0 := h 0 (by omega)
  have h1 := h 1 (by omega)
  have h2 := h 2 (by omega)
  have h3 := h 3 (by omega)
  have h4 := h 4 (by omega)
  simp [sgO] at h0 h1 h2 h3 h4
  unfold strV
  rw [if_neg (by omega), if_neg (by omega), if_neg (by omega), if_neg (by omega), if_neg (by omega)]
theorem sgO_len (level : Int) : (sgO level).length ≤ 6 := by
  unfold sgO
  split <;> simp
theorem int_not_in (xs : List Int) (s : Int) (m : Nat) (h : m < xs.length) (h0 : s ∉ xs.take m) (h1 : xs[m] ≠ s) : s ∉ xs.take (m + 1) := by
  rw [List.take_succ_eq_append_getElem h]
  simp only [List.mem_append, List.mem_singleton, not_or]
  exact ⟨h0, fun e => h1 e.symm⟩

set_option maxHeartbeats 1000000 in
theorem strength_any (op : Int) (w : World) : Calls Tryd.prog 37 #[.int .i64 op] w fun e w' => e = .returned (.int .i64 (strV op : Int)) ∧ Below w.heap.size w w' := by
  go_enter Tryd.func37, Tryd.ntmps37
  go_wp2
  go_loopw [3, 4, 5, 6] (fun i _ _ _ wr => ∃ k : Nat, k ≤ 5 ∧ i = .int .i64 k ∧ Hid (∀ j : Nat, j < k → op ∉ sgO (j : Int)) ∧ Below w.heap.size w wr) (fun i _ _ _ _ => 5 - (intOf i).toNat)
  case atStart => exact ⟨0, by omega, rfl, fun j hj => absurd hj (by omega), Below.refl _ _⟩
  case round =>
    obtain ⟨k, hk, rfl, hno, hbel⟩ := hrel
    have HBE := Lib.hid hbel
    clear hbel
    by_cases hk5 : k < 5
    · go_wp2_with fail
      refine (signs_any _ _).mono ?_
      rintro e w1 ⟨b, b', rfl, -, hI, hb1⟩
      have HI := Lib.hid hI
      have HB1 := Lib.hid (HBE.out.trans (hb1.mono HBE.out.size))
      clear hI hb1
      have hl6 := sgO_len (k : Int)
      have HF := Lib.hid (str_found op k hk5)
      obtain ⟨L, hL⟩ : ∃ L, L = sgO (k : Int) := ⟨_, rfl⟩
      have HLL := Lib.hid hL
      rw [← hL] at HI HF hl6 ⊢
      clear hL
      go_wp2
      go_loop [6] (fun i => ∃ m : Nat, m ≤ L.length ∧ i = .int .i64 m ∧ Hid (op ∉ L.take m)) (fun i => L.length - (intOf i).toNat)
      case atStart => exact ⟨0, by omega, rfl, by show _ ∉ _; simp⟩
      case round =>
        obtain ⟨m, hm, rfl, hrel2⟩ := hrel
        by_cases hlt : m < L.length
        · obtain ⟨b2, off, hA, hc⟩ := HI.out m hlt
          injection hA with hA
          injection hA with e1 e2
          subst e1 e2
          rw [Nat.zero_add] at hc
          by_cases he : L[m] = op
          · have HE : Hid (strV op = k) := HF.out (by rw [← he]; exact List.getElem_mem hlt)
            have t1 := bT he
            clear he
            go_wp2
            go_ret
            exact ⟨ret_int (by rw [HE.out]), HB1.out⟩
          · have t1 := bF he
            have HE := Lib.hid (int_not_in L op m hlt hrel2.out he)
            clear he
            go_wp2
            go_round
            case rel => exact ⟨m + 1, by omega, by go_num, HE⟩
            case measure => simp [intOf]; omega
        · have HE : Hid (op ∉ L) := by
            have := hrel2.out
            rw [List.take_of_length_le (by omega)] at this
            exact this
          go_wp2
          go_roundw
          case rel =>
            refine ⟨k + 1, by omega, by go_num, ?_, HB1.out⟩
            intro j hj
            by_cases hjk : j = k
            · subst hjk
              rw [← HLL.out]
              exact HE.out
            · exact hno.out j (by omega)
          case measure => simp [intOf]; omega
    · have hke : k = 5 := by omega
      subst hke
      have HN := Lib.hid (str_none op hno.out)
      by_cases h3 : op = 3
      · have t3 := bT h3
        have HN' : Hid (strV op = 5) := by rw [HN.out, if_pos (.inl h3)]; rfl
        clear h3
        go_wp2
        go_ret
        exact ⟨ret_int (by rw [HN'.out]; rfl), HBE.out⟩
      · have t3 := bF h3
        by_cases h4 : op = 4
        · have t4 := bT h4
          have HN' : Hid (strV op = 5) := by rw [HN.out, if_pos (.inr h4)]; rfl
          clear h3 h4
          go_wp2
          go_ret
          exact ⟨ret_int (by rw [HN'.out]; rfl), HBE.out⟩
        · have t4 := bF h4
          have HN' : Hid (strV op = 6) := by rw [HN.out, if_neg (by omega)]; rfl
          clear h3 h4
          go_wp2
          go_ret
          exact ⟨ret_int (by rw [HN'.out]; rfl), HBE.out⟩

end Go.Proofs.YtfhpihpdijighaaDoor
