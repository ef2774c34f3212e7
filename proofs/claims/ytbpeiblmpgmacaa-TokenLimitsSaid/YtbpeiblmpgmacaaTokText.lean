/- What Text of package token returns: the texts of all tokens but the ends, separated by single blanks. -/
import Derived.Test.YtbpeiblmpgmacaaTokLex
import Derived.Test.YtbpeiblmpgmacaaShelf
namespace Go.Proofs.Ytbpeiblmpgmacaa
open Go.RowKit

/-- the slice at A holds the tokens ts -/
def TokS (w : World) (A : Option Addr) (ts : List Tk.Tok) : Prop :=
  ∀ i (h : i < ts.length), ∃ b, A = some ⟨b, 0, none⟩ ∧ w.cell? ⟨b, i * 4, none⟩ = some (.int .i64 (ts[i].kind : Int)) ∧ w.cell? ⟨b, i * 4 + 1, none⟩ = some (.string ⟨ts[i].text.toArray⟩) ∧
    w.cell? ⟨b, i * 4 + 2, none⟩ = some (.int .i64 (ts[i].num : Int)) ∧ w.cell? ⟨b, i * 4 + 3, none⟩ = some (.int .i64 (ts[i].pos : Int))

theorem TokS.later {w w' : World} {A : Option Addr} {ts : List Tk.Tok} (h : TokS w A ts) (hb : Below w.heap.size w w') : TokS w' A ts := by
  intro i hi
  obtain ⟨b, e, h0, h1, h2, h3⟩ := h i hi
  exact ⟨b, e, cell_later hb h0, cell_later hb h1, cell_later hb h2, cell_later hb h3⟩

theorem tokCells_length (ts : List Tk.Tok) : (tokCells ts).length = ts.length * 4 := by
  induction ts with
  | nil => rfl
  | cons t r ih =>
    have : tokCells (t :: r) = [.int .i64 (t.kind : Int), .string ⟨t.text.toArray⟩, .int .i64 (t.num : Int), .int .i64 (t.pos : Int)] ++ tokCells r := by simp [tokCells]
    rw [this]
    simp [ih]
    omega
theorem tokCells_at (ts : List Tk.Tok) (i : Nat) (h : i < ts.length) : (tokCells ts)[i * 4]? = some (.int .i64 (ts[i].kind : Int)) ∧ (tokCells ts)[i * 4 + 1]? = some (.string ⟨ts[i].text.toArray⟩) ∧
    (tokCells ts)[i * 4 + 2]? = some (.int .i64 (ts[i].num : Int)) ∧ (tokCells ts)[i * 4 + 3]? = some (.int .i64 (ts[i].pos : Int)) := by
  induction ts generalizing i with
  | nil => simp at h
  | cons t r ih =>
    have : tokCells (t :: r) = .int .i64 (t.kind : Int) :: .string ⟨t.text.toArray⟩ :: .int .i64 (t.num : Int) :: .int .i64 (t.pos : Int) :: tokCells r := by simp [tokCells]
    rw [this]
    cases i with
    | zero => simp
    | succ j =>
      have := ih j (by simpa using h)
      have e : (j + 1) * 4 = j * 4 + 4 := by omega
      rw [e]
      simpa using this
theorem TokS.of_own {w : World} {base n : Nat} {A : Option Addr} {c : Nat} {ts : List Tk.Tok} (hn : n = ts.length) (h : w.ownsRow base 35 4 (.slice A n c) n (tokCells ts)) : TokS w A ts := by
  subst hn
  intro i hi
  have h' := h
  obtain ⟨_, h2⟩ := h'
  rcases h2 with ⟨_, h0⟩ | ⟨g, cap, cur, e, _⟩
  · omega
  · injection e with e1 _ e3
    subst e1 e3
    have hc := fun j hj => World.ownsRow.cellAt h j hj
    obtain ⟨q0, q1, q2, q3⟩ := tokCells_at ts i hi
    exact ⟨g, rfl, (hc _ (by omega)).trans q0, (hc _ (by omega)).trans q1, (hc _ (by omega)).trans q2, (hc _ (by omega)).trans q3⟩

/-- the texts of all tokens but the ends -/
def textsOf (ts : List Tk.Tok) : List (List UInt8) := (ts.filter fun t => t.kind != 5).map (·.text)
def textOf (ts : List Tk.Tok) : List UInt8 := Lib.join (textsOf ts) [32]

theorem texts_skip (ts : List Tk.Tok) (k : Nat) (h : k < ts.length) (h5 : ts[k].kind = 5) : textsOf (ts.take (k + 1)) = textsOf (ts.take k) := by
  unfold textsOf
  rw [List.take_succ_eq_append_getElem h, List.filter_append, List.map_append]
  simp only [List.filter_cons, List.filter_nil, h5]
  simp
theorem texts_take (ts : List Tk.Tok) (k : Nat) (h : k < ts.length) (h5 : ts[k].kind ≠ 5) : textsOf (ts.take (k + 1)) = textsOf (ts.take k) ++ [ts[k].text] := by
  unfold textsOf
  rw [List.take_succ_eq_append_getElem h, List.filter_append, List.map_append]
  have : (ts[k].kind != 5) = true := by simpa using h5
  simp only [List.filter_cons, List.filter_nil, this]
  simp
theorem texts_le (ts : List Tk.Tok) (k : Nat) : (textsOf (ts.take k)).length ≤ k := by
  unfold textsOf
  rw [List.length_map]
  exact Nat.le_trans (List.length_filter_le _ _) (by simp; omega)
theorem news_one (W : World) (g : Nat) (hg : g = W.heap.size) (c0 : Value) (t : TypeId) (j : Nat) (u : Value) (hj : [c0][j]? = some u) :
    (W.alloc (.cells #[c0] t)).cell? ((⟨g, 0, none⟩ : Addr).add j) = some u := by
  subst hg
  have ha : (⟨W.heap.size, 0, none⟩ : Addr).add j = ⟨W.heap.size, j, none⟩ := by
    unfold Addr.add
    split
    · simp_all
    · simp
  rw [ha, World.cell?_alloc_mark, ← hj]
  simp
theorem one_one (c : ByteArray) : ∀ u ∈ [Value.string c], u.oneCell' = true := by
  intro u hu
  simp at hu
  subst hu
  rfl
/-- what an append to a row of the call's own leaves, behind two new blocks -/
theorem grown_two {w wr w5 : World} {e size n : Nat} {v : Value} {xs : List Value} {o o' : Obj} (ho : wr.ownsRow w.heap.size e size v n xs) (hw : Below w.heap.size w wr)
    (hg : ((wr.alloc o).alloc o').grownBy w5 v.ownBlock) : Below w.heap.size w w5 := by
  have h1 := hw.size
  exact ((hw.alloc h1 _).alloc (by simp; omega) _).grown hg (by simp; omega) (fun k hk => (owns_block ho k hk).1)

theorem Try.infoStr : (Try.prog.info? 9).map (fun i => (i.zero, i.size, i.bytes)) = some (some (.string ⟨#[]⟩), 1, 16) := by kernel_rfl

theorem join_own (xs : List (List UInt8)) (A : Option Addr) (c base : Nat) (w : World) (h : w.ownsRow base 9 1 (.slice A xs.length c) xs.length (xs.map fun s => Value.string ⟨s.toArray⟩)) (hn : xs.length ≤ 1000000) (hlen : (Lib.join xs [32]).length ≤ 1000000000) :
    Calls Try.prog 27 #[.slice A xs.length c, .string ⟨#[32]⟩] w fun e w' => e = .returned (.string ⟨(Lib.join xs [32]).toArray⟩) ∧ Below w.heap.size w w' := by
  by_cases h0 : xs = []
  · subst h0
    refine (Try.strings_Join_none A c ⟨#[32]⟩ w).mono ?_
    rintro e w' ⟨rfl, rfl⟩
    exact ⟨rfl, Below.refl _ _⟩
  · have hpos : 0 < xs.length := List.length_pos_iff.2 h0
    have h' := h
    obtain ⟨_, h2⟩ := h'
    rcases h2 with ⟨_, hz⟩ | ⟨g, cap, cur, e, _, hh, hcap, _⟩
    · omega
    · injection e with e1 _ e3
      subst e1 e3
      have hmap : (xs.map fun s => (⟨s.toArray⟩ : ByteArray)).map (·.data.toList) = xs := by
        rw [List.map_map]
        exact (List.map_congr_left (g := id) (fun a _ => by simp)).trans (List.map_id xs)
      have hl' : (xs.map fun s => (⟨s.toArray⟩ : ByteArray)).length = xs.length := by simp
      have hj := Try.strings_Join g 0 c (xs.map fun s => (⟨s.toArray⟩ : ByteArray)) ⟨#[32]⟩ w (by
        intro j x hx
        have hjl : j < xs.length := by
          have := (List.getElem?_eq_some_iff.1 hx).1
          simpa using this
        have := World.ownsRow.cellAt h j (by omega)
        rw [Nat.zero_add, this]
        simp [List.getElem?_eq_getElem hjl] at hx ⊢
        exact hx) (lt_of_block hh) (by rw [hl']; omega) (by rw [hl']; exact hcap) (by rw [hmap]; exact Nat.le_trans hlen (by omega))
      rw [hmap, hl'] at hj
      exact hj

set_option maxRecDepth 100000 in
set_option maxHeartbeats 1000000 in
theorem text_any (ts : List Tk.Tok) (A : Option Addr) (cap : Nat) (w : World) (hT : TokS w A ts) (hn : ts.length ≤ 1000000) (hlen : (textOf ts).length ≤ 1000000000) :
    Calls Try.prog 15 #[.slice A ts.length cap] w fun e w' => e = .returned (.string ⟨(textOf ts).toArray⟩) ∧ Below w.heap.size w w' := by
  obtain ⟨i0, hi, hz0, hz1, hz2⟩ := info_parts Try.infoStr
  have HT := Lib.hid hT
  have HL := Lib.hid hlen
  clear hT hlen
  go_enter Try.func15, Try.ntmps15
  go_wp2
  go_loopw [3, 5, 8] (fun v _ i wr => ∃ k : Nat, k ≤ ts.length ∧ i = .int .i64 k ∧ wr.ownsRow w.heap.size 9 1 v (textsOf (ts.take k)).length ((textsOf (ts.take k)).map fun s => Value.string ⟨s.toArray⟩) ∧ Below w.heap.size w wr)
    (fun _ _ i _ => ts.length - (intOf i).toNat)
  case atStart => exact ⟨0, Nat.zero_le _, rfl, World.ownsRow_nil _ _ _ _, Below.refl _ _⟩
  case round =>
    obtain ⟨k, hk, rfl, hown, hbel⟩ := hrel
    have HO := Lib.hid hown
    have HBE := Lib.hid hbel
    clear hown hbel
    by_cases hlt : k < ts.length
    · obtain ⟨b, rfl, h0, h1, h2, h3⟩ := HT.out.later HBE.out k hlt
      obtain ⟨sa, sc, rfl⟩ := owns_form HO.out
      have hle := texts_le ts k
      by_cases h5 : ts[k].kind = 5
      · have t5 := nF (show ((ts[k].kind : Nat) : Int) = 5 by omega)
        have HX := Lib.hid (texts_skip ts k hlt h5)
        clear h5
        go_wp2
        go_roundw
        case rel => exact ⟨k + 1, by omega, by go_num, by rw [HX.out]; exact HO.out.alloc _, HBE.out.alloc HBE.out.size _⟩
        case measure => simp [intOf]; omega
      · have t5 := nT (show ((ts[k].kind : Nat) : Int) ≠ 5 by omega)
        have HX := Lib.hid (texts_take ts k hlt h5)
        clear h5
        go_wp2_with (first | (at_builtin; refine wpList_append_own _ rfl (.tmp 15) (.tmp 18) 45 rfl w.heap.size 9 i0 _ 1 16 Try.underlying45 hi hz0 hz1 hz2 rfl (by decide) _ (textsOf (ts.take k)).length ((textsOf (ts.take k)).map fun s => Value.string ⟨s.toArray⟩) rfl ((HO.out.alloc _).alloc _) ⟨wr.heap.size + 1, 0, none⟩ 1 1 [.string ⟨ts[k].text.toArray⟩] rfl rfl (news_one (wr.alloc _) (wr.heap.size + 1) (by simp) _ _) (one_one _) (by unfold maxLen; omega) (by omega) (by have := HBE.out.size; simp; omega) ?_))
        intro v' w5 hown' hgrow _
        have hbel5 := grown_two HO.out HBE.out hgrow
        have HO' := Lib.hid hown'
        have HBE' := Lib.hid hbel5
        clear hown' hgrow hbel5
        go_wp2
        go_roundw
        case rel =>
          refine ⟨k + 1, by omega, by go_num, ?_, HBE'.out⟩
          rw [HX.out]
          simpa using HO'.out
        case measure => simp [intOf]; omega
    · have ht : ts.take k = ts := List.take_of_length_le (by omega)
      obtain ⟨sa, sc, rfl⟩ := owns_form HO.out
      have hle := texts_le ts k
      have HJ := Lib.hid (join_own (textsOf (ts.take k)) sa sc w.heap.size wr HO.out (by omega) (by rw [ht]; exact HL.out))
      have HTK := Lib.hid ht
      clear ht
      go_wp2_with (first | (go_at_call 27; refine HJ.out.mono ?_; rintro e w2 ⟨rfl, hb⟩))
      go_ret
      refine ⟨?_, HBE.out.trans (hb.mono HBE.out.size)⟩
      have := HTK.out
      unfold textOf
      rw [this]
      rfl

end Go.Proofs.Ytbpeiblmpgmacaa
