/- The walk of ExprTokens: true for all arguments. -/
import Derived.Test.YtbaenhcmkigfcaaDoorLw2SameG
import Derived.Test.YtbaenhcmkigfcaaDoorGJoin
namespace Go.Proofs.YtbaenhcmkigfcaaDoor
open Go.RowKit

def txtT : List UInt8 := [97, 32, 98, 32, 55, 32, 40, 32, 41, 32, 45, 32, 33, 32, 43, 32, 42, 32, 47, 32, 37, 32, 60, 32, 60, 61, 32, 62, 32, 62, 61, 32, 61, 61, 32, 33, 61, 32, 38, 38, 32, 124, 124, 32, 59, 32, 61, 32, 123, 32, 125, 32, 91, 32, 93, 32, 44, 32, 49, 50, 32, 120, 49, 32, 108, 111, 99, 107, 32, 103, 111, 32, 105, 102]
/-- a token that may stand anywhere -/
def tokB (t : Tk.Tok) : Bool := (t.kind != 3 || !(([40] :: [41] :: Ps.sgTab).contains t.text)) && decide (t.text.length ≤ 1000)
theorem lenT : (Tk.lex txtT).1.length = 32 := by kernel_rfl
theorem allT : (Tk.lex txtT).1.all tokB = true := by kernel_rfl
theorem tokB_ok {ts : List Tk.Tok} (h : ∀ t ∈ ts, tokB t = true) : WOk ts ∧ TxOk ts := by
  constructor
  · intro k h3
    unfold Ps.kindAt at h3
    unfold Ps.textAt
    cases hk : ts[k]? with
    | none => rw [hk] at h3; exact absurd h3 (by decide)
    | some t =>
      rw [hk] at h3
      dsimp only at h3 ⊢
      have h1 := h t (List.mem_of_getElem? hk)
      unfold tokB at h1
      simp [h3] at h1
      simpa using h1.1
  · intro k
    unfold Ps.textAt
    cases hk : ts[k]? with
    | none => simp
    | some t =>
      dsimp only
      have h1 := h t (List.mem_of_getElem? hk)
      unfold tokB at h1
      simp at h1
      omega

/-- the tokens that have been put together -/
def TkRel (w : World) (k : Nat) (v : Value) (wr : World) : Prop :=
  ∃ acc : List Tk.Tok, acc.length = k ∧ wr.ownsRow w.heap.size 26 4 v acc.length (tokCells acc) ∧ (∀ t ∈ acc, tokB t = true) ∧ Below w.heap.size w wr

set_option maxRecDepth 100000 in
set_option maxHeartbeats 4000000 in
/-- the end of the law -/
theorem tk_same (acc : List Tk.Tok) (at_ : Int) (sa : Option Addr) (sc : Nat) (W : World) (B : Nat) (ho : W.ownsRow B 26 4 (.slice sa acc.length sc) acc.length (tokCells acc)) (hk : acc.length ≤ 61) (hall : ∀ t ∈ acc, tokB t = true) (hS : SgT W) (hat : -9223372036854775808 ≤ at_ ∧ at_ ≤ 9223372036854775807) :
    Calls Tryd.prog 12 #[.slice sa acc.length sc, .int .i64 at_] W fun e w' => e = .returned (.bool true) ∧ Below W.heap.size W w' :=
  sameL_any acc sa sc at_ W (TokS.of_own rfl ho) hS (by omega) hat (tokB_ok hall).1 (tokB_ok hall).2

set_option maxRecDepth 100000 in
set_option maxHeartbeats 4000000 in
theorem exprTokens_any (xs : List Int) (A : Option Addr) (cap : Nat) (at_ : Int) (raw en : Bool) (w : World) (hR : IntR w A xs) (hl : xs.length ≤ 9223372036854775807) (hat : -9223372036854775808 ≤ at_ ∧ at_ ≤ 9223372036854775807) (hS : SgT w) :
    Calls Tryd.prog 3 #[.slice A xs.length cap, .int .i64 at_, .bool raw, .bool en] w fun e w' => e = .returned (.bool true) ∧ Below w.heap.size w w' := by
  obtain ⟨i0, hi, hz0, hz1, hz2⟩ := info_parts Tryd.infoTok
  have HR := Lib.hid hR
  have HS := Lib.hid hS
  have HAT := Lib.hid hat
  clear hR hS hat
  go_enter Tryd.func3, Tryd.ntmps3
  go_wp2_with fail
  refine (tokens_any txtT w (by decide)).mono ?_
  rintro e w1 ⟨TA, tc, rfl, hT, hb1⟩
  have HT := Lib.hid hT
  have HB1 := Lib.hid hb1
  have hlT := lenT
  have HAL := Lib.hid (List.all_eq_true.1 allT)
  clear hT hb1
  rw [hlT]
  generalize (Tk.lex txtT).1 = TT at *
  have HLT := Lib.hid hlT
  clear hlT
  go_wp2_with fail
  go_loopw [10, 11] (fun v i wr => ∃ k : Nat, k ≤ xs.length ∧ k ≤ 60 ∧ i = .int .i64 (k : Int) ∧ Hid (TkRel w1 k v wr)) (fun _ i _ => 60 - (intOf i).toNat)
  case atStart => exact ⟨0, by omega, by omega, rfl, ⟨[], rfl, World.ownsRow_nil _ _ _ _, fun t h => absurd h (by simp), Below.refl _ _⟩⟩
  case round =>
    obtain ⟨k, hk, hk60, rfl, hrel⟩ := hrel
    obtain ⟨acc, hak, hown, hall, hbel⟩ := hrel.out
    clear hrel
    subst hak
    obtain ⟨sa, sc, rfl⟩ := owns_form hown
    have HO := Lib.hid hown
    have HALL := Lib.hid hall
    have HBE := Lib.hid hbel
    clear hown hall hbel
    by_cases hlt : acc.length < xs.length ∧ acc.length < 60
    · have HBW := Lib.hid (below_rev' HBE.out HB1.out)
      obtain ⟨hkx, hk6⟩ := hlt
      obtain ⟨b, off, rfl, hc, r1, r2⟩ := (HR.out.later HBW.out) acc.length hkx
      have hq := within_lt xs[acc.length] 32 (by omega)
      obtain ⟨q, hqe⟩ : ∃ q, q = within xs[acc.length] 32 := ⟨_, rfl⟩
      rw [← hqe] at hq
      have HQ := Lib.hid hqe
      have hqT : q < TT.length := by rw [HLT.out]; exact hq
      obtain ⟨tb, rfl, a0, a1, a2, a3⟩ := (HT.out.later HBE.out) q hqT
      have HTQ : Hid (tokB TT[q] = true) := HAL.out _ (List.getElem_mem hqT)
      generalize TT[q] = t at *
      have i1 : (0 : Int) ≤ (q : Int) := by omega
      have i2 : (q : Int) < 32 := by omega
      have i3 : (0 : Int) ≤ (acc.length : Int) := by omega
      have d1 : decide ((acc.length : Int) < (xs.length : Int)) = true := decide_eq_true (by omega)
      have d2 : decide ((acc.length : Int) < 60) = true := decide_eq_true (by omega)
      clear hqe
      go_wp2_with fail
      refine (within_big xs[acc.length] 32 wr ⟨r1, r2⟩ (by omega) (by omega)).mono ?_
      rintro e w2 ⟨rfl, rfl⟩
      rw [show (32 : Int).toNat = 32 from rfl, ← HQ.out]
      go_wp2_with (first | (at_builtin; refine wpList_append_own _ rfl (.tmp 23) (.tmp 34) 23 rfl w1.heap.size 26 i0 _ 4 40 Tryd.underlying23 hi hz0 hz1 hz2 rfl (by decide) _ acc.length (tokCells acc) rfl (HO.out.alloc _) ⟨wr.heap.size, 0, none⟩ 1 1 [.int .i64 (t.kind : Int), .string ⟨t.text.toArray⟩, .int .i64 (t.num : Int), .int .i64 (t.pos : Int)] rfl rfl (news_four wr wr.heap.size rfl _ _ _ _ _) (one_four t) (by unfold maxLen; omega) (by omega) (by have := HBE.out.size; simp; omega) ?_))
      intro v' w5 hown' hgrow _
      have hbel5 := grown_one HO.out HBE.out (Below.refl _ _) hgrow
      have HO' := Lib.hid hown'
      have HBE' := Lib.hid hbel5
      clear hown' hgrow hbel5
      go_wp2_with fail
      go_roundw
      case rel =>
        refine ⟨acc.length + 1, by omega, by omega, by go_num, ⟨acc ++ [t], by simp, ?_, ?_, HBE'.out⟩⟩
        · have := HO'.out
          rw [List.length_append, tokCells_snoc]
          exact this
        · intro t' ht'
          rcases List.mem_append.1 ht' with h | h
          · exact HALL.out t' h
          · rw [List.mem_singleton.1 h]
            exact HTQ.out
      case measure => simp [intOf]; omega
    · by_cases hkx : acc.length < xs.length
      · have d1 : decide ((acc.length : Int) < (xs.length : Int)) = true := decide_eq_true (by omega)
        have d2 : decide ((acc.length : Int) < 60) = false := decide_eq_false (by omega)
        clear hlt
        cases en with
        | true =>
          go_wp2_with (first | (at_builtin; refine wpList_append_own _ rfl (.tmp 37) (.tmp 39) 23 rfl w1.heap.size 26 i0 _ 4 40 Tryd.underlying23 hi hz0 hz1 hz2 rfl (by decide) _ acc.length (tokCells acc) rfl (HO.out.alloc _) ⟨wr.heap.size, 0, none⟩ 1 1 [.int .i64 5, .string ⟨#[]⟩, .int .i64 0, .int .i64 0] rfl rfl (news_four wr wr.heap.size rfl _ _ _ _ _) (one_four ⟨5, [], 0, 0⟩) (by unfold maxLen; omega) (by omega) (by have := HBE.out.size; simp; omega) ?_))
          intro v' w5 hown' hgrow _
          have hbel5 := grown_one HO.out HBE.out (Below.refl _ _) hgrow
          obtain ⟨acd, hacd⟩ : ∃ acd, acd = acc ++ [(⟨5, [], 0, 0⟩ : Tk.Tok)] := ⟨_, rfl⟩
          have HO' : Hid (w5.ownsRow w1.heap.size 26 4 v' acd.length (tokCells acd)) := by
            rw [hacd, List.length_append, tokCells_snoc]
            exact hown'
          have HLE : Hid (acd.length ≤ 61) := by rw [hacd]; show _ ≤ _; simp; omega
          have HALL' : Hid (∀ t ∈ acd, tokB t = true) := by
            intro t' ht'
            rw [hacd] at ht'
            rcases List.mem_append.1 ht' with h | h
            · exact HALL.out t' h
            · rw [List.mem_singleton.1 h]
              decide
          have HBE' := Lib.hid hbel5
          clear hown' hgrow hbel5 hacd
          obtain ⟨sz, sk, rfl⟩ := owns_form HO'.out
          cases raw with
          | true =>
            go_wp2_with fail
            refine (tk_same acd at_ sz sk w5 w1.heap.size HO'.out (by have := HLE.out; omega) HALL'.out (HS.out.later (below_rev' HBE'.out HB1.out)) HAT.out).mono ?_
            rintro e w6 ⟨rfl, hb6⟩
            have HB6 := Lib.hid (below_rev' hb6 (below_rev' HBE'.out HB1.out))
            clear hb6
            go_wp2_with fail
            refine (awake_any _ (HS.out.later HB6.out)).mono ?_
            rintro e w7 ⟨rfl, hb7⟩
            have HB7 := Lib.hid (below_rev' hb7 HB6.out)
            clear hb7
            go_wp2_with fail
            go_ret
            exact ⟨rfl, HB7.out⟩
          | false =>
            go_wp2_with fail
            refine (within_big at_ 10 w5 HAT.out (by omega) (by omega)).mono ?_
            rintro e w' ⟨rfl, rfl⟩
            rw [show (10 : Int).toNat = 10 from rfl]
            have hw10 := within_lt at_ 10 (by omega)
            generalize within at_ 10 = q at *
            go_wp2_with fail
            refine (tk_same acd (q : Int) sz sk w5 w1.heap.size HO'.out (by have := HLE.out; omega) HALL'.out (HS.out.later (below_rev' HBE'.out HB1.out)) (by omega)).mono ?_
            rintro e w6 ⟨rfl, hb6⟩
            have HB6 := Lib.hid (below_rev' hb6 (below_rev' HBE'.out HB1.out))
            clear hb6
            go_wp2_with fail
            refine (awake_any _ (HS.out.later HB6.out)).mono ?_
            rintro e w7 ⟨rfl, hb7⟩
            have HB7 := Lib.hid (below_rev' hb7 HB6.out)
            clear hb7
            go_wp2_with fail
            go_ret
            exact ⟨rfl, HB7.out⟩
        | false =>
          have HLE : Hid (acc.length ≤ 61) := by show _ ≤ _; omega
          clear HR
          obtain ⟨sz, hsz⟩ : ∃ sz, sz = sa := ⟨_, rfl⟩
          subst hsz
          obtain ⟨sk, hsk⟩ : ∃ sk, sk = sc := ⟨_, rfl⟩
          subst hsk
          cases raw with
          | true =>
            go_wp2_with fail
            refine (tk_same acc at_ sz sk wr w1.heap.size HO.out (by have := HLE.out; omega) HALL.out (HS.out.later (below_rev' HBE.out HB1.out)) HAT.out).mono ?_
            rintro e w6 ⟨rfl, hb6⟩
            have HB6 := Lib.hid (below_rev' hb6 (below_rev' HBE.out HB1.out))
            clear hb6
            go_wp2_with fail
            refine (awake_any _ (HS.out.later HB6.out)).mono ?_
            rintro e w7 ⟨rfl, hb7⟩
            have HB7 := Lib.hid (below_rev' hb7 HB6.out)
            clear hb7
            go_wp2_with fail
            go_ret
            exact ⟨rfl, HB7.out⟩
          | false =>
            go_wp2_with fail
            refine (within_big at_ 10 wr HAT.out (by omega) (by omega)).mono ?_
            rintro e w' ⟨rfl, rfl⟩
            rw [show (10 : Int).toNat = 10 from rfl]
            have hw10 := within_lt at_ 10 (by omega)
            generalize within at_ 10 = q at *
            go_wp2_with fail
            refine (tk_same acc (q : Int) sz sk wr w1.heap.size HO.out (by have := HLE.out; omega) HALL.out (HS.out.later (below_rev' HBE.out HB1.out)) (by omega)).mono ?_
            rintro e w6 ⟨rfl, hb6⟩
            have HB6 := Lib.hid (below_rev' hb6 (below_rev' HBE.out HB1.out))
            clear hb6
            go_wp2_with fail
            refine (awake_any _ (HS.out.later HB6.out)).mono ?_
            rintro e w7 ⟨rfl, hb7⟩
            have HB7 := Lib.hid (below_rev' hb7 HB6.out)
            clear hb7
            go_wp2_with fail
            go_ret
            exact ⟨rfl, HB7.out⟩
      · have d1 : decide ((acc.length : Int) < (xs.length : Int)) = false := decide_eq_false (by omega)
        clear hlt
        cases en with
        | true =>
          go_wp2_with (first | (at_builtin; refine wpList_append_own _ rfl (.tmp 37) (.tmp 39) 23 rfl w1.heap.size 26 i0 _ 4 40 Tryd.underlying23 hi hz0 hz1 hz2 rfl (by decide) _ acc.length (tokCells acc) rfl (HO.out.alloc _) ⟨wr.heap.size, 0, none⟩ 1 1 [.int .i64 5, .string ⟨#[]⟩, .int .i64 0, .int .i64 0] rfl rfl (news_four wr wr.heap.size rfl _ _ _ _ _) (one_four ⟨5, [], 0, 0⟩) (by unfold maxLen; omega) (by omega) (by have := HBE.out.size; simp; omega) ?_))
          intro v' w5 hown' hgrow _
          have hbel5 := grown_one HO.out HBE.out (Below.refl _ _) hgrow
          obtain ⟨acd, hacd⟩ : ∃ acd, acd = acc ++ [(⟨5, [], 0, 0⟩ : Tk.Tok)] := ⟨_, rfl⟩
          have HO' : Hid (w5.ownsRow w1.heap.size 26 4 v' acd.length (tokCells acd)) := by
            rw [hacd, List.length_append, tokCells_snoc]
            exact hown'
          have HLE : Hid (acd.length ≤ 61) := by rw [hacd]; show _ ≤ _; simp; omega
          have HALL' : Hid (∀ t ∈ acd, tokB t = true) := by
            intro t' ht'
            rw [hacd] at ht'
            rcases List.mem_append.1 ht' with h | h
            · exact HALL.out t' h
            · rw [List.mem_singleton.1 h]
              decide
          have HBE' := Lib.hid hbel5
          clear hown' hgrow hbel5 hacd
          obtain ⟨sz, sk, rfl⟩ := owns_form HO'.out
          cases raw with
          | true =>
            go_wp2_with fail
            refine (tk_same acd at_ sz sk w5 w1.heap.size HO'.out (by have := HLE.out; omega) HALL'.out (HS.out.later (below_rev' HBE'.out HB1.out)) HAT.out).mono ?_
            rintro e w6 ⟨rfl, hb6⟩
            have HB6 := Lib.hid (below_rev' hb6 (below_rev' HBE'.out HB1.out))
            clear hb6
            go_wp2_with fail
            refine (awake_any _ (HS.out.later HB6.out)).mono ?_
            rintro e w7 ⟨rfl, hb7⟩
            have HB7 := Lib.hid (below_rev' hb7 HB6.out)
            clear hb7
            go_wp2_with fail
            go_ret
            exact ⟨rfl, HB7.out⟩
          | false =>
            go_wp2_with fail
            refine (within_big at_ 10 w5 HAT.out (by omega) (by omega)).mono ?_
            rintro e w' ⟨rfl, rfl⟩
            rw [show (10 : Int).toNat = 10 from rfl]
            have hw10 := within_lt at_ 10 (by omega)
            generalize within at_ 10 = q at *
            go_wp2_with fail
            refine (tk_same acd (q : Int) sz sk w5 w1.heap.size HO'.out (by have := HLE.out; omega) HALL'.out (HS.out.later (below_rev' HBE'.out HB1.out)) (by omega)).mono ?_
            rintro e w6 ⟨rfl, hb6⟩
            have HB6 := Lib.hid (below_rev' hb6 (below_rev' HBE'.out HB1.out))
            clear hb6
            go_wp2_with fail
            refine (awake_any _ (HS.out.later HB6.out)).mono ?_
            rintro e w7 ⟨rfl, hb7⟩
            have HB7 := Lib.hid (below_rev' hb7 HB6.out)
            clear hb7
            go_wp2_with fail
            go_ret
            exact ⟨rfl, HB7.out⟩
        | false =>
          have HLE : Hid (acc.length ≤ 61) := by show _ ≤ _; omega
          clear HR
          obtain ⟨sz, hsz⟩ : ∃ sz, sz = sa := ⟨_, rfl⟩
          subst hsz
          obtain ⟨sk, hsk⟩ : ∃ sk, sk = sc := ⟨_, rfl⟩
          subst hsk
          cases raw with
          | true =>
            go_wp2_with fail
            refine (tk_same acc at_ sz sk wr w1.heap.size HO.out (by have := HLE.out; omega) HALL.out (HS.out.later (below_rev' HBE.out HB1.out)) HAT.out).mono ?_
            rintro e w6 ⟨rfl, hb6⟩
            have HB6 := Lib.hid (below_rev' hb6 (below_rev' HBE.out HB1.out))
            clear hb6
            go_wp2_with fail
            refine (awake_any _ (HS.out.later HB6.out)).mono ?_
            rintro e w7 ⟨rfl, hb7⟩
            have HB7 := Lib.hid (below_rev' hb7 HB6.out)
            clear hb7
            go_wp2_with fail
            go_ret
            exact ⟨rfl, HB7.out⟩
          | false =>
            go_wp2_with fail
            refine (within_big at_ 10 wr HAT.out (by omega) (by omega)).mono ?_
            rintro e w' ⟨rfl, rfl⟩
            rw [show (10 : Int).toNat = 10 from rfl]
            have hw10 := within_lt at_ 10 (by omega)
            generalize within at_ 10 = q at *
            go_wp2_with fail
            refine (tk_same acc (q : Int) sz sk wr w1.heap.size HO.out (by have := HLE.out; omega) HALL.out (HS.out.later (below_rev' HBE.out HB1.out)) (by omega)).mono ?_
            rintro e w6 ⟨rfl, hb6⟩
            have HB6 := Lib.hid (below_rev' hb6 (below_rev' HBE.out HB1.out))
            clear hb6
            go_wp2_with fail
            refine (awake_any _ (HS.out.later HB6.out)).mono ?_
            rintro e w7 ⟨rfl, hb7⟩
            have HB7 := Lib.hid (below_rev' hb7 HB6.out)
            clear hb7
            go_wp2_with fail
            go_ret
            exact ⟨rfl, HB7.out⟩
end Go.Proofs.YtbaenhcmkigfcaaDoor
