/- Plain functions on lists of bytes that say what tokens a text has. No statement of the program is proved in this file. What the small functions of package token do: isLetter, isDigit, Reserved, isSign. What lineEnd and skip of package token return, for a slice of bytes that can be read. What the small functions of the reference do: has, Reserved, letter, digit, and Within of the made inputs. What scanName of package token returns. What scanNumber of package token returns. What scanSign of package token returns. What scan of package token returns. What Lex of package token returns for every slice of bytes that can be read: the tokens or the error of the plain function Tk.lex. A slice that holds tokens, and small lemmas. No statement of the program is proved in this file. -/
import Derived.Test.YtjjooekkieddbaaDoorRows
import Derived.WalkKit
import Derived.WalkSpells
import Derived.WalkLawsBesides
import Derived.Lib.Hide
import Derived.Deep.QuietTactic
import Derived.BigQuiet
namespace Go.Proofs.YtjjooekkieddbaaDoor
namespace Tk

def isLet (c : UInt8) : Bool := (97 ≤ c.toNat && c.toNat ≤ 122) || (65 ≤ c.toNat && c.toNat ≤ 90) || c.toNat == 95
def isDig (c : UInt8) : Bool := 48 ≤ c.toNat && c.toNat ≤ 57
def isLD (c : UInt8) : Bool := isLet c || isDig c
def isSpc (c : UInt8) : Bool := c.toNat == 32 || c.toNat == 9 || c.toNat == 13 || c.toNat == 10

def words : List (List UInt8) := [[118, 97, 114], [109, 117, 116, 101, 120], [114, 109, 117, 116, 101, 120], [102, 117, 110, 99], [108, 111, 99, 107], [117, 110, 108, 111, 99, 107], [103, 111], [105, 102], [101, 108, 115, 101], [119, 104, 105, 108, 101], [114, 101, 116, 117, 114, 110]]
def resv (s : List UInt8) : Bool := words.contains s
def signs2 : List (List UInt8) := [[60, 61], [62, 61], [61, 61], [33, 61], [38, 38], [124, 124]]
def signs1 : List (List UInt8) := [[40], [41], [123], [125], [91], [93], [44], [59], [61], [43], [45], [42], [47], [37], [60], [62], [33]]
def isSg (s : List UInt8) : Bool := signs2.contains s || signs1.contains s

/-- how many bytes up to the next line feed, or to the end -/
def lineLen : List UInt8 → Nat
  | [] => 0
  | c :: r => if c.toNat = 10 then 0 else lineLen r + 1

/-- how many bytes separate: in a comment (true) or outside (false) -/
def sepLen : Bool → List UInt8 → Nat
  | _, [] => 0
  | true, c :: r => if c.toNat = 10 then sepLen false r + 1 else sepLen true r + 1
  | false, c :: r => if isSpc c then sepLen false r + 1 else if c.toNat = 47 ∧ (r.head?.map UInt8.toNat) = some 47 then sepLen true r + 1 else 0

def skipTo (b : List UInt8) (at_ : Nat) : Nat := at_ + sepLen false (b.drop at_)

/-- the value of digits that follow a value; none: it is too great -/
def numVal : Nat → List UInt8 → Option Nat
  | n, [] => some n
  | n, c :: r => if n > (9223372036854775807 - (c.toNat - 48)) / 10 then none else numVal (10 * n + (c.toNat - 48)) r

structure Tok where
  kind : Nat
  text : List UInt8
  num : Nat
  pos : Nat
deriving DecidableEq

/-- the token at a place, or an error -/
def nameAt (b : List UInt8) (at_ : Nat) : Except Nat Tok :=
  let t := (b.drop at_).takeWhile isLD
  if t.length > 16 then .error 3 else .ok ⟨if resv t then 3 else 1, t, 0, at_⟩
def numAt (b : List UInt8) (at_ : Nat) : Except Nat Tok :=
  let t := (b.drop at_).takeWhile isDig
  match numVal 0 t with
  | none => .error 2
  | some n => .ok ⟨2, t, n, at_⟩
def signAt (b : List UInt8) (at_ : Nat) : Except Nat Tok :=
  if at_ + 2 ≤ b.length ∧ signs2.contains ((b.drop at_).take 2) then .ok ⟨4, (b.drop at_).take 2, 0, at_⟩
  else if signs1.contains ((b.drop at_).take 1) then .ok ⟨4, (b.drop at_).take 1, 0, at_⟩
  else .error 1
def tokAt (b : List UInt8) (at_ : Nat) : Except Nat Tok :=
  if isLet (b.getD at_ 0) then nameAt b at_ else if isDig (b.getD at_ 0) then numAt b at_ else signAt b at_

def lexGo : Nat → List UInt8 → Nat → List Tok → List Tok × Nat × Nat
  | 0, _, _, _ => ([], 0, 0)
  | f + 1, b, at_, acc =>
    if b.length ≤ at_ then (acc ++ [⟨5, [], 0, b.length⟩], b.length, 0)
    else match tokAt b at_ with
      | .error e => ([], at_, e)
      | .ok t => if acc.length = 4000 then ([], at_, 3) else lexGo f b (skipTo b (at_ + t.text.length)) (acc ++ [t])
def lex (b : List UInt8) : List Tok × Nat × Nat :=
  if b.length > 262144 then ([], 262144, 3) else lexGo (b.length + 1) b (skipTo b 0) []

theorem lineLen_le (l : List UInt8) : lineLen l ≤ l.length := by
  induction l with
  | nil => simp [lineLen]
  | cons c r ih => unfold lineLen; split <;> simp <;> omega
theorem sepLen_le (q : Bool) (l : List UInt8) : sepLen q l ≤ l.length := by
  induction l generalizing q with
  | nil => cases q <;> simp [sepLen]
  | cons c r ih =>
    have h1 := ih true
    have h2 := ih false
    cases q <;> unfold sepLen
    · split
      · simp; omega
      · split
        · simp; omega
        · simp
    · split <;> simp <;> omega
theorem sepLen_t (c : UInt8) (r : List UInt8) : sepLen true (c :: r) = if c.toNat = 10 then sepLen false r + 1 else sepLen true r + 1 := rfl
theorem sepLen_f (c : UInt8) (r : List UInt8) : sepLen false (c :: r) = if isSpc c then sepLen false r + 1 else if c.toNat = 47 ∧ (r.head?.map UInt8.toNat) = some 47 then sepLen true r + 1 else 0 := rfl
theorem lineLen_c (c : UInt8) (r : List UInt8) : lineLen (c :: r) = if c.toNat = 10 then 0 else lineLen r + 1 := rfl
theorem sepLen_comment (l : List UInt8) : sepLen true l = lineLen l + sepLen false (l.drop (lineLen l)) := by
  induction l with
  | nil => rfl
  | cons c r ih =>
    by_cases h : c.toNat = 10
    · simp [sepLen_t, sepLen_f, lineLen_c, isSpc, h]
    · simp only [sepLen_t, lineLen_c, h, if_false, List.drop_succ_cons, ih]
      omega
theorem sepLen_slashes (c d : UInt8) (r : List UInt8) (hc : c.toNat = 47) (hd : d.toNat = 47) :
    sepLen false (c :: d :: r) = lineLen (c :: d :: r) + sepLen false ((c :: d :: r).drop (lineLen (c :: d :: r))) := by
  have h : sepLen false (c :: d :: r) = sepLen true (c :: d :: r) := by
    simp [sepLen_t, sepLen_f, isSpc, hc, hd]
  rw [h, sepLen_comment]
theorem skipTo_le (b : List UInt8) (k : Nat) (h : k ≤ b.length) : skipTo b k ≤ b.length := by
  have := sepLen_le false (b.drop k)
  unfold skipTo
  simp at this
  omega

end Tk
end Go.Proofs.YtjjooekkieddbaaDoor

namespace Go.Proofs.YtjjooekkieddbaaDoor
open Go.RowKit

theorem ret_bool {a b : Bool} (h : a = b) : Ending.returned (.bool a) = .returned (.bool b) := by rw [h]
theorem ret_int {k : IntKind} {a b : Int} (h : a = b) : Ending.returned (.int k a) = .returned (.int k b) := by rw [h]

set_option maxHeartbeats 400000 in
theorem isLetter_any (c : UInt8) (w : World) :
    Calls Tryd.prog 85 #[.int .u8 (c.toNat : Int)] w fun e w' => e = .returned (.bool (Tk.isLet c)) ∧ w = w' := by
  go_enter Tryd.func85, Tryd.ntmps85
  go_wp2
  all_goals
    go_ret
    refine ⟨ret_bool ?_, rfl⟩
    rw [Bool.eq_iff_iff]
    simp [Tk.isLet]
    omega

set_option maxHeartbeats 400000 in
theorem isDigit_any (c : UInt8) (w : World) :
    Calls Tryd.prog 87 #[.int .u8 (c.toNat : Int)] w fun e w' => e = .returned (.bool (Tk.isDig c)) ∧ w = w' := by
  go_enter Tryd.func87, Tryd.ntmps87
  go_wp2
  all_goals
    go_ret
    refine ⟨ret_bool ?_, rfl⟩
    rw [Bool.eq_iff_iff]
    simp [Tk.isDig]
    omega

set_option maxHeartbeats 400000 in
theorem reserved_any (s : List UInt8) (w : World) :
    Calls Tryd.prog 90 #[.string ⟨s.toArray⟩] w fun e w' => e = .returned (.bool (Tk.resv s)) ∧ w = w' := by
  go_enter Tryd.func90, Tryd.ntmps90
  go_wp2
  all_goals
    go_ret
    refine ⟨ret_bool ?_, rfl⟩
    simp_all [Tk.resv, Tk.words]

set_option maxHeartbeats 800000 in
theorem isSign_any (s : List UInt8) (w : World) :
    Calls Tryd.prog 112 #[.string ⟨s.toArray⟩] w fun e w' => e = .returned (.bool (Tk.isSg s)) ∧ w = w' := by
  go_enter Tryd.func112, Tryd.ntmps112
  go_wp2
  all_goals
    go_ret
    refine ⟨ret_bool ?_, rfl⟩
    simp_all [Tk.isSg, Tk.signs1, Tk.signs2]

end Go.Proofs.YtjjooekkieddbaaDoor

namespace Go.Proofs.YtjjooekkieddbaaDoor
open Go.RowKit

/-- the slice at ao holds the bytes l -/
def Byt (w : World) (ao : Option Addr) (l : List UInt8) : Prop :=
  ∀ i (h : i < l.length), ∃ b off, ao = some ⟨b, off, none⟩ ∧ w.cell? ⟨b, off + i, none⟩ = some (.int .u8 (l[i].toNat : Int))

theorem Byt.later {w w' : World} {ao : Option Addr} {l : List UInt8} (h : Byt w ao l) (hb : Below w.heap.size w w') : Byt w' ao l := by
  intro i hi
  obtain ⟨b, off, e, hc⟩ := h i hi
  exact ⟨b, off, e, cell_later hb hc⟩

theorem lineLen_at (l : List UInt8) (m : Nat) (h : m < l.length) : Tk.lineLen (l.drop m) = if l[m].toNat = 10 then 0 else Tk.lineLen (l.drop (m + 1)) + 1 := by
  rw [List.drop_eq_getElem_cons h, Tk.lineLen_c]

set_option maxHeartbeats 400000 in
theorem lineEnd_any (l : List UInt8) (ao : Option Addr) (cap k : Nat) (w : World) (hB : Byt w ao l) (hk : k ≤ l.length) (hl : l.length ≤ 1000000) :
    Calls Tryd.prog 84 #[.slice ao l.length cap, .int .i64 (k : Int)] w fun e w' => e = .returned (.int .i64 ((k + Tk.lineLen (l.drop k) : Nat) : Int)) ∧ w = w' := by
  have HB := Lib.hid hB
  clear hB
  go_enter Tryd.func84, Tryd.ntmps84
  go_wp2
  go_loop [1] (fun i => ∃ m : Nat, m ≤ l.length ∧ i = .int .i64 m ∧ Hid (m + Tk.lineLen (l.drop m) = k + Tk.lineLen (l.drop k))) (fun i => l.length - (intOf i).toNat)
  case atStart => exact ⟨k, hk, rfl, rfl⟩
  case round =>
    obtain ⟨m, hm, rfl, hrel⟩ := hrel
    by_cases hlt : m < l.length
    · obtain ⟨b, off, rfl, hc⟩ := HB.out m hlt
      have hs := Lib.hid (lineLen_at l m hlt)
      by_cases h10 : l[m].toNat = 10
      · have h1 : ((l[m].toNat : Int) != 10) = false := by simp [h10]
        have H10 := Lib.hid h10
        clear h10
        go_wp2
        go_ret
        refine ⟨ret_int ?_, rfl⟩
        have := hs.out
        rw [if_pos H10.out] at this
        have := hrel.out
        omega
      · have h1 : ((l[m].toNat : Int) != 10) = true := by simp [bne_iff_ne]; omega
        have H10 := Lib.hid h10
        clear h10
        go_wp2
        go_round
        case rel =>
          refine ⟨m + 1, by omega, by go_num, ?_⟩
          have h2 := hs.out
          rw [if_neg H10.out] at h2
          have h3 := hrel.out
          show _ = _
          omega
        case measure => simp [intOf]; omega
    · go_wp2
      go_ret
      refine ⟨ret_int ?_, rfl⟩
      have h3 := hrel.out
      have : l.drop m = [] := List.drop_eq_nil_of_le (by omega)
      rw [this] at h3
      simp [Tk.lineLen] at h3
      omega

theorem bT {a b : Int} (h : a = b) : (a == b) = true := beq_iff_eq.2 h
theorem bF {a b : Int} (h : a ≠ b) : (a == b) = false := beq_eq_false_iff_ne.2 h
theorem nT {a b : Int} (h : a ≠ b) : (a != b) = true := bne_iff_ne.2 h
theorem nF {a b : Int} (h : a = b) : (a != b) = false := by simp [h]

theorem skip_space (l : List UInt8) (m : Nat) (h : m < l.length) (hs : l[m].toNat = 32 ∨ l[m].toNat = 9 ∨ l[m].toNat = 13 ∨ l[m].toNat = 10) : Tk.skipTo l m = Tk.skipTo l (m + 1) := by
  have hh : Tk.isSpc l[m] = true := by simp [Tk.isSpc]; omega
  unfold Tk.skipTo
  rw [List.drop_eq_getElem_cons h, Tk.sepLen_f, if_pos hh]
  omega
theorem skip_comment (l : List UInt8) (m : Nat) (h : m < l.length) (h' : m + 1 < l.length) (h1 : l[m].toNat = 47) (h2 : l[m + 1].toNat = 47) : Tk.skipTo l m = Tk.skipTo l (m + Tk.lineLen (l.drop m)) := by
  unfold Tk.skipTo
  have e : l.drop m = l[m] :: l[m + 1] :: l.drop (m + 2) := by rw [List.drop_eq_getElem_cons h, List.drop_eq_getElem_cons h']
  have := Tk.sepLen_slashes l[m] l[m + 1] (l.drop (m + 2)) h1 h2
  rw [← e, List.drop_drop] at this
  omega
theorem skip_stop (l : List UInt8) (m : Nat) (h : m < l.length) (hs : l[m].toNat ≠ 32 ∧ l[m].toNat ≠ 9 ∧ l[m].toNat ≠ 13 ∧ l[m].toNat ≠ 10) (hc : l[m].toNat = 47 → (h' : m + 1 < l.length) → l[m + 1].toNat ≠ 47) : Tk.skipTo l m = m := by
  have hh : Tk.isSpc l[m] = false := by simp [Tk.isSpc]; omega
  unfold Tk.skipTo
  rw [List.drop_eq_getElem_cons h, Tk.sepLen_f, if_neg (by simp [hh]), if_neg (c := _ ∧ _)]
  · rfl
  rintro ⟨h1, h2⟩
  by_cases h' : m + 1 < l.length
  · rw [List.drop_eq_getElem_cons h'] at h2
    simp only [List.head?_cons, Option.map_some, Option.some.injEq] at h2
    exact hc h1 h' h2
  · rw [List.drop_eq_nil_of_le (by omega)] at h2
    simp at h2
theorem skip_end (l : List UInt8) (m : Nat) (h : l.length ≤ m) : Tk.skipTo l m = m := by
  unfold Tk.skipTo
  rw [List.drop_eq_nil_of_le h]
  rfl
theorem lineLen_pos (l : List UInt8) (m : Nat) (h : m < l.length) (h1 : l[m].toNat ≠ 10) : 0 < Tk.lineLen (l.drop m) := by
  rw [lineLen_at l m h, if_neg h1]
  omega
theorem lineLen_drop (l : List UInt8) (m : Nat) (h : m ≤ l.length) : m + Tk.lineLen (l.drop m) ≤ l.length := by
  have := Tk.lineLen_le (l.drop m)
  simp at this
  omega

set_option maxHeartbeats 1000000 in
theorem skip_any (l : List UInt8) (ao : Option Addr) (cap : Nat) (at_ : Int) (w : World) (hB : Byt w ao l) (h0 : 0 ≤ at_) (hk : at_ ≤ l.length) (hl : l.length ≤ 1000000) :
    Calls Tryd.prog 56 #[.slice ao l.length cap, .int .i64 at_] w fun e w' => e = .returned (.int .i64 (Tk.skipTo l at_.toNat : Int)) ∧ w = w' := by
  obtain ⟨k, rfl⟩ := Int.eq_ofNat_of_zero_le h0
  have HB := Lib.hid hB
  clear hB
  go_enter Tryd.func56, Tryd.ntmps56
  go_wp2
  go_step3
  go_wp2
  go_step3
  go_wp2
  go_loop [1] (fun i => ∃ m : Nat, m ≤ l.length ∧ i = .int .i64 m ∧ Hid (Tk.skipTo l m = Tk.skipTo l (k : Int).toNat)) (fun i => l.length - (intOf i).toNat)
  case atStart => exact ⟨k, by omega, rfl, rfl⟩
  case round =>
    obtain ⟨m, hm, rfl, hrel⟩ := hrel
    by_cases hlt : m < l.length
    · obtain ⟨b, off, rfl, hc⟩ := HB.out m hlt
      have HS := Lib.hid (skip_space l m hlt)
      have HQ := Lib.hid (skip_stop l m hlt)
      by_cases c32 : l[m].toNat = 32
      · have t32 := bT (show ((l[m].toNat : Nat) : Int) = 32 by omega)
        have C := Lib.hid c32
        clear c32
        go_wp2
        go_round
        case rel => exact ⟨m + 1, by omega, by go_num, ((HS.out (by have := C.out; omega)).symm.trans hrel.out : _ = _)⟩
        case measure => simp [intOf]; omega
      by_cases c9 : l[m].toNat = 9
      · have t32 := bF (show ((l[m].toNat : Nat) : Int) ≠ 32 by omega)
        have t9 := bT (show ((l[m].toNat : Nat) : Int) = 9 by omega)
        have C := Lib.hid c9
        clear c9
        go_wp2
        go_round
        case rel => exact ⟨m + 1, by omega, by go_num, ((HS.out (by have := C.out; omega)).symm.trans hrel.out : _ = _)⟩
        case measure => simp [intOf]; omega
      by_cases c13 : l[m].toNat = 13
      · have t32 := bF (show ((l[m].toNat : Nat) : Int) ≠ 32 by omega)
        have t9 := bF (show ((l[m].toNat : Nat) : Int) ≠ 9 by omega)
        have t13 := bT (show ((l[m].toNat : Nat) : Int) = 13 by omega)
        have C := Lib.hid c13
        clear c13
        go_wp2
        go_round
        case rel => exact ⟨m + 1, by omega, by go_num, ((HS.out (by have := C.out; omega)).symm.trans hrel.out : _ = _)⟩
        case measure => simp [intOf]; omega
      by_cases c10 : l[m].toNat = 10
      · have t32 := bF (show ((l[m].toNat : Nat) : Int) ≠ 32 by omega)
        have t9 := bF (show ((l[m].toNat : Nat) : Int) ≠ 9 by omega)
        have t13 := bF (show ((l[m].toNat : Nat) : Int) ≠ 13 by omega)
        have t10 := bT (show ((l[m].toNat : Nat) : Int) = 10 by omega)
        have C := Lib.hid c10
        clear c10
        go_wp2
        go_round
        case rel => exact ⟨m + 1, by omega, by go_num, ((HS.out (by have := C.out; omega)).symm.trans hrel.out : _ = _)⟩
        case measure => simp [intOf]; omega
      by_cases c47 : l[m].toNat = 47
      · have t32 := bF (show ((l[m].toNat : Nat) : Int) ≠ 32 by omega)
        have t9 := bF (show ((l[m].toNat : Nat) : Int) ≠ 9 by omega)
        have t13 := bF (show ((l[m].toNat : Nat) : Int) ≠ 13 by omega)
        have t10 := bF (show ((l[m].toNat : Nat) : Int) ≠ 10 by omega)
        have t47 := bT (show ((l[m].toNat : Nat) : Int) = 47 by omega)
        by_cases hn : m + 1 = l.length
        · have n1 := bT (show ((m : Int) + 1) = (l.length : Int) by omega)
          have C := Lib.hid c47
          have CN := Lib.hid hn
          have CM := Lib.hid (And.intro c32 (And.intro c9 (And.intro c13 c10)))
          clear c47 hn c32 c9 c13 c10
          go_wp2
          go_ret
          exact ⟨ret_int (by rw [← hrel.out, HQ.out CM.out (fun _ h' => absurd CN.out (by omega))]), rfl⟩
        · have n1 := bF (show ((m : Int) + 1) ≠ (l.length : Int) by omega)
          have hm1 : m + 1 < l.length := by omega
          obtain ⟨b', off', hao, hc'⟩ := HB.out (m + 1) hm1
          injection hao with hao
          injection hao with e1 e2
          subst e1 e2
          have CM := Lib.hid (And.intro c32 (And.intro c9 (And.intro c13 c10)))
          have C := Lib.hid c47
          by_cases d47 : l[m + 1].toNat = 47
          · have n2 := nF (show ((l[m + 1].toNat : Nat) : Int) = 47 by omega)
            have HK := Lib.hid (skip_comment l m hlt hm1 c47 d47)
            have hp := lineLen_pos l m hlt c10
            have hd := lineLen_drop l m hm
            have HB' := HB
            clear c47 hn c32 c9 c13 c10 d47
            go_wp2_with (go_at_call 84; refine (lineEnd_any l _ cap m w HB'.out hm hl).mono ?_; rintro e w' ⟨rfl, rfl⟩)
            go_round
            case rel => exact ⟨m + Tk.lineLen (l.drop m), hd, rfl, (HK.out.symm.trans hrel.out : _ = _)⟩
            case measure => simp [intOf]; omega
          · have n2 := nT (show ((l[m + 1].toNat : Nat) : Int) ≠ 47 by omega)
            have D := Lib.hid d47
            clear c47 hn c32 c9 c13 c10 d47
            go_wp2
            go_ret
            exact ⟨ret_int (by rw [← hrel.out, HQ.out CM.out (fun _ _ => D.out)]), rfl⟩
      · have t32 := bF (show ((l[m].toNat : Nat) : Int) ≠ 32 by omega)
        have t9 := bF (show ((l[m].toNat : Nat) : Int) ≠ 9 by omega)
        have t13 := bF (show ((l[m].toNat : Nat) : Int) ≠ 13 by omega)
        have t10 := bF (show ((l[m].toNat : Nat) : Int) ≠ 10 by omega)
        have t47 := bF (show ((l[m].toNat : Nat) : Int) ≠ 47 by omega)
        have CM := Lib.hid (And.intro c32 (And.intro c9 (And.intro c13 c10)))
        have C := Lib.hid c47
        clear c47 c32 c9 c13 c10
        go_wp2
        go_ret
        exact ⟨ret_int (by rw [← hrel.out, HQ.out CM.out (fun h => absurd h C.out)]), rfl⟩
    · have hlt' : l.length ≤ m := by omega
      have HE := Lib.hid (skip_end l m hlt')
      go_wp2
      go_ret
      exact ⟨ret_int (by rw [← hrel.out, HE.out]), rfl⟩

end Go.Proofs.YtjjooekkieddbaaDoor

namespace Go.Proofs.YtjjooekkieddbaaDoor
open Go.RowKit

/-- the slice at A holds the strings xs -/
def StrS (w : World) (A : Option Addr) (xs : List (List UInt8)) : Prop :=
  ∀ i (h : i < xs.length), ∃ b off, A = some ⟨b, off, none⟩ ∧ w.cell? ⟨b, off + i, none⟩ = some (.string ⟨xs[i].toArray⟩)

def hasB (xs : List (List UInt8)) (s : List UInt8) : Bool := xs.contains s

theorem not_in_take (xs : List (List UInt8)) (s : List UInt8) (m : Nat) (h : m < xs.length) (h0 : hasB (xs.take m) s = false) (h1 : (xs[m] == s) = false) : hasB (xs.take (m + 1)) s = false := by
  unfold hasB at *
  rw [List.take_succ_eq_append_getElem h, List.contains_eq_mem] 
  rw [List.contains_eq_mem] at h0
  simp only [decide_eq_false_iff_not, List.mem_append, List.mem_singleton, not_or] at h0 ⊢
  exact ⟨h0, fun e => by simp [e] at h1⟩
theorem in_at (xs : List (List UInt8)) (s : List UInt8) (m : Nat) (h : m < xs.length) (h1 : (xs[m] == s) = true) : hasB xs s = true := by
  unfold hasB
  simp at h1 ⊢
  rw [← h1]
  exact List.getElem_mem h

set_option maxHeartbeats 400000 in
theorem has_any (xs : List (List UInt8)) (s : List UInt8) (A : Option Addr) (cap : Nat) (w : World) (hS : StrS w A xs) (hn : xs.length ≤ 1000000) :
    Calls Tryd.prog 99 #[.slice A xs.length cap, .string ⟨s.toArray⟩] w fun e w' => e = .returned (.bool (hasB xs s)) ∧ w = w' := by
  have HS := Lib.hid hS
  clear hS
  go_enter Tryd.func99, Tryd.ntmps99
  go_wp2
  go_loop [5] (fun i => ∃ m : Nat, m ≤ xs.length ∧ i = .int .i64 m ∧ Hid (hasB (xs.take m) s = false)) (fun i => xs.length - (intOf i).toNat)
  case atStart => exact ⟨0, by omega, rfl, rfl⟩
  case round =>
    obtain ⟨m, hm, rfl, hrel⟩ := hrel
    by_cases hlt : m < xs.length
    · obtain ⟨b, off, rfl, hc⟩ := HS.out m hlt
      by_cases he : (xs[m] == s) = true
      · have HE := Lib.hid (in_at xs s m hlt he)
        go_wp2
        go_ret
        exact ⟨ret_bool HE.out.symm, rfl⟩
      · have he' : (xs[m] == s) = false := by simpa using he
        clear he
        have HE := Lib.hid (not_in_take xs s m hlt hrel.out he')
        go_wp2
        go_round
        case rel => exact ⟨m + 1, by omega, by go_num, HE⟩
        case measure => simp [intOf]; omega
    · have HE : Hid (hasB xs s = false) := by
        have := hrel.out
        rw [List.take_of_length_le (by omega)] at this
        exact this
      go_wp2
      go_ret
      exact ⟨ret_bool HE.out.symm, rfl⟩

def strVals (xs : List (List UInt8)) : Array Value := (xs.map fun s => Value.string ⟨s.toArray⟩).toArray
theorem str_lit (w : World) (xs : List (List UInt8)) (t : TypeId) : StrS (w.alloc (.cells (strVals xs) t)) (some ⟨w.heap.size, 0, none⟩) xs := by
  intro i hi
  refine ⟨_, _, rfl, ?_⟩
  rw [Nat.zero_add, World.cell?_alloc_mark]
  simp [strVals, List.getElem?_eq_getElem hi]

set_option maxHeartbeats 400000 in
theorem refReserved_any (s : List UInt8) (w : World) :
    Calls Tryd.prog 69 #[.string ⟨s.toArray⟩] w fun e w' => e = .returned (.bool (Tk.resv s)) ∧ Below w.heap.size w w' := by
  have HH := Lib.hid (has_any Tk.words s (some ⟨w.heap.size, 0, none⟩) 11 _ (str_lit w Tk.words 9) (by decide))
  go_enter Tryd.func69, Tryd.ntmps69
  go_wp2_with fail
  refine HH.out.mono ?_
  rintro e w' ⟨rfl, rfl⟩
  go_wp2
  go_ret
  exact ⟨rfl, (Below.refl _ _).alloc (Nat.le_refl _) _⟩

set_option maxHeartbeats 400000 in
theorem letter_any (c : UInt8) (w : World) :
    Calls Tryd.prog 67 #[.int .u8 (c.toNat : Int)] w fun e w' => e = .returned (.bool (Tk.isLet c)) ∧ w = w' := by
  go_enter Tryd.func67, Tryd.ntmps67
  go_wp2
  all_goals
    go_ret
    refine ⟨ret_bool ?_, rfl⟩
    rw [Bool.eq_iff_iff]
    simp [Tk.isLet]
    omega

set_option maxHeartbeats 400000 in
theorem digit_any (c : UInt8) (w : World) :
    Calls Tryd.prog 68 #[.int .u8 (c.toNat : Int)] w fun e w' => e = .returned (.bool (Tk.isDig c)) ∧ w = w' := by
  go_enter Tryd.func68, Tryd.ntmps68
  go_wp2
  all_goals
    go_ret
    refine ⟨ret_bool ?_, rfl⟩
    rw [Bool.eq_iff_iff]
    simp [Tk.isDig]
    omega

/-- a number from 0 to n - 1 -/
def within (x : Int) (n : Nat) : Nat := (x % (n : Int)).toNat
theorem within_lt (x : Int) (n : Nat) (h : 0 < n) : within x n < n := by
  unfold within
  have h1 := Int.emod_lt_of_pos x (show (0 : Int) < n by omega)
  omega
theorem within_eq (x n : Int) (h : 0 < n) : (x.tmod n + n) % n = (within x n.toNat : Int) := by
  unfold within
  have h1 := Int.emod_nonneg x (show n ≠ 0 by omega)
  have h2 : x = x.tmod n + n * x.tdiv n := by have := Int.mul_tdiv_add_tmod x n; omega
  have h3 : (n.toNat : Int) = n := by omega
  rw [h3, Int.toNat_of_nonneg h1, Int.add_emod_right]
  conv => rhs; rw [h2]
  rw [Int.add_mul_emod_self_left]
set_option maxHeartbeats 400000 in
theorem within_any (x n : Int) (w : World) (_hx : -9223372036854775808 ≤ x ∧ x ≤ 9223372036854775807) (h0 : 0 < n) (h1 : n ≤ 1000000) :
    Calls Tryd.prog 11 #[.int .i64 x, .int .i64 n] w fun e w' => e = .returned (.int .i64 (within x n.toNat)) ∧ w = w' := by
  have q1 : x.tmod n < n := Int.tmod_lt_of_pos x h0
  have q2 : -n < x.tmod n := Int.lt_tmod_of_pos x h0
  have t0 := bF (show n ≠ 0 by omega)
  go_enter Tryd.func11, Tryd.ntmps11
  go_wp2
  go_ret
  exact ⟨ret_int (within_eq x n h0), rfl⟩

end Go.Proofs.YtjjooekkieddbaaDoor

namespace Go.Proofs.YtjjooekkieddbaaDoor
open Go.RowKit

def tokVal (t : Tk.Tok) : Value := .agg #[.int .i64 (t.kind : Int), .string ⟨t.text.toArray⟩, .int .i64 (t.num : Int), .int .i64 (t.pos : Int)]
def noTok : Value := .agg #[.int .i64 0, .string ⟨#[]⟩, .int .i64 0, .int .i64 0]
def scanVal : Except Nat Tk.Tok → Value
  | .error e => .tuple #[noTok, .int .i64 (e : Int)]
  | .ok t => .tuple #[tokVal t, .int .i64 0]

theorem run_at (p : UInt8 → Bool) (l : List UInt8) (m : Nat) (h : m < l.length) : ((l.drop m).takeWhile p).length = if p l[m] then ((l.drop (m + 1)).takeWhile p).length + 1 else 0 := by
  rw [List.drop_eq_getElem_cons h, List.takeWhile_cons]
  split <;> simp
theorem run_end (p : UInt8 → Bool) (l : List UInt8) (m : Nat) (h : l.length ≤ m) : ((l.drop m).takeWhile p).length = 0 := by
  rw [List.drop_eq_nil_of_le h]; rfl
theorem run_take (p : UInt8 → Bool) (s : List UInt8) (n : Nat) (h : n = (s.takeWhile p).length) : s.take n = s.takeWhile p := by
  subst h
  induction s with
  | nil => rfl
  | cons c r ih =>
    rw [List.takeWhile_cons]
    split
    · simp [ih]
    · rfl

/-- a slice of a slice of bytes becomes a string -/
theorem conv_slice (l : List UInt8) (b off k m cap' : Nat) (w : World) (hB : Byt w (some ⟨b, off, none⟩) l) (hk : k ≤ m) (hm : m ≤ l.length) :
    (convert 31 9 (.slice (some ⟨b, off + k, none⟩) (m - k) cap')).run Tryd.prog w = .ok (.string ⟨((l.drop k).take (m - k)).toArray⟩) w := by
  have hlen : ((l.drop k).take (m - k)).length = m - k := by simp; omega
  have := run_convert_bytes_back (P := Tryd.prog) w 31 9 5 ⟨b, off + k, none⟩ cap' ((l.drop k).take (m - k)) Tryd.underlying31 Tryd.underlying5 Tryd.underlying9 (by
    intro j hj
    obtain ⟨b', off', e, hc⟩ := hB (k + j) (by omega)
    injection e with e
    injection e with e1 e2
    subst e1 e2
    have ha : (⟨b, off + k, none⟩ : Addr).add j = ⟨b, off + (k + j), none⟩ := by
      unfold Addr.add
      split
      · simp_all
      · simp [Nat.add_assoc]
    rw [ha, hc]
    simp)
  rw [hlen] at this
  exact this

theorem name_long (l : List UInt8) (k m : Nat) (_hkm : k ≤ m) (h : m - k = ((l.drop k).takeWhile Tk.isLD).length) (h16 : 16 < (m : Int) - (k : Int)) :
    Value.tuple #[.agg #[.int .i64 0, .string ⟨#[]⟩, .int .i64 0, .int .i64 0], .int .i64 3] = scanVal (Tk.nameAt l k) := by
  unfold Tk.nameAt
  rw [if_pos (by omega)]
  rfl
theorem name_short (l : List UInt8) (k m : Nat) (_hkm : k ≤ m) (h : m - k = ((l.drop k).takeWhile Tk.isLD).length) (h16 : (m : Int) - (k : Int) ≤ 16) (q : Bool) (hq : Tk.resv ((l.drop k).take (m - k)) = q) :
    Value.tuple #[.agg #[.int .i64 (if q then 3 else 1), .string ⟨((l.drop k).take (m - k)).toArray⟩, .int .i64 0, .int .i64 (k : Int)], .int .i64 0] = scanVal (Tk.nameAt l k) := by
  have hn : Tk.nameAt l k = .ok ⟨if Tk.resv ((l.drop k).takeWhile Tk.isLD) then 3 else 1, (l.drop k).takeWhile Tk.isLD, 0, k⟩ := by
    unfold Tk.nameAt
    dsimp only
    rw [if_neg (by omega)]
  rw [hn, ← run_take Tk.isLD _ (m - k) h, hq]
  cases q <;> rfl

set_option maxHeartbeats 1000000 in
theorem scanName_any (l : List UInt8) (ao : Option Addr) (cap k : Nat) (w : World) (hB : Byt w ao l) (hk : k < l.length) (hl : l.length ≤ 1000000) (hcap : l.length ≤ cap) :
    Calls Tryd.prog 86 #[.slice ao l.length cap, .int .i64 (k : Int)] w fun e w' => e = .returned (scanVal (Tk.nameAt l k)) ∧ Below w.heap.size w w' := by
  obtain ⟨b, off, rfl, hc0⟩ := hB k hk
  have hbl : b < w.heap.size := World.block_lt_of_cell? _ _ hc0
  have HB := Lib.hid hB
  clear hB hc0
  go_enter Tryd.func86, Tryd.ntmps86
  go_wp2
  go_loop [6] (fun i => ∃ m : Nat, k ≤ m ∧ m ≤ l.length ∧ i = .int .i64 m ∧ Hid (m + ((l.drop m).takeWhile Tk.isLD).length = k + ((l.drop k).takeWhile Tk.isLD).length)) (fun i => l.length - (intOf i).toNat)
  case atStart => exact ⟨k, by omega, by omega, rfl, rfl⟩
  case round =>
    obtain ⟨m, hkm, hm, rfl, hrel⟩ := hrel
    by_cases hlt : m < l.length
    · obtain ⟨b', off', hao, hc⟩ := HB.out m hlt
      injection hao with hao
      injection hao with e1 e2
      subst e1 e2
      have hs := Lib.hid (run_at Tk.isLD l m hlt)
      by_cases hL : Tk.isLet l[m] = true
      · go_wp2_with (first | (go_at_call 85; refine (isLetter_any _ _).mono ?_; rintro e w' ⟨rfl, rfl⟩))
        go_round
        case rel =>
          refine ⟨m + 1, by omega, by omega, by go_num, ?_⟩
          have h2 := hs.out
          rw [if_pos (by simp [Tk.isLD, hL])] at h2
          have h3 := hrel.out
          show _ = _
          omega
        case measure => simp [intOf]; omega
      · have hL' : Tk.isLet l[m] = false := by simpa using hL
        clear hL
        by_cases hD : Tk.isDig l[m] = true
        · go_wp2_with (first | (go_at_call 85; refine (isLetter_any _ _).mono ?_; rintro e w' ⟨rfl, rfl⟩) | (go_at_call 87; refine (isDigit_any _ _).mono ?_; rintro e w' ⟨rfl, rfl⟩))
          go_round
          case rel =>
            refine ⟨m + 1, by omega, by omega, by go_num, ?_⟩
            have h2 := hs.out
            rw [if_pos (by simp [Tk.isLD, hD])] at h2
            have h3 := hrel.out
            show _ = _
            omega
          case measure => simp [intOf]; omega
        · have hD' : Tk.isDig l[m] = false := by simpa using hD
          clear hD
          have hend : m - k = ((l.drop k).takeWhile Tk.isLD).length := by
            have h2 := hs.out
            rw [if_neg (by simp [Tk.isLD, hL', hD'])] at h2
            have h3 := hrel.out
            omega
          have HE := Lib.hid hend
          clear hend
          have hcv := fun cap' => conv_slice l b off k m cap' (w.alloc (.cells #[.int .i64 0, .string ⟨#[]⟩, .int .i64 0, .int .i64 0] 71)) (HB.out.later ((Below.refl _ _).alloc (Nat.le_refl _) _)) hkm hm
          go_wp2_with (first | (go_at_call 85; refine (isLetter_any _ _).mono ?_; rintro e w' ⟨rfl, rfl⟩) | (go_at_call 87; refine (isDigit_any _ _).mono ?_; rintro e w' ⟨rfl, rfl⟩) | (go_at_call 90; refine (reserved_any _ _).mono ?_; rintro e w' ⟨rfl, rfl⟩))
          · refine bodyPost_ret (v := .tuple #[.agg #[.int .i64 0, .string ⟨#[]⟩, .int .i64 0, .int .i64 0], .int .i64 3]) (by simp [results, Tryd.results86, go_sem]) rfl ⟨congrArg Ending.returned (name_long l k m hkm HE.out (by assumption)), ?_⟩
            exact (Below.refl _ _).alloc (Nat.le_refl _) _
          · refine bodyPost_ret (v := .tuple #[.agg #[.int .i64 3, .string ⟨((l.drop k).take (m - k)).toArray⟩, .int .i64 0, .int .i64 (k : Int)], .int .i64 0]) (by simp [results, Tryd.results86, go_sem]) rfl ⟨congrArg Ending.returned (name_short l k m hkm HE.out (by assumption) true (by assumption)), ?_⟩
            exact (Below.refl _ _).alloc (Nat.le_refl _) _
          · refine bodyPost_ret (v := .tuple #[.agg #[.int .i64 1, .string ⟨((l.drop k).take (m - k)).toArray⟩, .int .i64 0, .int .i64 (k : Int)], .int .i64 0]) (by simp [results, Tryd.results86, go_sem]) rfl ⟨congrArg Ending.returned (name_short l k m hkm HE.out (by assumption) false (by assumption)), ?_⟩
            exact (Below.refl _ _).alloc (Nat.le_refl _) _
    · have hend : m - k = ((l.drop k).takeWhile Tk.isLD).length := by
        have h3 := hrel.out
        rw [run_end Tk.isLD l m (by omega)] at h3
        omega
      have HE := Lib.hid hend
      clear hend
      have hcv := fun cap' => conv_slice l b off k m cap' (w.alloc (.cells #[.int .i64 0, .string ⟨#[]⟩, .int .i64 0, .int .i64 0] 71)) (HB.out.later ((Below.refl _ _).alloc (Nat.le_refl _) _)) hkm hm
      go_wp2_with (first | (go_at_call 90; refine (reserved_any _ _).mono ?_; rintro e w' ⟨rfl, rfl⟩))
      · refine bodyPost_ret (v := .tuple #[.agg #[.int .i64 0, .string ⟨#[]⟩, .int .i64 0, .int .i64 0], .int .i64 3]) (by simp [results, Tryd.results86, go_sem]) rfl ⟨congrArg Ending.returned (name_long l k m hkm HE.out (by assumption)), ?_⟩
        exact (Below.refl _ _).alloc (Nat.le_refl _) _
      · refine bodyPost_ret (v := .tuple #[.agg #[.int .i64 3, .string ⟨((l.drop k).take (m - k)).toArray⟩, .int .i64 0, .int .i64 (k : Int)], .int .i64 0]) (by simp [results, Tryd.results86, go_sem]) rfl ⟨congrArg Ending.returned (name_short l k m hkm HE.out (by assumption) true (by assumption)), ?_⟩
        exact (Below.refl _ _).alloc (Nat.le_refl _) _
      · refine bodyPost_ret (v := .tuple #[.agg #[.int .i64 1, .string ⟨((l.drop k).take (m - k)).toArray⟩, .int .i64 0, .int .i64 (k : Int)], .int .i64 0]) (by simp [results, Tryd.results86, go_sem]) rfl ⟨congrArg Ending.returned (name_short l k m hkm HE.out (by assumption) false (by assumption)), ?_⟩
        exact (Below.refl _ _).alloc (Nat.le_refl _) _

end Go.Proofs.YtjjooekkieddbaaDoor

namespace Go.Proofs.YtjjooekkieddbaaDoor
open Go.RowKit

theorem num_at (l : List UInt8) (m n : Nat) (h : m < l.length) (hd : Tk.isDig l[m] = true) :
    Tk.numVal n ((l.drop m).takeWhile Tk.isDig) = if n > (9223372036854775807 - (l[m].toNat - 48)) / 10 then none else Tk.numVal (10 * n + (l[m].toNat - 48)) ((l.drop (m + 1)).takeWhile Tk.isDig) := by
  rw [List.drop_eq_getElem_cons h, List.takeWhile_cons, if_pos hd]
  rfl
theorem num_stop (l : List UInt8) (m n : Nat) (h : m < l.length) (hd : Tk.isDig l[m] = false) : Tk.numVal n ((l.drop m).takeWhile Tk.isDig) = some n := by
  rw [List.drop_eq_getElem_cons h, List.takeWhile_cons, if_neg (by simp [hd])]
  rfl
theorem num_end (l : List UInt8) (m n : Nat) (h : l.length ≤ m) : Tk.numVal n ((l.drop m).takeWhile Tk.isDig) = some n := by
  rw [List.drop_eq_nil_of_le h]
  rfl
theorem num_great (l : List UInt8) (k : Nat) (h : Tk.numVal 0 ((l.drop k).takeWhile Tk.isDig) = none) :
    Value.tuple #[.agg #[.int .i64 0, .string ⟨#[]⟩, .int .i64 0, .int .i64 0], .int .i64 2] = scanVal (Tk.numAt l k) := by
  have hn : Tk.numAt l k = .error 2 := by
    unfold Tk.numAt
    dsimp only
    rw [h]
  rw [hn]
  rfl
theorem num_good (l : List UInt8) (k m n : Nat) (h : some n = Tk.numVal 0 ((l.drop k).takeWhile Tk.isDig)) (hm : m - k = ((l.drop k).takeWhile Tk.isDig).length) :
    Value.tuple #[.agg #[.int .i64 2, .string ⟨((l.drop k).take (m - k)).toArray⟩, .int .i64 (n : Int), .int .i64 (k : Int)], .int .i64 0] = scanVal (Tk.numAt l k) := by
  have hn : Tk.numAt l k = .ok ⟨2, (l.drop k).takeWhile Tk.isDig, n, k⟩ := by
    unfold Tk.numAt
    dsimp only
    rw [← h]
  rw [hn, ← run_take Tk.isDig _ (m - k) hm]
  rfl

set_option maxHeartbeats 1000000 in
theorem scanNumber_any (l : List UInt8) (ao : Option Addr) (cap k : Nat) (w : World) (hB : Byt w ao l) (hk : k < l.length) (hl : l.length ≤ 1000000) (hcap : l.length ≤ cap) :
    Calls Tryd.prog 88 #[.slice ao l.length cap, .int .i64 (k : Int)] w fun e w' => e = .returned (scanVal (Tk.numAt l k)) ∧ Below w.heap.size w w' := by
  obtain ⟨b, off, rfl, hc0⟩ := hB k hk
  have hbl : b < w.heap.size := World.block_lt_of_cell? _ _ hc0
  have HB := Lib.hid hB
  clear hB hc0
  go_enter Tryd.func88, Tryd.ntmps88
  go_wp2
  go_loop [6, 7, 8] (fun i j _ => ∃ m n : Nat, k ≤ m ∧ m ≤ l.length ∧ n ≤ 9223372036854775807 ∧ i = .int .i64 m ∧ j = .int .i64 n ∧ Hid (m + ((l.drop m).takeWhile Tk.isDig).length = k + ((l.drop k).takeWhile Tk.isDig).length) ∧ Hid (Tk.numVal n ((l.drop m).takeWhile Tk.isDig) = Tk.numVal 0 ((l.drop k).takeWhile Tk.isDig))) (fun i _ _ => l.length - (intOf i).toNat)
  case atStart => exact ⟨k, 0, by omega, by omega, by omega, rfl, rfl, rfl, rfl⟩
  case round =>
    obtain ⟨m, n, hkm, hm, hn, rfl, rfl, hrel, hval⟩ := hrel
    by_cases hlt : m < l.length
    · obtain ⟨b', off', hao, hc⟩ := HB.out m hlt
      injection hao with hao
      injection hao with e1 e2
      subst e1 e2
      have hs := Lib.hid (run_at Tk.isDig l m hlt)
      have hu := UInt8.toNat_lt l[m]
      by_cases hD : Tk.isDig l[m] = true
      · have hd1 : 48 ≤ (l[m].toNat : Int) ∧ (l[m].toNat : Int) ≤ 57 := by simp [Tk.isDig] at hD; omega
        obtain ⟨hd1, hd2⟩ := hd1
        go_wp2_with (first | (go_at_call 87; refine (isDigit_any _ _).mono ?_; rintro e w' ⟨rfl, rfl⟩))
        · refine bodyPost_ret (v := .tuple #[.agg #[.int .i64 0, .string ⟨#[]⟩, .int .i64 0, .int .i64 0], .int .i64 2]) (by simp [results, Tryd.results88, go_sem]) rfl ⟨congrArg Ending.returned (num_great l k ?_), ?_⟩
          · rw [← hval.out, num_at l m n hlt hD, if_pos (by omega)]
          · exact (Below.refl _ _).alloc (Nat.le_refl _) _
        · go_round
          case rel =>
            refine ⟨m + 1, 10 * n + (l[m].toNat - 48), by omega, by omega, by omega, by go_num, ?_, ?_, ?_⟩
            · congr 1
              omega
            · have h2 := hs.out
              rw [if_pos hD] at h2
              have h3 := hrel.out
              show _ = _
              omega
            · have h2 := num_at l m n hlt hD
              rw [if_neg (by omega)] at h2
              exact (h2.symm.trans hval.out : _ = _)
          case measure => simp [intOf]; omega
      · have hD' : Tk.isDig l[m] = false := by simpa using hD
        clear hD
        have hend : m - k = ((l.drop k).takeWhile Tk.isDig).length := by
          have h2 := hs.out
          rw [if_neg (by simp [hD'])] at h2
          have h3 := hrel.out
          omega
        have HE := Lib.hid hend
        have HV := Lib.hid ((num_stop l m n hlt hD').symm.trans hval.out)
        clear hend
        have hcv := fun cap' => conv_slice l b off k m cap' (w.alloc (.cells #[.int .i64 0, .string ⟨#[]⟩, .int .i64 0, .int .i64 0] 71)) (HB.out.later ((Below.refl _ _).alloc (Nat.le_refl _) _)) hkm hm
        go_wp2_with (first | (go_at_call 87; refine (isDigit_any _ _).mono ?_; rintro e w' ⟨rfl, rfl⟩))
        refine bodyPost_ret (v := .tuple #[.agg #[.int .i64 2, .string ⟨((l.drop k).take (m - k)).toArray⟩, .int .i64 (n : Int), .int .i64 (k : Int)], .int .i64 0]) (by simp [results, Tryd.results88, go_sem]) rfl ⟨congrArg Ending.returned (num_good l k m n HV.out HE.out), ?_⟩
        exact (Below.refl _ _).alloc (Nat.le_refl _) _
    · have hend : m - k = ((l.drop k).takeWhile Tk.isDig).length := by
        have h3 := hrel.out
        rw [run_end Tk.isDig l m (by omega)] at h3
        omega
      have HE := Lib.hid hend
      have HV := Lib.hid ((num_end l m n (by omega)).symm.trans hval.out)
      clear hend
      have hcv := fun cap' => conv_slice l b off k m cap' (w.alloc (.cells #[.int .i64 0, .string ⟨#[]⟩, .int .i64 0, .int .i64 0] 71)) (HB.out.later ((Below.refl _ _).alloc (Nat.le_refl _) _)) hkm hm
      go_wp2
      refine bodyPost_ret (v := .tuple #[.agg #[.int .i64 2, .string ⟨((l.drop k).take (m - k)).toArray⟩, .int .i64 (n : Int), .int .i64 (k : Int)], .int .i64 0]) (by simp [results, Tryd.results88, go_sem]) rfl ⟨congrArg Ending.returned (num_good l k m n HV.out HE.out), ?_⟩
      exact (Below.refl _ _).alloc (Nat.le_refl _) _

end Go.Proofs.YtjjooekkieddbaaDoor

namespace Go.Proofs.YtjjooekkieddbaaDoor
open Go.RowKit

def NoTwo (l : List UInt8) (k : Nat) : Prop := ¬ (k + 2 ≤ l.length ∧ Tk.signs2.contains ((l.drop k).take 2) = true)
def NoOne (l : List UInt8) (k : Nat) : Prop := Tk.signs1.contains ((l.drop k).take 1) = false
/-- which signs have been tried when so many bytes are to be tried next -/
def Left (l : List UInt8) (k s : Nat) : Prop := s ≤ 2 ∧ (s ≤ 1 → NoTwo l k) ∧ (s = 0 → NoOne l k)

theorem len_of_sign2 (s : List UInt8) (h : Tk.signs2.contains s = true) : s.length = 2 := by
  simp [Tk.signs2] at h
  rcases h with h | h | h | h | h | h <;> simp [h]
theorem len_of_sign1 (s : List UInt8) (h : Tk.signs1.contains s = true) : s.length = 1 := by
  simp [Tk.signs1] at h
  rcases h with h | h | h | h | h | h | h | h | h | h | h | h | h | h | h | h | h <;> simp [h]
theorem sign_two (l : List UInt8) (k : Nat) (h : k + 2 ≤ l.length) (hs : Tk.isSg ((l.drop k).take 2) = true) :
    Value.tuple #[.agg #[.int .i64 4, .string ⟨((l.drop k).take 2).toArray⟩, .int .i64 0, .int .i64 (k : Int)], .int .i64 0] = scanVal (Tk.signAt l k) := by
  have h2 : Tk.signs2.contains ((l.drop k).take 2) = true := by
    rw [Tk.isSg, Bool.or_eq_true] at hs
    rcases hs with h2 | h1
    · exact h2
    · have := len_of_sign1 _ h1
      simp at this
      omega
  have hn : Tk.signAt l k = .ok ⟨4, (l.drop k).take 2, 0, k⟩ := by
    unfold Tk.signAt
    rw [if_pos ⟨h, h2⟩]
  rw [hn]
  rfl
theorem sign_one (l : List UInt8) (k : Nat) (_hk : k < l.length) (h : NoTwo l k) (hs : Tk.isSg ((l.drop k).take 1) = true) :
    Value.tuple #[.agg #[.int .i64 4, .string ⟨((l.drop k).take 1).toArray⟩, .int .i64 0, .int .i64 (k : Int)], .int .i64 0] = scanVal (Tk.signAt l k) := by
  have h1 : Tk.signs1.contains ((l.drop k).take 1) = true := by
    rw [Tk.isSg, Bool.or_eq_true] at hs
    rcases hs with h2 | h1
    · have := len_of_sign2 _ h2
      simp at this
      omega
    · exact h1
  have hn : Tk.signAt l k = .ok ⟨4, (l.drop k).take 1, 0, k⟩ := by
    unfold Tk.signAt
    rw [if_neg h, if_pos h1]
  rw [hn]
  rfl
theorem sign_none (l : List UInt8) (k : Nat) (h : Left l k 0) :
    Value.tuple #[.agg #[.int .i64 0, .string ⟨#[]⟩, .int .i64 0, .int .i64 0], .int .i64 1] = scanVal (Tk.signAt l k) := by
  have h1 := h.2.2 rfl
  have hn : Tk.signAt l k = .error 1 := by
    unfold Tk.signAt
    rw [if_neg (h.2.1 (by omega)), if_neg (by rw [h1]; simp)]
  rw [hn]
  rfl
theorem left_two (l : List UInt8) (k : Nat) : Left l k 2 := ⟨by omega, fun h => absurd h (by omega), fun h => absurd h (by omega)⟩
theorem left_short (l : List UInt8) (k : Nat) (h : ¬ k + 2 ≤ l.length) : Left l k 1 := ⟨by omega, fun _ h' => h h'.1, fun h => absurd h (by omega)⟩
theorem left_one (l : List UInt8) (k : Nat) (hs : Tk.isSg ((l.drop k).take 2) = false) : Left l k 1 :=
  ⟨by omega, fun _ h' => by rw [Tk.isSg, Bool.or_eq_false_iff] at hs; rw [hs.1] at h'; exact absurd h'.2 (by simp), fun h => absurd h (by omega)⟩
theorem left_none (l : List UInt8) (k : Nat) (h : Left l k 1) (hs : Tk.isSg ((l.drop k).take 1) = false) : Left l k 0 :=
  ⟨by omega, fun _ => h.2.1 (by omega), fun _ => by rw [Tk.isSg, Bool.or_eq_false_iff] at hs; exact hs.2⟩

set_option maxHeartbeats 1000000 in
theorem scanSign_any (l : List UInt8) (ao : Option Addr) (cap k : Nat) (w : World) (hB : Byt w ao l) (hk : k < l.length) (hl : l.length ≤ 1000000) (hcap : l.length ≤ cap) :
    Calls Tryd.prog 89 #[.slice ao l.length cap, .int .i64 (k : Int)] w fun e w' => e = .returned (scanVal (Tk.signAt l k)) ∧ Below w.heap.size w w' := by
  obtain ⟨b, off, rfl, hc0⟩ := hB k hk
  have hbl : b < w.heap.size := World.block_lt_of_cell? _ _ hc0
  have HB := Lib.hid hB
  clear hB hc0
  go_enter Tryd.func89, Tryd.ntmps89
  go_wp2
  go_loop [6, 7] (fun i _ => ∃ s : Nat, s ≤ 2 ∧ i = .int .i64 s ∧ Hid (Left l k s)) (fun i _ => (intOf i).toNat)
  case atStart => exact ⟨2, by omega, rfl, left_two l k⟩
  case round =>
    obtain ⟨s, hs, rfl, hrel⟩ := hrel
    by_cases c2 : s = 2
    · subst c2
      by_cases h2 : k + 2 ≤ l.length
      · have hcv2 := fun cap' => conv_slice l b off k (k + 2) cap' (w.alloc (.cells #[.int .i64 0, .string ⟨#[]⟩, .int .i64 0, .int .i64 0] 71)) (HB.out.later ((Below.refl _ _).alloc (Nat.le_refl _) _)) (by omega) h2
        have es : k + 2 - k = 2 := by omega
        rw [es] at hcv2
        clear es
        go_wp2_with (first | (go_at_call 112; refine (isSign_any _ _).mono ?_; rintro e w' ⟨rfl, rfl⟩))
        · refine bodyPost_ret (v := .tuple #[.agg #[.int .i64 4, .string ⟨((l.drop k).take 2).toArray⟩, .int .i64 0, .int .i64 (k : Int)], .int .i64 0]) (by simp [results, Tryd.results89, go_sem]) rfl ⟨congrArg Ending.returned (sign_two l k h2 (by assumption)), ?_⟩
          exact (Below.refl _ _).alloc (Nat.le_refl _) _
        · go_round
          case rel => exact ⟨1, by omega, rfl, left_one l k (by assumption)⟩
          case measure => simp [intOf]
      · have h2' : l.length < k + 2 := by omega
        have HS := Lib.hid (left_short l k h2)
        clear h2
        go_wp2
        go_round
        case rel => exact ⟨1, by omega, rfl, HS⟩
        case measure => simp [intOf]
    · by_cases c1 : s = 1
      · subst c1
        clear c2 hs
        have hcv1 := fun cap' => conv_slice l b off k (k + 1) cap' (w.alloc (.cells #[.int .i64 0, .string ⟨#[]⟩, .int .i64 0, .int .i64 0] 71)) (HB.out.later ((Below.refl _ _).alloc (Nat.le_refl _) _)) (by omega) (by omega)
        have es : k + 1 - k = 1 := by omega
        rw [es] at hcv1
        clear es
        go_wp2_with (first | (go_at_call 112; refine (isSign_any _ _).mono ?_; rintro e w' ⟨rfl, rfl⟩))
        · refine bodyPost_ret (v := .tuple #[.agg #[.int .i64 4, .string ⟨((l.drop k).take 1).toArray⟩, .int .i64 0, .int .i64 (k : Int)], .int .i64 0]) (by simp [results, Tryd.results89, go_sem]) rfl ⟨congrArg Ending.returned (sign_one l k hk (hrel.out.2.1 (by omega)) (by assumption)), ?_⟩
          exact (Below.refl _ _).alloc (Nat.le_refl _) _
        · go_round
          case rel => exact ⟨0, by omega, rfl, left_none l k hrel.out (by assumption)⟩
          case measure => simp [intOf]
      · have hs0 : s = 0 := by omega
        subst hs0
        clear c1 c2 hs
        go_wp2
        refine bodyPost_ret (v := .tuple #[.agg #[.int .i64 0, .string ⟨#[]⟩, .int .i64 0, .int .i64 0], .int .i64 1]) (by simp [results, Tryd.results89, go_sem]) rfl ⟨congrArg Ending.returned (sign_none l k hrel.out), ?_⟩
        exact (Below.refl _ _).alloc (Nat.le_refl _) _

end Go.Proofs.YtjjooekkieddbaaDoor

namespace Go.Proofs.YtjjooekkieddbaaDoor
open Go.RowKit

theorem scanVal_form (r : Except Nat Tk.Tok) : ∃ (K : Int) (S : ByteArray) (N P E : Int), scanVal r = .tuple #[.agg #[.int .i64 K, .string S, .int .i64 N, .int .i64 P], .int .i64 E] := by
  cases r with
  | error e => exact ⟨_, _, _, _, _, rfl⟩
  | ok t => exact ⟨_, _, _, _, _, rfl⟩

/-- the cells of a block of four cells that was laid last, behind a call that changed nothing that was there -/
theorem four_later {w w2 : World} {c0 c1 c2 c3 : Value} {t : TypeId} (hb : Below (w.alloc (.cells #[c0, c1, c2, c3] t)).heap.size (w.alloc (.cells #[c0, c1, c2, c3] t)) w2) :
    w2.cell? ⟨w.heap.size, 0, none⟩ = some c0 ∧ w2.cell? ⟨w.heap.size, 1, none⟩ = some c1 ∧ w2.cell? ⟨w.heap.size, 2, none⟩ = some c2 ∧ w2.cell? ⟨w.heap.size, 3, none⟩ = some c3 ∧
    w2.frozen? ⟨w.heap.size, 0, none⟩ = false ∧ w2.frozen? ⟨w.heap.size, 1, none⟩ = false ∧ w2.frozen? ⟨w.heap.size, 2, none⟩ = false ∧ w2.frozen? ⟨w.heap.size, 3, none⟩ = false ∧ w.heap.size < w2.heap.size := by
  have hs : w.heap.size < (w.alloc (.cells #[c0, c1, c2, c3] t)).heap.size := by simp
  refine ⟨?_, ?_, ?_, ?_, ?_, ?_, ?_, ?_, Nat.lt_of_lt_of_le hs hb.size⟩
  · rw [hb.cell hs, World.cell?_alloc_mark]; rfl
  · rw [hb.cell hs, World.cell?_alloc_mark]; rfl
  · rw [hb.cell hs, World.cell?_alloc_mark]; rfl
  · rw [hb.cell hs, World.cell?_alloc_mark]; rfl
  · rw [hb.frozen hs, World.frozen?_alloc_mark]; rfl
  · rw [hb.frozen hs, World.frozen?_alloc_mark]; rfl
  · rw [hb.frozen hs, World.frozen?_alloc_mark]; rfl
  · rw [hb.frozen hs, World.frozen?_alloc_mark]; rfl

set_option maxHeartbeats 1000000 in
theorem scan_any (l : List UInt8) (ao : Option Addr) (cap k : Nat) (w : World) (hB : Byt w ao l) (hk : k < l.length) (hl : l.length ≤ 1000000) (hcap : l.length ≤ cap) :
    Calls Tryd.prog 57 #[.slice ao l.length cap, .int .i64 (k : Int)] w fun e w' => e = .returned (scanVal (Tk.tokAt l k)) ∧ Below w.heap.size w w' := by
  obtain ⟨b, off, rfl, hc⟩ := hB k hk
  have hbl : b < w.heap.size := World.block_lt_of_cell? _ _ hc
  have hg : l.getD k 0 = l[k] := by simp [List.getD, List.getElem?_eq_getElem hk]
  have HG := Lib.hid hg
  have HB := Lib.hid hB
  clear hB hg
  have HW := Lib.hid (HB.out.later ((Below.refl _ _).alloc (Nat.le_refl _) (.cells #[.int .i64 0, .string ⟨#[]⟩, .int .i64 0, .int .i64 0] 71)))
  by_cases hL : Tk.isLet l[k] = true
  · have HT : Hid (Tk.tokAt l k = Tk.nameAt l k) := by unfold Tk.tokAt; rw [HG.out, if_pos hL]; rfl
    obtain ⟨K, S, N, P, E, hv⟩ := scanVal_form (Tk.nameAt l k)
    have HV := Lib.hid hv
    clear hv
    go_enter Tryd.func57, Tryd.ntmps57
    go_wp2_with (first | (go_at_call 85; refine (isLetter_any _ _).mono ?_; rintro e w' ⟨rfl, rfl⟩) | (go_at_call 86; refine (scanName_any l _ cap k _ HW.out hk hl hcap).mono ?_; rintro e w2 ⟨rfl, hb⟩; rw [HV.out]; obtain ⟨q0, q1, q2, q3, f0, f1, f2, f3, hz⟩ := four_later hb))
    refine bodyPost_ret (v := .tuple #[.agg #[.int .i64 K, .string S, .int .i64 N, .int .i64 P], .int .i64 E]) (by simp [results, Tryd.results57, go_sem, q0, q1, q2, q3]) rfl ⟨by rw [HT.out, HV.out], ?_⟩
    exact (((((Below.refl _ _).alloc (Nat.le_refl _) _).trans (hb.mono (by simp))).setCell (Nat.le_refl _) _).setCell (Nat.le_refl _) _ |>.setCell (Nat.le_refl _) _).setCell (Nat.le_refl _) _
  · have hL' : Tk.isLet l[k] = false := by simpa using hL
    clear hL
    by_cases hD : Tk.isDig l[k] = true
    · have HT : Hid (Tk.tokAt l k = Tk.numAt l k) := by unfold Tk.tokAt; rw [HG.out, if_neg (by simp [hL']), if_pos hD]; rfl
      obtain ⟨K, S, N, P, E, hv⟩ := scanVal_form (Tk.numAt l k)
      have HV := Lib.hid hv
      clear hv
      go_enter Tryd.func57, Tryd.ntmps57
      go_wp2_with (first | (go_at_call 85; refine (isLetter_any _ _).mono ?_; rintro e w' ⟨rfl, rfl⟩) | (go_at_call 87; refine (isDigit_any _ _).mono ?_; rintro e w' ⟨rfl, rfl⟩) | (go_at_call 88; refine (scanNumber_any l _ cap k _ HW.out hk hl hcap).mono ?_; rintro e w2 ⟨rfl, hb⟩; rw [HV.out]; obtain ⟨q0, q1, q2, q3, f0, f1, f2, f3, hz⟩ := four_later hb))
      refine bodyPost_ret (v := .tuple #[.agg #[.int .i64 K, .string S, .int .i64 N, .int .i64 P], .int .i64 E]) (by simp [results, Tryd.results57, go_sem, q0, q1, q2, q3]) rfl ⟨by rw [HT.out, HV.out], ?_⟩
      exact (((((Below.refl _ _).alloc (Nat.le_refl _) _).trans (hb.mono (by simp))).setCell (Nat.le_refl _) _).setCell (Nat.le_refl _) _ |>.setCell (Nat.le_refl _) _).setCell (Nat.le_refl _) _
    · have hD' : Tk.isDig l[k] = false := by simpa using hD
      clear hD
      have HT : Hid (Tk.tokAt l k = Tk.signAt l k) := by unfold Tk.tokAt; rw [HG.out, if_neg (by simp [hL']), if_neg (by simp [hD'])]; rfl
      obtain ⟨K, S, N, P, E, hv⟩ := scanVal_form (Tk.signAt l k)
      have HV := Lib.hid hv
      clear hv
      go_enter Tryd.func57, Tryd.ntmps57
      go_wp2_with (first | (go_at_call 85; refine (isLetter_any _ _).mono ?_; rintro e w' ⟨rfl, rfl⟩) | (go_at_call 87; refine (isDigit_any _ _).mono ?_; rintro e w' ⟨rfl, rfl⟩) | (go_at_call 89; refine (scanSign_any l _ cap k _ HW.out hk hl hcap).mono ?_; rintro e w2 ⟨rfl, hb⟩; rw [HV.out]; obtain ⟨q0, q1, q2, q3, f0, f1, f2, f3, hz⟩ := four_later hb))
      refine bodyPost_ret (v := .tuple #[.agg #[.int .i64 K, .string S, .int .i64 N, .int .i64 P], .int .i64 E]) (by simp [results, Tryd.results57, go_sem, q0, q1, q2, q3]) rfl ⟨by rw [HT.out, HV.out], ?_⟩
      exact (((((Below.refl _ _).alloc (Nat.le_refl _) _).trans (hb.mono (by simp))).setCell (Nat.le_refl _) _).setCell (Nat.le_refl _) _ |>.setCell (Nat.le_refl _) _).setCell (Nat.le_refl _) _

end Go.Proofs.YtjjooekkieddbaaDoor

namespace Go.Proofs.YtjjooekkieddbaaDoor
open Go.RowKit

def tokCells (ts : List Tk.Tok) : List Value := ts.flatMap fun t => [.int .i64 (t.kind : Int), .string ⟨t.text.toArray⟩, .int .i64 (t.num : Int), .int .i64 (t.pos : Int)]
theorem tokCells_snoc (ts : List Tk.Tok) (t : Tk.Tok) : tokCells (ts ++ [t]) = tokCells ts ++ [.int .i64 (t.kind : Int), .string ⟨t.text.toArray⟩, .int .i64 (t.num : Int), .int .i64 (t.pos : Int)] := by
  simp [tokCells]

theorem tok_ok (l : List UInt8) (k : Nat) (t : Tk.Tok) (hk : k < l.length) (h : Tk.tokAt l k = .ok t) : 0 < t.text.length ∧ k + t.text.length ≤ l.length ∧ t.pos = k := by
  have hg : l.getD k 0 = l[k] := by simp [List.getD, List.getElem?_eq_getElem hk]
  have hp : ∀ (p : UInt8 → Bool), p l[k] = true → 0 < ((l.drop k).takeWhile p).length ∧ k + ((l.drop k).takeWhile p).length ≤ l.length := by
    intro p hp
    have h1 := run_at p l k hk
    rw [if_pos hp] at h1
    have h2 := (List.takeWhile_prefix p (l := l.drop k)).length_le
    simp at h2
    omega
  unfold Tk.tokAt at h
  rw [hg] at h
  split at h
  · rename_i hL
    unfold Tk.nameAt at h
    dsimp only at h
    split at h
    · cases h
    · injection h with h
      subst h
      have := hp Tk.isLD (by simp [Tk.isLD, hL])
      exact ⟨this.1, this.2, rfl⟩
  · split at h
    · rename_i hD
      unfold Tk.numAt at h
      dsimp only at h
      split at h
      · cases h
      · injection h with h
        subst h
        have := hp Tk.isDig hD
        exact ⟨this.1, this.2, rfl⟩
    · unfold Tk.signAt at h
      split at h
      · injection h with h
        subst h
        refine ⟨?_, ?_, rfl⟩
        all_goals (simp; omega)
      · split at h
        · injection h with h
          subst h
          refine ⟨?_, ?_, rfl⟩
          all_goals (simp; omega)
        · cases h
theorem tok_err (l : List UInt8) (k e : Nat) (h : Tk.tokAt l k = .error e) : 1 ≤ e ∧ e ≤ 3 := by
  unfold Tk.tokAt at h
  split at h
  · unfold Tk.nameAt at h
    dsimp only at h
    split at h
    · injection h with h; omega
    · cases h
  · split at h
    · unfold Tk.numAt at h
      dsimp only at h
      split at h
      · injection h with h; omega
      · cases h
    · unfold Tk.signAt at h
      split at h
      · cases h
      · split at h
        · cases h
        · injection h with h; omega

theorem lexGo_end (f : Nat) (l : List UInt8) (k : Nat) (acc : List Tk.Tok) (h : l.length ≤ k) : Tk.lexGo (f + 1) l k acc = (acc ++ [⟨5, [], 0, l.length⟩], l.length, 0) := by
  rw [Tk.lexGo, if_pos h]
theorem lexGo_err (f : Nat) (l : List UInt8) (k e : Nat) (acc : List Tk.Tok) (h : k < l.length) (he : Tk.tokAt l k = .error e) : Tk.lexGo (f + 1) l k acc = ([], k, e) := by
  rw [Tk.lexGo, if_neg (by omega), he]
theorem lexGo_many (f : Nat) (l : List UInt8) (k : Nat) (acc : List Tk.Tok) (t : Tk.Tok) (h : k < l.length) (he : Tk.tokAt l k = .ok t) (hn : acc.length = 4000) : Tk.lexGo (f + 1) l k acc = ([], k, 3) := by
  rw [Tk.lexGo, if_neg (by omega), he]
  dsimp only
  rw [if_pos hn]
theorem lexGo_step (f : Nat) (l : List UInt8) (k : Nat) (acc : List Tk.Tok) (t : Tk.Tok) (h : k < l.length) (he : Tk.tokAt l k = .ok t) (hn : acc.length ≠ 4000) :
    Tk.lexGo (f + 1) l k acc = Tk.lexGo f l (Tk.skipTo l (k + t.text.length)) (acc ++ [t]) := by
  rw [Tk.lexGo, if_neg (by omega), he]
  dsimp only
  rw [if_neg hn]

/-- what Lex leaves: the tokens in memory of its own, the offset, the error -/
def LexPost (w : World) (R : List Tk.Tok × Nat × Nat) (e : Ending) (w' : World) : Prop :=
  ∃ v, e = .returned (.tuple #[v, .int .i64 (R.2.1 : Int), .int .i64 (R.2.2 : Int)]) ∧ w'.ownsRow w.heap.size 71 4 v R.1.length (tokCells R.1) ∧ Below w.heap.size w w'

theorem lexPost_err {w w' : World} {l : List UInt8} {k e0 : Nat} (h : Tk.lex l = ([], k, e0)) (hb : Below w.heap.size w w') :
    LexPost w (Tk.lex l) (.returned (.tuple #[.slice none 0 0, .int .i64 (k : Int), .int .i64 (e0 : Int)])) w' := by
  rw [h]
  exact ⟨_, rfl, World.ownsRow_nil _ _ _ _, hb⟩

theorem owns_later {w w' : World} {base : Nat} {e : TypeId} {size n : Nat} {v : Value} {xs : List Value} (h : w.ownsRow base e size v n xs) (hb : Below w.heap.size w w') : w'.ownsRow base e size v n xs := by
  obtain ⟨hl, h⟩ := h
  refine ⟨hl, ?_⟩
  rcases h with h | ⟨g, cap, cur, e1, e2, hh, rest⟩
  · exact .inl h
  · exact .inr ⟨g, cap, cur, e1, e2, (hb.block g (lt_of_block hh)).trans hh, rest⟩
theorem owns_block {w : World} {base : Nat} {e : TypeId} {size n : Nat} {v : Value} {xs : List Value} (h : w.ownsRow base e size v n xs) (g : Nat) (hg : v.ownBlock = some g) : base ≤ g ∧ g < w.heap.size := by
  rcases h.2 with ⟨rfl, _⟩ | ⟨g', cap, cur, rfl, hb, hh, _⟩
  · cases hg
  · have : g' = g := by simpa [Value.ownBlock] using hg
    subst this
    exact ⟨hb, lt_of_block hh⟩

theorem owns_form {w : World} {base : Nat} {e : TypeId} {size n : Nat} {v : Value} {xs : List Value} (h : w.ownsRow base e size v n xs) : ∃ A c, v = .slice A n c := by
  rcases h.2 with ⟨rfl, rfl⟩ | ⟨g', cap, cur, rfl, _⟩
  · exact ⟨_, _, rfl⟩
  · exact ⟨_, _, rfl⟩

theorem news_four (W : World) (g : Nat) (hg : g = W.heap.size) (c0 c1 c2 c3 : Value) (t : TypeId) (j : Nat) (u : Value) (hj : [c0, c1, c2, c3][j]? = some u) :
    (W.alloc (.cells #[c0, c1, c2, c3] t)).cell? ((⟨g, 0, none⟩ : Addr).add j) = some u := by
  subst hg
  have ha : (⟨W.heap.size, 0, none⟩ : Addr).add j = ⟨W.heap.size, j, none⟩ := by
    unfold Addr.add
    split
    · simp_all
    · simp
  rw [ha, World.cell?_alloc_mark, ← hj]
  simp
theorem one_four (t : Tk.Tok) : ∀ u ∈ [Value.int .i64 (t.kind : Int), .string ⟨t.text.toArray⟩, .int .i64 (t.num : Int), .int .i64 (t.pos : Int)], u.oneCell' = true := by
  intro u hu
  simp at hu
  rcases hu with rfl | rfl | rfl | rfl <;> rfl

/-- what an append to a row of the call's own leaves, behind a call that changed nothing and two new blocks -/
theorem lex_after {w wr w2 w5 : World} {e size n : Nat} {v : Value} {xs : List Value} {c0 c1 c2 c3 : Value} {t : TypeId} {o : Obj} (ho : wr.ownsRow w.heap.size e size v n xs) (hw : Below w.heap.size w wr) (hb : Below wr.heap.size wr w2)
    (hg : ((w2.alloc (.cells #[c0, c1, c2, c3] t)).alloc o).grownBy w5 v.ownBlock) : w5.cell? ⟨w2.heap.size, 1, none⟩ = some c1 ∧ Below w.heap.size w w5 := by
  have h1 := hw.size
  have h2 := hb.size
  have hs : ((w2.alloc (.cells #[c0, c1, c2, c3] t)).alloc o).heap.size = w2.heap.size + 2 := by simp
  constructor
  · have hne : some w2.heap.size ≠ v.ownBlock := by
      intro h
      have := (owns_block ho _ h.symm).2
      omega
    have hc : w5.cell? ⟨w2.heap.size, 1, none⟩ = ((w2.alloc (.cells #[c0, c1, c2, c3] t)).alloc o).cell? ⟨w2.heap.size, 1, none⟩ := World.cell?_of_block (hg.block w2.heap.size (by rw [hs]; omega) hne)
    rw [hc, World.cell?_alloc_lt _ _ _ (by simp), World.cell?_alloc_mark]
    rfl
  · exact (((hw.trans (hb.mono h1)).alloc (by omega) _).alloc (by simp; omega) _).grown hg (by rw [hs]; omega) (fun k hk => (owns_block ho k hk).1)

theorem Tryd.infoTok : (Tryd.prog.info? 71).map (fun i => (i.zero, i.size, i.bytes)) = some (some (.agg #[.int .i64 0, .string ⟨#[]⟩, .int .i64 0, .int .i64 0]), 4, 40) := by kernel_rfl

set_option maxRecDepth 100000 in
set_option maxHeartbeats 1000000 in
theorem lex_any (l : List UInt8) (ao : Option Addr) (cap : Nat) (w : World) (hB : Byt w ao l) (hl : l.length ≤ 262144) (hcap : l.length ≤ cap) :
    Calls Tryd.prog 31 #[.slice ao l.length cap] w (LexPost w (Tk.lex l)) := by
  obtain ⟨i0, hi, hz0, hz1, hz2⟩ := info_parts Tryd.infoTok
  have HB := Lib.hid hB
  clear hB
  have HR : Hid (Tk.lex l = Tk.lexGo (l.length + 1) l (Tk.skipTo l 0) []) := by unfold Tk.lex; rw [if_neg (by omega)]; rfl
  have hb0 : decide (262144 < (l.length : Int)) = false := by simp; omega
  have hk0 := Tk.skipTo_le l 0 (Nat.zero_le _)
  go_enter Tryd.func31, Tryd.ntmps31
  go_wp2_with (first | (go_at_call 56; refine (skip_any l _ cap _ w HB.out (by omega) (by omega) (by omega)).mono ?_; rintro e w' ⟨rfl, rfl⟩))
  clear hb0
  go_loopw [5, 6, 7, 8] (fun v i _ _ wr => ∃ (k f : Nat) (acc : List Tk.Tok), k ≤ l.length ∧ i = .int .i64 k ∧ acc.length ≤ 4000 ∧ l.length - k < f ∧ wr.ownsRow w.heap.size 71 4 v acc.length (tokCells acc) ∧ Below w.heap.size w wr ∧ Hid (Tk.lexGo f l k acc = Tk.lex l))
    (fun _ i _ _ _ => l.length - (intOf i).toNat)
  case atStart => exact ⟨Tk.skipTo l 0, l.length + 1, [], hk0, rfl, by simp, by omega, World.ownsRow_nil _ _ _ _, Below.refl _ _, HR.out.symm⟩
  case round =>
    obtain ⟨k, f, acc, hk, rfl, hacc, hf, hown, hbel, hgo⟩ := hrel
    clear HR hk0
    obtain ⟨f, rfl⟩ : ∃ g, f = g + 1 := ⟨f - 1, by omega⟩
    obtain ⟨sa, sc, rfl⟩ := owns_form hown
    by_cases hlt : k < l.length
    · have HW := Lib.hid (HB.out.later hbel)
      have HO := Lib.hid hown
      have HBE := Lib.hid hbel
      clear hown hbel
      cases ht : Tk.tokAt l k with
      | error e0 =>
        have he := tok_err l k e0 ht
        have HE := Lib.hid (lexGo_err f l k e0 acc hlt ht)
        have HT := Lib.hid ht
        clear ht
        have t0 := bF (show ((e0 : Nat) : Int) ≠ 0 by omega)
        have t1 := nT (show ((e0 : Nat) : Int) ≠ 0 by omega)
        go_wp2_with (first | (go_at_call 57; refine (scan_any l _ cap k _ HW.out hlt (by omega) hcap).mono ?_; rintro e w2 ⟨rfl, hb⟩; rw [HT.out]; unfold scanVal noTok))
        go_ret3
        exact lexPost_err (hgo.out.symm.trans HE.out) ((HBE.out.trans (hb.mono HBE.out.size)).alloc (Nat.le_trans HBE.out.size hb.size) _)
      | ok t =>
        obtain ⟨hp, hle, hpos⟩ := tok_ok l k t hlt ht
        have HT := Lib.hid ht
        have HP := Lib.hid hpos
        clear ht hpos
        by_cases hn : acc.length = 4000
        · have HE := Lib.hid (lexGo_many f l k acc t hlt HT.out hn)
          have tn := bT (show ((acc.length : Nat) : Int) = 4000 by omega)
          clear hn
          go_wp2_with (first | (go_at_call 57; refine (scan_any l _ cap k _ HW.out hlt (by omega) hcap).mono ?_; rintro e w2 ⟨rfl, hb⟩; rw [HT.out]; unfold scanVal tokVal))
          go_ret3
          exact lexPost_err (hgo.out.symm.trans HE.out) ((HBE.out.trans (hb.mono HBE.out.size)).alloc (Nat.le_trans HBE.out.size hb.size) _)
        · have HE := Lib.hid (lexGo_step f l k acc t hlt HT.out hn)
          have tn := bF (show ((acc.length : Nat) : Int) ≠ 4000 by omega)
          have hn' : acc.length < 4000 := by omega
          clear hn
          go_wp2_with (first | (go_at_call 57; refine (scan_any l _ cap k _ HW.out hlt (by omega) hcap).mono ?_; rintro e w2 ⟨rfl, hb⟩; rw [HT.out]; unfold scanVal tokVal) | (at_builtin; refine wpList_append_own _ rfl (.tmp 35) (.tmp 37) 57 rfl w.heap.size 71 i0 _ 4 40 Tryd.underlying57 hi hz0 hz1 hz2 rfl (by decide) _ acc.length (tokCells acc) rfl (((owns_later HO.out hb).alloc _).alloc _) ⟨w2.heap.size + 1, 0, none⟩ 1 1 [.int .i64 (t.kind : Int), .string ⟨t.text.toArray⟩, .int .i64 (t.num : Int), .int .i64 (t.pos : Int)] rfl rfl (news_four (w2.alloc _) (w2.heap.size + 1) (by simp) _ _ _ _ _) (one_four t) (by unfold maxLen; omega) (by omega) (by have := HBE.out.size; have := hb.size; simp; omega) ?_))
          intro v' w5 hown' hgrow _
          obtain ⟨hq, hbel5⟩ := lex_after HO.out HBE.out hb hgrow
          have HO' := Lib.hid hown'
          have HBE' := Lib.hid hbel5
          clear hown' hgrow hbel5
          go_wp2_with (first | (go_at_call 56; refine (skip_any l _ cap _ _ (HB.out.later HBE'.out) (by omega) (by omega) (by omega)).mono ?_; rintro e w' ⟨rfl, rfl⟩))
          go_roundw
          case rel =>
            have e1 : ((k : Int) + (t.text.length : Int)).toNat = k + t.text.length := by omega
            refine ⟨Tk.skipTo l (k + t.text.length), f, acc ++ [t], Tk.skipTo_le l _ hle, by rw [e1], by simp; omega, ?_, ?_, HBE'.out, (HE.out.symm.trans hgo.out : _ = _)⟩
            · have : k + t.text.length ≤ Tk.skipTo l (k + t.text.length) := by unfold Tk.skipTo; omega
              omega
            · have := HO'.out
              rw [← tokCells_snoc] at this
              simpa using this
          case measure =>
            have e1 : ((k : Int) + (t.text.length : Int)).toNat = k + t.text.length := by omega
            rw [e1]
            have : k + t.text.length ≤ Tk.skipTo l (k + t.text.length) := by unfold Tk.skipTo; omega
            simp [intOf]
            omega
    · have HE := Lib.hid (lexGo_end f l k acc (by omega))
      have HO := Lib.hid hown
      have HBE := Lib.hid hbel
      clear hown hbel
      go_wp2_with (first | (at_builtin; refine wpList_append_own _ rfl (.tmp 46) (.tmp 50) 57 rfl w.heap.size 71 i0 _ 4 40 Tryd.underlying57 hi hz0 hz1 hz2 rfl (by decide) _ acc.length (tokCells acc) rfl (HO.out.alloc _) ⟨wr.heap.size, 0, none⟩ 1 1 [.int .i64 5, .string ⟨#[]⟩, .int .i64 0, .int .i64 (l.length : Int)] rfl rfl (news_four wr wr.heap.size rfl _ _ _ _ _) (one_four ⟨5, [], 0, l.length⟩) (by unfold maxLen; omega) (by omega) (by have := HBE.out.size; simp; omega) ?_))
      intro v' w5 hown' hgrow _
      have hbel5 := (HBE.out.alloc HBE.out.size _).grown hgrow (Nat.le_trans HBE.out.size (by simp)) (fun k hk => (owns_block HO.out k hk).1)
      have HO' := Lib.hid hown'
      have HBE' := Lib.hid hbel5
      clear hown' hgrow hbel5
      go_wp2
      go_ret3
      have hR := hgo.out.symm.trans HE.out
      rw [hR]
      refine ⟨v', rfl, ?_, HBE'.out⟩
      have := HO'.out
      rw [show (acc ++ [(⟨5, [], 0, l.length⟩ : Tk.Tok)]).length = acc.length + 1 by simp, tokCells_snoc]
      exact this

end Go.Proofs.YtjjooekkieddbaaDoor

namespace Go.Proofs.YtjjooekkieddbaaDoor
open Go.RowKit

/-- the slice at A holds the tokens ts -/
def TokS (w : World) (A : Option Addr) (ts : List Tk.Tok) : Prop :=
  ∀ i (h : i < ts.length), ∃ b, A = some ⟨b, 0, none⟩ ∧ w.cell? ⟨b, i * 4, none⟩ = some (.int .i64 (ts[i].kind : Int)) ∧ w.cell? ⟨b, i * 4 + 1, none⟩ = some (.string ⟨ts[i].text.toArray⟩) ∧
    w.cell? ⟨b, i * 4 + 2, none⟩ = some (.int .i64 (ts[i].num : Int)) ∧ w.cell? ⟨b, i * 4 + 3, none⟩ = some (.int .i64 (ts[i].pos : Int))

theorem TokS.later {w w' : World} {A : Option Addr} {ts : List Tk.Tok} (h : TokS w A ts) (hb : Below w.heap.size w w') : TokS w' A ts := by
  intro i hi
  obtain ⟨b, e, h0, h1, h2, h3⟩ := h i hi
  exact ⟨b, e, cell_later hb h0, cell_later hb h1, cell_later hb h2, cell_later hb h3⟩

theorem tokCells_length (ts : List Tk.Tok) : (tokCells ts).length = ts.length * 4 := by
  induction ts with
  | nil => rfl
  | cons t r ih =>
    have : tokCells (t :: r) = [.int .i64 (t.kind : Int), .string ⟨t.text.toArray⟩, .int .i64 (t.num : Int), .int .i64 (t.pos : Int)] ++ tokCells r := by simp [tokCells]
    rw [this]
    simp [ih]
    omega
theorem tokCells_at (ts : List Tk.Tok) (i : Nat) (h : i < ts.length) : (tokCells ts)[i * 4]? = some (.int .i64 (ts[i].kind : Int)) ∧ (tokCells ts)[i * 4 + 1]? = some (.string ⟨ts[i].text.toArray⟩) ∧
    (tokCells ts)[i * 4 + 2]? = some (.int .i64 (ts[i].num : Int)) ∧ (tokCells ts)[i * 4 + 3]? = some (.int .i64 (ts[i].pos : Int)) := by
  induction ts generalizing i with
  | nil => simp at h
  | cons t r ih =>
    have : tokCells (t :: r) = .int .i64 (t.kind : Int) :: .string ⟨t.text.toArray⟩ :: .int .i64 (t.num : Int) :: .int .i64 (t.pos : Int) :: tokCells r := by simp [tokCells]
    rw [this]
    cases i with
    | zero => simp
    | succ j =>
      have := ih j (by simpa using h)
      have e : (j + 1) * 4 = j * 4 + 4 := by omega
      rw [e]
      simpa using this
theorem TokS.of_own {w : World} {base n : Nat} {A : Option Addr} {c : Nat} {ts : List Tk.Tok} (hn : n = ts.length) (h : w.ownsRow base 71 4 (.slice A n c) n (tokCells ts)) : TokS w A ts := by
  subst hn
  intro i hi
  have h' := h
  obtain ⟨_, h2⟩ := h'
  rcases h2 with ⟨_, h0⟩ | ⟨g, cap, cur, e, _⟩
  · omega
  · injection e with e1 _ e3
    subst e1 e3
    have hc := fun j hj => World.ownsRow.cellAt h j hj
    obtain ⟨q0, q1, q2, q3⟩ := tokCells_at ts i hi
    exact ⟨g, rfl, (hc _ (by omega)).trans q0, (hc _ (by omega)).trans q1, (hc _ (by omega)).trans q2, (hc _ (by omega)).trans q3⟩

theorem news_one (W : World) (g : Nat) (hg : g = W.heap.size) (c0 : Value) (t : TypeId) (j : Nat) (u : Value) (hj : [c0][j]? = some u) :
    (W.alloc (.cells #[c0] t)).cell? ((⟨g, 0, none⟩ : Addr).add j) = some u := by
  subst hg
  have ha : (⟨W.heap.size, 0, none⟩ : Addr).add j = ⟨W.heap.size, j, none⟩ := by
    unfold Addr.add
    split
    · simp_all
    · simp
  rw [ha, World.cell?_alloc_mark, ← hj]
  simp
theorem one_one (c : ByteArray) : ∀ u ∈ [Value.string c], u.oneCell' = true := by
  intro u hu
  simp at hu
  subst hu
  rfl
/-- what an append to a row of the call's own leaves, behind two new blocks -/
theorem grown_two {w wr w5 : World} {e size n : Nat} {v : Value} {xs : List Value} {o o' : Obj} (ho : wr.ownsRow w.heap.size e size v n xs) (hw : Below w.heap.size w wr)
    (hg : ((wr.alloc o).alloc o').grownBy w5 v.ownBlock) : Below w.heap.size w w5 := by
  have h1 := hw.size
  exact ((hw.alloc h1 _).alloc (by simp; omega) _).grown hg (by simp; omega) (fun k hk => (owns_block ho k hk).1)

theorem Tryd.infoStr : (Tryd.prog.info? 9).map (fun i => (i.zero, i.size, i.bytes)) = some (some (.string ⟨#[]⟩), 1, 16) := by kernel_rfl

theorem below_drewN {B : Nat} {a w : World} (h : Below B a w) (n : Nat) : Below B a (w.drewN n) := ⟨h.os, h.tape, h.output, h.size, h.block⟩

theorem lexPost_open {w w' : World} {R : List Tk.Tok × Nat × Nat} {e : Ending} (h : LexPost w R e w') : ∃ A c, e = .returned (.tuple #[.slice A R.1.length c, .int .i64 (R.2.1 : Int), .int .i64 (R.2.2 : Int)]) ∧ TokS w' A R.1 ∧ Below w.heap.size w w' := by
  obtain ⟨v, rfl, hown, hb⟩ := h
  obtain ⟨A, c, rfl⟩ := owns_form hown
  exact ⟨A, c, rfl, TokS.of_own rfl hown, hb⟩

theorem lexGo_len (f : Nat) (l : List UInt8) (k : Nat) (acc : List Tk.Tok) (h : acc.length ≤ 4000) : (Tk.lexGo f l k acc).1.length ≤ 4001 := by
  induction f generalizing k acc with
  | zero => simp [Tk.lexGo]
  | succ f ih =>
    rw [Tk.lexGo]
    split
    · simp; omega
    · split
      · simp
      · split
        · simp
        · exact ih _ _ (by simp; omega)
theorem lex_len (l : List UInt8) : (Tk.lex l).1.length ≤ 4001 := by
  unfold Tk.lex
  split
  · simp
  · exact lexGo_len _ _ _ _ (by simp)


end Go.Proofs.YtjjooekkieddbaaDoor
