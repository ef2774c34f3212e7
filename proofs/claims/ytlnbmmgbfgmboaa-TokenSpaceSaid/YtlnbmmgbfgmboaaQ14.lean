/- The text of a program as a plain function, and how long it is. No statement of the program is proved in this file. -/
import Derived.Test.YtlnbmmgbfgmboaaQ3
namespace Go.Proofs.Ytlnbmmgbfgmboaa
open Go.RowKit

def glText (g : Gl) : List UInt8 := [118, 97, 114, 32] ++ (g.name ++ ((if g.init = 0 then [] else [32, 61, 32] ++ numText g.init) ++ [59, 10]))
def mxText (m : Mx) : List UInt8 := (if m.re then [114] else []) ++ ([109, 117, 116, 101, 120, 32] ++ (m.name ++ ((if m.size = 0 then [] else [91] ++ (numText (m.size : Int) ++ [93])) ++ [59, 10])))
def pmText (p : Pm) : List UInt8 := (if p.m then [109, 117, 116, 101, 120, 32] else []) ++ p.name
/-- the text of the first k parameters -/
def pmsPre (l : List Pm) : Nat → List UInt8
  | 0 => []
  | k + 1 => pmsPre l k ++ ((if 0 < k then [44, 32] else []) ++ (l[k]?.map pmText).getD [])
theorem pmsPre_succ (l : List Pm) (k : Nat) (h : k < l.length) : pmsPre l (k + 1) = pmsPre l k ++ ((if 0 < k then [44, 32] else []) ++ pmText l[k]) := by
  rw [pmsPre, List.getElem?_eq_getElem h]
  rfl
theorem pmsPre_mono (l : List Pm) (k n : Nat) (h : k ≤ n) : (pmsPre l k).length ≤ (pmsPre l n).length := by
  induction n with
  | zero => have : k = 0 := by omega
            subst this; exact Nat.le_refl _
  | succ n ih =>
    by_cases hk : k = n + 1
    · subst hk; exact Nat.le_refl _
    · have := ih (by omega)
      rw [pmsPre, List.length_append]
      omega
/-- the text of a function before its body -/
def fnHead (f : Fn) : List UInt8 := [102, 117, 110, 99, 32] ++ (f.name ++ ([40] ++ pmsPre f.ps f.ps.length))
def fnText (f : Fn) : List UInt8 := fnHead f ++ ([41, 32, 123, 10] ++ (linesText f.body [9] ++ [125, 10]))
def catT {α : Type} (F : α → List UInt8) : List α → List UInt8
  | [] => []
  | a :: r => F a ++ catT F r
theorem catT_app {α : Type} (F : α → List UInt8) (a b : List α) : catT F (a ++ b) = catT F a ++ catT F b := by
  induction a with
  | nil => rfl
  | cons x r ih => rw [List.cons_append, catT, catT, ih, List.append_assoc]
theorem catT_snoc {α : Type} (F : α → List UInt8) (l : List α) (m : Nat) (h : m < l.length) : catT F (l.take (m + 1)) = catT F (l.take m) ++ F l[m] := by
  rw [← List.take_append_getElem h, catT_app, catT, catT, List.append_nil]
theorem catT_mono {α : Type} (F : α → List UInt8) (l : List α) (k : Nat) : (catT F (l.take k)).length ≤ (catT F l).length := by
  have h := List.take_append_drop k l
  have : catT F l = catT F (l.take k) ++ catT F (l.drop k) := by rw [← catT_app, h]
  rw [this, List.length_append]
  omega
theorem catT_len {α : Type} (F : α → List UInt8) (K : Nat) (l : List α) (h : ∀ a ∈ l, (F a).length ≤ K) : (catT F l).length ≤ l.length * K := by
  induction l with
  | nil => simp [catT]
  | cons x r ih =>
    have h1 := h x (by simp)
    have h2 := ih fun a ha => h a (by simp [ha])
    rw [catT, List.length_append, List.length_cons, Nat.add_mul]
    omega
def pgText (p : Pg) : List UInt8 := catT glText p.gs ++ (catT mxText p.ms ++ catT fnText p.fs)
/-- what must hold of a program so that its text is made -/
structure PgT (p : Pg) : Prop where
  gl : p.gs.length ≤ 1000000
  ml : p.ms.length ≤ 1000000
  fl : p.fs.length ≤ 1000000
  g : ∀ i (h : i < p.gs.length), -9223372036854775808 ≤ p.gs[i].init ∧ p.gs[i].init ≤ 9223372036854775807
  m : ∀ i (h : i < p.ms.length), p.ms[i].size ≤ 9223372036854775807
  f : ∀ i (h : i < p.fs.length), p.fs[i].ps.length ≤ 1000000 ∧ ∀ j (h' : j < p.fs[i].body.length), StOk p.fs[i].body[j]
  t : (pgText p).length ≤ 1000000000
theorem gl_len {g : Gl} (h : nameB g.name = true) : (glText g).length ≤ 60 := by
  have := (nameB_len h).2
  have := numText_len g.init
  unfold glText
  split <;> simp <;> omega
theorem mx_len {m : Mx} (h : nameB m.name = true) : (mxText m).length ≤ 60 := by
  have := (nameB_len h).2
  have := numText_len (m.size : Int)
  unfold mxText
  split <;> split <;> simp <;> omega
theorem pm_len {p : Pm} (h : nameB p.name = true) : (pmText p).length ≤ 22 := by
  have := (nameB_len h).2
  unfold pmText
  split <;> simp <;> omega
theorem pms_len (l : List Pm) (h : ∀ j (h : j < l.length), nameB l[j].name = true) (k : Nat) (hk : k ≤ l.length) : (pmsPre l k).length ≤ k * 24 := by
  induction k with
  | zero => simp [pmsPre]
  | succ k ih =>
    have h1 := ih (by omega)
    have h2 := pm_len (h k (by omega))
    rw [pmsPre_succ l k (by omega), List.length_append, List.length_append]
    split <;> simp <;> omega
theorem fn_len {f : Fn} (hn : nameB f.name = true) (hl : f.ps.length ≤ 2) (hp : ∀ j (h : j < f.ps.length), nameB f.ps[j].name = true) (hb : ∀ j (h : j < f.body.length), MdS 2 f.body[j]) (hs : stNs f.body ≤ 48) : (fnText f).length ≤ 25000 := by
  have h0 := (nameB_len hn).2
  have h1 := pms_len f.ps hp f.ps.length (Nat.le_refl _)
  have h2 := lines_bound f.body [9] _ (fun i hi => st_bound (hb i hi) [9])
  have h3 : (linesText f.body [9]).length ≤ 48 * 509 := Nat.le_trans h2 (Nat.mul_le_mul hs (by simp))
  have h4 : f.ps.length * 24 ≤ 48 := by omega
  unfold fnText fnHead
  simp
  omega
theorem MdP.text {P : Pg} (h : MdP P) : (pgText P).length ≤ 101000 := by
  have h1 := catT_len glText 60 P.gs fun a ha => by
    obtain ⟨i, hi, rfl⟩ := List.mem_iff_getElem.1 ha
    exact gl_len (h.g i hi).1
  have h2 := catT_len mxText 60 P.ms fun a ha => by
    obtain ⟨i, hi, rfl⟩ := List.mem_iff_getElem.1 ha
    exact mx_len (h.m i hi).1
  have h3 := catT_len fnText 25000 P.fs fun a ha => by
    obtain ⟨i, hi, rfl⟩ := List.mem_iff_getElem.1 ha
    obtain ⟨a1, a2, a3, a4, a5⟩ := h.f i hi
    exact fn_len a1 a2 a3 a4 a5
  have := h.gl
  have := h.ml
  have := h.fl
  unfold pgText
  rw [List.length_append, List.length_append]
  omega
theorem MdP.t {P : Pg} (h : MdP P) : PgT P := by
  have hx := h.text
  refine ⟨by have := h.gl; omega, by have := h.ml; omega, by have := h.fl; omega, fun i hi => by have := h.g i hi; omega, fun i hi => by have := h.m i hi; omega, fun i hi => ⟨by have := (h.f i hi).2.1; omega, fun j hj => ((h.f i hi).2.2.2.1 j hj).ok⟩, by omega⟩
end Go.Proofs.Ytlnbmmgbfgmboaa
