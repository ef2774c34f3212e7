/- What inParentheses, added, isName, wellFormed of package expr and the functions handed to its walk return. What wellFormed of package expr and the functions handed to its walk return. Plain functions on expressions: what Valid and Height of package expr answer, and lists of parts that are still to be visited. No statement of the program is proved in this file. Slices of structs that a call makes itself, with what their elements lead to. No statement of the program is proved in this file. Rows of arguments that a call makes itself. No statement of the program is proved in this file. What list of package parse does with arguments. What parameter, and list for parameters, of package parse do. What assignment, call and lock of package parse do. What branch, loop and statement of package parse do, where block is known. -/
import Derived.Test.YtlnbmmgbfgmboaaQ4
import Derived.Test.YtlnbmmgbfgmboaaQ2
import Derived.Deep.AppendLies
import Derived.Deep.LoopGhost
namespace Go.Proofs.Ytlnbmmgbfgmboaa
open Go.RowKit

/-- is Arg number k printed in parentheses -/
def inPar (op aop : Int) (k : Nat) : Bool := decide (Ps.strD aop < Ps.strD op) || (Ps.strD aop == Ps.strD op && k == 1)
theorem below_rev' {w w1 w2 : World} (h2 : Below w1.heap.size w1 w2) (h1 : Below w.heap.size w w1) : Below w.heap.size w w2 := h1.trans (h2.mono h1.size)
/-- what an expression puts around its Arg number k -/
def addV (op aop : Int) (k : Nat) : Nat := (if unB op then 1 else 0) + (if inPar op aop k then 1 else 0)
/-- is a text one name -/
def nmD (s : List UInt8) : Bool := (Tk.lex s).2.2 == 0 && (Ps.kindAt (Tk.lex s).1 0 == 1 && Ps.textAt (Tk.lex s).1 0 == s)

theorem lexLong_any (l : List UInt8) (ao : Option Addr) (cap : Nat) (w : World) (hl : 262144 < l.length) (hl2 : l.length ≤ 9223372036854775807) :
    Calls Try.prog 10 #[.slice ao l.length cap] w (LexPost w (Tk.lex l)) := by
  have HV : Hid (Tk.lex l = ([], 262144, 3)) := if_pos hl
  have hb0 : decide (262144 < l.length) = true := by simp; omega
  have hb1 : decide (262144 < (l.length : Int)) = true := by simp; omega
  go_enter Try.func10, Try.ntmps10
  go_wp2
  go_ret3
  rw [HV.out]
  exact ⟨_, rfl, World.ownsRow_nil _ _ _ _, Below.refl _ _⟩
theorem lexAll_any (l : List UInt8) (ao : Option Addr) (cap : Nat) (w : World) (hB : Byt w ao l) (hl : l.length ≤ 9223372036854775807) (hcap : l.length ≤ cap) :
    Calls Try.prog 10 #[.slice ao l.length cap] w (LexPost w (Tk.lex l)) := by
  by_cases h : l.length ≤ 262144
  · exact lex_any l ao cap w hB h hcap
  · exact lexLong_any l ao cap w (by omega) hl

theorem lexGo_ne (f : Nat) (l : List UInt8) (k : Nat) (acc : List Tk.Tok) (hf : 0 < f) (h : l.length - k < f) : (Tk.lexGo f l k acc).2.2 = 0 → (Tk.lexGo f l k acc).1 ≠ [] := by
  induction f generalizing k acc with
  | zero => omega
  | succ f ih =>
    rw [Tk.lexGo]
    split
    · intro _; simp
    · rename_i hk
      split
      · rename_i e he
        intro h0
        have := tok_err l k e he
        simp at h0
        omega
      · rename_i t ht
        split
        · intro h0; simp at h0
        · have h1 := tok_ok l k t (by omega) ht
          have h2 : k + t.text.length ≤ Tk.skipTo l (k + t.text.length) := by unfold Tk.skipTo; omega
          exact ih _ _ (by omega) (by omega)
theorem lex_ne (l : List UInt8) (h : (Tk.lex l).2.2 = 0) : 0 < (Tk.lex l).1.length := by
  unfold Tk.lex at h ⊢
  split at h
  · simp at h
  · rename_i hl
    rw [if_neg hl]
    have h1 : Tk.skipTo l 0 ≤ l.length := Tk.skipTo_le l 0 (Nat.zero_le _)
    have := lexGo_ne (l.length + 1) l (Tk.skipTo l 0) [] (by omega) (by omega) h
    exact List.length_pos_iff.2 this

end Go.Proofs.Ytlnbmmgbfgmboaa

namespace Go.Proofs.Ytlnbmmgbfgmboaa
open Go.RowKit

/-- is the head of an expression with n Args as it should be -/
def nodeV (op num : Int) (name : List UInt8) (n : Nat) : Bool :=
  if op = 1 then decide (0 ≤ num) && (name == [] && n == 0)
  else if op = 2 then num == 0 && (nmD name && n == 0)
  else if unB op then num == 0 && (name == [] && n == 1)
  else if biB op then num == 0 && (name == [] && n == 2)
  else false

/-- what Valid asks of each part, with so much around it -/
def visV (op num : Int) (name : List UInt8) (n a : Nat) : Bool := decide (a ≤ 24) && nodeV op num name n
theorem hv_end {w : World} {hb : Nat} {h v : Int} (m : Int) (hh : w.heap[hb]? = some (.cells #[.int .i64 h] 3 (0, 0))) (hv : v = m) (o : Obj) :
    ((w.setCell ⟨hb, 0, none⟩ (.int .i64 v)).alloc o).heap[hb]? = some (.cells #[.int .i64 m] 3 (0, 0)) ∧ w.grownBy ((w.setCell ⟨hb, 0, none⟩ (.int .i64 v)).alloc o) (some hb) := by
  subst hv
  have hlt : hb < w.heap.size := lt_of_block hh
  constructor
  · rw [Below.heap_alloc _ _ hb (by rw [setCell_size]; exact hlt)]
    simp [World.setCell, Array.getElem?_modify, hh]
  · refine ⟨rfl, rfl, rfl, by simp [World.setCell], fun b hb' hne => ?_⟩
    rw [Below.heap_alloc _ _ b (by rw [setCell_size]; exact hb'), Below.heap_setCell _ _ _ b (by simp; exact fun e => hne (by rw [e]))]

end Go.Proofs.Ytlnbmmgbfgmboaa

namespace Go.Proofs.Ytlnbmmgbfgmboaa
open Go.RowKit

mutual
def exCnt : Ex → Nat
  | .mk _ _ _ args => exCnts args + 1
def exCnts : List Ex → Nat
  | [] => 0
  | e :: r => exCnt e + exCnts r
end
mutual
def exV : Ex → Nat → Bool
  | .mk op num name args, a => visV op num name args.length a && exVs op a 0 args
def exVs (op : Int) (a : Nat) : Nat → List Ex → Bool
  | _, [] => true
  | k, e :: r => exV e (a + addV op e.op k) && exVs op a (k + 1) r
end
mutual
def exDm : Ex → Nat → Nat
  | .mk op _ _ args, a => max a (exDms op a 0 args)
def exDms (op : Int) (a : Nat) : Nat → List Ex → Nat
  | _, [] => 0
  | k, e :: r => max (exDm e (a + addV op e.op k)) (exDms op a (k + 1) r)
end
theorem exCnt_mk (op num : Int) (name : List UInt8) (args : List Ex) : exCnt (.mk op num name args) = exCnts args + 1 := by rw [exCnt]
theorem exV_mk (op num : Int) (name : List UInt8) (args : List Ex) (a : Nat) : exV (.mk op num name args) a = (visV op num name args.length a && exVs op a 0 args) := by rw [exV]
theorem exDm_mk (op num : Int) (name : List UInt8) (args : List Ex) (a : Nat) : exDm (.mk op num name args) a = max a (exDms op a 0 args) := by rw [exDm]

/-- a part that is to be visited: the expression, its fields, what is around it -/
structure It where
  x : Ex
  f : EF
  a : Nat
def itCells (l : List It) : List Value := l.flatMap fun i => [.int .i64 i.f.op, .int .i64 i.f.num, .string ⟨i.f.name.toArray⟩, .slice i.f.A i.f.n i.f.c, .int .i64 (i.a : Int)]
theorem itCells_snoc (l : List It) (i : It) : itCells (l ++ [i]) = itCells l ++ [.int .i64 i.f.op, .int .i64 i.f.num, .string ⟨i.f.name.toArray⟩, .slice i.f.A i.f.n i.f.c, .int .i64 (i.a : Int)] := by simp [itCells]
theorem itCells_len (l : List It) : (itCells l).length = l.length * 5 := by
  induction l with
  | nil => rfl
  | cons i r ih =>
    have : itCells (i :: r) = [.int .i64 i.f.op, .int .i64 i.f.num, .string ⟨i.f.name.toArray⟩, .slice i.f.A i.f.n i.f.c, .int .i64 (i.a : Int)] ++ itCells r := by simp [itCells]
    rw [this, List.length_append, ih]
    simp
    omega
def kidsI (op : Int) (a : Nat) (F : Nat → EF) : Nat → List Ex → List It
  | _, [] => []
  | k, e :: r => ⟨e, F k, a + addV op e.op k⟩ :: kidsI op a F (k + 1) r
theorem kidsI_len (op : Int) (a : Nat) (F : Nat → EF) (k : Nat) (args : List Ex) : (kidsI op a F k args).length = args.length := by
  induction args generalizing k with
  | nil => rfl
  | cons e r ih => rw [kidsI, List.length_cons, ih, List.length_cons]
theorem kidsI_snoc (op : Int) (a : Nat) (F : Nat → EF) (k : Nat) (args : List Ex) (m : Nat) (h : m < args.length) : kidsI op a F k (args.take (m + 1)) = kidsI op a F k (args.take m) ++ [⟨args[m], F (k + m), a + addV op args[m].op (k + m)⟩] := by
  induction args generalizing k m with
  | nil => simp at h
  | cons e r ih =>
    cases m with
    | zero => simp [kidsI]
    | succ m =>
      have := ih (k + 1) m (by simpa using h)
      rw [List.take_succ_cons, List.take_succ_cons, kidsI, kidsI, this]
      have e1 : k + 1 + m = k + (m + 1) := by omega
      rw [e1]
      simp
theorem kidsI_at (op : Int) (a : Nat) (F : Nat → EF) (k : Nat) (args : List Ex) (it : It) (h : it ∈ kidsI op a F k args) : ∃ i, ∃ hi : i < args.length, it = ⟨args[i], F (k + i), a + addV op args[i].op (k + i)⟩ := by
  induction args generalizing k with
  | nil => simp [kidsI] at h
  | cons e r ih =>
    rw [kidsI] at h
    rcases List.mem_cons.1 h with rfl | h
    · exact ⟨0, by simp, by simp⟩
    · obtain ⟨i, hi, he⟩ := ih (k + 1) h
      refine ⟨i + 1, by simpa using hi, ?_⟩
      rw [he]
      have e1 : k + 1 + i = k + (i + 1) := by omega
      rw [e1]
      simp

def vAll (l : List It) : Bool := l.all fun i => exV i.x i.a
def dMax : List It → Nat
  | [] => 0
  | i :: r => max (exDm i.x i.a) (dMax r)
def cSum : List It → Nat
  | [] => 0
  | i :: r => exCnt i.x + cSum r
theorem vAll_app (l m : List It) : vAll (l ++ m) = (vAll l && vAll m) := by simp [vAll]
theorem dMax_app (l m : List It) : dMax (l ++ m) = max (dMax l) (dMax m) := by
  induction l with
  | nil => simp [dMax]
  | cons i r ih => rw [List.cons_append, dMax, dMax, ih]; omega
theorem cSum_app (l m : List It) : cSum (l ++ m) = cSum l + cSum m := by
  induction l with
  | nil => simp [cSum]
  | cons i r ih => rw [List.cons_append, cSum, cSum, ih]; omega
theorem exVs_kids (op : Int) (a : Nat) (F : Nat → EF) (k : Nat) (args : List Ex) : exVs op a k args = vAll (kidsI op a F k args) := by
  induction args generalizing k with
  | nil => rw [exVs]; rfl
  | cons e r ih =>
    rw [exVs, kidsI, ih]
    rfl
theorem exDms_kids (op : Int) (a : Nat) (F : Nat → EF) (k : Nat) (args : List Ex) : exDms op a k args = dMax (kidsI op a F k args) := by
  induction args generalizing k with
  | nil => rw [exDms]; rfl
  | cons e r ih =>
    rw [exDms, kidsI, ih]
    rfl
theorem exCnts_kids (op : Int) (a : Nat) (F : Nat → EF) (k : Nat) (args : List Ex) : exCnts args = cSum (kidsI op a F k args) := by
  induction args generalizing k with
  | nil => rw [exCnts]; rfl
  | cons e r ih =>
    rw [exCnts, kidsI, ih (k + 1)]
    rfl
theorem exCnt_pos (x : Ex) : 0 < exCnt x := by
  cases x
  rw [exCnt]
  omega
theorem exCnts_at (args : List Ex) (i : Nat) (h : i < args.length) : exCnt args[i] ≤ exCnts args := by
  induction args generalizing i with
  | nil => simp at h
  | cons e r ih =>
    rw [exCnts]
    cases i with
    | zero => simp
    | succ i =>
      have := ih i (by simpa using h)
      simp
      omega
theorem exCnts_len (args : List Ex) : args.length ≤ exCnts args := by
  induction args with
  | nil => simp
  | cons e r ih =>
    rw [exCnts]
    have := exCnt_pos e
    simp
    omega
theorem cSum_len (l : List It) : l.length ≤ cSum l := by
  induction l with
  | nil => simp
  | cons i r ih =>
    rw [cSum]
    have := exCnt_pos i.x
    simp
    omega
theorem inPar_le (op aop : Int) (k : Nat) : addV op aop k ≤ 2 := by
  unfold addV
  split <;> split <;> omega

/-- a part that may be visited -/
def ItOk (w : World) (S : Nat → Prop) (C : Nat) (i : It) : Prop := ExM w S i.x i.f ∧ ExB i.x ∧ i.a + 2 * exCnt i.x ≤ 2 * C
theorem ItOk.kids {w : World} {S : Nat → Prop} {C : Nat} {op num : Int} {name : List UInt8} {args : List Ex} {f : EF} {a : Nat} (F : Nat → EF) (h : ItOk w S C ⟨.mk op num name args, f, a⟩) (hF : ∀ i (h : i < args.length), ExM w S args[i] (F i)) :
    ∀ it ∈ kidsI op a F 0 args, ItOk w S C it := by
  intro it hit
  obtain ⟨i, hi, rfl⟩ := kidsI_at op a F 0 args it hit
  obtain ⟨-, hB, hC⟩ := h
  dsimp only at hB hC
  have h1 := exCnts_at args i hi
  have h2 := inPar_le op args[i].op (0 + i)
  rw [exCnt_mk] at hC
  rw [Nat.zero_add] at h2
  refine ⟨by rw [Nat.zero_add]; exact hF i hi, ?_, by dsimp only; rw [Nat.zero_add]; omega⟩
  cases hB with
  | mk _ _ _ _ hl hn hs => exact hs i hi

end Go.Proofs.Ytlnbmmgbfgmboaa

namespace Go.Proofs.Ytlnbmmgbfgmboaa
open Go.RowKit

/-- a kind of elements: their cells, and what it means that the memory holds what they lead to -/
structure RowK (α : Type) where
  cl : α → List Value
  sz : Nat
  hsz : ∀ a, (cl a).length = sz
  one : ∀ a u, u ∈ cl a → u.oneCell' = true
  In : World → (Nat → Prop) → α → Prop
  keep : ∀ {w w' : World} {S : Nat → Prop} {a : α}, In w S a → (∀ b, S b → b < w.heap.size → w'.heap[b]? = w.heap[b]?) → In w' S a
  more : ∀ {w : World} {S S' : Nat → Prop} {a : α}, In w S a → (∀ b, S b → b < w.heap.size → S' b) → In w S' a
variable {α : Type}
def RowK.cs (K : RowK α) (P : List α) : List Value := P.flatMap K.cl
theorem RowK.cs_len (K : RowK α) (P : List α) : (K.cs P).length = P.length * K.sz := by
  induction P with
  | nil => simp [RowK.cs]
  | cons a r ih =>
    unfold RowK.cs at ih ⊢
    rw [List.flatMap_cons, List.length_append, ih, K.hsz, List.length_cons, Nat.succ_mul]
    omega
theorem RowK.cs_snoc (K : RowK α) (P : List α) (a : α) : K.cs (P ++ [a]) = K.cs P ++ K.cl a := by simp [RowK.cs, List.flatMap_append]
theorem RowK.cs_at (K : RowK α) (P : List α) (i j : Nat) (hi : i < P.length) (hj : j < K.sz) : (K.cs P)[i * K.sz + j]? = (K.cl P[i])[j]? := by
  induction P generalizing i with
  | nil => simp at hi
  | cons a r ih =>
    unfold RowK.cs at ih ⊢
    rw [List.flatMap_cons]
    cases i with
    | zero => rw [Nat.zero_mul, Nat.zero_add, List.getElem?_append_left (by rw [K.hsz]; exact hj)]; rfl
    | succ i =>
      rw [List.getElem?_append_right (by rw [K.hsz, Nat.succ_mul]; omega), K.hsz, Nat.succ_mul]
      have := ih i (by simpa using hi)
      rw [show i * K.sz + K.sz + j - K.sz = i * K.sz + j by omega, this]
      rfl
/-- v is a slice of the call's own (from block B on) with the elements P -/
def OwnR (K : RowK α) (t : TypeId) (w : World) (B : Nat) (v : Value) (P : List α) : Prop :=
  w.ownsRow B t K.sz v P.length (K.cs P) ∧ ∀ p ∈ P, K.In w (fun b => B ≤ b ∧ some b ≠ v.ownBlock) p
theorem OwnR.nil (K : RowK α) (t : TypeId) (w : World) (B : Nat) : OwnR K t w B (.slice none 0 0) [] := ⟨World.ownsRow_nil _ _ _ _, fun p h => absurd h (by simp)⟩
theorem OwnR.form {K : RowK α} {t : TypeId} {w : World} {B : Nat} {v : Value} {P : List α} (h : OwnR K t w B v P) : ∃ A c, v = .slice A P.length c := owns_form h.1
/-- other blocks may change -/
theorem OwnR.keep {K : RowK α} {t : TypeId} {w w' : World} {B : Nat} {v : Value} {P : List α} (h : OwnR K t w B v P) (_hs : w.heap.size ≤ w'.heap.size) (hk : ∀ b, B ≤ b → b < w.heap.size → w'.heap[b]? = w.heap[b]?) : OwnR K t w' B v P := by
  refine ⟨⟨h.1.1, ?_⟩, fun p hp => K.keep (h.2 p hp) fun b hb hl => hk b hb.1 hl⟩
  rcases h.1.2 with h0 | ⟨g, cap, cur, e, hg, hb, r⟩
  · exact .inl h0
  · exact .inr ⟨g, cap, cur, e, hg, (hk g hg (lt_of_block hb)).trans hb, r⟩
theorem OwnR.grown {K : RowK α} {t : TypeId} {w w' : World} {B g : Nat} {v : Value} {P : List α} (h : OwnR K t w B v P) (hG : w.grownBy w' (some g)) (hg : g < B) : OwnR K t w' B v P :=
  h.keep hG.size fun b hb hl => hG.block b hl (fun e => by injection e with e; omega)
theorem OwnR.alloc {K : RowK α} {t : TypeId} {w : World} {B : Nat} {v : Value} {P : List α} (h : OwnR K t w B v P) (o : Obj) : OwnR K t (w.alloc o) B v P :=
  h.keep (by simp) fun b _ hl => Below.heap_alloc w o b hl
/-- one element more -/
theorem OwnR.snoc {K : RowK α} {t : TypeId} {w w' : World} {B : Nat} {v v' : Value} {P : List α} {a : α} (h : OwnR K t w B v P) (ha : K.In w (fun b => B ≤ b ∧ some b ≠ v.ownBlock) a)
    (ho : w'.ownsRow B t K.sz v' (P.length + 1) (K.cs P ++ K.cl a)) (hg : w.grownBy w' v.ownBlock) (hv : v'.ownBlock = v.ownBlock ∨ ∃ k, v'.ownBlock = some k ∧ w.heap.size ≤ k) : OwnR K t w' B v' (P ++ [a]) := by
  have hin : ∀ p, K.In w (fun b => B ≤ b ∧ some b ≠ v.ownBlock) p → K.In w' (fun b => B ≤ b ∧ some b ≠ v'.ownBlock) p := fun p hp => by
    have h1 : K.In w' (fun b => (B ≤ b ∧ some b ≠ v.ownBlock) ∧ b < w.heap.size) p := K.keep (K.more hp (fun b hb hl => ⟨hb, hl⟩)) fun b hb hl => hg.block b hl hb.1.2
    refine K.more h1 fun b hb _ => ⟨hb.1.1, ?_⟩
    rcases hv with e | ⟨k, e, hk⟩
    · rw [e]; exact hb.1.2
    · rw [e]
      intro e2
      injection e2 with e2
      have := hb.2
      omega
  refine ⟨?_, fun p hp => ?_⟩
  · rw [K.cs_snoc, List.length_append]
    exact ho
  · rcases List.mem_append.1 hp with h1 | h1
    · exact hin p (h.2 p h1)
    · rw [List.mem_singleton.1 h1]
      exact hin a ha
/-- what lies in new blocks -/
theorem RowK.fresh (K : RowK α) {w : World} {N B : Nat} {v : Value} {t : TypeId} {P : List α} {a : α} {w0 : World} (hi : K.In w (N ≤ ·) a) (h0 : OwnR K t w0 B v P) (hN : w0.heap.size ≤ N) (hB : B ≤ N) : K.In w (fun b => B ≤ b ∧ some b ≠ v.ownBlock) a :=
  K.more hi fun b hb _ => ⟨by omega, fun e => by have := (h0.1.lt b e.symm).2; omega⟩
theorem lies_own {v : Value} {g n c : Nat} {w : World} (h : v.ownBlock = some g ∨ g = w.heap.size) : (Value.slice (some ⟨g, 0, none⟩) n c).ownBlock = v.ownBlock ∨ ∃ k, (Value.slice (some ⟨g, 0, none⟩) n c).ownBlock = some k ∧ w.heap.size ≤ k := by
  rcases h with h | h
  · exact .inl h.symm
  · exact .inr ⟨g, rfl, by omega⟩

theorem ExM.low' {w : World} {S : Nat → Prop} {E : Ex} {f : EF} (h : ExM w S E f) : ExM w (fun b => S b ∧ b < w.heap.size) E f := by
  induction h with
  | mk op num name args A c F hc hs ih =>
    refine .mk op num name args A c F (fun i hi => ?_) ih
    obtain ⟨b, off, e, hb, hat⟩ := hc i hi
    exact ⟨b, off, e, ⟨hb, hat.lt⟩, hat⟩
end Go.Proofs.Ytlnbmmgbfgmboaa

namespace Go.Proofs.Ytlnbmmgbfgmboaa
open Go.RowKit

/-- arguments -/
structure ArG where
  A : Option Addr
  n : Nat
  c : Nat
  f : EF
def arK : RowK (Ar × ArG) where
  cl := fun p => [.bool p.1.m, .string ⟨p.1.r.name.toArray⟩, .slice p.2.A p.2.n p.2.c, .int .i64 p.2.f.op, .int .i64 p.2.f.num, .string ⟨p.2.f.name.toArray⟩, .slice p.2.f.A p.2.f.n p.2.f.c]
  sz := 7
  hsz := fun _ => rfl
  one := fun p u hu => by
    simp at hu
    rcases hu with rfl | rfl | rfl | rfl | rfl | rfl | rfl <;> rfl
  In := fun w S p => IdxM w S p.1.r.idx p.2.A p.2.n ∧ ExM w S p.1.e p.2.f
  keep := fun h hk => ⟨h.1.keep hk, h.2.keep hk⟩
  more := fun {w S S' a} h hs => by
    refine ⟨?_, ?_⟩
    · have h1 := h.1
      cases hx : a.1.r.idx with
      | none => rw [hx] at h1; exact h1
      | some E =>
        rw [hx] at h1
        obtain ⟨hn, b, off, f, e, hb, hat, hM⟩ := h1
        exact ⟨hn, b, off, f, e, hs b hb hat.lt, hat, (hM.low' ).more fun b hb => hs b hb.1 hb.2⟩
    · exact h.2.low'.more fun b hb => hs b hb.1 hb.2
theorem arsM_of_own {t : TypeId} {w : World} {B n c : Nat} {A : Option Addr} {P : List (Ar × ArG)} (h : OwnR arK t w B (.slice A n c) P) : ArsM w (B ≤ ·) (P.map (·.1)) A := by
  intro i hi
  have hi' : i < P.length := by simpa using hi
  obtain ⟨A', c', e⟩ := h.form
  simp only [Value.slice.injEq] at e
  obtain ⟨-, rfl, rfl⟩ := e
  obtain ⟨g, hA, hg⟩ : ∃ g, A = some ⟨g, 0, none⟩ ∧ B ≤ g := by
    rcases h.1.2 with ⟨_, h0⟩ | ⟨g, cap', cur, e, hg, _⟩
    · omega
    · simp only [Value.slice.injEq] at e
      exact ⟨g, e.1, hg⟩
  subst hA
  have q : ∀ j, j < 7 → w.cell? ⟨g, i * 7 + j, none⟩ = (arK.cl P[i])[j]? := fun j hj => (World.ownsRow.cellAt h.1 _ (by show i * 7 + j < P.length * 7; omega)).trans (arK.cs_at P i j hi' hj)
  have hin := h.2 P[i] (List.getElem_mem hi')
  simp only [List.getElem_map]
  refine ⟨g, 0, rfl, hg, P[i].2.A, P[i].2.n, P[i].2.c, P[i].2.f, ?_, ?_, ?_, hin.1.more fun b hb => hb.1, ⟨?_, ?_, ?_, ?_⟩, hin.2.more fun b hb => hb.1⟩
  · rw [Nat.zero_add]; exact q 0 (by omega)
  · rw [Nat.zero_add]; exact q 1 (by omega)
  · rw [Nat.zero_add]; exact q 2 (by omega)
  · rw [Nat.zero_add]; exact q 3 (by omega)
  · rw [Nat.zero_add]; exact q 4 (by omega)
  · rw [Nat.zero_add]; exact q 5 (by omega)
  · rw [Nat.zero_add]; exact q 6 (by omega)
theorem Try.infoArg : (Try.prog.info? 102).map (fun i => (i.zero, i.size, i.bytes)) = some (some (.agg #[.bool false, .string ⟨#[]⟩, .slice none 0 0, .int .i64 0, .int .i64 0, .string ⟨#[]⟩, .slice none 0 0]), 7, 104) := by kernel_rfl
end Go.Proofs.Ytlnbmmgbfgmboaa

namespace Go.Proofs.Ytlnbmmgbfgmboaa
open Go.RowKit

theorem news_any (W : World) (g : Nat) (hg : g = W.heap.size) (cs : List Value) (t : TypeId) (j : Nat) (u : Value) (hj : cs[j]? = some u) : (W.alloc (.cells cs.toArray t)).cell? ((⟨g, 0, none⟩ : Addr).add j) = some u := by
  subst hg
  rw [Go.WideShapes.add_plain, Nat.zero_add, World.cell?_alloc_mark]
  simpa using hj
theorem lies_at {v : Value} {g n c H : Nat} {w : World} (h : v.ownBlock = some g ∨ g = H) (hH : w.heap.size = H) : (Value.slice (some ⟨g, 0, none⟩) n c).ownBlock = v.ownBlock ∨ ∃ k, (Value.slice (some ⟨g, 0, none⟩) n c).ownBlock = some k ∧ w.heap.size ≤ k :=
  lies_own (by rw [hH]; exact h)
end Go.Proofs.Ytlnbmmgbfgmboaa

namespace Go.Proofs.Ytlnbmmgbfgmboaa
open Go.RowKit

def pmS (ts : List Tk.Tok) (i : Nat) (σ : Pa.Sg) : Pa.Sg := if Pa.isS ts σ [109, 117, 116, 101, 120] = true ∨ Pa.kdS ts σ 1 = true then Pa.lm σ i 6 else σ
theorem sParam_eq (ts : List Tk.Tok) (i : Nat) (σ : Pa.Sg) : Pa.sParam ts i σ = (⟨Pa.nmV ts (Pa.ac ts (pmS ts i σ) [109, 117, 116, 101, 120]), Pa.isS ts (pmS ts i σ) [109, 117, 116, 101, 120]⟩, Pa.tk ts (Pa.ac ts (pmS ts i σ) [109, 117, 116, 101, 120]) 1) := rfl

/-- parameters -/
def pmK : RowK Pm where
  cl := fun p => [.string ⟨p.name.toArray⟩, .bool p.m]
  sz := 2
  hsz := fun _ => rfl
  one := fun p u hu => by
    simp at hu
    rcases hu with rfl | rfl <;> rfl
  In := fun _ _ _ => True
  keep := fun _ _ => trivial
  more := fun _ _ => trivial
/-- a slice of parameters -/
def PmsM (w : World) (S : Nat → Prop) (l : List Pm) (A : Option Addr) : Prop :=
  ∀ i (h : i < l.length), ∃ b off, A = some ⟨b, off, none⟩ ∧ S b ∧ w.cell? ⟨b, off + i * 2, none⟩ = some (.string ⟨l[i].name.toArray⟩) ∧ w.cell? ⟨b, off + i * 2 + 1, none⟩ = some (.bool l[i].m)
theorem pmsM_of_own {t : TypeId} {w : World} {B n c : Nat} {A : Option Addr} {P : List Pm} (h : OwnR pmK t w B (.slice A n c) P) : PmsM w (B ≤ ·) P A := by
  intro i hi
  obtain ⟨A', c', e⟩ := h.form
  simp only [Value.slice.injEq] at e
  obtain ⟨-, rfl, rfl⟩ := e
  obtain ⟨g, hA, hg⟩ : ∃ g, A = some ⟨g, 0, none⟩ ∧ B ≤ g := by
    rcases h.1.2 with ⟨_, h0⟩ | ⟨g, cap', cur, e, hg, _⟩
    · omega
    · simp only [Value.slice.injEq] at e
      exact ⟨g, e.1, hg⟩
  subst hA
  have q : ∀ j, j < 2 → w.cell? ⟨g, i * 2 + j, none⟩ = (pmK.cl P[i])[j]? := fun j hj => (World.ownsRow.cellAt h.1 _ (by show i * 2 + j < P.length * 2; omega)).trans (pmK.cs_at P i j hi hj)
  refine ⟨g, 0, rfl, hg, ?_, ?_⟩
  · rw [Nat.zero_add]; exact q 0 (by omega)
  · rw [Nat.zero_add]; exact q 1 (by omega)
theorem Try.infoPar : (Try.prog.info? 72).map (fun i => (i.zero, i.size, i.bytes)) = some (some (.agg #[.string ⟨#[]⟩, .bool false]), 2, 24) := by kernel_rfl
end Go.Proofs.Ytlnbmmgbfgmboaa

namespace Go.Proofs.Ytlnbmmgbfgmboaa
open Go.RowKit

theorem new2 (w : World) (o1 o2 : Obj) : ((w.alloc o1).alloc o2).heap[w.heap.size]? = some o1 ∧ ((w.alloc o1).alloc o2).heap[w.heap.size + 1]? = some o2 := by
  refine ⟨(Below.heap_alloc _ _ _ (by simp)).trans (heap_alloc_new w o1), ?_⟩
  have := heap_alloc_new (w.alloc o1) o2
  rw [show (w.alloc o1).heap.size = w.heap.size + 1 by simp] at this
  exact this
theorem blkset_any {w : World} {X : Nat} {cs : Array Value} {t : TypeId} (j : Nat) (u : Value) (h : w.heap[X]? = some (.cells cs t (0, 0))) : (w.setCell ⟨X, j, none⟩ u).heap[X]? = some (.cells (cs.setIfInBounds j u) t (0, 0)) := by
  simp [World.setCell, Array.getElem?_modify]
  exact ⟨_, h, rfl⟩
theorem ArsM.more {w : World} {S S' : Nat → Prop} {l : List Ar} {A : Option Addr} (h : ArsM w S l A) (hs : ∀ b, S b → b < w.heap.size → S' b) : ArsM w S' l A := by
  intro i hi
  obtain ⟨b, off, e, hb, A', n, c, f, h0, h1, h2, hI, hat, hE⟩ := h i hi
  refine ⟨b, off, e, hs b hb hat.lt, A', n, c, f, h0, h1, h2, ?_, hat, hE.low'.more fun b hb => hs b hb.1 hb.2⟩
  cases hx : l[i].r.idx with
  | none => rw [hx] at hI; exact hI
  | some E =>
    rw [hx] at hI
    obtain ⟨hn, b, off, f, e, hb, hat, hM⟩ := hI
    exact ⟨hn, b, off, f, e, hs b hb hat.lt, hat, hM.low'.more fun b hb => hs b hb.1 hb.2⟩
theorem IdxM.more' {w : World} {S S' : Nat → Prop} {E : Option Ex} {A : Option Addr} {n : Nat} (h : IdxM w S E A n) (hs : ∀ b, S b → b < w.heap.size → S' b) : IdxM w S' E A n := by
  cases E with
  | none => exact h
  | some E =>
    obtain ⟨hn, b, off, f, e, hb, hat, hM⟩ := h
    exact ⟨hn, b, off, f, e, hs b hb hat.lt, hat, hM.low'.more fun b hb => hs b hb.1 hb.2⟩
theorem StM.more {w : World} {S S' : Nat → Prop} {s : St} {G : SG} (h : StM w S s G) (hs : ∀ b, S b → b < w.heap.size → S' b) : StM w S' s G := by
  induction h with
  | mk kind name e r args thn els g T E he hr ha htc hts hec hes iht ihe =>
    refine .mk kind name e r args thn els g T E (he.low'.more fun b hb => hs b hb.1 hb.2) (hr.more' hs) (ha.more hs) (fun i hi => ?_) iht (fun i hi => ?_) ihe
    · obtain ⟨b, off, e, hb, hc⟩ := htc i hi
      exact ⟨b, off, e, hs b hb hc.lt, hc⟩
    · obtain ⟨b, off, e, hb, hc⟩ := hec i hi
      exact ⟨b, off, e, hs b hb hc.lt, hc⟩
theorem StsM.nil (w : World) (S : Nat → Prop) (A : Option Addr) : StsM w S [] A := ⟨fun _ => ⟨⟨0, 0, [], none, 0, 0⟩, none, 0, 0, none, 0, none, 0, none, 0⟩, fun i hi => absurd hi (by simp), fun i hi => absurd hi (by simp)⟩
theorem stM_mk {w : World} {S : Nat → Prop} (kind : Int) (name : List UInt8) (e : Ex) (r : Rf) (args : List Ar) (thn els : List St) (G : SG) (he : ExM w S e G.f) (hr : IdxM w S r.idx G.rA G.rn) (ha : ArsM w S args G.aA) (ht : StsM w S thn G.tA) (hl : StsM w S els G.eA) : StM w S (.mk kind name e r args thn els) G := by
  obtain ⟨T, h1, h2⟩ := ht
  obtain ⟨E, h3, h4⟩ := hl
  exact .mk kind name e r args thn els G T E he hr ha h1 h2 h3 h4
theorem ArsM.nil (w : World) (S : Nat → Prop) (A : Option Addr) : ArsM w S [] A := fun i hi => absurd hi (by simp)
/-- a statement's value -/
def stVal (s : St) (G : SG) : Value := .agg #[.int .i64 s.kind, .string ⟨s.name.toArray⟩, .int .i64 G.f.op, .int .i64 G.f.num, .string ⟨G.f.name.toArray⟩, .slice G.f.A G.f.n G.f.c, .string ⟨s.rf.name.toArray⟩, .slice G.rA G.rn G.rc, .slice G.aA s.ars.length G.ac, .slice G.tA s.thn.length G.tc, .slice G.eA s.els.length G.ec]
theorem ArsM.putAt {w w' : World} {r N : Nat} {l : List Ar} {A : Option Addr} (h : ArsM w (N ≤ ·) l A) (hp : PutAt r w w') (hr : r < N) : ArsM w' (N ≤ ·) l A := h.keep fun b hb _ => hp.2.2.2.2 b (by omega)
theorem StsM.putAt {w w' : World} {r N : Nat} {l : List St} {A : Option Addr} (h : StsM w (N ≤ ·) l A) (hp : PutAt r w w') (hr : r < N) : StsM w' (N ≤ ·) l A := h.keep fun b hb _ => hp.2.2.2.2 b (by omega)
theorem StM.putAt {w w' : World} {r N : Nat} {s : St} {G : SG} (h : StM w (N ≤ ·) s G) (hp : PutAt r w w') (hr : r < N) : StM w' (N ≤ ·) s G := h.keep fun b hb _ => hp.2.2.2.2 b (by omega)
theorem ExM.gr {w w' : World} {g N : Nat} {E : Ex} {f : EF} (h : ExM w (N ≤ ·) E f) (hG : w.grownBy w' (some g)) (hg : g < N) : ExM w' (N ≤ ·) E f := h.keep fun b hb hl => hG.block b hl (fun e => by injection e with e; omega)
theorem IdxM.gr {w w' : World} {g N : Nat} {E : Option Ex} {A : Option Addr} {n : Nat} (h : IdxM w (N ≤ ·) E A n) (hG : w.grownBy w' (some g)) (hg : g < N) : IdxM w' (N ≤ ·) E A n := h.keep fun b hb hl => hG.block b hl (fun e => by injection e with e; omega)
theorem ArsM.gr {w w' : World} {g N : Nat} {l : List Ar} {A : Option Addr} (h : ArsM w (N ≤ ·) l A) (hG : w.grownBy w' (some g)) (hg : g < N) : ArsM w' (N ≤ ·) l A := h.keep fun b hb hl => hG.block b hl (fun e => by injection e with e; omega)
theorem StsM.gr {w w' : World} {g N : Nat} {l : List St} {A : Option Addr} (h : StsM w (N ≤ ·) l A) (hG : w.grownBy w' (some g)) (hg : g < N) : StsM w' (N ≤ ·) l A := h.keep fun b hb hl => hG.block b hl (fun e => by injection e with e; omega)

end Go.Proofs.Ytlnbmmgbfgmboaa

namespace Go.Proofs.Ytlnbmmgbfgmboaa
open Go.RowKit

theorem StsM.more {w : World} {S S' : Nat → Prop} {l : List St} {A : Option Addr} (h : StsM w S l A) (hs : ∀ b, S b → b < w.heap.size → S' b) : StsM w S' l A := by
  obtain ⟨F, h1, h2⟩ := h
  refine ⟨F, fun i hi => ?_, fun i hi => (h2 i hi).more hs⟩
  obtain ⟨b, off, e, hb, hc⟩ := h1 i hi
  exact ⟨b, off, e, hs b hb hc.lt, hc⟩
/-- the parts lie between two blocks -/
theorem ExM.mid {w w' : World} {M N : Nat} {E : Ex} {f : EF} (h : ExM w (fun b => M ≤ b ∧ b < N) E f) (hk : ∀ b, M ≤ b → b < N → b < w.heap.size → w'.heap[b]? = w.heap[b]?) : ExM w' (fun b => M ≤ b ∧ b < N) E f := h.keep fun b hb hl => hk b hb.1 hb.2 hl

end Go.Proofs.Ytlnbmmgbfgmboaa
