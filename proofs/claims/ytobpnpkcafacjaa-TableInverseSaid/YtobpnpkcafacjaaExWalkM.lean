/- Plain functions on expressions: what Valid and Height of package expr answer, and lists of parts that are still to be visited. No statement of the program is proved in this file. -/
import Derived.Test.YtobpnpkcafacjaaExWalk1
import Derived.Test.YtobpnpkcafacjaaRefHeight
namespace Go.Proofs.Ytobpnpkcafacjaa
open Go.RowKit

mutual
def exCnt : Ex → Nat
  | .mk _ _ _ args => exCnts args + 1
def exCnts : List Ex → Nat
  | [] => 0
  | e :: r => exCnt e + exCnts r
end
mutual
def exV : Ex → Nat → Bool
  | .mk op num name args, a => visV op num name args.length a && exVs op a 0 args
def exVs (op : Int) (a : Nat) : Nat → List Ex → Bool
  | _, [] => true
  | k, e :: r => exV e (a + addV op e.op k) && exVs op a (k + 1) r
end
mutual
def exDm : Ex → Nat → Nat
  | .mk op _ _ args, a => max a (exDms op a 0 args)
def exDms (op : Int) (a : Nat) : Nat → List Ex → Nat
  | _, [] => 0
  | k, e :: r => max (exDm e (a + addV op e.op k)) (exDms op a (k + 1) r)
end
theorem exCnt_mk (op num : Int) (name : List UInt8) (args : List Ex) : exCnt (.mk op num name args) = exCnts args + 1 := by rw [exCnt]
theorem exV_mk (op num : Int) (name : List UInt8) (args : List Ex) (a : Nat) : exV (.mk op num name args) a = (visV op num name args.length a && exVs op a 0 args) := by rw [exV]
theorem exDm_mk (op num : Int) (name : List UInt8) (args : List Ex) (a : Nat) : exDm (.mk op num name args) a = max a (exDms op a 0 args) := by rw [exDm]

/-- a part that is to be visited: the expression, its fields, what is around it -/
structure It where
  x : Ex
  f : EF
  a : Nat
def itCells (l : List It) : List Value := l.flatMap fun i => [.int .i64 i.f.op, .int .i64 i.f.num, .string ⟨i.f.name.toArray⟩, .slice i.f.A i.f.n i.f.c, .int .i64 (i.a : Int)]
theorem itCells_snoc (l : List It) (i : It) : itCells (l ++ [i]) = itCells l ++ [.int .i64 i.f.op, .int .i64 i.f.num, .string ⟨i.f.name.toArray⟩, .slice i.f.A i.f.n i.f.c, .int .i64 (i.a : Int)] := by simp [itCells]
theorem itCells_len (l : List It) : (itCells l).length = l.length * 5 := by
  induction l with
  | nil => rfl
  | cons i r ih =>
    have : itCells (i :: r) = [.int .i64 i.f.op, .int .i64 i.f.num, .string ⟨i.f.name.toArray⟩, .slice i.f.A i.f.n i.f.c, .int .i64 (i.a : Int)] ++ itCells r := by simp [itCells]
    rw [this, List.length_append, ih]
    simp
    omega
def kidsI (op : Int) (a : Nat) (F : Nat → EF) : Nat → List Ex → List It
  | _, [] => []
  | k, e :: r => ⟨e, F k, a + addV op e.op k⟩ :: kidsI op a F (k + 1) r
theorem kidsI_len (op : Int) (a : Nat) (F : Nat → EF) (k : Nat) (args : List Ex) : (kidsI op a F k args).length = args.length := by
  induction args generalizing k with
  | nil => rfl
  | cons e r ih => rw [kidsI, List.length_cons, ih, List.length_cons]
theorem kidsI_snoc (op : Int) (a : Nat) (F : Nat → EF) (k : Nat) (args : List Ex) (m : Nat) (h : m < args.length) : kidsI op a F k (args.take (m + 1)) = kidsI op a F k (args.take m) ++ [⟨args[m], F (k + m), a + addV op args[m].op (k + m)⟩] := by
  induction args generalizing k m with
  | nil => simp at h
  | cons e r ih =>
    cases m with
    | zero => simp [kidsI]
    | succ m =>
      have := ih (k + 1) m (by simpa using h)
      rw [List.take_succ_cons, List.take_succ_cons, kidsI, kidsI, this]
      have e1 : k + 1 + m = k + (m + 1) := by omega
      rw [e1]
      simp
theorem kidsI_at (op : Int) (a : Nat) (F : Nat → EF) (k : Nat) (args : List Ex) (it : It) (h : it ∈ kidsI op a F k args) : ∃ i, ∃ hi : i < args.length, it = ⟨args[i], F (k + i), a + addV op args[i].op (k + i)⟩ := by
  induction args generalizing k with
  | nil => simp [kidsI] at h
  | cons e r ih =>
    rw [kidsI] at h
    rcases List.mem_cons.1 h with rfl | h
    · exact ⟨0, by simp, by simp⟩
    · obtain ⟨i, hi, he⟩ := ih (k + 1) h
      refine ⟨i + 1, by simpa using hi, ?_⟩
      rw [he]
      have e1 : k + 1 + i = k + (i + 1) := by omega
      rw [e1]
      simp

def vAll (l : List It) : Bool := l.all fun i => exV i.x i.a
def dMax : List It → Nat
  | [] => 0
  | i :: r => max (exDm i.x i.a) (dMax r)
def cSum : List It → Nat
  | [] => 0
  | i :: r => exCnt i.x + cSum r
theorem vAll_app (l m : List It) : vAll (l ++ m) = (vAll l && vAll m) := by simp [vAll]
theorem dMax_app (l m : List It) : dMax (l ++ m) = max (dMax l) (dMax m) := by
  induction l with
  | nil => simp [dMax]
  | cons i r ih => rw [List.cons_append, dMax, dMax, ih]; omega
theorem cSum_app (l m : List It) : cSum (l ++ m) = cSum l + cSum m := by
  induction l with
  | nil => simp [cSum]
  | cons i r ih => rw [List.cons_append, cSum, cSum, ih]; omega
theorem exVs_kids (op : Int) (a : Nat) (F : Nat → EF) (k : Nat) (args : List Ex) : exVs op a k args = vAll (kidsI op a F k args) := by
  induction args generalizing k with
  | nil => rw [exVs]; rfl
  | cons e r ih =>
    rw [exVs, kidsI, ih]
    rfl
theorem exDms_kids (op : Int) (a : Nat) (F : Nat → EF) (k : Nat) (args : List Ex) : exDms op a k args = dMax (kidsI op a F k args) := by
  induction args generalizing k with
  | nil => rw [exDms]; rfl
  | cons e r ih =>
    rw [exDms, kidsI, ih]
    rfl
theorem exCnts_kids (op : Int) (a : Nat) (F : Nat → EF) (k : Nat) (args : List Ex) : exCnts args = cSum (kidsI op a F k args) := by
  induction args generalizing k with
  | nil => rw [exCnts]; rfl
  | cons e r ih =>
    rw [exCnts, kidsI, ih (k + 1)]
    rfl
theorem exCnt_pos (x : Ex) : 0 < exCnt x := by
  cases x
  rw [exCnt]
  omega
theorem exCnts_at (args : List Ex) (i : Nat) (h : i < args.length) : exCnt args[i] ≤ exCnts args := by
  induction args generalizing i with
  | nil => simp at h
  | cons e r ih =>
    rw [exCnts]
    cases i with
    | zero => simp
    | succ i =>
      have := ih i (by simpa using h)
      simp
      omega
theorem exCnts_len (args : List Ex) : args.length ≤ exCnts args := by
  induction args with
  | nil => simp
  | cons e r ih =>
    rw [exCnts]
    have := exCnt_pos e
    simp
    omega
theorem cSum_len (l : List It) : l.length ≤ cSum l := by
  induction l with
  | nil => simp
  | cons i r ih =>
    rw [cSum]
    have := exCnt_pos i.x
    simp
    omega
theorem inPar_le (op aop : Int) (k : Nat) : addV op aop k ≤ 2 := by
  unfold addV
  split <;> split <;> omega

/-- a part that may be visited -/
def ItOk (w : World) (S : Nat → Prop) (C : Nat) (i : It) : Prop := ExM w S i.x i.f ∧ ExB i.x ∧ i.a + 2 * exCnt i.x ≤ 2 * C
theorem ItOk.kids {w : World} {S : Nat → Prop} {C : Nat} {op num : Int} {name : List UInt8} {args : List Ex} {f : EF} {a : Nat} (F : Nat → EF) (h : ItOk w S C ⟨.mk op num name args, f, a⟩) (hF : ∀ i (h : i < args.length), ExM w S args[i] (F i)) :
    ∀ it ∈ kidsI op a F 0 args, ItOk w S C it := by
  intro it hit
  obtain ⟨i, hi, rfl⟩ := kidsI_at op a F 0 args it hit
  obtain ⟨-, hB, hC⟩ := h
  dsimp only at hB hC
  have h1 := exCnts_at args i hi
  have h2 := inPar_le op args[i].op (0 + i)
  rw [exCnt_mk] at hC
  rw [Nat.zero_add] at h2
  refine ⟨by rw [Nat.zero_add]; exact hF i hi, ?_, by dsimp only; rw [Nat.zero_add]; omega⟩
  cases hB with
  | mk _ _ _ _ hl hn hs => exact hs i hi

end Go.Proofs.Ytobpnpkcafacjaa
