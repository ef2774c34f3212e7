/- What Height of the reference returns: the plain function exHt. -/
import Derived.Test.YtobpnpkcafacjaaRefText
namespace Go.Proofs.Ytobpnpkcafacjaa
open Go.RowKit

mutual
def exHt : Ex → Nat
  | .mk op _ _ args => exHts op 0 args 0 + (if strV op = 5 then 1 else 0)
def exHts (op : Int) : Nat → List Ex → Nat → Nat
  | _, [], h => h
  | k, e :: r, h => exHts op (k + 1) r (max h (exHt e + (if innerV op e.op k then 1 else 0)))
end
def htPart (op : Int) (k : Nat) (e : Ex) : Nat := exHt e + (if innerV op e.op k then 1 else 0)
theorem exHt_mk (op num : Int) (name : List UInt8) (args : List Ex) : exHt (.mk op num name args) = exHts op 0 args 0 + (if strV op = 5 then 1 else 0) := by rw [exHt]
theorem exHts_cons (op : Int) (k : Nat) (e : Ex) (r : List Ex) (h : Nat) : exHts op k (e :: r) h = exHts op (k + 1) r (max h (htPart op k e)) := by rw [exHts, htPart]
theorem exHts_nil (op : Int) (k h : Nat) : exHts op k [] h = h := by rw [exHts]
theorem exHts_snoc (op : Int) (k : Nat) (args : List Ex) (m h : Nat) (hm : m < args.length) : exHts op k (args.take (m + 1)) h = max (exHts op k (args.take m) h) (htPart op (k + m) args[m]) := by
  induction args generalizing k m h with
  | nil => simp at hm
  | cons e r ih =>
    cases m with
    | zero => simp [exHts_cons, exHts_nil]
    | succ m =>
      have := ih (k + 1) m (max h (htPart op k e)) (by simpa using hm)
      rw [List.take_succ_cons, List.take_succ_cons, exHts_cons, exHts_cons, this]
      congr 2
      omega
theorem exHts_ge (op : Int) (k : Nat) (args : List Ex) (h : Nat) : h ≤ exHts op k args h := by
  induction args generalizing k h with
  | nil => rw [exHts_nil]; exact Nat.le_refl _
  | cons e r ih =>
    rw [exHts_cons]
    exact Nat.le_trans (Nat.le_max_left _ _) (ih _ _)
theorem exHts_take (op : Int) (k : Nat) (args : List Ex) (m h : Nat) : exHts op k (args.take m) h ≤ exHts op k args h := by
  induction args generalizing k m h with
  | nil => simp
  | cons e r ih =>
    cases m with
    | zero => rw [List.take_zero, exHts_nil]; exact exHts_ge _ _ _ _
    | succ m => rw [List.take_succ_cons, exHts_cons, exHts_cons]; exact ih _ _ _
theorem exHts_part (op : Int) (args : List Ex) (m : Nat) (hm : m < args.length) : htPart op m args[m] ≤ exHts op 0 args 0 := by
  have h1 := exHts_snoc op 0 args m 0 hm
  have h2 := exHts_take op 0 args (m + 1) 0
  rw [Nat.zero_add] at h1
  omega

/-- expressions with lists of Args that can be counted -/
inductive ExB : Ex → Prop
  | mk (op num : Int) (name : List UInt8) (args : List Ex) (hl : args.length ≤ 1000000) (hn : name.length ≤ 9223372036854775807) (hs : ∀ i (h : i < args.length), ExB args[i]) : ExB (.mk op num name args)

end Go.Proofs.Ytobpnpkcafacjaa
