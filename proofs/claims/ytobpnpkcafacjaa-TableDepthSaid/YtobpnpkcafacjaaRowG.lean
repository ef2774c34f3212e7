/- Slices of structs that a call makes itself, with what their elements lead to. No statement of the program is proved in this file. -/
import Derived.Test.YtobpnpkcafacjaaExWalkM
import Derived.Deep.AppendLies
namespace Go.Proofs.Ytobpnpkcafacjaa
open Go.RowKit

/-- a kind of elements: their cells, and what it means that the memory holds what they lead to -/
structure RowK (α : Type) where
  cl : α → List Value
  sz : Nat
  hsz : ∀ a, (cl a).length = sz
  one : ∀ a u, u ∈ cl a → u.oneCell' = true
  In : World → (Nat → Prop) → α → Prop
  keep : ∀ {w w' : World} {S : Nat → Prop} {a : α}, In w S a → (∀ b, S b → b < w.heap.size → w'.heap[b]? = w.heap[b]?) → In w' S a
  more : ∀ {w : World} {S S' : Nat → Prop} {a : α}, In w S a → (∀ b, S b → b < w.heap.size → S' b) → In w S' a
variable {α : Type}
def RowK.cs (K : RowK α) (P : List α) : List Value := P.flatMap K.cl
theorem RowK.cs_len (K : RowK α) (P : List α) : (K.cs P).length = P.length * K.sz := by
  induction P with
  | nil => simp [RowK.cs]
  | cons a r ih =>
    unfold RowK.cs at ih ⊢
    rw [List.flatMap_cons, List.length_append, ih, K.hsz, List.length_cons, Nat.succ_mul]
    omega
theorem RowK.cs_snoc (K : RowK α) (P : List α) (a : α) : K.cs (P ++ [a]) = K.cs P ++ K.cl a := by simp [RowK.cs, List.flatMap_append]
theorem RowK.cs_at (K : RowK α) (P : List α) (i j : Nat) (hi : i < P.length) (hj : j < K.sz) : (K.cs P)[i * K.sz + j]? = (K.cl P[i])[j]? := by
  induction P generalizing i with
  | nil => simp at hi
  | cons a r ih =>
    unfold RowK.cs at ih ⊢
    rw [List.flatMap_cons]
    cases i with
    | zero => rw [Nat.zero_mul, Nat.zero_add, List.getElem?_append_left (by rw [K.hsz]; exact hj)]; rfl
    | succ i =>
      rw [List.getElem?_append_right (by rw [K.hsz, Nat.succ_mul]; omega), K.hsz, Nat.succ_mul]
      have := ih i (by simpa using hi)
      rw [show i * K.sz + K.sz + j - K.sz = i * K.sz + j by omega, this]
      rfl
/-- v is a slice of the call's own (from block B on) with the elements P -/
def OwnR (K : RowK α) (t : TypeId) (w : World) (B : Nat) (v : Value) (P : List α) : Prop :=
  w.ownsRow B t K.sz v P.length (K.cs P) ∧ ∀ p ∈ P, K.In w (fun b => B ≤ b ∧ some b ≠ v.ownBlock) p
theorem OwnR.nil (K : RowK α) (t : TypeId) (w : World) (B : Nat) : OwnR K t w B (.slice none 0 0) [] := ⟨World.ownsRow_nil _ _ _ _, fun p h => absurd h (by simp)⟩
theorem OwnR.form {K : RowK α} {t : TypeId} {w : World} {B : Nat} {v : Value} {P : List α} (h : OwnR K t w B v P) : ∃ A c, v = .slice A P.length c := owns_form h.1
/-- other blocks may change -/
theorem OwnR.keep {K : RowK α} {t : TypeId} {w w' : World} {B : Nat} {v : Value} {P : List α} (h : OwnR K t w B v P) (_hs : w.heap.size ≤ w'.heap.size) (hk : ∀ b, B ≤ b → b < w.heap.size → w'.heap[b]? = w.heap[b]?) : OwnR K t w' B v P := by
  refine ⟨⟨h.1.1, ?_⟩, fun p hp => K.keep (h.2 p hp) fun b hb hl => hk b hb.1 hl⟩
  rcases h.1.2 with h0 | ⟨g, cap, cur, e, hg, hb, r⟩
  · exact .inl h0
  · exact .inr ⟨g, cap, cur, e, hg, (hk g hg (lt_of_block hb)).trans hb, r⟩
theorem OwnR.grown {K : RowK α} {t : TypeId} {w w' : World} {B g : Nat} {v : Value} {P : List α} (h : OwnR K t w B v P) (hG : w.grownBy w' (some g)) (hg : g < B) : OwnR K t w' B v P :=
  h.keep hG.size fun b hb hl => hG.block b hl (fun e => by injection e with e; omega)
theorem OwnR.alloc {K : RowK α} {t : TypeId} {w : World} {B : Nat} {v : Value} {P : List α} (h : OwnR K t w B v P) (o : Obj) : OwnR K t (w.alloc o) B v P :=
  h.keep (by simp) fun b _ hl => Below.heap_alloc w o b hl
/-- one element more -/
theorem OwnR.snoc {K : RowK α} {t : TypeId} {w w' : World} {B : Nat} {v v' : Value} {P : List α} {a : α} (h : OwnR K t w B v P) (ha : K.In w (fun b => B ≤ b ∧ some b ≠ v.ownBlock) a)
    (ho : w'.ownsRow B t K.sz v' (P.length + 1) (K.cs P ++ K.cl a)) (hg : w.grownBy w' v.ownBlock) (hv : v'.ownBlock = v.ownBlock ∨ ∃ k, v'.ownBlock = some k ∧ w.heap.size ≤ k) : OwnR K t w' B v' (P ++ [a]) := by
  have hin : ∀ p, K.In w (fun b => B ≤ b ∧ some b ≠ v.ownBlock) p → K.In w' (fun b => B ≤ b ∧ some b ≠ v'.ownBlock) p := fun p hp => by
    have h1 : K.In w' (fun b => (B ≤ b ∧ some b ≠ v.ownBlock) ∧ b < w.heap.size) p := K.keep (K.more hp (fun b hb hl => ⟨hb, hl⟩)) fun b hb hl => hg.block b hl hb.1.2
    refine K.more h1 fun b hb _ => ⟨hb.1.1, ?_⟩
    rcases hv with e | ⟨k, e, hk⟩
    · rw [e]; exact hb.1.2
    · rw [e]
      intro e2
      injection e2 with e2
      have := hb.2
      omega
  refine ⟨?_, fun p hp => ?_⟩
  · rw [K.cs_snoc, List.length_append]
    exact ho
  · rcases List.mem_append.1 hp with h1 | h1
    · exact hin p (h.2 p h1)
    · rw [List.mem_singleton.1 h1]
      exact hin a ha
/-- what lies in new blocks -/
theorem RowK.fresh (K : RowK α) {w : World} {N B : Nat} {v : Value} {t : TypeId} {P : List α} {a : α} {w0 : World} (hi : K.In w (N ≤ ·) a) (h0 : OwnR K t w0 B v P) (hN : w0.heap.size ≤ N) (hB : B ≤ N) : K.In w (fun b => B ≤ b ∧ some b ≠ v.ownBlock) a :=
  K.more hi fun b hb _ => ⟨by omega, fun e => by have := (h0.1.lt b e.symm).2; omega⟩
theorem lies_own {v : Value} {g n c : Nat} {w : World} (h : v.ownBlock = some g ∨ g = w.heap.size) : (Value.slice (some ⟨g, 0, none⟩) n c).ownBlock = v.ownBlock ∨ ∃ k, (Value.slice (some ⟨g, 0, none⟩) n c).ownBlock = some k ∧ w.heap.size ≤ k := by
  rcases h with h | h
  · exact .inl h.symm
  · exact .inr ⟨g, rfl, by omega⟩

theorem ExM.low' {w : World} {S : Nat → Prop} {E : Ex} {f : EF} (h : ExM w S E f) : ExM w (fun b => S b ∧ b < w.heap.size) E f := by
  induction h with
  | mk op num name args A c F hc hs ih =>
    refine .mk op num name args A c F (fun i hi => ?_) ih
    obtain ⟨b, off, e, hb, hat⟩ := hc i hi
    exact ⟨b, off, e, ⟨hb, hat.lt⟩, hat⟩
end Go.Proofs.Ytobpnpkcafacjaa
