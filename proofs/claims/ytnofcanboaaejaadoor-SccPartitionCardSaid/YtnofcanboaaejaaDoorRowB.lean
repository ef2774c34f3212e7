/- Slices of structs that a call makes itself, with what their elements lead to. No statement of the program is proved in this file. -/
import Derived.Test.YtnofcanboaaejaaDoorTokSkip
import Derived.Lib.OwnBridge
import Derived.OneCell
import Derived.Laws.OwnMore
import Derived.Deep.AppendLies
namespace Go.Proofs.YtnofcanboaaejaaDoor
open Go.RowKit

/-- a kind of elements: their cells, and what it means that the memory holds what they lead to -/
structure RowK (α : Type) where
  cl : α → List Value
  sz : Nat
  hsz : ∀ a, (cl a).length = sz
  one : ∀ a u, u ∈ cl a → u.oneCell' = true
  In : World → (Nat → Prop) → α → Prop
  keep : ∀ {w w' : World} {S : Nat → Prop} {a : α}, In w S a → (∀ b, S b → b < w.heap.size → w'.heap[b]? = w.heap[b]?) → In w' S a
  more : ∀ {w : World} {S S' : Nat → Prop} {a : α}, In w S a → (∀ b, S b → b < w.heap.size → S' b) → In w S' a
variable {α : Type}
def RowK.cs (K : RowK α) (P : List α) : List Value := P.flatMap K.cl
theorem RowK.cs_len (K : RowK α) (P : List α) : (K.cs P).length = P.length * K.sz := by
  induction P with
  | nil => simp [RowK.cs]
  | cons a r ih =>
    unfold RowK.cs at ih ⊢
    rw [List.flatMap_cons, List.length_append, ih, K.hsz, List.length_cons, Nat.succ_mul]
    omega
theorem RowK.cs_snoc (K : RowK α) (P : List α) (a : α) : K.cs (P ++ [a]) = K.cs P ++ K.cl a := by simp [RowK.cs, List.flatMap_append]
theorem RowK.cs_at (K : RowK α) (P : List α) (i j : Nat) (hi : i < P.length) (hj : j < K.sz) : (K.cs P)[i * K.sz + j]? = (K.cl P[i])[j]? := by
  induction P generalizing i with
  | nil => simp at hi
  | cons a r ih =>
    unfold RowK.cs at ih ⊢
    rw [List.flatMap_cons]
    cases i with
    | zero => rw [Nat.zero_mul, Nat.zero_add, List.getElem?_append_left (by rw [K.hsz]; exact hj)]; rfl
    | succ i =>
      rw [List.getElem?_append_right (by rw [K.hsz, Nat.succ_mul]; omega), K.hsz, Nat.succ_mul]
      have := ih i (by simpa using hi)
      rw [show i * K.sz + K.sz + j - K.sz = i * K.sz + j by omega, this]
      rfl
/-- v is a slice of the call's own (from block B on) with the elements P -/
def OwnR (K : RowK α) (t : TypeId) (w : World) (B : Nat) (v : Value) (P : List α) : Prop :=
  w.ownsRow B t K.sz v P.length (K.cs P) ∧ ∀ p ∈ P, K.In w (fun b => B ≤ b ∧ some b ≠ v.ownBlock) p
theorem OwnR.nil (K : RowK α) (t : TypeId) (w : World) (B : Nat) : OwnR K t w B (.slice none 0 0) [] := ⟨World.ownsRow_nil _ _ _ _, fun p h => absurd h (by simp)⟩
theorem OwnR.form {K : RowK α} {t : TypeId} {w : World} {B : Nat} {v : Value} {P : List α} (h : OwnR K t w B v P) : ∃ A c, v = .slice A P.length c := by
  rcases h.1.2 with ⟨e, e0⟩ | ⟨g, cap, cur, e, _⟩
  · exact ⟨none, 0, by rw [e, e0]⟩
  · exact ⟨_, _, e⟩
/-- other blocks may change -/
theorem OwnR.keep {K : RowK α} {t : TypeId} {w w' : World} {B : Nat} {v : Value} {P : List α} (h : OwnR K t w B v P) (_hs : w.heap.size ≤ w'.heap.size) (hk : ∀ b, B ≤ b → b < w.heap.size → w'.heap[b]? = w.heap[b]?) : OwnR K t w' B v P := by
  refine ⟨⟨h.1.1, ?_⟩, fun p hp => K.keep (h.2 p hp) fun b hb hl => hk b hb.1 hl⟩
  rcases h.1.2 with h0 | ⟨g, cap, cur, e, hg, hb, r⟩
  · exact .inl h0
  · exact .inr ⟨g, cap, cur, e, hg, (hk g hg (lt_of_block hb)).trans hb, r⟩
theorem OwnR.grown {K : RowK α} {t : TypeId} {w w' : World} {B g : Nat} {v : Value} {P : List α} (h : OwnR K t w B v P) (hG : w.grownBy w' (some g)) (hg : g < B) : OwnR K t w' B v P :=
  h.keep hG.size fun b hb hl => hG.block b hl (fun e => by injection e with e; omega)
theorem OwnR.alloc {K : RowK α} {t : TypeId} {w : World} {B : Nat} {v : Value} {P : List α} (h : OwnR K t w B v P) (o : Obj) : OwnR K t (w.alloc o) B v P :=
  h.keep (by simp) fun b _ hl => Below.heap_alloc w o b hl
/-- one element more -/
theorem OwnR.snoc {K : RowK α} {t : TypeId} {w w' : World} {B : Nat} {v v' : Value} {P : List α} {a : α} (h : OwnR K t w B v P) (ha : K.In w (fun b => B ≤ b ∧ some b ≠ v.ownBlock) a)
    (ho : w'.ownsRow B t K.sz v' (P.length + 1) (K.cs P ++ K.cl a)) (hg : w.grownBy w' v.ownBlock) (hv : v'.ownBlock = v.ownBlock ∨ ∃ k, v'.ownBlock = some k ∧ w.heap.size ≤ k) : OwnR K t w' B v' (P ++ [a]) := by
  have hin : ∀ p, K.In w (fun b => B ≤ b ∧ some b ≠ v.ownBlock) p → K.In w' (fun b => B ≤ b ∧ some b ≠ v'.ownBlock) p := fun p hp => by
    have h1 : K.In w' (fun b => (B ≤ b ∧ some b ≠ v.ownBlock) ∧ b < w.heap.size) p := K.keep (K.more hp (fun b hb hl => ⟨hb, hl⟩)) fun b hb hl => hg.block b hl hb.1.2
    refine K.more h1 fun b hb _ => ⟨hb.1.1, ?_⟩
    rcases hv with e | ⟨k, e, hk⟩
    · rw [e]; exact hb.1.2
    · rw [e]
      intro e2
      injection e2 with e2
      have := hb.2
      omega
  refine ⟨?_, fun p hp => ?_⟩
  · rw [K.cs_snoc, List.length_append]
    exact ho
  · rcases List.mem_append.1 hp with h1 | h1
    · exact hin p (h.2 p h1)
    · rw [List.mem_singleton.1 h1]
      exact hin a ha
/-- what lies in new blocks -/
theorem RowK.fresh (K : RowK α) {w : World} {N B : Nat} {v : Value} {t : TypeId} {P : List α} {a : α} {w0 : World} (hi : K.In w (N ≤ ·) a) (h0 : OwnR K t w0 B v P) (hN : w0.heap.size ≤ N) (hB : B ≤ N) : K.In w (fun b => B ≤ b ∧ some b ≠ v.ownBlock) a :=
  K.more hi fun b hb _ => ⟨by omega, fun e => by have := (h0.1.lt b e.symm).2; omega⟩
theorem lies_own {v : Value} {g n c : Nat} {w : World} (h : v.ownBlock = some g ∨ g = w.heap.size) : (Value.slice (some ⟨g, 0, none⟩) n c).ownBlock = v.ownBlock ∨ ∃ k, (Value.slice (some ⟨g, 0, none⟩) n c).ownBlock = some k ∧ w.heap.size ≤ k := by
  rcases h with h | h
  · exact .inl h.symm
  · exact .inr ⟨g, rfl, by omega⟩
section
variable {P : Program}
/-- nothing is appended -/
theorem run_append_zero (w : World) (t ty e : TypeId) (i : TypeInfo) (ht : P.underlying t = some (.slice e)) (hi : P.info? e = some i) (b A : Option Addr) (n cap c : Nat) (hn : n ≤ cap) :
    (Builtin.append_ #[t, t] ty #[.slice b n cap, .slice A 0 c]).run P w = .ok (.slice b n cap) w := by
  have hf : (Builtin.firstCells i.size 0 (.slice A 0 c)).run P w = .ok #[] w := by
    cases A with
    | none => simp [Builtin.firstCells]
    | some a => exact run_firstCells_some (P := P) w i.size 0 a 0 c [] (by simp) (by simp)
  cases b with
  | none => simp [Builtin.append_, run_underlying ht, sizeOf, typeInfo, hi, Builtin.lenOf, hn, hf]
  | some b => simp [Builtin.append_, run_underlying ht, sizeOf, typeInfo, hi, Builtin.lenOf, hn, hf, storeCells]
theorem wpList_append_zero (w : World) {ops : Array Oper} {rest : List Oper} {o : Oper} {a : Act} {Q : Exit → Act → World → Prop} (hgd : o.guard = none) (s x : Operand) (t : TypeId)
    (ho : o.op = .call { callee := .builtin .append, args := #[s, x], argTypes := #[t, t] }) (e : TypeId) (i : TypeInfo) (ht : P.underlying t = some (.slice e)) (hi : P.info? e = some i)
    (b A : Option Addr) (n cap c : Nat) (hn : n ≤ cap) (hs : a.eval s = .slice b n cap) (hx : a.eval x = .slice A 0 c)
    (h : wpList P ops Q rest (a.put o.dst (.slice b n cap)) w) : wpList P ops Q (o :: rest) a w := by
  refine wpList_plain hgd fun K hK => ?_
  have hr := run_append_zero (P := P) w t o.type e i ht hi b A n cap c hn
  unfold Oper.wp execOp
  simp only [ho, resolve, invoke, builtin, Sem.run_bind, Sem.run_pure, Result.andThen_ok, List.map_toArray, List.map_cons, List.map_nil, hs, hx, hr]
  exact hK _ _ h
/-- an append of a slice that may be empty -/
theorem wpList_append_some (w : World) {ops : Array Oper} {rest : List Oper} {o : Oper} {a : Act} {Q : Exit → Act → World → Prop} (hgd : o.guard = none) (s x : Operand) (t : TypeId)
    (ho : o.op = .call { callee := .builtin .append, args := #[s, x], argTypes := #[t, t] })
    (base : Nat) (e : TypeId) (i : TypeInfo) (z : Value) (size bytes : Nat) (ht : P.underlying t = some (.slice e)) (hi : P.info? e = some i) (hz : i.zero = some z)
    (hsize : i.size = size) (hby : i.bytes = bytes) (hzs : z.cells.size = size) (hsz : 0 < size)
    (g0 cap0 : Nat) (n : Nat) (xs : List Value) (hs : a.eval s = .slice (some ⟨g0, 0, none⟩) n cap0) (hown : w.ownsRow base e size (.slice (some ⟨g0, 0, none⟩) n cap0) n xs)
    (A : Option Addr) (m c : Nat) (news : List Value) (hx : a.eval x = .slice A m c) (hl : news.length = m * size) (hA : 0 < m → ∃ ad, A = some ad ∧ ∀ j u, news[j]? = some u → w.cell? (ad.add j) = some u) (h1 : ∀ u ∈ news, u.oneCell' = true)
    (h63 : n + m ≤ maxLen) (hbytes : (n + m) * bytes ≤ 140737488355328) (hbase : base ≤ w.heap.size) (H : Nat) (hH : w.heap.size = H)
    (h : ∀ g cap w', w'.ownsRow base e size (.slice (some ⟨g, 0, none⟩) (n + m) cap) (n + m) (xs ++ news) → w.grownBy w' (some g0) → (some g0 = some g ∨ g = H) → g < w'.heap.size → wpList P ops Q rest (a.put o.dst (.slice (some ⟨g, 0, none⟩) (n + m) cap)) w') : wpList P ops Q (o :: rest) a w := by
  by_cases hm : m = 0
  · subst hm
    have hnil : news = [] := List.length_eq_zero_iff.1 (by omega)
    subst hnil
    have hcap : n ≤ cap0 := by
      rcases hown.2 with ⟨h0, _⟩ | ⟨g, cap, cur, e1, _, _, hc, _⟩
      · cases h0
      · injection e1 with _ _ e3
        omega
    exact wpList_append_zero w hgd s x t ho e i ht hi _ A n cap0 c hcap hs hx (h g0 cap0 w (by simpa using hown) ⟨rfl, rfl, rfl, Nat.le_refl _, fun _ _ _ => rfl⟩ (.inl rfl) (hown.lt g0 rfl).2)
  · obtain ⟨ad, rfl, hnews⟩ := hA (by omega)
    exact wpList_append_lies w hgd s x t ho base e i z size bytes ht hi hz hsize hby hzs hsz _ n xs hs hown ad m c news hx hl hnews h1 (by omega) h63 hbytes hbase H hH h
end
end Go.Proofs.YtnofcanboaaejaaDoor
