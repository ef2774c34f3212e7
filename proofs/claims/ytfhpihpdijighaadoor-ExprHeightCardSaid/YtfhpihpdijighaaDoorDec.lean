/- Conversions between strings and bytes, and decimal digits. No statement of the program is proved in this file. -/
import Derived.Test.YtfhpihpdijighaaDoorNumMath
import Derived.Test.YtfhpihpdijighaaDoorTokS
namespace Go.Proofs.YtfhpihpdijighaaDoor
open Go.RowKit

theorem bapp (a b : List UInt8) : (⟨a.toArray⟩ : ByteArray) ++ (⟨b.toArray⟩ : ByteArray) = ⟨(a ++ b).toArray⟩ := by
  apply ByteArray.ext
  simp
theorem conv_bytes (s : List UInt8) (w : World) : ∃ c W1, (convert 9 56 (.string ⟨s.toArray⟩)).run Tryd.prog w = .ok (.slice (some ⟨w.heap.size, 0, none⟩) s.length c) W1 ∧ Byt W1 (some ⟨w.heap.size, 0, none⟩) s ∧ s.length ≤ c ∧ Below w.heap.size w W1 := by
  have h := run_bytes_of_string (P := Tryd.prog) w 9 56 5 ⟨s.toArray⟩ Tryd.underlying9 Tryd.underlying56 Tryd.underlying5
  have hs : (⟨s.toArray⟩ : ByteArray).size = s.length := by simp [ByteArray.size]
  rw [hs] at h
  refine ⟨_, _, h, ?_, grownCap_ge _ _ _ _, ((Below.refl _ _).drew).alloc (Nat.le_refl _) _⟩
  intro i hi
  refine ⟨_, _, rfl, ?_⟩
  rw [Nat.zero_add]
  refine (World.cell?_alloc_mark w.drew _ _ _ i).trans ?_
  rw [bytesRow_at _ _ i (by simpa using hi)]
  simp
theorem conv_one (k : Nat) (W : World) (g : Nat) (hg : g = W.heap.size) : (convert 56 9 (.slice (some ⟨g, 0, none⟩) 1 1)).run Tryd.prog (W.alloc (.cells #[.int .u8 (48 + (k : Int) % 10)] 5)) = .ok (.string ⟨[digC k].toArray⟩) (W.alloc (.cells #[.int .u8 (48 + (k : Int) % 10)] 5)) := by
  subst hg
  refine run_convert_bytes_back (P := Tryd.prog) _ 56 9 5 ⟨W.heap.size, 0, none⟩ 1 [digC k] Tryd.underlying56 Tryd.underlying5 Tryd.underlying9 ?_
  intro j hj
  have hj0 : j = 0 := by simpa using hj
  subst hj0
  have ha : (⟨W.heap.size, 0, none⟩ : Addr).add 0 = ⟨W.heap.size, 0, none⟩ := by simp [Addr.add]
  rw [ha, World.cell?_alloc_mark]
  have := (digC_num k).1
  simp only [List.getElem_cons_zero, this]
  simp

theorem decLoop_go (f k : Nat) (s : List UInt8) (h : k > 0 ∨ s = []) : decLoop (f + 1) k s = decLoop f (k / 10) (digC k :: s) := by rw [decLoop, if_pos h]
theorem decLoop_stop (f k : Nat) (s : List UInt8) (h : ¬ (k > 0 ∨ s = [])) : decLoop f k s = s := by
  cases f with
  | zero => rfl
  | succ f => rw [decLoop, if_neg h]

end Go.Proofs.YtfhpihpdijighaaDoor
