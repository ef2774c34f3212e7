/- The walk of TokenReserved: true for every string and every number. -/
import Derived.Test.YtbpeiblmpgmacaaRefLeaf
import Derived.Test.YtbpeiblmpgmacaaTokAwake
namespace Go.Proofs.Ytbpeiblmpgmacaa
open Go.RowKit

theorem vals14 (m : Nat) (hm : m < 14) : ∃ x : List UInt8, [Value.string ⟨#[118, 97, 114]⟩, Value.string ⟨#[109, 117, 116, 101, 120]⟩, Value.string ⟨#[114, 109, 117, 116, 101, 120]⟩, Value.string ⟨#[102, 117, 110, 99]⟩, Value.string ⟨#[108, 111, 99, 107]⟩, Value.string ⟨#[117, 110, 108, 111, 99, 107]⟩, Value.string ⟨#[103, 111]⟩, Value.string ⟨#[105, 102]⟩, Value.string ⟨#[101, 108, 115, 101]⟩, Value.string ⟨#[119, 104, 105, 108, 101]⟩, Value.string ⟨#[114, 101, 116, 117, 114, 110]⟩, Value.string ⟨#[109, 97, 105, 110]⟩, Value.string ⟨#[118, 97, 114, 115]⟩, Value.string ⟨#[71, 111]⟩][m]'hm = .string ⟨x.toArray⟩ := by
  have h := List.getElem_mem (l := [Value.string ⟨#[118, 97, 114]⟩, Value.string ⟨#[109, 117, 116, 101, 120]⟩, Value.string ⟨#[114, 109, 117, 116, 101, 120]⟩, Value.string ⟨#[102, 117, 110, 99]⟩, Value.string ⟨#[108, 111, 99, 107]⟩, Value.string ⟨#[117, 110, 108, 111, 99, 107]⟩, Value.string ⟨#[103, 111]⟩, Value.string ⟨#[105, 102]⟩, Value.string ⟨#[101, 108, 115, 101]⟩, Value.string ⟨#[119, 104, 105, 108, 101]⟩, Value.string ⟨#[114, 101, 116, 117, 114, 110]⟩, Value.string ⟨#[109, 97, 105, 110]⟩, Value.string ⟨#[118, 97, 114, 115]⟩, Value.string ⟨#[71, 111]⟩]) hm
  simp only [List.mem_cons, List.not_mem_nil, or_false] at h
  rcases h with h | h | h | h | h | h | h | h | h | h | h | h | h | h
  · exact ⟨[118, 97, 114], h⟩
  · exact ⟨[109, 117, 116, 101, 120], h⟩
  · exact ⟨[114, 109, 117, 116, 101, 120], h⟩
  · exact ⟨[102, 117, 110, 99], h⟩
  · exact ⟨[108, 111, 99, 107], h⟩
  · exact ⟨[117, 110, 108, 111, 99, 107], h⟩
  · exact ⟨[103, 111], h⟩
  · exact ⟨[105, 102], h⟩
  · exact ⟨[101, 108, 115, 101], h⟩
  · exact ⟨[119, 104, 105, 108, 101], h⟩
  · exact ⟨[114, 101, 116, 117, 114, 110], h⟩
  · exact ⟨[109, 97, 105, 110], h⟩
  · exact ⟨[118, 97, 114, 115], h⟩
  · exact ⟨[71, 111], h⟩


set_option maxRecDepth 100000 in
set_option maxHeartbeats 1000000 in
theorem tokenReserved_any (s : List UInt8) (n : Int) (w : World) (hn : -9223372036854775808 ≤ n ∧ n ≤ 9223372036854775807) :
    Calls Try.prog 9 #[.string ⟨s.toArray⟩, .int .i64 n] w fun e w' => e = .returned (.bool true) ∧ Below w.heap.size w w' := by
  have hm := within_lt n 14 (by omega)
  obtain ⟨m, hm'⟩ : ∃ m, m = within n 14 := ⟨_, rfl⟩
  have HM := Lib.hid hm'
  rw [← hm'] at hm
  clear hm'
  go_enter Try.func9, Try.ntmps9
  go_wp2_with fail
  refine (within_any n 14 _ hn (by omega) (by omega)).mono ?_
  rintro e w1 ⟨rfl, rfl⟩
  rw [show (14 : Int).toNat = 14 from rfl, ← HM.out]
  go_wp2_with fail
  obtain ⟨v, hv⟩ : ∃ v, v = [Value.string ⟨#[118, 97, 114]⟩, Value.string ⟨#[109, 117, 116, 101, 120]⟩, Value.string ⟨#[114, 109, 117, 116, 101, 120]⟩, Value.string ⟨#[102, 117, 110, 99]⟩, Value.string ⟨#[108, 111, 99, 107]⟩, Value.string ⟨#[117, 110, 108, 111, 99, 107]⟩, Value.string ⟨#[103, 111]⟩, Value.string ⟨#[105, 102]⟩, Value.string ⟨#[101, 108, 115, 101]⟩, Value.string ⟨#[119, 104, 105, 108, 101]⟩, Value.string ⟨#[114, 101, 116, 117, 114, 110]⟩, Value.string ⟨#[109, 97, 105, 110]⟩, Value.string ⟨#[118, 97, 114, 115]⟩, Value.string ⟨#[71, 111]⟩][m]'hm := ⟨_, rfl⟩
  rw [← hv]
  obtain ⟨x, hx⟩ : ∃ x : List UInt8, v = .string ⟨x.toArray⟩ := by
    rw [hv]
    exact vals14 m hm
  subst hx
  clear hv
  refine (reserved_any s _).mono ?_
  rintro e w1 ⟨rfl, rfl⟩
  go_wp2_with fail
  refine (refReserved_any s _).mono ?_
  rintro e w1 ⟨rfl, hb1⟩
  have t1 : (Tk.resv s == Tk.resv s) = true := by simp
  go_wp2_with fail
  refine (reserved_any x _).mono ?_
  rintro e w2 ⟨rfl, rfl⟩
  go_wp2_with fail
  refine (refReserved_any x _).mono ?_
  rintro e w2 ⟨rfl, hb2⟩
  have t2 : (Tk.resv x == Tk.resv x) = true := by simp
  go_wp2_with fail
  refine (awake_any _).mono ?_
  rintro e w3 ⟨rfl, hb3⟩
  go_wp2
  go_ret
  refine ⟨rfl, ?_⟩
  have h0 : w.heap.size ≤ w1.heap.size := Nat.le_trans (by simp) hb1.size
  have h1 := Nat.le_trans h0 hb2.size
  exact ((((Below.refl _ _).alloc (Nat.le_refl _) _).trans (hb1.mono (by simp))).trans (hb2.mono h0)).trans (hb3.mono h1)

end Go.Proofs.Ytbpeiblmpgmacaa
