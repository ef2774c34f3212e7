/- What Identity, Up, Down, Compose and Union do. -/
import Derived.Test.YtdajomkhjaccbaaDhC
namespace Go.Proofs.Ytdajomkhjaccbaa
open Go.RowKit
set_option maxRecDepth 100000

theorem RlP.up {w w0 w' : World} {n : Nat} {r : List Nat} {e : Ending} (hb : Below w.heap.size w w0) (h : RlP w0 n r e w') : RlP w n r e w' := by
  obtain ⟨g, he, ho, h1⟩ := h
  exact ⟨g, he, ho.base hb.size, below_two hb h1⟩
theorem identity_any (w : World) (x : Int) (k : Nat) (hx : x = (k : Int)) (hk : k ≤ 8) :
    Calls Try.prog 24 #[.int .i64 x] w (RlP w (k + 1) (idV k)) := by
  subst hx
  have HN := Lib.hid (fun W => nearest_any (k : Int) W)
  rw [neV_in _ (by omega) (by omega)] at HN
  have HR := Lib.hid (relId_any w (k + 1) (fun d => 2 ^ d) (by omega) (fun W d _ hd => (only_any (d : Int) d W rfl (by omega)).mono fun e w' h => ⟨h.1, h.2 ▸ Below.refl _ _⟩))
  go_enter Try.func24, Try.ntmps24
  go_wp2_with fail
  refine (HN.out _).mono ?_
  rintro e w1 ⟨rfl, rfl⟩
  go_wp2_with fail
  refine HR.out.mono ?_
  rintro e w1 ⟨g, rfl, hO, hb1⟩
  have HO := Lib.hid hO
  have HB := Lib.hid hb1
  clear hO hb1
  go_wp2_with fail
  go_ret
  exact ⟨g, rfl, HO.out, HB.out⟩
theorem down_any (w : World) (x : Int) (k : Nat) (hx : x = (k : Int)) (hk : k ≤ 8) :
    Calls Try.prog 21 #[.int .i64 x] w (RlP w (k + 1) (dnV k)) := by
  subst hx
  have HN := Lib.hid (fun W => nearest_any (k : Int) W)
  rw [neV_in _ (by omega) (by omega)] at HN
  have HR := Lib.hid (relDn_any w (k + 1) (fun d => if d = 0 then 0 else 2 ^ (d - 1)) (by omega) (fun W d _ hd => downC_any W d (by omega)))
  go_enter Try.func21, Try.ntmps21
  go_wp2_with fail
  refine (HN.out _).mono ?_
  rintro e w1 ⟨rfl, rfl⟩
  go_wp2_with fail
  refine HR.out.mono ?_
  rintro e w1 ⟨g, rfl, hO, hb1⟩
  have HO := Lib.hid hO
  have HB := Lib.hid hb1
  clear hO hb1
  go_wp2_with fail
  go_ret
  exact ⟨g, rfl, HO.out, HB.out⟩
theorem up_any (w : World) (x : Int) (k : Nat) (hx : x = (k : Int)) (hk : k ≤ 8) :
    Calls Try.prog 20 #[.int .i64 x] w (RlP w (k + 1) (upV k)) := by
  subst hx
  have HN := Lib.hid (fun W => nearest_any (k : Int) W)
  rw [neV_in _ (by omega) (by omega)] at HN
  have hb0 : Below w.heap.size w (w.alloc (.cells #[.int .i64 (k : Int)] 3)) := (Below.refl _ _).alloc (Nat.le_refl _) _
  have hc : (w.alloc (.cells #[.int .i64 (k : Int)] 3)).cell? ⟨w.heap.size, 0, none⟩ = some (.int .i64 (k : Int)) := cell_of_row _ _ 0 _ _ _ (heap_alloc_new w _)
  have HR := Lib.hid (relUp_any (w.alloc (.cells #[.int .i64 (k : Int)] 3)) (k + 1) (fun d => 2 ^ (d + 1) &&& (2 ^ (k + 1) - 1)) (.pointer (some ⟨w.heap.size, 0, none⟩)) (by omega)
    (fun W d h hd => upC_any W w.heap.size k d (cell_later h hc) hk (by omega)))
  have HB0 := Lib.hid hb0
  clear hb0 hc
  go_enter Try.func20, Try.ntmps20
  go_wp2_with fail
  refine (HN.out _).mono ?_
  rintro e w1 ⟨rfl, rfl⟩
  go_wp2_with fail
  refine HR.out.mono ?_
  intro e w1 h
  obtain ⟨g, rfl, hO, hb1⟩ := h.up HB0.out
  have HO := Lib.hid hO
  have HB := Lib.hid hb1
  clear hO hb1 h
  go_wp2_with fail
  go_ret
  exact ⟨g, rfl, HO.out, HB.out⟩
/-- a relation that a function is given -/
structure RlV (w : World) (A : Option Addr) (r : List Nat) : Prop where
  rd : RlR w A r
  bd : BdR r
  len : r.length ≤ 9
theorem RlV.later {w w' : World} {A : Option Addr} {r : List Nat} (h : RlV w A r) (hb : Below w.heap.size w w') : RlV w' A r := ⟨h.rd.later hb, h.bd, h.len⟩
/-- two boxes, one after the other -/
theorem boxes (w : World) (A B : Option Addr) (a b : List Nat) (ca cb : Nat) (hA : RlR w A a) (hB : RlR w B b) :
    let w2 := (w.alloc (.cells #[.slice A a.length ca] 24)).alloc (.cells #[.slice B b.length cb] 24)
    Box w2 w.heap.size A a ca ∧ Box w2 (w.heap.size + 1) B b cb ∧ Below w.heap.size w w2 := by
  intro w2
  have hb1 : Below w.heap.size w (w.alloc (.cells #[.slice A a.length ca] 24)) := (Below.refl _ _).alloc (Nat.le_refl _) _
  have hs : (w.alloc (.cells #[.slice A a.length ca] 24)).heap.size = w.heap.size + 1 := by simp
  have hb2 : Below (w.alloc (.cells #[.slice A a.length ca] 24)).heap.size (w.alloc (.cells #[.slice A a.length ca] 24)) w2 := (Below.refl _ _).alloc (Nat.le_refl _) _
  have n1 := heap_alloc_new w (.cells #[.slice A a.length ca] 24)
  have n2 := heap_alloc_new (w.alloc (.cells #[.slice A a.length ca] 24)) (.cells #[.slice B b.length cb] 24)
  rw [hs] at n2
  exact ⟨⟨cell_later hb2 (cell_of_row _ _ 0 _ _ _ n1), (hA.later hb1).later hb2⟩, ⟨cell_of_row _ _ 0 _ _ _ n2, (hB.later hb1).later hb2⟩, below_two hb1 hb2⟩
theorem compose_any (w : World) (A B : Option Addr) (a b : List Nat) (ca cb : Nat) (hA : RlV w A a) (hB : RlV w B b) :
    Calls Try.prog 19 #[.slice A a.length ca, .slice B b.length cb] w (RlP w a.length (cmV a b)) := by
  obtain ⟨x0, x1, x2⟩ := boxes w A B a b ca cb hA.rd hB.rd
  have HR := Lib.hid (relCm_any ((w.alloc (.cells #[.slice A a.length ca] 24)).alloc (.cells #[.slice B b.length cb] 24)) a.length (fun d => apV b (a.getD d 0)) (.pointer (some ⟨w.heap.size + 1, 0, none⟩)) (.pointer (some ⟨w.heap.size, 0, none⟩)) hA.len
    (fun W d h hd => composeC_any W w.heap.size (w.heap.size + 1) ca cb A B a b d (x0.later h) (x1.later h) hA.bd hB.bd hd))
  rw [← cmV_range] at HR
  have c0 := x0.1
  have HB0 := Lib.hid x2
  clear x0 x1 x2 hA hB
  go_enter Try.func19, Try.ntmps19
  go_wp2_with fail
  refine HR.out.mono ?_
  intro e w1 h
  obtain ⟨g, rfl, hO, hb1⟩ := h.up HB0.out
  have HO := Lib.hid hO
  have HB := Lib.hid hb1
  clear hO hb1 h
  go_wp2_with fail
  go_ret
  exact ⟨g, rfl, HO.out, HB.out⟩
theorem union_any (w : World) (A B : Option Addr) (a b : List Nat) (ca cb : Nat) (hA : RlV w A a) (hB : RlV w B b) :
    Calls Try.prog 29 #[.slice A a.length ca, .slice B b.length cb] w (RlP w a.length (unV a b)) := by
  obtain ⟨x0, x1, x2⟩ := boxes w A B a b ca cb hA.rd hB.rd
  have HR := Lib.hid (relUn_any ((w.alloc (.cells #[.slice A a.length ca] 24)).alloc (.cells #[.slice B b.length cb] 24)) a.length (fun d => a.getD d 0 ||| b.getD d 0) (.pointer (some ⟨w.heap.size, 0, none⟩)) (.pointer (some ⟨w.heap.size + 1, 0, none⟩)) hA.len
    (fun W d h hd => unionC_any W w.heap.size (w.heap.size + 1) ca cb A B a b d (x0.later h) (x1.later h) hA.bd hB.bd hd hA.len))
  have c0 := x0.1
  have HB0 := Lib.hid x2
  clear x0 x1 x2 hA hB
  go_enter Try.func29, Try.ntmps29
  go_wp2_with fail
  refine HR.out.mono ?_
  intro e w1 h
  obtain ⟨g, rfl, hO, hb1⟩ := h.up HB0.out
  have HO := Lib.hid hO
  have HB := Lib.hid hb1
  clear hO hb1 h
  go_wp2_with fail
  go_ret
  exact ⟨g, rfl, HO.out, HB.out⟩
end Go.Proofs.Ytdajomkhjaccbaa
