/- What value of package value's step does, operator by operator. -/
import Derived.Test.YtiaonhpiiibkdaaVlStep
namespace Go.Proofs.Ytiaonhpiiibkdaa
open Go.RowKit
set_option maxRecDepth 100000

set_option maxHeartbeats 4000000 in
theorem val8_any (w : World) (g o b p : Nat) (x y : Int) (V1 V2 : Value) (s0 : w.cell? ⟨g, o, none⟩ = some (.pointer (some ⟨b, p, none⟩))) (s2 : w.cell? ⟨g, o + 2, none⟩ = some (.int .i64 x)) (s3 : w.cell? ⟨g, o + 3, none⟩ = some (.int .i64 y)) (e0 : w.cell? ⟨b, p, none⟩ = some (.int .i64 8)) :
    Calls Try.prog 24 #[.pointer (some ⟨g, o, none⟩), V1, V2] w fun e w' => e = .returned (.tuple #[.int .i64 (opV 8 x y), .int .i64 0]) ∧ Below w.heap.size w w' := by
  have HO := Lib.hid (fun W => operation_any 8 W (by omega))
  have HA := Lib.hid (fun W => apply_any 8 x y W (by omega) (fun h => absurd h (by omega)))
  go_enter Try.func24, Try.ntmps24
  go_wp2_with fail
  go_region_held3 (fun w' => w'.cell? ⟨g, o, none⟩ = some (.pointer (some ⟨b, p, none⟩)) ∧ w'.cell? ⟨g, o + 2, none⟩ = some (.int .i64 x) ∧ w'.cell? ⟨g, o + 3, none⟩ = some (.int .i64 y) ∧ w'.cell? ⟨b, p, none⟩ = some (.int .i64 8) ∧ Below w.heap.size w w')
    (refine ⟨?_, ?_, ?_, ?_, ?_⟩ <;> first | assumption | (simp [*]; done) | (refine Below.drew ?_; assumption) | exact (Below.refl _ _).drew)
    (first
      | (go_at_call 31; refine (HO.out _).mono ?_; rintro e w3 ⟨rfl, rfl⟩)
      | (refine (HA.out _).mono ?_; obtain ⟨k0, k1, k2, k3, kb⟩ := ‹_ ∧ _ ∧ _ ∧ _ ∧ Below w.heap.size w _›; rintro e w4 ⟨rfl, hb4⟩; have r0 := cell_later hb4 k0; have r1 := cell_later hb4 k1; have r2 := cell_later hb4 k2; have r3 := cell_later hb4 k3; have rb := below_rev' hb4 kb; clear k0 k1 k2 k3 kb hb4))
  clear r0 r1 r2 r3
  have HB := Lib.hid rb
  clear rb
  go_wp2
  go_ret2
  exact ⟨rfl, HB.out⟩
set_option maxHeartbeats 4000000 in
theorem val9_any (w : World) (g o b p : Nat) (x y : Int) (V1 V2 : Value) (s0 : w.cell? ⟨g, o, none⟩ = some (.pointer (some ⟨b, p, none⟩))) (s2 : w.cell? ⟨g, o + 2, none⟩ = some (.int .i64 x)) (s3 : w.cell? ⟨g, o + 3, none⟩ = some (.int .i64 y)) (e0 : w.cell? ⟨b, p, none⟩ = some (.int .i64 9)) :
    Calls Try.prog 24 #[.pointer (some ⟨g, o, none⟩), V1, V2] w fun e w' => e = .returned (.tuple #[.int .i64 (opV 9 x y), .int .i64 0]) ∧ Below w.heap.size w w' := by
  have HO := Lib.hid (fun W => operation_any 9 W (by omega))
  have HA := Lib.hid (fun W => apply_any 9 x y W (by omega) (fun h => absurd h (by omega)))
  go_enter Try.func24, Try.ntmps24
  go_wp2_with fail
  go_region_held3 (fun w' => w'.cell? ⟨g, o, none⟩ = some (.pointer (some ⟨b, p, none⟩)) ∧ w'.cell? ⟨g, o + 2, none⟩ = some (.int .i64 x) ∧ w'.cell? ⟨g, o + 3, none⟩ = some (.int .i64 y) ∧ w'.cell? ⟨b, p, none⟩ = some (.int .i64 9) ∧ Below w.heap.size w w')
    (refine ⟨?_, ?_, ?_, ?_, ?_⟩ <;> first | assumption | (simp [*]; done) | (refine Below.drew ?_; assumption) | exact (Below.refl _ _).drew)
    (first
      | (go_at_call 31; refine (HO.out _).mono ?_; rintro e w3 ⟨rfl, rfl⟩)
      | (refine (HA.out _).mono ?_; obtain ⟨k0, k1, k2, k3, kb⟩ := ‹_ ∧ _ ∧ _ ∧ _ ∧ Below w.heap.size w _›; rintro e w4 ⟨rfl, hb4⟩; have r0 := cell_later hb4 k0; have r1 := cell_later hb4 k1; have r2 := cell_later hb4 k2; have r3 := cell_later hb4 k3; have rb := below_rev' hb4 kb; clear k0 k1 k2 k3 kb hb4))
  clear r0 r1 r2 r3
  have HB := Lib.hid rb
  clear rb
  go_wp2
  go_ret2
  exact ⟨rfl, HB.out⟩
set_option maxHeartbeats 4000000 in
theorem val10_any (w : World) (g o b p : Nat) (x y : Int) (V1 V2 : Value) (s0 : w.cell? ⟨g, o, none⟩ = some (.pointer (some ⟨b, p, none⟩))) (s2 : w.cell? ⟨g, o + 2, none⟩ = some (.int .i64 x)) (s3 : w.cell? ⟨g, o + 3, none⟩ = some (.int .i64 y)) (e0 : w.cell? ⟨b, p, none⟩ = some (.int .i64 10)) :
    Calls Try.prog 24 #[.pointer (some ⟨g, o, none⟩), V1, V2] w fun e w' => e = .returned (.tuple #[.int .i64 (opV 10 x y), .int .i64 0]) ∧ Below w.heap.size w w' := by
  have HO := Lib.hid (fun W => operation_any 10 W (by omega))
  have HA := Lib.hid (fun W => apply_any 10 x y W (by omega) (fun h => absurd h (by omega)))
  go_enter Try.func24, Try.ntmps24
  go_wp2_with fail
  go_region_held3 (fun w' => w'.cell? ⟨g, o, none⟩ = some (.pointer (some ⟨b, p, none⟩)) ∧ w'.cell? ⟨g, o + 2, none⟩ = some (.int .i64 x) ∧ w'.cell? ⟨g, o + 3, none⟩ = some (.int .i64 y) ∧ w'.cell? ⟨b, p, none⟩ = some (.int .i64 10) ∧ Below w.heap.size w w')
    (refine ⟨?_, ?_, ?_, ?_, ?_⟩ <;> first | assumption | (simp [*]; done) | (refine Below.drew ?_; assumption) | exact (Below.refl _ _).drew)
    (first
      | (go_at_call 31; refine (HO.out _).mono ?_; rintro e w3 ⟨rfl, rfl⟩)
      | (refine (HA.out _).mono ?_; obtain ⟨k0, k1, k2, k3, kb⟩ := ‹_ ∧ _ ∧ _ ∧ _ ∧ Below w.heap.size w _›; rintro e w4 ⟨rfl, hb4⟩; have r0 := cell_later hb4 k0; have r1 := cell_later hb4 k1; have r2 := cell_later hb4 k2; have r3 := cell_later hb4 k3; have rb := below_rev' hb4 kb; clear k0 k1 k2 k3 kb hb4))
  clear r0 r1 r2 r3
  have HB := Lib.hid rb
  clear rb
  go_wp2
  go_ret2
  exact ⟨rfl, HB.out⟩
set_option maxHeartbeats 4000000 in
theorem val11_any (w : World) (g o b p : Nat) (x y : Int) (V1 V2 : Value) (s0 : w.cell? ⟨g, o, none⟩ = some (.pointer (some ⟨b, p, none⟩))) (s2 : w.cell? ⟨g, o + 2, none⟩ = some (.int .i64 x)) (s3 : w.cell? ⟨g, o + 3, none⟩ = some (.int .i64 y)) (e0 : w.cell? ⟨b, p, none⟩ = some (.int .i64 11)) :
    Calls Try.prog 24 #[.pointer (some ⟨g, o, none⟩), V1, V2] w fun e w' => e = .returned (.tuple #[.int .i64 (opV 11 x y), .int .i64 0]) ∧ Below w.heap.size w w' := by
  have HO := Lib.hid (fun W => operation_any 11 W (by omega))
  have HA := Lib.hid (fun W => apply_any 11 x y W (by omega) (fun h => absurd h (by omega)))
  go_enter Try.func24, Try.ntmps24
  go_wp2_with fail
  go_region_held3 (fun w' => w'.cell? ⟨g, o, none⟩ = some (.pointer (some ⟨b, p, none⟩)) ∧ w'.cell? ⟨g, o + 2, none⟩ = some (.int .i64 x) ∧ w'.cell? ⟨g, o + 3, none⟩ = some (.int .i64 y) ∧ w'.cell? ⟨b, p, none⟩ = some (.int .i64 11) ∧ Below w.heap.size w w')
    (refine ⟨?_, ?_, ?_, ?_, ?_⟩ <;> first | assumption | (simp [*]; done) | (refine Below.drew ?_; assumption) | exact (Below.refl _ _).drew)
    (first
      | (go_at_call 31; refine (HO.out _).mono ?_; rintro e w3 ⟨rfl, rfl⟩)
      | (refine (HA.out _).mono ?_; obtain ⟨k0, k1, k2, k3, kb⟩ := ‹_ ∧ _ ∧ _ ∧ _ ∧ Below w.heap.size w _›; rintro e w4 ⟨rfl, hb4⟩; have r0 := cell_later hb4 k0; have r1 := cell_later hb4 k1; have r2 := cell_later hb4 k2; have r3 := cell_later hb4 k3; have rb := below_rev' hb4 kb; clear k0 k1 k2 k3 kb hb4))
  clear r0 r1 r2 r3
  have HB := Lib.hid rb
  clear rb
  go_wp2
  go_ret2
  exact ⟨rfl, HB.out⟩
set_option maxHeartbeats 4000000 in
theorem val12_any (w : World) (g o b p : Nat) (x y : Int) (V1 V2 : Value) (s0 : w.cell? ⟨g, o, none⟩ = some (.pointer (some ⟨b, p, none⟩))) (s2 : w.cell? ⟨g, o + 2, none⟩ = some (.int .i64 x)) (s3 : w.cell? ⟨g, o + 3, none⟩ = some (.int .i64 y)) (e0 : w.cell? ⟨b, p, none⟩ = some (.int .i64 12)) :
    Calls Try.prog 24 #[.pointer (some ⟨g, o, none⟩), V1, V2] w fun e w' => e = .returned (.tuple #[.int .i64 (opV 12 x y), .int .i64 0]) ∧ Below w.heap.size w w' := by
  have HO := Lib.hid (fun W => operation_any 12 W (by omega))
  have HA := Lib.hid (fun W => apply_any 12 x y W (by omega) (fun h => absurd h (by omega)))
  go_enter Try.func24, Try.ntmps24
  go_wp2_with fail
  go_region_held3 (fun w' => w'.cell? ⟨g, o, none⟩ = some (.pointer (some ⟨b, p, none⟩)) ∧ w'.cell? ⟨g, o + 2, none⟩ = some (.int .i64 x) ∧ w'.cell? ⟨g, o + 3, none⟩ = some (.int .i64 y) ∧ w'.cell? ⟨b, p, none⟩ = some (.int .i64 12) ∧ Below w.heap.size w w')
    (refine ⟨?_, ?_, ?_, ?_, ?_⟩ <;> first | assumption | (simp [*]; done) | (refine Below.drew ?_; assumption) | exact (Below.refl _ _).drew)
    (first
      | (go_at_call 31; refine (HO.out _).mono ?_; rintro e w3 ⟨rfl, rfl⟩)
      | (refine (HA.out _).mono ?_; obtain ⟨k0, k1, k2, k3, kb⟩ := ‹_ ∧ _ ∧ _ ∧ _ ∧ Below w.heap.size w _›; rintro e w4 ⟨rfl, hb4⟩; have r0 := cell_later hb4 k0; have r1 := cell_later hb4 k1; have r2 := cell_later hb4 k2; have r3 := cell_later hb4 k3; have rb := below_rev' hb4 kb; clear k0 k1 k2 k3 kb hb4))
  clear r0 r1 r2 r3
  have HB := Lib.hid rb
  clear rb
  go_wp2
  go_ret2
  exact ⟨rfl, HB.out⟩
end Go.Proofs.Ytiaonhpiiibkdaa
