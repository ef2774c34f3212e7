/- What shape of the reference returns for a name. What shape of the reference returns: the plain function exShape. What ValidExpr and FormatExpr of the reference return, and how long the text of a made expression is. -/
import Derived.Test.YtbnbmibfjobacaaDoorGTxt
import Derived.Deep.RegionHeld3
import Derived.Deep.RegionLaw
import Derived.Test.YtbnbmibfjobacaaDoorGJoin
namespace Go.Proofs.YtbnbmibfjobacaaDoor
open Go.RowKit

set_option maxRecDepth 100000 in
set_option maxHeartbeats 4000000 in
theorem shape_nm (name : List UInt8) (A : Option Addr) (n c : Nat) (w : World) (_hn : n ≤ 1000000) (hN : name.length ≤ 9223372036854775807) :
    Calls Tryd.prog 23 #[.agg #[.int .i64 2, .int .i64 0, .string ⟨name.toArray⟩, .slice A n c]] w fun e w' => e = .returned (.bool (nameB name && n == 0)) ∧ Below w.heap.size w w' := by
  have HNL := Lib.hid hN
  have HB0 : Hid (Below w.heap.size w (w.alloc (.cells #[.int .i64 2, .int .i64 0, .string ⟨name.toArray⟩, .slice A n c] 25))) := (Below.refl _ _).alloc (Nat.le_refl _) _
  clear hN
  go_enter Tryd.func23, Tryd.ntmps23
  go_wp2_with fail
  refine (strength_any 2 _).mono ?_
  rintro e w1 ⟨rfl, hb1⟩
  rw [show strV 2 = 6 by decide]
  obtain ⟨q0, q1, q2, q3, f0, f1, f2, f3, hz⟩ := four_later hb1
  have HBW := Lib.hid (below_two HB0.out hb1)
  clear hb1 f0 f1 f2 f3 HB0
  have hb0 := HBW.out
  go_wp2_with fail
  refine wp_region_noPanic ?_
  refine wp_region_held_drew (S := fun w' => w'.cell? ⟨w.heap.size, 0, none⟩ = some (.int .i64 2) ∧ w'.cell? ⟨w.heap.size, 1, none⟩ = some (.int .i64 0) ∧ w'.cell? ⟨w.heap.size, 2, none⟩ = some (.string ⟨name.toArray⟩) ∧ w'.cell? ⟨w.heap.size, 3, none⟩ = some (.slice A n c) ∧ Below w.heap.size w w') (by kernel_rfl) ⟨q0, q1, q2, q3, hb0.drew⟩ (fun hHeld => ?_)
  refine wpAnyH_take (i := 0) (oi := { dst := some 12, op := Op.fieldAddr 25 (Operand.tmp 1) 0, type := 0, pos := "ref.go:324", after := #[], guard := none }) (v := ?v0) rfl (by kernel_rfl) (by kernel_rfl) (by kernel_rfl) (fun _ _ _ h => h) (Or.inl ⟨by rfl, ?y0⟩) (by assumption) ?r0
  case y0 => intro wz hSw; (try dsimp only at hSw); go_simp; (try with_reducible rfl)
  try simp only [Act.put, List.setIfInBounds_toArray, List.set_cons_zero, List.set_cons_succ]
  refine wpAnyH_take (i := 1) (oi := { dst := some 13, op := Op.load 3 (Operand.tmp 12), type := 3, pos := "ref.go:324", after := #[{ on := 0, ground := Ground.data }], guard := none }) (v := ?v1) rfl (by kernel_rfl) (by kernel_rfl) (by kernel_rfl) (fun _ _ _ h => h) (Or.inl ⟨by rfl, ?y1⟩) (by assumption) ?r1
  case y1 => intro wz hSw; (try dsimp only at hSw); go_simp; (try with_reducible rfl)
  try simp only [Act.put, List.setIfInBounds_toArray, List.set_cons_zero, List.set_cons_succ]
  refine wpAnyH_take (i := 2) (oi := { dst := some 14, op := Op.binOp BinOp.eql 3 (Operand.tmp 13) (Operand.const (Value.int IntKind.i64 1)) 3, type := 4, pos := "ref.go:324", after := #[{ on := 1, ground := Ground.data }], guard := none }) (v := ?v2) rfl (by kernel_rfl) (by kernel_rfl) (by kernel_rfl) (fun _ _ _ h => h) (Or.inl ⟨by rfl, ?y2⟩) (by assumption) ?r2
  case y2 => intro wz hSw; (try dsimp only at hSw); go_simp; (try with_reducible rfl)
  try simp only [Act.put, List.setIfInBounds_toArray, List.set_cons_zero, List.set_cons_succ]
  refine wpAnyH_take (i := 3) (oi := { dst := some 15, op := Op.move (Operand.tmp 14), type := 4, pos := "ref.go:324", after := #[{ on := 2, ground := Ground.data }], guard := none }) (v := ?v3) rfl (by kernel_rfl) (by kernel_rfl) (by kernel_rfl) (fun _ _ _ h => h) (Or.inl ⟨by rfl, ?y3⟩) (by assumption) ?r3
  case y3 => intro wz hSw; (try dsimp only at hSw); go_simp; (try with_reducible rfl)
  try simp only [Act.put, List.setIfInBounds_toArray, List.set_cons_zero, List.set_cons_succ]
  refine wpAnyH_take (i := 4) (oi := { dst := some 16, op := Op.fieldAddr 25 (Operand.tmp 1) 1, type := 0, pos := "ref.go:324", after := #[{ on := 3, ground := Ground.guard }], guard := some (3, true) }) (v := undef) rfl (by kernel_rfl) (by kernel_rfl) (by kernel_rfl) (fun _ _ _ h => h) (Or.inr ⟨by rfl, rfl⟩) (by assumption) ?_
  try simp only [Act.put, List.setIfInBounds_toArray, List.set_cons_zero, List.set_cons_succ]
  refine wpAnyH_take (i := 5) (oi := { dst := some 17, op := Op.load 3 (Operand.tmp 16), type := 3, pos := "ref.go:324", after := #[{ on := 4, ground := Ground.data }, { on := 3, ground := Ground.guard }], guard := some (3, true) }) (v := undef) rfl (by kernel_rfl) (by kernel_rfl) (by kernel_rfl) (fun _ _ _ h => h) (Or.inr ⟨by rfl, rfl⟩) (by assumption) ?_
  try simp only [Act.put, List.setIfInBounds_toArray, List.set_cons_zero, List.set_cons_succ]
  refine wpAnyH_take (i := 6) (oi := { dst := some 18, op := Op.binOp BinOp.geq 3 (Operand.tmp 17) (Operand.const (Value.int IntKind.i64 0)) 3, type := 4, pos := "ref.go:324", after := #[{ on := 5, ground := Ground.data }, { on := 3, ground := Ground.guard }], guard := some (3, true) }) (v := undef) rfl (by kernel_rfl) (by kernel_rfl) (by kernel_rfl) (fun _ _ _ h => h) (Or.inr ⟨by rfl, rfl⟩) (by assumption) ?_
  try simp only [Act.put, List.setIfInBounds_toArray, List.set_cons_zero, List.set_cons_succ]
  refine wpAnyH_take (i := 7) (oi := { dst := some 19, op := Op.pick (Operand.tmp 15) (Operand.tmp 18) (Operand.const (Value.bool false)), type := 4, pos := "ref.go:324", after := #[{ on := 3, ground := Ground.data }, { on := 6, ground := Ground.data }], guard := none }) (v := ?v7) rfl (by kernel_rfl) (by kernel_rfl) (by kernel_rfl) (fun _ _ _ h => h) (Or.inl ⟨by rfl, ?y7⟩) (by assumption) ?r7
  case y7 => intro wz hSw; (try dsimp only at hSw); go_simp; (try with_reducible rfl)
  try simp only [Act.put, List.setIfInBounds_toArray, List.set_cons_zero, List.set_cons_succ]
  refine wpAnyH_take (i := 8) (oi := { dst := some 20, op := Op.move (Operand.tmp 19), type := 4, pos := "ref.go:324", after := #[{ on := 7, ground := Ground.data }, { on := 3, ground := Ground.chain }], guard := none }) (v := ?v8) rfl (by kernel_rfl) (by kernel_rfl) (by kernel_rfl) (fun _ _ _ h => h) (Or.inl ⟨by rfl, ?y8⟩) (by assumption) ?r8
  case y8 => intro wz hSw; (try dsimp only at hSw); go_simp; (try with_reducible rfl)
  try simp only [Act.put, List.setIfInBounds_toArray, List.set_cons_zero, List.set_cons_succ]
  refine wpAnyH_take (i := 9) (oi := { dst := some 21, op := Op.fieldAddr 25 (Operand.tmp 1) 2, type := 0, pos := "ref.go:324", after := #[{ on := 8, ground := Ground.guard }], guard := some (8, true) }) (v := undef) rfl (by kernel_rfl) (by kernel_rfl) (by kernel_rfl) (fun _ _ _ h => h) (Or.inr ⟨by rfl, rfl⟩) (by assumption) ?_
  try simp only [Act.put, List.setIfInBounds_toArray, List.set_cons_zero, List.set_cons_succ]
  refine wpAnyH_take (i := 10) (oi := { dst := some 22, op := Op.load 9 (Operand.tmp 21), type := 9, pos := "ref.go:324", after := #[{ on := 9, ground := Ground.data }, { on := 8, ground := Ground.guard }], guard := some (8, true) }) (v := undef) rfl (by kernel_rfl) (by kernel_rfl) (by kernel_rfl) (fun _ _ _ h => h) (Or.inr ⟨by rfl, rfl⟩) (by assumption) ?_
  try simp only [Act.put, List.setIfInBounds_toArray, List.set_cons_zero, List.set_cons_succ]
  refine wpAnyH_take (i := 11) (oi := { dst := some 23, op := Op.binOp BinOp.eql 9 (Operand.tmp 22) (Operand.const (Value.string { data := #[] })) 9, type := 4, pos := "ref.go:324", after := #[{ on := 10, ground := Ground.data }, { on := 8, ground := Ground.guard }], guard := some (8, true) }) (v := undef) rfl (by kernel_rfl) (by kernel_rfl) (by kernel_rfl) (fun _ _ _ h => h) (Or.inr ⟨by rfl, rfl⟩) (by assumption) ?_
  try simp only [Act.put, List.setIfInBounds_toArray, List.set_cons_zero, List.set_cons_succ]
  refine wpAnyH_take (i := 12) (oi := { dst := some 24, op := Op.pick (Operand.tmp 20) (Operand.tmp 23) (Operand.const (Value.bool false)), type := 4, pos := "ref.go:324", after := #[{ on := 8, ground := Ground.data }, { on := 11, ground := Ground.data }], guard := none }) (v := ?v12) rfl (by kernel_rfl) (by kernel_rfl) (by kernel_rfl) (fun _ _ _ h => h) (Or.inl ⟨by rfl, ?y12⟩) (by assumption) ?r12
  case y12 => intro wz hSw; (try dsimp only at hSw); go_simp; (try with_reducible rfl)
  try simp only [Act.put, List.setIfInBounds_toArray, List.set_cons_zero, List.set_cons_succ]
  refine wpAnyH_take (i := 13) (oi := { dst := some 25, op := Op.fieldAddr 25 (Operand.tmp 1) 0, type := 0, pos := "ref.go:324", after := #[], guard := none }) (v := ?v13) rfl (by kernel_rfl) (by kernel_rfl) (by kernel_rfl) (fun _ _ _ h => h) (Or.inl ⟨by rfl, ?y13⟩) (by assumption) ?r13
  case y13 => intro wz hSw; (try dsimp only at hSw); go_simp; (try with_reducible rfl)
  try simp only [Act.put, List.setIfInBounds_toArray, List.set_cons_zero, List.set_cons_succ]
  refine wpAnyH_take (i := 14) (oi := { dst := some 26, op := Op.load 3 (Operand.tmp 25), type := 3, pos := "ref.go:324", after := #[{ on := 13, ground := Ground.data }], guard := none }) (v := ?v14) rfl (by kernel_rfl) (by kernel_rfl) (by kernel_rfl) (fun _ _ _ h => h) (Or.inl ⟨by rfl, ?y14⟩) (by assumption) ?r14
  case y14 => intro wz hSw; (try dsimp only at hSw); go_simp; (try with_reducible rfl)
  try simp only [Act.put, List.setIfInBounds_toArray, List.set_cons_zero, List.set_cons_succ]
  refine wpAnyH_take (i := 15) (oi := { dst := some 27, op := Op.binOp BinOp.eql 3 (Operand.tmp 26) (Operand.const (Value.int IntKind.i64 2)) 3, type := 4, pos := "ref.go:324", after := #[{ on := 14, ground := Ground.data }], guard := none }) (v := ?v15) rfl (by kernel_rfl) (by kernel_rfl) (by kernel_rfl) (fun _ _ _ h => h) (Or.inl ⟨by rfl, ?y15⟩) (by assumption) ?r15
  case y15 => intro wz hSw; (try dsimp only at hSw); go_simp; (try with_reducible rfl)
  try simp only [Act.put, List.setIfInBounds_toArray, List.set_cons_zero, List.set_cons_succ]
  refine wpAnyH_take (i := 16) (oi := { dst := some 28, op := Op.move (Operand.tmp 27), type := 4, pos := "ref.go:324", after := #[{ on := 15, ground := Ground.data }, { on := 8, ground := Ground.chain }], guard := none }) (v := ?v16) rfl (by kernel_rfl) (by kernel_rfl) (by kernel_rfl) (fun _ _ _ h => h) (Or.inl ⟨by rfl, ?y16⟩) (by assumption) ?r16
  case y16 => intro wz hSw; (try dsimp only at hSw); go_simp; (try with_reducible rfl)
  try simp only [Act.put, List.setIfInBounds_toArray, List.set_cons_zero, List.set_cons_succ]
  refine wpAnyH_take (i := 17) (oi := { dst := some 29, op := Op.fieldAddr 25 (Operand.tmp 1) 1, type := 0, pos := "ref.go:324", after := #[{ on := 16, ground := Ground.guard }], guard := some (16, true) }) (v := ?v17) rfl (by kernel_rfl) (by kernel_rfl) (by kernel_rfl) (fun _ _ _ h => h) (Or.inl ⟨by rfl, ?y17⟩) (by assumption) ?r17
  case y17 => intro wz hSw; (try dsimp only at hSw); go_simp; (try with_reducible rfl)
  try simp only [Act.put, List.setIfInBounds_toArray, List.set_cons_zero, List.set_cons_succ]
  refine wpAnyH_take (i := 18) (oi := { dst := some 30, op := Op.load 3 (Operand.tmp 29), type := 3, pos := "ref.go:324", after := #[{ on := 17, ground := Ground.data }, { on := 16, ground := Ground.guard }], guard := some (16, true) }) (v := ?v18) rfl (by kernel_rfl) (by kernel_rfl) (by kernel_rfl) (fun _ _ _ h => h) (Or.inl ⟨by rfl, ?y18⟩) (by assumption) ?r18
  case y18 => intro wz hSw; (try dsimp only at hSw); go_simp; (try with_reducible rfl)
  try simp only [Act.put, List.setIfInBounds_toArray, List.set_cons_zero, List.set_cons_succ]
  refine wpAnyH_take (i := 19) (oi := { dst := some 31, op := Op.binOp BinOp.eql 3 (Operand.tmp 30) (Operand.const (Value.int IntKind.i64 0)) 3, type := 4, pos := "ref.go:324", after := #[{ on := 18, ground := Ground.data }, { on := 16, ground := Ground.guard }], guard := some (16, true) }) (v := ?v19) rfl (by kernel_rfl) (by kernel_rfl) (by kernel_rfl) (fun _ _ _ h => h) (Or.inl ⟨by rfl, ?y19⟩) (by assumption) ?r19
  case y19 => intro wz hSw; (try dsimp only at hSw); go_simp; (try with_reducible rfl)
  try simp only [Act.put, List.setIfInBounds_toArray, List.set_cons_zero, List.set_cons_succ]
  refine wpAnyH_take (i := 20) (oi := { dst := some 32, op := Op.pick (Operand.tmp 28) (Operand.tmp 31) (Operand.const (Value.bool false)), type := 4, pos := "ref.go:324", after := #[{ on := 16, ground := Ground.data }, { on := 19, ground := Ground.data }], guard := none }) (v := ?v20) rfl (by kernel_rfl) (by kernel_rfl) (by kernel_rfl) (fun _ _ _ h => h) (Or.inl ⟨by rfl, ?y20⟩) (by assumption) ?r20
  case y20 => intro wz hSw; (try dsimp only at hSw); go_simp; (try with_reducible rfl)
  try simp only [Act.put, List.setIfInBounds_toArray, List.set_cons_zero, List.set_cons_succ]
  refine wpAnyH_take (i := 21) (oi := { dst := some 33, op := Op.move (Operand.tmp 32), type := 4, pos := "ref.go:324", after := #[{ on := 20, ground := Ground.data }, { on := 16, ground := Ground.chain }], guard := none }) (v := ?v21) rfl (by kernel_rfl) (by kernel_rfl) (by kernel_rfl) (fun _ _ _ h => h) (Or.inl ⟨by rfl, ?y21⟩) (by assumption) ?r21
  case y21 => intro wz hSw; (try dsimp only at hSw); go_simp; (try with_reducible rfl)
  try simp only [Act.put, List.setIfInBounds_toArray, List.set_cons_zero, List.set_cons_succ]
  refine wpAnyH_take (i := 22) (oi := { dst := some 34, op := Op.fieldAddr 25 (Operand.tmp 1) 2, type := 0, pos := "ref.go:324", after := #[{ on := 21, ground := Ground.guard }], guard := some (21, true) }) (v := ?v22) rfl (by kernel_rfl) (by kernel_rfl) (by kernel_rfl) (fun _ _ _ h => h) (Or.inl ⟨by rfl, ?y22⟩) (by assumption) ?r22
  case y22 => intro wz hSw; (try dsimp only at hSw); go_simp; (try with_reducible rfl)
  try simp only [Act.put, List.setIfInBounds_toArray, List.set_cons_zero, List.set_cons_succ]
  refine wpAnyH_take (i := 23) (oi := { dst := some 35, op := Op.load 9 (Operand.tmp 34), type := 9, pos := "ref.go:324", after := #[{ on := 22, ground := Ground.data }, { on := 21, ground := Ground.guard }], guard := some (21, true) }) (v := ?v23) rfl (by kernel_rfl) (by kernel_rfl) (by kernel_rfl) (fun _ _ _ h => h) (Or.inl ⟨by rfl, ?y23⟩) (by assumption) ?r23
  case y23 => intro wz hSw; (try dsimp only at hSw); go_simp; (try with_reducible rfl)
  try simp only [Act.put, List.setIfInBounds_toArray, List.set_cons_zero, List.set_cons_succ]
  refine wpAnyH_ready (rs := [24]) (by kernel_rfl) (by simp) ?_
  refine AllReadyH.cons (o := { dst := some 36, op := Op.call { callee := Callee.value (Operand.func 40), args := #[Operand.tmp 35], argTypes := #[9] }, type := 4, pos := "ref.go:324", after := #[{ on := 23, ground := Ground.data }, { on := 21, ground := Ground.chain }, { on := 21, ground := Ground.guard }], guard := some (21, true) }) rfl (fun K hK => ?stp) AllReadyH.nil
  case stp =>
  go_simp
  refine (name_any name _ HNL.out).mono ?_
  rintro e w2 ⟨rfl, hb⟩
  obtain ⟨k0, k1, k2, k3, hbw⟩ := hHeld
  have r3 := cell_later hb k3
  refine hK.out _ _ ⟨cell_later hb k0, cell_later hb k1, cell_later hb k2, cell_later hb k3, below_rev hb hbw⟩ (fun hHeld => ?_)
  have HB2 := Lib.hid (below_rev hb hbw)
  clear hK K hb hbw k0 k1 k2 k3
  refine wpAnyH_take (i := 25) (oi := { dst := some 37, op := Op.pick (Operand.tmp 33) (Operand.tmp 36) (Operand.const (Value.bool false)), type := 4, pos := "ref.go:324", after := #[{ on := 21, ground := Ground.data }, { on := 24, ground := Ground.data }, { on := 26, ground := Ground.gcOnly Departure.lateStores }], guard := none }) (v := ?v25) rfl (by kernel_rfl) (by kernel_rfl) (by kernel_rfl) (fun _ _ _ h => h) (Or.inl ⟨by rfl, ?y25⟩) (by assumption) ?r25
  case y25 => intro wz hSw; (try dsimp only at hSw); go_simp; (try with_reducible rfl)
  try simp only [Act.put, List.setIfInBounds_toArray, List.set_cons_zero, List.set_cons_succ]
  refine wpAnyH_take (i := 26) (oi := { dst := some 4, op := Op.assign (Operand.tmp 24), type := 4, pos := "ref.go:324", after := #[{ on := 12, ground := Ground.data }, { on := 24, ground := Ground.chain }, { on := 0, ground := Ground.phase }, { on := 1, ground := Ground.phase }, { on := 2, ground := Ground.phase }, { on := 3, ground := Ground.phase }, { on := 4, ground := Ground.phase }, { on := 5, ground := Ground.phase }, { on := 6, ground := Ground.phase }, { on := 7, ground := Ground.phase }, { on := 8, ground := Ground.phase }, { on := 9, ground := Ground.phase }, { on := 10, ground := Ground.phase }, { on := 11, ground := Ground.phase }, { on := 12, ground := Ground.phase }, { on := 13, ground := Ground.textOnly Departure.lateStores }, { on := 14, ground := Ground.textOnly Departure.lateStores }, { on := 15, ground := Ground.textOnly Departure.lateStores }, { on := 16, ground := Ground.textOnly Departure.lateStores }, { on := 17, ground := Ground.textOnly Departure.lateStores }, { on := 18, ground := Ground.textOnly Departure.lateStores }, { on := 19, ground := Ground.textOnly Departure.lateStores }, { on := 20, ground := Ground.textOnly Departure.lateStores }, { on := 21, ground := Ground.textOnly Departure.lateStores }, { on := 22, ground := Ground.textOnly Departure.lateStores }, { on := 23, ground := Ground.textOnly Departure.lateStores }, { on := 24, ground := Ground.textOnly Departure.lateStoresUnsure }, { on := 25, ground := Ground.textOnly Departure.lateStores }], guard := none }) (v := ?v26) rfl (by kernel_rfl) (by kernel_rfl) (by kernel_rfl) (fun _ _ _ h => h) (Or.inl ⟨by rfl, ?y26⟩) (by assumption) ?r26
  case y26 => intro wz hSw; (try dsimp only at hSw); go_simp; (try with_reducible rfl)
  try simp only [Act.put, List.setIfInBounds_toArray, List.set_cons_zero, List.set_cons_succ]
  refine wpAnyH_take (i := 27) (oi := { dst := some 5, op := Op.assign (Operand.tmp 37), type := 4, pos := "ref.go:324", after := #[{ on := 25, ground := Ground.data }, { on := 26, ground := Ground.chain }, { on := 0, ground := Ground.phase }, { on := 1, ground := Ground.phase }, { on := 2, ground := Ground.phase }, { on := 3, ground := Ground.phase }, { on := 4, ground := Ground.phase }, { on := 5, ground := Ground.phase }, { on := 6, ground := Ground.phase }, { on := 7, ground := Ground.phase }, { on := 8, ground := Ground.phase }, { on := 9, ground := Ground.phase }, { on := 10, ground := Ground.phase }, { on := 11, ground := Ground.phase }, { on := 12, ground := Ground.phase }, { on := 13, ground := Ground.phase }, { on := 14, ground := Ground.phase }, { on := 15, ground := Ground.phase }, { on := 16, ground := Ground.phase }, { on := 17, ground := Ground.phase }, { on := 18, ground := Ground.phase }, { on := 19, ground := Ground.phase }, { on := 20, ground := Ground.phase }, { on := 21, ground := Ground.phase }, { on := 22, ground := Ground.phase }, { on := 23, ground := Ground.phase }, { on := 24, ground := Ground.phase }, { on := 25, ground := Ground.phase }, { on := 26, ground := Ground.phase }], guard := none }) (v := ?v27) rfl (by kernel_rfl) (by kernel_rfl) (by kernel_rfl) (fun _ _ _ h => h) (Or.inl ⟨by rfl, ?y27⟩) (by assumption) ?r27
  case y27 => intro wz hSw; (try dsimp only at hSw); go_simp; (try with_reducible rfl)
  try simp only [Act.put, List.setIfInBounds_toArray, List.set_cons_zero, List.set_cons_succ]
  refine wpAnyH_done (by kernel_rfl) ?_ _
  refine NoPanic.normal ?_
  clear hHeld
  cases hnm : nameB name with
  | true =>
    by_cases hn0 : n = 0
    · have tn := nF (show ((n : Nat) : Int) = 0 by omega)
      have hle : n ≤ 0 := by omega
      have HV : Hid ((nameB name && n == 0) = true) := by show _ = _; simp [hnm, hn0]
      clear hn0
      go_wp2_with fail
      refine wp_loop_rounds 1 ?_
      rw [rounds_succ]
      go_wp2_with fail
      go_ret
      exact ⟨ret_bool HV.out.symm, HB2.out⟩
    · have tn := nT (show ((n : Nat) : Int) ≠ 0 by omega)
      have HV : Hid ((nameB name && n == 0) = false) := by show _ = _; simp [hn0]
      clear hn0
      go_wp2_with fail
      go_ret
      exact ⟨ret_bool HV.out.symm, HB2.out⟩
  | false =>
    have HV : Hid ((nameB name && n == 0) = false) := by show _ = _; simp [hnm]
    go_wp2_with fail
    go_ret
    exact ⟨ret_bool HV.out.symm, HB2.out⟩
end Go.Proofs.YtbnbmibfjobacaaDoor

namespace Go.Proofs.YtbnbmibfjobacaaDoor
open Go.RowKit

/-- is the head of an expression with n Args as it should be -/
def shapeHead (op num : Int) (name : List UInt8) (n : Nat) : Bool :=
  if strV op = 6 then ((op == 1 && (decide (0 ≤ num) && name == [])) || (op == 2 && (num == 0 && nameB name))) && n == 0
  else (n == (if strV op = 5 then 1 else 2)) && (num == 0 && name == [])
mutual
def exShape : Ex → Bool
  | .mk op num name args => shapeHead op num name args.length && exShapes args
def exShapes : List Ex → Bool
  | [] => true
  | e :: r => exShape e && exShapes r
end
theorem exShape_mk (op num : Int) (name : List UInt8) (args : List Ex) : exShape (.mk op num name args) = (shapeHead op num name args.length && exShapes args) := by rw [exShape]
theorem exShapes_all (args : List Ex) : exShapes args = true ↔ ∀ i (h : i < args.length), exShape args[i] = true := by
  induction args with
  | nil => simp [exShapes]
  | cons e r ih =>
    rw [exShapes, Bool.and_eq_true, ih]
    constructor
    · rintro ⟨h1, h2⟩ i hi
      cases i with
      | zero => exact h1
      | succ i => exact h2 i (by simpa using hi)
    · intro h
      exact ⟨h 0 (by simp), fun i hi => h (i + 1) (by simpa using hi)⟩
theorem shape_false (op num : Int) (name : List UInt8) (args : List Ex) (h : shapeHead op num name args.length = false) : exShape (.mk op num name args) = false := by
  rw [exShape_mk, h]
  rfl
theorem shape_child (op num : Int) (name : List UInt8) (args : List Ex) (i : Nat) (hi : i < args.length) (h : exShape args[i] = false) : exShape (.mk op num name args) = false := by
  rw [exShape_mk]
  have : exShapes args = false := by
    rw [Bool.eq_false_iff]
    intro hh
    have := (exShapes_all args).1 hh i hi
    rw [h] at this
    cases this
  rw [this, Bool.and_false]
theorem shape_true (op num : Int) (name : List UInt8) (args : List Ex) (h : shapeHead op num name args.length = true) (hs : ∀ i (h : i < args.length), exShape args[i] = true) : exShape (.mk op num name args) = true := by
  rw [exShape_mk, h, (exShapes_all args).2 hs]
  rfl
theorem head_six (op num : Int) (name : List UInt8) (n : Nat) (h : strV op = 6) : shapeHead op num name n = (((op == 1 && (decide (0 ≤ num) && name == [])) || (op == 2 && (num == 0 && nameB name))) && n == 0) := if_pos h
theorem head_five (op num : Int) (name : List UInt8) (n : Nat) (h : strV op = 5) : shapeHead op num name n = (n == 1 && (num == 0 && name == [])) := by
  unfold shapeHead
  rw [if_neg (by omega), if_pos h]
theorem head_bin (op num : Int) (name : List UInt8) (n : Nat) (h5 : strV op ≠ 5) (h6 : strV op ≠ 6) : shapeHead op num name n = (n == 2 && (num == 0 && name == [])) := by
  unfold shapeHead
  rw [if_neg h6, if_neg h5]

set_option maxRecDepth 100000 in
set_option maxHeartbeats 4000000 in
theorem shape_fuel (N : Nat) : ∀ (E : Ex) (op num : Int) (name : List UInt8) (A : Option Addr) (n c : Nat) (w : World), SizeOf.sizeOf E < N → ExB E → ExM w (fun _ => True) E ⟨op, num, name, A, n, c⟩ →
    Calls Tryd.prog 23 #[.agg #[.int .i64 op, .int .i64 num, .string ⟨name.toArray⟩, .slice A n c]] w fun e w' => e = .returned (.bool (exShape E)) ∧ Below w.heap.size w w' := by
  induction N with
  | zero => intro E op num name A n c w h; omega
  | succ N ih =>
    intro E op num name A n c w hN hok hM
    have IH := Lib.hid ih
    clear ih
    cases hM with
    | mk _ _ _ args _ _ F hc hs =>
    have HC := Lib.hid hc
    have HS := Lib.hid hs
    have hsz := fun i h => size_arg op num name args i h
    have HSZ := Lib.hid hsz
    have hal : args.length ≤ 1000000 := by
      cases hok with
      | mk _ _ _ _ hl hn hs => exact hl
    have HNL : Hid (name.length ≤ 9223372036854775807) := by
      cases hok with
      | mk _ _ _ _ hl hn hs => exact hn
    have HIO : Hid (∀ i (h : i < args.length), ExB args[i]) := by
      cases hok with
      | mk _ _ _ _ hl hn hs => exact hs
    clear hok hc hs hsz
    have HB0 : Hid (Below w.heap.size w (w.alloc (.cells #[.int .i64 op, .int .i64 num, .string ⟨name.toArray⟩, .slice A args.length c] 25))) := (Below.refl _ _).alloc (Nat.le_refl _) _
    by_cases hc20 : op = 2 ∧ num = 0
    · obtain ⟨rfl, rfl⟩ := hc20
      refine (shape_nm name A args.length c w hal HNL.out).mono ?_
      rintro e w' ⟨rfl, hb⟩
      refine ⟨?_, hb⟩
      have h1 : exShape (.mk 2 0 name args) = (nameB name && args.length == 0) := by
        rw [exShape_mk, head_six 2 0 name _ (by decide)]
        by_cases h0 : args.length = 0
        · obtain rfl : args = [] := List.length_eq_zero_iff.1 h0
          simp [exShapes]
        · simp [h0]
      rw [h1]
    go_enter Tryd.func23, Tryd.ntmps23
    go_wp2_with fail
    refine (strength_any op _).mono ?_
    rintro e w1 ⟨rfl, hb1⟩
    obtain ⟨q0, q1, q2, q3, f0, f1, f2, f3, hz⟩ := four_later hb1
    have HBW := Lib.hid (below_two HB0.out hb1)
    clear hb1 f0 f1 f2 f3 HB0
    by_cases h6 : strV op = 6
    · have t6 := bT (show ((strV op : Nat) : Int) = 6 by omega)
      have H6 := Lib.hid h6
      clear h6
      by_cases c1 : op = 1
      · have t1 := bT c1
        have t2 := bF (show op ≠ 2 by omega)
        have C1 := Lib.hid c1
        by_cases hnum : 0 ≤ num
        · have dn : decide (0 ≤ num) = true := by simp; omega
          by_cases hnm : name = []
          · have te : (name == []) = true := by simp [hnm]
            have HNM := Lib.hid hnm
            clear c1 hnm
            by_cases hn0 : args.length = 0
            · have tn := nF (show ((args.length : Nat) : Int) = 0 by omega)
              have HHD := Lib.hid (shape_true op num name args (by rw [head_six _ _ _ _ H6.out]; simp [hn0, C1.out, hnum, HNM.out]) (fun j h => absurd h (by omega)))
              have hle : args.length ≤ 0 := by omega
              clear hn0
              go_wp2_with fail
              go_quiet (fail)
              go_wp2_with fail
              refine wp_loop_rounds 1 ?_
              rw [rounds_succ]
              go_wp2_with fail
              go_ret
              exact ⟨ret_bool HHD.out.symm, below_drewN HBW.out _⟩
            · have tn := nT (show ((args.length : Nat) : Int) ≠ 0 by omega)
              have HF := Lib.hid (shape_false op num name args (by rw [head_six _ _ _ _ H6.out]; simp [hn0]))
              clear hn0
              go_wp2_with fail
              go_quiet (fail)
              go_wp2_with fail
              go_ret
              exact ⟨ret_bool HF.out.symm, below_drewN HBW.out _⟩
          · have te : (name == []) = false := by simp [hnm]
            have HF := Lib.hid (shape_false op num name args (by rw [head_six _ _ _ _ H6.out]; simp [C1.out, hnm]))
            clear c1 hnm
            go_wp2_with fail
            go_quiet (fail)
            go_wp2_with fail
            go_ret
            exact ⟨ret_bool HF.out.symm, below_drewN HBW.out _⟩
        · have dn : decide (0 ≤ num) = false := decide_eq_false (by omega)
          have HF := Lib.hid (shape_false op num name args (by rw [head_six _ _ _ _ H6.out]; simp [C1.out, hnum]))
          go_wp2_with fail
          go_quiet (fail)
          go_wp2_with fail
          go_ret
          exact ⟨ret_bool HF.out.symm, below_drewN HBW.out _⟩
      · have t1 := bF c1
        by_cases c2 : op = 2
        · have t2 := bT c2
          by_cases hnum : num = 0
          · exact absurd ⟨c2, hnum⟩ hc20
          · have tm := bF hnum
            have HF := Lib.hid (shape_false op num name args (by rw [head_six _ _ _ _ H6.out]; simp [c2, hnum]))
            clear c1 c2 hnum
            go_wp2_with fail
            go_quiet (fail)
            go_wp2_with fail
            go_ret
            exact ⟨ret_bool HF.out.symm, below_drewN HBW.out _⟩
        · have t2 := bF c2
          have HF := Lib.hid (shape_false op num name args (by rw [head_six _ _ _ _ H6.out]; simp [c1, c2]))
          clear c1 c2
          go_wp2_with fail
          go_quiet (fail)
          go_wp2_with fail
          go_ret
          exact ⟨ret_bool HF.out.symm, below_drewN HBW.out _⟩
    · have t6 := bF (show ((strV op : Nat) : Int) ≠ 6 by omega)
      by_cases h5 : strV op = 5
      · have t5 := bT (show ((strV op : Nat) : Int) = 5 by omega)
        have H5 := Lib.hid h5
        clear h5 h6
        by_cases hn1 : args.length = 1
        · have tn := nF (show ((args.length : Nat) : Int) = 1 by omega)
          by_cases hnum : num = 0
          · have tm := nF hnum
            by_cases hnm : name = []
            · have te : (name != []) = false := by simp [hnm]
              have te2 : (name == []) = true := by simp [hnm]
              have hhd : shapeHead op num name args.length = true := by
                rw [head_five _ _ _ _ H5.out]
                simp [hn1, hnum, hnm]
              have HHD := Lib.hid hhd
              clear hhd
              have hge : 1 ≤ args.length := by omega
              have hle : args.length ≤ 1 := by omega
              have HNM := Lib.hid hnm
              clear hn1 hnum hnm
              go_wp2_with fail
              go_loopw [6] (fun i wz => ∃ m : Nat, m ≤ 1 ∧ i = .int .i64 m ∧ Hid (∀ j (_ : j < m) (h : j < args.length), exShape args[j] = true) ∧ Below w1.heap.size w1 wz) (fun i _ => 1 - (intOf i).toNat)
              case atStart => exact ⟨0, by omega, rfl, fun j hj => absurd hj (by omega), Below.refl _ _⟩
              case round =>
                obtain ⟨m, hm, rfl, hrel, hbel⟩ := hrel
                have HBZ := Lib.hid hbel
                have z3 := cell_later hbel q3
                clear hbel
                by_cases hlt : m < 1
                · have hlt' : m < args.length := by omega
                  obtain ⟨b, off, rfl, -, hat⟩ := HC.out m hlt'
                  have HBY := Lib.hid (below_two HBW.out HBZ.out)
                  obtain ⟨a0, a1, a2, a3⟩ := hat.keep (HBY.out.block b hat.lt)
                  have HCH := Lib.hid ((HS.out m hlt').later HBY.out)
                  go_wp2_with fail
                  refine (IH.out args[m] (F m).op (F m).num (F m).name (F m).A (F m).n (F m).c _ (by have := HSZ.out m hlt'; omega) (HIO.out m hlt') HCH.out).mono ?_
                  rintro e w3 ⟨rfl, hb3⟩
                  have HB3 := Lib.hid (below_two HBZ.out hb3)
                  clear hb3 a0 a1 a2 a3 z3
                  by_cases hsh : exShape args[m] = true
                  · have HE : Hid (∀ j (_ : j < m + 1) (h : j < args.length), exShape args[j] = true) := by
                      intro j hj h
                      by_cases hjm : j = m
                      · subst hjm; exact hsh
                      · exact hrel.out j (by omega) h
                    go_wp2_with fail
                    go_roundw
                    case rel => exact ⟨m + 1, by omega, by go_num, HE, HB3.out⟩
                    case measure => simp [intOf]; omega
                  · have hsh' : exShape args[m] = false := by simpa using hsh
                    have HE := Lib.hid (shape_child op num name args m hlt' hsh')
                    clear hsh
                    go_wp2_with fail
                    go_ret
                    exact ⟨ret_bool HE.out.symm, below_two HBW.out HB3.out⟩
                · have HE := Lib.hid (shape_true op num name args HHD.out (fun j h => hrel.out j (by omega) h))
                  go_wp2_with fail
                  go_ret
                  exact ⟨ret_bool HE.out.symm, below_two HBW.out HBZ.out⟩
            · have te : (name != []) = true := by simp [hnm]
              have te2 : (name == []) = false := by simp [hnm]
              have HF := Lib.hid (shape_false op num name args (by rw [head_five _ _ _ _ H5.out]; simp [hnm]))
              clear hn1 hnum hnm
              go_wp2_with fail
              go_ret
              exact ⟨ret_bool HF.out.symm, HBW.out⟩
          · have tm := nT hnum
            have HF := Lib.hid (shape_false op num name args (by rw [head_five _ _ _ _ H5.out]; simp [hnum]))
            clear hn1 hnum
            go_wp2_with fail
            go_ret
            exact ⟨ret_bool HF.out.symm, HBW.out⟩
        · have tn := nT (show ((args.length : Nat) : Int) ≠ 1 by omega)
          have HF := Lib.hid (shape_false op num name args (by rw [head_five _ _ _ _ H5.out]; simp [hn1]))
          clear hn1
          go_wp2_with fail
          go_ret
          exact ⟨ret_bool HF.out.symm, HBW.out⟩
      · have t5 := bF (show ((strV op : Nat) : Int) ≠ 5 by omega)
        have H5 := Lib.hid h5
        have H6 := Lib.hid h6
        clear h5 h6
        by_cases hn2 : args.length = 2
        · have tn := nF (show ((args.length : Nat) : Int) = 2 by omega)
          by_cases hnum : num = 0
          · have tm := nF hnum
            by_cases hnm : name = []
            · have te : (name != []) = false := by simp [hnm]
              have te2 : (name == []) = true := by simp [hnm]
              have hhd : shapeHead op num name args.length = true := by
                rw [head_bin _ _ _ _ H5.out H6.out]
                simp [hn2, hnum, hnm]
              have HHD := Lib.hid hhd
              clear hhd
              have hge : 2 ≤ args.length := by omega
              have hle : args.length ≤ 2 := by omega
              have HNM := Lib.hid hnm
              clear hn2 hnum hnm
              go_wp2_with fail
              go_loopw [6] (fun i wz => ∃ m : Nat, m ≤ 2 ∧ i = .int .i64 m ∧ Hid (∀ j (_ : j < m) (h : j < args.length), exShape args[j] = true) ∧ Below w1.heap.size w1 wz) (fun i _ => 2 - (intOf i).toNat)
              case atStart => exact ⟨0, by omega, rfl, fun j hj => absurd hj (by omega), Below.refl _ _⟩
              case round =>
                obtain ⟨m, hm, rfl, hrel, hbel⟩ := hrel
                have HBZ := Lib.hid hbel
                have z3 := cell_later hbel q3
                clear hbel
                by_cases hlt : m < 2
                · have hlt' : m < args.length := by omega
                  obtain ⟨b, off, rfl, -, hat⟩ := HC.out m hlt'
                  have HBY := Lib.hid (below_two HBW.out HBZ.out)
                  obtain ⟨a0, a1, a2, a3⟩ := hat.keep (HBY.out.block b hat.lt)
                  have HCH := Lib.hid ((HS.out m hlt').later HBY.out)
                  go_wp2_with fail
                  refine (IH.out args[m] (F m).op (F m).num (F m).name (F m).A (F m).n (F m).c _ (by have := HSZ.out m hlt'; omega) (HIO.out m hlt') HCH.out).mono ?_
                  rintro e w3 ⟨rfl, hb3⟩
                  have HB3 := Lib.hid (below_two HBZ.out hb3)
                  clear hb3 a0 a1 a2 a3 z3
                  by_cases hsh : exShape args[m] = true
                  · have HE : Hid (∀ j (_ : j < m + 1) (h : j < args.length), exShape args[j] = true) := by
                      intro j hj h
                      by_cases hjm : j = m
                      · subst hjm; exact hsh
                      · exact hrel.out j (by omega) h
                    go_wp2_with fail
                    go_roundw
                    case rel => exact ⟨m + 1, by omega, by go_num, HE, HB3.out⟩
                    case measure => simp [intOf]; omega
                  · have hsh' : exShape args[m] = false := by simpa using hsh
                    have HE := Lib.hid (shape_child op num name args m hlt' hsh')
                    clear hsh
                    go_wp2_with fail
                    go_ret
                    exact ⟨ret_bool HE.out.symm, below_two HBW.out HB3.out⟩
                · have HE := Lib.hid (shape_true op num name args HHD.out (fun j h => hrel.out j (by omega) h))
                  go_wp2_with fail
                  go_ret
                  exact ⟨ret_bool HE.out.symm, below_two HBW.out HBZ.out⟩
            · have te : (name != []) = true := by simp [hnm]
              have te2 : (name == []) = false := by simp [hnm]
              have HF := Lib.hid (shape_false op num name args (by rw [head_bin _ _ _ _ H5.out H6.out]; simp [hnm]))
              clear hn2 hnum hnm
              go_wp2_with fail
              go_ret
              exact ⟨ret_bool HF.out.symm, HBW.out⟩
          · have tm := nT hnum
            have HF := Lib.hid (shape_false op num name args (by rw [head_bin _ _ _ _ H5.out H6.out]; simp [hnum]))
            clear hn2 hnum
            go_wp2_with fail
            go_ret
            exact ⟨ret_bool HF.out.symm, HBW.out⟩
        · have tn := nT (show ((args.length : Nat) : Int) ≠ 2 by omega)
          have HF := Lib.hid (shape_false op num name args (by rw [head_bin _ _ _ _ H5.out H6.out]; simp [hn2]))
          clear hn2
          go_wp2_with fail
          go_ret
          exact ⟨ret_bool HF.out.symm, HBW.out⟩

end Go.Proofs.YtbnbmibfjobacaaDoor

namespace Go.Proofs.YtbnbmibfjobacaaDoor
open Go.RowKit

/-- is an expression valid -/
def refVB (E : Ex) : Bool := exShape E && decide (exHt E ≤ 24)

set_option maxRecDepth 100000 in
set_option maxHeartbeats 2000000 in
theorem refValid_any (w : World) (E : Ex) (op num : Int) (name : List UInt8) (A : Option Addr) (n c : Nat) (hM : ExM w (fun _ => True) E ⟨op, num, name, A, n, c⟩) (hB : ExB E) (hH : exHt E ≤ 1000000000) :
    Calls Tryd.prog 10 #[.agg #[.int .i64 op, .int .i64 num, .string ⟨name.toArray⟩, .slice A n c]] w fun e w' => e = .returned (.bool (refVB E)) ∧ Below w.heap.size w w' := by
  have HB0 : Hid (Below w.heap.size w (w.alloc (.cells #[.int .i64 op, .int .i64 num, .string ⟨name.toArray⟩, .slice A n c] 25))) := (Below.refl _ _).alloc (Nat.le_refl _) _
  have HM := Lib.hid (hM.later HB0.out)
  have HBB := Lib.hid hB
  have HH := Lib.hid hH
  have HV : Hid (refVB E = (exShape E && decide (exHt E ≤ 24))) := rfl
  clear hM hB hH
  go_enter Tryd.func10, Tryd.ntmps10
  go_wp2_with fail
  refine (shape_fuel (SizeOf.sizeOf E + 1) E op num name A n c _ (Nat.lt_succ_self _) HBB.out HM.out).mono ?_
  rintro e w1 ⟨rfl, hb1⟩
  obtain ⟨q0, q1, q2, q3, f0, f1, f2, f3, hz⟩ := four_later hb1
  have HB1 := Lib.hid (below_two HB0.out hb1)
  have HM1 := Lib.hid (HM.out.later hb1)
  clear hb1 f0 f1 f2 f3
  cases hs : exShape E with
  | false =>
    have HR : Hid (refVB E = false) := by rw [HV.out, hs]; rfl
    go_wp2_with fail
    go_ret
    exact ⟨ret_bool HR.out.symm, HB1.out⟩
  | true =>
    have HR : Hid (refVB E = decide (exHt E ≤ 24)) := by rw [HV.out, hs]; rfl
    clear hs
    go_wp2_with fail
    refine (height_fuel (SizeOf.sizeOf E + 1) E op num name A n c _ (Nat.lt_succ_self _) HBB.out HH.out HM1.out).mono ?_
    rintro e w2 ⟨rfl, hb2⟩
    have HB2 := Lib.hid (below_two HB1.out hb2)
    clear hb2
    by_cases h24 : exHt E ≤ 24
    · have d24 : decide ((exHt E : Int) ≤ 24) = true := decide_eq_true (by omega)
      have HR2 : Hid (refVB E = true) := by rw [HR.out]; exact decide_eq_true h24
      clear h24
      go_wp2_with fail
      go_ret
      exact ⟨ret_bool HR2.out.symm, HB2.out⟩
    · have d24 : decide ((exHt E : Int) ≤ 24) = false := decide_eq_false (by omega)
      have HR2 : Hid (refVB E = false) := by rw [HR.out]; exact decide_eq_false h24
      clear h24
      go_wp2_with fail
      go_ret
      exact ⟨ret_bool HR2.out.symm, HB2.out⟩

/-- the text that FormatExpr returns -/
def refFT (E : Ex) : List UInt8 := if refVB E then exText E else []

/-- the names are short -/
inductive ExNm : Ex → Prop
  | mk (op num : Int) (name : List UInt8) (args : List Ex) (hn : name.length ≤ 16) (hs : ∀ i (h : i < args.length), ExNm args[i]) : ExNm (.mk op num name args)
theorem part_len (op : Int) (k : Nat) (e : Ex) : (partText op k e).length ≤ (exText e).length + 2 := by
  unfold partText
  split
  · simp
  · omega
theorem text_len (E : Ex) (h : ExOk E) : ExNm E → (exText E).length ≤ 40 * exCnt E := by
  induction h with
  | mk op num name args hn ha hs ih =>
    intro hN
    obtain ⟨hnm, hns⟩ : name.length ≤ 16 ∧ ∀ i (h : i < args.length), ExNm args[i] := by
      cases hN with
      | mk _ _ _ _ h1 h2 => exact ⟨h1, h2⟩
    rw [exText_mk, exCnt_mk]
    rcases ha with ⟨ho, h0⟩ | ⟨ho, h1⟩ | ⟨o1, o2, h2⟩
    · obtain rfl : args = [] := List.length_eq_zero_iff.1 h0
      have h3 := numText_len num
      unfold finText
      rcases ho with rfl | rfl
      · rw [if_pos rfl]
        omega
      · rw [if_neg (by decide), if_pos rfl]
        omega
    · obtain ⟨x, rfl⟩ : ∃ x, args = [x] := List.length_eq_one_iff.1 h1
      have hx := ih 0 (by simp) (hns 0 (by simp))
      simp only [List.getElem_cons_zero] at hx
      have hp := part_len op 0 x
      rw [exParts_cons, exParts_nil, exCnts, exCnts]
      unfold finText
      rw [if_neg (by omega), if_neg (by omega)]
      rcases ho with rfl | rfl
      · rw [if_pos rfl]
        simp
        omega
      · rw [if_neg (by decide), if_pos rfl]
        simp
        omega
    · obtain ⟨x, y, rfl⟩ : ∃ x y, args = [x, y] := by
        match args, h2 with
        | [x, y], _ => exact ⟨x, y, rfl⟩
      have hx := ih 0 (by simp) (hns 0 (by simp))
      have hy := ih 1 (by simp) (hns 1 (by simp))
      simp only [List.getElem_cons_zero, List.getElem_cons_succ] at hx hy
      have hp := part_len op 0 x
      have hq := part_len op 1 y
      obtain ⟨s, hs', hsl⟩ := signOf_some op ⟨o1, o2⟩
      rw [exParts_cons, exParts_cons, exParts_nil, exCnts, exCnts, exCnts]
      unfold finText
      rw [if_neg (by omega), if_neg (by omega), if_neg (by omega), if_neg (by omega), hs']
      simp
      omega
theorem exprG_nm (xs : List Int) (d : Nat) : ∀ i, ExNm (exprG nm3 xs d i).1 := by
  have leaf : ∀ i, ExNm (exprG.leafG nm3 xs i).1 := by
    intro i
    unfold exprG.leafG
    split
    · refine .mk _ _ _ _ ?_ (fun j hj => absurd hj (by simp))
      generalize nextV xs (nextI xs i) nm3.length = k
      by_cases h : k < 3
      · have : ∀ k, k < 3 → (nm3.getD k []).length ≤ 16 := by decide
        exact this k h
      · rw [List.getD_eq_getElem?_getD, List.getElem?_eq_none (by show 3 ≤ k; omega)]
        simp
    · exact .mk _ _ _ _ (by simp) (fun j hj => absurd hj (by simp))
  induction d with
  | zero =>
    intro i
    have e : exprG nm3 xs 0 i = exprG.leafG nm3 xs (nextI xs i) := by rw [exprG]
    rw [e]
    exact leaf _
  | succ d ih =>
    intro i
    by_cases h2 : nextV xs i 10 < 2
    · rw [exprG_leaf nm3 xs d i h2]
      exact leaf _
    · by_cases h4 : nextV xs i 10 < 4
      · rw [exprG_un nm3 xs d i h2 h4]
        refine .mk _ _ _ _ (by simp) (fun j hj => ?_)
        have : j = 0 := by simpa using hj
        subst this
        exact ih _
      · rw [exprG_bin nm3 xs d i h2 h4]
        refine .mk _ _ _ _ (by simp) (fun j hj => ?_)
        have : j = 0 ∨ j = 1 := by simp at hj; omega
        rcases this with rfl | rfl
        · exact ih _
        · exact ih _
theorem madeG_len (xs : List Int) : (exText (madeG xs)).length ≤ 2560 ∧ exHt (madeG xs) ≤ 128 := by
  obtain ⟨h1, _, h3⟩ := madeG_ok xs
  have h4 := text_len (madeG xs) h1 (exprG_nm _ _ _)
  have h5 := height_le (madeG xs) h1
  omega
theorem refFT_len (xs : List Int) : (refFT (madeG xs)).length ≤ 2560 := by
  unfold refFT
  split
  · exact (madeG_len xs).1
  · simp
end Go.Proofs.YtbnbmibfjobacaaDoor
