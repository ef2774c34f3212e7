/- What shape of the reference returns for a name. What shape of the reference returns: the plain function exShape. What is known of an expression that the Source makes of names that may be declared. No statement of the program is proved in this file. What the reference's text of a reference to a mutex is. What the reference's text of arguments is. Statements as trees, what it means that the memory holds one, and the text of statements as a plain function. No statement of the program is proved in this file. Statements of made programs as trees: their form, how many there are, how long their text is. No statement of the program is proved in this file. -/
import Derived.Test.YtjjooekkieddbaaDoorGTxt
import Derived.Deep.RegionHeld3
import Derived.Deep.RegionLaw
namespace Go.Proofs.YtjjooekkieddbaaDoor
open Go.RowKit

set_option maxRecDepth 100000 in
set_option maxHeartbeats 4000000 in
theorem shape_nm (name : List UInt8) (A : Option Addr) (n c : Nat) (w : World) (_hn : n ≤ 1000000) (hN : name.length ≤ 9223372036854775807) :
    Calls Tryd.prog 23 #[.agg #[.int .i64 2, .int .i64 0, .string ⟨name.toArray⟩, .slice A n c]] w fun e w' => e = .returned (.bool (nameB name && n == 0)) ∧ Below w.heap.size w w' := by
  have HNL := Lib.hid hN
  have HB0 : Hid (Below w.heap.size w (w.alloc (.cells #[.int .i64 2, .int .i64 0, .string ⟨name.toArray⟩, .slice A n c] 25))) := (Below.refl _ _).alloc (Nat.le_refl _) _
  clear hN
  go_enter Tryd.func23, Tryd.ntmps23
  go_wp2_with fail
  refine (strength_any 2 _).mono ?_
  rintro e w1 ⟨rfl, hb1⟩
  rw [show strV 2 = 6 by decide]
  obtain ⟨q0, q1, q2, q3, f0, f1, f2, f3, hz⟩ := four_later hb1
  have HBW := Lib.hid (below_two HB0.out hb1)
  clear hb1 f0 f1 f2 f3 HB0
  have hb0 := HBW.out
  go_wp2_with fail
  refine wp_region_noPanic ?_
  refine wp_region_held_drew (S := fun w' => w'.cell? ⟨w.heap.size, 0, none⟩ = some (.int .i64 2) ∧ w'.cell? ⟨w.heap.size, 1, none⟩ = some (.int .i64 0) ∧ w'.cell? ⟨w.heap.size, 2, none⟩ = some (.string ⟨name.toArray⟩) ∧ w'.cell? ⟨w.heap.size, 3, none⟩ = some (.slice A n c) ∧ Below w.heap.size w w') (by kernel_rfl) ⟨q0, q1, q2, q3, hb0.drew⟩ (fun hHeld => ?_)
  refine wpAnyH_take (i := 0) (oi := { dst := some 12, op := Op.fieldAddr 25 (Operand.tmp 1) 0, type := 0, pos := "ref.go:324", after := #[], guard := none }) (v := ?v0) rfl (by kernel_rfl) (by kernel_rfl) (by kernel_rfl) (fun _ _ _ h => h) (Or.inl ⟨by rfl, ?y0⟩) (by assumption) ?r0
  case y0 => intro wz hSw; (try dsimp only at hSw); go_simp; (try with_reducible rfl)
  try simp only [Act.put, List.setIfInBounds_toArray, List.set_cons_zero, List.set_cons_succ]
  refine wpAnyH_take (i := 1) (oi := { dst := some 13, op := Op.load 3 (Operand.tmp 12), type := 3, pos := "ref.go:324", after := #[{ on := 0, ground := Ground.data }], guard := none }) (v := ?v1) rfl (by kernel_rfl) (by kernel_rfl) (by kernel_rfl) (fun _ _ _ h => h) (Or.inl ⟨by rfl, ?y1⟩) (by assumption) ?r1
  case y1 => intro wz hSw; (try dsimp only at hSw); go_simp; (try with_reducible rfl)
  try simp only [Act.put, List.setIfInBounds_toArray, List.set_cons_zero, List.set_cons_succ]
  refine wpAnyH_take (i := 2) (oi := { dst := some 14, op := Op.binOp BinOp.eql 3 (Operand.tmp 13) (Operand.const (Value.int IntKind.i64 1)) 3, type := 4, pos := "ref.go:324", after := #[{ on := 1, ground := Ground.data }], guard := none }) (v := ?v2) rfl (by kernel_rfl) (by kernel_rfl) (by kernel_rfl) (fun _ _ _ h => h) (Or.inl ⟨by rfl, ?y2⟩) (by assumption) ?r2
  case y2 => intro wz hSw; (try dsimp only at hSw); go_simp; (try with_reducible rfl)
  try simp only [Act.put, List.setIfInBounds_toArray, List.set_cons_zero, List.set_cons_succ]
  refine wpAnyH_take (i := 3) (oi := { dst := some 15, op := Op.move (Operand.tmp 14), type := 4, pos := "ref.go:324", after := #[{ on := 2, ground := Ground.data }], guard := none }) (v := ?v3) rfl (by kernel_rfl) (by kernel_rfl) (by kernel_rfl) (fun _ _ _ h => h) (Or.inl ⟨by rfl, ?y3⟩) (by assumption) ?r3
  case y3 => intro wz hSw; (try dsimp only at hSw); go_simp; (try with_reducible rfl)
  try simp only [Act.put, List.setIfInBounds_toArray, List.set_cons_zero, List.set_cons_succ]
  refine wpAnyH_take (i := 4) (oi := { dst := some 16, op := Op.fieldAddr 25 (Operand.tmp 1) 1, type := 0, pos := "ref.go:324", after := #[{ on := 3, ground := Ground.guard }], guard := some (3, true) }) (v := undef) rfl (by kernel_rfl) (by kernel_rfl) (by kernel_rfl) (fun _ _ _ h => h) (Or.inr ⟨by rfl, rfl⟩) (by assumption) ?_
  try simp only [Act.put, List.setIfInBounds_toArray, List.set_cons_zero, List.set_cons_succ]
  refine wpAnyH_take (i := 5) (oi := { dst := some 17, op := Op.load 3 (Operand.tmp 16), type := 3, pos := "ref.go:324", after := #[{ on := 4, ground := Ground.data }, { on := 3, ground := Ground.guard }], guard := some (3, true) }) (v := undef) rfl (by kernel_rfl) (by kernel_rfl) (by kernel_rfl) (fun _ _ _ h => h) (Or.inr ⟨by rfl, rfl⟩) (by assumption) ?_
  try simp only [Act.put, List.setIfInBounds_toArray, List.set_cons_zero, List.set_cons_succ]
  refine wpAnyH_take (i := 6) (oi := { dst := some 18, op := Op.binOp BinOp.geq 3 (Operand.tmp 17) (Operand.const (Value.int IntKind.i64 0)) 3, type := 4, pos := "ref.go:324", after := #[{ on := 5, ground := Ground.data }, { on := 3, ground := Ground.guard }], guard := some (3, true) }) (v := undef) rfl (by kernel_rfl) (by kernel_rfl) (by kernel_rfl) (fun _ _ _ h => h) (Or.inr ⟨by rfl, rfl⟩) (by assumption) ?_
  try simp only [Act.put, List.setIfInBounds_toArray, List.set_cons_zero, List.set_cons_succ]
  refine wpAnyH_take (i := 7) (oi := { dst := some 19, op := Op.pick (Operand.tmp 15) (Operand.tmp 18) (Operand.const (Value.bool false)), type := 4, pos := "ref.go:324", after := #[{ on := 3, ground := Ground.data }, { on := 6, ground := Ground.data }], guard := none }) (v := ?v7) rfl (by kernel_rfl) (by kernel_rfl) (by kernel_rfl) (fun _ _ _ h => h) (Or.inl ⟨by rfl, ?y7⟩) (by assumption) ?r7
  case y7 => intro wz hSw; (try dsimp only at hSw); go_simp; (try with_reducible rfl)
  try simp only [Act.put, List.setIfInBounds_toArray, List.set_cons_zero, List.set_cons_succ]
  refine wpAnyH_take (i := 8) (oi := { dst := some 20, op := Op.move (Operand.tmp 19), type := 4, pos := "ref.go:324", after := #[{ on := 7, ground := Ground.data }, { on := 3, ground := Ground.chain }], guard := none }) (v := ?v8) rfl (by kernel_rfl) (by kernel_rfl) (by kernel_rfl) (fun _ _ _ h => h) (Or.inl ⟨by rfl, ?y8⟩) (by assumption) ?r8
  case y8 => intro wz hSw; (try dsimp only at hSw); go_simp; (try with_reducible rfl)
  try simp only [Act.put, List.setIfInBounds_toArray, List.set_cons_zero, List.set_cons_succ]
  refine wpAnyH_take (i := 9) (oi := { dst := some 21, op := Op.fieldAddr 25 (Operand.tmp 1) 2, type := 0, pos := "ref.go:324", after := #[{ on := 8, ground := Ground.guard }], guard := some (8, true) }) (v := undef) rfl (by kernel_rfl) (by kernel_rfl) (by kernel_rfl) (fun _ _ _ h => h) (Or.inr ⟨by rfl, rfl⟩) (by assumption) ?_
  try simp only [Act.put, List.setIfInBounds_toArray, List.set_cons_zero, List.set_cons_succ]
  refine wpAnyH_take (i := 10) (oi := { dst := some 22, op := Op.load 9 (Operand.tmp 21), type := 9, pos := "ref.go:324", after := #[{ on := 9, ground := Ground.data }, { on := 8, ground := Ground.guard }], guard := some (8, true) }) (v := undef) rfl (by kernel_rfl) (by kernel_rfl) (by kernel_rfl) (fun _ _ _ h => h) (Or.inr ⟨by rfl, rfl⟩) (by assumption) ?_
  try simp only [Act.put, List.setIfInBounds_toArray, List.set_cons_zero, List.set_cons_succ]
  refine wpAnyH_take (i := 11) (oi := { dst := some 23, op := Op.binOp BinOp.eql 9 (Operand.tmp 22) (Operand.const (Value.string { data := #[] })) 9, type := 4, pos := "ref.go:324", after := #[{ on := 10, ground := Ground.data }, { on := 8, ground := Ground.guard }], guard := some (8, true) }) (v := undef) rfl (by kernel_rfl) (by kernel_rfl) (by kernel_rfl) (fun _ _ _ h => h) (Or.inr ⟨by rfl, rfl⟩) (by assumption) ?_
  try simp only [Act.put, List.setIfInBounds_toArray, List.set_cons_zero, List.set_cons_succ]
  refine wpAnyH_take (i := 12) (oi := { dst := some 24, op := Op.pick (Operand.tmp 20) (Operand.tmp 23) (Operand.const (Value.bool false)), type := 4, pos := "ref.go:324", after := #[{ on := 8, ground := Ground.data }, { on := 11, ground := Ground.data }], guard := none }) (v := ?v12) rfl (by kernel_rfl) (by kernel_rfl) (by kernel_rfl) (fun _ _ _ h => h) (Or.inl ⟨by rfl, ?y12⟩) (by assumption) ?r12
  case y12 => intro wz hSw; (try dsimp only at hSw); go_simp; (try with_reducible rfl)
  try simp only [Act.put, List.setIfInBounds_toArray, List.set_cons_zero, List.set_cons_succ]
  refine wpAnyH_take (i := 13) (oi := { dst := some 25, op := Op.fieldAddr 25 (Operand.tmp 1) 0, type := 0, pos := "ref.go:324", after := #[], guard := none }) (v := ?v13) rfl (by kernel_rfl) (by kernel_rfl) (by kernel_rfl) (fun _ _ _ h => h) (Or.inl ⟨by rfl, ?y13⟩) (by assumption) ?r13
  case y13 => intro wz hSw; (try dsimp only at hSw); go_simp; (try with_reducible rfl)
  try simp only [Act.put, List.setIfInBounds_toArray, List.set_cons_zero, List.set_cons_succ]
  refine wpAnyH_take (i := 14) (oi := { dst := some 26, op := Op.load 3 (Operand.tmp 25), type := 3, pos := "ref.go:324", after := #[{ on := 13, ground := Ground.data }], guard := none }) (v := ?v14) rfl (by kernel_rfl) (by kernel_rfl) (by kernel_rfl) (fun _ _ _ h => h) (Or.inl ⟨by rfl, ?y14⟩) (by assumption) ?r14
  case y14 => intro wz hSw; (try dsimp only at hSw); go_simp; (try with_reducible rfl)
  try simp only [Act.put, List.setIfInBounds_toArray, List.set_cons_zero, List.set_cons_succ]
  refine wpAnyH_take (i := 15) (oi := { dst := some 27, op := Op.binOp BinOp.eql 3 (Operand.tmp 26) (Operand.const (Value.int IntKind.i64 2)) 3, type := 4, pos := "ref.go:324", after := #[{ on := 14, ground := Ground.data }], guard := none }) (v := ?v15) rfl (by kernel_rfl) (by kernel_rfl) (by kernel_rfl) (fun _ _ _ h => h) (Or.inl ⟨by rfl, ?y15⟩) (by assumption) ?r15
  case y15 => intro wz hSw; (try dsimp only at hSw); go_simp; (try with_reducible rfl)
  try simp only [Act.put, List.setIfInBounds_toArray, List.set_cons_zero, List.set_cons_succ]
  refine wpAnyH_take (i := 16) (oi := { dst := some 28, op := Op.move (Operand.tmp 27), type := 4, pos := "ref.go:324", after := #[{ on := 15, ground := Ground.data }, { on := 8, ground := Ground.chain }], guard := none }) (v := ?v16) rfl (by kernel_rfl) (by kernel_rfl) (by kernel_rfl) (fun _ _ _ h => h) (Or.inl ⟨by rfl, ?y16⟩) (by assumption) ?r16
  case y16 => intro wz hSw; (try dsimp only at hSw); go_simp; (try with_reducible rfl)
  try simp only [Act.put, List.setIfInBounds_toArray, List.set_cons_zero, List.set_cons_succ]
  refine wpAnyH_take (i := 17) (oi := { dst := some 29, op := Op.fieldAddr 25 (Operand.tmp 1) 1, type := 0, pos := "ref.go:324", after := #[{ on := 16, ground := Ground.guard }], guard := some (16, true) }) (v := ?v17) rfl (by kernel_rfl) (by kernel_rfl) (by kernel_rfl) (fun _ _ _ h => h) (Or.inl ⟨by rfl, ?y17⟩) (by assumption) ?r17
  case y17 => intro wz hSw; (try dsimp only at hSw); go_simp; (try with_reducible rfl)
  try simp only [Act.put, List.setIfInBounds_toArray, List.set_cons_zero, List.set_cons_succ]
  refine wpAnyH_take (i := 18) (oi := { dst := some 30, op := Op.load 3 (Operand.tmp 29), type := 3, pos := "ref.go:324", after := #[{ on := 17, ground := Ground.data }, { on := 16, ground := Ground.guard }], guard := some (16, true) }) (v := ?v18) rfl (by kernel_rfl) (by kernel_rfl) (by kernel_rfl) (fun _ _ _ h => h) (Or.inl ⟨by rfl, ?y18⟩) (by assumption) ?r18
  case y18 => intro wz hSw; (try dsimp only at hSw); go_simp; (try with_reducible rfl)
  try simp only [Act.put, List.setIfInBounds_toArray, List.set_cons_zero, List.set_cons_succ]
  refine wpAnyH_take (i := 19) (oi := { dst := some 31, op := Op.binOp BinOp.eql 3 (Operand.tmp 30) (Operand.const (Value.int IntKind.i64 0)) 3, type := 4, pos := "ref.go:324", after := #[{ on := 18, ground := Ground.data }, { on := 16, ground := Ground.guard }], guard := some (16, true) }) (v := ?v19) rfl (by kernel_rfl) (by kernel_rfl) (by kernel_rfl) (fun _ _ _ h => h) (Or.inl ⟨by rfl, ?y19⟩) (by assumption) ?r19
  case y19 => intro wz hSw; (try dsimp only at hSw); go_simp; (try with_reducible rfl)
  try simp only [Act.put, List.setIfInBounds_toArray, List.set_cons_zero, List.set_cons_succ]
  refine wpAnyH_take (i := 20) (oi := { dst := some 32, op := Op.pick (Operand.tmp 28) (Operand.tmp 31) (Operand.const (Value.bool false)), type := 4, pos := "ref.go:324", after := #[{ on := 16, ground := Ground.data }, { on := 19, ground := Ground.data }], guard := none }) (v := ?v20) rfl (by kernel_rfl) (by kernel_rfl) (by kernel_rfl) (fun _ _ _ h => h) (Or.inl ⟨by rfl, ?y20⟩) (by assumption) ?r20
  case y20 => intro wz hSw; (try dsimp only at hSw); go_simp; (try with_reducible rfl)
  try simp only [Act.put, List.setIfInBounds_toArray, List.set_cons_zero, List.set_cons_succ]
  refine wpAnyH_take (i := 21) (oi := { dst := some 33, op := Op.move (Operand.tmp 32), type := 4, pos := "ref.go:324", after := #[{ on := 20, ground := Ground.data }, { on := 16, ground := Ground.chain }], guard := none }) (v := ?v21) rfl (by kernel_rfl) (by kernel_rfl) (by kernel_rfl) (fun _ _ _ h => h) (Or.inl ⟨by rfl, ?y21⟩) (by assumption) ?r21
  case y21 => intro wz hSw; (try dsimp only at hSw); go_simp; (try with_reducible rfl)
  try simp only [Act.put, List.setIfInBounds_toArray, List.set_cons_zero, List.set_cons_succ]
  refine wpAnyH_take (i := 22) (oi := { dst := some 34, op := Op.fieldAddr 25 (Operand.tmp 1) 2, type := 0, pos := "ref.go:324", after := #[{ on := 21, ground := Ground.guard }], guard := some (21, true) }) (v := ?v22) rfl (by kernel_rfl) (by kernel_rfl) (by kernel_rfl) (fun _ _ _ h => h) (Or.inl ⟨by rfl, ?y22⟩) (by assumption) ?r22
  case y22 => intro wz hSw; (try dsimp only at hSw); go_simp; (try with_reducible rfl)
  try simp only [Act.put, List.setIfInBounds_toArray, List.set_cons_zero, List.set_cons_succ]
  refine wpAnyH_take (i := 23) (oi := { dst := some 35, op := Op.load 9 (Operand.tmp 34), type := 9, pos := "ref.go:324", after := #[{ on := 22, ground := Ground.data }, { on := 21, ground := Ground.guard }], guard := some (21, true) }) (v := ?v23) rfl (by kernel_rfl) (by kernel_rfl) (by kernel_rfl) (fun _ _ _ h => h) (Or.inl ⟨by rfl, ?y23⟩) (by assumption) ?r23
  case y23 => intro wz hSw; (try dsimp only at hSw); go_simp; (try with_reducible rfl)
  try simp only [Act.put, List.setIfInBounds_toArray, List.set_cons_zero, List.set_cons_succ]
  refine wpAnyH_ready (rs := [24]) (by kernel_rfl) (by simp) ?_
  refine AllReadyH.cons (o := { dst := some 36, op := Op.call { callee := Callee.value (Operand.func 40), args := #[Operand.tmp 35], argTypes := #[9] }, type := 4, pos := "ref.go:324", after := #[{ on := 23, ground := Ground.data }, { on := 21, ground := Ground.chain }, { on := 21, ground := Ground.guard }], guard := some (21, true) }) rfl (fun K hK => ?stp) AllReadyH.nil
  case stp =>
  go_simp
  refine (name_any name _ HNL.out).mono ?_
  rintro e w2 ⟨rfl, hb⟩
  obtain ⟨k0, k1, k2, k3, hbw⟩ := hHeld
  have r3 := cell_later hb k3
  refine hK.out _ _ ⟨cell_later hb k0, cell_later hb k1, cell_later hb k2, cell_later hb k3, below_rev hb hbw⟩ (fun hHeld => ?_)
  have HB2 := Lib.hid (below_rev hb hbw)
  clear hK K hb hbw k0 k1 k2 k3
  refine wpAnyH_take (i := 25) (oi := { dst := some 37, op := Op.pick (Operand.tmp 33) (Operand.tmp 36) (Operand.const (Value.bool false)), type := 4, pos := "ref.go:324", after := #[{ on := 21, ground := Ground.data }, { on := 24, ground := Ground.data }, { on := 26, ground := Ground.gcOnly Departure.lateStores }], guard := none }) (v := ?v25) rfl (by kernel_rfl) (by kernel_rfl) (by kernel_rfl) (fun _ _ _ h => h) (Or.inl ⟨by rfl, ?y25⟩) (by assumption) ?r25
  case y25 => intro wz hSw; (try dsimp only at hSw); go_simp; (try with_reducible rfl)
  try simp only [Act.put, List.setIfInBounds_toArray, List.set_cons_zero, List.set_cons_succ]
  refine wpAnyH_take (i := 26) (oi := { dst := some 4, op := Op.assign (Operand.tmp 24), type := 4, pos := "ref.go:324", after := #[{ on := 12, ground := Ground.data }, { on := 24, ground := Ground.chain }, { on := 0, ground := Ground.phase }, { on := 1, ground := Ground.phase }, { on := 2, ground := Ground.phase }, { on := 3, ground := Ground.phase }, { on := 4, ground := Ground.phase }, { on := 5, ground := Ground.phase }, { on := 6, ground := Ground.phase }, { on := 7, ground := Ground.phase }, { on := 8, ground := Ground.phase }, { on := 9, ground := Ground.phase }, { on := 10, ground := Ground.phase }, { on := 11, ground := Ground.phase }, { on := 12, ground := Ground.phase }, { on := 13, ground := Ground.textOnly Departure.lateStores }, { on := 14, ground := Ground.textOnly Departure.lateStores }, { on := 15, ground := Ground.textOnly Departure.lateStores }, { on := 16, ground := Ground.textOnly Departure.lateStores }, { on := 17, ground := Ground.textOnly Departure.lateStores }, { on := 18, ground := Ground.textOnly Departure.lateStores }, { on := 19, ground := Ground.textOnly Departure.lateStores }, { on := 20, ground := Ground.textOnly Departure.lateStores }, { on := 21, ground := Ground.textOnly Departure.lateStores }, { on := 22, ground := Ground.textOnly Departure.lateStores }, { on := 23, ground := Ground.textOnly Departure.lateStores }, { on := 24, ground := Ground.textOnly Departure.lateStoresUnsure }, { on := 25, ground := Ground.textOnly Departure.lateStores }], guard := none }) (v := ?v26) rfl (by kernel_rfl) (by kernel_rfl) (by kernel_rfl) (fun _ _ _ h => h) (Or.inl ⟨by rfl, ?y26⟩) (by assumption) ?r26
  case y26 => intro wz hSw; (try dsimp only at hSw); go_simp; (try with_reducible rfl)
  try simp only [Act.put, List.setIfInBounds_toArray, List.set_cons_zero, List.set_cons_succ]
  refine wpAnyH_take (i := 27) (oi := { dst := some 5, op := Op.assign (Operand.tmp 37), type := 4, pos := "ref.go:324", after := #[{ on := 25, ground := Ground.data }, { on := 26, ground := Ground.chain }, { on := 0, ground := Ground.phase }, { on := 1, ground := Ground.phase }, { on := 2, ground := Ground.phase }, { on := 3, ground := Ground.phase }, { on := 4, ground := Ground.phase }, { on := 5, ground := Ground.phase }, { on := 6, ground := Ground.phase }, { on := 7, ground := Ground.phase }, { on := 8, ground := Ground.phase }, { on := 9, ground := Ground.phase }, { on := 10, ground := Ground.phase }, { on := 11, ground := Ground.phase }, { on := 12, ground := Ground.phase }, { on := 13, ground := Ground.phase }, { on := 14, ground := Ground.phase }, { on := 15, ground := Ground.phase }, { on := 16, ground := Ground.phase }, { on := 17, ground := Ground.phase }, { on := 18, ground := Ground.phase }, { on := 19, ground := Ground.phase }, { on := 20, ground := Ground.phase }, { on := 21, ground := Ground.phase }, { on := 22, ground := Ground.phase }, { on := 23, ground := Ground.phase }, { on := 24, ground := Ground.phase }, { on := 25, ground := Ground.phase }, { on := 26, ground := Ground.phase }], guard := none }) (v := ?v27) rfl (by kernel_rfl) (by kernel_rfl) (by kernel_rfl) (fun _ _ _ h => h) (Or.inl ⟨by rfl, ?y27⟩) (by assumption) ?r27
  case y27 => intro wz hSw; (try dsimp only at hSw); go_simp; (try with_reducible rfl)
  try simp only [Act.put, List.setIfInBounds_toArray, List.set_cons_zero, List.set_cons_succ]
  refine wpAnyH_done (by kernel_rfl) ?_ _
  refine NoPanic.normal ?_
  clear hHeld
  cases hnm : nameB name with
  | true =>
    by_cases hn0 : n = 0
    · have tn := nF (show ((n : Nat) : Int) = 0 by omega)
      have hle : n ≤ 0 := by omega
      have HV : Hid ((nameB name && n == 0) = true) := by show _ = _; simp [hnm, hn0]
      clear hn0
      go_wp2_with fail
      refine wp_loop_rounds 1 ?_
      rw [rounds_succ]
      go_wp2_with fail
      go_ret
      exact ⟨ret_bool HV.out.symm, HB2.out⟩
    · have tn := nT (show ((n : Nat) : Int) ≠ 0 by omega)
      have HV : Hid ((nameB name && n == 0) = false) := by show _ = _; simp [hn0]
      clear hn0
      go_wp2_with fail
      go_ret
      exact ⟨ret_bool HV.out.symm, HB2.out⟩
  | false =>
    have HV : Hid ((nameB name && n == 0) = false) := by show _ = _; simp [hnm]
    go_wp2_with fail
    go_ret
    exact ⟨ret_bool HV.out.symm, HB2.out⟩
end Go.Proofs.YtjjooekkieddbaaDoor

namespace Go.Proofs.YtjjooekkieddbaaDoor
open Go.RowKit

/-- is the head of an expression with n Args as it should be -/
def shapeHead (op num : Int) (name : List UInt8) (n : Nat) : Bool :=
  if strV op = 6 then ((op == 1 && (decide (0 ≤ num) && name == [])) || (op == 2 && (num == 0 && nameB name))) && n == 0
  else (n == (if strV op = 5 then 1 else 2)) && (num == 0 && name == [])
mutual
def exShape : Ex → Bool
  | .mk op num name args => shapeHead op num name args.length && exShapes args
def exShapes : List Ex → Bool
  | [] => true
  | e :: r => exShape e && exShapes r
end
theorem exShape_mk (op num : Int) (name : List UInt8) (args : List Ex) : exShape (.mk op num name args) = (shapeHead op num name args.length && exShapes args) := by rw [exShape]
theorem exShapes_all (args : List Ex) : exShapes args = true ↔ ∀ i (h : i < args.length), exShape args[i] = true := by
  induction args with
  | nil => simp [exShapes]
  | cons e r ih =>
    rw [exShapes, Bool.and_eq_true, ih]
    constructor
    · rintro ⟨h1, h2⟩ i hi
      cases i with
      | zero => exact h1
      | succ i => exact h2 i (by simpa using hi)
    · intro h
      exact ⟨h 0 (by simp), fun i hi => h (i + 1) (by simpa using hi)⟩
theorem shape_false (op num : Int) (name : List UInt8) (args : List Ex) (h : shapeHead op num name args.length = false) : exShape (.mk op num name args) = false := by
  rw [exShape_mk, h]
  rfl
theorem shape_child (op num : Int) (name : List UInt8) (args : List Ex) (i : Nat) (hi : i < args.length) (h : exShape args[i] = false) : exShape (.mk op num name args) = false := by
  rw [exShape_mk]
  have : exShapes args = false := by
    rw [Bool.eq_false_iff]
    intro hh
    have := (exShapes_all args).1 hh i hi
    rw [h] at this
    cases this
  rw [this, Bool.and_false]
theorem shape_true (op num : Int) (name : List UInt8) (args : List Ex) (h : shapeHead op num name args.length = true) (hs : ∀ i (h : i < args.length), exShape args[i] = true) : exShape (.mk op num name args) = true := by
  rw [exShape_mk, h, (exShapes_all args).2 hs]
  rfl
theorem head_six (op num : Int) (name : List UInt8) (n : Nat) (h : strV op = 6) : shapeHead op num name n = (((op == 1 && (decide (0 ≤ num) && name == [])) || (op == 2 && (num == 0 && nameB name))) && n == 0) := if_pos h
theorem head_five (op num : Int) (name : List UInt8) (n : Nat) (h : strV op = 5) : shapeHead op num name n = (n == 1 && (num == 0 && name == [])) := by
  unfold shapeHead
  rw [if_neg (by omega), if_pos h]
theorem head_bin (op num : Int) (name : List UInt8) (n : Nat) (h5 : strV op ≠ 5) (h6 : strV op ≠ 6) : shapeHead op num name n = (n == 2 && (num == 0 && name == [])) := by
  unfold shapeHead
  rw [if_neg h6, if_neg h5]

set_option maxRecDepth 100000 in
set_option maxHeartbeats 4000000 in
theorem shape_fuel (N : Nat) : ∀ (E : Ex) (op num : Int) (name : List UInt8) (A : Option Addr) (n c : Nat) (w : World), SizeOf.sizeOf E < N → ExB E → ExM w (fun _ => True) E ⟨op, num, name, A, n, c⟩ →
    Calls Tryd.prog 23 #[.agg #[.int .i64 op, .int .i64 num, .string ⟨name.toArray⟩, .slice A n c]] w fun e w' => e = .returned (.bool (exShape E)) ∧ Below w.heap.size w w' := by
  induction N with
  | zero => intro E op num name A n c w h; omega
  | succ N ih =>
    intro E op num name A n c w hN hok hM
    have IH := Lib.hid ih
    clear ih
    cases hM with
    | mk _ _ _ args _ _ F hc hs =>
    have HC := Lib.hid hc
    have HS := Lib.hid hs
    have hsz := fun i h => size_arg op num name args i h
    have HSZ := Lib.hid hsz
    have hal : args.length ≤ 1000000 := by
      cases hok with
      | mk _ _ _ _ hl hn hs => exact hl
    have HNL : Hid (name.length ≤ 9223372036854775807) := by
      cases hok with
      | mk _ _ _ _ hl hn hs => exact hn
    have HIO : Hid (∀ i (h : i < args.length), ExB args[i]) := by
      cases hok with
      | mk _ _ _ _ hl hn hs => exact hs
    clear hok hc hs hsz
    have HB0 : Hid (Below w.heap.size w (w.alloc (.cells #[.int .i64 op, .int .i64 num, .string ⟨name.toArray⟩, .slice A args.length c] 25))) := (Below.refl _ _).alloc (Nat.le_refl _) _
    by_cases hc20 : op = 2 ∧ num = 0
    · obtain ⟨rfl, rfl⟩ := hc20
      refine (shape_nm name A args.length c w hal HNL.out).mono ?_
      rintro e w' ⟨rfl, hb⟩
      refine ⟨?_, hb⟩
      have h1 : exShape (.mk 2 0 name args) = (nameB name && args.length == 0) := by
        rw [exShape_mk, head_six 2 0 name _ (by decide)]
        by_cases h0 : args.length = 0
        · obtain rfl : args = [] := List.length_eq_zero_iff.1 h0
          simp [exShapes]
        · simp [h0]
      rw [h1]
    go_enter Tryd.func23, Tryd.ntmps23
    go_wp2_with fail
    refine (strength_any op _).mono ?_
    rintro e w1 ⟨rfl, hb1⟩
    obtain ⟨q0, q1, q2, q3, f0, f1, f2, f3, hz⟩ := four_later hb1
    have HBW := Lib.hid (below_two HB0.out hb1)
    clear hb1 f0 f1 f2 f3 HB0
    by_cases h6 : strV op = 6
    · have t6 := bT (show ((strV op : Nat) : Int) = 6 by omega)
      have H6 := Lib.hid h6
      clear h6
      by_cases c1 : op = 1
      · have t1 := bT c1
        have t2 := bF (show op ≠ 2 by omega)
        have C1 := Lib.hid c1
        by_cases hnum : 0 ≤ num
        · have dn : decide (0 ≤ num) = true := by simp; omega
          by_cases hnm : name = []
          · have te : (name == []) = true := by simp [hnm]
            have HNM := Lib.hid hnm
            clear c1 hnm
            by_cases hn0 : args.length = 0
            · have tn := nF (show ((args.length : Nat) : Int) = 0 by omega)
              have HHD := Lib.hid (shape_true op num name args (by rw [head_six _ _ _ _ H6.out]; simp [hn0, C1.out, hnum, HNM.out]) (fun j h => absurd h (by omega)))
              have hle : args.length ≤ 0 := by omega
              clear hn0
              go_wp2_with fail
              go_quiet (fail)
              go_wp2_with fail
              refine wp_loop_rounds 1 ?_
              rw [rounds_succ]
              go_wp2_with fail
              go_ret
              exact ⟨ret_bool HHD.out.symm, below_drewN HBW.out _⟩
            · have tn := nT (show ((args.length : Nat) : Int) ≠ 0 by omega)
              have HF := Lib.hid (shape_false op num name args (by rw [head_six _ _ _ _ H6.out]; simp [hn0]))
              clear hn0
              go_wp2_with fail
              go_quiet (fail)
              go_wp2_with fail
              go_ret
              exact ⟨ret_bool HF.out.symm, below_drewN HBW.out _⟩
          · have te : (name == []) = false := by simp [hnm]
            have HF := Lib.hid (shape_false op num name args (by rw [head_six _ _ _ _ H6.out]; simp [C1.out, hnm]))
            clear c1 hnm
            go_wp2_with fail
            go_quiet (fail)
            go_wp2_with fail
            go_ret
            exact ⟨ret_bool HF.out.symm, below_drewN HBW.out _⟩
        · have dn : decide (0 ≤ num) = false := decide_eq_false (by omega)
          have HF := Lib.hid (shape_false op num name args (by rw [head_six _ _ _ _ H6.out]; simp [C1.out, hnum]))
          go_wp2_with fail
          go_quiet (fail)
          go_wp2_with fail
          go_ret
          exact ⟨ret_bool HF.out.symm, below_drewN HBW.out _⟩
      · have t1 := bF c1
        by_cases c2 : op = 2
        · have t2 := bT c2
          by_cases hnum : num = 0
          · exact absurd ⟨c2, hnum⟩ hc20
          · have tm := bF hnum
            have HF := Lib.hid (shape_false op num name args (by rw [head_six _ _ _ _ H6.out]; simp [c2, hnum]))
            clear c1 c2 hnum
            go_wp2_with fail
            go_quiet (fail)
            go_wp2_with fail
            go_ret
            exact ⟨ret_bool HF.out.symm, below_drewN HBW.out _⟩
        · have t2 := bF c2
          have HF := Lib.hid (shape_false op num name args (by rw [head_six _ _ _ _ H6.out]; simp [c1, c2]))
          clear c1 c2
          go_wp2_with fail
          go_quiet (fail)
          go_wp2_with fail
          go_ret
          exact ⟨ret_bool HF.out.symm, below_drewN HBW.out _⟩
    · have t6 := bF (show ((strV op : Nat) : Int) ≠ 6 by omega)
      by_cases h5 : strV op = 5
      · have t5 := bT (show ((strV op : Nat) : Int) = 5 by omega)
        have H5 := Lib.hid h5
        clear h5 h6
        by_cases hn1 : args.length = 1
        · have tn := nF (show ((args.length : Nat) : Int) = 1 by omega)
          by_cases hnum : num = 0
          · have tm := nF hnum
            by_cases hnm : name = []
            · have te : (name != []) = false := by simp [hnm]
              have te2 : (name == []) = true := by simp [hnm]
              have hhd : shapeHead op num name args.length = true := by
                rw [head_five _ _ _ _ H5.out]
                simp [hn1, hnum, hnm]
              have HHD := Lib.hid hhd
              clear hhd
              have hge : 1 ≤ args.length := by omega
              have hle : args.length ≤ 1 := by omega
              have HNM := Lib.hid hnm
              clear hn1 hnum hnm
              go_wp2_with fail
              go_loopw [6] (fun i wz => ∃ m : Nat, m ≤ 1 ∧ i = .int .i64 m ∧ Hid (∀ j (_ : j < m) (h : j < args.length), exShape args[j] = true) ∧ Below w1.heap.size w1 wz) (fun i _ => 1 - (intOf i).toNat)
              case atStart => exact ⟨0, by omega, rfl, fun j hj => absurd hj (by omega), Below.refl _ _⟩
              case round =>
                obtain ⟨m, hm, rfl, hrel, hbel⟩ := hrel
                have HBZ := Lib.hid hbel
                have z3 := cell_later hbel q3
                clear hbel
                by_cases hlt : m < 1
                · have hlt' : m < args.length := by omega
                  obtain ⟨b, off, rfl, -, hat⟩ := HC.out m hlt'
                  have HBY := Lib.hid (below_two HBW.out HBZ.out)
                  obtain ⟨a0, a1, a2, a3⟩ := hat.keep (HBY.out.block b hat.lt)
                  have HCH := Lib.hid ((HS.out m hlt').later HBY.out)
                  go_wp2_with fail
                  refine (IH.out args[m] (F m).op (F m).num (F m).name (F m).A (F m).n (F m).c _ (by have := HSZ.out m hlt'; omega) (HIO.out m hlt') HCH.out).mono ?_
                  rintro e w3 ⟨rfl, hb3⟩
                  have HB3 := Lib.hid (below_two HBZ.out hb3)
                  clear hb3 a0 a1 a2 a3 z3
                  by_cases hsh : exShape args[m] = true
                  · have HE : Hid (∀ j (_ : j < m + 1) (h : j < args.length), exShape args[j] = true) := by
                      intro j hj h
                      by_cases hjm : j = m
                      · subst hjm; exact hsh
                      · exact hrel.out j (by omega) h
                    go_wp2_with fail
                    go_roundw
                    case rel => exact ⟨m + 1, by omega, by go_num, HE, HB3.out⟩
                    case measure => simp [intOf]; omega
                  · have hsh' : exShape args[m] = false := by simpa using hsh
                    have HE := Lib.hid (shape_child op num name args m hlt' hsh')
                    clear hsh
                    go_wp2_with fail
                    go_ret
                    exact ⟨ret_bool HE.out.symm, below_two HBW.out HB3.out⟩
                · have HE := Lib.hid (shape_true op num name args HHD.out (fun j h => hrel.out j (by omega) h))
                  go_wp2_with fail
                  go_ret
                  exact ⟨ret_bool HE.out.symm, below_two HBW.out HBZ.out⟩
            · have te : (name != []) = true := by simp [hnm]
              have te2 : (name == []) = false := by simp [hnm]
              have HF := Lib.hid (shape_false op num name args (by rw [head_five _ _ _ _ H5.out]; simp [hnm]))
              clear hn1 hnum hnm
              go_wp2_with fail
              go_ret
              exact ⟨ret_bool HF.out.symm, HBW.out⟩
          · have tm := nT hnum
            have HF := Lib.hid (shape_false op num name args (by rw [head_five _ _ _ _ H5.out]; simp [hnum]))
            clear hn1 hnum
            go_wp2_with fail
            go_ret
            exact ⟨ret_bool HF.out.symm, HBW.out⟩
        · have tn := nT (show ((args.length : Nat) : Int) ≠ 1 by omega)
          have HF := Lib.hid (shape_false op num name args (by rw [head_five _ _ _ _ H5.out]; simp [hn1]))
          clear hn1
          go_wp2_with fail
          go_ret
          exact ⟨ret_bool HF.out.symm, HBW.out⟩
      · have t5 := bF (show ((strV op : Nat) : Int) ≠ 5 by omega)
        have H5 := Lib.hid h5
        have H6 := Lib.hid h6
        clear h5 h6
        by_cases hn2 : args.length = 2
        · have tn := nF (show ((args.length : Nat) : Int) = 2 by omega)
          by_cases hnum : num = 0
          · have tm := nF hnum
            by_cases hnm : name = []
            · have te : (name != []) = false := by simp [hnm]
              have te2 : (name == []) = true := by simp [hnm]
              have hhd : shapeHead op num name args.length = true := by
                rw [head_bin _ _ _ _ H5.out H6.out]
                simp [hn2, hnum, hnm]
              have HHD := Lib.hid hhd
              clear hhd
              have hge : 2 ≤ args.length := by omega
              have hle : args.length ≤ 2 := by omega
              have HNM := Lib.hid hnm
              clear hn2 hnum hnm
              go_wp2_with fail
              go_loopw [6] (fun i wz => ∃ m : Nat, m ≤ 2 ∧ i = .int .i64 m ∧ Hid (∀ j (_ : j < m) (h : j < args.length), exShape args[j] = true) ∧ Below w1.heap.size w1 wz) (fun i _ => 2 - (intOf i).toNat)
              case atStart => exact ⟨0, by omega, rfl, fun j hj => absurd hj (by omega), Below.refl _ _⟩
              case round =>
                obtain ⟨m, hm, rfl, hrel, hbel⟩ := hrel
                have HBZ := Lib.hid hbel
                have z3 := cell_later hbel q3
                clear hbel
                by_cases hlt : m < 2
                · have hlt' : m < args.length := by omega
                  obtain ⟨b, off, rfl, -, hat⟩ := HC.out m hlt'
                  have HBY := Lib.hid (below_two HBW.out HBZ.out)
                  obtain ⟨a0, a1, a2, a3⟩ := hat.keep (HBY.out.block b hat.lt)
                  have HCH := Lib.hid ((HS.out m hlt').later HBY.out)
                  go_wp2_with fail
                  refine (IH.out args[m] (F m).op (F m).num (F m).name (F m).A (F m).n (F m).c _ (by have := HSZ.out m hlt'; omega) (HIO.out m hlt') HCH.out).mono ?_
                  rintro e w3 ⟨rfl, hb3⟩
                  have HB3 := Lib.hid (below_two HBZ.out hb3)
                  clear hb3 a0 a1 a2 a3 z3
                  by_cases hsh : exShape args[m] = true
                  · have HE : Hid (∀ j (_ : j < m + 1) (h : j < args.length), exShape args[j] = true) := by
                      intro j hj h
                      by_cases hjm : j = m
                      · subst hjm; exact hsh
                      · exact hrel.out j (by omega) h
                    go_wp2_with fail
                    go_roundw
                    case rel => exact ⟨m + 1, by omega, by go_num, HE, HB3.out⟩
                    case measure => simp [intOf]; omega
                  · have hsh' : exShape args[m] = false := by simpa using hsh
                    have HE := Lib.hid (shape_child op num name args m hlt' hsh')
                    clear hsh
                    go_wp2_with fail
                    go_ret
                    exact ⟨ret_bool HE.out.symm, below_two HBW.out HB3.out⟩
                · have HE := Lib.hid (shape_true op num name args HHD.out (fun j h => hrel.out j (by omega) h))
                  go_wp2_with fail
                  go_ret
                  exact ⟨ret_bool HE.out.symm, below_two HBW.out HBZ.out⟩
            · have te : (name != []) = true := by simp [hnm]
              have te2 : (name == []) = false := by simp [hnm]
              have HF := Lib.hid (shape_false op num name args (by rw [head_bin _ _ _ _ H5.out H6.out]; simp [hnm]))
              clear hn2 hnum hnm
              go_wp2_with fail
              go_ret
              exact ⟨ret_bool HF.out.symm, HBW.out⟩
          · have tm := nT hnum
            have HF := Lib.hid (shape_false op num name args (by rw [head_bin _ _ _ _ H5.out H6.out]; simp [hnum]))
            clear hn2 hnum
            go_wp2_with fail
            go_ret
            exact ⟨ret_bool HF.out.symm, HBW.out⟩
        · have tn := nT (show ((args.length : Nat) : Int) ≠ 2 by omega)
          have HF := Lib.hid (shape_false op num name args (by rw [head_bin _ _ _ _ H5.out H6.out]; simp [hn2]))
          clear hn2
          go_wp2_with fail
          go_ret
          exact ⟨ret_bool HF.out.symm, HBW.out⟩

end Go.Proofs.YtjjooekkieddbaaDoor

namespace Go.Proofs.YtjjooekkieddbaaDoor
open Go.RowKit

structure MdE (d : Nat) (E : Ex) : Prop where
  ok : ExOk E
  b : ExB E
  sh : exShape E = true
  ht : exHt E ≤ 2 * d
  tx : (exText E).length + 8 ≤ 30 * 2 ^ d
theorem nameB_len {s : List UInt8} (h : nameB s = true) : 1 ≤ s.length ∧ s.length ≤ 16 := by
  simp only [nameB, Bool.and_eq_true, decide_eq_true_eq] at h
  exact ⟨h.2.1.1, h.2.1.2⟩
theorem part_len' (op : Int) (k : Nat) (e : Ex) : (partText op k e).length ≤ (exText e).length + 2 := by
  unfold partText
  split
  · simp
  · omega
theorem ht_part' (op : Int) (k : Nat) (e : Ex) : htPart op k e ≤ exHt e + 1 := by
  unfold htPart
  split <;> omega
theorem two_pow_pos (d : Nat) : 1 ≤ 2 ^ d := Nat.pow_pos (by omega)
theorem md_num (n : Nat) (hn : n ≤ 4611686018427387904) (d : Nat) : MdE d (.mk 1 (n : Int) [] []) := by
  have hp := two_pow_pos d
  refine ⟨.mk _ _ _ _ (by omega) (.inl ⟨.inl rfl, rfl⟩) (fun j hj => absurd hj (by simp)), .mk _ _ _ _ (by simp) (by simp) (fun j hj => absurd hj (by simp)), ?_, ?_, ?_⟩
  · rw [exShape_mk, exShapes, shapeHead, if_pos (by decide)]
    simp
  · rw [exHt_mk, exHts_nil, if_neg (by decide)]
    omega
  · rw [exText_mk, finText, if_pos rfl]
    have := numText_len (n : Int)
    omega
theorem md_name (s : List UInt8) (h : nameB s = true) (d : Nat) : MdE d (.mk 2 0 s []) := by
  have hp := two_pow_pos d
  obtain ⟨h1, h2⟩ := nameB_len h
  refine ⟨.mk _ _ _ _ (by omega) (.inl ⟨.inr rfl, rfl⟩) (fun j hj => absurd hj (by simp)), .mk _ _ _ _ (by simp) (by omega) (fun j hj => absurd hj (by simp)), ?_, ?_, ?_⟩
  · rw [exShape_mk, exShapes, shapeHead, if_pos (by decide)]
    simp [h]
  · rw [exHt_mk, exHts_nil, if_neg (by decide)]
    omega
  · rw [exText_mk, finText, if_neg (by decide), if_pos rfl]
    omega
theorem md_un (op : Int) (ho : op = 3 ∨ op = 4) (d : Nat) (x : Ex) (h : MdE d x) : MdE (d + 1) (.mk op 0 [] [x]) := by
  have hp := two_pow_pos d
  have hq : 2 ^ (d + 1) = 2 * 2 ^ d := by rw [Nat.pow_succ]; omega
  have h5 : strV op = 5 := by rcases ho with rfl | rfl <;> decide
  refine ⟨.mk _ _ _ _ (by omega) (.inr (.inl ⟨ho, rfl⟩)) (fun j hj => ?_), .mk _ _ _ _ (by simp) (by simp) (fun j hj => ?_), ?_, ?_, ?_⟩
  · obtain rfl : j = 0 := by simpa using hj
    exact h.ok
  · obtain rfl : j = 0 := by simpa using hj
    exact h.b
  · rw [exShape_mk, exShapes, exShapes, shapeHead, h5, if_neg (by decide), if_pos rfl, h.sh]
    simp
  · have := ht_part' op 0 x
    have := h.ht
    rw [exHt_mk, exHts_cons, exHts_nil, if_pos h5]
    omega
  · have h1 := part_len' op 0 x
    have h2 := h.tx
    rw [exText_mk, exParts_cons, exParts_nil, finText, if_neg (by omega), if_neg (by omega)]
    rcases ho with rfl | rfl
    · rw [if_pos rfl]
      simp
      omega
    · rw [if_neg (by decide), if_pos rfl]
      simp
      omega
theorem md_bin (op : Int) (o1 : 5 ≤ op) (o2 : op ≤ 17) (d : Nat) (x y : Ex) (h : MdE d x) (k : MdE d y) : MdE (d + 1) (.mk op 0 [] [x, y]) := by
  have hp := two_pow_pos d
  have hq : 2 ^ (d + 1) = 2 * 2 ^ d := by rw [Nat.pow_succ]; omega
  have h5 : strV op ≠ 5 ∧ strV op ≠ 6 := by
    have hc : op = 5 ∨ op = 6 ∨ op = 7 ∨ op = 8 ∨ op = 9 ∨ op = 10 ∨ op = 11 ∨ op = 12 ∨ op = 13 ∨ op = 14 ∨ op = 15 ∨ op = 16 ∨ op = 17 := by omega
    rcases hc with rfl | rfl | rfl | rfl | rfl | rfl | rfl | rfl | rfl | rfl | rfl | rfl | rfl <;> decide
  refine ⟨.mk _ _ _ _ (by omega) (.inr (.inr ⟨o1, o2, rfl⟩)) (fun j hj => ?_), .mk _ _ _ _ (by simp) (by simp) (fun j hj => ?_), ?_, ?_, ?_⟩
  · have : j = 0 ∨ j = 1 := by simp at hj; omega
    rcases this with rfl | rfl
    · exact h.ok
    · exact k.ok
  · have : j = 0 ∨ j = 1 := by simp at hj; omega
    rcases this with rfl | rfl
    · exact h.b
    · exact k.b
  · rw [exShape_mk, exShapes, exShapes, exShapes, shapeHead, if_neg h5.2, if_neg h5.1, h.sh, k.sh]
    simp
  · have := ht_part' op 0 x
    have := ht_part' op 1 y
    have := h.ht
    have := k.ht
    rw [exHt_mk, exHts_cons, exHts_cons, exHts_nil, if_neg h5.1]
    show max (max 0 (htPart op 0 x)) (htPart op 1 y) + 0 ≤ _
    omega
  · have h1 := part_len' op 0 x
    have h2 := part_len' op 1 y
    have h3 := h.tx
    have h4 := k.tx
    obtain ⟨s, hs', hsl⟩ := signOf_some op ⟨o1, o2⟩
    rw [exText_mk, exParts_cons, exParts_cons, exParts_nil, finText, if_neg (by omega), if_neg (by omega), if_neg (by omega), if_neg (by omega), hs']
    simp
    omega
theorem numG_le (xs : List Int) (j : Nat) : (numG xs j).1 ≤ 4611686018427387904 := by
  unfold numG
  split
  · have := nextV_lt xs (nextI xs j) 4611686018427387904 (by omega)
    dsimp only
    omega
  · have := nextV_lt xs (nextI xs j) 4 (by omega)
    dsimp only
    omega
theorem md_leaf (names : List (List UInt8)) (hN : ∀ n ∈ names, nameB n = true) (xs : List Int) (i d : Nat) : MdE d (exprG.leafG names xs i).1 := by
  unfold exprG.leafG
  split
  · rename_i h
    refine md_name _ (hN _ ?_) d
    have := nextV_lt xs (nextI xs i) names.length h.1
    rw [List.getD_eq_getElem?_getD, List.getElem?_eq_getElem this]
    exact List.getElem_mem this
  · exact md_num _ (numG_le _ _) d
theorem exprG_md (names : List (List UInt8)) (hN : ∀ n ∈ names, nameB n = true) (xs : List Int) (d : Nat) : ∀ i, MdE d (exprG names xs d i).1 := by
  induction d with
  | zero =>
    intro i
    have e : exprG names xs 0 i = exprG.leafG names xs (nextI xs i) := by rw [exprG]
    rw [e]
    exact md_leaf names hN xs _ _
  | succ d ih =>
    intro i
    by_cases h2 : nextV xs i 10 < 2
    · rw [exprG_leaf names xs d i h2]
      exact md_leaf names hN xs _ _
    · by_cases h4 : nextV xs i 10 < 4
      · rw [exprG_un names xs d i h2 h4]
        exact md_un _ (by omega) d _ (ih _)
      · rw [exprG_bin names xs d i h2 h4]
        have hv := nextV_lt xs (nextI xs i) 13 (by omega)
        exact md_bin _ (by omega) (by omega) d _ _ (ih _) (ih _)
end Go.Proofs.YtjjooekkieddbaaDoor

namespace Go.Proofs.YtjjooekkieddbaaDoor
open Go.RowKit

/-- a reference: a name, and an index if it is an element -/
structure Rf where
  name : List UInt8
  idx : Option Ex
/-- the slice of a reference's index: nothing, or one expression in memory -/
def IdxM (w : World) (S : Nat → Prop) (o : Option Ex) (A : Option Addr) (n : Nat) : Prop :=
  match o with
  | none => n = 0
  | some E => n = 1 ∧ ∃ b off f, A = some ⟨b, off, none⟩ ∧ S b ∧ EFat w b off f ∧ ExM w S E f
theorem IdxM.keep {w w' : World} {S : Nat → Prop} {o : Option Ex} {A : Option Addr} {n : Nat} (h : IdxM w S o A n) (hk : ∀ b, S b → b < w.heap.size → w'.heap[b]? = w.heap[b]?) : IdxM w' S o A n := by
  cases o with
  | none => exact h
  | some E =>
    obtain ⟨hn, b, off, f, e, hb, hat, hM⟩ := h
    exact ⟨hn, b, off, f, e, hb, hat.keep (hk b hb hat.lt), hM.keep hk⟩
def IdxOk : Option Ex → Prop
  | none => True
  | some E => ExOk E
def rfText (r : Rf) : List UInt8 :=
  match r.idx with
  | none => r.name
  | some E => r.name ++ [91] ++ exText E ++ [93]

theorem run_addS (a b : List UInt8) (h : a.length + b.length ≤ 4000000000) (w : World) : (Op.stringOp .add ⟨a.toArray⟩ ⟨b.toArray⟩).run Tryd.prog w = .ok (.string ⟨(a ++ b).toArray⟩) w := by
  rw [run_string_add_sum _ _ _ (by simp [ByteArray.size]; omega), bapp]
theorem two_later {w w2 : World} {c0 c1 : Value} {t : TypeId} (hb : Below (w.alloc (.cells #[c0, c1] t)).heap.size (w.alloc (.cells #[c0, c1] t)) w2) :
    w2.cell? ⟨w.heap.size, 0, none⟩ = some c0 ∧ w2.cell? ⟨w.heap.size, 1, none⟩ = some c1 := by
  have hs : w.heap.size < (w.alloc (.cells #[c0, c1] t)).heap.size := by simp
  refine ⟨?_, ?_⟩
  · rw [hb.cell hs, World.cell?_alloc_mark]; rfl
  · rw [hb.cell hs, World.cell?_alloc_mark]; rfl

end Go.Proofs.YtjjooekkieddbaaDoor

namespace Go.Proofs.YtjjooekkieddbaaDoor
open Go.RowKit

/-- an argument -/
structure Ar where
  m : Bool
  r : Rf
  e : Ex
/-- the seven cells at a place are an argument -/
def ArM (w : World) (S : Nat → Prop) (a : Ar) (b o : Nat) : Prop :=
  ∃ A n c f, w.cell? ⟨b, o, none⟩ = some (.bool a.m) ∧ w.cell? ⟨b, o + 1, none⟩ = some (.string ⟨a.r.name.toArray⟩) ∧ w.cell? ⟨b, o + 1 + 1, none⟩ = some (.slice A n c) ∧ IdxM w S a.r.idx A n ∧ EFat w b (o + 3) f ∧ ExM w S a.e f
def ArsM (w : World) (S : Nat → Prop) (l : List Ar) (A : Option Addr) : Prop :=
  ∀ i (h : i < l.length), ∃ b off, A = some ⟨b, off, none⟩ ∧ S b ∧ ArM w S l[i] b (off + i * 7)
def ArOk (a : Ar) : Prop := if a.m then IdxOk a.r.idx else ExOk a.e
def arText (a : Ar) : List UInt8 := if a.m then [109, 117, 116, 101, 120, 32] ++ rfText a.r else exText a.e
/-- the text of the first k arguments, with the opening parenthesis -/
def arsPre (l : List Ar) : Nat → List UInt8
  | 0 => [40]
  | k + 1 => arsPre l k ++ ((if 0 < k then [44, 32] else []) ++ (l[k]?.map arText).getD [])
def arsText (l : List Ar) : List UInt8 := arsPre l l.length ++ [41]
theorem arsPre_succ (l : List Ar) (k : Nat) (h : k < l.length) : arsPre l (k + 1) = arsPre l k ++ ((if 0 < k then [44, 32] else []) ++ arText l[k]) := by
  rw [arsPre, List.getElem?_eq_getElem h]
  rfl
theorem arsPre_mono (l : List Ar) (k n : Nat) (h : k ≤ n) : (arsPre l k).length ≤ (arsPre l n).length := by
  induction n with
  | zero => have : k = 0 := by omega
            subst this; exact Nat.le_refl _
  | succ n ih =>
    by_cases hk : k = n + 1
    · subst hk; exact Nat.le_refl _
    · have := ih (by omega)
      rw [arsPre, List.length_append]
      omega

theorem ArM.later {w w' : World} {S : Nat → Prop} {a : Ar} {b o : Nat} (h : ArM w S a b o) (hb : Below w.heap.size w w') : ArM w' S a b o := by
  obtain ⟨A, n, c, f, h0, h1, h2, hI, hat, hE⟩ := h
  exact ⟨A, n, c, f, cell_later hb h0, cell_later hb h1, cell_later hb h2, hI.keep fun b _ hlt => hb.block b hlt, hat.keep (hb.block b hat.lt), hE.later hb⟩

end Go.Proofs.YtjjooekkieddbaaDoor

namespace Go.Proofs.YtjjooekkieddbaaDoor
open Go.RowKit

/-- a statement -/
inductive St where
  | mk (kind : Int) (name : List UInt8) (e : Ex) (r : Rf) (args : List Ar) (thn els : List St)
def St.kind : St → Int | .mk k _ _ _ _ _ _ => k
def St.name : St → List UInt8 | .mk _ n _ _ _ _ _ => n
def St.rf : St → Rf | .mk _ _ _ r _ _ _ => r
def St.ars : St → List Ar | .mk _ _ _ _ a _ _ => a
def St.thn : St → List St | .mk _ _ _ _ _ t _ => t
def St.els : St → List St | .mk _ _ _ _ _ _ e => e
/-- where a statement's parts lie -/
structure SG where
  f : EF
  rA : Option Addr
  rn : Nat
  rc : Nat
  aA : Option Addr
  ac : Nat
  tA : Option Addr
  tc : Nat
  eA : Option Addr
  ec : Nat
/-- the eleven cells at a place are a statement's -/
def StC (w : World) (b o : Nat) (s : St) (g : SG) : Prop :=
  w.cell? ⟨b, o, none⟩ = some (.int .i64 s.kind) ∧ w.cell? ⟨b, o + 1, none⟩ = some (.string ⟨s.name.toArray⟩) ∧
  w.cell? ⟨b, o + 2, none⟩ = some (.int .i64 g.f.op) ∧ w.cell? ⟨b, o + 3, none⟩ = some (.int .i64 g.f.num) ∧ w.cell? ⟨b, o + 4, none⟩ = some (.string ⟨g.f.name.toArray⟩) ∧ w.cell? ⟨b, o + 5, none⟩ = some (.slice g.f.A g.f.n g.f.c) ∧
  w.cell? ⟨b, o + 6, none⟩ = some (.string ⟨s.rf.name.toArray⟩) ∧ w.cell? ⟨b, o + 7, none⟩ = some (.slice g.rA g.rn g.rc) ∧
  w.cell? ⟨b, o + 8, none⟩ = some (.slice g.aA s.ars.length g.ac) ∧ w.cell? ⟨b, o + 9, none⟩ = some (.slice g.tA s.thn.length g.tc) ∧ w.cell? ⟨b, o + 10, none⟩ = some (.slice g.eA s.els.length g.ec)
theorem StC.lt {w : World} {b o : Nat} {s : St} {g : SG} (h : StC w b o s g) : b < w.heap.size := World.block_lt_of_cell? _ _ h.1
theorem StC.keep {w w' : World} {b o : Nat} {s : St} {g : SG} (h : StC w b o s g) (hk : w'.heap[b]? = w.heap[b]?) : StC w' b o s g := by
  have e : ∀ o', w'.cell? ⟨b, o', none⟩ = w.cell? ⟨b, o', none⟩ := fun o' => World.cell?_of_block hk
  obtain ⟨c0, c1, c2, c3, c4, c5, c6, c7, c8, c9, c10⟩ := h
  exact ⟨(e _).trans c0, (e _).trans c1, (e _).trans c2, (e _).trans c3, (e _).trans c4, (e _).trans c5, (e _).trans c6, (e _).trans c7, (e _).trans c8, (e _).trans c9, (e _).trans c10⟩
/-- the memory holds a statement whose parts lie there -/
inductive StM (w : World) (S : Nat → Prop) : St → SG → Prop
  | mk (kind : Int) (name : List UInt8) (e : Ex) (r : Rf) (args : List Ar) (thn els : List St) (g : SG) (T E : Nat → SG)
      (he : ExM w S e g.f) (hr : IdxM w S r.idx g.rA g.rn) (ha : ArsM w S args g.aA)
      (htc : ∀ i (h : i < thn.length), ∃ b off, g.tA = some ⟨b, off, none⟩ ∧ S b ∧ StC w b (off + i * 11) thn[i] (T i))
      (hts : ∀ i (h : i < thn.length), StM w S thn[i] (T i))
      (hec : ∀ i (h : i < els.length), ∃ b off, g.eA = some ⟨b, off, none⟩ ∧ S b ∧ StC w b (off + i * 11) els[i] (E i))
      (hes : ∀ i (h : i < els.length), StM w S els[i] (E i)) : StM w S (.mk kind name e r args thn els) g
/-- a slice of statements -/
def StsM (w : World) (S : Nat → Prop) (l : List St) (A : Option Addr) : Prop :=
  ∃ F : Nat → SG, (∀ i (h : i < l.length), ∃ b off, A = some ⟨b, off, none⟩ ∧ S b ∧ StC w b (off + i * 11) l[i] (F i)) ∧ ∀ i (h : i < l.length), StM w S l[i] (F i)
theorem ArM.keep {w w' : World} {S : Nat → Prop} {a : Ar} {b o : Nat} (h : ArM w S a b o) (hS : S b) (hk : ∀ b, S b → b < w.heap.size → w'.heap[b]? = w.heap[b]?) : ArM w' S a b o := by
  obtain ⟨A, n, c, f, h0, h1, h2, hI, hat, hE⟩ := h
  have e : ∀ o', w'.cell? ⟨b, o', none⟩ = w.cell? ⟨b, o', none⟩ := fun o' => World.cell?_of_block (hk b hS hat.lt)
  exact ⟨A, n, c, f, (e _).trans h0, (e _).trans h1, (e _).trans h2, hI.keep hk, hat.keep (hk b hS hat.lt), hE.keep hk⟩
theorem ArsM.keep {w w' : World} {S : Nat → Prop} {l : List Ar} {A : Option Addr} (h : ArsM w S l A) (hk : ∀ b, S b → b < w.heap.size → w'.heap[b]? = w.heap[b]?) : ArsM w' S l A := by
  intro i hi
  obtain ⟨b, off, e, hb, ha⟩ := h i hi
  exact ⟨b, off, e, hb, ha.keep hb hk⟩
theorem StM.keep {w w' : World} {S : Nat → Prop} {s : St} {g : SG} (h : StM w S s g) (hk : ∀ b, S b → b < w.heap.size → w'.heap[b]? = w.heap[b]?) : StM w' S s g := by
  induction h with
  | mk kind name e r args thn els g T E he hr ha htc hts hec hes iht ihe =>
    refine .mk kind name e r args thn els g T E (he.keep hk) (hr.keep hk) (ha.keep hk) (fun i hi => ?_) iht (fun i hi => ?_) ihe
    · obtain ⟨b, off, e, hb, hc⟩ := htc i hi
      exact ⟨b, off, e, hb, hc.keep (hk b hb hc.lt)⟩
    · obtain ⟨b, off, e, hb, hc⟩ := hec i hi
      exact ⟨b, off, e, hb, hc.keep (hk b hb hc.lt)⟩
theorem StsM.keep {w w' : World} {S : Nat → Prop} {l : List St} {A : Option Addr} (h : StsM w S l A) (hk : ∀ b, S b → b < w.heap.size → w'.heap[b]? = w.heap[b]?) : StsM w' S l A := by
  obtain ⟨F, h1, h2⟩ := h
  refine ⟨F, fun i hi => ?_, fun i hi => (h2 i hi).keep hk⟩
  obtain ⟨b, off, e, hb, hc⟩ := h1 i hi
  exact ⟨b, off, e, hb, hc.keep (hk b hb hc.lt)⟩
/-- the statements that are printed -/
inductive StOk : St → Prop
  | mk (kind : Int) (name : List UInt8) (e : Ex) (r : Rf) (args : List Ar) (thn els : List St)
      (h1 : kind = 1 ∨ kind = 2 ∨ kind = 7 ∨ kind = 8 → ExOk e)
      (h2 : kind = 3 ∨ kind = 4 → args.length ≤ 1000000 ∧ ∀ i (h : i < args.length), ArOk args[i])
      (h3 : kind = 5 ∨ kind = 6 → IdxOk r.idx)
      (h4 : kind = 7 ∨ kind = 8 → ∀ i (h : i < thn.length), StOk thn[i])
      (h5 : kind = 7 ∨ kind = 8 → ∀ i (h : i < els.length), StOk els[i]) : StOk (.mk kind name e r args thn els)
/-- the text of a statement without the tabs before it and the line's end; lt, le: the texts of its lists; n: the length of the second -/
def stFin (kind : Int) (name : List UInt8) (e : Ex) (r : Rf) (args : List Ar) (tabs lt le : List UInt8) (n : Nat) : List UInt8 :=
  if kind = 1 then [118, 97, 114, 32] ++ (name ++ ([32, 61, 32] ++ (exText e ++ [59])))
  else if kind = 2 then name ++ ([32, 61, 32] ++ (exText e ++ [59]))
  else if kind = 3 then name ++ (arsText args ++ [59])
  else if kind = 4 then [103, 111, 32] ++ (name ++ (arsText args ++ [59]))
  else if kind = 5 then [108, 111, 99, 107, 32] ++ (rfText r ++ [59])
  else if kind = 6 then [117, 110, 108, 111, 99, 107, 32] ++ (rfText r ++ [59])
  else if kind = 7 ∨ kind = 8 then (if kind = 8 then [119, 104, 105, 108, 101, 32] else [105, 102, 32]) ++ (exText e ++ ([32, 123, 10] ++ (lt ++ (tabs ++ ([125] ++ (if n = 0 then [] else [32, 101, 108, 115, 101, 32, 123, 10] ++ (le ++ (tabs ++ [125]))))))))
  else [114, 101, 116, 117, 114, 110, 59]
mutual
def stText : St → List UInt8 → List UInt8
  | .mk kind name e r args thn els, tabs => tabs ++ (stFin kind name e r args tabs (linesText thn (tabs ++ [9])) (linesText els (tabs ++ [9])) els.length ++ [10])
def linesText : List St → List UInt8 → List UInt8
  | [], _ => []
  | s :: r, tabs => stText s tabs ++ linesText r tabs
end
theorem stText_mk (kind : Int) (name : List UInt8) (e : Ex) (r : Rf) (args : List Ar) (thn els : List St) (tabs : List UInt8) :
    stText (.mk kind name e r args thn els) tabs = tabs ++ (stFin kind name e r args tabs (linesText thn (tabs ++ [9])) (linesText els (tabs ++ [9])) els.length ++ [10]) := by rw [stText]
theorem linesText_nil (tabs : List UInt8) : linesText [] tabs = [] := by rw [linesText]
theorem linesText_cons (s : St) (r : List St) (tabs : List UInt8) : linesText (s :: r) tabs = stText s tabs ++ linesText r tabs := by rw [linesText]
theorem linesText_snoc (l : List St) (tabs : List UInt8) (m : Nat) (h : m < l.length) : linesText (l.take (m + 1)) tabs = linesText (l.take m) tabs ++ stText l[m] tabs := by
  induction l generalizing m with
  | nil => simp at h
  | cons s r ih =>
    cases m with
    | zero => simp [linesText_cons, linesText_nil]
    | succ m =>
      have := ih m (by simpa using h)
      rw [List.take_succ_cons, List.take_succ_cons, linesText_cons, linesText_cons, this]
      simp
theorem linesText_mono (l : List St) (tabs : List UInt8) (k : Nat) : (linesText (l.take k) tabs).length ≤ (linesText l tabs).length := by
  induction l generalizing k with
  | nil => simp
  | cons s r ih =>
    cases k with
    | zero => simp [linesText_nil]
    | succ k =>
      have := ih k
      rw [List.take_succ_cons, linesText_cons, linesText_cons, List.length_append, List.length_append]
      omega
theorem stText_pos (s : St) (tabs : List UInt8) : 1 ≤ (stText s tabs).length := by
  cases s
  rw [stText_mk]
  simp
  omega
theorem linesText_len (l : List St) (tabs : List UInt8) : l.length ≤ (linesText l tabs).length := by
  induction l with
  | nil => simp
  | cons s r ih =>
    rw [linesText_cons, List.length_append, List.length_cons]
    have := stText_pos s tabs
    omega
theorem size_st (l : List St) (i : Nat) (h : i < l.length) : SizeOf.sizeOf l[i] < SizeOf.sizeOf l := List.sizeOf_lt_of_mem (List.getElem_mem h)
theorem below_in {w wr w1 : World} {o : Obj} (h0 : Below w.heap.size w wr) (h1 : Below (wr.alloc o).heap.size (wr.alloc o) w1) : Below w.heap.size w w1 :=
  below_two h0 (below_two ((Below.refl _ _).alloc (Nat.le_refl _) _) h1)
end Go.Proofs.YtjjooekkieddbaaDoor

namespace Go.Proofs.YtjjooekkieddbaaDoor
open Go.RowKit

def noEx : Ex := .mk 0 0 [] []
def noRf : Rf := ⟨[], none⟩
theorem MdE.mono {d d' : Nat} {E : Ex} (h : MdE d E) (hd : d ≤ d') : MdE d' E := by
  have : 2 ^ d ≤ 2 ^ d' := Nat.pow_le_pow_right (by omega) hd
  exact ⟨h.ok, h.b, h.sh, by have := h.ht; omega, by have := h.tx; omega⟩
/-- a made reference -/
def MdR (r : Rf) : Prop := nameB r.name = true ∧ ∀ E, r.idx = some E → MdE 1 E
/-- a made argument -/
def MdA (a : Ar) : Prop := (a.m = true ∧ MdR a.r ∧ a.e = noEx) ∨ (a.m = false ∧ a.r = noRf ∧ MdE 2 a.e)
/-- a made statement, with at most so many blocks around another -/
inductive MdS : Nat → St → Prop
  | lock (d : Nat) (k : Int) (r : Rf) (hk : k = 5 ∨ k = 6) (hr : MdR r) : MdS d (.mk k [] noEx r [] [] [])
  | set (d : Nat) (k : Int) (name : List UInt8) (e : Ex) (hk : k = 1 ∨ k = 2) (hn : nameB name = true) (he : MdE 2 e) : MdS d (.mk k name e noRf [] [] [])
  | call (d : Nat) (k : Int) (name : List UInt8) (args : List Ar) (hk : k = 3 ∨ k = 4) (hn : nameB name = true) (hl : args.length ≤ 2) (ha : ∀ i (h : i < args.length), MdA args[i]) : MdS d (.mk k name noEx noRf args [] [])
  | cond (d : Nat) (k : Int) (e : Ex) (thn els : List St) (hk : k = 7 ∨ k = 8 ∧ els = []) (he : MdE 2 e) (h1 : ∀ i (h : i < thn.length), MdS d thn[i]) (h2 : ∀ i (h : i < els.length), MdS d els[i]) : MdS (d + 1) (.mk k [] e noRf [] thn els)
  | ret (d : Nat) : MdS d (.mk 9 [] noEx noRf [] [] [])
theorem MdS.mono {d d' : Nat} {s : St} (h : MdS d s) : d ≤ d' → MdS d' s := by
  induction h generalizing d' with
  | lock d k r hk hr => intro _; exact .lock _ k r hk hr
  | set d k name e hk hn he => intro _; exact .set _ k name e hk hn he
  | call d k name args hk hn hl ha => intro _; exact .call _ k name args hk hn hl ha
  | cond d k e thn els hk he h1 h2 i1 i2 =>
    intro hd
    obtain ⟨m, rfl⟩ : ∃ m, d' = m + 1 := ⟨d' - 1, by omega⟩
    exact .cond m k e thn els hk he (fun i hi => i1 i hi (by omega)) (fun i hi => i2 i hi (by omega))
  | ret d => intro _; exact .ret _
mutual
def stN : St → Nat
  | .mk _ _ _ _ _ thn els => 1 + stNs thn + stNs els
def stNs : List St → Nat
  | [] => 0
  | s :: r => stN s + stNs r
end
theorem stN_mk (kind : Int) (name : List UInt8) (e : Ex) (r : Rf) (args : List Ar) (thn els : List St) : stN (.mk kind name e r args thn els) = 1 + stNs thn + stNs els := by rw [stN]
theorem stNs_nil : stNs [] = 0 := by rw [stNs]
theorem stNs_cons (s : St) (r : List St) : stNs (s :: r) = stN s + stNs r := by rw [stNs]
theorem stNs_app (a b : List St) : stNs (a ++ b) = stNs a + stNs b := by
  induction a with
  | nil => rw [List.nil_append, stNs_nil]; omega
  | cons s r ih => rw [List.cons_append, stNs_cons, stNs_cons, ih]; omega
theorem stN_pos (s : St) : 1 ≤ stN s := by
  cases s
  rw [stN_mk]
  omega
theorem stNs_len (l : List St) : l.length ≤ stNs l := by
  induction l with
  | nil => simp
  | cons s r ih =>
    have := stN_pos s
    rw [stNs_cons, List.length_cons]
    omega
theorem lines_bound (l : List St) (tabs : List UInt8) (K : Nat) (h : ∀ i (h : i < l.length), (stText l[i] tabs).length ≤ stN l[i] * K) : (linesText l tabs).length ≤ stNs l * K := by
  induction l with
  | nil => rw [linesText_nil]; simp
  | cons s r ih =>
    have h0 := h 0 (by simp)
    have h1 := ih (fun i hi => h (i + 1) (Nat.succ_lt_succ hi))
    simp only [List.getElem_cons_zero] at h0
    rw [linesText_cons, stNs_cons, List.length_append, Nat.add_mul]
    omega
theorem rf_len {r : Rf} (h : MdR r) : (rfText r).length ≤ 80 := by
  obtain ⟨name, idx⟩ := r
  have hn := (nameB_len h.1).2
  dsimp only at hn
  cases idx with
  | none => show name.length ≤ 80; omega
  | some E =>
    have := (h.2 E rfl).tx
    simp [rfText]
    omega
theorem ar_len {a : Ar} (h : MdA a) : (arText a).length ≤ 130 := by
  unfold arText
  rcases h with ⟨hm, hr, _⟩ | ⟨hm, _, he⟩
  · rw [hm]
    have := rf_len hr
    simp
    omega
  · rw [hm]
    have := he.tx
    simp
    omega
theorem ars_len (l : List Ar) (hl : l.length ≤ 2) (h : ∀ i (h : i < l.length), MdA l[i]) : (arsText l).length ≤ 300 := by
  match l, hl, h with
  | [], _, _ => simp [arsText, arsPre]
  | [a], _, h =>
    have h0 := ar_len (h 0 (by simp))
    simp only [List.getElem_cons_zero] at h0
    simp [arsText, arsPre]
    omega
  | [a, b], _, h =>
    have h0 := ar_len (h 0 (by simp))
    have h1 := ar_len (h 1 (by simp))
    simp only [List.getElem_cons_zero, List.getElem_cons_succ] at h0 h1
    simp [arsText, arsPre]
    omega
theorem st_bound {d : Nat} {s : St} (h : MdS d s) : ∀ tabs : List UInt8, (stText s tabs).length ≤ stN s * (500 + 3 * (tabs.length + d)) := by
  induction h with
  | lock d k r hk hr =>
    intro tabs
    have := rf_len hr
    rw [stText_mk, stN_mk, stNs_nil, stFin, if_neg (by omega), if_neg (by omega), if_neg (by omega), if_neg (by omega)]
    rcases hk with rfl | rfl
    · rw [if_pos rfl]; simp; omega
    · rw [if_neg (by decide), if_pos rfl]; simp; omega
  | set d k name e hk hn he =>
    intro tabs
    have := (nameB_len hn).2
    have := he.tx
    rw [stText_mk, stN_mk, stNs_nil, stFin]
    rcases hk with rfl | rfl
    · rw [if_pos rfl]; simp; omega
    · rw [if_neg (by decide), if_pos rfl]; simp; omega
  | call d k name args hk hn hl ha =>
    intro tabs
    have := (nameB_len hn).2
    have := ars_len args hl ha
    rw [stText_mk, stN_mk, stNs_nil, stFin, if_neg (by omega), if_neg (by omega)]
    rcases hk with rfl | rfl
    · rw [if_pos rfl]; simp; omega
    · rw [if_neg (by decide), if_pos rfl]; simp; omega
  | cond d k e thn els hk he h1 h2 i1 i2 =>
    intro tabs
    have := he.tx
    have b1 := lines_bound thn (tabs ++ [9]) _ (fun i hi => i1 i hi (tabs ++ [9]))
    have b2 := lines_bound els (tabs ++ [9]) _ (fun i hi => i2 i hi (tabs ++ [9]))
    have e1 : 500 + 3 * ((tabs ++ [9]).length + d) = 500 + 3 * (tabs.length + (d + 1)) := by simp; omega
    rw [e1] at b1 b2
    rw [stText_mk, stN_mk, stFin, if_neg (by omega), if_neg (by omega), if_neg (by omega), if_neg (by omega), if_neg (by omega), if_neg (by omega), if_pos (by omega), Nat.add_mul, Nat.add_mul]
    generalize stNs thn * (500 + 3 * (tabs.length + (d + 1))) = x1 at *
    generalize stNs els * (500 + 3 * (tabs.length + (d + 1))) = x2 at *
    rcases hk with rfl | ⟨rfl, rfl⟩
    · rw [if_neg (by decide)]
      by_cases hz : els.length = 0
      · rw [if_pos hz]; simp; omega
      · rw [if_neg hz]; simp; omega
    · rw [if_pos rfl]
      simp
      omega
  | ret d =>
    intro tabs
    rw [stText_mk, stN_mk, stNs_nil, stFin, if_neg (by decide), if_neg (by decide), if_neg (by decide), if_neg (by decide), if_neg (by decide), if_neg (by decide), if_neg (by decide)]
    simp
    omega
theorem MdR.ok {r : Rf} (h : MdR r) : IdxOk r.idx := by
  obtain ⟨name, idx⟩ := r
  cases idx with
  | none => exact trivial
  | some E => exact (h.2 E rfl).ok
theorem MdA.ok {a : Ar} (h : MdA a) : ArOk a := by
  unfold ArOk
  rcases h with ⟨hm, hr, _⟩ | ⟨hm, _, he⟩
  · rw [if_pos hm]; exact hr.ok
  · rw [if_neg (by rw [hm]; decide)]; exact he.ok
theorem MdS.ok {d : Nat} {s : St} (h : MdS d s) : StOk s := by
  induction h with
  | lock d k r hk hr => exact .mk _ _ _ _ _ _ _ (fun h => by omega) (fun h => by omega) (fun _ => hr.ok) (fun h => by omega) (fun h => by omega)
  | set d k name e hk hn he => exact .mk _ _ _ _ _ _ _ (fun _ => he.ok) (fun h => by omega) (fun h => by omega) (fun h => by omega) (fun h => by omega)
  | call d k name args hk hn hl ha => exact .mk _ _ _ _ _ _ _ (fun h => by omega) (fun _ => ⟨by omega, fun i hi => (ha i hi).ok⟩) (fun h => by omega) (fun h => by omega) (fun h => by omega)
  | cond d k e thn els hk he h1 h2 i1 i2 => exact .mk _ _ _ _ _ _ _ (fun _ => he.ok) (fun h => by omega) (fun h => by omega) (fun _ => i1) (fun _ => i2)
  | ret d => exact .mk _ _ _ _ _ _ _ (fun h => by omega) (fun h => by omega) (fun h => by omega) (fun h => by omega) (fun h => by omega)

/-- declarations and programs -/
structure Gl where
  name : List UInt8
  init : Int
structure Mx where
  name : List UInt8
  re : Bool
  size : Nat
structure Pm where
  name : List UInt8
  m : Bool
structure Fn where
  name : List UInt8
  ps : List Pm
  body : List St
structure Pg where
  gs : List Gl
  ms : List Mx
  fs : List Fn
/-- a made program -/
structure MdP (P : Pg) : Prop where
  gl : P.gs.length ≤ 2
  ml : 1 ≤ P.ms.length ∧ P.ms.length ≤ 4
  fl : 1 ≤ P.fs.length ∧ P.fs.length ≤ 4
  g : ∀ i (h : i < P.gs.length), nameB P.gs[i].name = true ∧ -2 ≤ P.gs[i].init ∧ P.gs[i].init ≤ 2
  m : ∀ i (h : i < P.ms.length), nameB P.ms[i].name = true ∧ P.ms[i].size ≤ 3 ∧ (P.ms[i].re = true → P.ms[i].size = 0)
  f : ∀ i (h : i < P.fs.length), nameB P.fs[i].name = true ∧ P.fs[i].ps.length ≤ 2 ∧ (∀ j (h' : j < P.fs[i].ps.length), nameB (P.fs[i].ps[j]).name = true) ∧ (∀ j (h' : j < P.fs[i].body.length), MdS 2 (P.fs[i].body[j])) ∧ stNs P.fs[i].body ≤ 48
end Go.Proofs.YtjjooekkieddbaaDoor
