/-
  The names of a statement.
-/
import Derived.Test.YtllfkgggolfojaaGreatDoorTreeRp
import Derived.Deep.RegionHeld3
import Derived.Test.YtllfkgggolfojaaGreatDoorTreeSh
namespace Go.Proofs.YtllfkgggolfojaaGreatDoor
open Go.RowKit

set_option maxRecDepth 100000 in
set_option maxHeartbeats 20000000 in
theorem names_c0 (fv : Nat) (nu ex : Int) (nm fd fr : List UInt8) (p : Int) (cs : Array Value) (_h24 : cs.size = 24) (k3 : cs[3]? = some (.string ⟨nm.toArray⟩)) (k4 : cs[4]? = some (.string ⟨fd.toArray⟩)) (k5 : cs[5]? = some (.string ⟨fr.toArray⟩)) (w : World)
    (hw0 : ∀ W, Below w.heap.size w W → Calls Tryz.prog 158 #[rulesV fv nu ex, .string ⟨nm.toArray⟩, .bool (hasB p 1), .bool (hasB p 2)] W fun e w' => e = .returned (.bool false) ∧ Below W.heap.size W w') :
    Calls Tryz.prog 120 #[rulesV fv nu ex, .agg cs, .int .i64 p] w fun e w' => e = .returned (.bool false) ∧ Below w.heap.size w w' := by
  have HW0 := Lib.hid hw0
  have HH := Lib.hid phas_any
  obtain ⟨T, N, hT, hN, _, _⟩ := stmt_hidden
  have e4 : ∀ y : Operand, Op.box 44 y = Op.box T y := fun y => by rw [hT]
  obtain ⟨W1, hW1⟩ : ∃ W1, W1 = (w.alloc (rulesC fv nu ex)).alloc (.cells cs T) := ⟨_, rfl⟩
  have HB : Hid (Below w.heap.size w W1) := Lib.hid (by rw [hW1]; exact (below_alloc w _).chain (below_alloc _ _))
  have q1 := heap_keep (o := .cells cs T) (heap_of_alloc w (rulesC fv nu ex))
  have q2 := heap_of_alloc (w.alloc (rulesC fv nu ex)) (.cells cs T)
  rw [size_of_alloc] at q2
  rw [← hW1] at q1 q2
  obtain ⟨S, hS⟩ : ∃ S : World → Prop, S = fun W => Below W1.heap.size W1 W := ⟨_, rfl⟩
  have HS2 : Hid (∀ W, Below W1.heap.size W1 W → S W) := Lib.hid (fun W hb => by rw [hS]; exact hb)
  have HX0 := Lib.hid (Below.refl W1.heap.size W1).drew
  have hmx : Tryz.prog.follows .mixedOrders = true := by kernel_rfl
  have HSo : Hid (∀ W, S W → (W.cell? ⟨w.heap.size, 0, none⟩ = some (.func (.func fv) #[] #[]) ∧ W.cell? ⟨w.heap.size, 1, none⟩ = some (.int .i64 nu) ∧ W.cell? ⟨w.heap.size, 2, none⟩ = some (.int .i64 ex)) ∧ W.cell? ⟨w.heap.size + 1, 3, none⟩ = some (.string ⟨nm.toArray⟩) ∧ W.cell? ⟨w.heap.size + 1, 5, none⟩ = some (.string ⟨fr.toArray⟩) ∧ W.cell? ⟨w.heap.size + 1, 4, none⟩ = some (.string ⟨fd.toArray⟩)) := Lib.hid (fun W hs => by
    rw [hS] at hs
    exact ⟨box3 (kept_box hs q1), cell_of_block (kept_box hs q2) 3 k3, cell_of_block (kept_box hs q2) 5 k5, cell_of_block (kept_box hs q2) 4 k4⟩)
  clear hw0 hN q1 q2 hS k3 k4 k5 _h24
  go_enter Tryz.func120, Tryz.ntmps120
  simp only [e4]
  clear e4 hT
  go_wp2
  rw [← hW1]
  clear hW1
  refine wp_region_held (S := S) hmx ?_
  change wpAnyH _ _ _ _ _ 27 #[false, false, false, false, false, false, false, false, false, false, false, false, false, false, false, false, false, false, false, false, false, false, false, false, false, false, false] _ W1.drew
  have g0 := HS2.out _ HX0.out
  refine anyH_take 0 (some 7) (v := rulesV fv nu ex) g0 rfl rfl (by kernel_rfl) (by kernel_rfl) (by kernel_rfl) (fun _ _ _ h => h) (by kernel_rfl) ?v0 ?_
  case v0 =>
    intro Wx hSx
    obtain ⟨r0, r1, r2⟩ := (HSo.out Wx hSx).1
    go_simp
  try simp only [Act.put, List.setIfInBounds_toArray, List.set_cons_zero, List.set_cons_succ]
  refine anyH_take 1 (some 8) (v := .pointer (some ⟨w.heap.size + 1, 3, none⟩)) g0 rfl rfl (by kernel_rfl) (by kernel_rfl) (by kernel_rfl) (fun _ _ _ h => h) (by kernel_rfl) ?v1 ?_
  case v1 =>
    intro Wx hSx
    go_simp
  try simp only [Act.put, List.setIfInBounds_toArray, List.set_cons_zero, List.set_cons_succ]
  refine anyH_take 2 (some 9) (v := .string ⟨nm.toArray⟩) g0 rfl rfl (by kernel_rfl) (by kernel_rfl) (by kernel_rfl) (fun _ _ _ h => h) (by kernel_rfl) ?v2 ?_
  case v2 =>
    intro Wx hSx
    have q := (HSo.out Wx hSx).2.1
    go_simp
  try simp only [Act.put, List.setIfInBounds_toArray, List.set_cons_zero, List.set_cons_succ]
  refine anyH_take 3 (some 10) (v := .int .i64 p) g0 rfl rfl (by kernel_rfl) (by kernel_rfl) (by kernel_rfl) (fun _ _ _ h => h) (by kernel_rfl) ?v3 ?_
  case v3 =>
    intro Wx hSx
    go_simp
  try simp only [Act.put, List.setIfInBounds_toArray, List.set_cons_zero, List.set_cons_succ]
  refine anyH_take 5 (some 12) (v := .int .i64 p) g0 rfl rfl (by kernel_rfl) (by kernel_rfl) (by kernel_rfl) (fun _ _ _ h => h) (by kernel_rfl) ?v5 ?_
  case v5 =>
    intro Wx hSx
    go_simp
  try simp only [Act.put, List.setIfInBounds_toArray, List.set_cons_zero, List.set_cons_succ]
  refine anyH_one 4 (by kernel_rfl) rfl (by kernel_rfl) (fun K hK => ?_)
  go_simp
  refine (HH.out _ _ _).mono ?_
  rintro e wz ⟨rfl, rfl⟩
  refine hK _ _ g0 ?_
  clear hK K
  refine anyH_one 6 (by kernel_rfl) rfl (by kernel_rfl) (fun K hK => ?_)
  go_simp
  refine (HH.out _ _ _).mono ?_
  rintro e wz ⟨rfl, rfl⟩
  refine hK _ _ g0 ?_
  clear hK K
  refine anyH_one 7 (by kernel_rfl) rfl (by kernel_rfl) (fun K hK => ?_)
  go_simp
  refine (HW0.out _ (HB.out.chain HX0.out)).mono ?_
  rintro e w1 ⟨rfl, hb⟩
  have HX1 := Lib.hid (HX0.out.chain hb)
  clear hb
  have g1 := HS2.out _ HX1.out
  refine hK _ _ g1 ?_
  clear hK K g0
  refine anyH_take 8 (some 15) (v := .bool false) g1 rfl rfl (by kernel_rfl) (by kernel_rfl) (by kernel_rfl) (fun _ _ _ h => h) (by kernel_rfl) ?v8 ?_
  case v8 =>
    intro Wx hSx
    go_simp
  try simp only [Act.put, List.setIfInBounds_toArray, List.set_cons_zero, List.set_cons_succ]
  refine anyH_skip 9 (some 16) g1 rfl rfl (by kernel_rfl) (by kernel_rfl) (by kernel_rfl) (fun _ _ _ h => h) (by kernel_rfl) ?_
  try simp only [Act.put, List.setIfInBounds_toArray, List.set_cons_zero, List.set_cons_succ]
  refine anyH_skip 10 (some 17) g1 rfl rfl (by kernel_rfl) (by kernel_rfl) (by kernel_rfl) (fun _ _ _ h => h) (by kernel_rfl) ?_
  try simp only [Act.put, List.setIfInBounds_toArray, List.set_cons_zero, List.set_cons_succ]
  refine anyH_skip 11 (some 18) g1 rfl rfl (by kernel_rfl) (by kernel_rfl) (by kernel_rfl) (fun _ _ _ h => h) (by kernel_rfl) ?_
  try simp only [Act.put, List.setIfInBounds_toArray, List.set_cons_zero, List.set_cons_succ]
  refine anyH_skip 12 (some 19) g1 rfl rfl (by kernel_rfl) (by kernel_rfl) (by kernel_rfl) (fun _ _ _ h => h) (by kernel_rfl) ?_
  try simp only [Act.put, List.setIfInBounds_toArray, List.set_cons_zero, List.set_cons_succ]
  refine anyH_skip 13 (some 20) g1 rfl rfl (by kernel_rfl) (by kernel_rfl) (by kernel_rfl) (fun _ _ _ h => h) (by kernel_rfl) ?_
  try simp only [Act.put, List.setIfInBounds_toArray, List.set_cons_zero, List.set_cons_succ]
  refine anyH_skip 14 (some 21) g1 rfl rfl (by kernel_rfl) (by kernel_rfl) (by kernel_rfl) (fun _ _ _ h => h) (by kernel_rfl) ?_
  try simp only [Act.put, List.setIfInBounds_toArray, List.set_cons_zero, List.set_cons_succ]
  refine anyH_skip 15 (some 22) g1 rfl rfl (by kernel_rfl) (by kernel_rfl) (by kernel_rfl) (fun _ _ _ h => h) (by kernel_rfl) ?_
  try simp only [Act.put, List.setIfInBounds_toArray, List.set_cons_zero, List.set_cons_succ]
  refine anyH_skip 16 (some 23) g1 rfl rfl (by kernel_rfl) (by kernel_rfl) (by kernel_rfl) (fun _ _ _ h => h) (by kernel_rfl) ?_
  try simp only [Act.put, List.setIfInBounds_toArray, List.set_cons_zero, List.set_cons_succ]
  refine anyH_take 17 (some 24) (v := .bool false) g1 rfl rfl (by kernel_rfl) (by kernel_rfl) (by kernel_rfl) (fun _ _ _ h => h) (by kernel_rfl) ?v17 ?_
  case v17 =>
    intro Wx hSx
    go_simp
  try simp only [Act.put, List.setIfInBounds_toArray, List.set_cons_zero, List.set_cons_succ]
  refine anyH_take 18 (some 25) (v := .bool false) g1 rfl rfl (by kernel_rfl) (by kernel_rfl) (by kernel_rfl) (fun _ _ _ h => h) (by kernel_rfl) ?v18 ?_
  case v18 =>
    intro Wx hSx
    go_simp
  try simp only [Act.put, List.setIfInBounds_toArray, List.set_cons_zero, List.set_cons_succ]
  refine anyH_skip 19 (some 26) g1 rfl rfl (by kernel_rfl) (by kernel_rfl) (by kernel_rfl) (fun _ _ _ h => h) (by kernel_rfl) ?_
  try simp only [Act.put, List.setIfInBounds_toArray, List.set_cons_zero, List.set_cons_succ]
  refine anyH_skip 20 (some 27) g1 rfl rfl (by kernel_rfl) (by kernel_rfl) (by kernel_rfl) (fun _ _ _ h => h) (by kernel_rfl) ?_
  try simp only [Act.put, List.setIfInBounds_toArray, List.set_cons_zero, List.set_cons_succ]
  refine anyH_skip 21 (some 28) g1 rfl rfl (by kernel_rfl) (by kernel_rfl) (by kernel_rfl) (fun _ _ _ h => h) (by kernel_rfl) ?_
  try simp only [Act.put, List.setIfInBounds_toArray, List.set_cons_zero, List.set_cons_succ]
  refine anyH_skip 22 (some 29) g1 rfl rfl (by kernel_rfl) (by kernel_rfl) (by kernel_rfl) (fun _ _ _ h => h) (by kernel_rfl) ?_
  try simp only [Act.put, List.setIfInBounds_toArray, List.set_cons_zero, List.set_cons_succ]
  refine anyH_skip 23 (some 30) g1 rfl rfl (by kernel_rfl) (by kernel_rfl) (by kernel_rfl) (fun _ _ _ h => h) (by kernel_rfl) ?_
  try simp only [Act.put, List.setIfInBounds_toArray, List.set_cons_zero, List.set_cons_succ]
  refine anyH_skip 24 (some 31) g1 rfl rfl (by kernel_rfl) (by kernel_rfl) (by kernel_rfl) (fun _ _ _ h => h) (by kernel_rfl) ?_
  try simp only [Act.put, List.setIfInBounds_toArray, List.set_cons_zero, List.set_cons_succ]
  refine anyH_take 25 (some 32) (v := .bool false) g1 rfl rfl (by kernel_rfl) (by kernel_rfl) (by kernel_rfl) (fun _ _ _ h => h) (by kernel_rfl) ?v25 ?_
  case v25 =>
    intro Wx hSx
    go_simp
  try simp only [Act.put, List.setIfInBounds_toArray, List.set_cons_zero, List.set_cons_succ]
  refine anyH_take 26 (some 6) (v := .bool false) g1 rfl rfl (by kernel_rfl) (by kernel_rfl) (by kernel_rfl) (fun _ _ _ h => h) (by kernel_rfl) ?v26 ?_
  case v26 =>
    intro Wx hSx
    go_simp
  try simp only [Act.put, List.setIfInBounds_toArray, List.set_cons_zero, List.set_cons_succ]
  refine wpAnyH_done (by kernel_rfl) ?_ _
  go_wp2
  go_ret
  exact ⟨rfl, HB.out.chain HX1.out⟩

set_option maxRecDepth 100000 in
set_option maxHeartbeats 20000000 in
theorem names_c1 (fv : Nat) (nu ex : Int) (nm fd fr : List UInt8) (p : Int) (cs : Array Value) (_h24 : cs.size = 24) (k3 : cs[3]? = some (.string ⟨nm.toArray⟩)) (k4 : cs[4]? = some (.string ⟨fd.toArray⟩)) (k5 : cs[5]? = some (.string ⟨fr.toArray⟩)) (w : World)
    (hw0 : ∀ W, Below w.heap.size w W → Calls Tryz.prog 158 #[rulesV fv nu ex, .string ⟨nm.toArray⟩, .bool (hasB p 1), .bool (hasB p 2)] W fun e w' => e = .returned (.bool true) ∧ Below W.heap.size W w')
    (hw1 : ∀ W, Below w.heap.size w W → Calls Tryz.prog 158 #[rulesV fv nu ex, .string ⟨fr.toArray⟩, .bool (hasB p 4), .bool (hasB p 8)] W fun e w' => e = .returned (.bool false) ∧ Below W.heap.size W w') :
    Calls Tryz.prog 120 #[rulesV fv nu ex, .agg cs, .int .i64 p] w fun e w' => e = .returned (.bool false) ∧ Below w.heap.size w w' := by
  have HW0 := Lib.hid hw0
  have HW1 := Lib.hid hw1
  have HH := Lib.hid phas_any
  obtain ⟨T, N, hT, hN, _, _⟩ := stmt_hidden
  have e4 : ∀ y : Operand, Op.box 44 y = Op.box T y := fun y => by rw [hT]
  obtain ⟨W1, hW1⟩ : ∃ W1, W1 = (w.alloc (rulesC fv nu ex)).alloc (.cells cs T) := ⟨_, rfl⟩
  have HB : Hid (Below w.heap.size w W1) := Lib.hid (by rw [hW1]; exact (below_alloc w _).chain (below_alloc _ _))
  have q1 := heap_keep (o := .cells cs T) (heap_of_alloc w (rulesC fv nu ex))
  have q2 := heap_of_alloc (w.alloc (rulesC fv nu ex)) (.cells cs T)
  rw [size_of_alloc] at q2
  rw [← hW1] at q1 q2
  obtain ⟨S, hS⟩ : ∃ S : World → Prop, S = fun W => Below W1.heap.size W1 W := ⟨_, rfl⟩
  have HS2 : Hid (∀ W, Below W1.heap.size W1 W → S W) := Lib.hid (fun W hb => by rw [hS]; exact hb)
  have HX0 := Lib.hid (Below.refl W1.heap.size W1).drew
  have hmx : Tryz.prog.follows .mixedOrders = true := by kernel_rfl
  have HSo : Hid (∀ W, S W → (W.cell? ⟨w.heap.size, 0, none⟩ = some (.func (.func fv) #[] #[]) ∧ W.cell? ⟨w.heap.size, 1, none⟩ = some (.int .i64 nu) ∧ W.cell? ⟨w.heap.size, 2, none⟩ = some (.int .i64 ex)) ∧ W.cell? ⟨w.heap.size + 1, 3, none⟩ = some (.string ⟨nm.toArray⟩) ∧ W.cell? ⟨w.heap.size + 1, 5, none⟩ = some (.string ⟨fr.toArray⟩) ∧ W.cell? ⟨w.heap.size + 1, 4, none⟩ = some (.string ⟨fd.toArray⟩)) := Lib.hid (fun W hs => by
    rw [hS] at hs
    exact ⟨box3 (kept_box hs q1), cell_of_block (kept_box hs q2) 3 k3, cell_of_block (kept_box hs q2) 5 k5, cell_of_block (kept_box hs q2) 4 k4⟩)
  clear hw0 hw1 hN q1 q2 hS k3 k4 k5 _h24
  go_enter Tryz.func120, Tryz.ntmps120
  simp only [e4]
  clear e4 hT
  go_wp2
  rw [← hW1]
  clear hW1
  refine wp_region_held (S := S) hmx ?_
  change wpAnyH _ _ _ _ _ 27 #[false, false, false, false, false, false, false, false, false, false, false, false, false, false, false, false, false, false, false, false, false, false, false, false, false, false, false] _ W1.drew
  have g0 := HS2.out _ HX0.out
  refine anyH_take 0 (some 7) (v := rulesV fv nu ex) g0 rfl rfl (by kernel_rfl) (by kernel_rfl) (by kernel_rfl) (fun _ _ _ h => h) (by kernel_rfl) ?v0 ?_
  case v0 =>
    intro Wx hSx
    obtain ⟨r0, r1, r2⟩ := (HSo.out Wx hSx).1
    go_simp
  try simp only [Act.put, List.setIfInBounds_toArray, List.set_cons_zero, List.set_cons_succ]
  refine anyH_take 1 (some 8) (v := .pointer (some ⟨w.heap.size + 1, 3, none⟩)) g0 rfl rfl (by kernel_rfl) (by kernel_rfl) (by kernel_rfl) (fun _ _ _ h => h) (by kernel_rfl) ?v1 ?_
  case v1 =>
    intro Wx hSx
    go_simp
  try simp only [Act.put, List.setIfInBounds_toArray, List.set_cons_zero, List.set_cons_succ]
  refine anyH_take 2 (some 9) (v := .string ⟨nm.toArray⟩) g0 rfl rfl (by kernel_rfl) (by kernel_rfl) (by kernel_rfl) (fun _ _ _ h => h) (by kernel_rfl) ?v2 ?_
  case v2 =>
    intro Wx hSx
    have q := (HSo.out Wx hSx).2.1
    go_simp
  try simp only [Act.put, List.setIfInBounds_toArray, List.set_cons_zero, List.set_cons_succ]
  refine anyH_take 3 (some 10) (v := .int .i64 p) g0 rfl rfl (by kernel_rfl) (by kernel_rfl) (by kernel_rfl) (fun _ _ _ h => h) (by kernel_rfl) ?v3 ?_
  case v3 =>
    intro Wx hSx
    go_simp
  try simp only [Act.put, List.setIfInBounds_toArray, List.set_cons_zero, List.set_cons_succ]
  refine anyH_take 5 (some 12) (v := .int .i64 p) g0 rfl rfl (by kernel_rfl) (by kernel_rfl) (by kernel_rfl) (fun _ _ _ h => h) (by kernel_rfl) ?v5 ?_
  case v5 =>
    intro Wx hSx
    go_simp
  try simp only [Act.put, List.setIfInBounds_toArray, List.set_cons_zero, List.set_cons_succ]
  refine anyH_one 4 (by kernel_rfl) rfl (by kernel_rfl) (fun K hK => ?_)
  go_simp
  refine (HH.out _ _ _).mono ?_
  rintro e wz ⟨rfl, rfl⟩
  refine hK _ _ g0 ?_
  clear hK K
  refine anyH_one 6 (by kernel_rfl) rfl (by kernel_rfl) (fun K hK => ?_)
  go_simp
  refine (HH.out _ _ _).mono ?_
  rintro e wz ⟨rfl, rfl⟩
  refine hK _ _ g0 ?_
  clear hK K
  refine anyH_one 7 (by kernel_rfl) rfl (by kernel_rfl) (fun K hK => ?_)
  go_simp
  refine (HW0.out _ (HB.out.chain HX0.out)).mono ?_
  rintro e w1 ⟨rfl, hb⟩
  have HX1 := Lib.hid (HX0.out.chain hb)
  clear hb
  have g1 := HS2.out _ HX1.out
  refine hK _ _ g1 ?_
  clear hK K g0
  refine anyH_take 8 (some 15) (v := .bool true) g1 rfl rfl (by kernel_rfl) (by kernel_rfl) (by kernel_rfl) (fun _ _ _ h => h) (by kernel_rfl) ?v8 ?_
  case v8 =>
    intro Wx hSx
    go_simp
  try simp only [Act.put, List.setIfInBounds_toArray, List.set_cons_zero, List.set_cons_succ]
  refine anyH_take 9 (some 16) (v := rulesV fv nu ex) g1 rfl rfl (by kernel_rfl) (by kernel_rfl) (by kernel_rfl) (fun _ _ _ h => h) (by kernel_rfl) ?v9 ?_
  case v9 =>
    intro Wx hSx
    obtain ⟨r0, r1, r2⟩ := (HSo.out Wx hSx).1
    go_simp
  try simp only [Act.put, List.setIfInBounds_toArray, List.set_cons_zero, List.set_cons_succ]
  refine anyH_take 10 (some 17) (v := .pointer (some ⟨w.heap.size + 1, 5, none⟩)) g1 rfl rfl (by kernel_rfl) (by kernel_rfl) (by kernel_rfl) (fun _ _ _ h => h) (by kernel_rfl) ?v10 ?_
  case v10 =>
    intro Wx hSx
    go_simp
  try simp only [Act.put, List.setIfInBounds_toArray, List.set_cons_zero, List.set_cons_succ]
  refine anyH_take 11 (some 18) (v := .string ⟨fr.toArray⟩) g1 rfl rfl (by kernel_rfl) (by kernel_rfl) (by kernel_rfl) (fun _ _ _ h => h) (by kernel_rfl) ?v11 ?_
  case v11 =>
    intro Wx hSx
    have q := (HSo.out Wx hSx).2.2.1
    go_simp
  try simp only [Act.put, List.setIfInBounds_toArray, List.set_cons_zero, List.set_cons_succ]
  refine anyH_take 12 (some 19) (v := .int .i64 p) g1 rfl rfl (by kernel_rfl) (by kernel_rfl) (by kernel_rfl) (fun _ _ _ h => h) (by kernel_rfl) ?v12 ?_
  case v12 =>
    intro Wx hSx
    go_simp
  try simp only [Act.put, List.setIfInBounds_toArray, List.set_cons_zero, List.set_cons_succ]
  refine anyH_take 14 (some 21) (v := .int .i64 p) g1 rfl rfl (by kernel_rfl) (by kernel_rfl) (by kernel_rfl) (fun _ _ _ h => h) (by kernel_rfl) ?v14 ?_
  case v14 =>
    intro Wx hSx
    go_simp
  try simp only [Act.put, List.setIfInBounds_toArray, List.set_cons_zero, List.set_cons_succ]
  refine anyH_one 13 (by kernel_rfl) rfl (by kernel_rfl) (fun K hK => ?_)
  go_simp
  refine (HH.out _ _ _).mono ?_
  rintro e wz ⟨rfl, rfl⟩
  refine hK _ _ g1 ?_
  clear hK K
  refine anyH_one 15 (by kernel_rfl) rfl (by kernel_rfl) (fun K hK => ?_)
  go_simp
  refine (HH.out _ _ _).mono ?_
  rintro e wz ⟨rfl, rfl⟩
  refine hK _ _ g1 ?_
  clear hK K
  refine anyH_one 16 (by kernel_rfl) rfl (by kernel_rfl) (fun K hK => ?_)
  go_simp
  refine (HW1.out _ (HB.out.chain HX1.out)).mono ?_
  rintro e w2 ⟨rfl, hb⟩
  have HX2 := Lib.hid (HX1.out.chain hb)
  clear hb
  have g2 := HS2.out _ HX2.out
  refine hK _ _ g2 ?_
  clear hK K g1
  refine anyH_take 17 (some 24) (v := .bool false) g2 rfl rfl (by kernel_rfl) (by kernel_rfl) (by kernel_rfl) (fun _ _ _ h => h) (by kernel_rfl) ?v17 ?_
  case v17 =>
    intro Wx hSx
    go_simp
  try simp only [Act.put, List.setIfInBounds_toArray, List.set_cons_zero, List.set_cons_succ]
  refine anyH_take 18 (some 25) (v := .bool false) g2 rfl rfl (by kernel_rfl) (by kernel_rfl) (by kernel_rfl) (fun _ _ _ h => h) (by kernel_rfl) ?v18 ?_
  case v18 =>
    intro Wx hSx
    go_simp
  try simp only [Act.put, List.setIfInBounds_toArray, List.set_cons_zero, List.set_cons_succ]
  refine anyH_skip 19 (some 26) g2 rfl rfl (by kernel_rfl) (by kernel_rfl) (by kernel_rfl) (fun _ _ _ h => h) (by kernel_rfl) ?_
  try simp only [Act.put, List.setIfInBounds_toArray, List.set_cons_zero, List.set_cons_succ]
  refine anyH_skip 20 (some 27) g2 rfl rfl (by kernel_rfl) (by kernel_rfl) (by kernel_rfl) (fun _ _ _ h => h) (by kernel_rfl) ?_
  try simp only [Act.put, List.setIfInBounds_toArray, List.set_cons_zero, List.set_cons_succ]
  refine anyH_skip 21 (some 28) g2 rfl rfl (by kernel_rfl) (by kernel_rfl) (by kernel_rfl) (fun _ _ _ h => h) (by kernel_rfl) ?_
  try simp only [Act.put, List.setIfInBounds_toArray, List.set_cons_zero, List.set_cons_succ]
  refine anyH_skip 22 (some 29) g2 rfl rfl (by kernel_rfl) (by kernel_rfl) (by kernel_rfl) (fun _ _ _ h => h) (by kernel_rfl) ?_
  try simp only [Act.put, List.setIfInBounds_toArray, List.set_cons_zero, List.set_cons_succ]
  refine anyH_skip 23 (some 30) g2 rfl rfl (by kernel_rfl) (by kernel_rfl) (by kernel_rfl) (fun _ _ _ h => h) (by kernel_rfl) ?_
  try simp only [Act.put, List.setIfInBounds_toArray, List.set_cons_zero, List.set_cons_succ]
  refine anyH_skip 24 (some 31) g2 rfl rfl (by kernel_rfl) (by kernel_rfl) (by kernel_rfl) (fun _ _ _ h => h) (by kernel_rfl) ?_
  try simp only [Act.put, List.setIfInBounds_toArray, List.set_cons_zero, List.set_cons_succ]
  refine anyH_take 25 (some 32) (v := .bool false) g2 rfl rfl (by kernel_rfl) (by kernel_rfl) (by kernel_rfl) (fun _ _ _ h => h) (by kernel_rfl) ?v25 ?_
  case v25 =>
    intro Wx hSx
    go_simp
  try simp only [Act.put, List.setIfInBounds_toArray, List.set_cons_zero, List.set_cons_succ]
  refine anyH_take 26 (some 6) (v := .bool false) g2 rfl rfl (by kernel_rfl) (by kernel_rfl) (by kernel_rfl) (fun _ _ _ h => h) (by kernel_rfl) ?v26 ?_
  case v26 =>
    intro Wx hSx
    go_simp
  try simp only [Act.put, List.setIfInBounds_toArray, List.set_cons_zero, List.set_cons_succ]
  refine wpAnyH_done (by kernel_rfl) ?_ _
  go_wp2
  go_ret
  exact ⟨rfl, HB.out.chain HX2.out⟩

set_option maxRecDepth 100000 in
set_option maxHeartbeats 20000000 in
theorem names_c2 (fv : Nat) (nu ex : Int) (nm fd fr : List UInt8) (p : Int) (cs : Array Value) (_h24 : cs.size = 24) (k3 : cs[3]? = some (.string ⟨nm.toArray⟩)) (k4 : cs[4]? = some (.string ⟨fd.toArray⟩)) (k5 : cs[5]? = some (.string ⟨fr.toArray⟩)) (v2 : Bool) (w : World)
    (hw0 : ∀ W, Below w.heap.size w W → Calls Tryz.prog 158 #[rulesV fv nu ex, .string ⟨nm.toArray⟩, .bool (hasB p 1), .bool (hasB p 2)] W fun e w' => e = .returned (.bool true) ∧ Below W.heap.size W w')
    (hw1 : ∀ W, Below w.heap.size w W → Calls Tryz.prog 158 #[rulesV fv nu ex, .string ⟨fr.toArray⟩, .bool (hasB p 4), .bool (hasB p 8)] W fun e w' => e = .returned (.bool true) ∧ Below W.heap.size W w')
    (hw2 : ∀ W, Below w.heap.size w W → Calls Tryz.prog 158 #[rulesV fv nu ex, .string ⟨fd.toArray⟩, .bool false, .bool (hasB p 16)] W fun e w' => e = .returned (.bool v2) ∧ Below W.heap.size W w') :
    Calls Tryz.prog 120 #[rulesV fv nu ex, .agg cs, .int .i64 p] w fun e w' => e = .returned (.bool v2) ∧ Below w.heap.size w w' := by
  have HW0 := Lib.hid hw0
  have HW1 := Lib.hid hw1
  have HW2 := Lib.hid hw2
  have HH := Lib.hid phas_any
  obtain ⟨T, N, hT, hN, _, _⟩ := stmt_hidden
  have e4 : ∀ y : Operand, Op.box 44 y = Op.box T y := fun y => by rw [hT]
  obtain ⟨W1, hW1⟩ : ∃ W1, W1 = (w.alloc (rulesC fv nu ex)).alloc (.cells cs T) := ⟨_, rfl⟩
  have HB : Hid (Below w.heap.size w W1) := Lib.hid (by rw [hW1]; exact (below_alloc w _).chain (below_alloc _ _))
  have q1 := heap_keep (o := .cells cs T) (heap_of_alloc w (rulesC fv nu ex))
  have q2 := heap_of_alloc (w.alloc (rulesC fv nu ex)) (.cells cs T)
  rw [size_of_alloc] at q2
  rw [← hW1] at q1 q2
  obtain ⟨S, hS⟩ : ∃ S : World → Prop, S = fun W => Below W1.heap.size W1 W := ⟨_, rfl⟩
  have HS2 : Hid (∀ W, Below W1.heap.size W1 W → S W) := Lib.hid (fun W hb => by rw [hS]; exact hb)
  have HX0 := Lib.hid (Below.refl W1.heap.size W1).drew
  have hmx : Tryz.prog.follows .mixedOrders = true := by kernel_rfl
  have HSo : Hid (∀ W, S W → (W.cell? ⟨w.heap.size, 0, none⟩ = some (.func (.func fv) #[] #[]) ∧ W.cell? ⟨w.heap.size, 1, none⟩ = some (.int .i64 nu) ∧ W.cell? ⟨w.heap.size, 2, none⟩ = some (.int .i64 ex)) ∧ W.cell? ⟨w.heap.size + 1, 3, none⟩ = some (.string ⟨nm.toArray⟩) ∧ W.cell? ⟨w.heap.size + 1, 5, none⟩ = some (.string ⟨fr.toArray⟩) ∧ W.cell? ⟨w.heap.size + 1, 4, none⟩ = some (.string ⟨fd.toArray⟩)) := Lib.hid (fun W hs => by
    rw [hS] at hs
    exact ⟨box3 (kept_box hs q1), cell_of_block (kept_box hs q2) 3 k3, cell_of_block (kept_box hs q2) 5 k5, cell_of_block (kept_box hs q2) 4 k4⟩)
  clear hw0 hw1 hw2 hN q1 q2 hS k3 k4 k5 _h24
  go_enter Tryz.func120, Tryz.ntmps120
  simp only [e4]
  clear e4 hT
  go_wp2
  rw [← hW1]
  clear hW1
  refine wp_region_held (S := S) hmx ?_
  change wpAnyH _ _ _ _ _ 27 #[false, false, false, false, false, false, false, false, false, false, false, false, false, false, false, false, false, false, false, false, false, false, false, false, false, false, false] _ W1.drew
  have g0 := HS2.out _ HX0.out
  refine anyH_take 0 (some 7) (v := rulesV fv nu ex) g0 rfl rfl (by kernel_rfl) (by kernel_rfl) (by kernel_rfl) (fun _ _ _ h => h) (by kernel_rfl) ?v0 ?_
  case v0 =>
    intro Wx hSx
    obtain ⟨r0, r1, r2⟩ := (HSo.out Wx hSx).1
    go_simp
  try simp only [Act.put, List.setIfInBounds_toArray, List.set_cons_zero, List.set_cons_succ]
  refine anyH_take 1 (some 8) (v := .pointer (some ⟨w.heap.size + 1, 3, none⟩)) g0 rfl rfl (by kernel_rfl) (by kernel_rfl) (by kernel_rfl) (fun _ _ _ h => h) (by kernel_rfl) ?v1 ?_
  case v1 =>
    intro Wx hSx
    go_simp
  try simp only [Act.put, List.setIfInBounds_toArray, List.set_cons_zero, List.set_cons_succ]
  refine anyH_take 2 (some 9) (v := .string ⟨nm.toArray⟩) g0 rfl rfl (by kernel_rfl) (by kernel_rfl) (by kernel_rfl) (fun _ _ _ h => h) (by kernel_rfl) ?v2 ?_
  case v2 =>
    intro Wx hSx
    have q := (HSo.out Wx hSx).2.1
    go_simp
  try simp only [Act.put, List.setIfInBounds_toArray, List.set_cons_zero, List.set_cons_succ]
  refine anyH_take 3 (some 10) (v := .int .i64 p) g0 rfl rfl (by kernel_rfl) (by kernel_rfl) (by kernel_rfl) (fun _ _ _ h => h) (by kernel_rfl) ?v3 ?_
  case v3 =>
    intro Wx hSx
    go_simp
  try simp only [Act.put, List.setIfInBounds_toArray, List.set_cons_zero, List.set_cons_succ]
  refine anyH_take 5 (some 12) (v := .int .i64 p) g0 rfl rfl (by kernel_rfl) (by kernel_rfl) (by kernel_rfl) (fun _ _ _ h => h) (by kernel_rfl) ?v5 ?_
  case v5 =>
    intro Wx hSx
    go_simp
  try simp only [Act.put, List.setIfInBounds_toArray, List.set_cons_zero, List.set_cons_succ]
  refine anyH_one 4 (by kernel_rfl) rfl (by kernel_rfl) (fun K hK => ?_)
  go_simp
  refine (HH.out _ _ _).mono ?_
  rintro e wz ⟨rfl, rfl⟩
  refine hK _ _ g0 ?_
  clear hK K
  refine anyH_one 6 (by kernel_rfl) rfl (by kernel_rfl) (fun K hK => ?_)
  go_simp
  refine (HH.out _ _ _).mono ?_
  rintro e wz ⟨rfl, rfl⟩
  refine hK _ _ g0 ?_
  clear hK K
  refine anyH_one 7 (by kernel_rfl) rfl (by kernel_rfl) (fun K hK => ?_)
  go_simp
  refine (HW0.out _ (HB.out.chain HX0.out)).mono ?_
  rintro e w1 ⟨rfl, hb⟩
  have HX1 := Lib.hid (HX0.out.chain hb)
  clear hb
  have g1 := HS2.out _ HX1.out
  refine hK _ _ g1 ?_
  clear hK K g0
  refine anyH_take 8 (some 15) (v := .bool true) g1 rfl rfl (by kernel_rfl) (by kernel_rfl) (by kernel_rfl) (fun _ _ _ h => h) (by kernel_rfl) ?v8 ?_
  case v8 =>
    intro Wx hSx
    go_simp
  try simp only [Act.put, List.setIfInBounds_toArray, List.set_cons_zero, List.set_cons_succ]
  refine anyH_take 9 (some 16) (v := rulesV fv nu ex) g1 rfl rfl (by kernel_rfl) (by kernel_rfl) (by kernel_rfl) (fun _ _ _ h => h) (by kernel_rfl) ?v9 ?_
  case v9 =>
    intro Wx hSx
    obtain ⟨r0, r1, r2⟩ := (HSo.out Wx hSx).1
    go_simp
  try simp only [Act.put, List.setIfInBounds_toArray, List.set_cons_zero, List.set_cons_succ]
  refine anyH_take 10 (some 17) (v := .pointer (some ⟨w.heap.size + 1, 5, none⟩)) g1 rfl rfl (by kernel_rfl) (by kernel_rfl) (by kernel_rfl) (fun _ _ _ h => h) (by kernel_rfl) ?v10 ?_
  case v10 =>
    intro Wx hSx
    go_simp
  try simp only [Act.put, List.setIfInBounds_toArray, List.set_cons_zero, List.set_cons_succ]
  refine anyH_take 11 (some 18) (v := .string ⟨fr.toArray⟩) g1 rfl rfl (by kernel_rfl) (by kernel_rfl) (by kernel_rfl) (fun _ _ _ h => h) (by kernel_rfl) ?v11 ?_
  case v11 =>
    intro Wx hSx
    have q := (HSo.out Wx hSx).2.2.1
    go_simp
  try simp only [Act.put, List.setIfInBounds_toArray, List.set_cons_zero, List.set_cons_succ]
  refine anyH_take 12 (some 19) (v := .int .i64 p) g1 rfl rfl (by kernel_rfl) (by kernel_rfl) (by kernel_rfl) (fun _ _ _ h => h) (by kernel_rfl) ?v12 ?_
  case v12 =>
    intro Wx hSx
    go_simp
  try simp only [Act.put, List.setIfInBounds_toArray, List.set_cons_zero, List.set_cons_succ]
  refine anyH_take 14 (some 21) (v := .int .i64 p) g1 rfl rfl (by kernel_rfl) (by kernel_rfl) (by kernel_rfl) (fun _ _ _ h => h) (by kernel_rfl) ?v14 ?_
  case v14 =>
    intro Wx hSx
    go_simp
  try simp only [Act.put, List.setIfInBounds_toArray, List.set_cons_zero, List.set_cons_succ]
  refine anyH_one 13 (by kernel_rfl) rfl (by kernel_rfl) (fun K hK => ?_)
  go_simp
  refine (HH.out _ _ _).mono ?_
  rintro e wz ⟨rfl, rfl⟩
  refine hK _ _ g1 ?_
  clear hK K
  refine anyH_one 15 (by kernel_rfl) rfl (by kernel_rfl) (fun K hK => ?_)
  go_simp
  refine (HH.out _ _ _).mono ?_
  rintro e wz ⟨rfl, rfl⟩
  refine hK _ _ g1 ?_
  clear hK K
  refine anyH_one 16 (by kernel_rfl) rfl (by kernel_rfl) (fun K hK => ?_)
  go_simp
  refine (HW1.out _ (HB.out.chain HX1.out)).mono ?_
  rintro e w2 ⟨rfl, hb⟩
  have HX2 := Lib.hid (HX1.out.chain hb)
  clear hb
  have g2 := HS2.out _ HX2.out
  refine hK _ _ g2 ?_
  clear hK K g1
  refine anyH_take 17 (some 24) (v := .bool true) g2 rfl rfl (by kernel_rfl) (by kernel_rfl) (by kernel_rfl) (fun _ _ _ h => h) (by kernel_rfl) ?v17 ?_
  case v17 =>
    intro Wx hSx
    go_simp
  try simp only [Act.put, List.setIfInBounds_toArray, List.set_cons_zero, List.set_cons_succ]
  refine anyH_take 18 (some 25) (v := .bool true) g2 rfl rfl (by kernel_rfl) (by kernel_rfl) (by kernel_rfl) (fun _ _ _ h => h) (by kernel_rfl) ?v18 ?_
  case v18 =>
    intro Wx hSx
    go_simp
  try simp only [Act.put, List.setIfInBounds_toArray, List.set_cons_zero, List.set_cons_succ]
  refine anyH_take 19 (some 26) (v := rulesV fv nu ex) g2 rfl rfl (by kernel_rfl) (by kernel_rfl) (by kernel_rfl) (fun _ _ _ h => h) (by kernel_rfl) ?v19 ?_
  case v19 =>
    intro Wx hSx
    obtain ⟨r0, r1, r2⟩ := (HSo.out Wx hSx).1
    go_simp
  try simp only [Act.put, List.setIfInBounds_toArray, List.set_cons_zero, List.set_cons_succ]
  refine anyH_take 20 (some 27) (v := .pointer (some ⟨w.heap.size + 1, 4, none⟩)) g2 rfl rfl (by kernel_rfl) (by kernel_rfl) (by kernel_rfl) (fun _ _ _ h => h) (by kernel_rfl) ?v20 ?_
  case v20 =>
    intro Wx hSx
    go_simp
  try simp only [Act.put, List.setIfInBounds_toArray, List.set_cons_zero, List.set_cons_succ]
  refine anyH_take 21 (some 28) (v := .string ⟨fd.toArray⟩) g2 rfl rfl (by kernel_rfl) (by kernel_rfl) (by kernel_rfl) (fun _ _ _ h => h) (by kernel_rfl) ?v21 ?_
  case v21 =>
    intro Wx hSx
    have q := (HSo.out Wx hSx).2.2.2
    go_simp
  try simp only [Act.put, List.setIfInBounds_toArray, List.set_cons_zero, List.set_cons_succ]
  refine anyH_take 22 (some 29) (v := .int .i64 p) g2 rfl rfl (by kernel_rfl) (by kernel_rfl) (by kernel_rfl) (fun _ _ _ h => h) (by kernel_rfl) ?v22 ?_
  case v22 =>
    intro Wx hSx
    go_simp
  try simp only [Act.put, List.setIfInBounds_toArray, List.set_cons_zero, List.set_cons_succ]
  refine anyH_one 23 (by kernel_rfl) rfl (by kernel_rfl) (fun K hK => ?_)
  go_simp
  refine (HH.out _ _ _).mono ?_
  rintro e wz ⟨rfl, rfl⟩
  refine hK _ _ g2 ?_
  clear hK K
  refine anyH_one 24 (by kernel_rfl) rfl (by kernel_rfl) (fun K hK => ?_)
  go_simp
  refine (HW2.out _ (HB.out.chain HX2.out)).mono ?_
  rintro e w3 ⟨rfl, hb⟩
  have HX3 := Lib.hid (HX2.out.chain hb)
  clear hb
  have g3 := HS2.out _ HX3.out
  refine hK _ _ g3 ?_
  clear hK K g2
  refine anyH_take 25 (some 32) (v := .bool v2) g3 rfl rfl (by kernel_rfl) (by kernel_rfl) (by kernel_rfl) (fun _ _ _ h => h) (by kernel_rfl) ?v25 ?_
  case v25 =>
    intro Wx hSx
    go_simp
  try simp only [Act.put, List.setIfInBounds_toArray, List.set_cons_zero, List.set_cons_succ]
  refine anyH_take 26 (some 6) (v := .bool v2) g3 rfl rfl (by kernel_rfl) (by kernel_rfl) (by kernel_rfl) (fun _ _ _ h => h) (by kernel_rfl) ?v26 ?_
  case v26 =>
    intro Wx hSx
    go_simp
  try simp only [Act.put, List.setIfInBounds_toArray, List.set_cons_zero, List.set_cons_succ]
  refine wpAnyH_done (by kernel_rfl) ?_ _
  go_wp2
  go_ret
  exact ⟨rfl, HB.out.chain HX3.out⟩

theorem names_core (fv : Nat) (nu ex : Int) (nm fd fr : List UInt8) (p : Int) (cs : Array Value) (h24 : cs.size = 24) (k3 : cs[3]? = some (.string ⟨nm.toArray⟩)) (k4 : cs[4]? = some (.string ⟨fd.toArray⟩)) (k5 : cs[5]? = some (.string ⟨fr.toArray⟩)) (v0 v1 v2 : Bool) (w : World)
    (hw0 : ∀ W, Below w.heap.size w W → Calls Tryz.prog 158 #[rulesV fv nu ex, .string ⟨nm.toArray⟩, .bool (hasB p 1), .bool (hasB p 2)] W fun e w' => e = .returned (.bool v0) ∧ Below W.heap.size W w')
    (hw1 : ∀ W, Below w.heap.size w W → Calls Tryz.prog 158 #[rulesV fv nu ex, .string ⟨fr.toArray⟩, .bool (hasB p 4), .bool (hasB p 8)] W fun e w' => e = .returned (.bool v1) ∧ Below W.heap.size W w')
    (hw2 : ∀ W, Below w.heap.size w W → Calls Tryz.prog 158 #[rulesV fv nu ex, .string ⟨fd.toArray⟩, .bool false, .bool (hasB p 16)] W fun e w' => e = .returned (.bool v2) ∧ Below W.heap.size W w') :
    Calls Tryz.prog 120 #[rulesV fv nu ex, .agg cs, .int .i64 p] w fun e w' => e = .returned (.bool (v0 && v1 && v2)) ∧ Below w.heap.size w w' := by
  cases v0 with
  | false => exact names_c0 fv nu ex nm fd fr p cs h24 k3 k4 k5 w hw0
  | true =>
    cases v1 with
    | false => exact names_c1 fv nu ex nm fd fr p cs h24 k3 k4 k5 w hw0 hw1
    | true => exact names_c2 fv nu ex nm fd fr p cs h24 k3 k4 k5 v2 w hw0 hw1 hw2

end Go.Proofs.YtllfkgggolfojaaGreatDoor
