/-
  rules.stmt, where part 3 (to 4) is the first that is not valid.
-/
import Derived.Test.YtllfkgggolfojaaGreatDoorTreeNm
namespace Go.Proofs.YtllfkgggolfojaaGreatDoor
open Go.RowKit

set_option maxRecDepth 100000 in
set_option maxHeartbeats 20000000 in
theorem stmt_c3 (fv : Nat) (nu ex : Int) (k ln co ek en ck ak an bk bn : Int) (es sa sb : List UInt8) (ve va vb vl vc vi vs vt : Value) (cs : Array Value) (h24 : cs.size = 24) (k0 : cs[0]? = some (.int .i64 k)) (k1 : cs[1]? = some (.int .i64 ln)) (k2 : cs[2]? = some (.int .i64 co)) (k6 : cs[6]? = some (.int .i64 ek)) (k7 : cs[7]? = some (.int .i64 en)) (k8 : cs[8]? = some (.string ⟨es.toArray⟩)) (k9 : cs[9]? = some ve) (k10 : cs[10]? = some (.int .i64 ck)) (k11 : cs[11]? = some (.int .i64 ak)) (k12 : cs[12]? = some (.int .i64 an)) (k13 : cs[13]? = some (.string ⟨sa.toArray⟩)) (k14 : cs[14]? = some va) (k15 : cs[15]? = some (.int .i64 bk)) (k16 : cs[16]? = some (.int .i64 bn)) (k17 : cs[17]? = some (.string ⟨sb.toArray⟩)) (k18 : cs[18]? = some vb) (k19 : cs[19]? = some vl) (k20 : cs[20]? = some vc) (k21 : cs[21]? = some vi) (k22 : cs[22]? = some vs) (k23 : cs[23]? = some vt) (kn : Nat) (hk : k = kn) (hk1 : 1 ≤ kn) (hk2 : kn ≤ 12) (p dp : Int) (w : World) (hp : w.cell? ⟨0, kn, none⟩ = some (.int .i64 p))
    (hv0 : ∀ W, Below w.heap.size w W → Calls Tryz.prog 119 #[posV ln co] W fun e w' => e = .returned (.bool true) ∧ Below W.heap.size W w')
    (hv1 : ∀ W, Below w.heap.size w W → Calls Tryz.prog 120 #[rulesV fv nu ex, .agg cs, .int .i64 p] W fun e w' => e = .returned (.bool true) ∧ Below W.heap.size W w')
    (hv2 : ∀ W, Below w.heap.size w W → Calls Tryz.prog 121 #[.bool (hasB p 32), exprV ek en ⟨es.toArray⟩ ve, .func (.func 27) #[rulesV fv nu ex] #[], .func (.func 91) #[] #[]] W fun e w' => e = .returned (.bool true) ∧ Below W.heap.size W w')
    (hv3 : ∀ W, Below w.heap.size w W → Calls Tryz.prog 123 #[.bool (hasB p 64), condV2 ck ak an ⟨sa.toArray⟩ va bk bn ⟨sb.toArray⟩ vb vl, .func (.func 28) #[rulesV fv nu ex] #[], .func (.func 124) #[] #[]] W fun e w' => e = .returned (.bool false) ∧ Below W.heap.size W w') :
    Calls Tryz.prog 77 #[rulesV fv nu ex, .agg cs, .int .i64 dp] w fun e w' => e = .returned (.bool false) ∧ Below w.heap.size w w' := by
  have HV0 := Lib.hid hv0
  have HV1 := Lib.hid hv1
  have HV2 := Lib.hid hv2
  have HV3 := Lib.hid hv3
  have HM1 := Lib.hid (most_any p 128 1)
  have HM2 := Lib.hid (most_any p 256 1)
  have hm1 := most_01 p 128
  have hm2 := most_01 p 256
  generalize mostB p 128 1 = m1 at *
  generalize mostB p 256 1 = m2 at *
  have HH2 := Lib.hid (phas_any p 32)
  generalize hasB p 32 = a2 at *
  have HH3 := Lib.hid (phas_any p 64)
  generalize hasB p 64 = a3 at *
  subst hk
  obtain ⟨T, N, hT, hN, hag, hsz⟩ := stmt_hidden
  have e1 : ∀ y : Operand, Op.load 44 y = Op.load T y := fun y => by rw [hT]
  have e4 : ∀ y : Operand, Op.box 44 y = Op.box T y := fun y => by rw [hT]
  obtain ⟨W1, hW1⟩ : ∃ W1, W1 = (w.alloc (rulesC fv nu ex)).alloc (.cells cs T) := ⟨_, rfl⟩
  have HB : Hid (Below w.heap.size w W1) := Lib.hid (by rw [hW1]; exact (below_alloc w _).chain (below_alloc _ _))
  have q1 := heap_keep (o := .cells cs T) (heap_of_alloc w (rulesC fv nu ex))
  have q2 := heap_of_alloc (w.alloc (rulesC fv nu ex)) (.cells cs T)
  rw [size_of_alloc] at q2
  rw [← hW1] at q1 q2
  have hszc : cs.size = N := h24.trans hN.symm
  obtain ⟨S, hS⟩ : ∃ S : World → Prop, S = fun W => Below W1.heap.size W1 W := ⟨_, rfl⟩
  have HS2 : Hid (∀ W, Below W1.heap.size W1 W → S W) := Lib.hid (fun W hb => by rw [hS]; exact hb)
  have HX0 := Lib.hid (Below.refl W1.heap.size W1).drew
  have hmx : Tryz.prog.follows .mixedOrders = true := by kernel_rfl
  have HSo : Hid (∀ W, S W → (W.cell? ⟨w.heap.size, 0, none⟩ = some (.func (.func fv) #[] #[]) ∧ W.cell? ⟨w.heap.size, 1, none⟩ = some (.int .i64 nu) ∧ W.cell? ⟨w.heap.size, 2, none⟩ = some (.int .i64 ex)) ∧ (W.cell? ⟨w.heap.size + 1, 1, none⟩ = some (.int .i64 ln) ∧ W.cell? ⟨w.heap.size + 1, 2, none⟩ = some (.int .i64 co)) ∧ (W.cell? ⟨w.heap.size + 1, 6, none⟩ = some (.int .i64 ek) ∧ W.cell? ⟨w.heap.size + 1, 7, none⟩ = some (.int .i64 en) ∧ W.cell? ⟨w.heap.size + 1, 8, none⟩ = some (.string ⟨es.toArray⟩) ∧ W.cell? ⟨w.heap.size + 1, 9, none⟩ = some ve) ∧ (W.cell? ⟨w.heap.size + 1, 10, none⟩ = some (.int .i64 ck) ∧ W.cell? ⟨w.heap.size + 1, 11, none⟩ = some (.int .i64 ak) ∧ W.cell? ⟨w.heap.size + 1, 12, none⟩ = some (.int .i64 an) ∧ W.cell? ⟨w.heap.size + 1, 13, none⟩ = some (.string ⟨sa.toArray⟩) ∧ W.cell? ⟨w.heap.size + 1, 14, none⟩ = some va ∧ W.cell? ⟨w.heap.size + 1, 15, none⟩ = some (.int .i64 bk) ∧ W.cell? ⟨w.heap.size + 1, 16, none⟩ = some (.int .i64 bn) ∧ W.cell? ⟨w.heap.size + 1, 17, none⟩ = some (.string ⟨sb.toArray⟩) ∧ W.cell? ⟨w.heap.size + 1, 18, none⟩ = some vb ∧ W.cell? ⟨w.heap.size + 1, 19, none⟩ = some vl) ∧ W.cell? ⟨w.heap.size + 1, 20, none⟩ = some vc ∧ W.cell? ⟨w.heap.size + 1, 21, none⟩ = some vi ∧ W.cell? ⟨w.heap.size + 1, 22, none⟩ = some vs ∧ W.cell? ⟨w.heap.size + 1, 23, none⟩ = some vt ∧ (loadCellsFrom ⟨w.heap.size + 1, 0, none⟩ 0 N #[]).run Tryz.prog W = .ok cs W) := Lib.hid (fun W hs => by
    rw [hS] at hs
    have g2 := kept_box hs q2
    exact ⟨box3 (kept_box hs q1), ⟨cell_of_block g2 1 k1, cell_of_block g2 2 k2⟩, ⟨cell_of_block g2 6 k6, cell_of_block g2 7 k7, cell_of_block g2 8 k8, cell_of_block g2 9 k9⟩, ⟨cell_of_block g2 10 k10, cell_of_block g2 11 k11, cell_of_block g2 12 k12, cell_of_block g2 13 k13, cell_of_block g2 14 k14, cell_of_block g2 15 k15, cell_of_block g2 16 k16, cell_of_block g2 17 k17, cell_of_block g2 18 k18, cell_of_block g2 19 k19⟩, cell_of_block g2 20 k20, cell_of_block g2 21 k21, cell_of_block g2 22 k22, cell_of_block g2 23 k23, load_list (fun j v hv => by rw [add_block0]; exact cell_of_block g2 j hv) hszc⟩)
  have c0 := cell_of_block q2 0 k0
  have hpW := (HB.out.cell (p := ⟨0, kn, none⟩) (cell_lt2S hp)).trans hp
  rw [hW1] at c0 hpW
  clear hv0 hv1 hv2 hv3 hN q1 q2 hS h24 hp k0 k1 k2 k6 k7 k8 k9 k10 k11 k12 k13 k14 k15 k16 k17 k18 k19 k20 k21 k22 k23
  go_enter Tryz.func77, Tryz.ntmps77
  simp only [e1, e4]
  clear e1 e4 hT
  go_wp2_with (first
    | (go_at_call 118; rw [← hW1]; clear hW1; with_reducible refine (HM1.out _).mono ?_; rintro e w2 ⟨rfl, rfl⟩)
    | (go_at_call 118; with_reducible refine (HM2.out _).mono ?_; rintro e w2 ⟨rfl, rfl⟩))
  refine wp_region_held (S := S) hmx ?_
  change wpAnyH _ _ _ _ _ 64 #[false, false, false, false, false, false, false, false, false, false, false, false, false, false, false, false, false, false, false, false, false, false, false, false, false, false, false, false, false, false, false, false, false, false, false, false, false, false, false, false, false, false, false, false, false, false, false, false, false, false, false, false, false, false, false, false, false, false, false, false, false, false, false, false] _ W1.drew
  have g0 := HS2.out _ HX0.out
  refine anyH_take 0 (some 26) (v := .pointer (some ⟨w.heap.size + 1, 1, none⟩)) g0 rfl rfl (by kernel_rfl) (by kernel_rfl) (by kernel_rfl) (fun _ _ _ h => h) (by kernel_rfl) ?v0 ?_
  case v0 =>
    intro Wx hSx
    go_simp
  try simp only [Act.put, List.setIfInBounds_toArray, List.set_cons_zero, List.set_cons_succ]
  refine anyH_take 1 (some 27) (v := posV ln co) g0 rfl rfl (by kernel_rfl) (by kernel_rfl) (by kernel_rfl) (fun _ _ _ h => h) (by kernel_rfl) ?v1 ?_
  case v1 =>
    intro Wx hSx
    obtain ⟨q0, q1⟩ := (HSo.out Wx hSx).2.1
    go_simp
  try simp only [Act.put, List.setIfInBounds_toArray, List.set_cons_zero, List.set_cons_succ]
  refine anyH_one 2 (by kernel_rfl) rfl (by kernel_rfl) (fun K hK => ?_)
  go_simp
  refine (HV0.out _ (HB.out.chain HX0.out)).mono ?_
  rintro e w1 ⟨rfl, hb⟩
  have HX1 := Lib.hid (HX0.out.chain hb)
  clear hb
  have g1 := HS2.out _ HX1.out
  refine hK _ _ g1 ?_
  clear hK K g0
  refine anyH_take 3 (some 29) (v := .bool true) g1 rfl rfl (by kernel_rfl) (by kernel_rfl) (by kernel_rfl) (fun _ _ _ h => h) (by kernel_rfl) ?v3 ?_
  case v3 =>
    intro Wx hSx
    go_simp
  try simp only [Act.put, List.setIfInBounds_toArray, List.set_cons_zero, List.set_cons_succ]
  refine anyH_take 4 (some 30) (v := rulesV fv nu ex) g1 rfl rfl (by kernel_rfl) (by kernel_rfl) (by kernel_rfl) (fun _ _ _ h => h) (by kernel_rfl) ?v4 ?_
  case v4 =>
    intro Wx hSx
    obtain ⟨r0, r1, r2⟩ := (HSo.out Wx hSx).1
    go_simp
  try simp only [Act.put, List.setIfInBounds_toArray, List.set_cons_zero, List.set_cons_succ]
  refine anyH_take 5 (some 31) (v := .agg cs) g1 rfl rfl (by kernel_rfl) (by kernel_rfl) (by kernel_rfl) (fun _ _ _ h => h) (by kernel_rfl) ?v5 ?_
  case v5 =>
    intro Wx hSx
    have q0 := (HSo.out Wx hSx).2.2.2.2.2.2.2.2
    go_simp
  try simp only [Act.put, List.setIfInBounds_toArray, List.set_cons_zero, List.set_cons_succ]
  refine anyH_take 6 (some 32) (v := .int .i64 p) g1 rfl rfl (by kernel_rfl) (by kernel_rfl) (by kernel_rfl) (fun _ _ _ h => h) (by kernel_rfl) ?v6 ?_
  case v6 =>
    intro Wx hSx
    go_simp
  try simp only [Act.put, List.setIfInBounds_toArray, List.set_cons_zero, List.set_cons_succ]
  refine anyH_one 7 (by kernel_rfl) rfl (by kernel_rfl) (fun K hK => ?_)
  go_simp
  refine (HV1.out _ (HB.out.chain HX1.out)).mono ?_
  rintro e w2 ⟨rfl, hb⟩
  have HX2 := Lib.hid (HX1.out.chain hb)
  clear hb
  have g2 := HS2.out _ HX2.out
  refine hK _ _ g2 ?_
  clear hK K g1
  refine anyH_take 8 (some 34) (v := .bool true) g2 rfl rfl (by kernel_rfl) (by kernel_rfl) (by kernel_rfl) (fun _ _ _ h => h) (by kernel_rfl) ?v8 ?_
  case v8 =>
    intro Wx hSx
    go_simp
  try simp only [Act.put, List.setIfInBounds_toArray, List.set_cons_zero, List.set_cons_succ]
  refine anyH_take 9 (some 35) (v := .bool true) g2 rfl rfl (by kernel_rfl) (by kernel_rfl) (by kernel_rfl) (fun _ _ _ h => h) (by kernel_rfl) ?v9 ?_
  case v9 =>
    intro Wx hSx
    go_simp
  try simp only [Act.put, List.setIfInBounds_toArray, List.set_cons_zero, List.set_cons_succ]
  refine anyH_take 10 (some 36) (v := .int .i64 p) g2 rfl rfl (by kernel_rfl) (by kernel_rfl) (by kernel_rfl) (fun _ _ _ h => h) (by kernel_rfl) ?v10 ?_
  case v10 =>
    intro Wx hSx
    go_simp
  try simp only [Act.put, List.setIfInBounds_toArray, List.set_cons_zero, List.set_cons_succ]
  refine anyH_take 12 (some 38) (v := .pointer (some ⟨w.heap.size + 1, 6, none⟩)) g2 rfl rfl (by kernel_rfl) (by kernel_rfl) (by kernel_rfl) (fun _ _ _ h => h) (by kernel_rfl) ?v12 ?_
  case v12 =>
    intro Wx hSx
    go_simp
  try simp only [Act.put, List.setIfInBounds_toArray, List.set_cons_zero, List.set_cons_succ]
  refine anyH_take 13 (some 39) (v := exprV ek en ⟨es.toArray⟩ ve) g2 rfl rfl (by kernel_rfl) (by kernel_rfl) (by kernel_rfl) (fun _ _ _ h => h) (by kernel_rfl) ?v13 ?_
  case v13 =>
    intro Wx hSx
    obtain ⟨q0, q1, q2, q3⟩ := (HSo.out Wx hSx).2.2.1
    go_simp
  try simp only [Act.put, List.setIfInBounds_toArray, List.set_cons_zero, List.set_cons_succ]
  refine anyH_take 14 (some 40) (v := rulesV fv nu ex) g2 rfl rfl (by kernel_rfl) (by kernel_rfl) (by kernel_rfl) (fun _ _ _ h => h) (by kernel_rfl) ?v14 ?_
  case v14 =>
    intro Wx hSx
    obtain ⟨r0, r1, r2⟩ := (HSo.out Wx hSx).1
    go_simp
  try simp only [Act.put, List.setIfInBounds_toArray, List.set_cons_zero, List.set_cons_succ]
  refine anyH_take 15 (some 41) (v := .func (.func 27) #[rulesV fv nu ex] #[]) g2 rfl rfl (by kernel_rfl) (by kernel_rfl) (by kernel_rfl) (fun _ _ _ h => h) (by kernel_rfl) ?v15 ?_
  case v15 =>
    intro Wx hSx
    go_simp
  try simp only [Act.put, List.setIfInBounds_toArray, List.set_cons_zero, List.set_cons_succ]
  refine anyH_one 11 (by kernel_rfl) rfl (by kernel_rfl) (fun K hK => ?_)
  go_simp
  refine (HH2.out _).mono ?_
  rintro e wz ⟨rfl, rfl⟩
  refine hK _ _ g2 ?_
  clear hK K
  refine anyH_one 16 (by kernel_rfl) rfl (by kernel_rfl) (fun K hK => ?_)
  go_simp
  refine (HV2.out _ (HB.out.chain HX2.out)).mono ?_
  rintro e w3 ⟨rfl, hb⟩
  have HX3 := Lib.hid (HX2.out.chain hb)
  clear hb
  have g3 := HS2.out _ HX3.out
  refine hK _ _ g3 ?_
  clear hK K g2
  refine anyH_take 17 (some 43) (v := .bool true) g3 rfl rfl (by kernel_rfl) (by kernel_rfl) (by kernel_rfl) (fun _ _ _ h => h) (by kernel_rfl) ?v17 ?_
  case v17 =>
    intro Wx hSx
    go_simp
  try simp only [Act.put, List.setIfInBounds_toArray, List.set_cons_zero, List.set_cons_succ]
  refine anyH_take 18 (some 44) (v := .bool true) g3 rfl rfl (by kernel_rfl) (by kernel_rfl) (by kernel_rfl) (fun _ _ _ h => h) (by kernel_rfl) ?v18 ?_
  case v18 =>
    intro Wx hSx
    go_simp
  try simp only [Act.put, List.setIfInBounds_toArray, List.set_cons_zero, List.set_cons_succ]
  refine anyH_take 19 (some 45) (v := .int .i64 p) g3 rfl rfl (by kernel_rfl) (by kernel_rfl) (by kernel_rfl) (fun _ _ _ h => h) (by kernel_rfl) ?v19 ?_
  case v19 =>
    intro Wx hSx
    go_simp
  try simp only [Act.put, List.setIfInBounds_toArray, List.set_cons_zero, List.set_cons_succ]
  refine anyH_take 21 (some 47) (v := .pointer (some ⟨w.heap.size + 1, 10, none⟩)) g3 rfl rfl (by kernel_rfl) (by kernel_rfl) (by kernel_rfl) (fun _ _ _ h => h) (by kernel_rfl) ?v21 ?_
  case v21 =>
    intro Wx hSx
    go_simp
  try simp only [Act.put, List.setIfInBounds_toArray, List.set_cons_zero, List.set_cons_succ]
  refine anyH_take 22 (some 48) (v := condV2 ck ak an ⟨sa.toArray⟩ va bk bn ⟨sb.toArray⟩ vb vl) g3 rfl rfl (by kernel_rfl) (by kernel_rfl) (by kernel_rfl) (fun _ _ _ h => h) (by kernel_rfl) ?v22 ?_
  case v22 =>
    intro Wx hSx
    obtain ⟨q0, q1, q2, q3, q4, q5, q6, q7, q8, q9⟩ := (HSo.out Wx hSx).2.2.2.1
    go_simp
  try simp only [Act.put, List.setIfInBounds_toArray, List.set_cons_zero, List.set_cons_succ]
  refine anyH_take 23 (some 49) (v := rulesV fv nu ex) g3 rfl rfl (by kernel_rfl) (by kernel_rfl) (by kernel_rfl) (fun _ _ _ h => h) (by kernel_rfl) ?v23 ?_
  case v23 =>
    intro Wx hSx
    obtain ⟨r0, r1, r2⟩ := (HSo.out Wx hSx).1
    go_simp
  try simp only [Act.put, List.setIfInBounds_toArray, List.set_cons_zero, List.set_cons_succ]
  refine anyH_take 24 (some 50) (v := .func (.func 28) #[rulesV fv nu ex] #[]) g3 rfl rfl (by kernel_rfl) (by kernel_rfl) (by kernel_rfl) (fun _ _ _ h => h) (by kernel_rfl) ?v24 ?_
  case v24 =>
    intro Wx hSx
    go_simp
  try simp only [Act.put, List.setIfInBounds_toArray, List.set_cons_zero, List.set_cons_succ]
  refine anyH_one 20 (by kernel_rfl) rfl (by kernel_rfl) (fun K hK => ?_)
  go_simp
  refine (HH3.out _).mono ?_
  rintro e wz ⟨rfl, rfl⟩
  refine hK _ _ g3 ?_
  clear hK K
  refine anyH_one 25 (by kernel_rfl) rfl (by kernel_rfl) (fun K hK => ?_)
  go_simp
  refine (HV3.out _ (HB.out.chain HX3.out)).mono ?_
  rintro e w4 ⟨rfl, hb⟩
  have HX4 := Lib.hid (HX3.out.chain hb)
  clear hb
  have g4 := HS2.out _ HX4.out
  refine hK _ _ g4 ?_
  clear hK K g3
  refine anyH_take 26 (some 52) (v := .bool false) g4 rfl rfl (by kernel_rfl) (by kernel_rfl) (by kernel_rfl) (fun _ _ _ h => h) (by kernel_rfl) ?v26 ?_
  case v26 =>
    intro Wx hSx
    go_simp
  try simp only [Act.put, List.setIfInBounds_toArray, List.set_cons_zero, List.set_cons_succ]
  refine anyH_take 27 (some 53) (v := .bool false) g4 rfl rfl (by kernel_rfl) (by kernel_rfl) (by kernel_rfl) (fun _ _ _ h => h) (by kernel_rfl) ?v27 ?_
  case v27 =>
    intro Wx hSx
    go_simp
  try simp only [Act.put, List.setIfInBounds_toArray, List.set_cons_zero, List.set_cons_succ]
  refine anyH_skip 28 (some 54) g4 rfl rfl (by kernel_rfl) (by kernel_rfl) (by kernel_rfl) (fun _ _ _ h => h) (by kernel_rfl) ?_
  try simp only [Act.put, List.setIfInBounds_toArray, List.set_cons_zero, List.set_cons_succ]
  refine anyH_skip 29 (some 55) g4 rfl rfl (by kernel_rfl) (by kernel_rfl) (by kernel_rfl) (fun _ _ _ h => h) (by kernel_rfl) ?_
  try simp only [Act.put, List.setIfInBounds_toArray, List.set_cons_zero, List.set_cons_succ]
  refine anyH_skip 30 (some 56) g4 rfl rfl (by kernel_rfl) (by kernel_rfl) (by kernel_rfl) (fun _ _ _ h => h) (by kernel_rfl) ?_
  try simp only [Act.put, List.setIfInBounds_toArray, List.set_cons_zero, List.set_cons_succ]
  refine anyH_skip 31 (some 57) g4 rfl rfl (by kernel_rfl) (by kernel_rfl) (by kernel_rfl) (fun _ _ _ h => h) (by kernel_rfl) ?_
  try simp only [Act.put, List.setIfInBounds_toArray, List.set_cons_zero, List.set_cons_succ]
  refine anyH_skip 32 (some 58) g4 rfl rfl (by kernel_rfl) (by kernel_rfl) (by kernel_rfl) (fun _ _ _ h => h) (by kernel_rfl) ?_
  try simp only [Act.put, List.setIfInBounds_toArray, List.set_cons_zero, List.set_cons_succ]
  refine anyH_skip 33 (some 59) g4 rfl rfl (by kernel_rfl) (by kernel_rfl) (by kernel_rfl) (fun _ _ _ h => h) (by kernel_rfl) ?_
  try simp only [Act.put, List.setIfInBounds_toArray, List.set_cons_zero, List.set_cons_succ]
  refine anyH_skip 34 (some 60) g4 rfl rfl (by kernel_rfl) (by kernel_rfl) (by kernel_rfl) (fun _ _ _ h => h) (by kernel_rfl) ?_
  try simp only [Act.put, List.setIfInBounds_toArray, List.set_cons_zero, List.set_cons_succ]
  refine anyH_take 35 (some 61) (v := .bool false) g4 rfl rfl (by kernel_rfl) (by kernel_rfl) (by kernel_rfl) (fun _ _ _ h => h) (by kernel_rfl) ?v35 ?_
  case v35 =>
    intro Wx hSx
    go_simp
  try simp only [Act.put, List.setIfInBounds_toArray, List.set_cons_zero, List.set_cons_succ]
  refine anyH_take 36 (some 62) (v := .bool false) g4 rfl rfl (by kernel_rfl) (by kernel_rfl) (by kernel_rfl) (fun _ _ _ h => h) (by kernel_rfl) ?v36 ?_
  case v36 =>
    intro Wx hSx
    go_simp
  try simp only [Act.put, List.setIfInBounds_toArray, List.set_cons_zero, List.set_cons_succ]
  refine anyH_skip 37 (some 63) g4 rfl rfl (by kernel_rfl) (by kernel_rfl) (by kernel_rfl) (fun _ _ _ h => h) (by kernel_rfl) ?_
  try simp only [Act.put, List.setIfInBounds_toArray, List.set_cons_zero, List.set_cons_succ]
  refine anyH_skip 38 (some 64) g4 rfl rfl (by kernel_rfl) (by kernel_rfl) (by kernel_rfl) (fun _ _ _ h => h) (by kernel_rfl) ?_
  try simp only [Act.put, List.setIfInBounds_toArray, List.set_cons_zero, List.set_cons_succ]
  refine anyH_skip 39 (some 65) g4 rfl rfl (by kernel_rfl) (by kernel_rfl) (by kernel_rfl) (fun _ _ _ h => h) (by kernel_rfl) ?_
  try simp only [Act.put, List.setIfInBounds_toArray, List.set_cons_zero, List.set_cons_succ]
  refine anyH_skip 40 (some 66) g4 rfl rfl (by kernel_rfl) (by kernel_rfl) (by kernel_rfl) (fun _ _ _ h => h) (by kernel_rfl) ?_
  try simp only [Act.put, List.setIfInBounds_toArray, List.set_cons_zero, List.set_cons_succ]
  refine anyH_skip 41 (some 67) g4 rfl rfl (by kernel_rfl) (by kernel_rfl) (by kernel_rfl) (fun _ _ _ h => h) (by kernel_rfl) ?_
  try simp only [Act.put, List.setIfInBounds_toArray, List.set_cons_zero, List.set_cons_succ]
  refine anyH_skip 42 (some 68) g4 rfl rfl (by kernel_rfl) (by kernel_rfl) (by kernel_rfl) (fun _ _ _ h => h) (by kernel_rfl) ?_
  try simp only [Act.put, List.setIfInBounds_toArray, List.set_cons_zero, List.set_cons_succ]
  refine anyH_skip 43 (some 69) g4 rfl rfl (by kernel_rfl) (by kernel_rfl) (by kernel_rfl) (fun _ _ _ h => h) (by kernel_rfl) ?_
  try simp only [Act.put, List.setIfInBounds_toArray, List.set_cons_zero, List.set_cons_succ]
  refine anyH_take 44 (some 70) (v := .bool false) g4 rfl rfl (by kernel_rfl) (by kernel_rfl) (by kernel_rfl) (fun _ _ _ h => h) (by kernel_rfl) ?v44 ?_
  case v44 =>
    intro Wx hSx
    go_simp
  try simp only [Act.put, List.setIfInBounds_toArray, List.set_cons_zero, List.set_cons_succ]
  refine anyH_take 45 (some 71) (v := .bool false) g4 rfl rfl (by kernel_rfl) (by kernel_rfl) (by kernel_rfl) (fun _ _ _ h => h) (by kernel_rfl) ?v45 ?_
  case v45 =>
    intro Wx hSx
    go_simp
  try simp only [Act.put, List.setIfInBounds_toArray, List.set_cons_zero, List.set_cons_succ]
  refine anyH_skip 46 (some 72) g4 rfl rfl (by kernel_rfl) (by kernel_rfl) (by kernel_rfl) (fun _ _ _ h => h) (by kernel_rfl) ?_
  try simp only [Act.put, List.setIfInBounds_toArray, List.set_cons_zero, List.set_cons_succ]
  refine anyH_skip 47 (some 73) g4 rfl rfl (by kernel_rfl) (by kernel_rfl) (by kernel_rfl) (fun _ _ _ h => h) (by kernel_rfl) ?_
  try simp only [Act.put, List.setIfInBounds_toArray, List.set_cons_zero, List.set_cons_succ]
  refine anyH_skip 48 (some 74) g4 rfl rfl (by kernel_rfl) (by kernel_rfl) (by kernel_rfl) (fun _ _ _ h => h) (by kernel_rfl) ?_
  try simp only [Act.put, List.setIfInBounds_toArray, List.set_cons_zero, List.set_cons_succ]
  refine anyH_skip 49 (some 75) g4 rfl rfl (by kernel_rfl) (by kernel_rfl) (by kernel_rfl) (fun _ _ _ h => h) (by kernel_rfl) ?_
  try simp only [Act.put, List.setIfInBounds_toArray, List.set_cons_zero, List.set_cons_succ]
  refine anyH_skip 50 (some 76) g4 rfl rfl (by kernel_rfl) (by kernel_rfl) (by kernel_rfl) (fun _ _ _ h => h) (by kernel_rfl) ?_
  try simp only [Act.put, List.setIfInBounds_toArray, List.set_cons_zero, List.set_cons_succ]
  refine anyH_skip 51 (some 77) g4 rfl rfl (by kernel_rfl) (by kernel_rfl) (by kernel_rfl) (fun _ _ _ h => h) (by kernel_rfl) ?_
  try simp only [Act.put, List.setIfInBounds_toArray, List.set_cons_zero, List.set_cons_succ]
  refine anyH_skip 52 (some 78) g4 rfl rfl (by kernel_rfl) (by kernel_rfl) (by kernel_rfl) (fun _ _ _ h => h) (by kernel_rfl) ?_
  try simp only [Act.put, List.setIfInBounds_toArray, List.set_cons_zero, List.set_cons_succ]
  refine anyH_take 53 (some 79) (v := .bool false) g4 rfl rfl (by kernel_rfl) (by kernel_rfl) (by kernel_rfl) (fun _ _ _ h => h) (by kernel_rfl) ?v53 ?_
  case v53 =>
    intro Wx hSx
    go_simp
  try simp only [Act.put, List.setIfInBounds_toArray, List.set_cons_zero, List.set_cons_succ]
  refine anyH_take 54 (some 80) (v := .bool false) g4 rfl rfl (by kernel_rfl) (by kernel_rfl) (by kernel_rfl) (fun _ _ _ h => h) (by kernel_rfl) ?v54 ?_
  case v54 =>
    intro Wx hSx
    go_simp
  try simp only [Act.put, List.setIfInBounds_toArray, List.set_cons_zero, List.set_cons_succ]
  refine anyH_skip 55 (some 81) g4 rfl rfl (by kernel_rfl) (by kernel_rfl) (by kernel_rfl) (fun _ _ _ h => h) (by kernel_rfl) ?_
  try simp only [Act.put, List.setIfInBounds_toArray, List.set_cons_zero, List.set_cons_succ]
  refine anyH_skip 56 (some 82) g4 rfl rfl (by kernel_rfl) (by kernel_rfl) (by kernel_rfl) (fun _ _ _ h => h) (by kernel_rfl) ?_
  try simp only [Act.put, List.setIfInBounds_toArray, List.set_cons_zero, List.set_cons_succ]
  refine anyH_skip 57 (some 83) g4 rfl rfl (by kernel_rfl) (by kernel_rfl) (by kernel_rfl) (fun _ _ _ h => h) (by kernel_rfl) ?_
  try simp only [Act.put, List.setIfInBounds_toArray, List.set_cons_zero, List.set_cons_succ]
  refine anyH_skip 58 (some 84) g4 rfl rfl (by kernel_rfl) (by kernel_rfl) (by kernel_rfl) (fun _ _ _ h => h) (by kernel_rfl) ?_
  try simp only [Act.put, List.setIfInBounds_toArray, List.set_cons_zero, List.set_cons_succ]
  refine anyH_skip 59 (some 85) g4 rfl rfl (by kernel_rfl) (by kernel_rfl) (by kernel_rfl) (fun _ _ _ h => h) (by kernel_rfl) ?_
  try simp only [Act.put, List.setIfInBounds_toArray, List.set_cons_zero, List.set_cons_succ]
  refine anyH_skip 60 (some 86) g4 rfl rfl (by kernel_rfl) (by kernel_rfl) (by kernel_rfl) (fun _ _ _ h => h) (by kernel_rfl) ?_
  try simp only [Act.put, List.setIfInBounds_toArray, List.set_cons_zero, List.set_cons_succ]
  refine anyH_skip 61 (some 87) g4 rfl rfl (by kernel_rfl) (by kernel_rfl) (by kernel_rfl) (fun _ _ _ h => h) (by kernel_rfl) ?_
  try simp only [Act.put, List.setIfInBounds_toArray, List.set_cons_zero, List.set_cons_succ]
  refine anyH_take 62 (some 88) (v := .bool false) g4 rfl rfl (by kernel_rfl) (by kernel_rfl) (by kernel_rfl) (fun _ _ _ h => h) (by kernel_rfl) ?v62 ?_
  case v62 =>
    intro Wx hSx
    go_simp
  try simp only [Act.put, List.setIfInBounds_toArray, List.set_cons_zero, List.set_cons_succ]
  refine anyH_take 63 (some 6) (v := .bool false) g4 rfl rfl (by kernel_rfl) (by kernel_rfl) (by kernel_rfl) (fun _ _ _ h => h) (by kernel_rfl) ?v63 ?_
  case v63 =>
    intro Wx hSx
    go_simp
  try simp only [Act.put, List.setIfInBounds_toArray, List.set_cons_zero, List.set_cons_succ]
  refine wpAnyH_done (by kernel_rfl) ?_ _
  go_wp2
  go_ret
  exact ⟨rfl, HB.out.chain HX4.out⟩

set_option maxRecDepth 100000 in
set_option maxHeartbeats 20000000 in
theorem stmt_c4 (fv : Nat) (nu ex : Int) (k ln co ek en ck ak an bk bn : Int) (es sa sb : List UInt8) (ve va vb vl vc vi vs vt : Value) (cs : Array Value) (h24 : cs.size = 24) (k0 : cs[0]? = some (.int .i64 k)) (k1 : cs[1]? = some (.int .i64 ln)) (k2 : cs[2]? = some (.int .i64 co)) (k6 : cs[6]? = some (.int .i64 ek)) (k7 : cs[7]? = some (.int .i64 en)) (k8 : cs[8]? = some (.string ⟨es.toArray⟩)) (k9 : cs[9]? = some ve) (k10 : cs[10]? = some (.int .i64 ck)) (k11 : cs[11]? = some (.int .i64 ak)) (k12 : cs[12]? = some (.int .i64 an)) (k13 : cs[13]? = some (.string ⟨sa.toArray⟩)) (k14 : cs[14]? = some va) (k15 : cs[15]? = some (.int .i64 bk)) (k16 : cs[16]? = some (.int .i64 bn)) (k17 : cs[17]? = some (.string ⟨sb.toArray⟩)) (k18 : cs[18]? = some vb) (k19 : cs[19]? = some vl) (k20 : cs[20]? = some vc) (k21 : cs[21]? = some vi) (k22 : cs[22]? = some vs) (k23 : cs[23]? = some vt) (kn : Nat) (hk : k = kn) (hk1 : 1 ≤ kn) (hk2 : kn ≤ 12) (p dp : Int) (w : World) (hp : w.cell? ⟨0, kn, none⟩ = some (.int .i64 p))
    (hv0 : ∀ W, Below w.heap.size w W → Calls Tryz.prog 119 #[posV ln co] W fun e w' => e = .returned (.bool true) ∧ Below W.heap.size W w')
    (hv1 : ∀ W, Below w.heap.size w W → Calls Tryz.prog 120 #[rulesV fv nu ex, .agg cs, .int .i64 p] W fun e w' => e = .returned (.bool true) ∧ Below W.heap.size W w')
    (hv2 : ∀ W, Below w.heap.size w W → Calls Tryz.prog 121 #[.bool (hasB p 32), exprV ek en ⟨es.toArray⟩ ve, .func (.func 27) #[rulesV fv nu ex] #[], .func (.func 91) #[] #[]] W fun e w' => e = .returned (.bool true) ∧ Below W.heap.size W w')
    (hv3 : ∀ W, Below w.heap.size w W → Calls Tryz.prog 123 #[.bool (hasB p 64), condV2 ck ak an ⟨sa.toArray⟩ va bk bn ⟨sb.toArray⟩ vb vl, .func (.func 28) #[rulesV fv nu ex] #[], .func (.func 124) #[] #[]] W fun e w' => e = .returned (.bool true) ∧ Below W.heap.size W w')
    (hv4 : ∀ W, Below w.heap.size w W → Calls Tryz.prog 125 #[vc, .int .i64 (mostB p 128 1 + mostB p 256 1), .int .i64 (mostB p 128 1 + mostB p 256 1), .func (.func 126) #[rulesV fv nu ex] #[]] W fun e w' => e = .returned (.bool false) ∧ Below W.heap.size W w') :
    Calls Tryz.prog 77 #[rulesV fv nu ex, .agg cs, .int .i64 dp] w fun e w' => e = .returned (.bool false) ∧ Below w.heap.size w w' := by
  have HV0 := Lib.hid hv0
  have HV1 := Lib.hid hv1
  have HV2 := Lib.hid hv2
  have HV3 := Lib.hid hv3
  have HV4 := Lib.hid hv4
  have HM1 := Lib.hid (most_any p 128 1)
  have HM2 := Lib.hid (most_any p 256 1)
  have hm1 := most_01 p 128
  have hm2 := most_01 p 256
  generalize mostB p 128 1 = m1 at *
  generalize mostB p 256 1 = m2 at *
  have HH2 := Lib.hid (phas_any p 32)
  generalize hasB p 32 = a2 at *
  have HH3 := Lib.hid (phas_any p 64)
  generalize hasB p 64 = a3 at *
  subst hk
  obtain ⟨T, N, hT, hN, hag, hsz⟩ := stmt_hidden
  have e1 : ∀ y : Operand, Op.load 44 y = Op.load T y := fun y => by rw [hT]
  have e4 : ∀ y : Operand, Op.box 44 y = Op.box T y := fun y => by rw [hT]
  obtain ⟨W1, hW1⟩ : ∃ W1, W1 = (w.alloc (rulesC fv nu ex)).alloc (.cells cs T) := ⟨_, rfl⟩
  have HB : Hid (Below w.heap.size w W1) := Lib.hid (by rw [hW1]; exact (below_alloc w _).chain (below_alloc _ _))
  have q1 := heap_keep (o := .cells cs T) (heap_of_alloc w (rulesC fv nu ex))
  have q2 := heap_of_alloc (w.alloc (rulesC fv nu ex)) (.cells cs T)
  rw [size_of_alloc] at q2
  rw [← hW1] at q1 q2
  have hszc : cs.size = N := h24.trans hN.symm
  obtain ⟨S, hS⟩ : ∃ S : World → Prop, S = fun W => Below W1.heap.size W1 W := ⟨_, rfl⟩
  have HS2 : Hid (∀ W, Below W1.heap.size W1 W → S W) := Lib.hid (fun W hb => by rw [hS]; exact hb)
  have HX0 := Lib.hid (Below.refl W1.heap.size W1).drew
  have hmx : Tryz.prog.follows .mixedOrders = true := by kernel_rfl
  have HSo : Hid (∀ W, S W → (W.cell? ⟨w.heap.size, 0, none⟩ = some (.func (.func fv) #[] #[]) ∧ W.cell? ⟨w.heap.size, 1, none⟩ = some (.int .i64 nu) ∧ W.cell? ⟨w.heap.size, 2, none⟩ = some (.int .i64 ex)) ∧ (W.cell? ⟨w.heap.size + 1, 1, none⟩ = some (.int .i64 ln) ∧ W.cell? ⟨w.heap.size + 1, 2, none⟩ = some (.int .i64 co)) ∧ (W.cell? ⟨w.heap.size + 1, 6, none⟩ = some (.int .i64 ek) ∧ W.cell? ⟨w.heap.size + 1, 7, none⟩ = some (.int .i64 en) ∧ W.cell? ⟨w.heap.size + 1, 8, none⟩ = some (.string ⟨es.toArray⟩) ∧ W.cell? ⟨w.heap.size + 1, 9, none⟩ = some ve) ∧ (W.cell? ⟨w.heap.size + 1, 10, none⟩ = some (.int .i64 ck) ∧ W.cell? ⟨w.heap.size + 1, 11, none⟩ = some (.int .i64 ak) ∧ W.cell? ⟨w.heap.size + 1, 12, none⟩ = some (.int .i64 an) ∧ W.cell? ⟨w.heap.size + 1, 13, none⟩ = some (.string ⟨sa.toArray⟩) ∧ W.cell? ⟨w.heap.size + 1, 14, none⟩ = some va ∧ W.cell? ⟨w.heap.size + 1, 15, none⟩ = some (.int .i64 bk) ∧ W.cell? ⟨w.heap.size + 1, 16, none⟩ = some (.int .i64 bn) ∧ W.cell? ⟨w.heap.size + 1, 17, none⟩ = some (.string ⟨sb.toArray⟩) ∧ W.cell? ⟨w.heap.size + 1, 18, none⟩ = some vb ∧ W.cell? ⟨w.heap.size + 1, 19, none⟩ = some vl) ∧ W.cell? ⟨w.heap.size + 1, 20, none⟩ = some vc ∧ W.cell? ⟨w.heap.size + 1, 21, none⟩ = some vi ∧ W.cell? ⟨w.heap.size + 1, 22, none⟩ = some vs ∧ W.cell? ⟨w.heap.size + 1, 23, none⟩ = some vt ∧ (loadCellsFrom ⟨w.heap.size + 1, 0, none⟩ 0 N #[]).run Tryz.prog W = .ok cs W) := Lib.hid (fun W hs => by
    rw [hS] at hs
    have g2 := kept_box hs q2
    exact ⟨box3 (kept_box hs q1), ⟨cell_of_block g2 1 k1, cell_of_block g2 2 k2⟩, ⟨cell_of_block g2 6 k6, cell_of_block g2 7 k7, cell_of_block g2 8 k8, cell_of_block g2 9 k9⟩, ⟨cell_of_block g2 10 k10, cell_of_block g2 11 k11, cell_of_block g2 12 k12, cell_of_block g2 13 k13, cell_of_block g2 14 k14, cell_of_block g2 15 k15, cell_of_block g2 16 k16, cell_of_block g2 17 k17, cell_of_block g2 18 k18, cell_of_block g2 19 k19⟩, cell_of_block g2 20 k20, cell_of_block g2 21 k21, cell_of_block g2 22 k22, cell_of_block g2 23 k23, load_list (fun j v hv => by rw [add_block0]; exact cell_of_block g2 j hv) hszc⟩)
  have c0 := cell_of_block q2 0 k0
  have hpW := (HB.out.cell (p := ⟨0, kn, none⟩) (cell_lt2S hp)).trans hp
  rw [hW1] at c0 hpW
  clear hv0 hv1 hv2 hv3 hv4 hN q1 q2 hS h24 hp k0 k1 k2 k6 k7 k8 k9 k10 k11 k12 k13 k14 k15 k16 k17 k18 k19 k20 k21 k22 k23
  go_enter Tryz.func77, Tryz.ntmps77
  simp only [e1, e4]
  clear e1 e4 hT
  go_wp2_with (first
    | (go_at_call 118; rw [← hW1]; clear hW1; with_reducible refine (HM1.out _).mono ?_; rintro e w2 ⟨rfl, rfl⟩)
    | (go_at_call 118; with_reducible refine (HM2.out _).mono ?_; rintro e w2 ⟨rfl, rfl⟩))
  refine wp_region_held (S := S) hmx ?_
  change wpAnyH _ _ _ _ _ 64 #[false, false, false, false, false, false, false, false, false, false, false, false, false, false, false, false, false, false, false, false, false, false, false, false, false, false, false, false, false, false, false, false, false, false, false, false, false, false, false, false, false, false, false, false, false, false, false, false, false, false, false, false, false, false, false, false, false, false, false, false, false, false, false, false] _ W1.drew
  have g0 := HS2.out _ HX0.out
  refine anyH_take 0 (some 26) (v := .pointer (some ⟨w.heap.size + 1, 1, none⟩)) g0 rfl rfl (by kernel_rfl) (by kernel_rfl) (by kernel_rfl) (fun _ _ _ h => h) (by kernel_rfl) ?v0 ?_
  case v0 =>
    intro Wx hSx
    go_simp
  try simp only [Act.put, List.setIfInBounds_toArray, List.set_cons_zero, List.set_cons_succ]
  refine anyH_take 1 (some 27) (v := posV ln co) g0 rfl rfl (by kernel_rfl) (by kernel_rfl) (by kernel_rfl) (fun _ _ _ h => h) (by kernel_rfl) ?v1 ?_
  case v1 =>
    intro Wx hSx
    obtain ⟨q0, q1⟩ := (HSo.out Wx hSx).2.1
    go_simp
  try simp only [Act.put, List.setIfInBounds_toArray, List.set_cons_zero, List.set_cons_succ]
  refine anyH_one 2 (by kernel_rfl) rfl (by kernel_rfl) (fun K hK => ?_)
  go_simp
  refine (HV0.out _ (HB.out.chain HX0.out)).mono ?_
  rintro e w1 ⟨rfl, hb⟩
  have HX1 := Lib.hid (HX0.out.chain hb)
  clear hb
  have g1 := HS2.out _ HX1.out
  refine hK _ _ g1 ?_
  clear hK K g0
  refine anyH_take 3 (some 29) (v := .bool true) g1 rfl rfl (by kernel_rfl) (by kernel_rfl) (by kernel_rfl) (fun _ _ _ h => h) (by kernel_rfl) ?v3 ?_
  case v3 =>
    intro Wx hSx
    go_simp
  try simp only [Act.put, List.setIfInBounds_toArray, List.set_cons_zero, List.set_cons_succ]
  refine anyH_take 4 (some 30) (v := rulesV fv nu ex) g1 rfl rfl (by kernel_rfl) (by kernel_rfl) (by kernel_rfl) (fun _ _ _ h => h) (by kernel_rfl) ?v4 ?_
  case v4 =>
    intro Wx hSx
    obtain ⟨r0, r1, r2⟩ := (HSo.out Wx hSx).1
    go_simp
  try simp only [Act.put, List.setIfInBounds_toArray, List.set_cons_zero, List.set_cons_succ]
  refine anyH_take 5 (some 31) (v := .agg cs) g1 rfl rfl (by kernel_rfl) (by kernel_rfl) (by kernel_rfl) (fun _ _ _ h => h) (by kernel_rfl) ?v5 ?_
  case v5 =>
    intro Wx hSx
    have q0 := (HSo.out Wx hSx).2.2.2.2.2.2.2.2
    go_simp
  try simp only [Act.put, List.setIfInBounds_toArray, List.set_cons_zero, List.set_cons_succ]
  refine anyH_take 6 (some 32) (v := .int .i64 p) g1 rfl rfl (by kernel_rfl) (by kernel_rfl) (by kernel_rfl) (fun _ _ _ h => h) (by kernel_rfl) ?v6 ?_
  case v6 =>
    intro Wx hSx
    go_simp
  try simp only [Act.put, List.setIfInBounds_toArray, List.set_cons_zero, List.set_cons_succ]
  refine anyH_one 7 (by kernel_rfl) rfl (by kernel_rfl) (fun K hK => ?_)
  go_simp
  refine (HV1.out _ (HB.out.chain HX1.out)).mono ?_
  rintro e w2 ⟨rfl, hb⟩
  have HX2 := Lib.hid (HX1.out.chain hb)
  clear hb
  have g2 := HS2.out _ HX2.out
  refine hK _ _ g2 ?_
  clear hK K g1
  refine anyH_take 8 (some 34) (v := .bool true) g2 rfl rfl (by kernel_rfl) (by kernel_rfl) (by kernel_rfl) (fun _ _ _ h => h) (by kernel_rfl) ?v8 ?_
  case v8 =>
    intro Wx hSx
    go_simp
  try simp only [Act.put, List.setIfInBounds_toArray, List.set_cons_zero, List.set_cons_succ]
  refine anyH_take 9 (some 35) (v := .bool true) g2 rfl rfl (by kernel_rfl) (by kernel_rfl) (by kernel_rfl) (fun _ _ _ h => h) (by kernel_rfl) ?v9 ?_
  case v9 =>
    intro Wx hSx
    go_simp
  try simp only [Act.put, List.setIfInBounds_toArray, List.set_cons_zero, List.set_cons_succ]
  refine anyH_take 10 (some 36) (v := .int .i64 p) g2 rfl rfl (by kernel_rfl) (by kernel_rfl) (by kernel_rfl) (fun _ _ _ h => h) (by kernel_rfl) ?v10 ?_
  case v10 =>
    intro Wx hSx
    go_simp
  try simp only [Act.put, List.setIfInBounds_toArray, List.set_cons_zero, List.set_cons_succ]
  refine anyH_take 12 (some 38) (v := .pointer (some ⟨w.heap.size + 1, 6, none⟩)) g2 rfl rfl (by kernel_rfl) (by kernel_rfl) (by kernel_rfl) (fun _ _ _ h => h) (by kernel_rfl) ?v12 ?_
  case v12 =>
    intro Wx hSx
    go_simp
  try simp only [Act.put, List.setIfInBounds_toArray, List.set_cons_zero, List.set_cons_succ]
  refine anyH_take 13 (some 39) (v := exprV ek en ⟨es.toArray⟩ ve) g2 rfl rfl (by kernel_rfl) (by kernel_rfl) (by kernel_rfl) (fun _ _ _ h => h) (by kernel_rfl) ?v13 ?_
  case v13 =>
    intro Wx hSx
    obtain ⟨q0, q1, q2, q3⟩ := (HSo.out Wx hSx).2.2.1
    go_simp
  try simp only [Act.put, List.setIfInBounds_toArray, List.set_cons_zero, List.set_cons_succ]
  refine anyH_take 14 (some 40) (v := rulesV fv nu ex) g2 rfl rfl (by kernel_rfl) (by kernel_rfl) (by kernel_rfl) (fun _ _ _ h => h) (by kernel_rfl) ?v14 ?_
  case v14 =>
    intro Wx hSx
    obtain ⟨r0, r1, r2⟩ := (HSo.out Wx hSx).1
    go_simp
  try simp only [Act.put, List.setIfInBounds_toArray, List.set_cons_zero, List.set_cons_succ]
  refine anyH_take 15 (some 41) (v := .func (.func 27) #[rulesV fv nu ex] #[]) g2 rfl rfl (by kernel_rfl) (by kernel_rfl) (by kernel_rfl) (fun _ _ _ h => h) (by kernel_rfl) ?v15 ?_
  case v15 =>
    intro Wx hSx
    go_simp
  try simp only [Act.put, List.setIfInBounds_toArray, List.set_cons_zero, List.set_cons_succ]
  refine anyH_one 11 (by kernel_rfl) rfl (by kernel_rfl) (fun K hK => ?_)
  go_simp
  refine (HH2.out _).mono ?_
  rintro e wz ⟨rfl, rfl⟩
  refine hK _ _ g2 ?_
  clear hK K
  refine anyH_one 16 (by kernel_rfl) rfl (by kernel_rfl) (fun K hK => ?_)
  go_simp
  refine (HV2.out _ (HB.out.chain HX2.out)).mono ?_
  rintro e w3 ⟨rfl, hb⟩
  have HX3 := Lib.hid (HX2.out.chain hb)
  clear hb
  have g3 := HS2.out _ HX3.out
  refine hK _ _ g3 ?_
  clear hK K g2
  refine anyH_take 17 (some 43) (v := .bool true) g3 rfl rfl (by kernel_rfl) (by kernel_rfl) (by kernel_rfl) (fun _ _ _ h => h) (by kernel_rfl) ?v17 ?_
  case v17 =>
    intro Wx hSx
    go_simp
  try simp only [Act.put, List.setIfInBounds_toArray, List.set_cons_zero, List.set_cons_succ]
  refine anyH_take 18 (some 44) (v := .bool true) g3 rfl rfl (by kernel_rfl) (by kernel_rfl) (by kernel_rfl) (fun _ _ _ h => h) (by kernel_rfl) ?v18 ?_
  case v18 =>
    intro Wx hSx
    go_simp
  try simp only [Act.put, List.setIfInBounds_toArray, List.set_cons_zero, List.set_cons_succ]
  refine anyH_take 19 (some 45) (v := .int .i64 p) g3 rfl rfl (by kernel_rfl) (by kernel_rfl) (by kernel_rfl) (fun _ _ _ h => h) (by kernel_rfl) ?v19 ?_
  case v19 =>
    intro Wx hSx
    go_simp
  try simp only [Act.put, List.setIfInBounds_toArray, List.set_cons_zero, List.set_cons_succ]
  refine anyH_take 21 (some 47) (v := .pointer (some ⟨w.heap.size + 1, 10, none⟩)) g3 rfl rfl (by kernel_rfl) (by kernel_rfl) (by kernel_rfl) (fun _ _ _ h => h) (by kernel_rfl) ?v21 ?_
  case v21 =>
    intro Wx hSx
    go_simp
  try simp only [Act.put, List.setIfInBounds_toArray, List.set_cons_zero, List.set_cons_succ]
  refine anyH_take 22 (some 48) (v := condV2 ck ak an ⟨sa.toArray⟩ va bk bn ⟨sb.toArray⟩ vb vl) g3 rfl rfl (by kernel_rfl) (by kernel_rfl) (by kernel_rfl) (fun _ _ _ h => h) (by kernel_rfl) ?v22 ?_
  case v22 =>
    intro Wx hSx
    obtain ⟨q0, q1, q2, q3, q4, q5, q6, q7, q8, q9⟩ := (HSo.out Wx hSx).2.2.2.1
    go_simp
  try simp only [Act.put, List.setIfInBounds_toArray, List.set_cons_zero, List.set_cons_succ]
  refine anyH_take 23 (some 49) (v := rulesV fv nu ex) g3 rfl rfl (by kernel_rfl) (by kernel_rfl) (by kernel_rfl) (fun _ _ _ h => h) (by kernel_rfl) ?v23 ?_
  case v23 =>
    intro Wx hSx
    obtain ⟨r0, r1, r2⟩ := (HSo.out Wx hSx).1
    go_simp
  try simp only [Act.put, List.setIfInBounds_toArray, List.set_cons_zero, List.set_cons_succ]
  refine anyH_take 24 (some 50) (v := .func (.func 28) #[rulesV fv nu ex] #[]) g3 rfl rfl (by kernel_rfl) (by kernel_rfl) (by kernel_rfl) (fun _ _ _ h => h) (by kernel_rfl) ?v24 ?_
  case v24 =>
    intro Wx hSx
    go_simp
  try simp only [Act.put, List.setIfInBounds_toArray, List.set_cons_zero, List.set_cons_succ]
  refine anyH_one 20 (by kernel_rfl) rfl (by kernel_rfl) (fun K hK => ?_)
  go_simp
  refine (HH3.out _).mono ?_
  rintro e wz ⟨rfl, rfl⟩
  refine hK _ _ g3 ?_
  clear hK K
  refine anyH_one 25 (by kernel_rfl) rfl (by kernel_rfl) (fun K hK => ?_)
  go_simp
  refine (HV3.out _ (HB.out.chain HX3.out)).mono ?_
  rintro e w4 ⟨rfl, hb⟩
  have HX4 := Lib.hid (HX3.out.chain hb)
  clear hb
  have g4 := HS2.out _ HX4.out
  refine hK _ _ g4 ?_
  clear hK K g3
  refine anyH_take 26 (some 52) (v := .bool true) g4 rfl rfl (by kernel_rfl) (by kernel_rfl) (by kernel_rfl) (fun _ _ _ h => h) (by kernel_rfl) ?v26 ?_
  case v26 =>
    intro Wx hSx
    go_simp
  try simp only [Act.put, List.setIfInBounds_toArray, List.set_cons_zero, List.set_cons_succ]
  refine anyH_take 27 (some 53) (v := .bool true) g4 rfl rfl (by kernel_rfl) (by kernel_rfl) (by kernel_rfl) (fun _ _ _ h => h) (by kernel_rfl) ?v27 ?_
  case v27 =>
    intro Wx hSx
    go_simp
  try simp only [Act.put, List.setIfInBounds_toArray, List.set_cons_zero, List.set_cons_succ]
  refine anyH_take 28 (some 54) (v := .pointer (some ⟨w.heap.size + 1, 20, none⟩)) g4 rfl rfl (by kernel_rfl) (by kernel_rfl) (by kernel_rfl) (fun _ _ _ h => h) (by kernel_rfl) ?v28 ?_
  case v28 =>
    intro Wx hSx
    go_simp
  try simp only [Act.put, List.setIfInBounds_toArray, List.set_cons_zero, List.set_cons_succ]
  refine anyH_take 29 (some 55) (v := vc) g4 rfl rfl (by kernel_rfl) (by kernel_rfl) (by kernel_rfl) (fun _ _ _ h => h) (by kernel_rfl) ?v29 ?_
  case v29 =>
    intro Wx hSx
    have q0 := (HSo.out Wx hSx).2.2.2.2.1
    go_simp
  try simp only [Act.put, List.setIfInBounds_toArray, List.set_cons_zero, List.set_cons_succ]
  refine anyH_take 30 (some 56) (v := .int .i64 (m1 + m2)) g4 rfl rfl (by kernel_rfl) (by kernel_rfl) (by kernel_rfl) (fun _ _ _ h => h) (by kernel_rfl) ?v30 ?_
  case v30 =>
    intro Wx hSx
    go_simp
  try simp only [Act.put, List.setIfInBounds_toArray, List.set_cons_zero, List.set_cons_succ]
  refine anyH_take 31 (some 57) (v := .int .i64 (m1 + m2)) g4 rfl rfl (by kernel_rfl) (by kernel_rfl) (by kernel_rfl) (fun _ _ _ h => h) (by kernel_rfl) ?v31 ?_
  case v31 =>
    intro Wx hSx
    go_simp
  try simp only [Act.put, List.setIfInBounds_toArray, List.set_cons_zero, List.set_cons_succ]
  refine anyH_take 32 (some 58) (v := rulesV fv nu ex) g4 rfl rfl (by kernel_rfl) (by kernel_rfl) (by kernel_rfl) (fun _ _ _ h => h) (by kernel_rfl) ?v32 ?_
  case v32 =>
    intro Wx hSx
    obtain ⟨r0, r1, r2⟩ := (HSo.out Wx hSx).1
    go_simp
  try simp only [Act.put, List.setIfInBounds_toArray, List.set_cons_zero, List.set_cons_succ]
  refine anyH_take 33 (some 59) (v := .func (.func 126) #[rulesV fv nu ex] #[]) g4 rfl rfl (by kernel_rfl) (by kernel_rfl) (by kernel_rfl) (fun _ _ _ h => h) (by kernel_rfl) ?v33 ?_
  case v33 =>
    intro Wx hSx
    go_simp
  try simp only [Act.put, List.setIfInBounds_toArray, List.set_cons_zero, List.set_cons_succ]
  refine anyH_one 34 (by kernel_rfl) rfl (by kernel_rfl) (fun K hK => ?_)
  go_simp
  refine (HV4.out _ (HB.out.chain HX4.out)).mono ?_
  rintro e w5 ⟨rfl, hb⟩
  have HX5 := Lib.hid (HX4.out.chain hb)
  clear hb
  have g5 := HS2.out _ HX5.out
  refine hK _ _ g5 ?_
  clear hK K g4
  refine anyH_take 35 (some 61) (v := .bool false) g5 rfl rfl (by kernel_rfl) (by kernel_rfl) (by kernel_rfl) (fun _ _ _ h => h) (by kernel_rfl) ?v35 ?_
  case v35 =>
    intro Wx hSx
    go_simp
  try simp only [Act.put, List.setIfInBounds_toArray, List.set_cons_zero, List.set_cons_succ]
  refine anyH_take 36 (some 62) (v := .bool false) g5 rfl rfl (by kernel_rfl) (by kernel_rfl) (by kernel_rfl) (fun _ _ _ h => h) (by kernel_rfl) ?v36 ?_
  case v36 =>
    intro Wx hSx
    go_simp
  try simp only [Act.put, List.setIfInBounds_toArray, List.set_cons_zero, List.set_cons_succ]
  refine anyH_skip 37 (some 63) g5 rfl rfl (by kernel_rfl) (by kernel_rfl) (by kernel_rfl) (fun _ _ _ h => h) (by kernel_rfl) ?_
  try simp only [Act.put, List.setIfInBounds_toArray, List.set_cons_zero, List.set_cons_succ]
  refine anyH_skip 38 (some 64) g5 rfl rfl (by kernel_rfl) (by kernel_rfl) (by kernel_rfl) (fun _ _ _ h => h) (by kernel_rfl) ?_
  try simp only [Act.put, List.setIfInBounds_toArray, List.set_cons_zero, List.set_cons_succ]
  refine anyH_skip 39 (some 65) g5 rfl rfl (by kernel_rfl) (by kernel_rfl) (by kernel_rfl) (fun _ _ _ h => h) (by kernel_rfl) ?_
  try simp only [Act.put, List.setIfInBounds_toArray, List.set_cons_zero, List.set_cons_succ]
  refine anyH_skip 40 (some 66) g5 rfl rfl (by kernel_rfl) (by kernel_rfl) (by kernel_rfl) (fun _ _ _ h => h) (by kernel_rfl) ?_
  try simp only [Act.put, List.setIfInBounds_toArray, List.set_cons_zero, List.set_cons_succ]
  refine anyH_skip 41 (some 67) g5 rfl rfl (by kernel_rfl) (by kernel_rfl) (by kernel_rfl) (fun _ _ _ h => h) (by kernel_rfl) ?_
  try simp only [Act.put, List.setIfInBounds_toArray, List.set_cons_zero, List.set_cons_succ]
  refine anyH_skip 42 (some 68) g5 rfl rfl (by kernel_rfl) (by kernel_rfl) (by kernel_rfl) (fun _ _ _ h => h) (by kernel_rfl) ?_
  try simp only [Act.put, List.setIfInBounds_toArray, List.set_cons_zero, List.set_cons_succ]
  refine anyH_skip 43 (some 69) g5 rfl rfl (by kernel_rfl) (by kernel_rfl) (by kernel_rfl) (fun _ _ _ h => h) (by kernel_rfl) ?_
  try simp only [Act.put, List.setIfInBounds_toArray, List.set_cons_zero, List.set_cons_succ]
  refine anyH_take 44 (some 70) (v := .bool false) g5 rfl rfl (by kernel_rfl) (by kernel_rfl) (by kernel_rfl) (fun _ _ _ h => h) (by kernel_rfl) ?v44 ?_
  case v44 =>
    intro Wx hSx
    go_simp
  try simp only [Act.put, List.setIfInBounds_toArray, List.set_cons_zero, List.set_cons_succ]
  refine anyH_take 45 (some 71) (v := .bool false) g5 rfl rfl (by kernel_rfl) (by kernel_rfl) (by kernel_rfl) (fun _ _ _ h => h) (by kernel_rfl) ?v45 ?_
  case v45 =>
    intro Wx hSx
    go_simp
  try simp only [Act.put, List.setIfInBounds_toArray, List.set_cons_zero, List.set_cons_succ]
  refine anyH_skip 46 (some 72) g5 rfl rfl (by kernel_rfl) (by kernel_rfl) (by kernel_rfl) (fun _ _ _ h => h) (by kernel_rfl) ?_
  try simp only [Act.put, List.setIfInBounds_toArray, List.set_cons_zero, List.set_cons_succ]
  refine anyH_skip 47 (some 73) g5 rfl rfl (by kernel_rfl) (by kernel_rfl) (by kernel_rfl) (fun _ _ _ h => h) (by kernel_rfl) ?_
  try simp only [Act.put, List.setIfInBounds_toArray, List.set_cons_zero, List.set_cons_succ]
  refine anyH_skip 48 (some 74) g5 rfl rfl (by kernel_rfl) (by kernel_rfl) (by kernel_rfl) (fun _ _ _ h => h) (by kernel_rfl) ?_
  try simp only [Act.put, List.setIfInBounds_toArray, List.set_cons_zero, List.set_cons_succ]
  refine anyH_skip 49 (some 75) g5 rfl rfl (by kernel_rfl) (by kernel_rfl) (by kernel_rfl) (fun _ _ _ h => h) (by kernel_rfl) ?_
  try simp only [Act.put, List.setIfInBounds_toArray, List.set_cons_zero, List.set_cons_succ]
  refine anyH_skip 50 (some 76) g5 rfl rfl (by kernel_rfl) (by kernel_rfl) (by kernel_rfl) (fun _ _ _ h => h) (by kernel_rfl) ?_
  try simp only [Act.put, List.setIfInBounds_toArray, List.set_cons_zero, List.set_cons_succ]
  refine anyH_skip 51 (some 77) g5 rfl rfl (by kernel_rfl) (by kernel_rfl) (by kernel_rfl) (fun _ _ _ h => h) (by kernel_rfl) ?_
  try simp only [Act.put, List.setIfInBounds_toArray, List.set_cons_zero, List.set_cons_succ]
  refine anyH_skip 52 (some 78) g5 rfl rfl (by kernel_rfl) (by kernel_rfl) (by kernel_rfl) (fun _ _ _ h => h) (by kernel_rfl) ?_
  try simp only [Act.put, List.setIfInBounds_toArray, List.set_cons_zero, List.set_cons_succ]
  refine anyH_take 53 (some 79) (v := .bool false) g5 rfl rfl (by kernel_rfl) (by kernel_rfl) (by kernel_rfl) (fun _ _ _ h => h) (by kernel_rfl) ?v53 ?_
  case v53 =>
    intro Wx hSx
    go_simp
  try simp only [Act.put, List.setIfInBounds_toArray, List.set_cons_zero, List.set_cons_succ]
  refine anyH_take 54 (some 80) (v := .bool false) g5 rfl rfl (by kernel_rfl) (by kernel_rfl) (by kernel_rfl) (fun _ _ _ h => h) (by kernel_rfl) ?v54 ?_
  case v54 =>
    intro Wx hSx
    go_simp
  try simp only [Act.put, List.setIfInBounds_toArray, List.set_cons_zero, List.set_cons_succ]
  refine anyH_skip 55 (some 81) g5 rfl rfl (by kernel_rfl) (by kernel_rfl) (by kernel_rfl) (fun _ _ _ h => h) (by kernel_rfl) ?_
  try simp only [Act.put, List.setIfInBounds_toArray, List.set_cons_zero, List.set_cons_succ]
  refine anyH_skip 56 (some 82) g5 rfl rfl (by kernel_rfl) (by kernel_rfl) (by kernel_rfl) (fun _ _ _ h => h) (by kernel_rfl) ?_
  try simp only [Act.put, List.setIfInBounds_toArray, List.set_cons_zero, List.set_cons_succ]
  refine anyH_skip 57 (some 83) g5 rfl rfl (by kernel_rfl) (by kernel_rfl) (by kernel_rfl) (fun _ _ _ h => h) (by kernel_rfl) ?_
  try simp only [Act.put, List.setIfInBounds_toArray, List.set_cons_zero, List.set_cons_succ]
  refine anyH_skip 58 (some 84) g5 rfl rfl (by kernel_rfl) (by kernel_rfl) (by kernel_rfl) (fun _ _ _ h => h) (by kernel_rfl) ?_
  try simp only [Act.put, List.setIfInBounds_toArray, List.set_cons_zero, List.set_cons_succ]
  refine anyH_skip 59 (some 85) g5 rfl rfl (by kernel_rfl) (by kernel_rfl) (by kernel_rfl) (fun _ _ _ h => h) (by kernel_rfl) ?_
  try simp only [Act.put, List.setIfInBounds_toArray, List.set_cons_zero, List.set_cons_succ]
  refine anyH_skip 60 (some 86) g5 rfl rfl (by kernel_rfl) (by kernel_rfl) (by kernel_rfl) (fun _ _ _ h => h) (by kernel_rfl) ?_
  try simp only [Act.put, List.setIfInBounds_toArray, List.set_cons_zero, List.set_cons_succ]
  refine anyH_skip 61 (some 87) g5 rfl rfl (by kernel_rfl) (by kernel_rfl) (by kernel_rfl) (fun _ _ _ h => h) (by kernel_rfl) ?_
  try simp only [Act.put, List.setIfInBounds_toArray, List.set_cons_zero, List.set_cons_succ]
  refine anyH_take 62 (some 88) (v := .bool false) g5 rfl rfl (by kernel_rfl) (by kernel_rfl) (by kernel_rfl) (fun _ _ _ h => h) (by kernel_rfl) ?v62 ?_
  case v62 =>
    intro Wx hSx
    go_simp
  try simp only [Act.put, List.setIfInBounds_toArray, List.set_cons_zero, List.set_cons_succ]
  refine anyH_take 63 (some 6) (v := .bool false) g5 rfl rfl (by kernel_rfl) (by kernel_rfl) (by kernel_rfl) (fun _ _ _ h => h) (by kernel_rfl) ?v63 ?_
  case v63 =>
    intro Wx hSx
    go_simp
  try simp only [Act.put, List.setIfInBounds_toArray, List.set_cons_zero, List.set_cons_succ]
  refine wpAnyH_done (by kernel_rfl) ?_ _
  go_wp2
  go_ret
  exact ⟨rfl, HB.out.chain HX5.out⟩

end Go.Proofs.YtllfkgggolfojaaGreatDoor
