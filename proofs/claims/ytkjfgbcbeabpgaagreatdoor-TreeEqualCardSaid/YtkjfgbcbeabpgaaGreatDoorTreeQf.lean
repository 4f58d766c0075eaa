/-
  Items of programs, and programs, compared part by part.
-/
import Derived.Test.YtkjfgbcbeabpgaaGreatDoorTreeQa
namespace Go.Proofs.YtkjfgbcbeabpgaaGreatDoor
open Go.RowKit

set_option maxRecDepth 100000 in
set_option maxHeartbeats 8000000 in
theorem eqrc_core (cs ds : Array Value) (hcs : cs.size = 2) (hds : ds.size = 2) (x0 y0 : List UInt8) (x1 y1 : Value)
    (kx0 : cs[0]? = some (.string ⟨x0.toArray⟩)) (ky0 : ds[0]? = some (.string ⟨y0.toArray⟩))
    (kx1 : cs[1]? = some (x1)) (ky1 : ds[1]? = some (y1)) (q1 : Bool) (w : World) (r : Bool)
    (hq1 : ∀ W, Below w.heap.size w W → Calls Tryz.prog 57 #[x1, y1, .func (.func 58) #[] #[]] W fun e w' => e = .returned (.bool q1) ∧ Below W.heap.size W w')
    (hr : r = true ↔ x0 = y0 ∧ q1 = true) :
    Calls Tryz.prog 56 #[.agg cs, .agg ds] w fun e w' => e = .returned (.bool r) ∧ Below w.heap.size w w' := by
  obtain ⟨T, N, hT, hN, hag, hsz⟩ := hid_Record
  have e4 : ∀ y : Operand, Op.box 100 y = Op.box T y := fun y => by rw [hT]
  have HQ1 := Lib.hid hq1
  have hszc : cs.size = N := hcs.trans hN.symm
  have hszd : ds.size = N := hds.trans hN.symm
  obtain ⟨W1, hW1⟩ : ∃ W1, W1 = (w.alloc (.cells cs T)).alloc (.cells ds T) := ⟨_, rfl⟩
  have HB : Hid (Below w.heap.size w W1) := Lib.hid (by rw [hW1]; exact (below_alloc w _).chain (below_alloc _ _))
  have p1 := heap_keep (o := .cells ds T) (heap_of_alloc w (.cells cs T))
  have p2 := heap_of_alloc (w.alloc (.cells cs T)) (.cells ds T)
  rw [size_of_alloc] at p2
  rw [← hW1] at p1 p2
  have HF : Hid (∀ W, Below W1.heap.size W1 W → W.cell? ⟨w.heap.size, 0, none⟩ = some (.string ⟨x0.toArray⟩) ∧ W.cell? ⟨w.heap.size + 1, 0, none⟩ = some (.string ⟨y0.toArray⟩) ∧ W.cell? ⟨w.heap.size, 1, none⟩ = some (x1) ∧ W.cell? ⟨w.heap.size + 1, 1, none⟩ = some (y1)) := Lib.hid (fun W hb => ⟨cell_of_block (kept_box hb p1) 0 kx0, cell_of_block (kept_box hb p2) 0 ky0, cell_of_block (kept_box hb p1) 1 kx1, cell_of_block (kept_box hb p2) 1 ky1⟩)
  have HX0 := Lib.hid (Below.refl W1.heap.size W1)
  have hF0 := HF.out _ HX0.out
  rw [hW1] at hF0
  obtain ⟨cx0, cy0, cx1, cy1⟩ := hF0
  clear hq1 hN p1 p2 hcs hds kx0 ky0 kx1 ky1
  by_cases h0 : x0 = y0
  · subst h0
    cases q1 with
    | false =>
      have e : r = false := Bool.eq_false_iff.2 (fun h => by simpa using hr.1 h)
      clear hr
      subst e
      go_enter Tryz.func56, Tryz.ntmps56
      simp only [e4]
      clear e4 hT
      go_wp2_with (go_at_call 57; rw [← hW1]; clear hW1; ((with_reducible refine (HQ1.out _ (HB.out.chain HX0.out)).mono ?_); rintro e w2 ⟨rfl, hb⟩); have HX2 := Lib.hid (HX0.out.chain hb); clear hb; clear cx0 cy0 cx1 cy1)
      go_ret
      exact ⟨rfl, HB.out.chain HX2.out⟩
    | true =>
      have e : r = true := hr.2 (by simp)
      clear hr
      subst e
      go_enter Tryz.func56, Tryz.ntmps56
      simp only [e4]
      clear e4 hT
      go_wp2_with (go_at_call 57; rw [← hW1]; clear hW1; ((with_reducible refine (HQ1.out _ (HB.out.chain HX0.out)).mono ?_); rintro e w2 ⟨rfl, hb⟩); have HX2 := Lib.hid (HX0.out.chain hb); clear hb; clear cx0 cy0 cx1 cy1)
      go_ret
      exact ⟨rfl, HB.out.chain HX2.out⟩
  · have e : r = false := Bool.eq_false_iff.2 (fun h => by have := hr.1 h; simp [h0] at this)
    have hs0 : (x0 == y0) = false := by simpa using h0
    clear hr
    subst e
    go_enter Tryz.func56, Tryz.ntmps56
    simp only [e4]
    clear e4 hT
    go_wp2
    go_ret
    rw [← hW1]
    exact ⟨rfl, HB.out.chain HX0.out⟩

set_option maxRecDepth 100000 in
set_option maxHeartbeats 8000000 in
theorem eqlk_core (cs ds : Array Value) (hcs : cs.size = 2) (hds : ds.size = 2) (x0 y0 : List UInt8) (x1 y1 : Value)
    (kx0 : cs[0]? = some (.string ⟨x0.toArray⟩)) (ky0 : ds[0]? = some (.string ⟨y0.toArray⟩))
    (kx1 : cs[1]? = some (x1)) (ky1 : ds[1]? = some (y1)) (q1 : Bool) (w : World) (r : Bool)
    (hq1 : ∀ W, Below w.heap.size w W → Calls Tryz.prog 123 #[x1, y1, .func (.func 27) #[] #[]] W fun e w' => e = .returned (.bool q1) ∧ Below W.heap.size W w')
    (hr : r = true ↔ x0 = y0 ∧ q1 = true) :
    Calls Tryz.prog 60 #[.agg cs, .agg ds] w fun e w' => e = .returned (.bool r) ∧ Below w.heap.size w w' := by
  obtain ⟨T, N, hT, hN, hag, hsz⟩ := hid_Lock
  have e4 : ∀ y : Operand, Op.box 96 y = Op.box T y := fun y => by rw [hT]
  have HQ1 := Lib.hid hq1
  have hszc : cs.size = N := hcs.trans hN.symm
  have hszd : ds.size = N := hds.trans hN.symm
  obtain ⟨W1, hW1⟩ : ∃ W1, W1 = (w.alloc (.cells cs T)).alloc (.cells ds T) := ⟨_, rfl⟩
  have HB : Hid (Below w.heap.size w W1) := Lib.hid (by rw [hW1]; exact (below_alloc w _).chain (below_alloc _ _))
  have p1 := heap_keep (o := .cells ds T) (heap_of_alloc w (.cells cs T))
  have p2 := heap_of_alloc (w.alloc (.cells cs T)) (.cells ds T)
  rw [size_of_alloc] at p2
  rw [← hW1] at p1 p2
  have HF : Hid (∀ W, Below W1.heap.size W1 W → W.cell? ⟨w.heap.size, 0, none⟩ = some (.string ⟨x0.toArray⟩) ∧ W.cell? ⟨w.heap.size + 1, 0, none⟩ = some (.string ⟨y0.toArray⟩) ∧ W.cell? ⟨w.heap.size, 1, none⟩ = some (x1) ∧ W.cell? ⟨w.heap.size + 1, 1, none⟩ = some (y1)) := Lib.hid (fun W hb => ⟨cell_of_block (kept_box hb p1) 0 kx0, cell_of_block (kept_box hb p2) 0 ky0, cell_of_block (kept_box hb p1) 1 kx1, cell_of_block (kept_box hb p2) 1 ky1⟩)
  have HX0 := Lib.hid (Below.refl W1.heap.size W1)
  have hF0 := HF.out _ HX0.out
  rw [hW1] at hF0
  obtain ⟨cx0, cy0, cx1, cy1⟩ := hF0
  clear hq1 hN p1 p2 hcs hds kx0 ky0 kx1 ky1
  by_cases h0 : x0 = y0
  · subst h0
    cases q1 with
    | false =>
      have e : r = false := Bool.eq_false_iff.2 (fun h => by simpa using hr.1 h)
      clear hr
      subst e
      go_enter Tryz.func60, Tryz.ntmps60
      simp only [e4]
      clear e4 hT
      go_wp2_with (go_at_call 123; rw [← hW1]; clear hW1; ((with_reducible refine (HQ1.out _ (HB.out.chain HX0.out)).mono ?_); rintro e w2 ⟨rfl, hb⟩); have HX2 := Lib.hid (HX0.out.chain hb); clear hb; clear cx0 cy0 cx1 cy1)
      go_ret
      exact ⟨rfl, HB.out.chain HX2.out⟩
    | true =>
      have e : r = true := hr.2 (by simp)
      clear hr
      subst e
      go_enter Tryz.func60, Tryz.ntmps60
      simp only [e4]
      clear e4 hT
      go_wp2_with (go_at_call 123; rw [← hW1]; clear hW1; ((with_reducible refine (HQ1.out _ (HB.out.chain HX0.out)).mono ?_); rintro e w2 ⟨rfl, hb⟩); have HX2 := Lib.hid (HX0.out.chain hb); clear hb; clear cx0 cy0 cx1 cy1)
      go_ret
      exact ⟨rfl, HB.out.chain HX2.out⟩
  · have e : r = false := Bool.eq_false_iff.2 (fun h => by have := hr.1 h; simp [h0] at this)
    have hs0 : (x0 == y0) = false := by simpa using h0
    clear hr
    subst e
    go_enter Tryz.func60, Tryz.ntmps60
    simp only [e4]
    clear e4 hT
    go_wp2
    go_ret
    rw [← hW1]
    exact ⟨rfl, HB.out.chain HX0.out⟩

set_option maxRecDepth 100000 in
set_option maxHeartbeats 8000000 in
theorem eqdf_core (cs ds : Array Value) (hcs : cs.size = 3) (hds : ds.size = 3) (x0 y0 : List UInt8) (x1 y1 : Value) (x2 y2 : Value)
    (kx0 : cs[0]? = some (.string ⟨x0.toArray⟩)) (ky0 : ds[0]? = some (.string ⟨y0.toArray⟩))
    (kx1 : cs[1]? = some (x1)) (ky1 : ds[1]? = some (y1))
    (kx2 : cs[2]? = some (x2)) (ky2 : ds[2]? = some (y2)) (q1 : Bool) (q2 : Bool) (w : World) (r : Bool)
    (hq1 : ∀ W, Below w.heap.size w W → Calls Tryz.prog 57 #[x1, y1, .func (.func 58) #[] #[]] W fun e w' => e = .returned (.bool q1) ∧ Below W.heap.size W w')
    (hq2 : ∀ W, Below w.heap.size w W → Calls Tryz.prog 123 #[x2, y2, .func (.func 27) #[] #[]] W fun e w' => e = .returned (.bool q2) ∧ Below W.heap.size W w')
    (hr : r = true ↔ x0 = y0 ∧ q1 = true ∧ q2 = true) :
    Calls Tryz.prog 62 #[.agg cs, .agg ds] w fun e w' => e = .returned (.bool r) ∧ Below w.heap.size w w' := by
  obtain ⟨T, N, hT, hN, hag, hsz⟩ := hid_Def
  have e4 : ∀ y : Operand, Op.box 92 y = Op.box T y := fun y => by rw [hT]
  have HQ1 := Lib.hid hq1
  have HQ2 := Lib.hid hq2
  have hszc : cs.size = N := hcs.trans hN.symm
  have hszd : ds.size = N := hds.trans hN.symm
  obtain ⟨W1, hW1⟩ : ∃ W1, W1 = (w.alloc (.cells cs T)).alloc (.cells ds T) := ⟨_, rfl⟩
  have HB : Hid (Below w.heap.size w W1) := Lib.hid (by rw [hW1]; exact (below_alloc w _).chain (below_alloc _ _))
  have p1 := heap_keep (o := .cells ds T) (heap_of_alloc w (.cells cs T))
  have p2 := heap_of_alloc (w.alloc (.cells cs T)) (.cells ds T)
  rw [size_of_alloc] at p2
  rw [← hW1] at p1 p2
  have HF : Hid (∀ W, Below W1.heap.size W1 W → W.cell? ⟨w.heap.size, 0, none⟩ = some (.string ⟨x0.toArray⟩) ∧ W.cell? ⟨w.heap.size + 1, 0, none⟩ = some (.string ⟨y0.toArray⟩) ∧ W.cell? ⟨w.heap.size, 1, none⟩ = some (x1) ∧ W.cell? ⟨w.heap.size + 1, 1, none⟩ = some (y1) ∧ W.cell? ⟨w.heap.size, 2, none⟩ = some (x2) ∧ W.cell? ⟨w.heap.size + 1, 2, none⟩ = some (y2)) := Lib.hid (fun W hb => ⟨cell_of_block (kept_box hb p1) 0 kx0, cell_of_block (kept_box hb p2) 0 ky0, cell_of_block (kept_box hb p1) 1 kx1, cell_of_block (kept_box hb p2) 1 ky1, cell_of_block (kept_box hb p1) 2 kx2, cell_of_block (kept_box hb p2) 2 ky2⟩)
  have HX0 := Lib.hid (Below.refl W1.heap.size W1)
  have hF0 := HF.out _ HX0.out
  rw [hW1] at hF0
  obtain ⟨cx0, cy0, cx1, cy1, cx2, cy2⟩ := hF0
  clear hq1 hq2 hN p1 p2 hcs hds kx0 ky0 kx1 ky1 kx2 ky2
  by_cases h0 : x0 = y0
  · subst h0
    cases q1 with
    | false =>
      have e : r = false := Bool.eq_false_iff.2 (fun h => by simpa using hr.1 h)
      clear hr
      subst e
      go_enter Tryz.func62, Tryz.ntmps62
      simp only [e4]
      clear e4 hT
      go_wp2_with (go_at_call 57; rw [← hW1]; clear hW1; ((with_reducible refine (HQ1.out _ (HB.out.chain HX0.out)).mono ?_); rintro e w2 ⟨rfl, hb⟩); have HX2 := Lib.hid (HX0.out.chain hb); clear hb; clear cx0 cy0 cx1 cy1 cx2 cy2)
      go_ret
      exact ⟨rfl, HB.out.chain HX2.out⟩
    | true =>
      cases q2 with
      | false =>
        have e : r = false := Bool.eq_false_iff.2 (fun h => by simpa using hr.1 h)
        clear hr
        subst e
        go_enter Tryz.func62, Tryz.ntmps62
        simp only [e4]
        clear e4 hT
        go_wp2_with (first
          | (go_at_call 57; rw [← hW1]; clear hW1; ((with_reducible refine (HQ1.out _ (HB.out.chain HX0.out)).mono ?_); rintro e w2 ⟨rfl, hb⟩); have HX2 := Lib.hid (HX0.out.chain hb); clear hb; clear cx0 cy0 cx1 cy1 cx2 cy2; obtain ⟨-, -, -, -, f2x2, f2y2⟩ := HF.out _ HX2.out)
          | (go_at_call 123; ((with_reducible refine (HQ2.out _ (HB.out.chain HX2.out)).mono ?_); rintro e w3 ⟨rfl, hb⟩); have HX3 := Lib.hid (HX2.out.chain hb); clear hb; clear f2x2 f2y2))
        go_ret
        exact ⟨rfl, HB.out.chain HX3.out⟩
      | true =>
        have e : r = true := hr.2 (by simp)
        clear hr
        subst e
        go_enter Tryz.func62, Tryz.ntmps62
        simp only [e4]
        clear e4 hT
        go_wp2_with (first
          | (go_at_call 57; rw [← hW1]; clear hW1; ((with_reducible refine (HQ1.out _ (HB.out.chain HX0.out)).mono ?_); rintro e w2 ⟨rfl, hb⟩); have HX2 := Lib.hid (HX0.out.chain hb); clear hb; clear cx0 cy0 cx1 cy1 cx2 cy2; obtain ⟨-, -, -, -, f2x2, f2y2⟩ := HF.out _ HX2.out)
          | (go_at_call 123; ((with_reducible refine (HQ2.out _ (HB.out.chain HX2.out)).mono ?_); rintro e w3 ⟨rfl, hb⟩); have HX3 := Lib.hid (HX2.out.chain hb); clear hb; clear f2x2 f2y2))
        go_ret
        exact ⟨rfl, HB.out.chain HX3.out⟩
  · have e : r = false := Bool.eq_false_iff.2 (fun h => by have := hr.1 h; simp [h0] at this)
    have hs0 : (x0 == y0) = false := by simpa using h0
    clear hr
    subst e
    go_enter Tryz.func62, Tryz.ntmps62
    simp only [e4]
    clear e4 hT
    go_wp2
    go_ret
    rw [← hW1]
    exact ⟨rfl, HB.out.chain HX0.out⟩

set_option maxRecDepth 100000 in
set_option maxHeartbeats 8000000 in
theorem eqlm_core (cs ds : Array Value) (hcs : cs.size = 8) (hds : ds.size = 8) (x0 y0 : List UInt8) (x1 y1 : Value) (x2 y2 : Value) (x3 y3 : Value) (x4 y4 : Value) (x5 y5 : Value) (x6 y6 : Value) (x7 y7 : Value)
    (kx0 : cs[0]? = some (.string ⟨x0.toArray⟩)) (ky0 : ds[0]? = some (.string ⟨y0.toArray⟩))
    (kx1 : cs[1]? = some (x1)) (ky1 : ds[1]? = some (y1))
    (kx2 : cs[2]? = some (x2)) (ky2 : ds[2]? = some (y2))
    (kx3 : cs[3]? = some (x3)) (ky3 : ds[3]? = some (y3))
    (kx4 : cs[4]? = some (x4)) (ky4 : ds[4]? = some (y4))
    (kx5 : cs[5]? = some (x5)) (ky5 : ds[5]? = some (y5))
    (kx6 : cs[6]? = some (x6)) (ky6 : ds[6]? = some (y6))
    (kx7 : cs[7]? = some (x7)) (ky7 : ds[7]? = some (y7)) (q1 : Bool) (q2 : Bool) (q3 : Bool) (w : World) (r : Bool)
    (hq1 : ∀ W, Below w.heap.size w W → Calls Tryz.prog 57 #[x1, y1, .func (.func 58) #[] #[]] W fun e w' => e = .returned (.bool q1) ∧ Below W.heap.size W w')
    (hq2 : ∀ W, Below w.heap.size w W → Calls Tryz.prog 27 #[.agg #[x2, x3, x4], .agg #[y2, y3, y4]] W fun e w' => e = .returned (.bool q2) ∧ Below W.heap.size W w')
    (hq3 : ∀ W, Below w.heap.size w W → Calls Tryz.prog 27 #[.agg #[x5, x6, x7], .agg #[y5, y6, y7]] W fun e w' => e = .returned (.bool q3) ∧ Below W.heap.size W w')
    (hr : r = true ↔ x0 = y0 ∧ q1 = true ∧ q2 = true ∧ q3 = true) :
    Calls Tryz.prog 64 #[.agg cs, .agg ds] w fun e w' => e = .returned (.bool r) ∧ Below w.heap.size w w' := by
  obtain ⟨T, N, hT, hN, hag, hsz⟩ := hid_Lemma
  have e4 : ∀ y : Operand, Op.box 94 y = Op.box T y := fun y => by rw [hT]
  have HQ1 := Lib.hid hq1
  have HQ2 := Lib.hid hq2
  have HQ3 := Lib.hid hq3
  have hszc : cs.size = N := hcs.trans hN.symm
  have hszd : ds.size = N := hds.trans hN.symm
  obtain ⟨W1, hW1⟩ : ∃ W1, W1 = (w.alloc (.cells cs T)).alloc (.cells ds T) := ⟨_, rfl⟩
  have HB : Hid (Below w.heap.size w W1) := Lib.hid (by rw [hW1]; exact (below_alloc w _).chain (below_alloc _ _))
  have p1 := heap_keep (o := .cells ds T) (heap_of_alloc w (.cells cs T))
  have p2 := heap_of_alloc (w.alloc (.cells cs T)) (.cells ds T)
  rw [size_of_alloc] at p2
  rw [← hW1] at p1 p2
  have HF : Hid (∀ W, Below W1.heap.size W1 W → W.cell? ⟨w.heap.size, 0, none⟩ = some (.string ⟨x0.toArray⟩) ∧ W.cell? ⟨w.heap.size + 1, 0, none⟩ = some (.string ⟨y0.toArray⟩) ∧ W.cell? ⟨w.heap.size, 1, none⟩ = some (x1) ∧ W.cell? ⟨w.heap.size + 1, 1, none⟩ = some (y1) ∧ W.cell? ⟨w.heap.size, 2, none⟩ = some (x2) ∧ W.cell? ⟨w.heap.size + 1, 2, none⟩ = some (y2) ∧ W.cell? ⟨w.heap.size, 3, none⟩ = some (x3) ∧ W.cell? ⟨w.heap.size + 1, 3, none⟩ = some (y3) ∧ W.cell? ⟨w.heap.size, 4, none⟩ = some (x4) ∧ W.cell? ⟨w.heap.size + 1, 4, none⟩ = some (y4) ∧ W.cell? ⟨w.heap.size, 5, none⟩ = some (x5) ∧ W.cell? ⟨w.heap.size + 1, 5, none⟩ = some (y5) ∧ W.cell? ⟨w.heap.size, 6, none⟩ = some (x6) ∧ W.cell? ⟨w.heap.size + 1, 6, none⟩ = some (y6) ∧ W.cell? ⟨w.heap.size, 7, none⟩ = some (x7) ∧ W.cell? ⟨w.heap.size + 1, 7, none⟩ = some (y7)) := Lib.hid (fun W hb => ⟨cell_of_block (kept_box hb p1) 0 kx0, cell_of_block (kept_box hb p2) 0 ky0, cell_of_block (kept_box hb p1) 1 kx1, cell_of_block (kept_box hb p2) 1 ky1, cell_of_block (kept_box hb p1) 2 kx2, cell_of_block (kept_box hb p2) 2 ky2, cell_of_block (kept_box hb p1) 3 kx3, cell_of_block (kept_box hb p2) 3 ky3, cell_of_block (kept_box hb p1) 4 kx4, cell_of_block (kept_box hb p2) 4 ky4, cell_of_block (kept_box hb p1) 5 kx5, cell_of_block (kept_box hb p2) 5 ky5, cell_of_block (kept_box hb p1) 6 kx6, cell_of_block (kept_box hb p2) 6 ky6, cell_of_block (kept_box hb p1) 7 kx7, cell_of_block (kept_box hb p2) 7 ky7⟩)
  have HX0 := Lib.hid (Below.refl W1.heap.size W1)
  have hF0 := HF.out _ HX0.out
  rw [hW1] at hF0
  obtain ⟨cx0, cy0, cx1, cy1, cx2, cy2, cx3, cy3, cx4, cy4, cx5, cy5, cx6, cy6, cx7, cy7⟩ := hF0
  clear hq1 hq2 hq3 hN p1 p2 hcs hds kx0 ky0 kx1 ky1 kx2 ky2 kx3 ky3 kx4 ky4 kx5 ky5 kx6 ky6 kx7 ky7
  by_cases h0 : x0 = y0
  · subst h0
    cases q1 with
    | false =>
      have e : r = false := Bool.eq_false_iff.2 (fun h => by simpa using hr.1 h)
      clear hr
      subst e
      go_enter Tryz.func64, Tryz.ntmps64
      simp only [e4]
      clear e4 hT
      go_wp2_with (go_at_call 57; rw [← hW1]; clear hW1; ((with_reducible refine (HQ1.out _ (HB.out.chain HX0.out)).mono ?_); rintro e w2 ⟨rfl, hb⟩); have HX2 := Lib.hid (HX0.out.chain hb); clear hb; clear cx0 cy0 cx1 cy1 cx2 cy2 cx3 cy3 cx4 cy4 cx5 cy5 cx6 cy6 cx7 cy7)
      go_ret
      exact ⟨rfl, HB.out.chain HX2.out⟩
    | true =>
      cases q2 with
      | false =>
        have e : r = false := Bool.eq_false_iff.2 (fun h => by simpa using hr.1 h)
        clear hr
        subst e
        go_enter Tryz.func64, Tryz.ntmps64
        simp only [e4]
        clear e4 hT
        go_wp2_with (first
          | (go_at_call 57; rw [← hW1]; clear hW1; ((with_reducible refine (HQ1.out _ (HB.out.chain HX0.out)).mono ?_); rintro e w2 ⟨rfl, hb⟩); have HX2 := Lib.hid (HX0.out.chain hb); clear hb; clear cx0 cy0 cx1 cy1 cx2 cy2 cx3 cy3 cx4 cy4 cx5 cy5 cx6 cy6 cx7 cy7; obtain ⟨-, -, -, -, f2x2, f2y2, f2x3, f2y3, f2x4, f2y4, f2x5, f2y5, f2x6, f2y6, f2x7, f2y7⟩ := HF.out _ HX2.out)
          | (go_at_call 27; ((with_reducible refine (HQ2.out _ (HB.out.chain HX2.out)).mono ?_); rintro e w3 ⟨rfl, hb⟩); have HX3 := Lib.hid (HX2.out.chain hb); clear hb; clear f2x2 f2y2 f2x3 f2y3 f2x4 f2y4 f2x5 f2y5 f2x6 f2y6 f2x7 f2y7))
        go_ret
        exact ⟨rfl, HB.out.chain HX3.out⟩
      | true =>
        cases q3 with
        | false =>
          have e : r = false := Bool.eq_false_iff.2 (fun h => by simpa using hr.1 h)
          clear hr
          subst e
          go_enter Tryz.func64, Tryz.ntmps64
          simp only [e4]
          clear e4 hT
          go_wp2_with (first
            | (go_at_call 57; rw [← hW1]; clear hW1; ((with_reducible refine (HQ1.out _ (HB.out.chain HX0.out)).mono ?_); rintro e w2 ⟨rfl, hb⟩); have HX2 := Lib.hid (HX0.out.chain hb); clear hb; clear cx0 cy0 cx1 cy1 cx2 cy2 cx3 cy3 cx4 cy4 cx5 cy5 cx6 cy6 cx7 cy7; obtain ⟨-, -, -, -, f2x2, f2y2, f2x3, f2y3, f2x4, f2y4, f2x5, f2y5, f2x6, f2y6, f2x7, f2y7⟩ := HF.out _ HX2.out)
            | (go_at_call 27; ((with_reducible refine (HQ2.out _ (HB.out.chain HX2.out)).mono ?_); rintro e w3 ⟨rfl, hb⟩); have HX3 := Lib.hid (HX2.out.chain hb); clear hb; clear f2x2 f2y2 f2x3 f2y3 f2x4 f2y4 f2x5 f2y5 f2x6 f2y6 f2x7 f2y7; obtain ⟨-, -, -, -, -, -, -, -, -, -, f3x5, f3y5, f3x6, f3y6, f3x7, f3y7⟩ := HF.out _ HX3.out)
            | (go_at_call 27; ((with_reducible refine (HQ3.out _ (HB.out.chain HX3.out)).mono ?_); rintro e w4 ⟨rfl, hb⟩); have HX4 := Lib.hid (HX3.out.chain hb); clear hb; clear f3x5 f3y5 f3x6 f3y6 f3x7 f3y7))
          go_ret
          exact ⟨rfl, HB.out.chain HX4.out⟩
        | true =>
          have e : r = true := hr.2 (by simp)
          clear hr
          subst e
          go_enter Tryz.func64, Tryz.ntmps64
          simp only [e4]
          clear e4 hT
          go_wp2_with (first
            | (go_at_call 57; rw [← hW1]; clear hW1; ((with_reducible refine (HQ1.out _ (HB.out.chain HX0.out)).mono ?_); rintro e w2 ⟨rfl, hb⟩); have HX2 := Lib.hid (HX0.out.chain hb); clear hb; clear cx0 cy0 cx1 cy1 cx2 cy2 cx3 cy3 cx4 cy4 cx5 cy5 cx6 cy6 cx7 cy7; obtain ⟨-, -, -, -, f2x2, f2y2, f2x3, f2y3, f2x4, f2y4, f2x5, f2y5, f2x6, f2y6, f2x7, f2y7⟩ := HF.out _ HX2.out)
            | (go_at_call 27; ((with_reducible refine (HQ2.out _ (HB.out.chain HX2.out)).mono ?_); rintro e w3 ⟨rfl, hb⟩); have HX3 := Lib.hid (HX2.out.chain hb); clear hb; clear f2x2 f2y2 f2x3 f2y3 f2x4 f2y4 f2x5 f2y5 f2x6 f2y6 f2x7 f2y7; obtain ⟨-, -, -, -, -, -, -, -, -, -, f3x5, f3y5, f3x6, f3y6, f3x7, f3y7⟩ := HF.out _ HX3.out)
            | (go_at_call 27; ((with_reducible refine (HQ3.out _ (HB.out.chain HX3.out)).mono ?_); rintro e w4 ⟨rfl, hb⟩); have HX4 := Lib.hid (HX3.out.chain hb); clear hb; clear f3x5 f3y5 f3x6 f3y6 f3x7 f3y7))
          go_ret
          exact ⟨rfl, HB.out.chain HX4.out⟩
  · have e : r = false := Bool.eq_false_iff.2 (fun h => by have := hr.1 h; simp [h0] at this)
    have hs0 : (x0 == y0) = false := by simpa using h0
    clear hr
    subst e
    go_enter Tryz.func64, Tryz.ntmps64
    simp only [e4]
    clear e4 hT
    go_wp2
    go_ret
    rw [← hW1]
    exact ⟨rfl, HB.out.chain HX0.out⟩

set_option maxRecDepth 100000 in
set_option maxHeartbeats 8000000 in
theorem eqpg_core (cs ds : Array Value) (hcs : cs.size = 6) (hds : ds.size = 6) (x0 y0 : Value) (x1 y1 : Value) (x2 y2 : Value) (x3 y3 : Value) (x4 y4 : Value) (x5 y5 : Value)
    (kx0 : cs[0]? = some (x0)) (ky0 : ds[0]? = some (y0))
    (kx1 : cs[1]? = some (x1)) (ky1 : ds[1]? = some (y1))
    (kx2 : cs[2]? = some (x2)) (ky2 : ds[2]? = some (y2))
    (kx3 : cs[3]? = some (x3)) (ky3 : ds[3]? = some (y3))
    (kx4 : cs[4]? = some (x4)) (ky4 : ds[4]? = some (y4))
    (kx5 : cs[5]? = some (x5)) (ky5 : ds[5]? = some (y5)) (q0 : Bool) (q1 : Bool) (q2 : Bool) (q3 : Bool) (q4 : Bool) (q5 : Bool) (w : World) (r : Bool)
    (hq0 : ∀ W, Below w.heap.size w W → Calls Tryz.prog 55 #[x0, y0, .func (.func 56) #[] #[]] W fun e w' => e = .returned (.bool q0) ∧ Below W.heap.size W w')
    (hq1 : ∀ W, Below w.heap.size w W → Calls Tryz.prog 57 #[x1, y1, .func (.func 58) #[] #[]] W fun e w' => e = .returned (.bool q1) ∧ Below W.heap.size W w')
    (hq2 : ∀ W, Below w.heap.size w W → Calls Tryz.prog 59 #[x2, y2, .func (.func 60) #[] #[]] W fun e w' => e = .returned (.bool q2) ∧ Below W.heap.size W w')
    (hq3 : ∀ W, Below w.heap.size w W → Calls Tryz.prog 61 #[x3, y3, .func (.func 62) #[] #[]] W fun e w' => e = .returned (.bool q3) ∧ Below W.heap.size W w')
    (hq4 : ∀ W, Below w.heap.size w W → Calls Tryz.prog 63 #[x4, y4, .func (.func 64) #[] #[]] W fun e w' => e = .returned (.bool q4) ∧ Below W.heap.size W w')
    (hq5 : ∀ W, Below w.heap.size w W → Calls Tryz.prog 65 #[x5, y5, .func (.func 66) #[] #[]] W fun e w' => e = .returned (.bool q5) ∧ Below W.heap.size W w')
    (hr : r = true ↔ q0 = true ∧ q1 = true ∧ q2 = true ∧ q3 = true ∧ q4 = true ∧ q5 = true) :
    Calls Tryz.prog 25 #[.agg cs, .agg ds] w fun e w' => e = .returned (.bool r) ∧ Below w.heap.size w w' := by
  obtain ⟨T, N, hT, hN, hag, hsz⟩ := hid_Program
  have e4 : ∀ y : Operand, Op.box 51 y = Op.box T y := fun y => by rw [hT]
  have HQ0 := Lib.hid hq0
  have HQ1 := Lib.hid hq1
  have HQ2 := Lib.hid hq2
  have HQ3 := Lib.hid hq3
  have HQ4 := Lib.hid hq4
  have HQ5 := Lib.hid hq5
  have hszc : cs.size = N := hcs.trans hN.symm
  have hszd : ds.size = N := hds.trans hN.symm
  obtain ⟨W1, hW1⟩ : ∃ W1, W1 = (w.alloc (.cells cs T)).alloc (.cells ds T) := ⟨_, rfl⟩
  have HB : Hid (Below w.heap.size w W1) := Lib.hid (by rw [hW1]; exact (below_alloc w _).chain (below_alloc _ _))
  have p1 := heap_keep (o := .cells ds T) (heap_of_alloc w (.cells cs T))
  have p2 := heap_of_alloc (w.alloc (.cells cs T)) (.cells ds T)
  rw [size_of_alloc] at p2
  rw [← hW1] at p1 p2
  have HF : Hid (∀ W, Below W1.heap.size W1 W → W.cell? ⟨w.heap.size, 0, none⟩ = some (x0) ∧ W.cell? ⟨w.heap.size + 1, 0, none⟩ = some (y0) ∧ W.cell? ⟨w.heap.size, 1, none⟩ = some (x1) ∧ W.cell? ⟨w.heap.size + 1, 1, none⟩ = some (y1) ∧ W.cell? ⟨w.heap.size, 2, none⟩ = some (x2) ∧ W.cell? ⟨w.heap.size + 1, 2, none⟩ = some (y2) ∧ W.cell? ⟨w.heap.size, 3, none⟩ = some (x3) ∧ W.cell? ⟨w.heap.size + 1, 3, none⟩ = some (y3) ∧ W.cell? ⟨w.heap.size, 4, none⟩ = some (x4) ∧ W.cell? ⟨w.heap.size + 1, 4, none⟩ = some (y4) ∧ W.cell? ⟨w.heap.size, 5, none⟩ = some (x5) ∧ W.cell? ⟨w.heap.size + 1, 5, none⟩ = some (y5)) := Lib.hid (fun W hb => ⟨cell_of_block (kept_box hb p1) 0 kx0, cell_of_block (kept_box hb p2) 0 ky0, cell_of_block (kept_box hb p1) 1 kx1, cell_of_block (kept_box hb p2) 1 ky1, cell_of_block (kept_box hb p1) 2 kx2, cell_of_block (kept_box hb p2) 2 ky2, cell_of_block (kept_box hb p1) 3 kx3, cell_of_block (kept_box hb p2) 3 ky3, cell_of_block (kept_box hb p1) 4 kx4, cell_of_block (kept_box hb p2) 4 ky4, cell_of_block (kept_box hb p1) 5 kx5, cell_of_block (kept_box hb p2) 5 ky5⟩)
  have HX0 := Lib.hid (Below.refl W1.heap.size W1)
  have hF0 := HF.out _ HX0.out
  rw [hW1] at hF0
  obtain ⟨cx0, cy0, cx1, cy1, cx2, cy2, cx3, cy3, cx4, cy4, cx5, cy5⟩ := hF0
  clear hq0 hq1 hq2 hq3 hq4 hq5 hN p1 p2 hcs hds kx0 ky0 kx1 ky1 kx2 ky2 kx3 ky3 kx4 ky4 kx5 ky5
  cases q0 with
  | false =>
    have e : r = false := Bool.eq_false_iff.2 (fun h => by simpa using hr.1 h)
    clear hr
    subst e
    go_enter Tryz.func25, Tryz.ntmps25
    simp only [e4]
    clear e4 hT
    go_wp2_with (go_at_call 55; rw [← hW1]; clear hW1; ((with_reducible refine (HQ0.out _ (HB.out.chain HX0.out)).mono ?_); rintro e w1 ⟨rfl, hb⟩); have HX1 := Lib.hid (HX0.out.chain hb); clear hb; clear cx0 cy0 cx1 cy1 cx2 cy2 cx3 cy3 cx4 cy4 cx5 cy5)
    go_ret
    exact ⟨rfl, HB.out.chain HX1.out⟩
  | true =>
    cases q1 with
    | false =>
      have e : r = false := Bool.eq_false_iff.2 (fun h => by simpa using hr.1 h)
      clear hr
      subst e
      go_enter Tryz.func25, Tryz.ntmps25
      simp only [e4]
      clear e4 hT
      go_wp2_with (first
        | (go_at_call 55; rw [← hW1]; clear hW1; ((with_reducible refine (HQ0.out _ (HB.out.chain HX0.out)).mono ?_); rintro e w1 ⟨rfl, hb⟩); have HX1 := Lib.hid (HX0.out.chain hb); clear hb; clear cx0 cy0 cx1 cy1 cx2 cy2 cx3 cy3 cx4 cy4 cx5 cy5; obtain ⟨-, -, f1x1, f1y1, f1x2, f1y2, f1x3, f1y3, f1x4, f1y4, f1x5, f1y5⟩ := HF.out _ HX1.out)
        | (go_at_call 57; ((with_reducible refine (HQ1.out _ (HB.out.chain HX1.out)).mono ?_); rintro e w2 ⟨rfl, hb⟩); have HX2 := Lib.hid (HX1.out.chain hb); clear hb; clear f1x1 f1y1 f1x2 f1y2 f1x3 f1y3 f1x4 f1y4 f1x5 f1y5))
      go_ret
      exact ⟨rfl, HB.out.chain HX2.out⟩
    | true =>
      cases q2 with
      | false =>
        have e : r = false := Bool.eq_false_iff.2 (fun h => by simpa using hr.1 h)
        clear hr
        subst e
        go_enter Tryz.func25, Tryz.ntmps25
        simp only [e4]
        clear e4 hT
        go_wp2_with (first
          | (go_at_call 55; rw [← hW1]; clear hW1; ((with_reducible refine (HQ0.out _ (HB.out.chain HX0.out)).mono ?_); rintro e w1 ⟨rfl, hb⟩); have HX1 := Lib.hid (HX0.out.chain hb); clear hb; clear cx0 cy0 cx1 cy1 cx2 cy2 cx3 cy3 cx4 cy4 cx5 cy5; obtain ⟨-, -, f1x1, f1y1, f1x2, f1y2, f1x3, f1y3, f1x4, f1y4, f1x5, f1y5⟩ := HF.out _ HX1.out)
          | (go_at_call 57; ((with_reducible refine (HQ1.out _ (HB.out.chain HX1.out)).mono ?_); rintro e w2 ⟨rfl, hb⟩); have HX2 := Lib.hid (HX1.out.chain hb); clear hb; clear f1x1 f1y1 f1x2 f1y2 f1x3 f1y3 f1x4 f1y4 f1x5 f1y5; obtain ⟨-, -, -, -, f2x2, f2y2, f2x3, f2y3, f2x4, f2y4, f2x5, f2y5⟩ := HF.out _ HX2.out)
          | (go_at_call 59; ((with_reducible refine (HQ2.out _ (HB.out.chain HX2.out)).mono ?_); rintro e w3 ⟨rfl, hb⟩); have HX3 := Lib.hid (HX2.out.chain hb); clear hb; clear f2x2 f2y2 f2x3 f2y3 f2x4 f2y4 f2x5 f2y5))
        go_ret
        exact ⟨rfl, HB.out.chain HX3.out⟩
      | true =>
        cases q3 with
        | false =>
          have e : r = false := Bool.eq_false_iff.2 (fun h => by simpa using hr.1 h)
          clear hr
          subst e
          go_enter Tryz.func25, Tryz.ntmps25
          simp only [e4]
          clear e4 hT
          go_wp2_with (first
            | (go_at_call 55; rw [← hW1]; clear hW1; ((with_reducible refine (HQ0.out _ (HB.out.chain HX0.out)).mono ?_); rintro e w1 ⟨rfl, hb⟩); have HX1 := Lib.hid (HX0.out.chain hb); clear hb; clear cx0 cy0 cx1 cy1 cx2 cy2 cx3 cy3 cx4 cy4 cx5 cy5; obtain ⟨-, -, f1x1, f1y1, f1x2, f1y2, f1x3, f1y3, f1x4, f1y4, f1x5, f1y5⟩ := HF.out _ HX1.out)
            | (go_at_call 57; ((with_reducible refine (HQ1.out _ (HB.out.chain HX1.out)).mono ?_); rintro e w2 ⟨rfl, hb⟩); have HX2 := Lib.hid (HX1.out.chain hb); clear hb; clear f1x1 f1y1 f1x2 f1y2 f1x3 f1y3 f1x4 f1y4 f1x5 f1y5; obtain ⟨-, -, -, -, f2x2, f2y2, f2x3, f2y3, f2x4, f2y4, f2x5, f2y5⟩ := HF.out _ HX2.out)
            | (go_at_call 59; ((with_reducible refine (HQ2.out _ (HB.out.chain HX2.out)).mono ?_); rintro e w3 ⟨rfl, hb⟩); have HX3 := Lib.hid (HX2.out.chain hb); clear hb; clear f2x2 f2y2 f2x3 f2y3 f2x4 f2y4 f2x5 f2y5; obtain ⟨-, -, -, -, -, -, f3x3, f3y3, f3x4, f3y4, f3x5, f3y5⟩ := HF.out _ HX3.out)
            | (go_at_call 61; ((with_reducible refine (HQ3.out _ (HB.out.chain HX3.out)).mono ?_); rintro e w4 ⟨rfl, hb⟩); have HX4 := Lib.hid (HX3.out.chain hb); clear hb; clear f3x3 f3y3 f3x4 f3y4 f3x5 f3y5))
          go_ret
          exact ⟨rfl, HB.out.chain HX4.out⟩
        | true =>
          cases q4 with
          | false =>
            have e : r = false := Bool.eq_false_iff.2 (fun h => by simpa using hr.1 h)
            clear hr
            subst e
            go_enter Tryz.func25, Tryz.ntmps25
            simp only [e4]
            clear e4 hT
            go_wp2_with (first
              | (go_at_call 55; rw [← hW1]; clear hW1; ((with_reducible refine (HQ0.out _ (HB.out.chain HX0.out)).mono ?_); rintro e w1 ⟨rfl, hb⟩); have HX1 := Lib.hid (HX0.out.chain hb); clear hb; clear cx0 cy0 cx1 cy1 cx2 cy2 cx3 cy3 cx4 cy4 cx5 cy5; obtain ⟨-, -, f1x1, f1y1, f1x2, f1y2, f1x3, f1y3, f1x4, f1y4, f1x5, f1y5⟩ := HF.out _ HX1.out)
              | (go_at_call 57; ((with_reducible refine (HQ1.out _ (HB.out.chain HX1.out)).mono ?_); rintro e w2 ⟨rfl, hb⟩); have HX2 := Lib.hid (HX1.out.chain hb); clear hb; clear f1x1 f1y1 f1x2 f1y2 f1x3 f1y3 f1x4 f1y4 f1x5 f1y5; obtain ⟨-, -, -, -, f2x2, f2y2, f2x3, f2y3, f2x4, f2y4, f2x5, f2y5⟩ := HF.out _ HX2.out)
              | (go_at_call 59; ((with_reducible refine (HQ2.out _ (HB.out.chain HX2.out)).mono ?_); rintro e w3 ⟨rfl, hb⟩); have HX3 := Lib.hid (HX2.out.chain hb); clear hb; clear f2x2 f2y2 f2x3 f2y3 f2x4 f2y4 f2x5 f2y5; obtain ⟨-, -, -, -, -, -, f3x3, f3y3, f3x4, f3y4, f3x5, f3y5⟩ := HF.out _ HX3.out)
              | (go_at_call 61; ((with_reducible refine (HQ3.out _ (HB.out.chain HX3.out)).mono ?_); rintro e w4 ⟨rfl, hb⟩); have HX4 := Lib.hid (HX3.out.chain hb); clear hb; clear f3x3 f3y3 f3x4 f3y4 f3x5 f3y5; obtain ⟨-, -, -, -, -, -, -, -, f4x4, f4y4, f4x5, f4y5⟩ := HF.out _ HX4.out)
              | (go_at_call 63; ((with_reducible refine (HQ4.out _ (HB.out.chain HX4.out)).mono ?_); rintro e w5 ⟨rfl, hb⟩); have HX5 := Lib.hid (HX4.out.chain hb); clear hb; clear f4x4 f4y4 f4x5 f4y5))
            go_ret
            exact ⟨rfl, HB.out.chain HX5.out⟩
          | true =>
            cases q5 with
            | false =>
              have e : r = false := Bool.eq_false_iff.2 (fun h => by simpa using hr.1 h)
              clear hr
              subst e
              go_enter Tryz.func25, Tryz.ntmps25
              simp only [e4]
              clear e4 hT
              go_wp2_with (first
                | (go_at_call 55; rw [← hW1]; clear hW1; ((with_reducible refine (HQ0.out _ (HB.out.chain HX0.out)).mono ?_); rintro e w1 ⟨rfl, hb⟩); have HX1 := Lib.hid (HX0.out.chain hb); clear hb; clear cx0 cy0 cx1 cy1 cx2 cy2 cx3 cy3 cx4 cy4 cx5 cy5; obtain ⟨-, -, f1x1, f1y1, f1x2, f1y2, f1x3, f1y3, f1x4, f1y4, f1x5, f1y5⟩ := HF.out _ HX1.out)
                | (go_at_call 57; ((with_reducible refine (HQ1.out _ (HB.out.chain HX1.out)).mono ?_); rintro e w2 ⟨rfl, hb⟩); have HX2 := Lib.hid (HX1.out.chain hb); clear hb; clear f1x1 f1y1 f1x2 f1y2 f1x3 f1y3 f1x4 f1y4 f1x5 f1y5; obtain ⟨-, -, -, -, f2x2, f2y2, f2x3, f2y3, f2x4, f2y4, f2x5, f2y5⟩ := HF.out _ HX2.out)
                | (go_at_call 59; ((with_reducible refine (HQ2.out _ (HB.out.chain HX2.out)).mono ?_); rintro e w3 ⟨rfl, hb⟩); have HX3 := Lib.hid (HX2.out.chain hb); clear hb; clear f2x2 f2y2 f2x3 f2y3 f2x4 f2y4 f2x5 f2y5; obtain ⟨-, -, -, -, -, -, f3x3, f3y3, f3x4, f3y4, f3x5, f3y5⟩ := HF.out _ HX3.out)
                | (go_at_call 61; ((with_reducible refine (HQ3.out _ (HB.out.chain HX3.out)).mono ?_); rintro e w4 ⟨rfl, hb⟩); have HX4 := Lib.hid (HX3.out.chain hb); clear hb; clear f3x3 f3y3 f3x4 f3y4 f3x5 f3y5; obtain ⟨-, -, -, -, -, -, -, -, f4x4, f4y4, f4x5, f4y5⟩ := HF.out _ HX4.out)
                | (go_at_call 63; ((with_reducible refine (HQ4.out _ (HB.out.chain HX4.out)).mono ?_); rintro e w5 ⟨rfl, hb⟩); have HX5 := Lib.hid (HX4.out.chain hb); clear hb; clear f4x4 f4y4 f4x5 f4y5; obtain ⟨-, -, -, -, -, -, -, -, -, -, f5x5, f5y5⟩ := HF.out _ HX5.out)
                | (go_at_call 65; ((with_reducible refine (HQ5.out _ (HB.out.chain HX5.out)).mono ?_); rintro e w6 ⟨rfl, hb⟩); have HX6 := Lib.hid (HX5.out.chain hb); clear hb; clear f5x5 f5y5))
              go_ret
              exact ⟨rfl, HB.out.chain HX6.out⟩
            | true =>
              have e : r = true := hr.2 (by simp)
              clear hr
              subst e
              go_enter Tryz.func25, Tryz.ntmps25
              simp only [e4]
              clear e4 hT
              go_wp2_with (first
                | (go_at_call 55; rw [← hW1]; clear hW1; ((with_reducible refine (HQ0.out _ (HB.out.chain HX0.out)).mono ?_); rintro e w1 ⟨rfl, hb⟩); have HX1 := Lib.hid (HX0.out.chain hb); clear hb; clear cx0 cy0 cx1 cy1 cx2 cy2 cx3 cy3 cx4 cy4 cx5 cy5; obtain ⟨-, -, f1x1, f1y1, f1x2, f1y2, f1x3, f1y3, f1x4, f1y4, f1x5, f1y5⟩ := HF.out _ HX1.out)
                | (go_at_call 57; ((with_reducible refine (HQ1.out _ (HB.out.chain HX1.out)).mono ?_); rintro e w2 ⟨rfl, hb⟩); have HX2 := Lib.hid (HX1.out.chain hb); clear hb; clear f1x1 f1y1 f1x2 f1y2 f1x3 f1y3 f1x4 f1y4 f1x5 f1y5; obtain ⟨-, -, -, -, f2x2, f2y2, f2x3, f2y3, f2x4, f2y4, f2x5, f2y5⟩ := HF.out _ HX2.out)
                | (go_at_call 59; ((with_reducible refine (HQ2.out _ (HB.out.chain HX2.out)).mono ?_); rintro e w3 ⟨rfl, hb⟩); have HX3 := Lib.hid (HX2.out.chain hb); clear hb; clear f2x2 f2y2 f2x3 f2y3 f2x4 f2y4 f2x5 f2y5; obtain ⟨-, -, -, -, -, -, f3x3, f3y3, f3x4, f3y4, f3x5, f3y5⟩ := HF.out _ HX3.out)
                | (go_at_call 61; ((with_reducible refine (HQ3.out _ (HB.out.chain HX3.out)).mono ?_); rintro e w4 ⟨rfl, hb⟩); have HX4 := Lib.hid (HX3.out.chain hb); clear hb; clear f3x3 f3y3 f3x4 f3y4 f3x5 f3y5; obtain ⟨-, -, -, -, -, -, -, -, f4x4, f4y4, f4x5, f4y5⟩ := HF.out _ HX4.out)
                | (go_at_call 63; ((with_reducible refine (HQ4.out _ (HB.out.chain HX4.out)).mono ?_); rintro e w5 ⟨rfl, hb⟩); have HX5 := Lib.hid (HX4.out.chain hb); clear hb; clear f4x4 f4y4 f4x5 f4y5; obtain ⟨-, -, -, -, -, -, -, -, -, -, f5x5, f5y5⟩ := HF.out _ HX5.out)
                | (go_at_call 65; ((with_reducible refine (HQ5.out _ (HB.out.chain HX5.out)).mono ?_); rintro e w6 ⟨rfl, hb⟩); have HX6 := Lib.hid (HX5.out.chain hb); clear hb; clear f5x5 f5y5))
              go_ret
              exact ⟨rfl, HB.out.chain HX6.out⟩

end Go.Proofs.YtkjfgbcbeabpgaaGreatDoor
