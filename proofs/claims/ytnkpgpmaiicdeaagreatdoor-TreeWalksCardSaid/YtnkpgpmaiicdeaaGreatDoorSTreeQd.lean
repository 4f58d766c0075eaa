/-
  Two structs compared part by part: expressions, conditions, atoms, cells, calls, formulas; and by the reference.
-/
import Derived.Test.YtnkpgpmaiicdeaaGreatDoorSTreeQa
set_option linter.unusedVariables false
set_option linter.unusedSimpArgs false
namespace Go.Proofs.YtnkpgpmaiicdeaaGreatDoor
set_option maxRecDepth 100000
set_option maxHeartbeats 8000000
open Go.RowKit
theorem eqe_core (cs ds : Array Value) (hcs : cs.size = 4) (hds : ds.size = 4) (x0 y0 : Int) (x1 y1 : Int) (x2 y2 : List UInt8) (x3 y3 : Value)
 (kx0 : cs[0]? = some (.int .i64 x0)) (ky0 : ds[0]? = some (.int .i64 y0))
 (kx1 : cs[1]? = some (.int .i64 x1)) (ky1 : ds[1]? = some (.int .i64 y1))
 (kx2 : cs[2]? = some (.string ⟨x2.toArray⟩)) (ky2 : ds[2]? = some (.string ⟨y2.toArray⟩))
 (kx3 : cs[3]? = some (x3)) (ky3 : ds[3]? = some (y3)) (q3 : Bool) (w : World) (r : Bool)
 (hq3 : BC w 94 #[x3,y3,.func (.func 54) #[] #[]] q3)
 (hr : r = true ↔ x0 = y0 ∧ x1 = y1 ∧ x2 = y2 ∧ q3 = true) :
 Calls Tryz.prog 54 #[.agg cs,.agg ds] w fun e w' => e = .returned (.bool r) ∧ Below w.heap.size w w':=by
 obtain ⟨T,N,hT,hN,hag,hsz⟩:=hid_Expr
 have e4 : ∀ y : Operand,Op.box 33 y = Op.box T y:=fun y => by rw [hT]
 have HQ3:=Lib.hid hq3
 have hszc : cs.size = N:=hcs.trans hN.symm
 have hszd : ds.size = N:=hds.trans hN.symm
 obtain ⟨W1,hW1⟩ : ∃ W1,W1 = (w.alloc (.cells cs T)).alloc (.cells ds T):=⟨_,rfl⟩
 have HB : Hid (Below w.heap.size w W1):=Lib.hid (by rw [hW1];exact (below_alloc w _).chain (below_alloc _ _))
 have p1:=heap_keep (o:=.cells ds T) (heap_of_alloc w (.cells cs T))
 have p2:=heap_of_alloc (w.alloc (.cells cs T)) (.cells ds T)
 rw [size_of_alloc] at p2
 rw [← hW1] at p1 p2
 have HF : Hid (∀ W,Below W1.heap.size W1 W → W.cell? ⟨w.heap.size,0,none⟩ = some (.int .i64 x0) ∧ W.cell? ⟨w.heap.size + 1,0,none⟩ = some (.int .i64 y0) ∧ W.cell? ⟨w.heap.size,1,none⟩ = some (.int .i64 x1) ∧ W.cell? ⟨w.heap.size + 1,1,none⟩ = some (.int .i64 y1) ∧ W.cell? ⟨w.heap.size,2,none⟩ = some (.string ⟨x2.toArray⟩) ∧ W.cell? ⟨w.heap.size + 1,2,none⟩ = some (.string ⟨y2.toArray⟩) ∧ W.cell? ⟨w.heap.size,3,none⟩ = some (x3) ∧ W.cell? ⟨w.heap.size + 1,3,none⟩ = some (y3)):=Lib.hid (fun W hb => ⟨cell_of_block (kept_box hb p1) 0 kx0,cell_of_block (kept_box hb p2) 0 ky0,cell_of_block (kept_box hb p1) 1 kx1,cell_of_block (kept_box hb p2) 1 ky1,cell_of_block (kept_box hb p1) 2 kx2,cell_of_block (kept_box hb p2) 2 ky2,cell_of_block (kept_box hb p1) 3 kx3,cell_of_block (kept_box hb p2) 3 ky3⟩)
 have HX0:=Lib.hid (Below.refl W1.heap.size W1)
 have hF0:=HF.out _ HX0.out
 rw [hW1] at hF0
 obtain ⟨cx0,cy0,cx1,cy1,cx2,cy2,cx3,cy3⟩:=hF0
 clear hq3 hN p1 p2 hcs hds kx0 ky0 kx1 ky1 kx2 ky2 kx3 ky3
 by_cases h0 : x0 = y0
 ·subst h0
  by_cases h1 : x1 = y1
  ·subst h1
   by_cases h2 : x2 = y2
   ·subst h2
    cases q3 with
    | false =>
      have e : r = false:=Bool.eq_false_iff.2 (fun h => by simpa using hr.1 h)
      clear hr
      subst e
      go_enter Tryz.func54,Tryz.ntmps54
      simp only [e4]
      clear e4 hT
      go_wp2_with (go_at_call 94;rw [← hW1];clear hW1;((with_reducible refine (HQ3.out _ (HB.out.chain HX0.out)).mono ?_);rintro e w4 ⟨rfl,hb⟩);have HX4:=Lib.hid (HX0.out.chain hb);clear hb;clear cx0 cy0 cx1 cy1 cx2 cy2 cx3 cy3)
      go_ret
      exact ⟨rfl,HB.out.chain HX4.out⟩
    | true =>
      have e : r = true:=hr.2 (by simp)
      clear hr
      subst e
      go_enter Tryz.func54,Tryz.ntmps54
      simp only [e4]
      clear e4 hT
      go_wp2_with (go_at_call 94;rw [← hW1];clear hW1;((with_reducible refine (HQ3.out _ (HB.out.chain HX0.out)).mono ?_);rintro e w4 ⟨rfl,hb⟩);have HX4:=Lib.hid (HX0.out.chain hb);clear hb;clear cx0 cy0 cx1 cy1 cx2 cy2 cx3 cy3)
      go_ret
      exact ⟨rfl,HB.out.chain HX4.out⟩
   ·have e : r = false:=Bool.eq_false_iff.2 (fun h => by have := hr.1 h;simp [h2] at this)
    have hs2 : (x2 == y2) = false:=by simpa using h2
    clear hr
    subst e
    go_enter Tryz.func54,Tryz.ntmps54
    simp only [e4]
    clear e4 hT
    go_wp2
    go_ret
    rw [← hW1]
    exact ⟨rfl,HB.out.chain HX0.out⟩
  ·have e : r = false:=Bool.eq_false_iff.2 (fun h => by have := hr.1 h;simp [h1] at this)
   clear hr
   subst e
   go_enter Tryz.func54,Tryz.ntmps54
   simp only [e4]
   clear e4 hT
   go_wp2
   go_ret
   rw [← hW1]
   exact ⟨rfl,HB.out.chain HX0.out⟩
 ·have e : r = false:=Bool.eq_false_iff.2 (fun h => by have := hr.1 h;simp [h0] at this)
  clear hr
  subst e
  go_enter Tryz.func54,Tryz.ntmps54
  simp only [e4]
  clear e4 hT
  go_wp2
  go_ret
  rw [← hW1]
  exact ⟨rfl,HB.out.chain HX0.out⟩
theorem eqc_core (cs ds : Array Value) (hcs : cs.size = 10) (hds : ds.size = 10) (x0 y0 : Int) (x1 y1 : Int) (x2 y2 : Int) (x3 y3 : List UInt8) (x4 y4 : Value) (x5 y5 : Int) (x6 y6 : Int) (x7 y7 : List UInt8) (x8 y8 : Value) (x9 y9 : Value)
 (kx0 : cs[0]? = some (.int .i64 x0)) (ky0 : ds[0]? = some (.int .i64 y0))
 (kx1 : cs[1]? = some (.int .i64 x1)) (ky1 : ds[1]? = some (.int .i64 y1))
 (kx2 : cs[2]? = some (.int .i64 x2)) (ky2 : ds[2]? = some (.int .i64 y2))
 (kx3 : cs[3]? = some (.string ⟨x3.toArray⟩)) (ky3 : ds[3]? = some (.string ⟨y3.toArray⟩))
 (kx4 : cs[4]? = some (x4)) (ky4 : ds[4]? = some (y4))
 (kx5 : cs[5]? = some (.int .i64 x5)) (ky5 : ds[5]? = some (.int .i64 y5))
 (kx6 : cs[6]? = some (.int .i64 x6)) (ky6 : ds[6]? = some (.int .i64 y6))
 (kx7 : cs[7]? = some (.string ⟨x7.toArray⟩)) (ky7 : ds[7]? = some (.string ⟨y7.toArray⟩))
 (kx8 : cs[8]? = some (x8)) (ky8 : ds[8]? = some (y8))
 (kx9 : cs[9]? = some (x9)) (ky9 : ds[9]? = some (y9)) (q1 : Bool) (q2 : Bool) (q3 : Bool) (w : World) (r : Bool)
 (hq1 : BC w 54 #[.agg #[.int .i64 x1,.int .i64 x2,.string ⟨x3.toArray⟩,x4],.agg #[.int .i64 y1,.int .i64 y2,.string ⟨y3.toArray⟩,y4]] q1)
 (hq2 : BC w 54 #[.agg #[.int .i64 x5,.int .i64 x6,.string ⟨x7.toArray⟩,x8],.agg #[.int .i64 y5,.int .i64 y6,.string ⟨y7.toArray⟩,y8]] q2)
 (hq3 : BC w 95 #[x9,y9,.func (.func 55) #[] #[]] q3)
 (hr : r = true ↔ x0 = y0 ∧ q1 = true ∧ q2 = true ∧ q3 = true) :
 Calls Tryz.prog 55 #[.agg cs,.agg ds] w fun e w' => e = .returned (.bool r) ∧ Below w.heap.size w w':=by
 obtain ⟨T,N,hT,hN,hag,hsz⟩:=hid_Cond
 have e4 : ∀ y : Operand,Op.box 36 y = Op.box T y:=fun y => by rw [hT]
 have HQ1:=Lib.hid hq1
 have HQ2:=Lib.hid hq2
 have HQ3:=Lib.hid hq3
 have hszc : cs.size = N:=hcs.trans hN.symm
 have hszd : ds.size = N:=hds.trans hN.symm
 obtain ⟨W1,hW1⟩ : ∃ W1,W1 = (w.alloc (.cells cs T)).alloc (.cells ds T):=⟨_,rfl⟩
 have HB : Hid (Below w.heap.size w W1):=Lib.hid (by rw [hW1];exact (below_alloc w _).chain (below_alloc _ _))
 have p1:=heap_keep (o:=.cells ds T) (heap_of_alloc w (.cells cs T))
 have p2:=heap_of_alloc (w.alloc (.cells cs T)) (.cells ds T)
 rw [size_of_alloc] at p2
 rw [← hW1] at p1 p2
 have HF : Hid (∀ W,Below W1.heap.size W1 W → W.cell? ⟨w.heap.size,0,none⟩ = some (.int .i64 x0) ∧ W.cell? ⟨w.heap.size + 1,0,none⟩ = some (.int .i64 y0) ∧ W.cell? ⟨w.heap.size,1,none⟩ = some (.int .i64 x1) ∧ W.cell? ⟨w.heap.size + 1,1,none⟩ = some (.int .i64 y1) ∧ W.cell? ⟨w.heap.size,2,none⟩ = some (.int .i64 x2) ∧ W.cell? ⟨w.heap.size + 1,2,none⟩ = some (.int .i64 y2) ∧ W.cell? ⟨w.heap.size,3,none⟩ = some (.string ⟨x3.toArray⟩) ∧ W.cell? ⟨w.heap.size + 1,3,none⟩ = some (.string ⟨y3.toArray⟩) ∧ W.cell? ⟨w.heap.size,4,none⟩ = some (x4) ∧ W.cell? ⟨w.heap.size + 1,4,none⟩ = some (y4) ∧ W.cell? ⟨w.heap.size,5,none⟩ = some (.int .i64 x5) ∧ W.cell? ⟨w.heap.size + 1,5,none⟩ = some (.int .i64 y5) ∧ W.cell? ⟨w.heap.size,6,none⟩ = some (.int .i64 x6) ∧ W.cell? ⟨w.heap.size + 1,6,none⟩ = some (.int .i64 y6) ∧ W.cell? ⟨w.heap.size,7,none⟩ = some (.string ⟨x7.toArray⟩) ∧ W.cell? ⟨w.heap.size + 1,7,none⟩ = some (.string ⟨y7.toArray⟩) ∧ W.cell? ⟨w.heap.size,8,none⟩ = some (x8) ∧ W.cell? ⟨w.heap.size + 1,8,none⟩ = some (y8) ∧ W.cell? ⟨w.heap.size,9,none⟩ = some (x9) ∧ W.cell? ⟨w.heap.size + 1,9,none⟩ = some (y9)):=Lib.hid (fun W hb => ⟨cell_of_block (kept_box hb p1) 0 kx0,cell_of_block (kept_box hb p2) 0 ky0,cell_of_block (kept_box hb p1) 1 kx1,cell_of_block (kept_box hb p2) 1 ky1,cell_of_block (kept_box hb p1) 2 kx2,cell_of_block (kept_box hb p2) 2 ky2,cell_of_block (kept_box hb p1) 3 kx3,cell_of_block (kept_box hb p2) 3 ky3,cell_of_block (kept_box hb p1) 4 kx4,cell_of_block (kept_box hb p2) 4 ky4,cell_of_block (kept_box hb p1) 5 kx5,cell_of_block (kept_box hb p2) 5 ky5,cell_of_block (kept_box hb p1) 6 kx6,cell_of_block (kept_box hb p2) 6 ky6,cell_of_block (kept_box hb p1) 7 kx7,cell_of_block (kept_box hb p2) 7 ky7,cell_of_block (kept_box hb p1) 8 kx8,cell_of_block (kept_box hb p2) 8 ky8,cell_of_block (kept_box hb p1) 9 kx9,cell_of_block (kept_box hb p2) 9 ky9⟩)
 have HX0:=Lib.hid (Below.refl W1.heap.size W1)
 have hF0:=HF.out _ HX0.out
 rw [hW1] at hF0
 obtain ⟨cx0,cy0,cx1,cy1,cx2,cy2,cx3,cy3,cx4,cy4,cx5,cy5,cx6,cy6,cx7,cy7,cx8,cy8,cx9,cy9⟩:=hF0
 clear hq1 hq2 hq3 hN p1 p2 hcs hds kx0 ky0 kx1 ky1 kx2 ky2 kx3 ky3 kx4 ky4 kx5 ky5 kx6 ky6 kx7 ky7 kx8 ky8 kx9 ky9
 by_cases h0 : x0 = y0
 ·subst h0
  cases q1 with
  | false =>
    have e : r = false:=Bool.eq_false_iff.2 (fun h => by simpa using hr.1 h)
    clear hr
    subst e
    go_enter Tryz.func55,Tryz.ntmps55
    simp only [e4]
    clear e4 hT
    go_wp2_with (go_at_call 54;rw [← hW1];clear hW1;((with_reducible refine (HQ1.out _ (HB.out.chain HX0.out)).mono ?_);rintro e w2 ⟨rfl,hb⟩);have HX2:=Lib.hid (HX0.out.chain hb);clear hb;clear cx0 cy0 cx1 cy1 cx2 cy2 cx3 cy3 cx4 cy4 cx5 cy5 cx6 cy6 cx7 cy7 cx8 cy8 cx9 cy9)
    go_ret
    exact ⟨rfl,HB.out.chain HX2.out⟩
  | true =>
    cases q2 with
    | false =>
      have e : r = false:=Bool.eq_false_iff.2 (fun h => by simpa using hr.1 h)
      clear hr
      subst e
      go_enter Tryz.func55,Tryz.ntmps55
      simp only [e4]
      clear e4 hT
      go_wp2_with (first
       | (go_at_call 54;rw [← hW1];clear hW1;((with_reducible refine (HQ1.out _ (HB.out.chain HX0.out)).mono ?_);rintro e w2 ⟨rfl,hb⟩);have HX2:=Lib.hid (HX0.out.chain hb);clear hb;clear cx0 cy0 cx1 cy1 cx2 cy2 cx3 cy3 cx4 cy4 cx5 cy5 cx6 cy6 cx7 cy7 cx8 cy8 cx9 cy9;obtain ⟨-,-,-,-,-,-,-,-,-,-,f2x5,f2y5,f2x6,f2y6,f2x7,f2y7,f2x8,f2y8,f2x9,f2y9⟩:=HF.out _ HX2.out)
       | (go_at_call 54;((with_reducible refine (HQ2.out _ (HB.out.chain HX2.out)).mono ?_);rintro e w3 ⟨rfl,hb⟩);have HX3:=Lib.hid (HX2.out.chain hb);clear hb;clear f2x5 f2y5 f2x6 f2y6 f2x7 f2y7 f2x8 f2y8 f2x9 f2y9))
      go_ret
      exact ⟨rfl,HB.out.chain HX3.out⟩
    | true =>
      cases q3 with
      | false =>
        have e : r = false:=Bool.eq_false_iff.2 (fun h => by simpa using hr.1 h)
        clear hr
        subst e
        go_enter Tryz.func55,Tryz.ntmps55
        simp only [e4]
        clear e4 hT
        go_wp2_with (first
         | (go_at_call 54;rw [← hW1];clear hW1;((with_reducible refine (HQ1.out _ (HB.out.chain HX0.out)).mono ?_);rintro e w2 ⟨rfl,hb⟩);have HX2:=Lib.hid (HX0.out.chain hb);clear hb;clear cx0 cy0 cx1 cy1 cx2 cy2 cx3 cy3 cx4 cy4 cx5 cy5 cx6 cy6 cx7 cy7 cx8 cy8 cx9 cy9;obtain ⟨-,-,-,-,-,-,-,-,-,-,f2x5,f2y5,f2x6,f2y6,f2x7,f2y7,f2x8,f2y8,f2x9,f2y9⟩:=HF.out _ HX2.out)
         | (go_at_call 54;((with_reducible refine (HQ2.out _ (HB.out.chain HX2.out)).mono ?_);rintro e w3 ⟨rfl,hb⟩);have HX3:=Lib.hid (HX2.out.chain hb);clear hb;clear f2x5 f2y5 f2x6 f2y6 f2x7 f2y7 f2x8 f2y8 f2x9 f2y9;obtain ⟨-,-,-,-,-,-,-,-,-,-,-,-,-,-,-,-,-,-,f3x9,f3y9⟩:=HF.out _ HX3.out)
         | (go_at_call 95;((with_reducible refine (HQ3.out _ (HB.out.chain HX3.out)).mono ?_);rintro e w4 ⟨rfl,hb⟩);have HX4:=Lib.hid (HX3.out.chain hb);clear hb;clear f3x9 f3y9))
        go_ret
        exact ⟨rfl,HB.out.chain HX4.out⟩
      | true =>
        have e : r = true:=hr.2 (by simp)
        clear hr
        subst e
        go_enter Tryz.func55,Tryz.ntmps55
        simp only [e4]
        clear e4 hT
        go_wp2_with (first
         | (go_at_call 54;rw [← hW1];clear hW1;((with_reducible refine (HQ1.out _ (HB.out.chain HX0.out)).mono ?_);rintro e w2 ⟨rfl,hb⟩);have HX2:=Lib.hid (HX0.out.chain hb);clear hb;clear cx0 cy0 cx1 cy1 cx2 cy2 cx3 cy3 cx4 cy4 cx5 cy5 cx6 cy6 cx7 cy7 cx8 cy8 cx9 cy9;obtain ⟨-,-,-,-,-,-,-,-,-,-,f2x5,f2y5,f2x6,f2y6,f2x7,f2y7,f2x8,f2y8,f2x9,f2y9⟩:=HF.out _ HX2.out)
         | (go_at_call 54;((with_reducible refine (HQ2.out _ (HB.out.chain HX2.out)).mono ?_);rintro e w3 ⟨rfl,hb⟩);have HX3:=Lib.hid (HX2.out.chain hb);clear hb;clear f2x5 f2y5 f2x6 f2y6 f2x7 f2y7 f2x8 f2y8 f2x9 f2y9;obtain ⟨-,-,-,-,-,-,-,-,-,-,-,-,-,-,-,-,-,-,f3x9,f3y9⟩:=HF.out _ HX3.out)
         | (go_at_call 95;((with_reducible refine (HQ3.out _ (HB.out.chain HX3.out)).mono ?_);rintro e w4 ⟨rfl,hb⟩);have HX4:=Lib.hid (HX3.out.chain hb);clear hb;clear f3x9 f3y9))
        go_ret
        exact ⟨rfl,HB.out.chain HX4.out⟩
 ·have e : r = false:=Bool.eq_false_iff.2 (fun h => by have := hr.1 h;simp [h0] at this)
  clear hr
  subst e
  go_enter Tryz.func55,Tryz.ntmps55
  simp only [e4]
  clear e4 hT
  go_wp2
  go_ret
  rw [← hW1]
  exact ⟨rfl,HB.out.chain HX0.out⟩
theorem eqa_core (cs ds : Array Value) (hcs : cs.size = 9) (hds : ds.size = 9) (x0 y0 : Int) (x1 y1 : Int) (x2 y2 : Int) (x3 y3 : List UInt8) (x4 y4 : Value) (x5 y5 : Int) (x6 y6 : Int) (x7 y7 : List UInt8) (x8 y8 : Value)
 (kx0 : cs[0]? = some (.int .i64 x0)) (ky0 : ds[0]? = some (.int .i64 y0))
 (kx1 : cs[1]? = some (.int .i64 x1)) (ky1 : ds[1]? = some (.int .i64 y1))
 (kx2 : cs[2]? = some (.int .i64 x2)) (ky2 : ds[2]? = some (.int .i64 y2))
 (kx3 : cs[3]? = some (.string ⟨x3.toArray⟩)) (ky3 : ds[3]? = some (.string ⟨y3.toArray⟩))
 (kx4 : cs[4]? = some (x4)) (ky4 : ds[4]? = some (y4))
 (kx5 : cs[5]? = some (.int .i64 x5)) (ky5 : ds[5]? = some (.int .i64 y5))
 (kx6 : cs[6]? = some (.int .i64 x6)) (ky6 : ds[6]? = some (.int .i64 y6))
 (kx7 : cs[7]? = some (.string ⟨x7.toArray⟩)) (ky7 : ds[7]? = some (.string ⟨y7.toArray⟩))
 (kx8 : cs[8]? = some (x8)) (ky8 : ds[8]? = some (y8)) (q1 : Bool) (q2 : Bool) (w : World) (r : Bool)
 (hq1 : BC w 54 #[.agg #[.int .i64 x1,.int .i64 x2,.string ⟨x3.toArray⟩,x4],.agg #[.int .i64 y1,.int .i64 y2,.string ⟨y3.toArray⟩,y4]] q1)
 (hq2 : BC w 54 #[.agg #[.int .i64 x5,.int .i64 x6,.string ⟨x7.toArray⟩,x8],.agg #[.int .i64 y5,.int .i64 y6,.string ⟨y7.toArray⟩,y8]] q2)
 (hr : r = true ↔ x0 = y0 ∧ q1 = true ∧ q2 = true) :
 Calls Tryz.prog 99 #[.agg cs,.agg ds] w fun e w' => e = .returned (.bool r) ∧ Below w.heap.size w w':=by
 obtain ⟨T,N,hT,hN,hag,hsz⟩:=hid_Atom
 have e4 : ∀ y : Operand,Op.box 102 y = Op.box T y:=fun y => by rw [hT]
 have HQ1:=Lib.hid hq1
 have HQ2:=Lib.hid hq2
 have hszc : cs.size = N:=hcs.trans hN.symm
 have hszd : ds.size = N:=hds.trans hN.symm
 obtain ⟨W1,hW1⟩ : ∃ W1,W1 = (w.alloc (.cells cs T)).alloc (.cells ds T):=⟨_,rfl⟩
 have HB : Hid (Below w.heap.size w W1):=Lib.hid (by rw [hW1];exact (below_alloc w _).chain (below_alloc _ _))
 have p1:=heap_keep (o:=.cells ds T) (heap_of_alloc w (.cells cs T))
 have p2:=heap_of_alloc (w.alloc (.cells cs T)) (.cells ds T)
 rw [size_of_alloc] at p2
 rw [← hW1] at p1 p2
 have HF : Hid (∀ W,Below W1.heap.size W1 W → W.cell? ⟨w.heap.size,0,none⟩ = some (.int .i64 x0) ∧ W.cell? ⟨w.heap.size + 1,0,none⟩ = some (.int .i64 y0) ∧ W.cell? ⟨w.heap.size,1,none⟩ = some (.int .i64 x1) ∧ W.cell? ⟨w.heap.size + 1,1,none⟩ = some (.int .i64 y1) ∧ W.cell? ⟨w.heap.size,2,none⟩ = some (.int .i64 x2) ∧ W.cell? ⟨w.heap.size + 1,2,none⟩ = some (.int .i64 y2) ∧ W.cell? ⟨w.heap.size,3,none⟩ = some (.string ⟨x3.toArray⟩) ∧ W.cell? ⟨w.heap.size + 1,3,none⟩ = some (.string ⟨y3.toArray⟩) ∧ W.cell? ⟨w.heap.size,4,none⟩ = some (x4) ∧ W.cell? ⟨w.heap.size + 1,4,none⟩ = some (y4) ∧ W.cell? ⟨w.heap.size,5,none⟩ = some (.int .i64 x5) ∧ W.cell? ⟨w.heap.size + 1,5,none⟩ = some (.int .i64 y5) ∧ W.cell? ⟨w.heap.size,6,none⟩ = some (.int .i64 x6) ∧ W.cell? ⟨w.heap.size + 1,6,none⟩ = some (.int .i64 y6) ∧ W.cell? ⟨w.heap.size,7,none⟩ = some (.string ⟨x7.toArray⟩) ∧ W.cell? ⟨w.heap.size + 1,7,none⟩ = some (.string ⟨y7.toArray⟩) ∧ W.cell? ⟨w.heap.size,8,none⟩ = some (x8) ∧ W.cell? ⟨w.heap.size + 1,8,none⟩ = some (y8)):=Lib.hid (fun W hb => ⟨cell_of_block (kept_box hb p1) 0 kx0,cell_of_block (kept_box hb p2) 0 ky0,cell_of_block (kept_box hb p1) 1 kx1,cell_of_block (kept_box hb p2) 1 ky1,cell_of_block (kept_box hb p1) 2 kx2,cell_of_block (kept_box hb p2) 2 ky2,cell_of_block (kept_box hb p1) 3 kx3,cell_of_block (kept_box hb p2) 3 ky3,cell_of_block (kept_box hb p1) 4 kx4,cell_of_block (kept_box hb p2) 4 ky4,cell_of_block (kept_box hb p1) 5 kx5,cell_of_block (kept_box hb p2) 5 ky5,cell_of_block (kept_box hb p1) 6 kx6,cell_of_block (kept_box hb p2) 6 ky6,cell_of_block (kept_box hb p1) 7 kx7,cell_of_block (kept_box hb p2) 7 ky7,cell_of_block (kept_box hb p1) 8 kx8,cell_of_block (kept_box hb p2) 8 ky8⟩)
 have HX0:=Lib.hid (Below.refl W1.heap.size W1)
 have hF0:=HF.out _ HX0.out
 rw [hW1] at hF0
 obtain ⟨cx0,cy0,cx1,cy1,cx2,cy2,cx3,cy3,cx4,cy4,cx5,cy5,cx6,cy6,cx7,cy7,cx8,cy8⟩:=hF0
 clear hq1 hq2 hN p1 p2 hcs hds kx0 ky0 kx1 ky1 kx2 ky2 kx3 ky3 kx4 ky4 kx5 ky5 kx6 ky6 kx7 ky7 kx8 ky8
 by_cases h0 : x0 = y0
 ·subst h0
  cases q1 with
  | false =>
    have e : r = false:=Bool.eq_false_iff.2 (fun h => by simpa using hr.1 h)
    clear hr
    subst e
    go_enter Tryz.func99,Tryz.ntmps99
    simp only [e4]
    clear e4 hT
    go_wp2_with (go_at_call 54;rw [← hW1];clear hW1;((with_reducible refine (HQ1.out _ (HB.out.chain HX0.out)).mono ?_);rintro e w2 ⟨rfl,hb⟩);have HX2:=Lib.hid (HX0.out.chain hb);clear hb;clear cx0 cy0 cx1 cy1 cx2 cy2 cx3 cy3 cx4 cy4 cx5 cy5 cx6 cy6 cx7 cy7 cx8 cy8)
    go_ret
    exact ⟨rfl,HB.out.chain HX2.out⟩
  | true =>
    cases q2 with
    | false =>
      have e : r = false:=Bool.eq_false_iff.2 (fun h => by simpa using hr.1 h)
      clear hr
      subst e
      go_enter Tryz.func99,Tryz.ntmps99
      simp only [e4]
      clear e4 hT
      go_wp2_with (first
       | (go_at_call 54;rw [← hW1];clear hW1;((with_reducible refine (HQ1.out _ (HB.out.chain HX0.out)).mono ?_);rintro e w2 ⟨rfl,hb⟩);have HX2:=Lib.hid (HX0.out.chain hb);clear hb;clear cx0 cy0 cx1 cy1 cx2 cy2 cx3 cy3 cx4 cy4 cx5 cy5 cx6 cy6 cx7 cy7 cx8 cy8;obtain ⟨-,-,-,-,-,-,-,-,-,-,f2x5,f2y5,f2x6,f2y6,f2x7,f2y7,f2x8,f2y8⟩:=HF.out _ HX2.out)
       | (go_at_call 54;((with_reducible refine (HQ2.out _ (HB.out.chain HX2.out)).mono ?_);rintro e w3 ⟨rfl,hb⟩);have HX3:=Lib.hid (HX2.out.chain hb);clear hb;clear f2x5 f2y5 f2x6 f2y6 f2x7 f2y7 f2x8 f2y8))
      go_ret
      exact ⟨rfl,HB.out.chain HX3.out⟩
    | true =>
      have e : r = true:=hr.2 (by simp)
      clear hr
      subst e
      go_enter Tryz.func99,Tryz.ntmps99
      simp only [e4]
      clear e4 hT
      go_wp2_with (first
       | (go_at_call 54;rw [← hW1];clear hW1;((with_reducible refine (HQ1.out _ (HB.out.chain HX0.out)).mono ?_);rintro e w2 ⟨rfl,hb⟩);have HX2:=Lib.hid (HX0.out.chain hb);clear hb;clear cx0 cy0 cx1 cy1 cx2 cy2 cx3 cy3 cx4 cy4 cx5 cy5 cx6 cy6 cx7 cy7 cx8 cy8;obtain ⟨-,-,-,-,-,-,-,-,-,-,f2x5,f2y5,f2x6,f2y6,f2x7,f2y7,f2x8,f2y8⟩:=HF.out _ HX2.out)
       | (go_at_call 54;((with_reducible refine (HQ2.out _ (HB.out.chain HX2.out)).mono ?_);rintro e w3 ⟨rfl,hb⟩);have HX3:=Lib.hid (HX2.out.chain hb);clear hb;clear f2x5 f2y5 f2x6 f2y6 f2x7 f2y7 f2x8 f2y8))
      go_ret
      exact ⟨rfl,HB.out.chain HX3.out⟩
 ·have e : r = false:=Bool.eq_false_iff.2 (fun h => by have := hr.1 h;simp [h0] at this)
  clear hr
  subst e
  go_enter Tryz.func99,Tryz.ntmps99
  simp only [e4]
  clear e4 hT
  go_wp2
  go_ret
  rw [← hW1]
  exact ⟨rfl,HB.out.chain HX0.out⟩
theorem eqcl_core (cs ds : Array Value) (hcs : cs.size = 3) (hds : ds.size = 3) (x0 y0 : Int) (x1 y1 : List UInt8) (x2 y2 : Value)
 (kx0 : cs[0]? = some (.int .i64 x0)) (ky0 : ds[0]? = some (.int .i64 y0))
 (kx1 : cs[1]? = some (.string ⟨x1.toArray⟩)) (ky1 : ds[1]? = some (.string ⟨y1.toArray⟩))
 (kx2 : cs[2]? = some (x2)) (ky2 : ds[2]? = some (y2)) (q2 : Bool) (w : World) (r : Bool)
 (hq2 : BC w 94 #[x2,y2,.func (.func 54) #[] #[]] q2)
 (hr : r = true ↔ x0 = y0 ∧ x1 = y1 ∧ q2 = true) :
 Calls Tryz.prog 101 #[.agg cs,.agg ds] w fun e w' => e = .returned (.bool r) ∧ Below w.heap.size w w':=by
 obtain ⟨T,N,hT,hN,hag,hsz⟩:=hid_Cell
 have e4 : ∀ y : Operand,Op.box 104 y = Op.box T y:=fun y => by rw [hT]
 have HQ2:=Lib.hid hq2
 have hszc : cs.size = N:=hcs.trans hN.symm
 have hszd : ds.size = N:=hds.trans hN.symm
 obtain ⟨W1,hW1⟩ : ∃ W1,W1 = (w.alloc (.cells cs T)).alloc (.cells ds T):=⟨_,rfl⟩
 have HB : Hid (Below w.heap.size w W1):=Lib.hid (by rw [hW1];exact (below_alloc w _).chain (below_alloc _ _))
 have p1:=heap_keep (o:=.cells ds T) (heap_of_alloc w (.cells cs T))
 have p2:=heap_of_alloc (w.alloc (.cells cs T)) (.cells ds T)
 rw [size_of_alloc] at p2
 rw [← hW1] at p1 p2
 have HF : Hid (∀ W,Below W1.heap.size W1 W → W.cell? ⟨w.heap.size,0,none⟩ = some (.int .i64 x0) ∧ W.cell? ⟨w.heap.size + 1,0,none⟩ = some (.int .i64 y0) ∧ W.cell? ⟨w.heap.size,1,none⟩ = some (.string ⟨x1.toArray⟩) ∧ W.cell? ⟨w.heap.size + 1,1,none⟩ = some (.string ⟨y1.toArray⟩) ∧ W.cell? ⟨w.heap.size,2,none⟩ = some (x2) ∧ W.cell? ⟨w.heap.size + 1,2,none⟩ = some (y2)):=Lib.hid (fun W hb => ⟨cell_of_block (kept_box hb p1) 0 kx0,cell_of_block (kept_box hb p2) 0 ky0,cell_of_block (kept_box hb p1) 1 kx1,cell_of_block (kept_box hb p2) 1 ky1,cell_of_block (kept_box hb p1) 2 kx2,cell_of_block (kept_box hb p2) 2 ky2⟩)
 have HX0:=Lib.hid (Below.refl W1.heap.size W1)
 have hF0:=HF.out _ HX0.out
 rw [hW1] at hF0
 obtain ⟨cx0,cy0,cx1,cy1,cx2,cy2⟩:=hF0
 clear hq2 hN p1 p2 hcs hds kx0 ky0 kx1 ky1 kx2 ky2
 by_cases h0 : x0 = y0
 ·subst h0
  by_cases h1 : x1 = y1
  ·subst h1
   cases q2 with
   | false =>
     have e : r = false:=Bool.eq_false_iff.2 (fun h => by simpa using hr.1 h)
     clear hr
     subst e
     go_enter Tryz.func101,Tryz.ntmps101
     simp only [e4]
     clear e4 hT
     go_wp2_with (go_at_call 94;rw [← hW1];clear hW1;((with_reducible refine (HQ2.out _ (HB.out.chain HX0.out)).mono ?_);rintro e w3 ⟨rfl,hb⟩);have HX3:=Lib.hid (HX0.out.chain hb);clear hb;clear cx0 cy0 cx1 cy1 cx2 cy2)
     go_ret
     exact ⟨rfl,HB.out.chain HX3.out⟩
   | true =>
     have e : r = true:=hr.2 (by simp)
     clear hr
     subst e
     go_enter Tryz.func101,Tryz.ntmps101
     simp only [e4]
     clear e4 hT
     go_wp2_with (go_at_call 94;rw [← hW1];clear hW1;((with_reducible refine (HQ2.out _ (HB.out.chain HX0.out)).mono ?_);rintro e w3 ⟨rfl,hb⟩);have HX3:=Lib.hid (HX0.out.chain hb);clear hb;clear cx0 cy0 cx1 cy1 cx2 cy2)
     go_ret
     exact ⟨rfl,HB.out.chain HX3.out⟩
  ·have e : r = false:=Bool.eq_false_iff.2 (fun h => by have := hr.1 h;simp [h1] at this)
   have hs1 : (x1 == y1) = false:=by simpa using h1
   clear hr
   subst e
   go_enter Tryz.func101,Tryz.ntmps101
   simp only [e4]
   clear e4 hT
   go_wp2
   go_ret
   rw [← hW1]
   exact ⟨rfl,HB.out.chain HX0.out⟩
 ·have e : r = false:=Bool.eq_false_iff.2 (fun h => by have := hr.1 h;simp [h0] at this)
  clear hr
  subst e
  go_enter Tryz.func101,Tryz.ntmps101
  simp only [e4]
  clear e4 hT
  go_wp2
  go_ret
  rw [← hW1]
  exact ⟨rfl,HB.out.chain HX0.out⟩
theorem eqca_core (cs ds : Array Value) (hcs : cs.size = 3) (hds : ds.size = 3) (x0 y0 : List UInt8) (x1 y1 : List UInt8) (x2 y2 : Value)
 (kx0 : cs[0]? = some (.string ⟨x0.toArray⟩)) (ky0 : ds[0]? = some (.string ⟨y0.toArray⟩))
 (kx1 : cs[1]? = some (.string ⟨x1.toArray⟩)) (ky1 : ds[1]? = some (.string ⟨y1.toArray⟩))
 (kx2 : cs[2]? = some (x2)) (ky2 : ds[2]? = some (y2)) (q2 : Bool) (w : World) (r : Bool)
 (hq2 : BC w 94 #[x2,y2,.func (.func 54) #[] #[]] q2)
 (hr : r = true ↔ x0 = y0 ∧ x1 = y1 ∧ q2 = true) :
 Calls Tryz.prog 57 #[.agg cs,.agg ds] w fun e w' => e = .returned (.bool r) ∧ Below w.heap.size w w':=by
 obtain ⟨T,N,hT,hN,hag,hsz⟩:=hid_Call
 have e4 : ∀ y : Operand,Op.box 79 y = Op.box T y:=fun y => by rw [hT]
 have HQ2:=Lib.hid hq2
 have hszc : cs.size = N:=hcs.trans hN.symm
 have hszd : ds.size = N:=hds.trans hN.symm
 obtain ⟨W1,hW1⟩ : ∃ W1,W1 = (w.alloc (.cells cs T)).alloc (.cells ds T):=⟨_,rfl⟩
 have HB : Hid (Below w.heap.size w W1):=Lib.hid (by rw [hW1];exact (below_alloc w _).chain (below_alloc _ _))
 have p1:=heap_keep (o:=.cells ds T) (heap_of_alloc w (.cells cs T))
 have p2:=heap_of_alloc (w.alloc (.cells cs T)) (.cells ds T)
 rw [size_of_alloc] at p2
 rw [← hW1] at p1 p2
 have HF : Hid (∀ W,Below W1.heap.size W1 W → W.cell? ⟨w.heap.size,0,none⟩ = some (.string ⟨x0.toArray⟩) ∧ W.cell? ⟨w.heap.size + 1,0,none⟩ = some (.string ⟨y0.toArray⟩) ∧ W.cell? ⟨w.heap.size,1,none⟩ = some (.string ⟨x1.toArray⟩) ∧ W.cell? ⟨w.heap.size + 1,1,none⟩ = some (.string ⟨y1.toArray⟩) ∧ W.cell? ⟨w.heap.size,2,none⟩ = some (x2) ∧ W.cell? ⟨w.heap.size + 1,2,none⟩ = some (y2)):=Lib.hid (fun W hb => ⟨cell_of_block (kept_box hb p1) 0 kx0,cell_of_block (kept_box hb p2) 0 ky0,cell_of_block (kept_box hb p1) 1 kx1,cell_of_block (kept_box hb p2) 1 ky1,cell_of_block (kept_box hb p1) 2 kx2,cell_of_block (kept_box hb p2) 2 ky2⟩)
 have HX0:=Lib.hid (Below.refl W1.heap.size W1)
 have hF0:=HF.out _ HX0.out
 rw [hW1] at hF0
 obtain ⟨cx0,cy0,cx1,cy1,cx2,cy2⟩:=hF0
 clear hq2 hN p1 p2 hcs hds kx0 ky0 kx1 ky1 kx2 ky2
 by_cases h0 : x0 = y0
 ·subst h0
  by_cases h1 : x1 = y1
  ·subst h1
   cases q2 with
   | false =>
     have e : r = false:=Bool.eq_false_iff.2 (fun h => by simpa using hr.1 h)
     clear hr
     subst e
     go_enter Tryz.func57,Tryz.ntmps57
     simp only [e4]
     clear e4 hT
     go_wp2_with (go_at_call 94;rw [← hW1];clear hW1;((with_reducible refine (HQ2.out _ (HB.out.chain HX0.out)).mono ?_);rintro e w3 ⟨rfl,hb⟩);have HX3:=Lib.hid (HX0.out.chain hb);clear hb;clear cx0 cy0 cx1 cy1 cx2 cy2)
     go_ret
     exact ⟨rfl,HB.out.chain HX3.out⟩
   | true =>
     have e : r = true:=hr.2 (by simp)
     clear hr
     subst e
     go_enter Tryz.func57,Tryz.ntmps57
     simp only [e4]
     clear e4 hT
     go_wp2_with (go_at_call 94;rw [← hW1];clear hW1;((with_reducible refine (HQ2.out _ (HB.out.chain HX0.out)).mono ?_);rintro e w3 ⟨rfl,hb⟩);have HX3:=Lib.hid (HX0.out.chain hb);clear hb;clear cx0 cy0 cx1 cy1 cx2 cy2)
     go_ret
     exact ⟨rfl,HB.out.chain HX3.out⟩
  ·have e : r = false:=Bool.eq_false_iff.2 (fun h => by have := hr.1 h;simp [h1] at this)
   have hs1 : (x1 == y1) = false:=by simpa using h1
   clear hr
   subst e
   go_enter Tryz.func57,Tryz.ntmps57
   simp only [e4]
   clear e4 hT
   go_wp2
   go_ret
   rw [← hW1]
   exact ⟨rfl,HB.out.chain HX0.out⟩
 ·have e : r = false:=Bool.eq_false_iff.2 (fun h => by have := hr.1 h;simp [h0] at this)
  have hs0 : (x0 == y0) = false:=by simpa using h0
  clear hr
  subst e
  go_enter Tryz.func57,Tryz.ntmps57
  simp only [e4]
  clear e4 hT
  go_wp2
  go_ret
  rw [← hW1]
  exact ⟨rfl,HB.out.chain HX0.out⟩
theorem eqf_core (cs ds : Array Value) (hcs : cs.size = 3) (hds : ds.size = 3) (x0 y0 : Value) (x1 y1 : Value) (x2 y2 : Value)
 (kx0 : cs[0]? = some (x0)) (ky0 : ds[0]? = some (y0))
 (kx1 : cs[1]? = some (x1)) (ky1 : ds[1]? = some (y1))
 (kx2 : cs[2]? = some (x2)) (ky2 : ds[2]? = some (y2)) (q0 : Bool) (q1 : Bool) (q2 : Bool) (w : World) (r : Bool)
 (hq0 : BC w 96 #[x0,y0,.func (.func 97) #[] #[]] q0)
 (hq1 : BC w 98 #[x1,y1,.func (.func 99) #[] #[]] q1)
 (hq2 : BC w 100 #[x2,y2,.func (.func 101) #[] #[]] q2)
 (hr : r = true ↔ q0 = true ∧ q1 = true ∧ q2 = true) :
 Calls Tryz.prog 59 #[.agg cs,.agg ds] w fun e w' => e = .returned (.bool r) ∧ Below w.heap.size w w':=by
 obtain ⟨T,N,hT,hN,hag,hsz⟩:=hid_Formula
 have e4 : ∀ y : Operand,Op.box 63 y = Op.box T y:=fun y => by rw [hT]
 have HQ0:=Lib.hid hq0
 have HQ1:=Lib.hid hq1
 have HQ2:=Lib.hid hq2
 have hszc : cs.size = N:=hcs.trans hN.symm
 have hszd : ds.size = N:=hds.trans hN.symm
 obtain ⟨W1,hW1⟩ : ∃ W1,W1 = (w.alloc (.cells cs T)).alloc (.cells ds T):=⟨_,rfl⟩
 have HB : Hid (Below w.heap.size w W1):=Lib.hid (by rw [hW1];exact (below_alloc w _).chain (below_alloc _ _))
 have p1:=heap_keep (o:=.cells ds T) (heap_of_alloc w (.cells cs T))
 have p2:=heap_of_alloc (w.alloc (.cells cs T)) (.cells ds T)
 rw [size_of_alloc] at p2
 rw [← hW1] at p1 p2
 have HF : Hid (∀ W,Below W1.heap.size W1 W → W.cell? ⟨w.heap.size,0,none⟩ = some (x0) ∧ W.cell? ⟨w.heap.size + 1,0,none⟩ = some (y0) ∧ W.cell? ⟨w.heap.size,1,none⟩ = some (x1) ∧ W.cell? ⟨w.heap.size + 1,1,none⟩ = some (y1) ∧ W.cell? ⟨w.heap.size,2,none⟩ = some (x2) ∧ W.cell? ⟨w.heap.size + 1,2,none⟩ = some (y2)):=Lib.hid (fun W hb => ⟨cell_of_block (kept_box hb p1) 0 kx0,cell_of_block (kept_box hb p2) 0 ky0,cell_of_block (kept_box hb p1) 1 kx1,cell_of_block (kept_box hb p2) 1 ky1,cell_of_block (kept_box hb p1) 2 kx2,cell_of_block (kept_box hb p2) 2 ky2⟩)
 have HX0:=Lib.hid (Below.refl W1.heap.size W1)
 have hF0:=HF.out _ HX0.out
 rw [hW1] at hF0
 obtain ⟨cx0,cy0,cx1,cy1,cx2,cy2⟩:=hF0
 clear hq0 hq1 hq2 hN p1 p2 hcs hds kx0 ky0 kx1 ky1 kx2 ky2
 cases q0 with
 | false =>
   have e : r = false:=Bool.eq_false_iff.2 (fun h => by simpa using hr.1 h)
   clear hr
   subst e
   go_enter Tryz.func59,Tryz.ntmps59
   simp only [e4]
   clear e4 hT
   go_wp2_with (go_at_call 96;rw [← hW1];clear hW1;((with_reducible refine (HQ0.out _ (HB.out.chain HX0.out)).mono ?_);rintro e w1 ⟨rfl,hb⟩);have HX1:=Lib.hid (HX0.out.chain hb);clear hb;clear cx0 cy0 cx1 cy1 cx2 cy2)
   go_ret
   exact ⟨rfl,HB.out.chain HX1.out⟩
 | true =>
   cases q1 with
   | false =>
     have e : r = false:=Bool.eq_false_iff.2 (fun h => by simpa using hr.1 h)
     clear hr
     subst e
     go_enter Tryz.func59,Tryz.ntmps59
     simp only [e4]
     clear e4 hT
     go_wp2_with (first
      | (go_at_call 96;rw [← hW1];clear hW1;((with_reducible refine (HQ0.out _ (HB.out.chain HX0.out)).mono ?_);rintro e w1 ⟨rfl,hb⟩);have HX1:=Lib.hid (HX0.out.chain hb);clear hb;clear cx0 cy0 cx1 cy1 cx2 cy2;obtain ⟨-,-,f1x1,f1y1,f1x2,f1y2⟩:=HF.out _ HX1.out)
      | (go_at_call 98;((with_reducible refine (HQ1.out _ (HB.out.chain HX1.out)).mono ?_);rintro e w2 ⟨rfl,hb⟩);have HX2:=Lib.hid (HX1.out.chain hb);clear hb;clear f1x1 f1y1 f1x2 f1y2))
     go_ret
     exact ⟨rfl,HB.out.chain HX2.out⟩
   | true =>
     cases q2 with
     | false =>
       have e : r = false:=Bool.eq_false_iff.2 (fun h => by simpa using hr.1 h)
       clear hr
       subst e
       go_enter Tryz.func59,Tryz.ntmps59
       simp only [e4]
       clear e4 hT
       go_wp2_with (first
        | (go_at_call 96;rw [← hW1];clear hW1;((with_reducible refine (HQ0.out _ (HB.out.chain HX0.out)).mono ?_);rintro e w1 ⟨rfl,hb⟩);have HX1:=Lib.hid (HX0.out.chain hb);clear hb;clear cx0 cy0 cx1 cy1 cx2 cy2;obtain ⟨-,-,f1x1,f1y1,f1x2,f1y2⟩:=HF.out _ HX1.out)
        | (go_at_call 98;((with_reducible refine (HQ1.out _ (HB.out.chain HX1.out)).mono ?_);rintro e w2 ⟨rfl,hb⟩);have HX2:=Lib.hid (HX1.out.chain hb);clear hb;clear f1x1 f1y1 f1x2 f1y2;obtain ⟨-,-,-,-,f2x2,f2y2⟩:=HF.out _ HX2.out)
        | (go_at_call 100;((with_reducible refine (HQ2.out _ (HB.out.chain HX2.out)).mono ?_);rintro e w3 ⟨rfl,hb⟩);have HX3:=Lib.hid (HX2.out.chain hb);clear hb;clear f2x2 f2y2))
       go_ret
       exact ⟨rfl,HB.out.chain HX3.out⟩
     | true =>
       have e : r = true:=hr.2 (by simp)
       clear hr
       subst e
       go_enter Tryz.func59,Tryz.ntmps59
       simp only [e4]
       clear e4 hT
       go_wp2_with (first
        | (go_at_call 96;rw [← hW1];clear hW1;((with_reducible refine (HQ0.out _ (HB.out.chain HX0.out)).mono ?_);rintro e w1 ⟨rfl,hb⟩);have HX1:=Lib.hid (HX0.out.chain hb);clear hb;clear cx0 cy0 cx1 cy1 cx2 cy2;obtain ⟨-,-,f1x1,f1y1,f1x2,f1y2⟩:=HF.out _ HX1.out)
        | (go_at_call 98;((with_reducible refine (HQ1.out _ (HB.out.chain HX1.out)).mono ?_);rintro e w2 ⟨rfl,hb⟩);have HX2:=Lib.hid (HX1.out.chain hb);clear hb;clear f1x1 f1y1 f1x2 f1y2;obtain ⟨-,-,-,-,f2x2,f2y2⟩:=HF.out _ HX2.out)
        | (go_at_call 100;((with_reducible refine (HQ2.out _ (HB.out.chain HX2.out)).mono ?_);rintro e w3 ⟨rfl,hb⟩);have HX3:=Lib.hid (HX2.out.chain hb);clear hb;clear f2x2 f2y2))
       go_ret
       exact ⟨rfl,HB.out.chain HX3.out⟩
end Go.Proofs.YtnkpgpmaiicdeaaGreatDoor
