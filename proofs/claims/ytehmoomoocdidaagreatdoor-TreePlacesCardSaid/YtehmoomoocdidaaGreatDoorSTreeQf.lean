/-
  Items of programs, and programs, compared part by part.
-/
import Derived.Test.YtehmoomoocdidaaGreatDoorSTreeQa
set_option linter.unusedVariables false
set_option linter.unusedSimpArgs false
namespace Go.Proofs.YtehmoomoocdidaaGreatDoor
set_option maxRecDepth 100000
set_option maxHeartbeats 8000000
open Go.RowKit
theorem eqrc_core (cs ds : Array Value) (hcs : cs.size = 2) (hds : ds.size = 2) (x0 y0 : List UInt8) (x1 y1 : Value)
 (kx0 : cs[0]? = some (.string ⟨x0.toArray⟩)) (ky0 : ds[0]? = some (.string ⟨y0.toArray⟩))
 (kx1 : cs[1]? = some (x1)) (ky1 : ds[1]? = some (y1)) (q1 : Bool) (w : World) (r : Bool)
 (hq1 : BC w 20 #[x1,y1,.func (.func 21) #[] #[]] q1)
 (hr : r = true ↔ x0 = y0 ∧ q1 = true) :
 Calls Tryz.prog 19 #[.agg cs,.agg ds] w fun e w' => e = .returned (.bool r) ∧ Below w.heap.size w w':=by
 obtain ⟨T,N,hT,hN,hag,hsz⟩:=hid_Record
 have e4 : ∀ y : Operand,Op.box 77 y = Op.box T y:=fun y => by rw [hT]
 have HQ1:=Lib.hid hq1
 have hszc : cs.size = N:=hcs.trans hN.symm
 have hszd : ds.size = N:=hds.trans hN.symm
 obtain ⟨W1,hW1⟩ : ∃ W1,W1 = (w.alloc (.cells cs T)).alloc (.cells ds T):=⟨_,rfl⟩
 have HB : Hid (Below w.heap.size w W1):=Lib.hid (by rw [hW1];exact (below_alloc w _).chain (below_alloc _ _))
 have p1:=heap_keep (o:=.cells ds T) (heap_of_alloc w (.cells cs T))
 have p2:=heap_of_alloc (w.alloc (.cells cs T)) (.cells ds T)
 rw [size_of_alloc] at p2
 rw [← hW1] at p1 p2
 have HF : Hid (∀ W,Below W1.heap.size W1 W → W.cell? ⟨w.heap.size,0,none⟩ = some (.string ⟨x0.toArray⟩) ∧ W.cell? ⟨w.heap.size + 1,0,none⟩ = some (.string ⟨y0.toArray⟩) ∧ W.cell? ⟨w.heap.size,1,none⟩ = some (x1) ∧ W.cell? ⟨w.heap.size + 1,1,none⟩ = some (y1)):=Lib.hid (fun W hb => ⟨cell_of_block (kept_box hb p1) 0 kx0,cell_of_block (kept_box hb p2) 0 ky0,cell_of_block (kept_box hb p1) 1 kx1,cell_of_block (kept_box hb p2) 1 ky1⟩)
 have HX0:=Lib.hid (Below.refl W1.heap.size W1)
 have hF0:=HF.out _ HX0.out
 rw [hW1] at hF0
 obtain ⟨cx0,cy0,cx1,cy1⟩:=hF0
 clear hq1 hN p1 p2 hcs hds kx0 ky0 kx1 ky1
 by_cases h0 : x0 = y0
 ·subst h0
  cases q1 with
  | false =>
    have e : r = false:=Bool.eq_false_iff.2 (fun h => by simpa using hr.1 h)
    clear hr
    subst e
    go_enter Tryz.func19,Tryz.ntmps19
    simp only [e4]
    clear e4 hT
    go_wp2_with (go_at_call 20;rw [← hW1];clear hW1;((with_reducible refine (HQ1.out _ (HB.out.chain HX0.out)).mono ?_);rintro e w2 ⟨rfl,hb⟩);have HX2:=Lib.hid (HX0.out.chain hb);clear hb;clear cx0 cy0 cx1 cy1)
    go_ret
    exact ⟨rfl,HB.out.chain HX2.out⟩
  | true =>
    have e : r = true:=hr.2 (by simp)
    clear hr
    subst e
    go_enter Tryz.func19,Tryz.ntmps19
    simp only [e4]
    clear e4 hT
    go_wp2_with (go_at_call 20;rw [← hW1];clear hW1;((with_reducible refine (HQ1.out _ (HB.out.chain HX0.out)).mono ?_);rintro e w2 ⟨rfl,hb⟩);have HX2:=Lib.hid (HX0.out.chain hb);clear hb;clear cx0 cy0 cx1 cy1)
    go_ret
    exact ⟨rfl,HB.out.chain HX2.out⟩
 ·have e : r = false:=Bool.eq_false_iff.2 (fun h => by have := hr.1 h;simp [h0] at this)
  have hs0 : (x0 == y0) = false:=by simpa using h0
  clear hr
  subst e
  go_enter Tryz.func19,Tryz.ntmps19
  simp only [e4]
  clear e4 hT
  go_wp2
  go_ret
  rw [← hW1]
  exact ⟨rfl,HB.out.chain HX0.out⟩
theorem eqlk_core (cs ds : Array Value) (hcs : cs.size = 2) (hds : ds.size = 2) (x0 y0 : List UInt8) (x1 y1 : Value)
 (kx0 : cs[0]? = some (.string ⟨x0.toArray⟩)) (ky0 : ds[0]? = some (.string ⟨y0.toArray⟩))
 (kx1 : cs[1]? = some (x1)) (ky1 : ds[1]? = some (y1)) (q1 : Bool) (w : World) (r : Bool)
 (hq1 : BC w 43 #[x1,y1,.func (.func 44) #[] #[]] q1)
 (hr : r = true ↔ x0 = y0 ∧ q1 = true) :
 Calls Tryz.prog 23 #[.agg cs,.agg ds] w fun e w' => e = .returned (.bool r) ∧ Below w.heap.size w w':=by
 obtain ⟨T,N,hT,hN,hag,hsz⟩:=hid_Lock
 have e4 : ∀ y : Operand,Op.box 73 y = Op.box T y:=fun y => by rw [hT]
 have HQ1:=Lib.hid hq1
 have hszc : cs.size = N:=hcs.trans hN.symm
 have hszd : ds.size = N:=hds.trans hN.symm
 obtain ⟨W1,hW1⟩ : ∃ W1,W1 = (w.alloc (.cells cs T)).alloc (.cells ds T):=⟨_,rfl⟩
 have HB : Hid (Below w.heap.size w W1):=Lib.hid (by rw [hW1];exact (below_alloc w _).chain (below_alloc _ _))
 have p1:=heap_keep (o:=.cells ds T) (heap_of_alloc w (.cells cs T))
 have p2:=heap_of_alloc (w.alloc (.cells cs T)) (.cells ds T)
 rw [size_of_alloc] at p2
 rw [← hW1] at p1 p2
 have HF : Hid (∀ W,Below W1.heap.size W1 W → W.cell? ⟨w.heap.size,0,none⟩ = some (.string ⟨x0.toArray⟩) ∧ W.cell? ⟨w.heap.size + 1,0,none⟩ = some (.string ⟨y0.toArray⟩) ∧ W.cell? ⟨w.heap.size,1,none⟩ = some (x1) ∧ W.cell? ⟨w.heap.size + 1,1,none⟩ = some (y1)):=Lib.hid (fun W hb => ⟨cell_of_block (kept_box hb p1) 0 kx0,cell_of_block (kept_box hb p2) 0 ky0,cell_of_block (kept_box hb p1) 1 kx1,cell_of_block (kept_box hb p2) 1 ky1⟩)
 have HX0:=Lib.hid (Below.refl W1.heap.size W1)
 have hF0:=HF.out _ HX0.out
 rw [hW1] at hF0
 obtain ⟨cx0,cy0,cx1,cy1⟩:=hF0
 clear hq1 hN p1 p2 hcs hds kx0 ky0 kx1 ky1
 by_cases h0 : x0 = y0
 ·subst h0
  cases q1 with
  | false =>
    have e : r = false:=Bool.eq_false_iff.2 (fun h => by simpa using hr.1 h)
    clear hr
    subst e
    go_enter Tryz.func23,Tryz.ntmps23
    simp only [e4]
    clear e4 hT
    go_wp2_with (go_at_call 43;rw [← hW1];clear hW1;((with_reducible refine (HQ1.out _ (HB.out.chain HX0.out)).mono ?_);rintro e w2 ⟨rfl,hb⟩);have HX2:=Lib.hid (HX0.out.chain hb);clear hb;clear cx0 cy0 cx1 cy1)
    go_ret
    exact ⟨rfl,HB.out.chain HX2.out⟩
  | true =>
    have e : r = true:=hr.2 (by simp)
    clear hr
    subst e
    go_enter Tryz.func23,Tryz.ntmps23
    simp only [e4]
    clear e4 hT
    go_wp2_with (go_at_call 43;rw [← hW1];clear hW1;((with_reducible refine (HQ1.out _ (HB.out.chain HX0.out)).mono ?_);rintro e w2 ⟨rfl,hb⟩);have HX2:=Lib.hid (HX0.out.chain hb);clear hb;clear cx0 cy0 cx1 cy1)
    go_ret
    exact ⟨rfl,HB.out.chain HX2.out⟩
 ·have e : r = false:=Bool.eq_false_iff.2 (fun h => by have := hr.1 h;simp [h0] at this)
  have hs0 : (x0 == y0) = false:=by simpa using h0
  clear hr
  subst e
  go_enter Tryz.func23,Tryz.ntmps23
  simp only [e4]
  clear e4 hT
  go_wp2
  go_ret
  rw [← hW1]
  exact ⟨rfl,HB.out.chain HX0.out⟩
theorem eqdf_core (cs ds : Array Value) (hcs : cs.size = 3) (hds : ds.size = 3) (x0 y0 : List UInt8) (x1 y1 : Value) (x2 y2 : Value)
 (kx0 : cs[0]? = some (.string ⟨x0.toArray⟩)) (ky0 : ds[0]? = some (.string ⟨y0.toArray⟩))
 (kx1 : cs[1]? = some (x1)) (ky1 : ds[1]? = some (y1))
 (kx2 : cs[2]? = some (x2)) (ky2 : ds[2]? = some (y2)) (q1 : Bool) (q2 : Bool) (w : World) (r : Bool)
 (hq1 : BC w 20 #[x1,y1,.func (.func 21) #[] #[]] q1)
 (hq2 : BC w 43 #[x2,y2,.func (.func 44) #[] #[]] q2)
 (hr : r = true ↔ x0 = y0 ∧ q1 = true ∧ q2 = true) :
 Calls Tryz.prog 25 #[.agg cs,.agg ds] w fun e w' => e = .returned (.bool r) ∧ Below w.heap.size w w':=by
 obtain ⟨T,N,hT,hN,hag,hsz⟩:=hid_Def
 have e4 : ∀ y : Operand,Op.box 65 y = Op.box T y:=fun y => by rw [hT]
 have HQ1:=Lib.hid hq1
 have HQ2:=Lib.hid hq2
 have hszc : cs.size = N:=hcs.trans hN.symm
 have hszd : ds.size = N:=hds.trans hN.symm
 obtain ⟨W1,hW1⟩ : ∃ W1,W1 = (w.alloc (.cells cs T)).alloc (.cells ds T):=⟨_,rfl⟩
 have HB : Hid (Below w.heap.size w W1):=Lib.hid (by rw [hW1];exact (below_alloc w _).chain (below_alloc _ _))
 have p1:=heap_keep (o:=.cells ds T) (heap_of_alloc w (.cells cs T))
 have p2:=heap_of_alloc (w.alloc (.cells cs T)) (.cells ds T)
 rw [size_of_alloc] at p2
 rw [← hW1] at p1 p2
 have HF : Hid (∀ W,Below W1.heap.size W1 W → W.cell? ⟨w.heap.size,0,none⟩ = some (.string ⟨x0.toArray⟩) ∧ W.cell? ⟨w.heap.size + 1,0,none⟩ = some (.string ⟨y0.toArray⟩) ∧ W.cell? ⟨w.heap.size,1,none⟩ = some (x1) ∧ W.cell? ⟨w.heap.size + 1,1,none⟩ = some (y1) ∧ W.cell? ⟨w.heap.size,2,none⟩ = some (x2) ∧ W.cell? ⟨w.heap.size + 1,2,none⟩ = some (y2)):=Lib.hid (fun W hb => ⟨cell_of_block (kept_box hb p1) 0 kx0,cell_of_block (kept_box hb p2) 0 ky0,cell_of_block (kept_box hb p1) 1 kx1,cell_of_block (kept_box hb p2) 1 ky1,cell_of_block (kept_box hb p1) 2 kx2,cell_of_block (kept_box hb p2) 2 ky2⟩)
 have HX0:=Lib.hid (Below.refl W1.heap.size W1)
 have hF0:=HF.out _ HX0.out
 rw [hW1] at hF0
 obtain ⟨cx0,cy0,cx1,cy1,cx2,cy2⟩:=hF0
 clear hq1 hq2 hN p1 p2 hcs hds kx0 ky0 kx1 ky1 kx2 ky2
 by_cases h0 : x0 = y0
 ·subst h0
  cases q1 with
  | false =>
    have e : r = false:=Bool.eq_false_iff.2 (fun h => by simpa using hr.1 h)
    clear hr
    subst e
    go_enter Tryz.func25,Tryz.ntmps25
    simp only [e4]
    clear e4 hT
    go_wp2_with (go_at_call 20;rw [← hW1];clear hW1;((with_reducible refine (HQ1.out _ (HB.out.chain HX0.out)).mono ?_);rintro e w2 ⟨rfl,hb⟩);have HX2:=Lib.hid (HX0.out.chain hb);clear hb;clear cx0 cy0 cx1 cy1 cx2 cy2)
    go_ret
    exact ⟨rfl,HB.out.chain HX2.out⟩
  | true =>
    cases q2 with
    | false =>
      have e : r = false:=Bool.eq_false_iff.2 (fun h => by simpa using hr.1 h)
      clear hr
      subst e
      go_enter Tryz.func25,Tryz.ntmps25
      simp only [e4]
      clear e4 hT
      go_wp2_with (first
       | (go_at_call 20;rw [← hW1];clear hW1;((with_reducible refine (HQ1.out _ (HB.out.chain HX0.out)).mono ?_);rintro e w2 ⟨rfl,hb⟩);have HX2:=Lib.hid (HX0.out.chain hb);clear hb;clear cx0 cy0 cx1 cy1 cx2 cy2;obtain ⟨-,-,-,-,f2x2,f2y2⟩:=HF.out _ HX2.out)
       | (go_at_call 43;((with_reducible refine (HQ2.out _ (HB.out.chain HX2.out)).mono ?_);rintro e w3 ⟨rfl,hb⟩);have HX3:=Lib.hid (HX2.out.chain hb);clear hb;clear f2x2 f2y2))
      go_ret
      exact ⟨rfl,HB.out.chain HX3.out⟩
    | true =>
      have e : r = true:=hr.2 (by simp)
      clear hr
      subst e
      go_enter Tryz.func25,Tryz.ntmps25
      simp only [e4]
      clear e4 hT
      go_wp2_with (first
       | (go_at_call 20;rw [← hW1];clear hW1;((with_reducible refine (HQ1.out _ (HB.out.chain HX0.out)).mono ?_);rintro e w2 ⟨rfl,hb⟩);have HX2:=Lib.hid (HX0.out.chain hb);clear hb;clear cx0 cy0 cx1 cy1 cx2 cy2;obtain ⟨-,-,-,-,f2x2,f2y2⟩:=HF.out _ HX2.out)
       | (go_at_call 43;((with_reducible refine (HQ2.out _ (HB.out.chain HX2.out)).mono ?_);rintro e w3 ⟨rfl,hb⟩);have HX3:=Lib.hid (HX2.out.chain hb);clear hb;clear f2x2 f2y2))
      go_ret
      exact ⟨rfl,HB.out.chain HX3.out⟩
 ·have e : r = false:=Bool.eq_false_iff.2 (fun h => by have := hr.1 h;simp [h0] at this)
  have hs0 : (x0 == y0) = false:=by simpa using h0
  clear hr
  subst e
  go_enter Tryz.func25,Tryz.ntmps25
  simp only [e4]
  clear e4 hT
  go_wp2
  go_ret
  rw [← hW1]
  exact ⟨rfl,HB.out.chain HX0.out⟩
theorem eqlm_core (cs ds : Array Value) (hcs : cs.size = 8) (hds : ds.size = 8) (x0 y0 : List UInt8) (x1 y1 : Value) (x2 y2 : Value) (x3 y3 : Value) (x4 y4 : Value) (x5 y5 : Value) (x6 y6 : Value) (x7 y7 : Value)
 (kx0 : cs[0]? = some (.string ⟨x0.toArray⟩)) (ky0 : ds[0]? = some (.string ⟨y0.toArray⟩))
 (kx1 : cs[1]? = some (x1)) (ky1 : ds[1]? = some (y1))
 (kx2 : cs[2]? = some (x2)) (ky2 : ds[2]? = some (y2))
 (kx3 : cs[3]? = some (x3)) (ky3 : ds[3]? = some (y3))
 (kx4 : cs[4]? = some (x4)) (ky4 : ds[4]? = some (y4))
 (kx5 : cs[5]? = some (x5)) (ky5 : ds[5]? = some (y5))
 (kx6 : cs[6]? = some (x6)) (ky6 : ds[6]? = some (y6))
 (kx7 : cs[7]? = some (x7)) (ky7 : ds[7]? = some (y7)) (q1 : Bool) (q2 : Bool) (q3 : Bool) (w : World) (r : Bool)
 (hq1 : BC w 20 #[x1,y1,.func (.func 21) #[] #[]] q1)
 (hq2 : BC w 44 #[.agg #[x2,x3,x4],.agg #[y2,y3,y4]] q2)
 (hq3 : BC w 44 #[.agg #[x5,x6,x7],.agg #[y5,y6,y7]] q3)
 (hr : r = true ↔ x0 = y0 ∧ q1 = true ∧ q2 = true ∧ q3 = true) :
 Calls Tryz.prog 27 #[.agg cs,.agg ds] w fun e w' => e = .returned (.bool r) ∧ Below w.heap.size w w':=by
 obtain ⟨T,N,hT,hN,hag,hsz⟩:=hid_Lemma
 have e4 : ∀ y : Operand,Op.box 71 y = Op.box T y:=fun y => by rw [hT]
 have HQ1:=Lib.hid hq1
 have HQ2:=Lib.hid hq2
 have HQ3:=Lib.hid hq3
 have hszc : cs.size = N:=hcs.trans hN.symm
 have hszd : ds.size = N:=hds.trans hN.symm
 obtain ⟨W1,hW1⟩ : ∃ W1,W1 = (w.alloc (.cells cs T)).alloc (.cells ds T):=⟨_,rfl⟩
 have HB : Hid (Below w.heap.size w W1):=Lib.hid (by rw [hW1];exact (below_alloc w _).chain (below_alloc _ _))
 have p1:=heap_keep (o:=.cells ds T) (heap_of_alloc w (.cells cs T))
 have p2:=heap_of_alloc (w.alloc (.cells cs T)) (.cells ds T)
 rw [size_of_alloc] at p2
 rw [← hW1] at p1 p2
 have HF : Hid (∀ W,Below W1.heap.size W1 W → W.cell? ⟨w.heap.size,0,none⟩ = some (.string ⟨x0.toArray⟩) ∧ W.cell? ⟨w.heap.size + 1,0,none⟩ = some (.string ⟨y0.toArray⟩) ∧ W.cell? ⟨w.heap.size,1,none⟩ = some (x1) ∧ W.cell? ⟨w.heap.size + 1,1,none⟩ = some (y1) ∧ W.cell? ⟨w.heap.size,2,none⟩ = some (x2) ∧ W.cell? ⟨w.heap.size + 1,2,none⟩ = some (y2) ∧ W.cell? ⟨w.heap.size,3,none⟩ = some (x3) ∧ W.cell? ⟨w.heap.size + 1,3,none⟩ = some (y3) ∧ W.cell? ⟨w.heap.size,4,none⟩ = some (x4) ∧ W.cell? ⟨w.heap.size + 1,4,none⟩ = some (y4) ∧ W.cell? ⟨w.heap.size,5,none⟩ = some (x5) ∧ W.cell? ⟨w.heap.size + 1,5,none⟩ = some (y5) ∧ W.cell? ⟨w.heap.size,6,none⟩ = some (x6) ∧ W.cell? ⟨w.heap.size + 1,6,none⟩ = some (y6) ∧ W.cell? ⟨w.heap.size,7,none⟩ = some (x7) ∧ W.cell? ⟨w.heap.size + 1,7,none⟩ = some (y7)):=Lib.hid (fun W hb => ⟨cell_of_block (kept_box hb p1) 0 kx0,cell_of_block (kept_box hb p2) 0 ky0,cell_of_block (kept_box hb p1) 1 kx1,cell_of_block (kept_box hb p2) 1 ky1,cell_of_block (kept_box hb p1) 2 kx2,cell_of_block (kept_box hb p2) 2 ky2,cell_of_block (kept_box hb p1) 3 kx3,cell_of_block (kept_box hb p2) 3 ky3,cell_of_block (kept_box hb p1) 4 kx4,cell_of_block (kept_box hb p2) 4 ky4,cell_of_block (kept_box hb p1) 5 kx5,cell_of_block (kept_box hb p2) 5 ky5,cell_of_block (kept_box hb p1) 6 kx6,cell_of_block (kept_box hb p2) 6 ky6,cell_of_block (kept_box hb p1) 7 kx7,cell_of_block (kept_box hb p2) 7 ky7⟩)
 have HX0:=Lib.hid (Below.refl W1.heap.size W1)
 have hF0:=HF.out _ HX0.out
 rw [hW1] at hF0
 obtain ⟨cx0,cy0,cx1,cy1,cx2,cy2,cx3,cy3,cx4,cy4,cx5,cy5,cx6,cy6,cx7,cy7⟩:=hF0
 clear hq1 hq2 hq3 hN p1 p2 hcs hds kx0 ky0 kx1 ky1 kx2 ky2 kx3 ky3 kx4 ky4 kx5 ky5 kx6 ky6 kx7 ky7
 by_cases h0 : x0 = y0
 ·subst h0
  cases q1 with
  | false =>
    have e : r = false:=Bool.eq_false_iff.2 (fun h => by simpa using hr.1 h)
    clear hr
    subst e
    go_enter Tryz.func27,Tryz.ntmps27
    simp only [e4]
    clear e4 hT
    go_wp2_with (go_at_call 20;rw [← hW1];clear hW1;((with_reducible refine (HQ1.out _ (HB.out.chain HX0.out)).mono ?_);rintro e w2 ⟨rfl,hb⟩);have HX2:=Lib.hid (HX0.out.chain hb);clear hb;clear cx0 cy0 cx1 cy1 cx2 cy2 cx3 cy3 cx4 cy4 cx5 cy5 cx6 cy6 cx7 cy7)
    go_ret
    exact ⟨rfl,HB.out.chain HX2.out⟩
  | true =>
    cases q2 with
    | false =>
      have e : r = false:=Bool.eq_false_iff.2 (fun h => by simpa using hr.1 h)
      clear hr
      subst e
      go_enter Tryz.func27,Tryz.ntmps27
      simp only [e4]
      clear e4 hT
      go_wp2_with (first
       | (go_at_call 20;rw [← hW1];clear hW1;((with_reducible refine (HQ1.out _ (HB.out.chain HX0.out)).mono ?_);rintro e w2 ⟨rfl,hb⟩);have HX2:=Lib.hid (HX0.out.chain hb);clear hb;clear cx0 cy0 cx1 cy1 cx2 cy2 cx3 cy3 cx4 cy4 cx5 cy5 cx6 cy6 cx7 cy7;obtain ⟨-,-,-,-,f2x2,f2y2,f2x3,f2y3,f2x4,f2y4,f2x5,f2y5,f2x6,f2y6,f2x7,f2y7⟩:=HF.out _ HX2.out)
       | (go_at_call 44;((with_reducible refine (HQ2.out _ (HB.out.chain HX2.out)).mono ?_);rintro e w3 ⟨rfl,hb⟩);have HX3:=Lib.hid (HX2.out.chain hb);clear hb;clear f2x2 f2y2 f2x3 f2y3 f2x4 f2y4 f2x5 f2y5 f2x6 f2y6 f2x7 f2y7))
      go_ret
      exact ⟨rfl,HB.out.chain HX3.out⟩
    | true =>
      cases q3 with
      | false =>
        have e : r = false:=Bool.eq_false_iff.2 (fun h => by simpa using hr.1 h)
        clear hr
        subst e
        go_enter Tryz.func27,Tryz.ntmps27
        simp only [e4]
        clear e4 hT
        go_wp2_with (first
         | (go_at_call 20;rw [← hW1];clear hW1;((with_reducible refine (HQ1.out _ (HB.out.chain HX0.out)).mono ?_);rintro e w2 ⟨rfl,hb⟩);have HX2:=Lib.hid (HX0.out.chain hb);clear hb;clear cx0 cy0 cx1 cy1 cx2 cy2 cx3 cy3 cx4 cy4 cx5 cy5 cx6 cy6 cx7 cy7;obtain ⟨-,-,-,-,f2x2,f2y2,f2x3,f2y3,f2x4,f2y4,f2x5,f2y5,f2x6,f2y6,f2x7,f2y7⟩:=HF.out _ HX2.out)
         | (go_at_call 44;((with_reducible refine (HQ2.out _ (HB.out.chain HX2.out)).mono ?_);rintro e w3 ⟨rfl,hb⟩);have HX3:=Lib.hid (HX2.out.chain hb);clear hb;clear f2x2 f2y2 f2x3 f2y3 f2x4 f2y4 f2x5 f2y5 f2x6 f2y6 f2x7 f2y7;obtain ⟨-,-,-,-,-,-,-,-,-,-,f3x5,f3y5,f3x6,f3y6,f3x7,f3y7⟩:=HF.out _ HX3.out)
         | (go_at_call 44;((with_reducible refine (HQ3.out _ (HB.out.chain HX3.out)).mono ?_);rintro e w4 ⟨rfl,hb⟩);have HX4:=Lib.hid (HX3.out.chain hb);clear hb;clear f3x5 f3y5 f3x6 f3y6 f3x7 f3y7))
        go_ret
        exact ⟨rfl,HB.out.chain HX4.out⟩
      | true =>
        have e : r = true:=hr.2 (by simp)
        clear hr
        subst e
        go_enter Tryz.func27,Tryz.ntmps27
        simp only [e4]
        clear e4 hT
        go_wp2_with (first
         | (go_at_call 20;rw [← hW1];clear hW1;((with_reducible refine (HQ1.out _ (HB.out.chain HX0.out)).mono ?_);rintro e w2 ⟨rfl,hb⟩);have HX2:=Lib.hid (HX0.out.chain hb);clear hb;clear cx0 cy0 cx1 cy1 cx2 cy2 cx3 cy3 cx4 cy4 cx5 cy5 cx6 cy6 cx7 cy7;obtain ⟨-,-,-,-,f2x2,f2y2,f2x3,f2y3,f2x4,f2y4,f2x5,f2y5,f2x6,f2y6,f2x7,f2y7⟩:=HF.out _ HX2.out)
         | (go_at_call 44;((with_reducible refine (HQ2.out _ (HB.out.chain HX2.out)).mono ?_);rintro e w3 ⟨rfl,hb⟩);have HX3:=Lib.hid (HX2.out.chain hb);clear hb;clear f2x2 f2y2 f2x3 f2y3 f2x4 f2y4 f2x5 f2y5 f2x6 f2y6 f2x7 f2y7;obtain ⟨-,-,-,-,-,-,-,-,-,-,f3x5,f3y5,f3x6,f3y6,f3x7,f3y7⟩:=HF.out _ HX3.out)
         | (go_at_call 44;((with_reducible refine (HQ3.out _ (HB.out.chain HX3.out)).mono ?_);rintro e w4 ⟨rfl,hb⟩);have HX4:=Lib.hid (HX3.out.chain hb);clear hb;clear f3x5 f3y5 f3x6 f3y6 f3x7 f3y7))
        go_ret
        exact ⟨rfl,HB.out.chain HX4.out⟩
 ·have e : r = false:=Bool.eq_false_iff.2 (fun h => by have := hr.1 h;simp [h0] at this)
  have hs0 : (x0 == y0) = false:=by simpa using h0
  clear hr
  subst e
  go_enter Tryz.func27,Tryz.ntmps27
  simp only [e4]
  clear e4 hT
  go_wp2
  go_ret
  rw [← hW1]
  exact ⟨rfl,HB.out.chain HX0.out⟩
theorem eqpg_core (cs ds : Array Value) (hcs : cs.size = 6) (hds : ds.size = 6) (x0 y0 : Value) (x1 y1 : Value) (x2 y2 : Value) (x3 y3 : Value) (x4 y4 : Value) (x5 y5 : Value)
 (kx0 : cs[0]? = some (x0)) (ky0 : ds[0]? = some (y0))
 (kx1 : cs[1]? = some (x1)) (ky1 : ds[1]? = some (y1))
 (kx2 : cs[2]? = some (x2)) (ky2 : ds[2]? = some (y2))
 (kx3 : cs[3]? = some (x3)) (ky3 : ds[3]? = some (y3))
 (kx4 : cs[4]? = some (x4)) (ky4 : ds[4]? = some (y4))
 (kx5 : cs[5]? = some (x5)) (ky5 : ds[5]? = some (y5)) (q0 : Bool) (q1 : Bool) (q2 : Bool) (q3 : Bool) (q4 : Bool) (q5 : Bool) (w : World) (r : Bool)
 (hq0 : BC w 18 #[x0,y0,.func (.func 19) #[] #[]] q0)
 (hq1 : BC w 20 #[x1,y1,.func (.func 21) #[] #[]] q1)
 (hq2 : BC w 22 #[x2,y2,.func (.func 23) #[] #[]] q2)
 (hq3 : BC w 24 #[x3,y3,.func (.func 25) #[] #[]] q3)
 (hq4 : BC w 26 #[x4,y4,.func (.func 27) #[] #[]] q4)
 (hq5 : BC w 28 #[x5,y5,.func (.func 29) #[] #[]] q5)
 (hr : r = true ↔ q0 = true ∧ q1 = true ∧ q2 = true ∧ q3 = true ∧ q4 = true ∧ q5 = true) :
 Calls Tryz.prog 9 #[.agg cs,.agg ds] w fun e w' => e = .returned (.bool r) ∧ Below w.heap.size w w':=by
 obtain ⟨T,N,hT,hN,hag,hsz⟩:=hid_Program
 have e4 : ∀ y : Operand,Op.box 29 y = Op.box T y:=fun y => by rw [hT]
 have HQ0:=Lib.hid hq0
 have HQ1:=Lib.hid hq1
 have HQ2:=Lib.hid hq2
 have HQ3:=Lib.hid hq3
 have HQ4:=Lib.hid hq4
 have HQ5:=Lib.hid hq5
 have hszc : cs.size = N:=hcs.trans hN.symm
 have hszd : ds.size = N:=hds.trans hN.symm
 obtain ⟨W1,hW1⟩ : ∃ W1,W1 = (w.alloc (.cells cs T)).alloc (.cells ds T):=⟨_,rfl⟩
 have HB : Hid (Below w.heap.size w W1):=Lib.hid (by rw [hW1];exact (below_alloc w _).chain (below_alloc _ _))
 have p1:=heap_keep (o:=.cells ds T) (heap_of_alloc w (.cells cs T))
 have p2:=heap_of_alloc (w.alloc (.cells cs T)) (.cells ds T)
 rw [size_of_alloc] at p2
 rw [← hW1] at p1 p2
 have HF : Hid (∀ W,Below W1.heap.size W1 W → W.cell? ⟨w.heap.size,0,none⟩ = some (x0) ∧ W.cell? ⟨w.heap.size + 1,0,none⟩ = some (y0) ∧ W.cell? ⟨w.heap.size,1,none⟩ = some (x1) ∧ W.cell? ⟨w.heap.size + 1,1,none⟩ = some (y1) ∧ W.cell? ⟨w.heap.size,2,none⟩ = some (x2) ∧ W.cell? ⟨w.heap.size + 1,2,none⟩ = some (y2) ∧ W.cell? ⟨w.heap.size,3,none⟩ = some (x3) ∧ W.cell? ⟨w.heap.size + 1,3,none⟩ = some (y3) ∧ W.cell? ⟨w.heap.size,4,none⟩ = some (x4) ∧ W.cell? ⟨w.heap.size + 1,4,none⟩ = some (y4) ∧ W.cell? ⟨w.heap.size,5,none⟩ = some (x5) ∧ W.cell? ⟨w.heap.size + 1,5,none⟩ = some (y5)):=Lib.hid (fun W hb => ⟨cell_of_block (kept_box hb p1) 0 kx0,cell_of_block (kept_box hb p2) 0 ky0,cell_of_block (kept_box hb p1) 1 kx1,cell_of_block (kept_box hb p2) 1 ky1,cell_of_block (kept_box hb p1) 2 kx2,cell_of_block (kept_box hb p2) 2 ky2,cell_of_block (kept_box hb p1) 3 kx3,cell_of_block (kept_box hb p2) 3 ky3,cell_of_block (kept_box hb p1) 4 kx4,cell_of_block (kept_box hb p2) 4 ky4,cell_of_block (kept_box hb p1) 5 kx5,cell_of_block (kept_box hb p2) 5 ky5⟩)
 have HX0:=Lib.hid (Below.refl W1.heap.size W1)
 have hF0:=HF.out _ HX0.out
 rw [hW1] at hF0
 obtain ⟨cx0,cy0,cx1,cy1,cx2,cy2,cx3,cy3,cx4,cy4,cx5,cy5⟩:=hF0
 clear hq0 hq1 hq2 hq3 hq4 hq5 hN p1 p2 hcs hds kx0 ky0 kx1 ky1 kx2 ky2 kx3 ky3 kx4 ky4 kx5 ky5
 cases q0 with
 | false =>
   have e : r = false:=Bool.eq_false_iff.2 (fun h => by simpa using hr.1 h)
   clear hr
   subst e
   go_enter Tryz.func9,Tryz.ntmps9
   simp only [e4]
   clear e4 hT
   go_wp2_with (go_at_call 18;rw [← hW1];clear hW1;((with_reducible refine (HQ0.out _ (HB.out.chain HX0.out)).mono ?_);rintro e w1 ⟨rfl,hb⟩);have HX1:=Lib.hid (HX0.out.chain hb);clear hb;clear cx0 cy0 cx1 cy1 cx2 cy2 cx3 cy3 cx4 cy4 cx5 cy5)
   go_ret
   exact ⟨rfl,HB.out.chain HX1.out⟩
 | true =>
   cases q1 with
   | false =>
     have e : r = false:=Bool.eq_false_iff.2 (fun h => by simpa using hr.1 h)
     clear hr
     subst e
     go_enter Tryz.func9,Tryz.ntmps9
     simp only [e4]
     clear e4 hT
     go_wp2_with (first
      | (go_at_call 18;rw [← hW1];clear hW1;((with_reducible refine (HQ0.out _ (HB.out.chain HX0.out)).mono ?_);rintro e w1 ⟨rfl,hb⟩);have HX1:=Lib.hid (HX0.out.chain hb);clear hb;clear cx0 cy0 cx1 cy1 cx2 cy2 cx3 cy3 cx4 cy4 cx5 cy5;obtain ⟨-,-,f1x1,f1y1,f1x2,f1y2,f1x3,f1y3,f1x4,f1y4,f1x5,f1y5⟩:=HF.out _ HX1.out)
      | (go_at_call 20;((with_reducible refine (HQ1.out _ (HB.out.chain HX1.out)).mono ?_);rintro e w2 ⟨rfl,hb⟩);have HX2:=Lib.hid (HX1.out.chain hb);clear hb;clear f1x1 f1y1 f1x2 f1y2 f1x3 f1y3 f1x4 f1y4 f1x5 f1y5))
     go_ret
     exact ⟨rfl,HB.out.chain HX2.out⟩
   | true =>
     cases q2 with
     | false =>
       have e : r = false:=Bool.eq_false_iff.2 (fun h => by simpa using hr.1 h)
       clear hr
       subst e
       go_enter Tryz.func9,Tryz.ntmps9
       simp only [e4]
       clear e4 hT
       go_wp2_with (first
        | (go_at_call 18;rw [← hW1];clear hW1;((with_reducible refine (HQ0.out _ (HB.out.chain HX0.out)).mono ?_);rintro e w1 ⟨rfl,hb⟩);have HX1:=Lib.hid (HX0.out.chain hb);clear hb;clear cx0 cy0 cx1 cy1 cx2 cy2 cx3 cy3 cx4 cy4 cx5 cy5;obtain ⟨-,-,f1x1,f1y1,f1x2,f1y2,f1x3,f1y3,f1x4,f1y4,f1x5,f1y5⟩:=HF.out _ HX1.out)
        | (go_at_call 20;((with_reducible refine (HQ1.out _ (HB.out.chain HX1.out)).mono ?_);rintro e w2 ⟨rfl,hb⟩);have HX2:=Lib.hid (HX1.out.chain hb);clear hb;clear f1x1 f1y1 f1x2 f1y2 f1x3 f1y3 f1x4 f1y4 f1x5 f1y5;obtain ⟨-,-,-,-,f2x2,f2y2,f2x3,f2y3,f2x4,f2y4,f2x5,f2y5⟩:=HF.out _ HX2.out)
        | (go_at_call 22;((with_reducible refine (HQ2.out _ (HB.out.chain HX2.out)).mono ?_);rintro e w3 ⟨rfl,hb⟩);have HX3:=Lib.hid (HX2.out.chain hb);clear hb;clear f2x2 f2y2 f2x3 f2y3 f2x4 f2y4 f2x5 f2y5))
       go_ret
       exact ⟨rfl,HB.out.chain HX3.out⟩
     | true =>
       cases q3 with
       | false =>
         have e : r = false:=Bool.eq_false_iff.2 (fun h => by simpa using hr.1 h)
         clear hr
         subst e
         go_enter Tryz.func9,Tryz.ntmps9
         simp only [e4]
         clear e4 hT
         go_wp2_with (first
          | (go_at_call 18;rw [← hW1];clear hW1;((with_reducible refine (HQ0.out _ (HB.out.chain HX0.out)).mono ?_);rintro e w1 ⟨rfl,hb⟩);have HX1:=Lib.hid (HX0.out.chain hb);clear hb;clear cx0 cy0 cx1 cy1 cx2 cy2 cx3 cy3 cx4 cy4 cx5 cy5;obtain ⟨-,-,f1x1,f1y1,f1x2,f1y2,f1x3,f1y3,f1x4,f1y4,f1x5,f1y5⟩:=HF.out _ HX1.out)
          | (go_at_call 20;((with_reducible refine (HQ1.out _ (HB.out.chain HX1.out)).mono ?_);rintro e w2 ⟨rfl,hb⟩);have HX2:=Lib.hid (HX1.out.chain hb);clear hb;clear f1x1 f1y1 f1x2 f1y2 f1x3 f1y3 f1x4 f1y4 f1x5 f1y5;obtain ⟨-,-,-,-,f2x2,f2y2,f2x3,f2y3,f2x4,f2y4,f2x5,f2y5⟩:=HF.out _ HX2.out)
          | (go_at_call 22;((with_reducible refine (HQ2.out _ (HB.out.chain HX2.out)).mono ?_);rintro e w3 ⟨rfl,hb⟩);have HX3:=Lib.hid (HX2.out.chain hb);clear hb;clear f2x2 f2y2 f2x3 f2y3 f2x4 f2y4 f2x5 f2y5;obtain ⟨-,-,-,-,-,-,f3x3,f3y3,f3x4,f3y4,f3x5,f3y5⟩:=HF.out _ HX3.out)
          | (go_at_call 24;((with_reducible refine (HQ3.out _ (HB.out.chain HX3.out)).mono ?_);rintro e w4 ⟨rfl,hb⟩);have HX4:=Lib.hid (HX3.out.chain hb);clear hb;clear f3x3 f3y3 f3x4 f3y4 f3x5 f3y5))
         go_ret
         exact ⟨rfl,HB.out.chain HX4.out⟩
       | true =>
         cases q4 with
         | false =>
           have e : r = false:=Bool.eq_false_iff.2 (fun h => by simpa using hr.1 h)
           clear hr
           subst e
           go_enter Tryz.func9,Tryz.ntmps9
           simp only [e4]
           clear e4 hT
           go_wp2_with (first
            | (go_at_call 18;rw [← hW1];clear hW1;((with_reducible refine (HQ0.out _ (HB.out.chain HX0.out)).mono ?_);rintro e w1 ⟨rfl,hb⟩);have HX1:=Lib.hid (HX0.out.chain hb);clear hb;clear cx0 cy0 cx1 cy1 cx2 cy2 cx3 cy3 cx4 cy4 cx5 cy5;obtain ⟨-,-,f1x1,f1y1,f1x2,f1y2,f1x3,f1y3,f1x4,f1y4,f1x5,f1y5⟩:=HF.out _ HX1.out)
            | (go_at_call 20;((with_reducible refine (HQ1.out _ (HB.out.chain HX1.out)).mono ?_);rintro e w2 ⟨rfl,hb⟩);have HX2:=Lib.hid (HX1.out.chain hb);clear hb;clear f1x1 f1y1 f1x2 f1y2 f1x3 f1y3 f1x4 f1y4 f1x5 f1y5;obtain ⟨-,-,-,-,f2x2,f2y2,f2x3,f2y3,f2x4,f2y4,f2x5,f2y5⟩:=HF.out _ HX2.out)
            | (go_at_call 22;((with_reducible refine (HQ2.out _ (HB.out.chain HX2.out)).mono ?_);rintro e w3 ⟨rfl,hb⟩);have HX3:=Lib.hid (HX2.out.chain hb);clear hb;clear f2x2 f2y2 f2x3 f2y3 f2x4 f2y4 f2x5 f2y5;obtain ⟨-,-,-,-,-,-,f3x3,f3y3,f3x4,f3y4,f3x5,f3y5⟩:=HF.out _ HX3.out)
            | (go_at_call 24;((with_reducible refine (HQ3.out _ (HB.out.chain HX3.out)).mono ?_);rintro e w4 ⟨rfl,hb⟩);have HX4:=Lib.hid (HX3.out.chain hb);clear hb;clear f3x3 f3y3 f3x4 f3y4 f3x5 f3y5;obtain ⟨-,-,-,-,-,-,-,-,f4x4,f4y4,f4x5,f4y5⟩:=HF.out _ HX4.out)
            | (go_at_call 26;((with_reducible refine (HQ4.out _ (HB.out.chain HX4.out)).mono ?_);rintro e w5 ⟨rfl,hb⟩);have HX5:=Lib.hid (HX4.out.chain hb);clear hb;clear f4x4 f4y4 f4x5 f4y5))
           go_ret
           exact ⟨rfl,HB.out.chain HX5.out⟩
         | true =>
           cases q5 with
           | false =>
             have e : r = false:=Bool.eq_false_iff.2 (fun h => by simpa using hr.1 h)
             clear hr
             subst e
             go_enter Tryz.func9,Tryz.ntmps9
             simp only [e4]
             clear e4 hT
             go_wp2_with (first
              | (go_at_call 18;rw [← hW1];clear hW1;((with_reducible refine (HQ0.out _ (HB.out.chain HX0.out)).mono ?_);rintro e w1 ⟨rfl,hb⟩);have HX1:=Lib.hid (HX0.out.chain hb);clear hb;clear cx0 cy0 cx1 cy1 cx2 cy2 cx3 cy3 cx4 cy4 cx5 cy5;obtain ⟨-,-,f1x1,f1y1,f1x2,f1y2,f1x3,f1y3,f1x4,f1y4,f1x5,f1y5⟩:=HF.out _ HX1.out)
              | (go_at_call 20;((with_reducible refine (HQ1.out _ (HB.out.chain HX1.out)).mono ?_);rintro e w2 ⟨rfl,hb⟩);have HX2:=Lib.hid (HX1.out.chain hb);clear hb;clear f1x1 f1y1 f1x2 f1y2 f1x3 f1y3 f1x4 f1y4 f1x5 f1y5;obtain ⟨-,-,-,-,f2x2,f2y2,f2x3,f2y3,f2x4,f2y4,f2x5,f2y5⟩:=HF.out _ HX2.out)
              | (go_at_call 22;((with_reducible refine (HQ2.out _ (HB.out.chain HX2.out)).mono ?_);rintro e w3 ⟨rfl,hb⟩);have HX3:=Lib.hid (HX2.out.chain hb);clear hb;clear f2x2 f2y2 f2x3 f2y3 f2x4 f2y4 f2x5 f2y5;obtain ⟨-,-,-,-,-,-,f3x3,f3y3,f3x4,f3y4,f3x5,f3y5⟩:=HF.out _ HX3.out)
              | (go_at_call 24;((with_reducible refine (HQ3.out _ (HB.out.chain HX3.out)).mono ?_);rintro e w4 ⟨rfl,hb⟩);have HX4:=Lib.hid (HX3.out.chain hb);clear hb;clear f3x3 f3y3 f3x4 f3y4 f3x5 f3y5;obtain ⟨-,-,-,-,-,-,-,-,f4x4,f4y4,f4x5,f4y5⟩:=HF.out _ HX4.out)
              | (go_at_call 26;((with_reducible refine (HQ4.out _ (HB.out.chain HX4.out)).mono ?_);rintro e w5 ⟨rfl,hb⟩);have HX5:=Lib.hid (HX4.out.chain hb);clear hb;clear f4x4 f4y4 f4x5 f4y5;obtain ⟨-,-,-,-,-,-,-,-,-,-,f5x5,f5y5⟩:=HF.out _ HX5.out)
              | (go_at_call 28;((with_reducible refine (HQ5.out _ (HB.out.chain HX5.out)).mono ?_);rintro e w6 ⟨rfl,hb⟩);have HX6:=Lib.hid (HX5.out.chain hb);clear hb;clear f5x5 f5y5))
             go_ret
             exact ⟨rfl,HB.out.chain HX6.out⟩
           | true =>
             have e : r = true:=hr.2 (by simp)
             clear hr
             subst e
             go_enter Tryz.func9,Tryz.ntmps9
             simp only [e4]
             clear e4 hT
             go_wp2_with (first
              | (go_at_call 18;rw [← hW1];clear hW1;((with_reducible refine (HQ0.out _ (HB.out.chain HX0.out)).mono ?_);rintro e w1 ⟨rfl,hb⟩);have HX1:=Lib.hid (HX0.out.chain hb);clear hb;clear cx0 cy0 cx1 cy1 cx2 cy2 cx3 cy3 cx4 cy4 cx5 cy5;obtain ⟨-,-,f1x1,f1y1,f1x2,f1y2,f1x3,f1y3,f1x4,f1y4,f1x5,f1y5⟩:=HF.out _ HX1.out)
              | (go_at_call 20;((with_reducible refine (HQ1.out _ (HB.out.chain HX1.out)).mono ?_);rintro e w2 ⟨rfl,hb⟩);have HX2:=Lib.hid (HX1.out.chain hb);clear hb;clear f1x1 f1y1 f1x2 f1y2 f1x3 f1y3 f1x4 f1y4 f1x5 f1y5;obtain ⟨-,-,-,-,f2x2,f2y2,f2x3,f2y3,f2x4,f2y4,f2x5,f2y5⟩:=HF.out _ HX2.out)
              | (go_at_call 22;((with_reducible refine (HQ2.out _ (HB.out.chain HX2.out)).mono ?_);rintro e w3 ⟨rfl,hb⟩);have HX3:=Lib.hid (HX2.out.chain hb);clear hb;clear f2x2 f2y2 f2x3 f2y3 f2x4 f2y4 f2x5 f2y5;obtain ⟨-,-,-,-,-,-,f3x3,f3y3,f3x4,f3y4,f3x5,f3y5⟩:=HF.out _ HX3.out)
              | (go_at_call 24;((with_reducible refine (HQ3.out _ (HB.out.chain HX3.out)).mono ?_);rintro e w4 ⟨rfl,hb⟩);have HX4:=Lib.hid (HX3.out.chain hb);clear hb;clear f3x3 f3y3 f3x4 f3y4 f3x5 f3y5;obtain ⟨-,-,-,-,-,-,-,-,f4x4,f4y4,f4x5,f4y5⟩:=HF.out _ HX4.out)
              | (go_at_call 26;((with_reducible refine (HQ4.out _ (HB.out.chain HX4.out)).mono ?_);rintro e w5 ⟨rfl,hb⟩);have HX5:=Lib.hid (HX4.out.chain hb);clear hb;clear f4x4 f4y4 f4x5 f4y5;obtain ⟨-,-,-,-,-,-,-,-,-,-,f5x5,f5y5⟩:=HF.out _ HX5.out)
              | (go_at_call 28;((with_reducible refine (HQ5.out _ (HB.out.chain HX5.out)).mono ?_);rintro e w6 ⟨rfl,hb⟩);have HX6:=Lib.hid (HX5.out.chain hb);clear hb;clear f5x5 f5y5))
             go_ret
             exact ⟨rfl,HB.out.chain HX6.out⟩
end Go.Proofs.YtehmoomoocdidaaGreatDoor
