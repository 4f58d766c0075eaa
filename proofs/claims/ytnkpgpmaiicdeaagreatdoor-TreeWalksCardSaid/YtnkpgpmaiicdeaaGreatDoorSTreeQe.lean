/-
  Two statements compared part by part.
-/
import Derived.Test.YtnkpgpmaiicdeaaGreatDoorSTreeQa
set_option linter.unusedVariables false
set_option linter.unusedSimpArgs false
namespace Go.Proofs.YtnkpgpmaiicdeaaGreatDoor
set_option maxRecDepth 100000
set_option maxHeartbeats 8000000
open Go.RowKit
theorem eqs_core (cs ds : Array Value) (hcs : cs.size = 24) (hds : ds.size = 24) (x0 y0 : Int) (x3 y3 : List UInt8) (x4 y4 : List UInt8) (x5 y5 : List UInt8) (x6 y6 : Int) (x7 y7 : Int) (x8 y8 : List UInt8) (x9 y9 : Value) (x10 y10 : Int) (x11 y11 : Int) (x12 y12 : Int) (x13 y13 : List UInt8) (x14 y14 : Value) (x15 y15 : Int) (x16 y16 : Int) (x17 y17 : List UInt8) (x18 y18 : Value) (x19 y19 : Value) (x20 y20 : Value) (x21 y21 : Value) (x22 y22 : Value) (x23 y23 : Value)
 (kx0 : cs[0]? = some (.int .i64 x0)) (ky0 : ds[0]? = some (.int .i64 y0))
 (kx3 : cs[3]? = some (.string ⟨x3.toArray⟩)) (ky3 : ds[3]? = some (.string ⟨y3.toArray⟩))
 (kx4 : cs[4]? = some (.string ⟨x4.toArray⟩)) (ky4 : ds[4]? = some (.string ⟨y4.toArray⟩))
 (kx5 : cs[5]? = some (.string ⟨x5.toArray⟩)) (ky5 : ds[5]? = some (.string ⟨y5.toArray⟩))
 (kx6 : cs[6]? = some (.int .i64 x6)) (ky6 : ds[6]? = some (.int .i64 y6))
 (kx7 : cs[7]? = some (.int .i64 x7)) (ky7 : ds[7]? = some (.int .i64 y7))
 (kx8 : cs[8]? = some (.string ⟨x8.toArray⟩)) (ky8 : ds[8]? = some (.string ⟨y8.toArray⟩))
 (kx9 : cs[9]? = some (x9)) (ky9 : ds[9]? = some (y9))
 (kx10 : cs[10]? = some (.int .i64 x10)) (ky10 : ds[10]? = some (.int .i64 y10))
 (kx11 : cs[11]? = some (.int .i64 x11)) (ky11 : ds[11]? = some (.int .i64 y11))
 (kx12 : cs[12]? = some (.int .i64 x12)) (ky12 : ds[12]? = some (.int .i64 y12))
 (kx13 : cs[13]? = some (.string ⟨x13.toArray⟩)) (ky13 : ds[13]? = some (.string ⟨y13.toArray⟩))
 (kx14 : cs[14]? = some (x14)) (ky14 : ds[14]? = some (y14))
 (kx15 : cs[15]? = some (.int .i64 x15)) (ky15 : ds[15]? = some (.int .i64 y15))
 (kx16 : cs[16]? = some (.int .i64 x16)) (ky16 : ds[16]? = some (.int .i64 y16))
 (kx17 : cs[17]? = some (.string ⟨x17.toArray⟩)) (ky17 : ds[17]? = some (.string ⟨y17.toArray⟩))
 (kx18 : cs[18]? = some (x18)) (ky18 : ds[18]? = some (y18))
 (kx19 : cs[19]? = some (x19)) (ky19 : ds[19]? = some (y19))
 (kx20 : cs[20]? = some (x20)) (ky20 : ds[20]? = some (y20))
 (kx21 : cs[21]? = some (x21)) (ky21 : ds[21]? = some (y21))
 (kx22 : cs[22]? = some (x22)) (ky22 : ds[22]? = some (y22))
 (kx23 : cs[23]? = some (x23)) (ky23 : ds[23]? = some (y23)) (q4 : Bool) (q5 : Bool) (q6 : Bool) (q7 : Bool) (q8 : Bool) (q9 : Bool) (w : World) (r : Bool)
 (hq4 : BC w 54 #[.agg #[.int .i64 x6,.int .i64 x7,.string ⟨x8.toArray⟩,x9],.agg #[.int .i64 y6,.int .i64 y7,.string ⟨y8.toArray⟩,y9]] q4)
 (hq5 : BC w 55 #[.agg #[.int .i64 x10,.int .i64 x11,.int .i64 x12,.string ⟨x13.toArray⟩,x14,.int .i64 x15,.int .i64 x16,.string ⟨x17.toArray⟩,x18,x19],.agg #[.int .i64 y10,.int .i64 y11,.int .i64 y12,.string ⟨y13.toArray⟩,y14,.int .i64 y15,.int .i64 y16,.string ⟨y17.toArray⟩,y18,y19]] q5)
 (hq6 : BC w 56 #[x20,y20,.func (.func 57) #[] #[]] q6)
 (hq7 : BC w 58 #[x21,y21,.func (.func 59) #[] #[]] q7)
 (hq8 : BC w 9 #[x22,y22] q8)
 (hq9 : BC w 9 #[x23,y23] q9)
 (hr : r = true ↔ x0 = y0 ∧ x3 = y3 ∧ x4 = y4 ∧ x5 = y5 ∧ q4 = true ∧ q5 = true ∧ q6 = true ∧ q7 = true ∧ q8 = true ∧ q9 = true) :
 Calls Tryz.prog 32 #[.agg cs,.agg ds] w fun e w' => e = .returned (.bool r) ∧ Below w.heap.size w w':=by
 obtain ⟨T,N,hT,hN,hag,hsz⟩:=hid_Stmt
 have e4 : ∀ y : Operand,Op.box 40 y = Op.box T y:=fun y => by rw [hT]
 have HQ4:=Lib.hid hq4
 have HQ5:=Lib.hid hq5
 have HQ6:=Lib.hid hq6
 have HQ7:=Lib.hid hq7
 have HQ8:=Lib.hid hq8
 have HQ9:=Lib.hid hq9
 have hszc : cs.size = N:=hcs.trans hN.symm
 have hszd : ds.size = N:=hds.trans hN.symm
 obtain ⟨W1,hW1⟩ : ∃ W1,W1 = (w.alloc (.cells cs T)).alloc (.cells ds T):=⟨_,rfl⟩
 have HB : Hid (Below w.heap.size w W1):=Lib.hid (by rw [hW1];exact (below_alloc w _).chain (below_alloc _ _))
 have p1:=heap_keep (o:=.cells ds T) (heap_of_alloc w (.cells cs T))
 have p2:=heap_of_alloc (w.alloc (.cells cs T)) (.cells ds T)
 rw [size_of_alloc] at p2
 rw [← hW1] at p1 p2
 have HF : Hid (∀ W,Below W1.heap.size W1 W → W.cell? ⟨w.heap.size,0,none⟩ = some (.int .i64 x0) ∧ W.cell? ⟨w.heap.size + 1,0,none⟩ = some (.int .i64 y0) ∧ W.cell? ⟨w.heap.size,3,none⟩ = some (.string ⟨x3.toArray⟩) ∧ W.cell? ⟨w.heap.size + 1,3,none⟩ = some (.string ⟨y3.toArray⟩) ∧ W.cell? ⟨w.heap.size,4,none⟩ = some (.string ⟨x4.toArray⟩) ∧ W.cell? ⟨w.heap.size + 1,4,none⟩ = some (.string ⟨y4.toArray⟩) ∧ W.cell? ⟨w.heap.size,5,none⟩ = some (.string ⟨x5.toArray⟩) ∧ W.cell? ⟨w.heap.size + 1,5,none⟩ = some (.string ⟨y5.toArray⟩) ∧ W.cell? ⟨w.heap.size,6,none⟩ = some (.int .i64 x6) ∧ W.cell? ⟨w.heap.size + 1,6,none⟩ = some (.int .i64 y6) ∧ W.cell? ⟨w.heap.size,7,none⟩ = some (.int .i64 x7) ∧ W.cell? ⟨w.heap.size + 1,7,none⟩ = some (.int .i64 y7) ∧ W.cell? ⟨w.heap.size,8,none⟩ = some (.string ⟨x8.toArray⟩) ∧ W.cell? ⟨w.heap.size + 1,8,none⟩ = some (.string ⟨y8.toArray⟩) ∧ W.cell? ⟨w.heap.size,9,none⟩ = some (x9) ∧ W.cell? ⟨w.heap.size + 1,9,none⟩ = some (y9) ∧ W.cell? ⟨w.heap.size,10,none⟩ = some (.int .i64 x10) ∧ W.cell? ⟨w.heap.size + 1,10,none⟩ = some (.int .i64 y10) ∧ W.cell? ⟨w.heap.size,11,none⟩ = some (.int .i64 x11) ∧ W.cell? ⟨w.heap.size + 1,11,none⟩ = some (.int .i64 y11) ∧ W.cell? ⟨w.heap.size,12,none⟩ = some (.int .i64 x12) ∧ W.cell? ⟨w.heap.size + 1,12,none⟩ = some (.int .i64 y12) ∧ W.cell? ⟨w.heap.size,13,none⟩ = some (.string ⟨x13.toArray⟩) ∧ W.cell? ⟨w.heap.size + 1,13,none⟩ = some (.string ⟨y13.toArray⟩) ∧ W.cell? ⟨w.heap.size,14,none⟩ = some (x14) ∧ W.cell? ⟨w.heap.size + 1,14,none⟩ = some (y14) ∧ W.cell? ⟨w.heap.size,15,none⟩ = some (.int .i64 x15) ∧ W.cell? ⟨w.heap.size + 1,15,none⟩ = some (.int .i64 y15) ∧ W.cell? ⟨w.heap.size,16,none⟩ = some (.int .i64 x16) ∧ W.cell? ⟨w.heap.size + 1,16,none⟩ = some (.int .i64 y16) ∧ W.cell? ⟨w.heap.size,17,none⟩ = some (.string ⟨x17.toArray⟩) ∧ W.cell? ⟨w.heap.size + 1,17,none⟩ = some (.string ⟨y17.toArray⟩) ∧ W.cell? ⟨w.heap.size,18,none⟩ = some (x18) ∧ W.cell? ⟨w.heap.size + 1,18,none⟩ = some (y18) ∧ W.cell? ⟨w.heap.size,19,none⟩ = some (x19) ∧ W.cell? ⟨w.heap.size + 1,19,none⟩ = some (y19) ∧ W.cell? ⟨w.heap.size,20,none⟩ = some (x20) ∧ W.cell? ⟨w.heap.size + 1,20,none⟩ = some (y20) ∧ W.cell? ⟨w.heap.size,21,none⟩ = some (x21) ∧ W.cell? ⟨w.heap.size + 1,21,none⟩ = some (y21) ∧ W.cell? ⟨w.heap.size,22,none⟩ = some (x22) ∧ W.cell? ⟨w.heap.size + 1,22,none⟩ = some (y22) ∧ W.cell? ⟨w.heap.size,23,none⟩ = some (x23) ∧ W.cell? ⟨w.heap.size + 1,23,none⟩ = some (y23)):=Lib.hid (fun W hb => ⟨cell_of_block (kept_box hb p1) 0 kx0,cell_of_block (kept_box hb p2) 0 ky0,cell_of_block (kept_box hb p1) 3 kx3,cell_of_block (kept_box hb p2) 3 ky3,cell_of_block (kept_box hb p1) 4 kx4,cell_of_block (kept_box hb p2) 4 ky4,cell_of_block (kept_box hb p1) 5 kx5,cell_of_block (kept_box hb p2) 5 ky5,cell_of_block (kept_box hb p1) 6 kx6,cell_of_block (kept_box hb p2) 6 ky6,cell_of_block (kept_box hb p1) 7 kx7,cell_of_block (kept_box hb p2) 7 ky7,cell_of_block (kept_box hb p1) 8 kx8,cell_of_block (kept_box hb p2) 8 ky8,cell_of_block (kept_box hb p1) 9 kx9,cell_of_block (kept_box hb p2) 9 ky9,cell_of_block (kept_box hb p1) 10 kx10,cell_of_block (kept_box hb p2) 10 ky10,cell_of_block (kept_box hb p1) 11 kx11,cell_of_block (kept_box hb p2) 11 ky11,cell_of_block (kept_box hb p1) 12 kx12,cell_of_block (kept_box hb p2) 12 ky12,cell_of_block (kept_box hb p1) 13 kx13,cell_of_block (kept_box hb p2) 13 ky13,cell_of_block (kept_box hb p1) 14 kx14,cell_of_block (kept_box hb p2) 14 ky14,cell_of_block (kept_box hb p1) 15 kx15,cell_of_block (kept_box hb p2) 15 ky15,cell_of_block (kept_box hb p1) 16 kx16,cell_of_block (kept_box hb p2) 16 ky16,cell_of_block (kept_box hb p1) 17 kx17,cell_of_block (kept_box hb p2) 17 ky17,cell_of_block (kept_box hb p1) 18 kx18,cell_of_block (kept_box hb p2) 18 ky18,cell_of_block (kept_box hb p1) 19 kx19,cell_of_block (kept_box hb p2) 19 ky19,cell_of_block (kept_box hb p1) 20 kx20,cell_of_block (kept_box hb p2) 20 ky20,cell_of_block (kept_box hb p1) 21 kx21,cell_of_block (kept_box hb p2) 21 ky21,cell_of_block (kept_box hb p1) 22 kx22,cell_of_block (kept_box hb p2) 22 ky22,cell_of_block (kept_box hb p1) 23 kx23,cell_of_block (kept_box hb p2) 23 ky23⟩)
 have HX0:=Lib.hid (Below.refl W1.heap.size W1)
 have hF0:=HF.out _ HX0.out
 rw [hW1] at hF0
 obtain ⟨cx0,cy0,cx3,cy3,cx4,cy4,cx5,cy5,cx6,cy6,cx7,cy7,cx8,cy8,cx9,cy9,cx10,cy10,cx11,cy11,cx12,cy12,cx13,cy13,cx14,cy14,cx15,cy15,cx16,cy16,cx17,cy17,cx18,cy18,cx19,cy19,cx20,cy20,cx21,cy21,cx22,cy22,cx23,cy23⟩:=hF0
 clear hq4 hq5 hq6 hq7 hq8 hq9 hN p1 p2 hcs hds kx0 ky0 kx3 ky3 kx4 ky4 kx5 ky5 kx6 ky6 kx7 ky7 kx8 ky8 kx9 ky9 kx10 ky10 kx11 ky11 kx12 ky12 kx13 ky13 kx14 ky14 kx15 ky15 kx16 ky16 kx17 ky17 kx18 ky18 kx19 ky19 kx20 ky20 kx21 ky21 kx22 ky22 kx23 ky23
 by_cases h0 : x0 = y0
 ·subst h0
  by_cases h3 : x3 = y3
  ·subst h3
   by_cases h4 : x4 = y4
   ·subst h4
    by_cases h5 : x5 = y5
    ·subst h5
     cases q4 with
     | false =>
       have e : r = false:=Bool.eq_false_iff.2 (fun h => by simpa using hr.1 h)
       clear hr
       subst e
       go_enter Tryz.func32,Tryz.ntmps32
       simp only [e4]
       clear e4 hT
       go_wp2_with (go_at_call 54;rw [← hW1];clear hW1;((with_reducible refine (HQ4.out _ (HB.out.chain HX0.out)).mono ?_);rintro e w5 ⟨rfl,hb⟩);have HX5:=Lib.hid (HX0.out.chain hb);clear hb;clear cx0 cy0 cx3 cy3 cx4 cy4 cx5 cy5 cx6 cy6 cx7 cy7 cx8 cy8 cx9 cy9 cx10 cy10 cx11 cy11 cx12 cy12 cx13 cy13 cx14 cy14 cx15 cy15 cx16 cy16 cx17 cy17 cx18 cy18 cx19 cy19 cx20 cy20 cx21 cy21 cx22 cy22 cx23 cy23)
       go_ret
       exact ⟨rfl,HB.out.chain HX5.out⟩
     | true =>
       cases q5 with
       | false =>
         have e : r = false:=Bool.eq_false_iff.2 (fun h => by simpa using hr.1 h)
         clear hr
         subst e
         go_enter Tryz.func32,Tryz.ntmps32
         simp only [e4]
         clear e4 hT
         go_wp2_with (first
          | (go_at_call 54;rw [← hW1];clear hW1;((with_reducible refine (HQ4.out _ (HB.out.chain HX0.out)).mono ?_);rintro e w5 ⟨rfl,hb⟩);have HX5:=Lib.hid (HX0.out.chain hb);clear hb;clear cx0 cy0 cx3 cy3 cx4 cy4 cx5 cy5 cx6 cy6 cx7 cy7 cx8 cy8 cx9 cy9 cx10 cy10 cx11 cy11 cx12 cy12 cx13 cy13 cx14 cy14 cx15 cy15 cx16 cy16 cx17 cy17 cx18 cy18 cx19 cy19 cx20 cy20 cx21 cy21 cx22 cy22 cx23 cy23;obtain ⟨-,-,-,-,-,-,-,-,-,-,-,-,-,-,-,-,f5x10,f5y10,f5x11,f5y11,f5x12,f5y12,f5x13,f5y13,f5x14,f5y14,f5x15,f5y15,f5x16,f5y16,f5x17,f5y17,f5x18,f5y18,f5x19,f5y19,f5x20,f5y20,f5x21,f5y21,f5x22,f5y22,f5x23,f5y23⟩:=HF.out _ HX5.out)
          | (go_at_call 55;((with_reducible refine (HQ5.out _ (HB.out.chain HX5.out)).mono ?_);rintro e w6 ⟨rfl,hb⟩);have HX6:=Lib.hid (HX5.out.chain hb);clear hb;clear f5x10 f5y10 f5x11 f5y11 f5x12 f5y12 f5x13 f5y13 f5x14 f5y14 f5x15 f5y15 f5x16 f5y16 f5x17 f5y17 f5x18 f5y18 f5x19 f5y19 f5x20 f5y20 f5x21 f5y21 f5x22 f5y22 f5x23 f5y23))
         go_ret
         exact ⟨rfl,HB.out.chain HX6.out⟩
       | true =>
         cases q6 with
         | false =>
           have e : r = false:=Bool.eq_false_iff.2 (fun h => by simpa using hr.1 h)
           clear hr
           subst e
           go_enter Tryz.func32,Tryz.ntmps32
           simp only [e4]
           clear e4 hT
           go_wp2_with (first
            | (go_at_call 54;rw [← hW1];clear hW1;((with_reducible refine (HQ4.out _ (HB.out.chain HX0.out)).mono ?_);rintro e w5 ⟨rfl,hb⟩);have HX5:=Lib.hid (HX0.out.chain hb);clear hb;clear cx0 cy0 cx3 cy3 cx4 cy4 cx5 cy5 cx6 cy6 cx7 cy7 cx8 cy8 cx9 cy9 cx10 cy10 cx11 cy11 cx12 cy12 cx13 cy13 cx14 cy14 cx15 cy15 cx16 cy16 cx17 cy17 cx18 cy18 cx19 cy19 cx20 cy20 cx21 cy21 cx22 cy22 cx23 cy23;obtain ⟨-,-,-,-,-,-,-,-,-,-,-,-,-,-,-,-,f5x10,f5y10,f5x11,f5y11,f5x12,f5y12,f5x13,f5y13,f5x14,f5y14,f5x15,f5y15,f5x16,f5y16,f5x17,f5y17,f5x18,f5y18,f5x19,f5y19,f5x20,f5y20,f5x21,f5y21,f5x22,f5y22,f5x23,f5y23⟩:=HF.out _ HX5.out)
            | (go_at_call 55;((with_reducible refine (HQ5.out _ (HB.out.chain HX5.out)).mono ?_);rintro e w6 ⟨rfl,hb⟩);have HX6:=Lib.hid (HX5.out.chain hb);clear hb;clear f5x10 f5y10 f5x11 f5y11 f5x12 f5y12 f5x13 f5y13 f5x14 f5y14 f5x15 f5y15 f5x16 f5y16 f5x17 f5y17 f5x18 f5y18 f5x19 f5y19 f5x20 f5y20 f5x21 f5y21 f5x22 f5y22 f5x23 f5y23;obtain ⟨-,-,-,-,-,-,-,-,-,-,-,-,-,-,-,-,-,-,-,-,-,-,-,-,-,-,-,-,-,-,-,-,-,-,-,-,f6x20,f6y20,f6x21,f6y21,f6x22,f6y22,f6x23,f6y23⟩:=HF.out _ HX6.out)
            | (go_at_call 56;((with_reducible refine (HQ6.out _ (HB.out.chain HX6.out)).mono ?_);rintro e w7 ⟨rfl,hb⟩);have HX7:=Lib.hid (HX6.out.chain hb);clear hb;clear f6x20 f6y20 f6x21 f6y21 f6x22 f6y22 f6x23 f6y23))
           go_ret
           exact ⟨rfl,HB.out.chain HX7.out⟩
         | true =>
           cases q7 with
           | false =>
             have e : r = false:=Bool.eq_false_iff.2 (fun h => by simpa using hr.1 h)
             clear hr
             subst e
             go_enter Tryz.func32,Tryz.ntmps32
             simp only [e4]
             clear e4 hT
             go_wp2_with (first
              | (go_at_call 54;rw [← hW1];clear hW1;((with_reducible refine (HQ4.out _ (HB.out.chain HX0.out)).mono ?_);rintro e w5 ⟨rfl,hb⟩);have HX5:=Lib.hid (HX0.out.chain hb);clear hb;clear cx0 cy0 cx3 cy3 cx4 cy4 cx5 cy5 cx6 cy6 cx7 cy7 cx8 cy8 cx9 cy9 cx10 cy10 cx11 cy11 cx12 cy12 cx13 cy13 cx14 cy14 cx15 cy15 cx16 cy16 cx17 cy17 cx18 cy18 cx19 cy19 cx20 cy20 cx21 cy21 cx22 cy22 cx23 cy23;obtain ⟨-,-,-,-,-,-,-,-,-,-,-,-,-,-,-,-,f5x10,f5y10,f5x11,f5y11,f5x12,f5y12,f5x13,f5y13,f5x14,f5y14,f5x15,f5y15,f5x16,f5y16,f5x17,f5y17,f5x18,f5y18,f5x19,f5y19,f5x20,f5y20,f5x21,f5y21,f5x22,f5y22,f5x23,f5y23⟩:=HF.out _ HX5.out)
              | (go_at_call 55;((with_reducible refine (HQ5.out _ (HB.out.chain HX5.out)).mono ?_);rintro e w6 ⟨rfl,hb⟩);have HX6:=Lib.hid (HX5.out.chain hb);clear hb;clear f5x10 f5y10 f5x11 f5y11 f5x12 f5y12 f5x13 f5y13 f5x14 f5y14 f5x15 f5y15 f5x16 f5y16 f5x17 f5y17 f5x18 f5y18 f5x19 f5y19 f5x20 f5y20 f5x21 f5y21 f5x22 f5y22 f5x23 f5y23;obtain ⟨-,-,-,-,-,-,-,-,-,-,-,-,-,-,-,-,-,-,-,-,-,-,-,-,-,-,-,-,-,-,-,-,-,-,-,-,f6x20,f6y20,f6x21,f6y21,f6x22,f6y22,f6x23,f6y23⟩:=HF.out _ HX6.out)
              | (go_at_call 56;((with_reducible refine (HQ6.out _ (HB.out.chain HX6.out)).mono ?_);rintro e w7 ⟨rfl,hb⟩);have HX7:=Lib.hid (HX6.out.chain hb);clear hb;clear f6x20 f6y20 f6x21 f6y21 f6x22 f6y22 f6x23 f6y23;obtain ⟨-,-,-,-,-,-,-,-,-,-,-,-,-,-,-,-,-,-,-,-,-,-,-,-,-,-,-,-,-,-,-,-,-,-,-,-,-,-,f7x21,f7y21,f7x22,f7y22,f7x23,f7y23⟩:=HF.out _ HX7.out)
              | (go_at_call 58;((with_reducible refine (HQ7.out _ (HB.out.chain HX7.out)).mono ?_);rintro e w8 ⟨rfl,hb⟩);have HX8:=Lib.hid (HX7.out.chain hb);clear hb;clear f7x21 f7y21 f7x22 f7y22 f7x23 f7y23))
             go_ret
             exact ⟨rfl,HB.out.chain HX8.out⟩
           | true =>
             cases q8 with
             | false =>
               have e : r = false:=Bool.eq_false_iff.2 (fun h => by simpa using hr.1 h)
               clear hr
               subst e
               go_enter Tryz.func32,Tryz.ntmps32
               simp only [e4]
               clear e4 hT
               go_wp2_with (first
                | (go_at_call 54;rw [← hW1];clear hW1;((with_reducible refine (HQ4.out _ (HB.out.chain HX0.out)).mono ?_);rintro e w5 ⟨rfl,hb⟩);have HX5:=Lib.hid (HX0.out.chain hb);clear hb;clear cx0 cy0 cx3 cy3 cx4 cy4 cx5 cy5 cx6 cy6 cx7 cy7 cx8 cy8 cx9 cy9 cx10 cy10 cx11 cy11 cx12 cy12 cx13 cy13 cx14 cy14 cx15 cy15 cx16 cy16 cx17 cy17 cx18 cy18 cx19 cy19 cx20 cy20 cx21 cy21 cx22 cy22 cx23 cy23;obtain ⟨-,-,-,-,-,-,-,-,-,-,-,-,-,-,-,-,f5x10,f5y10,f5x11,f5y11,f5x12,f5y12,f5x13,f5y13,f5x14,f5y14,f5x15,f5y15,f5x16,f5y16,f5x17,f5y17,f5x18,f5y18,f5x19,f5y19,f5x20,f5y20,f5x21,f5y21,f5x22,f5y22,f5x23,f5y23⟩:=HF.out _ HX5.out)
                | (go_at_call 55;((with_reducible refine (HQ5.out _ (HB.out.chain HX5.out)).mono ?_);rintro e w6 ⟨rfl,hb⟩);have HX6:=Lib.hid (HX5.out.chain hb);clear hb;clear f5x10 f5y10 f5x11 f5y11 f5x12 f5y12 f5x13 f5y13 f5x14 f5y14 f5x15 f5y15 f5x16 f5y16 f5x17 f5y17 f5x18 f5y18 f5x19 f5y19 f5x20 f5y20 f5x21 f5y21 f5x22 f5y22 f5x23 f5y23;obtain ⟨-,-,-,-,-,-,-,-,-,-,-,-,-,-,-,-,-,-,-,-,-,-,-,-,-,-,-,-,-,-,-,-,-,-,-,-,f6x20,f6y20,f6x21,f6y21,f6x22,f6y22,f6x23,f6y23⟩:=HF.out _ HX6.out)
                | (go_at_call 56;((with_reducible refine (HQ6.out _ (HB.out.chain HX6.out)).mono ?_);rintro e w7 ⟨rfl,hb⟩);have HX7:=Lib.hid (HX6.out.chain hb);clear hb;clear f6x20 f6y20 f6x21 f6y21 f6x22 f6y22 f6x23 f6y23;obtain ⟨-,-,-,-,-,-,-,-,-,-,-,-,-,-,-,-,-,-,-,-,-,-,-,-,-,-,-,-,-,-,-,-,-,-,-,-,-,-,f7x21,f7y21,f7x22,f7y22,f7x23,f7y23⟩:=HF.out _ HX7.out)
                | (go_at_call 58;((with_reducible refine (HQ7.out _ (HB.out.chain HX7.out)).mono ?_);rintro e w8 ⟨rfl,hb⟩);have HX8:=Lib.hid (HX7.out.chain hb);clear hb;clear f7x21 f7y21 f7x22 f7y22 f7x23 f7y23;obtain ⟨-,-,-,-,-,-,-,-,-,-,-,-,-,-,-,-,-,-,-,-,-,-,-,-,-,-,-,-,-,-,-,-,-,-,-,-,-,-,-,-,f8x22,f8y22,f8x23,f8y23⟩:=HF.out _ HX8.out)
                | (go_at_call 9;((with_reducible refine (HQ8.out _ (HB.out.chain HX8.out)).mono ?_);rintro e w9 ⟨rfl,hb⟩);have HX9:=Lib.hid (HX8.out.chain hb);clear hb;clear f8x22 f8y22 f8x23 f8y23))
               go_ret
               exact ⟨rfl,HB.out.chain HX9.out⟩
             | true =>
               cases q9 with
               | false =>
                 have e : r = false:=Bool.eq_false_iff.2 (fun h => by simpa using hr.1 h)
                 clear hr
                 subst e
                 go_enter Tryz.func32,Tryz.ntmps32
                 simp only [e4]
                 clear e4 hT
                 go_wp2_with (first
                  | (go_at_call 54;rw [← hW1];clear hW1;((with_reducible refine (HQ4.out _ (HB.out.chain HX0.out)).mono ?_);rintro e w5 ⟨rfl,hb⟩);have HX5:=Lib.hid (HX0.out.chain hb);clear hb;clear cx0 cy0 cx3 cy3 cx4 cy4 cx5 cy5 cx6 cy6 cx7 cy7 cx8 cy8 cx9 cy9 cx10 cy10 cx11 cy11 cx12 cy12 cx13 cy13 cx14 cy14 cx15 cy15 cx16 cy16 cx17 cy17 cx18 cy18 cx19 cy19 cx20 cy20 cx21 cy21 cx22 cy22 cx23 cy23;obtain ⟨-,-,-,-,-,-,-,-,-,-,-,-,-,-,-,-,f5x10,f5y10,f5x11,f5y11,f5x12,f5y12,f5x13,f5y13,f5x14,f5y14,f5x15,f5y15,f5x16,f5y16,f5x17,f5y17,f5x18,f5y18,f5x19,f5y19,f5x20,f5y20,f5x21,f5y21,f5x22,f5y22,f5x23,f5y23⟩:=HF.out _ HX5.out)
                  | (go_at_call 55;((with_reducible refine (HQ5.out _ (HB.out.chain HX5.out)).mono ?_);rintro e w6 ⟨rfl,hb⟩);have HX6:=Lib.hid (HX5.out.chain hb);clear hb;clear f5x10 f5y10 f5x11 f5y11 f5x12 f5y12 f5x13 f5y13 f5x14 f5y14 f5x15 f5y15 f5x16 f5y16 f5x17 f5y17 f5x18 f5y18 f5x19 f5y19 f5x20 f5y20 f5x21 f5y21 f5x22 f5y22 f5x23 f5y23;obtain ⟨-,-,-,-,-,-,-,-,-,-,-,-,-,-,-,-,-,-,-,-,-,-,-,-,-,-,-,-,-,-,-,-,-,-,-,-,f6x20,f6y20,f6x21,f6y21,f6x22,f6y22,f6x23,f6y23⟩:=HF.out _ HX6.out)
                  | (go_at_call 56;((with_reducible refine (HQ6.out _ (HB.out.chain HX6.out)).mono ?_);rintro e w7 ⟨rfl,hb⟩);have HX7:=Lib.hid (HX6.out.chain hb);clear hb;clear f6x20 f6y20 f6x21 f6y21 f6x22 f6y22 f6x23 f6y23;obtain ⟨-,-,-,-,-,-,-,-,-,-,-,-,-,-,-,-,-,-,-,-,-,-,-,-,-,-,-,-,-,-,-,-,-,-,-,-,-,-,f7x21,f7y21,f7x22,f7y22,f7x23,f7y23⟩:=HF.out _ HX7.out)
                  | (go_at_call 58;((with_reducible refine (HQ7.out _ (HB.out.chain HX7.out)).mono ?_);rintro e w8 ⟨rfl,hb⟩);have HX8:=Lib.hid (HX7.out.chain hb);clear hb;clear f7x21 f7y21 f7x22 f7y22 f7x23 f7y23;obtain ⟨-,-,-,-,-,-,-,-,-,-,-,-,-,-,-,-,-,-,-,-,-,-,-,-,-,-,-,-,-,-,-,-,-,-,-,-,-,-,-,-,f8x22,f8y22,f8x23,f8y23⟩:=HF.out _ HX8.out)
                  | (go_at_call 9;((with_reducible refine (HQ8.out _ (HB.out.chain HX8.out)).mono ?_);rintro e w9 ⟨rfl,hb⟩);have HX9:=Lib.hid (HX8.out.chain hb);clear hb;clear f8x22 f8y22 f8x23 f8y23;obtain ⟨-,-,-,-,-,-,-,-,-,-,-,-,-,-,-,-,-,-,-,-,-,-,-,-,-,-,-,-,-,-,-,-,-,-,-,-,-,-,-,-,-,-,f9x23,f9y23⟩:=HF.out _ HX9.out)
                  | (go_at_call 9;((with_reducible refine (HQ9.out _ (HB.out.chain HX9.out)).mono ?_);rintro e w10 ⟨rfl,hb⟩);have HX10:=Lib.hid (HX9.out.chain hb);clear hb;clear f9x23 f9y23))
                 go_ret
                 exact ⟨rfl,HB.out.chain HX10.out⟩
               | true =>
                 have e : r = true:=hr.2 (by simp)
                 clear hr
                 subst e
                 go_enter Tryz.func32,Tryz.ntmps32
                 simp only [e4]
                 clear e4 hT
                 go_wp2_with (first
                  | (go_at_call 54;rw [← hW1];clear hW1;((with_reducible refine (HQ4.out _ (HB.out.chain HX0.out)).mono ?_);rintro e w5 ⟨rfl,hb⟩);have HX5:=Lib.hid (HX0.out.chain hb);clear hb;clear cx0 cy0 cx3 cy3 cx4 cy4 cx5 cy5 cx6 cy6 cx7 cy7 cx8 cy8 cx9 cy9 cx10 cy10 cx11 cy11 cx12 cy12 cx13 cy13 cx14 cy14 cx15 cy15 cx16 cy16 cx17 cy17 cx18 cy18 cx19 cy19 cx20 cy20 cx21 cy21 cx22 cy22 cx23 cy23;obtain ⟨-,-,-,-,-,-,-,-,-,-,-,-,-,-,-,-,f5x10,f5y10,f5x11,f5y11,f5x12,f5y12,f5x13,f5y13,f5x14,f5y14,f5x15,f5y15,f5x16,f5y16,f5x17,f5y17,f5x18,f5y18,f5x19,f5y19,f5x20,f5y20,f5x21,f5y21,f5x22,f5y22,f5x23,f5y23⟩:=HF.out _ HX5.out)
                  | (go_at_call 55;((with_reducible refine (HQ5.out _ (HB.out.chain HX5.out)).mono ?_);rintro e w6 ⟨rfl,hb⟩);have HX6:=Lib.hid (HX5.out.chain hb);clear hb;clear f5x10 f5y10 f5x11 f5y11 f5x12 f5y12 f5x13 f5y13 f5x14 f5y14 f5x15 f5y15 f5x16 f5y16 f5x17 f5y17 f5x18 f5y18 f5x19 f5y19 f5x20 f5y20 f5x21 f5y21 f5x22 f5y22 f5x23 f5y23;obtain ⟨-,-,-,-,-,-,-,-,-,-,-,-,-,-,-,-,-,-,-,-,-,-,-,-,-,-,-,-,-,-,-,-,-,-,-,-,f6x20,f6y20,f6x21,f6y21,f6x22,f6y22,f6x23,f6y23⟩:=HF.out _ HX6.out)
                  | (go_at_call 56;((with_reducible refine (HQ6.out _ (HB.out.chain HX6.out)).mono ?_);rintro e w7 ⟨rfl,hb⟩);have HX7:=Lib.hid (HX6.out.chain hb);clear hb;clear f6x20 f6y20 f6x21 f6y21 f6x22 f6y22 f6x23 f6y23;obtain ⟨-,-,-,-,-,-,-,-,-,-,-,-,-,-,-,-,-,-,-,-,-,-,-,-,-,-,-,-,-,-,-,-,-,-,-,-,-,-,f7x21,f7y21,f7x22,f7y22,f7x23,f7y23⟩:=HF.out _ HX7.out)
                  | (go_at_call 58;((with_reducible refine (HQ7.out _ (HB.out.chain HX7.out)).mono ?_);rintro e w8 ⟨rfl,hb⟩);have HX8:=Lib.hid (HX7.out.chain hb);clear hb;clear f7x21 f7y21 f7x22 f7y22 f7x23 f7y23;obtain ⟨-,-,-,-,-,-,-,-,-,-,-,-,-,-,-,-,-,-,-,-,-,-,-,-,-,-,-,-,-,-,-,-,-,-,-,-,-,-,-,-,f8x22,f8y22,f8x23,f8y23⟩:=HF.out _ HX8.out)
                  | (go_at_call 9;((with_reducible refine (HQ8.out _ (HB.out.chain HX8.out)).mono ?_);rintro e w9 ⟨rfl,hb⟩);have HX9:=Lib.hid (HX8.out.chain hb);clear hb;clear f8x22 f8y22 f8x23 f8y23;obtain ⟨-,-,-,-,-,-,-,-,-,-,-,-,-,-,-,-,-,-,-,-,-,-,-,-,-,-,-,-,-,-,-,-,-,-,-,-,-,-,-,-,-,-,f9x23,f9y23⟩:=HF.out _ HX9.out)
                  | (go_at_call 9;((with_reducible refine (HQ9.out _ (HB.out.chain HX9.out)).mono ?_);rintro e w10 ⟨rfl,hb⟩);have HX10:=Lib.hid (HX9.out.chain hb);clear hb;clear f9x23 f9y23))
                 go_ret
                 exact ⟨rfl,HB.out.chain HX10.out⟩
    ·have e : r = false:=Bool.eq_false_iff.2 (fun h => by have := hr.1 h;simp [h5] at this)
     have hs5 : (x5 == y5) = false:=by simpa using h5
     clear hr
     subst e
     go_enter Tryz.func32,Tryz.ntmps32
     simp only [e4]
     clear e4 hT
     go_wp2
     go_ret
     rw [← hW1]
     exact ⟨rfl,HB.out.chain HX0.out⟩
   ·have e : r = false:=Bool.eq_false_iff.2 (fun h => by have := hr.1 h;simp [h4] at this)
    have hs4 : (x4 == y4) = false:=by simpa using h4
    clear hr
    subst e
    go_enter Tryz.func32,Tryz.ntmps32
    simp only [e4]
    clear e4 hT
    go_wp2
    go_ret
    rw [← hW1]
    exact ⟨rfl,HB.out.chain HX0.out⟩
  ·have e : r = false:=Bool.eq_false_iff.2 (fun h => by have := hr.1 h;simp [h3] at this)
   have hs3 : (x3 == y3) = false:=by simpa using h3
   clear hr
   subst e
   go_enter Tryz.func32,Tryz.ntmps32
   simp only [e4]
   clear e4 hT
   go_wp2
   go_ret
   rw [← hW1]
   exact ⟨rfl,HB.out.chain HX0.out⟩
 ·have e : r = false:=Bool.eq_false_iff.2 (fun h => by have := hr.1 h;simp [h0] at this)
  clear hr
  subst e
  go_enter Tryz.func32,Tryz.ntmps32
  simp only [e4]
  clear e4 hT
  go_wp2
  go_ret
  rw [← hW1]
  exact ⟨rfl,HB.out.chain HX0.out⟩
end Go.Proofs.YtnkpgpmaiicdeaaGreatDoor
