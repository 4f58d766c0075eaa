/-
  Two procedures compared part by part, by the code and by the reference.
-/
import Derived.Test.YtehmoomoocdidaaGreatDoorSTreeQa
set_option linter.unusedVariables false
set_option linter.unusedSimpArgs false
namespace Go.Proofs.YtehmoomoocdidaaGreatDoor
set_option maxRecDepth 100000
set_option maxHeartbeats 8000000
open Go.RowKit
theorem eqpr_core (cs ds : Array Value) (hcs : cs.size = 12) (hds : ds.size = 12) (x0 y0 : List UInt8) (x3 y3 : Value) (x4 y4 : Value) (x5 y5 : List UInt8) (x6 y6 : List UInt8) (x7 y7 : Bool) (x8 y8 : Value) (x9 y9 : Value) (x10 y10 : Value) (x11 y11 : Value)
 (kx0 : cs[0]? = some (.string ⟨x0.toArray⟩)) (ky0 : ds[0]? = some (.string ⟨y0.toArray⟩))
 (kx3 : cs[3]? = some (x3)) (ky3 : ds[3]? = some (y3))
 (kx4 : cs[4]? = some (x4)) (ky4 : ds[4]? = some (y4))
 (kx5 : cs[5]? = some (.string ⟨x5.toArray⟩)) (ky5 : ds[5]? = some (.string ⟨y5.toArray⟩))
 (kx6 : cs[6]? = some (.string ⟨x6.toArray⟩)) (ky6 : ds[6]? = some (.string ⟨y6.toArray⟩))
 (kx7 : cs[7]? = some (.bool x7)) (ky7 : ds[7]? = some (.bool y7))
 (kx8 : cs[8]? = some (x8)) (ky8 : ds[8]? = some (y8))
 (kx9 : cs[9]? = some (x9)) (ky9 : ds[9]? = some (y9))
 (kx10 : cs[10]? = some (x10)) (ky10 : ds[10]? = some (y10))
 (kx11 : cs[11]? = some (x11)) (ky11 : ds[11]? = some (y11)) (q3 : Bool) (q4 : Bool) (q5 : Bool) (q6 : Bool) (q7 : Bool) (q8 : Bool) (w : World) (r : Bool)
 (hq3 : BC w 20 #[x3,y3,.func (.func 21) #[] #[]] q3)
 (hq4 : BC w 20 #[x4,y4,.func (.func 21) #[] #[]] q4)
 (hq5 : BC w 43 #[x8,y8,.func (.func 44) #[] #[]] q5)
 (hq6 : BC w 43 #[x9,y9,.func (.func 44) #[] #[]] q6)
 (hq7 : BC w 20 #[x10,y10,.func (.func 21) #[] #[]] q7)
 (hq8 : BC w 45 #[x11,y11] q8)
 (hr : r = true ↔ x0 = y0 ∧ (x5 = y5 ∧ x6 = y6) ∧ x7 = y7 ∧ q3 = true ∧ q4 = true ∧ q5 = true ∧ q6 = true ∧ q7 = true ∧ q8 = true) :
 Calls Tryz.prog 29 #[.agg cs,.agg ds] w fun e w' => e = .returned (.bool r) ∧ Below w.heap.size w w':=by
 obtain ⟨T,N,hT,hN,hag,hsz⟩:=hid_Proc
 have e4 : ∀ y : Operand,Op.box 40 y = Op.box T y:=fun y => by rw [hT]
 have HQ3:=Lib.hid hq3
 have HQ4:=Lib.hid hq4
 have HQ5:=Lib.hid hq5
 have HQ6:=Lib.hid hq6
 have HQ7:=Lib.hid hq7
 have HQ8:=Lib.hid hq8
 have hszc : cs.size = N:=hcs.trans hN.symm
 have hszd : ds.size = N:=hds.trans hN.symm
 obtain ⟨W1,hW1⟩ : ∃ W1,W1 = (w.alloc (.cells cs T)).alloc (.cells ds T):=⟨_,rfl⟩
 have HB : Hid (Below w.heap.size w W1):=Lib.hid (by rw [hW1];exact (below_alloc w _).chain (below_alloc _ _))
 have p1:=heap_keep (o:=.cells ds T) (heap_of_alloc w (.cells cs T))
 have p2:=heap_of_alloc (w.alloc (.cells cs T)) (.cells ds T)
 rw [size_of_alloc] at p2
 rw [← hW1] at p1 p2
 have HF : Hid (∀ W,Below W1.heap.size W1 W → W.cell? ⟨w.heap.size,0,none⟩ = some (.string ⟨x0.toArray⟩) ∧ W.cell? ⟨w.heap.size + 1,0,none⟩ = some (.string ⟨y0.toArray⟩) ∧ W.cell? ⟨w.heap.size,3,none⟩ = some (x3) ∧ W.cell? ⟨w.heap.size + 1,3,none⟩ = some (y3) ∧ W.cell? ⟨w.heap.size,4,none⟩ = some (x4) ∧ W.cell? ⟨w.heap.size + 1,4,none⟩ = some (y4) ∧ W.cell? ⟨w.heap.size,5,none⟩ = some (.string ⟨x5.toArray⟩) ∧ W.cell? ⟨w.heap.size + 1,5,none⟩ = some (.string ⟨y5.toArray⟩) ∧ W.cell? ⟨w.heap.size,6,none⟩ = some (.string ⟨x6.toArray⟩) ∧ W.cell? ⟨w.heap.size + 1,6,none⟩ = some (.string ⟨y6.toArray⟩) ∧ W.cell? ⟨w.heap.size,7,none⟩ = some (.bool x7) ∧ W.cell? ⟨w.heap.size + 1,7,none⟩ = some (.bool y7) ∧ W.cell? ⟨w.heap.size,8,none⟩ = some (x8) ∧ W.cell? ⟨w.heap.size + 1,8,none⟩ = some (y8) ∧ W.cell? ⟨w.heap.size,9,none⟩ = some (x9) ∧ W.cell? ⟨w.heap.size + 1,9,none⟩ = some (y9) ∧ W.cell? ⟨w.heap.size,10,none⟩ = some (x10) ∧ W.cell? ⟨w.heap.size + 1,10,none⟩ = some (y10) ∧ W.cell? ⟨w.heap.size,11,none⟩ = some (x11) ∧ W.cell? ⟨w.heap.size + 1,11,none⟩ = some (y11)):=Lib.hid (fun W hb => ⟨cell_of_block (kept_box hb p1) 0 kx0,cell_of_block (kept_box hb p2) 0 ky0,cell_of_block (kept_box hb p1) 3 kx3,cell_of_block (kept_box hb p2) 3 ky3,cell_of_block (kept_box hb p1) 4 kx4,cell_of_block (kept_box hb p2) 4 ky4,cell_of_block (kept_box hb p1) 5 kx5,cell_of_block (kept_box hb p2) 5 ky5,cell_of_block (kept_box hb p1) 6 kx6,cell_of_block (kept_box hb p2) 6 ky6,cell_of_block (kept_box hb p1) 7 kx7,cell_of_block (kept_box hb p2) 7 ky7,cell_of_block (kept_box hb p1) 8 kx8,cell_of_block (kept_box hb p2) 8 ky8,cell_of_block (kept_box hb p1) 9 kx9,cell_of_block (kept_box hb p2) 9 ky9,cell_of_block (kept_box hb p1) 10 kx10,cell_of_block (kept_box hb p2) 10 ky10,cell_of_block (kept_box hb p1) 11 kx11,cell_of_block (kept_box hb p2) 11 ky11⟩)
 have HX0:=Lib.hid (Below.refl W1.heap.size W1)
 have hF0:=HF.out _ HX0.out
 rw [hW1] at hF0
 obtain ⟨cx0,cy0,cx3,cy3,cx4,cy4,cx5,cy5,cx6,cy6,cx7,cy7,cx8,cy8,cx9,cy9,cx10,cy10,cx11,cy11⟩:=hF0
 clear hq3 hq4 hq5 hq6 hq7 hq8 hN p1 p2 hcs hds kx0 ky0 kx3 ky3 kx4 ky4 kx5 ky5 kx6 ky6 kx7 ky7 kx8 ky8 kx9 ky9 kx10 ky10 kx11 ky11
 by_cases h0 : x0 = y0
 ·subst h0
  by_cases h5 : x5 = y5
  ·subst h5
   by_cases h6 : x6 = y6
   ·subst h6
    cases x7 with
    | false =>
      cases y7 with
      | false =>
        cases q3 with
        | false =>
          have e : r = false:=Bool.eq_false_iff.2 (fun h => by simpa using hr.1 h)
          clear hr
          subst e
          go_enter Tryz.func29,Tryz.ntmps29
          simp only [e4]
          clear e4 hT
          go_wp2_with (go_at_call 20;rw [← hW1];clear hW1;((with_reducible refine (HQ3.out _ (HB.out.chain HX0.out)).mono ?_);rintro e w4 ⟨rfl,hb⟩);have HX4:=Lib.hid (HX0.out.chain hb);clear hb;clear cx0 cy0 cx3 cy3 cx4 cy4 cx5 cy5 cx6 cy6 cx7 cy7 cx8 cy8 cx9 cy9 cx10 cy10 cx11 cy11)
          go_ret
          exact ⟨rfl,HB.out.chain HX4.out⟩
        | true =>
          cases q4 with
          | false =>
            have e : r = false:=Bool.eq_false_iff.2 (fun h => by simpa using hr.1 h)
            clear hr
            subst e
            go_enter Tryz.func29,Tryz.ntmps29
            simp only [e4]
            clear e4 hT
            go_wp2_with (first
             | (go_at_call 20;rw [← hW1];clear hW1;((with_reducible refine (HQ3.out _ (HB.out.chain HX0.out)).mono ?_);rintro e w4 ⟨rfl,hb⟩);have HX4:=Lib.hid (HX0.out.chain hb);clear hb;clear cx0 cy0 cx3 cy3 cx4 cy4 cx5 cy5 cx6 cy6 cx7 cy7 cx8 cy8 cx9 cy9 cx10 cy10 cx11 cy11;obtain ⟨-,-,-,-,f4x4,f4y4,-,-,-,-,-,-,f4x8,f4y8,f4x9,f4y9,f4x10,f4y10,f4x11,f4y11⟩:=HF.out _ HX4.out)
             | (go_at_call 20;((with_reducible refine (HQ4.out _ (HB.out.chain HX4.out)).mono ?_);rintro e w5 ⟨rfl,hb⟩);have HX5:=Lib.hid (HX4.out.chain hb);clear hb;clear f4x4 f4y4 f4x8 f4y8 f4x9 f4y9 f4x10 f4y10 f4x11 f4y11))
            go_ret
            exact ⟨rfl,HB.out.chain HX5.out⟩
          | true =>
            cases q5 with
            | false =>
              have e : r = false:=Bool.eq_false_iff.2 (fun h => by simpa using hr.1 h)
              clear hr
              subst e
              go_enter Tryz.func29,Tryz.ntmps29
              simp only [e4]
              clear e4 hT
              go_wp2_with (first
               | (go_at_call 20;rw [← hW1];clear hW1;((with_reducible refine (HQ3.out _ (HB.out.chain HX0.out)).mono ?_);rintro e w4 ⟨rfl,hb⟩);have HX4:=Lib.hid (HX0.out.chain hb);clear hb;clear cx0 cy0 cx3 cy3 cx4 cy4 cx5 cy5 cx6 cy6 cx7 cy7 cx8 cy8 cx9 cy9 cx10 cy10 cx11 cy11;obtain ⟨-,-,-,-,f4x4,f4y4,-,-,-,-,-,-,f4x8,f4y8,f4x9,f4y9,f4x10,f4y10,f4x11,f4y11⟩:=HF.out _ HX4.out)
               | (go_at_call 20;((with_reducible refine (HQ4.out _ (HB.out.chain HX4.out)).mono ?_);rintro e w5 ⟨rfl,hb⟩);have HX5:=Lib.hid (HX4.out.chain hb);clear hb;clear f4x4 f4y4 f4x8 f4y8 f4x9 f4y9 f4x10 f4y10 f4x11 f4y11;obtain ⟨-,-,-,-,-,-,-,-,-,-,-,-,f5x8,f5y8,f5x9,f5y9,f5x10,f5y10,f5x11,f5y11⟩:=HF.out _ HX5.out)
               | (go_at_call 43;((with_reducible refine (HQ5.out _ (HB.out.chain HX5.out)).mono ?_);rintro e w6 ⟨rfl,hb⟩);have HX6:=Lib.hid (HX5.out.chain hb);clear hb;clear f5x8 f5y8 f5x9 f5y9 f5x10 f5y10 f5x11 f5y11))
              go_ret
              exact ⟨rfl,HB.out.chain HX6.out⟩
            | true =>
              cases q6 with
              | false =>
                have e : r = false:=Bool.eq_false_iff.2 (fun h => by simpa using hr.1 h)
                clear hr
                subst e
                go_enter Tryz.func29,Tryz.ntmps29
                simp only [e4]
                clear e4 hT
                go_wp2_with (first
                 | (go_at_call 20;rw [← hW1];clear hW1;((with_reducible refine (HQ3.out _ (HB.out.chain HX0.out)).mono ?_);rintro e w4 ⟨rfl,hb⟩);have HX4:=Lib.hid (HX0.out.chain hb);clear hb;clear cx0 cy0 cx3 cy3 cx4 cy4 cx5 cy5 cx6 cy6 cx7 cy7 cx8 cy8 cx9 cy9 cx10 cy10 cx11 cy11;obtain ⟨-,-,-,-,f4x4,f4y4,-,-,-,-,-,-,f4x8,f4y8,f4x9,f4y9,f4x10,f4y10,f4x11,f4y11⟩:=HF.out _ HX4.out)
                 | (go_at_call 20;((with_reducible refine (HQ4.out _ (HB.out.chain HX4.out)).mono ?_);rintro e w5 ⟨rfl,hb⟩);have HX5:=Lib.hid (HX4.out.chain hb);clear hb;clear f4x4 f4y4 f4x8 f4y8 f4x9 f4y9 f4x10 f4y10 f4x11 f4y11;obtain ⟨-,-,-,-,-,-,-,-,-,-,-,-,f5x8,f5y8,f5x9,f5y9,f5x10,f5y10,f5x11,f5y11⟩:=HF.out _ HX5.out)
                 | (go_at_call 43;((with_reducible refine (HQ5.out _ (HB.out.chain HX5.out)).mono ?_);rintro e w6 ⟨rfl,hb⟩);have HX6:=Lib.hid (HX5.out.chain hb);clear hb;clear f5x8 f5y8 f5x9 f5y9 f5x10 f5y10 f5x11 f5y11;obtain ⟨-,-,-,-,-,-,-,-,-,-,-,-,-,-,f6x9,f6y9,f6x10,f6y10,f6x11,f6y11⟩:=HF.out _ HX6.out)
                 | (go_at_call 43;((with_reducible refine (HQ6.out _ (HB.out.chain HX6.out)).mono ?_);rintro e w7 ⟨rfl,hb⟩);have HX7:=Lib.hid (HX6.out.chain hb);clear hb;clear f6x9 f6y9 f6x10 f6y10 f6x11 f6y11))
                go_ret
                exact ⟨rfl,HB.out.chain HX7.out⟩
              | true =>
                cases q7 with
                | false =>
                  have e : r = false:=Bool.eq_false_iff.2 (fun h => by simpa using hr.1 h)
                  clear hr
                  subst e
                  go_enter Tryz.func29,Tryz.ntmps29
                  simp only [e4]
                  clear e4 hT
                  go_wp2_with (first
                   | (go_at_call 20;rw [← hW1];clear hW1;((with_reducible refine (HQ3.out _ (HB.out.chain HX0.out)).mono ?_);rintro e w4 ⟨rfl,hb⟩);have HX4:=Lib.hid (HX0.out.chain hb);clear hb;clear cx0 cy0 cx3 cy3 cx4 cy4 cx5 cy5 cx6 cy6 cx7 cy7 cx8 cy8 cx9 cy9 cx10 cy10 cx11 cy11;obtain ⟨-,-,-,-,f4x4,f4y4,-,-,-,-,-,-,f4x8,f4y8,f4x9,f4y9,f4x10,f4y10,f4x11,f4y11⟩:=HF.out _ HX4.out)
                   | (go_at_call 20;((with_reducible refine (HQ4.out _ (HB.out.chain HX4.out)).mono ?_);rintro e w5 ⟨rfl,hb⟩);have HX5:=Lib.hid (HX4.out.chain hb);clear hb;clear f4x4 f4y4 f4x8 f4y8 f4x9 f4y9 f4x10 f4y10 f4x11 f4y11;obtain ⟨-,-,-,-,-,-,-,-,-,-,-,-,f5x8,f5y8,f5x9,f5y9,f5x10,f5y10,f5x11,f5y11⟩:=HF.out _ HX5.out)
                   | (go_at_call 43;((with_reducible refine (HQ5.out _ (HB.out.chain HX5.out)).mono ?_);rintro e w6 ⟨rfl,hb⟩);have HX6:=Lib.hid (HX5.out.chain hb);clear hb;clear f5x8 f5y8 f5x9 f5y9 f5x10 f5y10 f5x11 f5y11;obtain ⟨-,-,-,-,-,-,-,-,-,-,-,-,-,-,f6x9,f6y9,f6x10,f6y10,f6x11,f6y11⟩:=HF.out _ HX6.out)
                   | (go_at_call 43;((with_reducible refine (HQ6.out _ (HB.out.chain HX6.out)).mono ?_);rintro e w7 ⟨rfl,hb⟩);have HX7:=Lib.hid (HX6.out.chain hb);clear hb;clear f6x9 f6y9 f6x10 f6y10 f6x11 f6y11;obtain ⟨-,-,-,-,-,-,-,-,-,-,-,-,-,-,-,-,f7x10,f7y10,f7x11,f7y11⟩:=HF.out _ HX7.out)
                   | (go_at_call 20;((with_reducible refine (HQ7.out _ (HB.out.chain HX7.out)).mono ?_);rintro e w8 ⟨rfl,hb⟩);have HX8:=Lib.hid (HX7.out.chain hb);clear hb;clear f7x10 f7y10 f7x11 f7y11))
                  go_ret
                  exact ⟨rfl,HB.out.chain HX8.out⟩
                | true =>
                  cases q8 with
                  | false =>
                    have e : r = false:=Bool.eq_false_iff.2 (fun h => by simpa using hr.1 h)
                    clear hr
                    subst e
                    go_enter Tryz.func29,Tryz.ntmps29
                    simp only [e4]
                    clear e4 hT
                    go_wp2_with (first
                     | (go_at_call 20;rw [← hW1];clear hW1;((with_reducible refine (HQ3.out _ (HB.out.chain HX0.out)).mono ?_);rintro e w4 ⟨rfl,hb⟩);have HX4:=Lib.hid (HX0.out.chain hb);clear hb;clear cx0 cy0 cx3 cy3 cx4 cy4 cx5 cy5 cx6 cy6 cx7 cy7 cx8 cy8 cx9 cy9 cx10 cy10 cx11 cy11;obtain ⟨-,-,-,-,f4x4,f4y4,-,-,-,-,-,-,f4x8,f4y8,f4x9,f4y9,f4x10,f4y10,f4x11,f4y11⟩:=HF.out _ HX4.out)
                     | (go_at_call 20;((with_reducible refine (HQ4.out _ (HB.out.chain HX4.out)).mono ?_);rintro e w5 ⟨rfl,hb⟩);have HX5:=Lib.hid (HX4.out.chain hb);clear hb;clear f4x4 f4y4 f4x8 f4y8 f4x9 f4y9 f4x10 f4y10 f4x11 f4y11;obtain ⟨-,-,-,-,-,-,-,-,-,-,-,-,f5x8,f5y8,f5x9,f5y9,f5x10,f5y10,f5x11,f5y11⟩:=HF.out _ HX5.out)
                     | (go_at_call 43;((with_reducible refine (HQ5.out _ (HB.out.chain HX5.out)).mono ?_);rintro e w6 ⟨rfl,hb⟩);have HX6:=Lib.hid (HX5.out.chain hb);clear hb;clear f5x8 f5y8 f5x9 f5y9 f5x10 f5y10 f5x11 f5y11;obtain ⟨-,-,-,-,-,-,-,-,-,-,-,-,-,-,f6x9,f6y9,f6x10,f6y10,f6x11,f6y11⟩:=HF.out _ HX6.out)
                     | (go_at_call 43;((with_reducible refine (HQ6.out _ (HB.out.chain HX6.out)).mono ?_);rintro e w7 ⟨rfl,hb⟩);have HX7:=Lib.hid (HX6.out.chain hb);clear hb;clear f6x9 f6y9 f6x10 f6y10 f6x11 f6y11;obtain ⟨-,-,-,-,-,-,-,-,-,-,-,-,-,-,-,-,f7x10,f7y10,f7x11,f7y11⟩:=HF.out _ HX7.out)
                     | (go_at_call 20;((with_reducible refine (HQ7.out _ (HB.out.chain HX7.out)).mono ?_);rintro e w8 ⟨rfl,hb⟩);have HX8:=Lib.hid (HX7.out.chain hb);clear hb;clear f7x10 f7y10 f7x11 f7y11;obtain ⟨-,-,-,-,-,-,-,-,-,-,-,-,-,-,-,-,-,-,f8x11,f8y11⟩:=HF.out _ HX8.out)
                     | (go_at_call 45;((with_reducible refine (HQ8.out _ (HB.out.chain HX8.out)).mono ?_);rintro e w9 ⟨rfl,hb⟩);have HX9:=Lib.hid (HX8.out.chain hb);clear hb;clear f8x11 f8y11))
                    go_ret
                    exact ⟨rfl,HB.out.chain HX9.out⟩
                  | true =>
                    have e : r = true:=hr.2 (by simp)
                    clear hr
                    subst e
                    go_enter Tryz.func29,Tryz.ntmps29
                    simp only [e4]
                    clear e4 hT
                    go_wp2_with (first
                     | (go_at_call 20;rw [← hW1];clear hW1;((with_reducible refine (HQ3.out _ (HB.out.chain HX0.out)).mono ?_);rintro e w4 ⟨rfl,hb⟩);have HX4:=Lib.hid (HX0.out.chain hb);clear hb;clear cx0 cy0 cx3 cy3 cx4 cy4 cx5 cy5 cx6 cy6 cx7 cy7 cx8 cy8 cx9 cy9 cx10 cy10 cx11 cy11;obtain ⟨-,-,-,-,f4x4,f4y4,-,-,-,-,-,-,f4x8,f4y8,f4x9,f4y9,f4x10,f4y10,f4x11,f4y11⟩:=HF.out _ HX4.out)
                     | (go_at_call 20;((with_reducible refine (HQ4.out _ (HB.out.chain HX4.out)).mono ?_);rintro e w5 ⟨rfl,hb⟩);have HX5:=Lib.hid (HX4.out.chain hb);clear hb;clear f4x4 f4y4 f4x8 f4y8 f4x9 f4y9 f4x10 f4y10 f4x11 f4y11;obtain ⟨-,-,-,-,-,-,-,-,-,-,-,-,f5x8,f5y8,f5x9,f5y9,f5x10,f5y10,f5x11,f5y11⟩:=HF.out _ HX5.out)
                     | (go_at_call 43;((with_reducible refine (HQ5.out _ (HB.out.chain HX5.out)).mono ?_);rintro e w6 ⟨rfl,hb⟩);have HX6:=Lib.hid (HX5.out.chain hb);clear hb;clear f5x8 f5y8 f5x9 f5y9 f5x10 f5y10 f5x11 f5y11;obtain ⟨-,-,-,-,-,-,-,-,-,-,-,-,-,-,f6x9,f6y9,f6x10,f6y10,f6x11,f6y11⟩:=HF.out _ HX6.out)
                     | (go_at_call 43;((with_reducible refine (HQ6.out _ (HB.out.chain HX6.out)).mono ?_);rintro e w7 ⟨rfl,hb⟩);have HX7:=Lib.hid (HX6.out.chain hb);clear hb;clear f6x9 f6y9 f6x10 f6y10 f6x11 f6y11;obtain ⟨-,-,-,-,-,-,-,-,-,-,-,-,-,-,-,-,f7x10,f7y10,f7x11,f7y11⟩:=HF.out _ HX7.out)
                     | (go_at_call 20;((with_reducible refine (HQ7.out _ (HB.out.chain HX7.out)).mono ?_);rintro e w8 ⟨rfl,hb⟩);have HX8:=Lib.hid (HX7.out.chain hb);clear hb;clear f7x10 f7y10 f7x11 f7y11;obtain ⟨-,-,-,-,-,-,-,-,-,-,-,-,-,-,-,-,-,-,f8x11,f8y11⟩:=HF.out _ HX8.out)
                     | (go_at_call 45;((with_reducible refine (HQ8.out _ (HB.out.chain HX8.out)).mono ?_);rintro e w9 ⟨rfl,hb⟩);have HX9:=Lib.hid (HX8.out.chain hb);clear hb;clear f8x11 f8y11))
                    go_ret
                    exact ⟨rfl,HB.out.chain HX9.out⟩
      | true =>
        have e : r = false:=Bool.eq_false_iff.2 (fun h => by have := hr.1 h;simp at this)
        clear hr
        subst e
        go_enter Tryz.func29,Tryz.ntmps29
        simp only [e4]
        clear e4 hT
        go_wp2
        go_ret
        rw [← hW1]
        exact ⟨rfl,HB.out.chain HX0.out⟩
    | true =>
      cases y7 with
      | false =>
        have e : r = false:=Bool.eq_false_iff.2 (fun h => by have := hr.1 h;simp at this)
        clear hr
        subst e
        go_enter Tryz.func29,Tryz.ntmps29
        simp only [e4]
        clear e4 hT
        go_wp2
        go_ret
        rw [← hW1]
        exact ⟨rfl,HB.out.chain HX0.out⟩
      | true =>
        cases q3 with
        | false =>
          have e : r = false:=Bool.eq_false_iff.2 (fun h => by simpa using hr.1 h)
          clear hr
          subst e
          go_enter Tryz.func29,Tryz.ntmps29
          simp only [e4]
          clear e4 hT
          go_wp2_with (go_at_call 20;rw [← hW1];clear hW1;((with_reducible refine (HQ3.out _ (HB.out.chain HX0.out)).mono ?_);rintro e w4 ⟨rfl,hb⟩);have HX4:=Lib.hid (HX0.out.chain hb);clear hb;clear cx0 cy0 cx3 cy3 cx4 cy4 cx5 cy5 cx6 cy6 cx7 cy7 cx8 cy8 cx9 cy9 cx10 cy10 cx11 cy11)
          go_ret
          exact ⟨rfl,HB.out.chain HX4.out⟩
        | true =>
          cases q4 with
          | false =>
            have e : r = false:=Bool.eq_false_iff.2 (fun h => by simpa using hr.1 h)
            clear hr
            subst e
            go_enter Tryz.func29,Tryz.ntmps29
            simp only [e4]
            clear e4 hT
            go_wp2_with (first
             | (go_at_call 20;rw [← hW1];clear hW1;((with_reducible refine (HQ3.out _ (HB.out.chain HX0.out)).mono ?_);rintro e w4 ⟨rfl,hb⟩);have HX4:=Lib.hid (HX0.out.chain hb);clear hb;clear cx0 cy0 cx3 cy3 cx4 cy4 cx5 cy5 cx6 cy6 cx7 cy7 cx8 cy8 cx9 cy9 cx10 cy10 cx11 cy11;obtain ⟨-,-,-,-,f4x4,f4y4,-,-,-,-,-,-,f4x8,f4y8,f4x9,f4y9,f4x10,f4y10,f4x11,f4y11⟩:=HF.out _ HX4.out)
             | (go_at_call 20;((with_reducible refine (HQ4.out _ (HB.out.chain HX4.out)).mono ?_);rintro e w5 ⟨rfl,hb⟩);have HX5:=Lib.hid (HX4.out.chain hb);clear hb;clear f4x4 f4y4 f4x8 f4y8 f4x9 f4y9 f4x10 f4y10 f4x11 f4y11))
            go_ret
            exact ⟨rfl,HB.out.chain HX5.out⟩
          | true =>
            cases q5 with
            | false =>
              have e : r = false:=Bool.eq_false_iff.2 (fun h => by simpa using hr.1 h)
              clear hr
              subst e
              go_enter Tryz.func29,Tryz.ntmps29
              simp only [e4]
              clear e4 hT
              go_wp2_with (first
               | (go_at_call 20;rw [← hW1];clear hW1;((with_reducible refine (HQ3.out _ (HB.out.chain HX0.out)).mono ?_);rintro e w4 ⟨rfl,hb⟩);have HX4:=Lib.hid (HX0.out.chain hb);clear hb;clear cx0 cy0 cx3 cy3 cx4 cy4 cx5 cy5 cx6 cy6 cx7 cy7 cx8 cy8 cx9 cy9 cx10 cy10 cx11 cy11;obtain ⟨-,-,-,-,f4x4,f4y4,-,-,-,-,-,-,f4x8,f4y8,f4x9,f4y9,f4x10,f4y10,f4x11,f4y11⟩:=HF.out _ HX4.out)
               | (go_at_call 20;((with_reducible refine (HQ4.out _ (HB.out.chain HX4.out)).mono ?_);rintro e w5 ⟨rfl,hb⟩);have HX5:=Lib.hid (HX4.out.chain hb);clear hb;clear f4x4 f4y4 f4x8 f4y8 f4x9 f4y9 f4x10 f4y10 f4x11 f4y11;obtain ⟨-,-,-,-,-,-,-,-,-,-,-,-,f5x8,f5y8,f5x9,f5y9,f5x10,f5y10,f5x11,f5y11⟩:=HF.out _ HX5.out)
               | (go_at_call 43;((with_reducible refine (HQ5.out _ (HB.out.chain HX5.out)).mono ?_);rintro e w6 ⟨rfl,hb⟩);have HX6:=Lib.hid (HX5.out.chain hb);clear hb;clear f5x8 f5y8 f5x9 f5y9 f5x10 f5y10 f5x11 f5y11))
              go_ret
              exact ⟨rfl,HB.out.chain HX6.out⟩
            | true =>
              cases q6 with
              | false =>
                have e : r = false:=Bool.eq_false_iff.2 (fun h => by simpa using hr.1 h)
                clear hr
                subst e
                go_enter Tryz.func29,Tryz.ntmps29
                simp only [e4]
                clear e4 hT
                go_wp2_with (first
                 | (go_at_call 20;rw [← hW1];clear hW1;((with_reducible refine (HQ3.out _ (HB.out.chain HX0.out)).mono ?_);rintro e w4 ⟨rfl,hb⟩);have HX4:=Lib.hid (HX0.out.chain hb);clear hb;clear cx0 cy0 cx3 cy3 cx4 cy4 cx5 cy5 cx6 cy6 cx7 cy7 cx8 cy8 cx9 cy9 cx10 cy10 cx11 cy11;obtain ⟨-,-,-,-,f4x4,f4y4,-,-,-,-,-,-,f4x8,f4y8,f4x9,f4y9,f4x10,f4y10,f4x11,f4y11⟩:=HF.out _ HX4.out)
                 | (go_at_call 20;((with_reducible refine (HQ4.out _ (HB.out.chain HX4.out)).mono ?_);rintro e w5 ⟨rfl,hb⟩);have HX5:=Lib.hid (HX4.out.chain hb);clear hb;clear f4x4 f4y4 f4x8 f4y8 f4x9 f4y9 f4x10 f4y10 f4x11 f4y11;obtain ⟨-,-,-,-,-,-,-,-,-,-,-,-,f5x8,f5y8,f5x9,f5y9,f5x10,f5y10,f5x11,f5y11⟩:=HF.out _ HX5.out)
                 | (go_at_call 43;((with_reducible refine (HQ5.out _ (HB.out.chain HX5.out)).mono ?_);rintro e w6 ⟨rfl,hb⟩);have HX6:=Lib.hid (HX5.out.chain hb);clear hb;clear f5x8 f5y8 f5x9 f5y9 f5x10 f5y10 f5x11 f5y11;obtain ⟨-,-,-,-,-,-,-,-,-,-,-,-,-,-,f6x9,f6y9,f6x10,f6y10,f6x11,f6y11⟩:=HF.out _ HX6.out)
                 | (go_at_call 43;((with_reducible refine (HQ6.out _ (HB.out.chain HX6.out)).mono ?_);rintro e w7 ⟨rfl,hb⟩);have HX7:=Lib.hid (HX6.out.chain hb);clear hb;clear f6x9 f6y9 f6x10 f6y10 f6x11 f6y11))
                go_ret
                exact ⟨rfl,HB.out.chain HX7.out⟩
              | true =>
                cases q7 with
                | false =>
                  have e : r = false:=Bool.eq_false_iff.2 (fun h => by simpa using hr.1 h)
                  clear hr
                  subst e
                  go_enter Tryz.func29,Tryz.ntmps29
                  simp only [e4]
                  clear e4 hT
                  go_wp2_with (first
                   | (go_at_call 20;rw [← hW1];clear hW1;((with_reducible refine (HQ3.out _ (HB.out.chain HX0.out)).mono ?_);rintro e w4 ⟨rfl,hb⟩);have HX4:=Lib.hid (HX0.out.chain hb);clear hb;clear cx0 cy0 cx3 cy3 cx4 cy4 cx5 cy5 cx6 cy6 cx7 cy7 cx8 cy8 cx9 cy9 cx10 cy10 cx11 cy11;obtain ⟨-,-,-,-,f4x4,f4y4,-,-,-,-,-,-,f4x8,f4y8,f4x9,f4y9,f4x10,f4y10,f4x11,f4y11⟩:=HF.out _ HX4.out)
                   | (go_at_call 20;((with_reducible refine (HQ4.out _ (HB.out.chain HX4.out)).mono ?_);rintro e w5 ⟨rfl,hb⟩);have HX5:=Lib.hid (HX4.out.chain hb);clear hb;clear f4x4 f4y4 f4x8 f4y8 f4x9 f4y9 f4x10 f4y10 f4x11 f4y11;obtain ⟨-,-,-,-,-,-,-,-,-,-,-,-,f5x8,f5y8,f5x9,f5y9,f5x10,f5y10,f5x11,f5y11⟩:=HF.out _ HX5.out)
                   | (go_at_call 43;((with_reducible refine (HQ5.out _ (HB.out.chain HX5.out)).mono ?_);rintro e w6 ⟨rfl,hb⟩);have HX6:=Lib.hid (HX5.out.chain hb);clear hb;clear f5x8 f5y8 f5x9 f5y9 f5x10 f5y10 f5x11 f5y11;obtain ⟨-,-,-,-,-,-,-,-,-,-,-,-,-,-,f6x9,f6y9,f6x10,f6y10,f6x11,f6y11⟩:=HF.out _ HX6.out)
                   | (go_at_call 43;((with_reducible refine (HQ6.out _ (HB.out.chain HX6.out)).mono ?_);rintro e w7 ⟨rfl,hb⟩);have HX7:=Lib.hid (HX6.out.chain hb);clear hb;clear f6x9 f6y9 f6x10 f6y10 f6x11 f6y11;obtain ⟨-,-,-,-,-,-,-,-,-,-,-,-,-,-,-,-,f7x10,f7y10,f7x11,f7y11⟩:=HF.out _ HX7.out)
                   | (go_at_call 20;((with_reducible refine (HQ7.out _ (HB.out.chain HX7.out)).mono ?_);rintro e w8 ⟨rfl,hb⟩);have HX8:=Lib.hid (HX7.out.chain hb);clear hb;clear f7x10 f7y10 f7x11 f7y11))
                  go_ret
                  exact ⟨rfl,HB.out.chain HX8.out⟩
                | true =>
                  cases q8 with
                  | false =>
                    have e : r = false:=Bool.eq_false_iff.2 (fun h => by simpa using hr.1 h)
                    clear hr
                    subst e
                    go_enter Tryz.func29,Tryz.ntmps29
                    simp only [e4]
                    clear e4 hT
                    go_wp2_with (first
                     | (go_at_call 20;rw [← hW1];clear hW1;((with_reducible refine (HQ3.out _ (HB.out.chain HX0.out)).mono ?_);rintro e w4 ⟨rfl,hb⟩);have HX4:=Lib.hid (HX0.out.chain hb);clear hb;clear cx0 cy0 cx3 cy3 cx4 cy4 cx5 cy5 cx6 cy6 cx7 cy7 cx8 cy8 cx9 cy9 cx10 cy10 cx11 cy11;obtain ⟨-,-,-,-,f4x4,f4y4,-,-,-,-,-,-,f4x8,f4y8,f4x9,f4y9,f4x10,f4y10,f4x11,f4y11⟩:=HF.out _ HX4.out)
                     | (go_at_call 20;((with_reducible refine (HQ4.out _ (HB.out.chain HX4.out)).mono ?_);rintro e w5 ⟨rfl,hb⟩);have HX5:=Lib.hid (HX4.out.chain hb);clear hb;clear f4x4 f4y4 f4x8 f4y8 f4x9 f4y9 f4x10 f4y10 f4x11 f4y11;obtain ⟨-,-,-,-,-,-,-,-,-,-,-,-,f5x8,f5y8,f5x9,f5y9,f5x10,f5y10,f5x11,f5y11⟩:=HF.out _ HX5.out)
                     | (go_at_call 43;((with_reducible refine (HQ5.out _ (HB.out.chain HX5.out)).mono ?_);rintro e w6 ⟨rfl,hb⟩);have HX6:=Lib.hid (HX5.out.chain hb);clear hb;clear f5x8 f5y8 f5x9 f5y9 f5x10 f5y10 f5x11 f5y11;obtain ⟨-,-,-,-,-,-,-,-,-,-,-,-,-,-,f6x9,f6y9,f6x10,f6y10,f6x11,f6y11⟩:=HF.out _ HX6.out)
                     | (go_at_call 43;((with_reducible refine (HQ6.out _ (HB.out.chain HX6.out)).mono ?_);rintro e w7 ⟨rfl,hb⟩);have HX7:=Lib.hid (HX6.out.chain hb);clear hb;clear f6x9 f6y9 f6x10 f6y10 f6x11 f6y11;obtain ⟨-,-,-,-,-,-,-,-,-,-,-,-,-,-,-,-,f7x10,f7y10,f7x11,f7y11⟩:=HF.out _ HX7.out)
                     | (go_at_call 20;((with_reducible refine (HQ7.out _ (HB.out.chain HX7.out)).mono ?_);rintro e w8 ⟨rfl,hb⟩);have HX8:=Lib.hid (HX7.out.chain hb);clear hb;clear f7x10 f7y10 f7x11 f7y11;obtain ⟨-,-,-,-,-,-,-,-,-,-,-,-,-,-,-,-,-,-,f8x11,f8y11⟩:=HF.out _ HX8.out)
                     | (go_at_call 45;((with_reducible refine (HQ8.out _ (HB.out.chain HX8.out)).mono ?_);rintro e w9 ⟨rfl,hb⟩);have HX9:=Lib.hid (HX8.out.chain hb);clear hb;clear f8x11 f8y11))
                    go_ret
                    exact ⟨rfl,HB.out.chain HX9.out⟩
                  | true =>
                    have e : r = true:=hr.2 (by simp)
                    clear hr
                    subst e
                    go_enter Tryz.func29,Tryz.ntmps29
                    simp only [e4]
                    clear e4 hT
                    go_wp2_with (first
                     | (go_at_call 20;rw [← hW1];clear hW1;((with_reducible refine (HQ3.out _ (HB.out.chain HX0.out)).mono ?_);rintro e w4 ⟨rfl,hb⟩);have HX4:=Lib.hid (HX0.out.chain hb);clear hb;clear cx0 cy0 cx3 cy3 cx4 cy4 cx5 cy5 cx6 cy6 cx7 cy7 cx8 cy8 cx9 cy9 cx10 cy10 cx11 cy11;obtain ⟨-,-,-,-,f4x4,f4y4,-,-,-,-,-,-,f4x8,f4y8,f4x9,f4y9,f4x10,f4y10,f4x11,f4y11⟩:=HF.out _ HX4.out)
                     | (go_at_call 20;((with_reducible refine (HQ4.out _ (HB.out.chain HX4.out)).mono ?_);rintro e w5 ⟨rfl,hb⟩);have HX5:=Lib.hid (HX4.out.chain hb);clear hb;clear f4x4 f4y4 f4x8 f4y8 f4x9 f4y9 f4x10 f4y10 f4x11 f4y11;obtain ⟨-,-,-,-,-,-,-,-,-,-,-,-,f5x8,f5y8,f5x9,f5y9,f5x10,f5y10,f5x11,f5y11⟩:=HF.out _ HX5.out)
                     | (go_at_call 43;((with_reducible refine (HQ5.out _ (HB.out.chain HX5.out)).mono ?_);rintro e w6 ⟨rfl,hb⟩);have HX6:=Lib.hid (HX5.out.chain hb);clear hb;clear f5x8 f5y8 f5x9 f5y9 f5x10 f5y10 f5x11 f5y11;obtain ⟨-,-,-,-,-,-,-,-,-,-,-,-,-,-,f6x9,f6y9,f6x10,f6y10,f6x11,f6y11⟩:=HF.out _ HX6.out)
                     | (go_at_call 43;((with_reducible refine (HQ6.out _ (HB.out.chain HX6.out)).mono ?_);rintro e w7 ⟨rfl,hb⟩);have HX7:=Lib.hid (HX6.out.chain hb);clear hb;clear f6x9 f6y9 f6x10 f6y10 f6x11 f6y11;obtain ⟨-,-,-,-,-,-,-,-,-,-,-,-,-,-,-,-,f7x10,f7y10,f7x11,f7y11⟩:=HF.out _ HX7.out)
                     | (go_at_call 20;((with_reducible refine (HQ7.out _ (HB.out.chain HX7.out)).mono ?_);rintro e w8 ⟨rfl,hb⟩);have HX8:=Lib.hid (HX7.out.chain hb);clear hb;clear f7x10 f7y10 f7x11 f7y11;obtain ⟨-,-,-,-,-,-,-,-,-,-,-,-,-,-,-,-,-,-,f8x11,f8y11⟩:=HF.out _ HX8.out)
                     | (go_at_call 45;((with_reducible refine (HQ8.out _ (HB.out.chain HX8.out)).mono ?_);rintro e w9 ⟨rfl,hb⟩);have HX9:=Lib.hid (HX8.out.chain hb);clear hb;clear f8x11 f8y11))
                    go_ret
                    exact ⟨rfl,HB.out.chain HX9.out⟩
   ·have e : r = false:=Bool.eq_false_iff.2 (fun h => by have := hr.1 h;simp [h6] at this)
    have hs6 : (x6 == y6) = false:=by simpa using h6
    clear hr
    subst e
    go_enter Tryz.func29,Tryz.ntmps29
    simp only [e4]
    clear e4 hT
    go_wp2
    go_ret
    rw [← hW1]
    exact ⟨rfl,HB.out.chain HX0.out⟩
  ·have e : r = false:=Bool.eq_false_iff.2 (fun h => by have := hr.1 h;simp [h5] at this)
   have hs5 : (x5 == y5) = false:=by simpa using h5
   clear hr
   subst e
   go_enter Tryz.func29,Tryz.ntmps29
   simp only [e4]
   clear e4 hT
   go_wp2
   go_ret
   rw [← hW1]
   exact ⟨rfl,HB.out.chain HX0.out⟩
 ·have e : r = false:=Bool.eq_false_iff.2 (fun h => by have := hr.1 h;simp [h0] at this)
  have hs0 : (x0 == y0) = false:=by simpa using h0
  clear hr
  subst e
  go_enter Tryz.func29,Tryz.ntmps29
  simp only [e4]
  clear e4 hT
  go_wp2
  go_ret
  rw [← hW1]
  exact ⟨rfl,HB.out.chain HX0.out⟩
end Go.Proofs.YtehmoomoocdidaaGreatDoor
