/-
  The reference's Proc.
-/
import Derived.Test.YtkopbfndfkibbaaGreatDoorSTreePf
import Derived.Test.YtkopbfndfkibbaaGreatDoorSTreePe
import Derived.Test.YtkopbfndfkibbaaGreatDoorSTreeUs
set_option linter.unusedVariables false
set_option linter.unusedSimpArgs false
namespace Go.Proofs.YtkopbfndfkibbaaGreatDoor
set_option maxRecDepth 100000
set_option maxHeartbeats 20000000
open Go.RowKit
theorem hid_ProcP : ∃ (T N : Nat),67 = T ∧ N = 12 ∧ (∀ w : World,(isAgg T).run Tryz.prog w = .ok true w) ∧ (∀ w : World,(sizeOf T).run Tryz.prog w = .ok N w) :=
 ⟨_,12,rfl,rfl,fun w => by kernel_rfl,fun w => by kernel_rfl⟩
theorem spr_core (cs : Array Value) (hcs : cs.size = 12) (nm rt rn : List UInt8) (ln co : Int) (x3 x10 x11 : Value) (Ag Ar Ae : Option Addr) (n4 n8 n9 c4 c8 c9 : Nat) (ct : Bool) (b4 : n4 ≤ maxLen) (b8 : n8 ≤ maxLen) (b9 : n9 ≤ maxLen) (brn : rn.length ≤ maxLen) (brt : rt.length ≤ maxLen)
 (v0 v1 v2 v3 v4 v5 v6 v7 v8 v9 v10 v11 v12 v13 v14 v15 r : Bool) (w : World)
 (kx0 : cs[0]? = some (.string ⟨nm.toArray⟩)) (kx1 : cs[1]? = some (.int .i64 ln)) (kx2 : cs[2]? = some (.int .i64 co)) (kx3 : cs[3]? = some (x3)) (kx4 : cs[4]? = some (.slice Ag n4 c4)) (kx5 : cs[5]? = some (.string ⟨rt.toArray⟩)) (kx6 : cs[6]? = some (.string ⟨rn.toArray⟩)) (kx7 : cs[7]? = some (.bool ct)) (kx8 : cs[8]? = some (.slice Ar n8 c8)) (kx9 : cs[9]? = some (.slice Ae n9 c9)) (kx10 : cs[10]? = some (x10)) (kx11 : cs[11]? = some (x11))
 (hq0 : BC w 18 #[.string ⟨nm.toArray⟩] v0)
 (hq1 : BC w 51 #[posV ln co] v1)
 (hq2 : BC w 16 #[x3,.int .i64 0,.int .i64 8] v2)
 (hq3 : BC w 16 #[.slice Ag n4 c4,.int .i64 0,.int .i64 8] v3)
 (hq4 : BC w 16 #[x10,.int .i64 0,.int .i64 100] v4)
 (hq5 : BC w 52 #[x11] v5)
 (hq6 : BC w 46 #[paramV ⟨rt.toArray⟩ ⟨rn.toArray⟩] v6)
 (hq7 : BC w 53 #[.string ⟨rn.toArray⟩] v7)
 (hq8 : BC w 17 #[x3] v8)
 (hq9 : BC w 17 #[.slice Ag n4 c4] v9)
 (hq10 : BC w 17 #[x10] v10)
 (hq11 : BC w 54 #[x11] v11)
 (hq12 : BC w 19 #[.slice Ar n8 c8,.int .i64 1] v12)
 (hq13 : BC w 19 #[.slice Ae n9 c9,.int .i64 1] v13)
 (hq14 : BC w 20 #[.slice Ar n8 c8] v14)
 (hq15 : BC w 20 #[.slice Ae n9 c9] v15)
 (hr : r = (v0 && v1 && v2 && v3 && v4 && v5 && ((rn.isEmpty && rt.isEmpty) || v6) && !v7 && v8 && v9 && v10 && v11 && (if ct then v12 && v13 && v14 && v15 else decide ((n8 : Int) = 0) && decide ((n9 : Int) = 0) && decide ((n4 : Int) = 0)))) :
 Calls Tryz.prog 21 #[.agg cs] w fun e w' => e = .returned (.bool r) ∧ Below w.heap.size w w':=by
 obtain ⟨T,N,hT,hN,hag,hsz⟩:=hid_ProcP
 have e4 : ∀ y : Operand,Op.box 67 y = Op.box T y:=fun y => by rw [hT]
 have hszc : cs.size = N:=hcs.trans hN.symm
 have HQ0:=Lib.hid hq0
 have HQ1:=Lib.hid hq1
 have HQ2:=Lib.hid hq2
 have HQ3:=Lib.hid hq3
 have HQ4:=Lib.hid hq4
 have HQ5:=Lib.hid hq5
 have HQ6:=Lib.hid hq6
 have HQ7:=Lib.hid hq7
 have HQ8:=Lib.hid hq8
 have HQ9:=Lib.hid hq9
 have HQ10:=Lib.hid hq10
 have HQ11:=Lib.hid hq11
 have HQ12:=Lib.hid hq12
 have HQ13:=Lib.hid hq13
 have HQ14:=Lib.hid hq14
 have HQ15:=Lib.hid hq15
 obtain ⟨W1,hW1⟩ : ∃ W1,W1 = w.alloc (.cells cs T):=⟨_,rfl⟩
 have HB : Hid (Below w.heap.size w W1):=Lib.hid (by rw [hW1];exact below_alloc w _)
 have p2:=heap_of_alloc w (.cells cs T)
 rw [← hW1] at p2
 have HF : Hid (∀ W,Below W1.heap.size W1 W → W.cell? ⟨w.heap.size,0,none⟩ = some (.string ⟨nm.toArray⟩) ∧ W.cell? ⟨w.heap.size,1,none⟩ = some (.int .i64 ln) ∧ W.cell? ⟨w.heap.size,2,none⟩ = some (.int .i64 co) ∧ W.cell? ⟨w.heap.size,3,none⟩ = some (x3) ∧ W.cell? ⟨w.heap.size,4,none⟩ = some (.slice Ag n4 c4) ∧ W.cell? ⟨w.heap.size,5,none⟩ = some (.string ⟨rt.toArray⟩) ∧ W.cell? ⟨w.heap.size,6,none⟩ = some (.string ⟨rn.toArray⟩) ∧ W.cell? ⟨w.heap.size,7,none⟩ = some (.bool ct) ∧ W.cell? ⟨w.heap.size,8,none⟩ = some (.slice Ar n8 c8) ∧ W.cell? ⟨w.heap.size,9,none⟩ = some (.slice Ae n9 c9) ∧ W.cell? ⟨w.heap.size,10,none⟩ = some (x10) ∧ W.cell? ⟨w.heap.size,11,none⟩ = some (x11)) :=
  Lib.hid (fun W hb => ⟨cell_of_block (kept_box hb p2) 0 kx0,cell_of_block (kept_box hb p2) 1 kx1,cell_of_block (kept_box hb p2) 2 kx2,cell_of_block (kept_box hb p2) 3 kx3,cell_of_block (kept_box hb p2) 4 kx4,cell_of_block (kept_box hb p2) 5 kx5,cell_of_block (kept_box hb p2) 6 kx6,cell_of_block (kept_box hb p2) 7 kx7,cell_of_block (kept_box hb p2) 8 kx8,cell_of_block (kept_box hb p2) 9 kx9,cell_of_block (kept_box hb p2) 10 kx10,cell_of_block (kept_box hb p2) 11 kx11⟩)
 have K1:=Lib.hid (Below.refl W1.heap.size W1)
 obtain ⟨qa,hqa⟩ : ∃ q,q = (v0 && v1 && v2 && v3 && v4 && v5):=⟨_,rfl⟩
 obtain ⟨qb,hqb⟩ : ∃ q,q = (((rn.isEmpty && rt.isEmpty) || v6) && !v7):=⟨_,rfl⟩
 obtain ⟨qc,hqc⟩ : ∃ q,q = (v8 && v9 && v10 && v11):=⟨_,rfl⟩
 obtain ⟨qd,hqd⟩ : ∃ q,q = (if ct then v12 && v13 && v14 && v15 else decide ((n8 : Int) = 0) && decide ((n9 : Int) = 0) && decide ((n4 : Int) = 0)):=⟨_,rfl⟩
 have HR : Hid (r = (qa && qb && qc && qd)):=Lib.hid (by
  rw [hr,hqa,hqb,hqc,← hqd]
  generalize ((rn.isEmpty && rt.isEmpty) || v6) = vr
  simp only [Bool.and_assoc])
 have HQA:=Lib.hid hqa
 have HQB:=Lib.hid hqb
 have HQC:=Lib.hid hqc
 have HQD:=Lib.hid hqd
 have hF0:=HF.out _ K1.out
 rw [hW1] at hF0
 obtain ⟨z0,z1,z2,z3,z4,z5,z6,z7,z8,z9,z10,z11⟩:=hF0
 clear hq0 hq1 hq2 hq3 hq4 hq5 hq6 hq7 hq8 hq9 hq10 hq11 hq12 hq13 hq14 hq15 hN p2 hcs hr hqa hqb hqc hqd kx0 kx1 kx2 kx3 kx4 kx5 kx6 kx7 kx8 kx9 kx10 kx11
 unfold maxLen at b4 b8 b9 brn brt
 go_enter Tryz.func21,Tryz.ntmps21
 simp only [e4]
 clear e4 hT
 go_upto_region 1 with fail
 rw [← hW1] at z0 z1 z2 z3 z4 z5 z6 z7 z8 z9 z10 z11 ⊢
 clear hW1
 clear z0 z1 z2 z3 z4 z5 z6 z7 z8 z9 z10 z11
 go_cut [36] from 3 to 36 (fun v36 wx => v36 = .bool (!qa) ∧ Hid (Below W1.heap.size W1 wx))
 case first =>
  cases v0 with
  | false =>
    obtain ⟨s0,-,-,-,-,-,-,-,-,-,-,-⟩:=HF.out _ K1.out
    go_wp2_with (go_at_call 18;((with_reducible refine (HQ0.out _ (HB.out.chain K1.out)).mono ?_);rintro e wy0 ⟨rfl,hb⟩);have J0:=Lib.hid (K1.out.chain hb);clear hb s0)
    go_meet
    exact ⟨by rw [HQA.out];rfl,J0⟩
  | true =>
    cases v1 with
    | false =>
      obtain ⟨s0,-,-,-,-,-,-,-,-,-,-,-⟩:=HF.out _ K1.out
      go_wp2_with (first
       | (go_at_call 18;((with_reducible refine (HQ0.out _ (HB.out.chain K1.out)).mono ?_);rintro e wy0 ⟨rfl,hb⟩);have J0:=Lib.hid (K1.out.chain hb);clear hb s0;obtain ⟨-,y0_1,y0_2,-,-,-,-,-,-,-,-,-⟩:=HF.out _ J0.out)
       | (go_at_call 51;((with_reducible refine (HQ1.out _ (HB.out.chain J0.out)).mono ?_);rintro e wy1 ⟨rfl,hb⟩);have J1:=Lib.hid (J0.out.chain hb);clear hb y0_1 y0_2))
      go_meet
      exact ⟨by rw [HQA.out];rfl,J1⟩
    | true =>
      cases v2 with
      | false =>
        obtain ⟨s0,-,-,-,-,-,-,-,-,-,-,-⟩:=HF.out _ K1.out
        go_wp2_with (first
         | (go_at_call 18;((with_reducible refine (HQ0.out _ (HB.out.chain K1.out)).mono ?_);rintro e wy0 ⟨rfl,hb⟩);have J0:=Lib.hid (K1.out.chain hb);clear hb s0;obtain ⟨-,y0_1,y0_2,-,-,-,-,-,-,-,-,-⟩:=HF.out _ J0.out)
         | (go_at_call 51;((with_reducible refine (HQ1.out _ (HB.out.chain J0.out)).mono ?_);rintro e wy1 ⟨rfl,hb⟩);have J1:=Lib.hid (J0.out.chain hb);clear hb y0_1 y0_2;obtain ⟨-,-,-,y1_3,-,-,-,-,-,-,-,-⟩:=HF.out _ J1.out)
         | (go_at_call 16;((with_reducible refine (HQ2.out _ (HB.out.chain J1.out)).mono ?_);rintro e wy2 ⟨rfl,hb⟩);have J2:=Lib.hid (J1.out.chain hb);clear hb y1_3))
        go_meet
        exact ⟨by rw [HQA.out];rfl,J2⟩
      | true =>
        cases v3 with
        | false =>
          obtain ⟨s0,-,-,-,-,-,-,-,-,-,-,-⟩:=HF.out _ K1.out
          go_wp2_with (first
           | (go_at_call 18;((with_reducible refine (HQ0.out _ (HB.out.chain K1.out)).mono ?_);rintro e wy0 ⟨rfl,hb⟩);have J0:=Lib.hid (K1.out.chain hb);clear hb s0;obtain ⟨-,y0_1,y0_2,-,-,-,-,-,-,-,-,-⟩:=HF.out _ J0.out)
           | (go_at_call 51;((with_reducible refine (HQ1.out _ (HB.out.chain J0.out)).mono ?_);rintro e wy1 ⟨rfl,hb⟩);have J1:=Lib.hid (J0.out.chain hb);clear hb y0_1 y0_2;obtain ⟨-,-,-,y1_3,-,-,-,-,-,-,-,-⟩:=HF.out _ J1.out)
           | (go_at_call 16;((with_reducible refine (HQ2.out _ (HB.out.chain J1.out)).mono ?_);rintro e wy2 ⟨rfl,hb⟩);have J2:=Lib.hid (J1.out.chain hb);clear hb y1_3;obtain ⟨-,-,-,-,y2_4,-,-,-,-,-,-,-⟩:=HF.out _ J2.out)
           | (go_at_call 16;((with_reducible refine (HQ3.out _ (HB.out.chain J2.out)).mono ?_);rintro e wy3 ⟨rfl,hb⟩);have J3:=Lib.hid (J2.out.chain hb);clear hb y2_4))
          go_meet
          exact ⟨by rw [HQA.out];rfl,J3⟩
        | true =>
          cases v4 with
          | false =>
            obtain ⟨s0,-,-,-,-,-,-,-,-,-,-,-⟩:=HF.out _ K1.out
            go_wp2_with (first
             | (go_at_call 18;((with_reducible refine (HQ0.out _ (HB.out.chain K1.out)).mono ?_);rintro e wy0 ⟨rfl,hb⟩);have J0:=Lib.hid (K1.out.chain hb);clear hb s0;obtain ⟨-,y0_1,y0_2,-,-,-,-,-,-,-,-,-⟩:=HF.out _ J0.out)
             | (go_at_call 51;((with_reducible refine (HQ1.out _ (HB.out.chain J0.out)).mono ?_);rintro e wy1 ⟨rfl,hb⟩);have J1:=Lib.hid (J0.out.chain hb);clear hb y0_1 y0_2;obtain ⟨-,-,-,y1_3,-,-,-,-,-,-,-,-⟩:=HF.out _ J1.out)
             | (go_at_call 16;((with_reducible refine (HQ2.out _ (HB.out.chain J1.out)).mono ?_);rintro e wy2 ⟨rfl,hb⟩);have J2:=Lib.hid (J1.out.chain hb);clear hb y1_3;obtain ⟨-,-,-,-,y2_4,-,-,-,-,-,-,-⟩:=HF.out _ J2.out)
             | (go_at_call 16;((with_reducible refine (HQ3.out _ (HB.out.chain J2.out)).mono ?_);rintro e wy3 ⟨rfl,hb⟩);have J3:=Lib.hid (J2.out.chain hb);clear hb y2_4;obtain ⟨-,-,-,-,-,-,-,-,-,-,y3_10,-⟩:=HF.out _ J3.out)
             | (go_at_call 16;((with_reducible refine (HQ4.out _ (HB.out.chain J3.out)).mono ?_);rintro e wy4 ⟨rfl,hb⟩);have J4:=Lib.hid (J3.out.chain hb);clear hb y3_10))
            go_meet
            exact ⟨by rw [HQA.out];rfl,J4⟩
          | true =>
            cases v5 with
            | false =>
              obtain ⟨s0,-,-,-,-,-,-,-,-,-,-,-⟩:=HF.out _ K1.out
              go_wp2_with (first
               | (go_at_call 18;((with_reducible refine (HQ0.out _ (HB.out.chain K1.out)).mono ?_);rintro e wy0 ⟨rfl,hb⟩);have J0:=Lib.hid (K1.out.chain hb);clear hb s0;obtain ⟨-,y0_1,y0_2,-,-,-,-,-,-,-,-,-⟩:=HF.out _ J0.out)
               | (go_at_call 51;((with_reducible refine (HQ1.out _ (HB.out.chain J0.out)).mono ?_);rintro e wy1 ⟨rfl,hb⟩);have J1:=Lib.hid (J0.out.chain hb);clear hb y0_1 y0_2;obtain ⟨-,-,-,y1_3,-,-,-,-,-,-,-,-⟩:=HF.out _ J1.out)
               | (go_at_call 16;((with_reducible refine (HQ2.out _ (HB.out.chain J1.out)).mono ?_);rintro e wy2 ⟨rfl,hb⟩);have J2:=Lib.hid (J1.out.chain hb);clear hb y1_3;obtain ⟨-,-,-,-,y2_4,-,-,-,-,-,-,-⟩:=HF.out _ J2.out)
               | (go_at_call 16;((with_reducible refine (HQ3.out _ (HB.out.chain J2.out)).mono ?_);rintro e wy3 ⟨rfl,hb⟩);have J3:=Lib.hid (J2.out.chain hb);clear hb y2_4;obtain ⟨-,-,-,-,-,-,-,-,-,-,y3_10,-⟩:=HF.out _ J3.out)
               | (go_at_call 16;((with_reducible refine (HQ4.out _ (HB.out.chain J3.out)).mono ?_);rintro e wy4 ⟨rfl,hb⟩);have J4:=Lib.hid (J3.out.chain hb);clear hb y3_10;obtain ⟨-,-,-,-,-,-,-,-,-,-,-,y4_11⟩:=HF.out _ J4.out)
               | (go_at_call 52;((with_reducible refine (HQ5.out _ (HB.out.chain J4.out)).mono ?_);rintro e wy5 ⟨rfl,hb⟩);have J5:=Lib.hid (J4.out.chain hb);clear hb y4_11))
              go_meet
              exact ⟨by rw [HQA.out];rfl,J5⟩
            | true =>
              obtain ⟨s0,-,-,-,-,-,-,-,-,-,-,-⟩:=HF.out _ K1.out
              go_wp2_with (first
               | (go_at_call 18;((with_reducible refine (HQ0.out _ (HB.out.chain K1.out)).mono ?_);rintro e wy0 ⟨rfl,hb⟩);have J0:=Lib.hid (K1.out.chain hb);clear hb s0;obtain ⟨-,y0_1,y0_2,-,-,-,-,-,-,-,-,-⟩:=HF.out _ J0.out)
               | (go_at_call 51;((with_reducible refine (HQ1.out _ (HB.out.chain J0.out)).mono ?_);rintro e wy1 ⟨rfl,hb⟩);have J1:=Lib.hid (J0.out.chain hb);clear hb y0_1 y0_2;obtain ⟨-,-,-,y1_3,-,-,-,-,-,-,-,-⟩:=HF.out _ J1.out)
               | (go_at_call 16;((with_reducible refine (HQ2.out _ (HB.out.chain J1.out)).mono ?_);rintro e wy2 ⟨rfl,hb⟩);have J2:=Lib.hid (J1.out.chain hb);clear hb y1_3;obtain ⟨-,-,-,-,y2_4,-,-,-,-,-,-,-⟩:=HF.out _ J2.out)
               | (go_at_call 16;((with_reducible refine (HQ3.out _ (HB.out.chain J2.out)).mono ?_);rintro e wy3 ⟨rfl,hb⟩);have J3:=Lib.hid (J2.out.chain hb);clear hb y2_4;obtain ⟨-,-,-,-,-,-,-,-,-,-,y3_10,-⟩:=HF.out _ J3.out)
               | (go_at_call 16;((with_reducible refine (HQ4.out _ (HB.out.chain J3.out)).mono ?_);rintro e wy4 ⟨rfl,hb⟩);have J4:=Lib.hid (J3.out.chain hb);clear hb y3_10;obtain ⟨-,-,-,-,-,-,-,-,-,-,-,y4_11⟩:=HF.out _ J4.out)
               | (go_at_call 52;((with_reducible refine (HQ5.out _ (HB.out.chain J4.out)).mono ?_);rintro e wy5 ⟨rfl,hb⟩);have J5:=Lib.hid (J4.out.chain hb);clear hb y4_11))
              go_meet
              exact ⟨by rw [HQA.out];rfl,J5⟩
 case rest =>
  obtain ⟨rfl,K2⟩:=hcut
  clear HQ0 HQ1 HQ2 HQ3 HQ4 HQ5 HQA
  cases qa with
  | false =>
    go_wp2
    go_ret
    exact ⟨by rw [HR.out];(first | rfl | (simp;done)),HB.out.chain K2.out⟩
  | true =>
    go_upto_region 3 with fail
    go_cut [58] from 37 to 58 (fun v58 wx => v58 = .bool (!qb) ∧ Hid (Below W1.heap.size W1 wx))
    case first =>
     rcases rn with _ | ⟨y,rn⟩
     ·rcases rt with _ | ⟨x,rt⟩
      ·skip
       cases v7 with
       | true =>
         obtain ⟨-,-,-,-,-,s5,s6,-,-,-,-,-⟩:=HF.out _ K2.out
         go_wp2_with (go_at_call 53;((with_reducible refine (HQ7.out _ (HB.out.chain K2.out)).mono ?_);rintro e wy7 ⟨rfl,hb⟩);have J7:=Lib.hid (K2.out.chain hb);clear hb s5 s6)
         go_meet
         exact ⟨by rw [HQB.out];rfl,J7⟩
       | false =>
         obtain ⟨-,-,-,-,-,s5,s6,-,-,-,-,-⟩:=HF.out _ K2.out
         go_wp2_with (go_at_call 53;((with_reducible refine (HQ7.out _ (HB.out.chain K2.out)).mono ?_);rintro e wy7 ⟨rfl,hb⟩);have J7:=Lib.hid (K2.out.chain hb);clear hb s5 s6)
         go_meet
         exact ⟨by rw [HQB.out];rfl,J7⟩
      ·skip
       cases v6 with
       | false =>
         obtain ⟨-,-,-,-,-,s5,s6,-,-,-,-,-⟩:=HF.out _ K2.out
         go_wp2_with (go_at_call 46;((with_reducible refine (HQ6.out _ (HB.out.chain K2.out)).mono ?_);rintro e wy6 ⟨rfl,hb⟩);have J6:=Lib.hid (K2.out.chain hb);clear hb s5 s6)
         go_meet
         exact ⟨by rw [HQB.out];rfl,J6⟩
       | true =>
         cases v7 with
         | true =>
           obtain ⟨-,-,-,-,-,s5,s6,-,-,-,-,-⟩:=HF.out _ K2.out
           go_wp2_with (first
            | (go_at_call 46;((with_reducible refine (HQ6.out _ (HB.out.chain K2.out)).mono ?_);rintro e wy6 ⟨rfl,hb⟩);have J6:=Lib.hid (K2.out.chain hb);clear hb s5 s6;obtain ⟨-,-,-,-,-,y6_5,y6_6,-,-,-,-,-⟩:=HF.out _ J6.out)
            | (go_at_call 53;((with_reducible refine (HQ7.out _ (HB.out.chain J6.out)).mono ?_);rintro e wy7 ⟨rfl,hb⟩);have J7:=Lib.hid (J6.out.chain hb);clear hb y6_5 y6_6))
           go_meet
           exact ⟨by rw [HQB.out];rfl,J7⟩
         | false =>
           obtain ⟨-,-,-,-,-,s5,s6,-,-,-,-,-⟩:=HF.out _ K2.out
           go_wp2_with (first
            | (go_at_call 46;((with_reducible refine (HQ6.out _ (HB.out.chain K2.out)).mono ?_);rintro e wy6 ⟨rfl,hb⟩);have J6:=Lib.hid (K2.out.chain hb);clear hb s5 s6;obtain ⟨-,-,-,-,-,y6_5,y6_6,-,-,-,-,-⟩:=HF.out _ J6.out)
            | (go_at_call 53;((with_reducible refine (HQ7.out _ (HB.out.chain J6.out)).mono ?_);rintro e wy7 ⟨rfl,hb⟩);have J7:=Lib.hid (J6.out.chain hb);clear hb y6_5 y6_6))
           go_meet
           exact ⟨by rw [HQB.out];rfl,J7⟩
     ·skip
      cases v6 with
      | false =>
        obtain ⟨-,-,-,-,-,s5,s6,-,-,-,-,-⟩:=HF.out _ K2.out
        go_wp2_with (go_at_call 46;((with_reducible refine (HQ6.out _ (HB.out.chain K2.out)).mono ?_);rintro e wy6 ⟨rfl,hb⟩);have J6:=Lib.hid (K2.out.chain hb);clear hb s5 s6)
        go_meet
        exact ⟨by rw [HQB.out];rfl,J6⟩
      | true =>
        cases v7 with
        | true =>
          obtain ⟨-,-,-,-,-,s5,s6,-,-,-,-,-⟩:=HF.out _ K2.out
          go_wp2_with (first
           | (go_at_call 46;((with_reducible refine (HQ6.out _ (HB.out.chain K2.out)).mono ?_);rintro e wy6 ⟨rfl,hb⟩);have J6:=Lib.hid (K2.out.chain hb);clear hb s5 s6;obtain ⟨-,-,-,-,-,y6_5,y6_6,-,-,-,-,-⟩:=HF.out _ J6.out)
           | (go_at_call 53;((with_reducible refine (HQ7.out _ (HB.out.chain J6.out)).mono ?_);rintro e wy7 ⟨rfl,hb⟩);have J7:=Lib.hid (J6.out.chain hb);clear hb y6_5 y6_6))
          go_meet
          exact ⟨by rw [HQB.out];rfl,J7⟩
        | false =>
          obtain ⟨-,-,-,-,-,s5,s6,-,-,-,-,-⟩:=HF.out _ K2.out
          go_wp2_with (first
           | (go_at_call 46;((with_reducible refine (HQ6.out _ (HB.out.chain K2.out)).mono ?_);rintro e wy6 ⟨rfl,hb⟩);have J6:=Lib.hid (K2.out.chain hb);clear hb s5 s6;obtain ⟨-,-,-,-,-,y6_5,y6_6,-,-,-,-,-⟩:=HF.out _ J6.out)
           | (go_at_call 53;((with_reducible refine (HQ7.out _ (HB.out.chain J6.out)).mono ?_);rintro e wy7 ⟨rfl,hb⟩);have J7:=Lib.hid (J6.out.chain hb);clear hb y6_5 y6_6))
          go_meet
          exact ⟨by rw [HQB.out];rfl,J7⟩
    case rest =>
     clear K2
     obtain ⟨rfl,K3⟩:=hcut
     clear HQ6 HQ7 HQB
     cases qb with
     | false =>
       go_wp2
       go_ret
       exact ⟨by rw [HR.out];(first | rfl | (simp;done)),HB.out.chain K3.out⟩
     | true =>
       go_upto_region 5 with fail
       go_cut [80] from 59 to 80 (fun v80 wx => v80 = .bool (!qc) ∧ Hid (Below W1.heap.size W1 wx))
       case first =>
        cases v8 with
        | false =>
          obtain ⟨-,-,-,s3,-,-,-,-,-,-,-,-⟩:=HF.out _ K3.out
          go_wp2_with (go_at_call 17;((with_reducible refine (HQ8.out _ (HB.out.chain K3.out)).mono ?_);rintro e wy8 ⟨rfl,hb⟩);have J8:=Lib.hid (K3.out.chain hb);clear hb s3)
          go_meet
          exact ⟨by rw [HQC.out];rfl,J8⟩
        | true =>
          cases v9 with
          | false =>
            obtain ⟨-,-,-,s3,-,-,-,-,-,-,-,-⟩:=HF.out _ K3.out
            go_wp2_with (first
             | (go_at_call 17;((with_reducible refine (HQ8.out _ (HB.out.chain K3.out)).mono ?_);rintro e wy8 ⟨rfl,hb⟩);have J8:=Lib.hid (K3.out.chain hb);clear hb s3;obtain ⟨-,-,-,-,y8_4,-,-,-,-,-,-,-⟩:=HF.out _ J8.out)
             | (go_at_call 17;((with_reducible refine (HQ9.out _ (HB.out.chain J8.out)).mono ?_);rintro e wy9 ⟨rfl,hb⟩);have J9:=Lib.hid (J8.out.chain hb);clear hb y8_4))
            go_meet
            exact ⟨by rw [HQC.out];rfl,J9⟩
          | true =>
            cases v10 with
            | false =>
              obtain ⟨-,-,-,s3,-,-,-,-,-,-,-,-⟩:=HF.out _ K3.out
              go_wp2_with (first
               | (go_at_call 17;((with_reducible refine (HQ8.out _ (HB.out.chain K3.out)).mono ?_);rintro e wy8 ⟨rfl,hb⟩);have J8:=Lib.hid (K3.out.chain hb);clear hb s3;obtain ⟨-,-,-,-,y8_4,-,-,-,-,-,-,-⟩:=HF.out _ J8.out)
               | (go_at_call 17;((with_reducible refine (HQ9.out _ (HB.out.chain J8.out)).mono ?_);rintro e wy9 ⟨rfl,hb⟩);have J9:=Lib.hid (J8.out.chain hb);clear hb y8_4;obtain ⟨-,-,-,-,-,-,-,-,-,-,y9_10,-⟩:=HF.out _ J9.out)
               | (go_at_call 17;((with_reducible refine (HQ10.out _ (HB.out.chain J9.out)).mono ?_);rintro e wy10 ⟨rfl,hb⟩);have J10:=Lib.hid (J9.out.chain hb);clear hb y9_10))
              go_meet
              exact ⟨by rw [HQC.out];rfl,J10⟩
            | true =>
              cases v11 with
              | false =>
                obtain ⟨-,-,-,s3,-,-,-,-,-,-,-,-⟩:=HF.out _ K3.out
                go_wp2_with (first
                 | (go_at_call 17;((with_reducible refine (HQ8.out _ (HB.out.chain K3.out)).mono ?_);rintro e wy8 ⟨rfl,hb⟩);have J8:=Lib.hid (K3.out.chain hb);clear hb s3;obtain ⟨-,-,-,-,y8_4,-,-,-,-,-,-,-⟩:=HF.out _ J8.out)
                 | (go_at_call 17;((with_reducible refine (HQ9.out _ (HB.out.chain J8.out)).mono ?_);rintro e wy9 ⟨rfl,hb⟩);have J9:=Lib.hid (J8.out.chain hb);clear hb y8_4;obtain ⟨-,-,-,-,-,-,-,-,-,-,y9_10,-⟩:=HF.out _ J9.out)
                 | (go_at_call 17;((with_reducible refine (HQ10.out _ (HB.out.chain J9.out)).mono ?_);rintro e wy10 ⟨rfl,hb⟩);have J10:=Lib.hid (J9.out.chain hb);clear hb y9_10;obtain ⟨-,-,-,-,-,-,-,-,-,-,-,y10_11⟩:=HF.out _ J10.out)
                 | (go_at_call 54;((with_reducible refine (HQ11.out _ (HB.out.chain J10.out)).mono ?_);rintro e wy11 ⟨rfl,hb⟩);have J11:=Lib.hid (J10.out.chain hb);clear hb y10_11))
                go_meet
                exact ⟨by rw [HQC.out];rfl,J11⟩
              | true =>
                obtain ⟨-,-,-,s3,-,-,-,-,-,-,-,-⟩:=HF.out _ K3.out
                go_wp2_with (first
                 | (go_at_call 17;((with_reducible refine (HQ8.out _ (HB.out.chain K3.out)).mono ?_);rintro e wy8 ⟨rfl,hb⟩);have J8:=Lib.hid (K3.out.chain hb);clear hb s3;obtain ⟨-,-,-,-,y8_4,-,-,-,-,-,-,-⟩:=HF.out _ J8.out)
                 | (go_at_call 17;((with_reducible refine (HQ9.out _ (HB.out.chain J8.out)).mono ?_);rintro e wy9 ⟨rfl,hb⟩);have J9:=Lib.hid (J8.out.chain hb);clear hb y8_4;obtain ⟨-,-,-,-,-,-,-,-,-,-,y9_10,-⟩:=HF.out _ J9.out)
                 | (go_at_call 17;((with_reducible refine (HQ10.out _ (HB.out.chain J9.out)).mono ?_);rintro e wy10 ⟨rfl,hb⟩);have J10:=Lib.hid (J9.out.chain hb);clear hb y9_10;obtain ⟨-,-,-,-,-,-,-,-,-,-,-,y10_11⟩:=HF.out _ J10.out)
                 | (go_at_call 54;((with_reducible refine (HQ11.out _ (HB.out.chain J10.out)).mono ?_);rintro e wy11 ⟨rfl,hb⟩);have J11:=Lib.hid (J10.out.chain hb);clear hb y10_11))
                go_meet
                exact ⟨by rw [HQC.out];rfl,J11⟩
       case rest =>
        clear K3
        obtain ⟨rfl,K4⟩:=hcut
        clear HQ8 HQ9 HQ10 HQ11 HQC
        cases qc with
        | false =>
          go_wp2
          go_ret
          exact ⟨by rw [HR.out];(first | rfl | (simp;done)),HB.out.chain K4.out⟩
        | true =>
          cases ct with
          | false =>
            by_cases hn8 : n8 = 0
            ·subst hn8
             by_cases hn9 : n9 = 0
             ·subst hn9
              by_cases hn4 : n4 = 0
              ·subst hn4
               obtain ⟨-,-,-,-,s4,-,-,s7,s8,s9,-,-⟩:=HF.out _ K4.out
               go_wp2
               go_ret
               exact ⟨by rw [HR.out,HQD.out];(first | rfl | (simp;done) | (simp;omega)),HB.out.chain K4.out⟩
              ·have in4 : ¬ (n4 : Int) = 0:=by omega
               obtain ⟨-,-,-,-,s4,-,-,s7,s8,s9,-,-⟩:=HF.out _ K4.out
               go_wp2
               go_ret
               exact ⟨by rw [HR.out,HQD.out];(first | rfl | (simp;done) | (simp;omega)),HB.out.chain K4.out⟩
             ·have in9 : ¬ (n9 : Int) = 0:=by omega
              obtain ⟨-,-,-,-,s4,-,-,s7,s8,s9,-,-⟩:=HF.out _ K4.out
              go_wp2
              go_ret
              exact ⟨by rw [HR.out,HQD.out];(first | rfl | (simp;done) | (simp;omega)),HB.out.chain K4.out⟩
            ·have in8 : ¬ (n8 : Int) = 0:=by omega
             obtain ⟨-,-,-,-,s4,-,-,s7,s8,s9,-,-⟩:=HF.out _ K4.out
             go_wp2
             go_ret
             exact ⟨by rw [HR.out,HQD.out];(first | rfl | (simp;done) | (simp;omega)),HB.out.chain K4.out⟩
          | true =>
            cases v12 with
            | false =>
              obtain ⟨-,-,-,-,-,-,-,s7,s8,-,-,-⟩:=HF.out _ K4.out
              go_wp2_with (go_at_call 19;((with_reducible refine (HQ12.out _ (HB.out.chain K4.out)).mono ?_);rintro e wy12 ⟨rfl,hb⟩);have J12:=Lib.hid (K4.out.chain hb);clear hb s7 s8)
              go_ret
              exact ⟨by rw [HR.out,HQD.out];rfl,HB.out.chain J12.out⟩
            | true =>
              cases v13 with
              | false =>
                obtain ⟨-,-,-,-,-,-,-,s7,s8,-,-,-⟩:=HF.out _ K4.out
                go_wp2_with (first
                 | (go_at_call 19;((with_reducible refine (HQ12.out _ (HB.out.chain K4.out)).mono ?_);rintro e wy12 ⟨rfl,hb⟩);have J12:=Lib.hid (K4.out.chain hb);clear hb s7 s8;obtain ⟨-,-,-,-,-,-,-,-,-,y12_9,-,-⟩:=HF.out _ J12.out)
                 | (go_at_call 19;((with_reducible refine (HQ13.out _ (HB.out.chain J12.out)).mono ?_);rintro e wy13 ⟨rfl,hb⟩);have J13:=Lib.hid (J12.out.chain hb);clear hb y12_9))
                go_ret
                exact ⟨by rw [HR.out,HQD.out];rfl,HB.out.chain J13.out⟩
              | true =>
                cases v14 with
                | false =>
                  obtain ⟨-,-,-,-,-,-,-,s7,s8,-,-,-⟩:=HF.out _ K4.out
                  go_wp2_with (first
                   | (go_at_call 19;((with_reducible refine (HQ12.out _ (HB.out.chain K4.out)).mono ?_);rintro e wy12 ⟨rfl,hb⟩);have J12:=Lib.hid (K4.out.chain hb);clear hb s7 s8;obtain ⟨-,-,-,-,-,-,-,-,-,y12_9,-,-⟩:=HF.out _ J12.out)
                   | (go_at_call 19;((with_reducible refine (HQ13.out _ (HB.out.chain J12.out)).mono ?_);rintro e wy13 ⟨rfl,hb⟩);have J13:=Lib.hid (J12.out.chain hb);clear hb y12_9;obtain ⟨-,-,-,-,-,-,-,-,y13_8,-,-,-⟩:=HF.out _ J13.out)
                   | (go_at_call 20;((with_reducible refine (HQ14.out _ (HB.out.chain J13.out)).mono ?_);rintro e wy14 ⟨rfl,hb⟩);have J14:=Lib.hid (J13.out.chain hb);clear hb y13_8))
                  go_ret
                  exact ⟨by rw [HR.out,HQD.out];rfl,HB.out.chain J14.out⟩
                | true =>
                  cases v15 with
                  | false =>
                    obtain ⟨-,-,-,-,-,-,-,s7,s8,-,-,-⟩:=HF.out _ K4.out
                    go_wp2_with (first
                     | (go_at_call 19;((with_reducible refine (HQ12.out _ (HB.out.chain K4.out)).mono ?_);rintro e wy12 ⟨rfl,hb⟩);have J12:=Lib.hid (K4.out.chain hb);clear hb s7 s8;obtain ⟨-,-,-,-,-,-,-,-,-,y12_9,-,-⟩:=HF.out _ J12.out)
                     | (go_at_call 19;((with_reducible refine (HQ13.out _ (HB.out.chain J12.out)).mono ?_);rintro e wy13 ⟨rfl,hb⟩);have J13:=Lib.hid (J12.out.chain hb);clear hb y12_9;obtain ⟨-,-,-,-,-,-,-,-,y13_8,-,-,-⟩:=HF.out _ J13.out)
                     | (go_at_call 20;((with_reducible refine (HQ14.out _ (HB.out.chain J13.out)).mono ?_);rintro e wy14 ⟨rfl,hb⟩);have J14:=Lib.hid (J13.out.chain hb);clear hb y13_8;obtain ⟨-,-,-,-,-,-,-,-,-,y14_9,-,-⟩:=HF.out _ J14.out)
                     | (go_at_call 20;((with_reducible refine (HQ15.out _ (HB.out.chain J14.out)).mono ?_);rintro e wy15 ⟨rfl,hb⟩);have J15:=Lib.hid (J14.out.chain hb);clear hb y14_9))
                    go_ret
                    exact ⟨by rw [HR.out,HQD.out];rfl,HB.out.chain J15.out⟩
                  | true =>
                    obtain ⟨-,-,-,-,-,-,-,s7,s8,-,-,-⟩:=HF.out _ K4.out
                    go_wp2_with (first
                     | (go_at_call 19;((with_reducible refine (HQ12.out _ (HB.out.chain K4.out)).mono ?_);rintro e wy12 ⟨rfl,hb⟩);have J12:=Lib.hid (K4.out.chain hb);clear hb s7 s8;obtain ⟨-,-,-,-,-,-,-,-,-,y12_9,-,-⟩:=HF.out _ J12.out)
                     | (go_at_call 19;((with_reducible refine (HQ13.out _ (HB.out.chain J12.out)).mono ?_);rintro e wy13 ⟨rfl,hb⟩);have J13:=Lib.hid (J12.out.chain hb);clear hb y12_9;obtain ⟨-,-,-,-,-,-,-,-,y13_8,-,-,-⟩:=HF.out _ J13.out)
                     | (go_at_call 20;((with_reducible refine (HQ14.out _ (HB.out.chain J13.out)).mono ?_);rintro e wy14 ⟨rfl,hb⟩);have J14:=Lib.hid (J13.out.chain hb);clear hb y13_8;obtain ⟨-,-,-,-,-,-,-,-,-,y14_9,-,-⟩:=HF.out _ J14.out)
                     | (go_at_call 20;((with_reducible refine (HQ15.out _ (HB.out.chain J14.out)).mono ?_);rintro e wy15 ⟨rfl,hb⟩);have J15:=Lib.hid (J14.out.chain hb);clear hb y14_9))
                    go_ret
                    exact ⟨by rw [HR.out,HQD.out];rfl,HB.out.chain J15.out⟩
theorem sproc_any (o : OkF) (d : PAd) (x : Pr) (w : World) (own : PrOwn w w.heap.size d x) :
 Calls Tryz.prog 21 #[.agg (prCs d x)] w fun e w' => e = .returned (.bool (rPr o x)) ∧ Below w.heap.size w w':=by
 obtain ⟨⟨b0,b1,b2,b3,b4,b5,b6,b7,b8⟩,r0,r1,r2,r3,r4,r5⟩:=own
 exact spr_core (prCs d x) rfl x.nm x.rt x.rn x.ln x.co _ _ _ d.g d.r d.e x.lg.length x.rq.length x.es.length d.ng d.nr d.ne x.ct b2 b5 b6 b4 b3
  (nameR x.nm) (vPos x.ln x.co) (rPs 0 8 x.ps) (rPs 0 8 x.lg) (rPs 0 100 x.lo) (vSs varR nuP 100 30 x.bd) (tyB x.rt && varR x.rn) (dlrB x.rn) (plP x.ps) (plP x.lg) (plP x.lo) (x.bd.all o.s) (rFs 1 x.rq) (rFs 1 x.es) (x.rq.all o.f) (x.es.all o.f) (rPr o x) w
  rfl rfl rfl rfl rfl rfl rfl rfl rfl rfl rfl rfl
  (fun W hb => sname_any x.nm W b0) (fun W hb => splace_any x.ln x.co W) (fun W hb => sparams_any x.ps d.p d.np 0 8 W b1 (r0.on pm_keeps hb)) (fun W hb => sparams_any x.lg d.g d.ng 0 8 W b2 (r1.on pm_keeps hb)) (fun W hb => sparams_any x.lo d.l d.nl 0 100 W b7 (r4.on pm_keeps hb)) (fun W hb => sstmts_any x.bd d.b d.nb W (r5.on hb) b8)
  (fun W hb => sparam_any x.rt x.rn W b3 b4) (fun W hb => (dollar_any x.rn W b4).mono (fun e w' h => by obtain ⟨h1,rfl⟩:=h;exact ⟨h1,Below.refl _ _⟩))
  (fun W hb => splainp_any x.ps d.p d.np W b1 (r0.on pm_keeps hb)) (fun W hb => splainp_any x.lg d.g d.ng W b2 (r1.on pm_keeps hb)) (fun W hb => splainp_any x.lo d.l d.nl W b7 (r4.on pm_keeps hb)) (fun W hb => splains_any o x.bd d.b d.nb W (r5.on hb) b8)
  (fun W hb => sforms_any x.rq d.r d.nr 1 W b5 (r2.on fm_keeps hb)) (fun W hb => sforms_any x.es d.e d.ne 1 W b6 (r3.on fm_keeps hb)) (fun W hb => plain_any o x.rq d.r d.nr W b5 (r2.on fm_keeps hb)) (fun W hb => plain_any o x.es d.e d.ne W b6 (r3.on fm_keeps hb)) rfl
end Go.Proofs.YtkopbfndfkibbaaGreatDoor
