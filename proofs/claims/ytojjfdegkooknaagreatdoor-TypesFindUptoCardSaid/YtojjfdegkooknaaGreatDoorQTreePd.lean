import Derived.Test.YtojjfdegkooknaaGreatDoorQTreePc
import Derived.Test.YtojjfdegkooknaaGreatDoorQTreeGc
set_option linter.unusedVariables false
set_option linter.unusedSimpArgs false
namespace Go.Proofs.YtojjfdegkooknaaGreatDoor
set_option maxRecDepth 100000
set_option maxHeartbeats 16000000
open Go.RowKit
theorem hid_ProcD : ∃ (T N : Nat),46 = T ∧ N = 12 ∧ (∀ w : World,(isAgg T).run Tryz.prog w = .ok true w) ∧ (∀ w : World,(sizeOf T).run Tryz.prog w = .ok N w) :=
 ⟨_,12,rfl,rfl,fun w => by kernel_rfl,fun w => by kernel_rfl⟩
def vRes (rt rn : List UInt8) : Bool:=(rt.isEmpty && rn.isEmpty) || (tyB rt && nameL rn)
def vCt (ct : Bool) (lg : List Pm) (rq es : List Fm) : Bool:=if ct then vPs lg && vDj rq && vDj es else decide ((lg.length : Int) = 0) && decide ((rq.length : Int) = 0) && decide ((es.length : Int) = 0)
def vPr (x : Pr) : Bool:=nameL x.nm && vPos x.ln x.co && vPs x.ps && vRes x.rt x.rn && vCt x.ct x.lg x.rq x.es && (decide ((0 : Int) ≤ x.lo.length) && decide ((x.lo.length : Int) ≤ 100) && x.lo.all (vP nameL)) && vSs nameL 1048576 8 30 x.bd
def vPg (p : Pg) : Bool:=(decide ((0 : Int) ≤ p.rs.length) && decide ((p.rs.length : Int) ≤ 100) && p.rs.all vRc) && (decide ((0 : Int) ≤ p.gs.length) && decide ((p.gs.length : Int) ≤ 100) && p.gs.all (vP nameL)) && (decide ((0 : Int) ≤ p.ks.length) && decide ((p.ks.length : Int) ≤ 100) && p.ks.all vLk) &&
 (decide ((0 : Int) ≤ p.ds.length) && decide ((p.ds.length : Int) ≤ 100) && p.ds.all vDf) && (decide ((0 : Int) ≤ p.ms.length) && decide ((p.ms.length : Int) ≤ 100) && p.ms.all vLm) && (decide ((0 : Int) ≤ p.xs.length) && decide ((p.xs.length : Int) ≤ 100) && p.xs.all vPr)
theorem ct_false (cs : Array Value) (hcs : cs.size = 12) (na nb nc : Nat) (A B C : Option Addr) (c4 c8 c9 : Nat) (bA : na ≤ maxLen) (bB : nb ≤ maxLen) (bC : nc ≤ maxLen) (w : World)
 (kx4 : cs[4]? = some (.slice A na c4)) (kx7 : cs[7]? = some (.bool false)) (kx8 : cs[8]? = some (.slice B nb c8)) (kx9 : cs[9]? = some (.slice C nc c9))
  :
 Calls Tryz.prog 157 #[rulesV 125 1048576 8,.agg cs] w fun e w' => e = .returned (.bool (decide ((na : Int) = 0) && decide ((nb : Int) = 0) && decide ((nc : Int) = 0))) ∧ Below w.heap.size w w':=by
 obtain ⟨T,N,hT,hN,hag,hsz⟩:=hid_ProcD
 have e4 : ∀ y : Operand,Op.box 46 y = Op.box T y:=fun y => by rw [hT]
 have hszc : cs.size = N:=hcs.trans hN.symm
 obtain ⟨W1,hW1⟩ : ∃ W1,W1 = (w.alloc (rulesC 125 1048576 8)).alloc (.cells cs T):=⟨_,rfl⟩
 have HB : Hid (Below w.heap.size w W1):=Lib.hid (by rw [hW1];exact (below_alloc w _).chain (below_alloc _ _))
 have p1:=heap_keep (o:=.cells cs T) (heap_of_alloc w (rulesC 125 1048576 8))
 have p2:=heap_of_alloc (w.alloc (rulesC 125 1048576 8)) (.cells cs T)
 rw [size_of_alloc] at p2
 rw [← hW1] at p1 p2
 have HF : Hid (∀ W,Below W1.heap.size W1 W → W.cell? ⟨w.heap.size,0,none⟩ = some (.func (.func 125) #[] #[]) ∧ W.cell? ⟨w.heap.size,1,none⟩ = some (.int .i64 1048576) ∧ W.cell? ⟨w.heap.size,2,none⟩ = some (.int .i64 8) ∧ W.cell? ⟨w.heap.size + 1,4,none⟩ = some (.slice A na c4) ∧ W.cell? ⟨w.heap.size + 1,7,none⟩ = some (.bool false) ∧ W.cell? ⟨w.heap.size + 1,8,none⟩ = some (.slice B nb c8) ∧ W.cell? ⟨w.heap.size + 1,9,none⟩ = some (.slice C nc c9)) :=
  Lib.hid (fun W hb => ⟨cell_of_block (kept_box hb p1) 0 rfl,cell_of_block (kept_box hb p1) 1 rfl,cell_of_block (kept_box hb p1) 2 rfl,cell_of_block (kept_box hb p2) 4 kx4,cell_of_block (kept_box hb p2) 7 kx7,cell_of_block (kept_box hb p2) 8 kx8,cell_of_block (kept_box hb p2) 9 kx9⟩)
 have K1:=Lib.hid (Below.refl W1.heap.size W1)
 have hF0:=HF.out _ K1.out
 rw [hW1] at hF0
 obtain ⟨z0,z1,z2,z3,z4,z5,z6⟩:=hF0
 clear  hN p1 p2 hcs kx4 kx7 kx8 kx9
 try unfold maxLen at *
 obtain ⟨res,hres⟩ : ∃ r,r = (decide ((na : Int) = 0) && decide ((nb : Int) = 0) && decide ((nc : Int) = 0)):=⟨_,rfl⟩
 rw [← hres]
 have HRS:=Lib.hid hres
 clear hres
 by_cases ha : na = 0
 ·subst ha
  by_cases hb : nb = 0
  ·subst hb
   by_cases hc : nc = 0
   ·subst hc
    go_enter Tryz.func157,Tryz.ntmps157
    simp only [e4]
    clear e4 hT
    go_wp2
    go_ret
    exact ⟨by rw [HRS.out];(first | rfl | (simp;done) | (simp;omega)),by rw [hW1] at HB;exact HB.out⟩
   ·have ic : ¬ (nc : Int) = 0:=by omega
    go_enter Tryz.func157,Tryz.ntmps157
    simp only [e4]
    clear e4 hT
    go_wp2
    go_ret
    exact ⟨by rw [HRS.out];(first | rfl | (simp;done) | (simp;omega)),by rw [hW1] at HB;exact HB.out⟩
  ·have ib : ¬ (nb : Int) = 0:=by omega
   go_enter Tryz.func157,Tryz.ntmps157
   simp only [e4]
   clear e4 hT
   go_wp2
   go_ret
   exact ⟨by rw [HRS.out];(first | rfl | (simp;done) | (simp;omega)),by rw [hW1] at HB;exact HB.out⟩
 ·have ia : ¬ (na : Int) = 0:=by omega
  go_enter Tryz.func157,Tryz.ntmps157
  simp only [e4]
  clear e4 hT
  go_wp2
  go_ret
  exact ⟨by rw [HRS.out];(first | rfl | (simp;done) | (simp;omega)),by rw [hW1] at HB;exact HB.out⟩
theorem ct_true (cs : Array Value) (hcs : cs.size = 12) (x4 x8 x9 : Value) (v0 v1 v2 : Bool) (w : World)
 (kx4 : cs[4]? = some (x4)) (kx7 : cs[7]? = some (.bool true)) (kx8 : cs[8]? = some (x8)) (kx9 : cs[9]? = some (x9))
 (hq0 : BC w 154 #[rulesV 125 1048576 8,x4] v0)
 (hq1 : BC w 155 #[rulesV 125 1048576 8,x8] v1)
 (hq2 : BC w 155 #[rulesV 125 1048576 8,x9] v2) :
 Calls Tryz.prog 157 #[rulesV 125 1048576 8,.agg cs] w fun e w' => e = .returned (.bool (v0 && v1 && v2)) ∧ Below w.heap.size w w':=by
 obtain ⟨T,N,hT,hN,hag,hsz⟩:=hid_ProcD
 have e4 : ∀ y : Operand,Op.box 46 y = Op.box T y:=fun y => by rw [hT]
 have hszc : cs.size = N:=hcs.trans hN.symm
 have HQ0:=Lib.hid hq0
 have HQ1:=Lib.hid hq1
 have HQ2:=Lib.hid hq2
 obtain ⟨W1,hW1⟩ : ∃ W1,W1 = (w.alloc (rulesC 125 1048576 8)).alloc (.cells cs T):=⟨_,rfl⟩
 have HB : Hid (Below w.heap.size w W1):=Lib.hid (by rw [hW1];exact (below_alloc w _).chain (below_alloc _ _))
 have p1:=heap_keep (o:=.cells cs T) (heap_of_alloc w (rulesC 125 1048576 8))
 have p2:=heap_of_alloc (w.alloc (rulesC 125 1048576 8)) (.cells cs T)
 rw [size_of_alloc] at p2
 rw [← hW1] at p1 p2
 have HF : Hid (∀ W,Below W1.heap.size W1 W → W.cell? ⟨w.heap.size,0,none⟩ = some (.func (.func 125) #[] #[]) ∧ W.cell? ⟨w.heap.size,1,none⟩ = some (.int .i64 1048576) ∧ W.cell? ⟨w.heap.size,2,none⟩ = some (.int .i64 8) ∧ W.cell? ⟨w.heap.size + 1,4,none⟩ = some (x4) ∧ W.cell? ⟨w.heap.size + 1,7,none⟩ = some (.bool true) ∧ W.cell? ⟨w.heap.size + 1,8,none⟩ = some (x8) ∧ W.cell? ⟨w.heap.size + 1,9,none⟩ = some (x9)) :=
  Lib.hid (fun W hb => ⟨cell_of_block (kept_box hb p1) 0 rfl,cell_of_block (kept_box hb p1) 1 rfl,cell_of_block (kept_box hb p1) 2 rfl,cell_of_block (kept_box hb p2) 4 kx4,cell_of_block (kept_box hb p2) 7 kx7,cell_of_block (kept_box hb p2) 8 kx8,cell_of_block (kept_box hb p2) 9 kx9⟩)
 have K1:=Lib.hid (Below.refl W1.heap.size W1)
 have hF0:=HF.out _ K1.out
 rw [hW1] at hF0
 obtain ⟨z0,z1,z2,z3,z4,z5,z6⟩:=hF0
 clear hq0 hq1 hq2 hN p1 p2 hcs kx4 kx7 kx8 kx9
 try unfold maxLen at *
 cases v0 with
 | false =>
   go_enter Tryz.func157,Tryz.ntmps157
   simp only [e4]
   clear e4 hT
   go_wp2_with (go_at_call 154;rw [← hW1];clear hW1;((with_reducible refine (HQ0.out _ (HB.out.chain K1.out)).mono ?_);rintro e w2 ⟨rfl,hb⟩);have K2:=Lib.hid (K1.out.chain hb);clear hb;clear z0 z1 z2 z3 z4 z5 z6)
   go_ret
   exact ⟨rfl,HB.out.chain K2.out⟩
 | true =>
   cases v1 with
   | false =>
     go_enter Tryz.func157,Tryz.ntmps157
     simp only [e4]
     clear e4 hT
     go_wp2_with (first
      | (go_at_call 154;rw [← hW1];clear hW1;((with_reducible refine (HQ0.out _ (HB.out.chain K1.out)).mono ?_);rintro e w2 ⟨rfl,hb⟩);have K2:=Lib.hid (K1.out.chain hb);clear hb;clear z0 z1 z2 z3 z4 z5 z6;obtain ⟨g1_0,g1_1,g1_2,-,-,g1_5,-⟩:=HF.out _ K2.out)
      | (go_at_call 155;((with_reducible refine (HQ1.out _ (HB.out.chain K2.out)).mono ?_);rintro e w3 ⟨rfl,hb⟩);have K3:=Lib.hid (K2.out.chain hb);clear hb;clear g1_0 g1_1 g1_2 g1_5))
     go_ret
     exact ⟨rfl,HB.out.chain K3.out⟩
   | true =>
     cases v2 with
     | false =>
       go_enter Tryz.func157,Tryz.ntmps157
       simp only [e4]
       clear e4 hT
       go_wp2_with (first
        | (go_at_call 154;rw [← hW1];clear hW1;((with_reducible refine (HQ0.out _ (HB.out.chain K1.out)).mono ?_);rintro e w2 ⟨rfl,hb⟩);have K2:=Lib.hid (K1.out.chain hb);clear hb;clear z0 z1 z2 z3 z4 z5 z6;obtain ⟨g1_0,g1_1,g1_2,-,-,g1_5,-⟩:=HF.out _ K2.out)
        | (go_at_call 155;((with_reducible refine (HQ1.out _ (HB.out.chain K2.out)).mono ?_);rintro e w3 ⟨rfl,hb⟩);have K3:=Lib.hid (K2.out.chain hb);clear hb;clear g1_0 g1_1 g1_2 g1_5;obtain ⟨g2_0,g2_1,g2_2,-,-,-,g2_6⟩:=HF.out _ K3.out)
        | (go_at_call 155;((with_reducible refine (HQ2.out _ (HB.out.chain K3.out)).mono ?_);rintro e w4 ⟨rfl,hb⟩);have K4:=Lib.hid (K3.out.chain hb);clear hb;clear g2_0 g2_1 g2_2 g2_6))
       go_ret
       exact ⟨rfl,HB.out.chain K4.out⟩
     | true =>
       go_enter Tryz.func157,Tryz.ntmps157
       simp only [e4]
       clear e4 hT
       go_wp2_with (first
        | (go_at_call 154;rw [← hW1];clear hW1;((with_reducible refine (HQ0.out _ (HB.out.chain K1.out)).mono ?_);rintro e w2 ⟨rfl,hb⟩);have K2:=Lib.hid (K1.out.chain hb);clear hb;clear z0 z1 z2 z3 z4 z5 z6;obtain ⟨g1_0,g1_1,g1_2,-,-,g1_5,-⟩:=HF.out _ K2.out)
        | (go_at_call 155;((with_reducible refine (HQ1.out _ (HB.out.chain K2.out)).mono ?_);rintro e w3 ⟨rfl,hb⟩);have K3:=Lib.hid (K2.out.chain hb);clear hb;clear g1_0 g1_1 g1_2 g1_5;obtain ⟨g2_0,g2_1,g2_2,-,-,-,g2_6⟩:=HF.out _ K3.out)
        | (go_at_call 155;((with_reducible refine (HQ2.out _ (HB.out.chain K3.out)).mono ?_);rintro e w4 ⟨rfl,hb⟩);have K4:=Lib.hid (K3.out.chain hb);clear hb;clear g2_0 g2_1 g2_2 g2_6))
       go_ret
       exact ⟨rfl,HB.out.chain K4.out⟩
theorem contract_any (d : PAd) (x : Pr) (w : World) (own : PrOwn w w.heap.size d x) :
 Calls Tryz.prog 157 #[rulesV 125 1048576 8,.agg (prCs d x)] w fun e w' => e = .returned (.bool (vCt x.ct x.lg x.rq x.es)) ∧ Below w.heap.size w w':=by
 obtain ⟨⟨b0,b1,b2,b3,b4,b5,b6,b7,b8⟩,r0,r1,r2,r3,r4,r5⟩:=own
 obtain ⟨nm,ln,co,ps,lg,rt,rn,ct,rq,es,lo,bd⟩:=x
 cases ct with
 | false =>
   exact ct_false _ rfl lg.length rq.length es.length d.g d.r d.e d.ng d.nr d.ne b2 b5 b6 w rfl rfl rfl rfl
 | true =>
   exact ct_true _ rfl _ _ _ (vPs lg) (vDj rq) (vDj es) w rfl rfl rfl rfl (fun W hb => params_any lg d.g d.ng W b2 (r1.on pm_keeps hb)) (fun W hb => disj_any rq d.r d.nr W b5 (r2.on fm_keeps hb)) (fun W hb => disj_any es d.e d.ne W b6 (r3.on fm_keeps hb))
theorem pr_core (cs : Array Value) (hcs : cs.size = 12) (nm rt rn : List UInt8) (ln co : Int) (x3 x10 x11 : Value) (v0 v1 v2 v3 v4 v5 v6 vr : Bool) (hvr0 : vr = ((rt.isEmpty && rn.isEmpty) || v3)) (w : World)
 (kx0 : cs[0]? = some (.string ⟨nm.toArray⟩)) (kx1 : cs[1]? = some (.int .i64 ln)) (kx2 : cs[2]? = some (.int .i64 co)) (kx3 : cs[3]? = some (x3)) (kx5 : cs[5]? = some (.string ⟨rt.toArray⟩)) (kx6 : cs[6]? = some (.string ⟨rn.toArray⟩)) (kx10 : cs[10]? = some (x10)) (kx11 : cs[11]? = some (x11))
 (hq0 : BC w 125 #[.string ⟨nm.toArray⟩] v0)
 (hq1 : BC w 156 #[posV ln co] v1)
 (hq2 : BC w 154 #[rulesV 125 1048576 8,x3] v2)
 (hq3 : BC w 107 #[rulesV 125 1048576 8,paramV ⟨rt.toArray⟩ ⟨rn.toArray⟩] v3)
 (hq4 : BC w 157 #[rulesV 125 1048576 8,.agg cs] v4)
 (hq5 : BC w 106 #[x10,.int .i64 0,.int .i64 100,.func (.func 107) #[rulesV 125 1048576 8] #[]] v5)
 (hq6 : BC w 158 #[rulesV 125 1048576 8,x11] v6) :
 Calls Tryz.prog 135 #[rulesV 125 1048576 8,.agg cs] w fun e w' => e = .returned (.bool (v0 && v1 && v2 && vr && v4 && v5 && v6)) ∧ Below w.heap.size w w':=by
 obtain ⟨T,N,hT,hN,hag,hsz⟩:=hid_ProcD
 have e4 : ∀ y : Operand,Op.box 46 y = Op.box T y:=fun y => by rw [hT]
 have e1 : ∀ y : Operand,Op.load 46 y = Op.load T y:=fun y => by rw [hT]
 have hszc : cs.size = N:=hcs.trans hN.symm
 have HQ0:=Lib.hid hq0
 have HQ1:=Lib.hid hq1
 have HQ2:=Lib.hid hq2
 have HQ3:=Lib.hid hq3
 have HQ4:=Lib.hid hq4
 have HQ5:=Lib.hid hq5
 have HQ6:=Lib.hid hq6
 obtain ⟨W1,hW1⟩ : ∃ W1,W1 = (w.alloc (rulesC 125 1048576 8)).alloc (.cells cs T):=⟨_,rfl⟩
 have HB : Hid (Below w.heap.size w W1):=Lib.hid (by rw [hW1];exact (below_alloc w _).chain (below_alloc _ _))
 have p1:=heap_keep (o:=.cells cs T) (heap_of_alloc w (rulesC 125 1048576 8))
 have p2:=heap_of_alloc (w.alloc (rulesC 125 1048576 8)) (.cells cs T)
 rw [size_of_alloc] at p2
 rw [← hW1] at p1 p2
 have HF : Hid (∀ W,Below W1.heap.size W1 W → W.cell? ⟨w.heap.size,0,none⟩ = some (.func (.func 125) #[] #[]) ∧ W.cell? ⟨w.heap.size,1,none⟩ = some (.int .i64 1048576) ∧ W.cell? ⟨w.heap.size,2,none⟩ = some (.int .i64 8) ∧ W.cell? ⟨w.heap.size + 1,0,none⟩ = some (.string ⟨nm.toArray⟩) ∧ W.cell? ⟨w.heap.size + 1,1,none⟩ = some (.int .i64 ln) ∧ W.cell? ⟨w.heap.size + 1,2,none⟩ = some (.int .i64 co) ∧ W.cell? ⟨w.heap.size + 1,3,none⟩ = some (x3) ∧ W.cell? ⟨w.heap.size + 1,5,none⟩ = some (.string ⟨rt.toArray⟩) ∧ W.cell? ⟨w.heap.size + 1,6,none⟩ = some (.string ⟨rn.toArray⟩) ∧ W.cell? ⟨w.heap.size + 1,10,none⟩ = some (x10) ∧ W.cell? ⟨w.heap.size + 1,11,none⟩ = some (x11) ∧ (loadCellsFrom ⟨w.heap.size + 1,0,none⟩ 0 N #[]).run Tryz.prog W = .ok cs W) :=
  Lib.hid (fun W hb => ⟨cell_of_block (kept_box hb p1) 0 rfl,cell_of_block (kept_box hb p1) 1 rfl,cell_of_block (kept_box hb p1) 2 rfl,cell_of_block (kept_box hb p2) 0 kx0,cell_of_block (kept_box hb p2) 1 kx1,cell_of_block (kept_box hb p2) 2 kx2,cell_of_block (kept_box hb p2) 3 kx3,cell_of_block (kept_box hb p2) 5 kx5,cell_of_block (kept_box hb p2) 6 kx6,cell_of_block (kept_box hb p2) 10 kx10,cell_of_block (kept_box hb p2) 11 kx11,load_list (fun j v hv => by rw [add_block0];exact cell_of_block (kept_box hb p2) j hv) hszc⟩)
 have K1:=Lib.hid (Below.refl W1.heap.size W1)
 have hF0:=HF.out _ K1.out
 rw [hW1] at hF0
 obtain ⟨z0,z1,z2,z3,z4,z5,z6,z7,z8,z9,z10,z11⟩:=hF0
 clear z11
 clear hq0 hq1 hq2 hq3 hq4 hq5 hq6 hN p1 p2 hcs kx0 kx1 kx2 kx3 kx5 kx6 kx10 kx11
 try unfold maxLen at *
 have HVR:=Lib.hid hvr0
 clear hvr0
 cases v0 with
 | false =>
   go_enter Tryz.func135,Tryz.ntmps135
   simp only [e4,e1]
   clear e4 e1 hT
   go_wp2_with (go_at_call 125;rw [← hW1];clear hW1;((with_reducible refine (HQ0.out _ (HB.out.chain K1.out)).mono ?_);rintro e w2 ⟨rfl,hb⟩);have K2:=Lib.hid (K1.out.chain hb);clear hb;clear z0 z1 z2 z3 z4 z5 z6 z7 z8 z9 z10)
   go_ret
   exact ⟨rfl,HB.out.chain K2.out⟩
 | true =>
   cases v1 with
   | false =>
     go_enter Tryz.func135,Tryz.ntmps135
     simp only [e4,e1]
     clear e4 e1 hT
     go_wp2_with (first
      | (go_at_call 125;rw [← hW1];clear hW1;((with_reducible refine (HQ0.out _ (HB.out.chain K1.out)).mono ?_);rintro e w2 ⟨rfl,hb⟩);have K2:=Lib.hid (K1.out.chain hb);clear hb;clear z0 z1 z2 z3 z4 z5 z6 z7 z8 z9 z10;obtain ⟨-,-,-,-,g1_4,g1_5,-,-,-,-,-,-⟩:=HF.out _ K2.out)
      | (go_at_call 156;((with_reducible refine (HQ1.out _ (HB.out.chain K2.out)).mono ?_);rintro e w3 ⟨rfl,hb⟩);have K3:=Lib.hid (K2.out.chain hb);clear hb;clear g1_4 g1_5))
     go_ret
     exact ⟨rfl,HB.out.chain K3.out⟩
   | true =>
     cases v2 with
     | false =>
       go_enter Tryz.func135,Tryz.ntmps135
       simp only [e4,e1]
       clear e4 e1 hT
       go_wp2_with (first
        | (go_at_call 125;rw [← hW1];clear hW1;((with_reducible refine (HQ0.out _ (HB.out.chain K1.out)).mono ?_);rintro e w2 ⟨rfl,hb⟩);have K2:=Lib.hid (K1.out.chain hb);clear hb;clear z0 z1 z2 z3 z4 z5 z6 z7 z8 z9 z10;obtain ⟨-,-,-,-,g1_4,g1_5,-,-,-,-,-,-⟩:=HF.out _ K2.out)
        | (go_at_call 156;((with_reducible refine (HQ1.out _ (HB.out.chain K2.out)).mono ?_);rintro e w3 ⟨rfl,hb⟩);have K3:=Lib.hid (K2.out.chain hb);clear hb;clear g1_4 g1_5;obtain ⟨g2_0,g2_1,g2_2,-,-,-,g2_6,-,-,-,-,-⟩:=HF.out _ K3.out)
        | (go_at_call 154;((with_reducible refine (HQ2.out _ (HB.out.chain K3.out)).mono ?_);rintro e w4 ⟨rfl,hb⟩);have K4:=Lib.hid (K3.out.chain hb);clear hb;clear g2_0 g2_1 g2_2 g2_6))
       go_ret
       exact ⟨rfl,HB.out.chain K4.out⟩
     | true =>
       rcases rt with _ | ⟨x,rt⟩
       ·rcases rn with _ | ⟨y,rn⟩
        ·have hvr : vr = true:=HVR.out
         subst hvr
         cases v4 with
         | false =>
           go_enter Tryz.func135,Tryz.ntmps135
           simp only [e4,e1]
           clear e4 e1 hT
           go_wp2_with (first
            | (go_at_call 125;rw [← hW1];clear hW1;((with_reducible refine (HQ0.out _ (HB.out.chain K1.out)).mono ?_);rintro e w2 ⟨rfl,hb⟩);have K2:=Lib.hid (K1.out.chain hb);clear hb;clear z0 z1 z2 z3 z4 z5 z6 z7 z8 z9 z10;obtain ⟨-,-,-,-,g1_4,g1_5,-,-,-,-,-,-⟩:=HF.out _ K2.out)
            | (go_at_call 156;((with_reducible refine (HQ1.out _ (HB.out.chain K2.out)).mono ?_);rintro e w3 ⟨rfl,hb⟩);have K3:=Lib.hid (K2.out.chain hb);clear hb;clear g1_4 g1_5;obtain ⟨g2_0,g2_1,g2_2,-,-,-,g2_6,-,-,-,-,-⟩:=HF.out _ K3.out)
            | (go_at_call 154;((with_reducible refine (HQ2.out _ (HB.out.chain K3.out)).mono ?_);rintro e w4 ⟨rfl,hb⟩);have K4:=Lib.hid (K3.out.chain hb);clear hb;clear g2_0 g2_1 g2_2 g2_6;obtain ⟨g3_0,g3_1,g3_2,-,-,-,-,g3_7,g3_8,-,-,g3_11⟩:=HF.out _ K4.out)
            | (go_at_call 157;((with_reducible refine (HQ4.out _ (HB.out.chain K4.out)).mono ?_);rintro e w5 ⟨rfl,hb⟩);have K5:=Lib.hid (K4.out.chain hb);clear hb;clear g3_0 g3_1 g3_2 g3_7 g3_8 g3_11))
           go_ret
           exact ⟨rfl,HB.out.chain K5.out⟩
         | true =>
           cases v5 with
           | false =>
             go_enter Tryz.func135,Tryz.ntmps135
             simp only [e4,e1]
             clear e4 e1 hT
             go_wp2_with (first
              | (go_at_call 125;rw [← hW1];clear hW1;((with_reducible refine (HQ0.out _ (HB.out.chain K1.out)).mono ?_);rintro e w2 ⟨rfl,hb⟩);have K2:=Lib.hid (K1.out.chain hb);clear hb;clear z0 z1 z2 z3 z4 z5 z6 z7 z8 z9 z10;obtain ⟨-,-,-,-,g1_4,g1_5,-,-,-,-,-,-⟩:=HF.out _ K2.out)
              | (go_at_call 156;((with_reducible refine (HQ1.out _ (HB.out.chain K2.out)).mono ?_);rintro e w3 ⟨rfl,hb⟩);have K3:=Lib.hid (K2.out.chain hb);clear hb;clear g1_4 g1_5;obtain ⟨g2_0,g2_1,g2_2,-,-,-,g2_6,-,-,-,-,-⟩:=HF.out _ K3.out)
              | (go_at_call 154;((with_reducible refine (HQ2.out _ (HB.out.chain K3.out)).mono ?_);rintro e w4 ⟨rfl,hb⟩);have K4:=Lib.hid (K3.out.chain hb);clear hb;clear g2_0 g2_1 g2_2 g2_6;obtain ⟨g3_0,g3_1,g3_2,-,-,-,-,g3_7,g3_8,-,-,g3_11⟩:=HF.out _ K4.out)
              | (go_at_call 157;((with_reducible refine (HQ4.out _ (HB.out.chain K4.out)).mono ?_);rintro e w5 ⟨rfl,hb⟩);have K5:=Lib.hid (K4.out.chain hb);clear hb;clear g3_0 g3_1 g3_2 g3_7 g3_8 g3_11;obtain ⟨g4_0,g4_1,g4_2,-,-,-,-,-,-,g4_9,-,-⟩:=HF.out _ K5.out)
              | (go_at_call 106;((with_reducible refine (HQ5.out _ (HB.out.chain K5.out)).mono ?_);rintro e w6 ⟨rfl,hb⟩);have K6:=Lib.hid (K5.out.chain hb);clear hb;clear g4_0 g4_1 g4_2 g4_9))
             go_ret
             exact ⟨rfl,HB.out.chain K6.out⟩
           | true =>
             cases v6 with
             | false =>
               go_enter Tryz.func135,Tryz.ntmps135
               simp only [e4,e1]
               clear e4 e1 hT
               go_wp2_with (first
                | (go_at_call 125;rw [← hW1];clear hW1;((with_reducible refine (HQ0.out _ (HB.out.chain K1.out)).mono ?_);rintro e w2 ⟨rfl,hb⟩);have K2:=Lib.hid (K1.out.chain hb);clear hb;clear z0 z1 z2 z3 z4 z5 z6 z7 z8 z9 z10;obtain ⟨-,-,-,-,g1_4,g1_5,-,-,-,-,-,-⟩:=HF.out _ K2.out)
                | (go_at_call 156;((with_reducible refine (HQ1.out _ (HB.out.chain K2.out)).mono ?_);rintro e w3 ⟨rfl,hb⟩);have K3:=Lib.hid (K2.out.chain hb);clear hb;clear g1_4 g1_5;obtain ⟨g2_0,g2_1,g2_2,-,-,-,g2_6,-,-,-,-,-⟩:=HF.out _ K3.out)
                | (go_at_call 154;((with_reducible refine (HQ2.out _ (HB.out.chain K3.out)).mono ?_);rintro e w4 ⟨rfl,hb⟩);have K4:=Lib.hid (K3.out.chain hb);clear hb;clear g2_0 g2_1 g2_2 g2_6;obtain ⟨g3_0,g3_1,g3_2,-,-,-,-,g3_7,g3_8,-,-,g3_11⟩:=HF.out _ K4.out)
                | (go_at_call 157;((with_reducible refine (HQ4.out _ (HB.out.chain K4.out)).mono ?_);rintro e w5 ⟨rfl,hb⟩);have K5:=Lib.hid (K4.out.chain hb);clear hb;clear g3_0 g3_1 g3_2 g3_7 g3_8 g3_11;obtain ⟨g4_0,g4_1,g4_2,-,-,-,-,-,-,g4_9,-,-⟩:=HF.out _ K5.out)
                | (go_at_call 106;((with_reducible refine (HQ5.out _ (HB.out.chain K5.out)).mono ?_);rintro e w6 ⟨rfl,hb⟩);have K6:=Lib.hid (K5.out.chain hb);clear hb;clear g4_0 g4_1 g4_2 g4_9;obtain ⟨g5_0,g5_1,g5_2,-,-,-,-,-,-,-,g5_10,-⟩:=HF.out _ K6.out)
                | (go_at_call 158;((with_reducible refine (HQ6.out _ (HB.out.chain K6.out)).mono ?_);rintro e w7 ⟨rfl,hb⟩);have K7:=Lib.hid (K6.out.chain hb);clear hb;clear g5_0 g5_1 g5_2 g5_10))
               go_ret
               exact ⟨rfl,HB.out.chain K7.out⟩
             | true =>
               go_enter Tryz.func135,Tryz.ntmps135
               simp only [e4,e1]
               clear e4 e1 hT
               go_wp2_with (first
                | (go_at_call 125;rw [← hW1];clear hW1;((with_reducible refine (HQ0.out _ (HB.out.chain K1.out)).mono ?_);rintro e w2 ⟨rfl,hb⟩);have K2:=Lib.hid (K1.out.chain hb);clear hb;clear z0 z1 z2 z3 z4 z5 z6 z7 z8 z9 z10;obtain ⟨-,-,-,-,g1_4,g1_5,-,-,-,-,-,-⟩:=HF.out _ K2.out)
                | (go_at_call 156;((with_reducible refine (HQ1.out _ (HB.out.chain K2.out)).mono ?_);rintro e w3 ⟨rfl,hb⟩);have K3:=Lib.hid (K2.out.chain hb);clear hb;clear g1_4 g1_5;obtain ⟨g2_0,g2_1,g2_2,-,-,-,g2_6,-,-,-,-,-⟩:=HF.out _ K3.out)
                | (go_at_call 154;((with_reducible refine (HQ2.out _ (HB.out.chain K3.out)).mono ?_);rintro e w4 ⟨rfl,hb⟩);have K4:=Lib.hid (K3.out.chain hb);clear hb;clear g2_0 g2_1 g2_2 g2_6;obtain ⟨g3_0,g3_1,g3_2,-,-,-,-,g3_7,g3_8,-,-,g3_11⟩:=HF.out _ K4.out)
                | (go_at_call 157;((with_reducible refine (HQ4.out _ (HB.out.chain K4.out)).mono ?_);rintro e w5 ⟨rfl,hb⟩);have K5:=Lib.hid (K4.out.chain hb);clear hb;clear g3_0 g3_1 g3_2 g3_7 g3_8 g3_11;obtain ⟨g4_0,g4_1,g4_2,-,-,-,-,-,-,g4_9,-,-⟩:=HF.out _ K5.out)
                | (go_at_call 106;((with_reducible refine (HQ5.out _ (HB.out.chain K5.out)).mono ?_);rintro e w6 ⟨rfl,hb⟩);have K6:=Lib.hid (K5.out.chain hb);clear hb;clear g4_0 g4_1 g4_2 g4_9;obtain ⟨g5_0,g5_1,g5_2,-,-,-,-,-,-,-,g5_10,-⟩:=HF.out _ K6.out)
                | (go_at_call 158;((with_reducible refine (HQ6.out _ (HB.out.chain K6.out)).mono ?_);rintro e w7 ⟨rfl,hb⟩);have K7:=Lib.hid (K6.out.chain hb);clear hb;clear g5_0 g5_1 g5_2 g5_10))
               go_ret
               exact ⟨rfl,HB.out.chain K7.out⟩
        ·skip
         have hvr : vr = v3:=HVR.out
         subst hvr
         cases vr with
         | false =>
           go_enter Tryz.func135,Tryz.ntmps135
           simp only [e4,e1]
           clear e4 e1 hT
           go_wp2_with (first
            | (go_at_call 125;rw [← hW1];clear hW1;((with_reducible refine (HQ0.out _ (HB.out.chain K1.out)).mono ?_);rintro e w2 ⟨rfl,hb⟩);have K2:=Lib.hid (K1.out.chain hb);clear hb;clear z0 z1 z2 z3 z4 z5 z6 z7 z8 z9 z10;obtain ⟨-,-,-,-,g1_4,g1_5,-,-,-,-,-,-⟩:=HF.out _ K2.out)
            | (go_at_call 156;((with_reducible refine (HQ1.out _ (HB.out.chain K2.out)).mono ?_);rintro e w3 ⟨rfl,hb⟩);have K3:=Lib.hid (K2.out.chain hb);clear hb;clear g1_4 g1_5;obtain ⟨g2_0,g2_1,g2_2,-,-,-,g2_6,-,-,-,-,-⟩:=HF.out _ K3.out)
            | (go_at_call 154;((with_reducible refine (HQ2.out _ (HB.out.chain K3.out)).mono ?_);rintro e w4 ⟨rfl,hb⟩);have K4:=Lib.hid (K3.out.chain hb);clear hb;clear g2_0 g2_1 g2_2 g2_6;obtain ⟨g3_0,g3_1,g3_2,-,-,-,-,g3_7,g3_8,-,-,-⟩:=HF.out _ K4.out)
            | (go_at_call 107;((with_reducible refine (HQ3.out _ (HB.out.chain K4.out)).mono ?_);rintro e w5 ⟨rfl,hb⟩);have K5:=Lib.hid (K4.out.chain hb);clear hb;clear g3_0 g3_1 g3_2 g3_7 g3_8))
           go_ret
           exact ⟨rfl,HB.out.chain K5.out⟩
         | true =>
           cases v4 with
           | false =>
             go_enter Tryz.func135,Tryz.ntmps135
             simp only [e4,e1]
             clear e4 e1 hT
             go_wp2_with (first
              | (go_at_call 125;rw [← hW1];clear hW1;((with_reducible refine (HQ0.out _ (HB.out.chain K1.out)).mono ?_);rintro e w2 ⟨rfl,hb⟩);have K2:=Lib.hid (K1.out.chain hb);clear hb;clear z0 z1 z2 z3 z4 z5 z6 z7 z8 z9 z10;obtain ⟨-,-,-,-,g1_4,g1_5,-,-,-,-,-,-⟩:=HF.out _ K2.out)
              | (go_at_call 156;((with_reducible refine (HQ1.out _ (HB.out.chain K2.out)).mono ?_);rintro e w3 ⟨rfl,hb⟩);have K3:=Lib.hid (K2.out.chain hb);clear hb;clear g1_4 g1_5;obtain ⟨g2_0,g2_1,g2_2,-,-,-,g2_6,-,-,-,-,-⟩:=HF.out _ K3.out)
              | (go_at_call 154;((with_reducible refine (HQ2.out _ (HB.out.chain K3.out)).mono ?_);rintro e w4 ⟨rfl,hb⟩);have K4:=Lib.hid (K3.out.chain hb);clear hb;clear g2_0 g2_1 g2_2 g2_6;obtain ⟨g3_0,g3_1,g3_2,-,-,-,-,g3_7,g3_8,-,-,-⟩:=HF.out _ K4.out)
              | (go_at_call 107;((with_reducible refine (HQ3.out _ (HB.out.chain K4.out)).mono ?_);rintro e w5 ⟨rfl,hb⟩);have K5:=Lib.hid (K4.out.chain hb);clear hb;clear g3_0 g3_1 g3_2 g3_7 g3_8;obtain ⟨g4_0,g4_1,g4_2,-,-,-,-,-,-,-,-,g4_11⟩:=HF.out _ K5.out)
              | (go_at_call 157;((with_reducible refine (HQ4.out _ (HB.out.chain K5.out)).mono ?_);rintro e w6 ⟨rfl,hb⟩);have K6:=Lib.hid (K5.out.chain hb);clear hb;clear g4_0 g4_1 g4_2 g4_11))
             go_ret
             exact ⟨rfl,HB.out.chain K6.out⟩
           | true =>
             cases v5 with
             | false =>
               go_enter Tryz.func135,Tryz.ntmps135
               simp only [e4,e1]
               clear e4 e1 hT
               go_wp2_with (first
                | (go_at_call 125;rw [← hW1];clear hW1;((with_reducible refine (HQ0.out _ (HB.out.chain K1.out)).mono ?_);rintro e w2 ⟨rfl,hb⟩);have K2:=Lib.hid (K1.out.chain hb);clear hb;clear z0 z1 z2 z3 z4 z5 z6 z7 z8 z9 z10;obtain ⟨-,-,-,-,g1_4,g1_5,-,-,-,-,-,-⟩:=HF.out _ K2.out)
                | (go_at_call 156;((with_reducible refine (HQ1.out _ (HB.out.chain K2.out)).mono ?_);rintro e w3 ⟨rfl,hb⟩);have K3:=Lib.hid (K2.out.chain hb);clear hb;clear g1_4 g1_5;obtain ⟨g2_0,g2_1,g2_2,-,-,-,g2_6,-,-,-,-,-⟩:=HF.out _ K3.out)
                | (go_at_call 154;((with_reducible refine (HQ2.out _ (HB.out.chain K3.out)).mono ?_);rintro e w4 ⟨rfl,hb⟩);have K4:=Lib.hid (K3.out.chain hb);clear hb;clear g2_0 g2_1 g2_2 g2_6;obtain ⟨g3_0,g3_1,g3_2,-,-,-,-,g3_7,g3_8,-,-,-⟩:=HF.out _ K4.out)
                | (go_at_call 107;((with_reducible refine (HQ3.out _ (HB.out.chain K4.out)).mono ?_);rintro e w5 ⟨rfl,hb⟩);have K5:=Lib.hid (K4.out.chain hb);clear hb;clear g3_0 g3_1 g3_2 g3_7 g3_8;obtain ⟨g4_0,g4_1,g4_2,-,-,-,-,-,-,-,-,g4_11⟩:=HF.out _ K5.out)
                | (go_at_call 157;((with_reducible refine (HQ4.out _ (HB.out.chain K5.out)).mono ?_);rintro e w6 ⟨rfl,hb⟩);have K6:=Lib.hid (K5.out.chain hb);clear hb;clear g4_0 g4_1 g4_2 g4_11;obtain ⟨g5_0,g5_1,g5_2,-,-,-,-,-,-,g5_9,-,-⟩:=HF.out _ K6.out)
                | (go_at_call 106;((with_reducible refine (HQ5.out _ (HB.out.chain K6.out)).mono ?_);rintro e w7 ⟨rfl,hb⟩);have K7:=Lib.hid (K6.out.chain hb);clear hb;clear g5_0 g5_1 g5_2 g5_9))
               go_ret
               exact ⟨rfl,HB.out.chain K7.out⟩
             | true =>
               cases v6 with
               | false =>
                 go_enter Tryz.func135,Tryz.ntmps135
                 simp only [e4,e1]
                 clear e4 e1 hT
                 go_wp2_with (first
                  | (go_at_call 125;rw [← hW1];clear hW1;((with_reducible refine (HQ0.out _ (HB.out.chain K1.out)).mono ?_);rintro e w2 ⟨rfl,hb⟩);have K2:=Lib.hid (K1.out.chain hb);clear hb;clear z0 z1 z2 z3 z4 z5 z6 z7 z8 z9 z10;obtain ⟨-,-,-,-,g1_4,g1_5,-,-,-,-,-,-⟩:=HF.out _ K2.out)
                  | (go_at_call 156;((with_reducible refine (HQ1.out _ (HB.out.chain K2.out)).mono ?_);rintro e w3 ⟨rfl,hb⟩);have K3:=Lib.hid (K2.out.chain hb);clear hb;clear g1_4 g1_5;obtain ⟨g2_0,g2_1,g2_2,-,-,-,g2_6,-,-,-,-,-⟩:=HF.out _ K3.out)
                  | (go_at_call 154;((with_reducible refine (HQ2.out _ (HB.out.chain K3.out)).mono ?_);rintro e w4 ⟨rfl,hb⟩);have K4:=Lib.hid (K3.out.chain hb);clear hb;clear g2_0 g2_1 g2_2 g2_6;obtain ⟨g3_0,g3_1,g3_2,-,-,-,-,g3_7,g3_8,-,-,-⟩:=HF.out _ K4.out)
                  | (go_at_call 107;((with_reducible refine (HQ3.out _ (HB.out.chain K4.out)).mono ?_);rintro e w5 ⟨rfl,hb⟩);have K5:=Lib.hid (K4.out.chain hb);clear hb;clear g3_0 g3_1 g3_2 g3_7 g3_8;obtain ⟨g4_0,g4_1,g4_2,-,-,-,-,-,-,-,-,g4_11⟩:=HF.out _ K5.out)
                  | (go_at_call 157;((with_reducible refine (HQ4.out _ (HB.out.chain K5.out)).mono ?_);rintro e w6 ⟨rfl,hb⟩);have K6:=Lib.hid (K5.out.chain hb);clear hb;clear g4_0 g4_1 g4_2 g4_11;obtain ⟨g5_0,g5_1,g5_2,-,-,-,-,-,-,g5_9,-,-⟩:=HF.out _ K6.out)
                  | (go_at_call 106;((with_reducible refine (HQ5.out _ (HB.out.chain K6.out)).mono ?_);rintro e w7 ⟨rfl,hb⟩);have K7:=Lib.hid (K6.out.chain hb);clear hb;clear g5_0 g5_1 g5_2 g5_9;obtain ⟨g6_0,g6_1,g6_2,-,-,-,-,-,-,-,g6_10,-⟩:=HF.out _ K7.out)
                  | (go_at_call 158;((with_reducible refine (HQ6.out _ (HB.out.chain K7.out)).mono ?_);rintro e w8 ⟨rfl,hb⟩);have K8:=Lib.hid (K7.out.chain hb);clear hb;clear g6_0 g6_1 g6_2 g6_10))
                 go_ret
                 exact ⟨rfl,HB.out.chain K8.out⟩
               | true =>
                 go_enter Tryz.func135,Tryz.ntmps135
                 simp only [e4,e1]
                 clear e4 e1 hT
                 go_wp2_with (first
                  | (go_at_call 125;rw [← hW1];clear hW1;((with_reducible refine (HQ0.out _ (HB.out.chain K1.out)).mono ?_);rintro e w2 ⟨rfl,hb⟩);have K2:=Lib.hid (K1.out.chain hb);clear hb;clear z0 z1 z2 z3 z4 z5 z6 z7 z8 z9 z10;obtain ⟨-,-,-,-,g1_4,g1_5,-,-,-,-,-,-⟩:=HF.out _ K2.out)
                  | (go_at_call 156;((with_reducible refine (HQ1.out _ (HB.out.chain K2.out)).mono ?_);rintro e w3 ⟨rfl,hb⟩);have K3:=Lib.hid (K2.out.chain hb);clear hb;clear g1_4 g1_5;obtain ⟨g2_0,g2_1,g2_2,-,-,-,g2_6,-,-,-,-,-⟩:=HF.out _ K3.out)
                  | (go_at_call 154;((with_reducible refine (HQ2.out _ (HB.out.chain K3.out)).mono ?_);rintro e w4 ⟨rfl,hb⟩);have K4:=Lib.hid (K3.out.chain hb);clear hb;clear g2_0 g2_1 g2_2 g2_6;obtain ⟨g3_0,g3_1,g3_2,-,-,-,-,g3_7,g3_8,-,-,-⟩:=HF.out _ K4.out)
                  | (go_at_call 107;((with_reducible refine (HQ3.out _ (HB.out.chain K4.out)).mono ?_);rintro e w5 ⟨rfl,hb⟩);have K5:=Lib.hid (K4.out.chain hb);clear hb;clear g3_0 g3_1 g3_2 g3_7 g3_8;obtain ⟨g4_0,g4_1,g4_2,-,-,-,-,-,-,-,-,g4_11⟩:=HF.out _ K5.out)
                  | (go_at_call 157;((with_reducible refine (HQ4.out _ (HB.out.chain K5.out)).mono ?_);rintro e w6 ⟨rfl,hb⟩);have K6:=Lib.hid (K5.out.chain hb);clear hb;clear g4_0 g4_1 g4_2 g4_11;obtain ⟨g5_0,g5_1,g5_2,-,-,-,-,-,-,g5_9,-,-⟩:=HF.out _ K6.out)
                  | (go_at_call 106;((with_reducible refine (HQ5.out _ (HB.out.chain K6.out)).mono ?_);rintro e w7 ⟨rfl,hb⟩);have K7:=Lib.hid (K6.out.chain hb);clear hb;clear g5_0 g5_1 g5_2 g5_9;obtain ⟨g6_0,g6_1,g6_2,-,-,-,-,-,-,-,g6_10,-⟩:=HF.out _ K7.out)
                  | (go_at_call 158;((with_reducible refine (HQ6.out _ (HB.out.chain K7.out)).mono ?_);rintro e w8 ⟨rfl,hb⟩);have K8:=Lib.hid (K7.out.chain hb);clear hb;clear g6_0 g6_1 g6_2 g6_10))
                 go_ret
                 exact ⟨rfl,HB.out.chain K8.out⟩
       ·skip
        have hvr : vr = v3:=HVR.out
        subst hvr
        cases vr with
        | false =>
          go_enter Tryz.func135,Tryz.ntmps135
          simp only [e4,e1]
          clear e4 e1 hT
          go_wp2_with (first
           | (go_at_call 125;rw [← hW1];clear hW1;((with_reducible refine (HQ0.out _ (HB.out.chain K1.out)).mono ?_);rintro e w2 ⟨rfl,hb⟩);have K2:=Lib.hid (K1.out.chain hb);clear hb;clear z0 z1 z2 z3 z4 z5 z6 z7 z8 z9 z10;obtain ⟨-,-,-,-,g1_4,g1_5,-,-,-,-,-,-⟩:=HF.out _ K2.out)
           | (go_at_call 156;((with_reducible refine (HQ1.out _ (HB.out.chain K2.out)).mono ?_);rintro e w3 ⟨rfl,hb⟩);have K3:=Lib.hid (K2.out.chain hb);clear hb;clear g1_4 g1_5;obtain ⟨g2_0,g2_1,g2_2,-,-,-,g2_6,-,-,-,-,-⟩:=HF.out _ K3.out)
           | (go_at_call 154;((with_reducible refine (HQ2.out _ (HB.out.chain K3.out)).mono ?_);rintro e w4 ⟨rfl,hb⟩);have K4:=Lib.hid (K3.out.chain hb);clear hb;clear g2_0 g2_1 g2_2 g2_6;obtain ⟨g3_0,g3_1,g3_2,-,-,-,-,g3_7,g3_8,-,-,-⟩:=HF.out _ K4.out)
           | (go_at_call 107;((with_reducible refine (HQ3.out _ (HB.out.chain K4.out)).mono ?_);rintro e w5 ⟨rfl,hb⟩);have K5:=Lib.hid (K4.out.chain hb);clear hb;clear g3_0 g3_1 g3_2 g3_7 g3_8))
          go_ret
          exact ⟨rfl,HB.out.chain K5.out⟩
        | true =>
          cases v4 with
          | false =>
            go_enter Tryz.func135,Tryz.ntmps135
            simp only [e4,e1]
            clear e4 e1 hT
            go_wp2_with (first
             | (go_at_call 125;rw [← hW1];clear hW1;((with_reducible refine (HQ0.out _ (HB.out.chain K1.out)).mono ?_);rintro e w2 ⟨rfl,hb⟩);have K2:=Lib.hid (K1.out.chain hb);clear hb;clear z0 z1 z2 z3 z4 z5 z6 z7 z8 z9 z10;obtain ⟨-,-,-,-,g1_4,g1_5,-,-,-,-,-,-⟩:=HF.out _ K2.out)
             | (go_at_call 156;((with_reducible refine (HQ1.out _ (HB.out.chain K2.out)).mono ?_);rintro e w3 ⟨rfl,hb⟩);have K3:=Lib.hid (K2.out.chain hb);clear hb;clear g1_4 g1_5;obtain ⟨g2_0,g2_1,g2_2,-,-,-,g2_6,-,-,-,-,-⟩:=HF.out _ K3.out)
             | (go_at_call 154;((with_reducible refine (HQ2.out _ (HB.out.chain K3.out)).mono ?_);rintro e w4 ⟨rfl,hb⟩);have K4:=Lib.hid (K3.out.chain hb);clear hb;clear g2_0 g2_1 g2_2 g2_6;obtain ⟨g3_0,g3_1,g3_2,-,-,-,-,g3_7,g3_8,-,-,-⟩:=HF.out _ K4.out)
             | (go_at_call 107;((with_reducible refine (HQ3.out _ (HB.out.chain K4.out)).mono ?_);rintro e w5 ⟨rfl,hb⟩);have K5:=Lib.hid (K4.out.chain hb);clear hb;clear g3_0 g3_1 g3_2 g3_7 g3_8;obtain ⟨g4_0,g4_1,g4_2,-,-,-,-,-,-,-,-,g4_11⟩:=HF.out _ K5.out)
             | (go_at_call 157;((with_reducible refine (HQ4.out _ (HB.out.chain K5.out)).mono ?_);rintro e w6 ⟨rfl,hb⟩);have K6:=Lib.hid (K5.out.chain hb);clear hb;clear g4_0 g4_1 g4_2 g4_11))
            go_ret
            exact ⟨rfl,HB.out.chain K6.out⟩
          | true =>
            cases v5 with
            | false =>
              go_enter Tryz.func135,Tryz.ntmps135
              simp only [e4,e1]
              clear e4 e1 hT
              go_wp2_with (first
               | (go_at_call 125;rw [← hW1];clear hW1;((with_reducible refine (HQ0.out _ (HB.out.chain K1.out)).mono ?_);rintro e w2 ⟨rfl,hb⟩);have K2:=Lib.hid (K1.out.chain hb);clear hb;clear z0 z1 z2 z3 z4 z5 z6 z7 z8 z9 z10;obtain ⟨-,-,-,-,g1_4,g1_5,-,-,-,-,-,-⟩:=HF.out _ K2.out)
               | (go_at_call 156;((with_reducible refine (HQ1.out _ (HB.out.chain K2.out)).mono ?_);rintro e w3 ⟨rfl,hb⟩);have K3:=Lib.hid (K2.out.chain hb);clear hb;clear g1_4 g1_5;obtain ⟨g2_0,g2_1,g2_2,-,-,-,g2_6,-,-,-,-,-⟩:=HF.out _ K3.out)
               | (go_at_call 154;((with_reducible refine (HQ2.out _ (HB.out.chain K3.out)).mono ?_);rintro e w4 ⟨rfl,hb⟩);have K4:=Lib.hid (K3.out.chain hb);clear hb;clear g2_0 g2_1 g2_2 g2_6;obtain ⟨g3_0,g3_1,g3_2,-,-,-,-,g3_7,g3_8,-,-,-⟩:=HF.out _ K4.out)
               | (go_at_call 107;((with_reducible refine (HQ3.out _ (HB.out.chain K4.out)).mono ?_);rintro e w5 ⟨rfl,hb⟩);have K5:=Lib.hid (K4.out.chain hb);clear hb;clear g3_0 g3_1 g3_2 g3_7 g3_8;obtain ⟨g4_0,g4_1,g4_2,-,-,-,-,-,-,-,-,g4_11⟩:=HF.out _ K5.out)
               | (go_at_call 157;((with_reducible refine (HQ4.out _ (HB.out.chain K5.out)).mono ?_);rintro e w6 ⟨rfl,hb⟩);have K6:=Lib.hid (K5.out.chain hb);clear hb;clear g4_0 g4_1 g4_2 g4_11;obtain ⟨g5_0,g5_1,g5_2,-,-,-,-,-,-,g5_9,-,-⟩:=HF.out _ K6.out)
               | (go_at_call 106;((with_reducible refine (HQ5.out _ (HB.out.chain K6.out)).mono ?_);rintro e w7 ⟨rfl,hb⟩);have K7:=Lib.hid (K6.out.chain hb);clear hb;clear g5_0 g5_1 g5_2 g5_9))
              go_ret
              exact ⟨rfl,HB.out.chain K7.out⟩
            | true =>
              cases v6 with
              | false =>
                go_enter Tryz.func135,Tryz.ntmps135
                simp only [e4,e1]
                clear e4 e1 hT
                go_wp2_with (first
                 | (go_at_call 125;rw [← hW1];clear hW1;((with_reducible refine (HQ0.out _ (HB.out.chain K1.out)).mono ?_);rintro e w2 ⟨rfl,hb⟩);have K2:=Lib.hid (K1.out.chain hb);clear hb;clear z0 z1 z2 z3 z4 z5 z6 z7 z8 z9 z10;obtain ⟨-,-,-,-,g1_4,g1_5,-,-,-,-,-,-⟩:=HF.out _ K2.out)
                 | (go_at_call 156;((with_reducible refine (HQ1.out _ (HB.out.chain K2.out)).mono ?_);rintro e w3 ⟨rfl,hb⟩);have K3:=Lib.hid (K2.out.chain hb);clear hb;clear g1_4 g1_5;obtain ⟨g2_0,g2_1,g2_2,-,-,-,g2_6,-,-,-,-,-⟩:=HF.out _ K3.out)
                 | (go_at_call 154;((with_reducible refine (HQ2.out _ (HB.out.chain K3.out)).mono ?_);rintro e w4 ⟨rfl,hb⟩);have K4:=Lib.hid (K3.out.chain hb);clear hb;clear g2_0 g2_1 g2_2 g2_6;obtain ⟨g3_0,g3_1,g3_2,-,-,-,-,g3_7,g3_8,-,-,-⟩:=HF.out _ K4.out)
                 | (go_at_call 107;((with_reducible refine (HQ3.out _ (HB.out.chain K4.out)).mono ?_);rintro e w5 ⟨rfl,hb⟩);have K5:=Lib.hid (K4.out.chain hb);clear hb;clear g3_0 g3_1 g3_2 g3_7 g3_8;obtain ⟨g4_0,g4_1,g4_2,-,-,-,-,-,-,-,-,g4_11⟩:=HF.out _ K5.out)
                 | (go_at_call 157;((with_reducible refine (HQ4.out _ (HB.out.chain K5.out)).mono ?_);rintro e w6 ⟨rfl,hb⟩);have K6:=Lib.hid (K5.out.chain hb);clear hb;clear g4_0 g4_1 g4_2 g4_11;obtain ⟨g5_0,g5_1,g5_2,-,-,-,-,-,-,g5_9,-,-⟩:=HF.out _ K6.out)
                 | (go_at_call 106;((with_reducible refine (HQ5.out _ (HB.out.chain K6.out)).mono ?_);rintro e w7 ⟨rfl,hb⟩);have K7:=Lib.hid (K6.out.chain hb);clear hb;clear g5_0 g5_1 g5_2 g5_9;obtain ⟨g6_0,g6_1,g6_2,-,-,-,-,-,-,-,g6_10,-⟩:=HF.out _ K7.out)
                 | (go_at_call 158;((with_reducible refine (HQ6.out _ (HB.out.chain K7.out)).mono ?_);rintro e w8 ⟨rfl,hb⟩);have K8:=Lib.hid (K7.out.chain hb);clear hb;clear g6_0 g6_1 g6_2 g6_10))
                go_ret
                exact ⟨rfl,HB.out.chain K8.out⟩
              | true =>
                go_enter Tryz.func135,Tryz.ntmps135
                simp only [e4,e1]
                clear e4 e1 hT
                go_wp2_with (first
                 | (go_at_call 125;rw [← hW1];clear hW1;((with_reducible refine (HQ0.out _ (HB.out.chain K1.out)).mono ?_);rintro e w2 ⟨rfl,hb⟩);have K2:=Lib.hid (K1.out.chain hb);clear hb;clear z0 z1 z2 z3 z4 z5 z6 z7 z8 z9 z10;obtain ⟨-,-,-,-,g1_4,g1_5,-,-,-,-,-,-⟩:=HF.out _ K2.out)
                 | (go_at_call 156;((with_reducible refine (HQ1.out _ (HB.out.chain K2.out)).mono ?_);rintro e w3 ⟨rfl,hb⟩);have K3:=Lib.hid (K2.out.chain hb);clear hb;clear g1_4 g1_5;obtain ⟨g2_0,g2_1,g2_2,-,-,-,g2_6,-,-,-,-,-⟩:=HF.out _ K3.out)
                 | (go_at_call 154;((with_reducible refine (HQ2.out _ (HB.out.chain K3.out)).mono ?_);rintro e w4 ⟨rfl,hb⟩);have K4:=Lib.hid (K3.out.chain hb);clear hb;clear g2_0 g2_1 g2_2 g2_6;obtain ⟨g3_0,g3_1,g3_2,-,-,-,-,g3_7,g3_8,-,-,-⟩:=HF.out _ K4.out)
                 | (go_at_call 107;((with_reducible refine (HQ3.out _ (HB.out.chain K4.out)).mono ?_);rintro e w5 ⟨rfl,hb⟩);have K5:=Lib.hid (K4.out.chain hb);clear hb;clear g3_0 g3_1 g3_2 g3_7 g3_8;obtain ⟨g4_0,g4_1,g4_2,-,-,-,-,-,-,-,-,g4_11⟩:=HF.out _ K5.out)
                 | (go_at_call 157;((with_reducible refine (HQ4.out _ (HB.out.chain K5.out)).mono ?_);rintro e w6 ⟨rfl,hb⟩);have K6:=Lib.hid (K5.out.chain hb);clear hb;clear g4_0 g4_1 g4_2 g4_11;obtain ⟨g5_0,g5_1,g5_2,-,-,-,-,-,-,g5_9,-,-⟩:=HF.out _ K6.out)
                 | (go_at_call 106;((with_reducible refine (HQ5.out _ (HB.out.chain K6.out)).mono ?_);rintro e w7 ⟨rfl,hb⟩);have K7:=Lib.hid (K6.out.chain hb);clear hb;clear g5_0 g5_1 g5_2 g5_9;obtain ⟨g6_0,g6_1,g6_2,-,-,-,-,-,-,-,g6_10,-⟩:=HF.out _ K7.out)
                 | (go_at_call 158;((with_reducible refine (HQ6.out _ (HB.out.chain K7.out)).mono ?_);rintro e w8 ⟨rfl,hb⟩);have K8:=Lib.hid (K7.out.chain hb);clear hb;clear g6_0 g6_1 g6_2 g6_10))
                go_ret
                exact ⟨rfl,HB.out.chain K8.out⟩
theorem proc_any (d : PAd) (x : Pr) (w : World) (hp : PartsAt w) (own : PrOwn w w.heap.size d x) :
 Calls Tryz.prog 135 #[rulesV 125 1048576 8,.agg (prCs d x)] w fun e w' => e = .returned (.bool (vPr x)) ∧ Below w.heap.size w w':=by
 have own':=own
 obtain ⟨⟨b0,b1,b2,b3,b4,b5,b6,b7,b8⟩,r0,r1,r2,r3,r4,r5⟩:=own'
 exact pr_core (prCs d x) rfl x.nm x.rt x.rn x.ln x.co _ _ _ (nameL x.nm) (vPos x.ln x.co) (vPs x.ps) (tyB x.rt && nameL x.rn) (vCt x.ct x.lg x.rq x.es) (decide ((0 : Int) ≤ x.lo.length) && decide ((x.lo.length : Int) ≤ 100) && x.lo.all (vP nameL)) (vSs nameL 1048576 8 30 x.bd) (vRes x.rt x.rn) rfl w rfl rfl rfl rfl rfl rfl rfl rfl
  (fun W hb => name_any x.nm W b0) (fun W hb => place_any x.ln x.co W) (fun W hb => params_any x.ps d.p d.np W b1 (r0.on pm_keeps hb)) (fun W hb => param_any _ nameL name_ok 1048576 8 x.rt x.rn W b3 b4) (fun W hb => contract_any d x W (own.on hb))
  (fun W hb => vlr_param _ nameL name_ok 1048576 8 x.lo d.l d.nl 0 100 W b7 (r4.on pm_keeps hb)) (fun W hb => rstmts_any _ nameL name_ok 1048576 8 (by omega) (by omega) x.bd d.b d.nb W (hp.on hb) (r5.on hb) b8)
end Go.Proofs.YtojjfdegkooknaaGreatDoor
namespace Go.Proofs.YtojjfdegkooknaaGreatDoor
set_option maxRecDepth 100000
set_option maxHeartbeats 8000000
open Go.RowKit
theorem program_any (d : GAd) (p : Pg) (w : World) (hp : PartsAt w) (own : PgOwn w w.heap.size d p) :
 Calls Tryz.prog 92 #[rulesV 125 1048576 8,.agg #[.slice d.r p.rs.length d.nr,.slice d.g p.gs.length d.ng,.slice d.k p.ks.length d.nk,.slice d.d p.ds.length d.nd,.slice d.m p.ms.length d.nm,.slice d.x p.xs.length d.nx]] w fun e w' => e = .returned (.bool (vPg p)) ∧ Below w.heap.size w w':=by
 obtain ⟨⟨b0,b1,b2,b3,b4,b5⟩,r0,r1,r2,r3,r4,r5⟩:=own
 obtain ⟨v0,hv0⟩ : ∃ v,v = (decide ((0 : Int) ≤ p.rs.length) && decide ((p.rs.length : Int) ≤ 100) && p.rs.all vRc):=⟨_,rfl⟩
 obtain ⟨v1,hv1⟩ : ∃ v,v = (decide ((0 : Int) ≤ p.gs.length) && decide ((p.gs.length : Int) ≤ 100) && p.gs.all (vP nameL)):=⟨_,rfl⟩
 obtain ⟨v2,hv2⟩ : ∃ v,v = (decide ((0 : Int) ≤ p.ks.length) && decide ((p.ks.length : Int) ≤ 100) && p.ks.all vLk):=⟨_,rfl⟩
 obtain ⟨v3,hv3⟩ : ∃ v,v = (decide ((0 : Int) ≤ p.ds.length) && decide ((p.ds.length : Int) ≤ 100) && p.ds.all vDf):=⟨_,rfl⟩
 obtain ⟨v4,hv4⟩ : ∃ v,v = (decide ((0 : Int) ≤ p.ms.length) && decide ((p.ms.length : Int) ≤ 100) && p.ms.all vLm):=⟨_,rfl⟩
 obtain ⟨v5,hv5⟩ : ∃ v,v = (decide ((0 : Int) ≤ p.xs.length) && decide ((p.xs.length : Int) ≤ 100) && p.xs.all vPr):=⟨_,rfl⟩
 have hres : vPg p = (v0 && v1 && v2 && v3 && v4 && v5):=by
  rw [hv0,hv1,hv2,hv3,hv4,hv5]
  rfl
 rw [hres]
 have H0 : Hid (BC w 126 #[.slice d.r p.rs.length d.nr,.int .i64 0,.int .i64 100,.func (.func 127) #[rulesV 125 1048576 8] #[]] v0):=Lib.hid (fun W hb => by rw [hv0];exact vl_rec vRc 127 #[rulesV 125 1048576 8] #[] (enters_of Tryz.func127 (by kernel_rfl) rfl) p.rs d.r d.nr 0 100 W b0 (r0.on rc_keeps hb) (fun x v W hx hbx hv => by obtain ⟨A,c,rfl,h1,h2,h3⟩:=hv;exact record_any x.nm x.fs A c W h1 h2 h3))
 have H1 : Hid (BC w 106 #[.slice d.g p.gs.length d.ng,.int .i64 0,.int .i64 100,.func (.func 107) #[rulesV 125 1048576 8] #[]] v1):=Lib.hid (fun W hb => by rw [hv1];exact vlr_param _ nameL name_ok 1048576 8 p.gs d.g d.ng 0 100 W b1 (r1.on pm_keeps hb))
 have H2 : Hid (BC w 128 #[.slice d.k p.ks.length d.nk,.int .i64 0,.int .i64 100,.func (.func 129) #[rulesV 125 1048576 8] #[]] v2):=Lib.hid (fun W hb => by rw [hv2];exact vl_lock vLk 129 #[rulesV 125 1048576 8] #[] (enters_of Tryz.func129 (by kernel_rfl) rfl) p.ks d.k d.nk 0 100 W b2 (r2.on lk_keeps hb) (fun x v W hx hbx hv => by obtain ⟨A,c,rfl,h1,h2,h3⟩:=hv;exact lock_any x.nm x.iv A c W h1 h2 h3))
 have H3 : Hid (BC w 130 #[.slice d.d p.ds.length d.nd,.int .i64 0,.int .i64 100,.func (.func 131) #[rulesV 125 1048576 8] #[]] v3):=Lib.hid (fun W hb => by rw [hv3];exact vl_def vDf 131 #[rulesV 125 1048576 8] #[] (enters_of Tryz.func131 (by kernel_rfl) rfl) p.ds d.d d.nd 0 100 W b3 (r3.on df_keeps hb) (fun x v W hx hbx hv => by obtain ⟨A,c,A2,c2,rfl,h1,h2,h3,h4,h5⟩:=hv;exact def_any x.nm x.ps x.cs A c A2 c2 W h1 h2 h3 h4 h5))
 have H4 : Hid (BC w 132 #[.slice d.m p.ms.length d.nm,.int .i64 0,.int .i64 100,.func (.func 133) #[rulesV 125 1048576 8] #[]] v4):=Lib.hid (fun W hb => by rw [hv4];exact vl_lemma vLm 133 #[rulesV 125 1048576 8] #[] (enters_of Tryz.func133 (by kernel_rfl) rfl) p.ms d.m d.nm 0 100 W b4 (r4.on lm_keeps hb) (fun x v W hx hbx hv => by obtain ⟨A,c,e,f,rfl,h1,h2,h3,h4,h5⟩:=hv;exact lemma_any x.nm x.ps x.lf x.rt A c e f W h1 h2 h3 h4 h5))
 have H5 : Hid (BC w 134 #[.slice d.x p.xs.length d.nx,.int .i64 0,.int .i64 100,.func (.func 135) #[rulesV 125 1048576 8] #[]] v5):=Lib.hid (fun W hb => by rw [hv5];exact vl_proc vPr 135 #[rulesV 125 1048576 8] #[] (enters_of Tryz.func135 (by kernel_rfl) rfl) p.xs d.x d.nx 0 100 W b5 (r5.on pr_keeps hb) (fun x v W hx hbx hv => by obtain ⟨e,rfl,h1⟩:=hv;exact proc_any e x W (hp.on (hb.chain hbx)) h1))
 generalize p.rs.length = n0 at *
 generalize p.gs.length = n1 at *
 generalize p.ks.length = n2 at *
 generalize p.ds.length = n3 at *
 generalize p.ms.length = n4 at *
 generalize p.xs.length = n5 at *
 obtain ⟨W1,hW1⟩ : ∃ W1,W1 = (w.alloc (rulesC 125 1048576 8)).alloc (.cells #[.slice d.r n0 d.nr,.slice d.g n1 d.ng,.slice d.k n2 d.nk,.slice d.d n3 d.nd,.slice d.m n4 d.nm,.slice d.x n5 d.nx] 29):=⟨_,rfl⟩
 have HB : Hid (Below w.heap.size w W1):=Lib.hid (by rw [hW1];exact (below_alloc w _).chain (below_alloc _ _))
 have q1:=heap_keep (o:=.cells #[.slice d.r n0 d.nr,.slice d.g n1 d.ng,.slice d.k n2 d.nk,.slice d.d n3 d.nd,.slice d.m n4 d.nm,.slice d.x n5 d.nx] 29) (heap_of_alloc w (rulesC 125 1048576 8))
 have q2:=heap_of_alloc (w.alloc (rulesC 125 1048576 8)) (.cells #[.slice d.r n0 d.nr,.slice d.g n1 d.ng,.slice d.k n2 d.nk,.slice d.d n3 d.nd,.slice d.m n4 d.nm,.slice d.x n5 d.nx] 29)
 rw [size_of_alloc] at q2
 rw [← hW1] at q1 q2
 have HF : Hid (∀ W,Below W1.heap.size W1 W → W.cell? ⟨w.heap.size,0,none⟩ = some (.func (.func 125) #[] #[]) ∧ W.cell? ⟨w.heap.size,1,none⟩ = some (.int .i64 1048576) ∧ W.cell? ⟨w.heap.size,2,none⟩ = some (.int .i64 8) ∧ W.cell? ⟨w.heap.size + 1,0,none⟩ = some (.slice d.r n0 d.nr) ∧ W.cell? ⟨w.heap.size + 1,1,none⟩ = some (.slice d.g n1 d.ng) ∧ W.cell? ⟨w.heap.size + 1,2,none⟩ = some (.slice d.k n2 d.nk) ∧ W.cell? ⟨w.heap.size + 1,3,none⟩ = some (.slice d.d n3 d.nd) ∧ W.cell? ⟨w.heap.size + 1,4,none⟩ = some (.slice d.m n4 d.nm) ∧ W.cell? ⟨w.heap.size + 1,5,none⟩ = some (.slice d.x n5 d.nx)) :=
  Lib.hid (fun W hb => ⟨cell_of_block (kept_box hb q1) 0 rfl,cell_of_block (kept_box hb q1) 1 rfl,cell_of_block (kept_box hb q1) 2 rfl,cell_of_block (kept_box hb q2) 0 rfl,cell_of_block (kept_box hb q2) 1 rfl,cell_of_block (kept_box hb q2) 2 rfl,cell_of_block (kept_box hb q2) 3 rfl,cell_of_block (kept_box hb q2) 4 rfl,cell_of_block (kept_box hb q2) 5 rfl⟩)
 have K1:=Lib.hid (Below.refl W1.heap.size W1)
 clear q1 q2 hres hv0 hv1 hv2 hv3 hv4 hv5 hp r0 r1 r2 r3 r4 r5
 try unfold maxLen at *
 cases v0 with
 | false =>
   go_enter Tryz.func92,Tryz.ntmps92
   go_wp2_with (go_at_call 126;rw [← hW1];clear hW1;((with_reducible refine (H0.out _ (HB.out.chain K1.out)).mono ?_);rintro e w2 ⟨rfl,hb⟩);have K2:=Lib.hid (K1.out.chain hb);clear hb)
   go_ret
   exact ⟨rfl,HB.out.chain K2.out⟩
 | true =>
   cases v1 with
   | false =>
     go_enter Tryz.func92,Tryz.ntmps92
     go_wp2_with (first
      | (go_at_call 126;rw [← hW1];clear hW1;((with_reducible refine (H0.out _ (HB.out.chain K1.out)).mono ?_);rintro e w2 ⟨rfl,hb⟩);have K2:=Lib.hid (K1.out.chain hb);obtain ⟨g1_0,g1_1,g1_2,g1_3,g1_4,g1_5,g1_6,g1_7,g1_8⟩:=HF.out _ K2.out;clear hb)
      | (go_at_call 106;((with_reducible refine (H1.out _ (HB.out.chain K2.out)).mono ?_);rintro e w3 ⟨rfl,hb⟩);have K3:=Lib.hid (K2.out.chain hb);clear hb))
     go_ret
     exact ⟨rfl,HB.out.chain K3.out⟩
   | true =>
     cases v2 with
     | false =>
       go_enter Tryz.func92,Tryz.ntmps92
       go_wp2_with (first
        | (go_at_call 126;rw [← hW1];clear hW1;((with_reducible refine (H0.out _ (HB.out.chain K1.out)).mono ?_);rintro e w2 ⟨rfl,hb⟩);have K2:=Lib.hid (K1.out.chain hb);obtain ⟨g1_0,g1_1,g1_2,g1_3,g1_4,g1_5,g1_6,g1_7,g1_8⟩:=HF.out _ K2.out;clear hb)
        | (go_at_call 106;((with_reducible refine (H1.out _ (HB.out.chain K2.out)).mono ?_);rintro e w3 ⟨rfl,hb⟩);have K3:=Lib.hid (K2.out.chain hb);obtain ⟨g2_0,g2_1,g2_2,g2_3,g2_4,g2_5,g2_6,g2_7,g2_8⟩:=HF.out _ K3.out;clear hb)
        | (go_at_call 128;((with_reducible refine (H2.out _ (HB.out.chain K3.out)).mono ?_);rintro e w4 ⟨rfl,hb⟩);have K4:=Lib.hid (K3.out.chain hb);clear hb))
       go_ret
       exact ⟨rfl,HB.out.chain K4.out⟩
     | true =>
       cases v3 with
       | false =>
         go_enter Tryz.func92,Tryz.ntmps92
         go_wp2_with (first
          | (go_at_call 126;rw [← hW1];clear hW1;((with_reducible refine (H0.out _ (HB.out.chain K1.out)).mono ?_);rintro e w2 ⟨rfl,hb⟩);have K2:=Lib.hid (K1.out.chain hb);obtain ⟨g1_0,g1_1,g1_2,g1_3,g1_4,g1_5,g1_6,g1_7,g1_8⟩:=HF.out _ K2.out;clear hb)
          | (go_at_call 106;((with_reducible refine (H1.out _ (HB.out.chain K2.out)).mono ?_);rintro e w3 ⟨rfl,hb⟩);have K3:=Lib.hid (K2.out.chain hb);obtain ⟨g2_0,g2_1,g2_2,g2_3,g2_4,g2_5,g2_6,g2_7,g2_8⟩:=HF.out _ K3.out;clear hb)
          | (go_at_call 128;((with_reducible refine (H2.out _ (HB.out.chain K3.out)).mono ?_);rintro e w4 ⟨rfl,hb⟩);have K4:=Lib.hid (K3.out.chain hb);obtain ⟨g3_0,g3_1,g3_2,g3_3,g3_4,g3_5,g3_6,g3_7,g3_8⟩:=HF.out _ K4.out;clear hb)
          | (go_at_call 130;((with_reducible refine (H3.out _ (HB.out.chain K4.out)).mono ?_);rintro e w5 ⟨rfl,hb⟩);have K5:=Lib.hid (K4.out.chain hb);clear hb))
         go_ret
         exact ⟨rfl,HB.out.chain K5.out⟩
       | true =>
         cases v4 with
         | false =>
           go_enter Tryz.func92,Tryz.ntmps92
           go_wp2_with (first
            | (go_at_call 126;rw [← hW1];clear hW1;((with_reducible refine (H0.out _ (HB.out.chain K1.out)).mono ?_);rintro e w2 ⟨rfl,hb⟩);have K2:=Lib.hid (K1.out.chain hb);obtain ⟨g1_0,g1_1,g1_2,g1_3,g1_4,g1_5,g1_6,g1_7,g1_8⟩:=HF.out _ K2.out;clear hb)
            | (go_at_call 106;((with_reducible refine (H1.out _ (HB.out.chain K2.out)).mono ?_);rintro e w3 ⟨rfl,hb⟩);have K3:=Lib.hid (K2.out.chain hb);obtain ⟨g2_0,g2_1,g2_2,g2_3,g2_4,g2_5,g2_6,g2_7,g2_8⟩:=HF.out _ K3.out;clear hb)
            | (go_at_call 128;((with_reducible refine (H2.out _ (HB.out.chain K3.out)).mono ?_);rintro e w4 ⟨rfl,hb⟩);have K4:=Lib.hid (K3.out.chain hb);obtain ⟨g3_0,g3_1,g3_2,g3_3,g3_4,g3_5,g3_6,g3_7,g3_8⟩:=HF.out _ K4.out;clear hb)
            | (go_at_call 130;((with_reducible refine (H3.out _ (HB.out.chain K4.out)).mono ?_);rintro e w5 ⟨rfl,hb⟩);have K5:=Lib.hid (K4.out.chain hb);obtain ⟨g4_0,g4_1,g4_2,g4_3,g4_4,g4_5,g4_6,g4_7,g4_8⟩:=HF.out _ K5.out;clear hb)
            | (go_at_call 132;((with_reducible refine (H4.out _ (HB.out.chain K5.out)).mono ?_);rintro e w6 ⟨rfl,hb⟩);have K6:=Lib.hid (K5.out.chain hb);clear hb))
           go_ret
           exact ⟨rfl,HB.out.chain K6.out⟩
         | true =>
           cases v5 with
           | false =>
             go_enter Tryz.func92,Tryz.ntmps92
             go_wp2_with (first
              | (go_at_call 126;rw [← hW1];clear hW1;((with_reducible refine (H0.out _ (HB.out.chain K1.out)).mono ?_);rintro e w2 ⟨rfl,hb⟩);have K2:=Lib.hid (K1.out.chain hb);obtain ⟨g1_0,g1_1,g1_2,g1_3,g1_4,g1_5,g1_6,g1_7,g1_8⟩:=HF.out _ K2.out;clear hb)
              | (go_at_call 106;((with_reducible refine (H1.out _ (HB.out.chain K2.out)).mono ?_);rintro e w3 ⟨rfl,hb⟩);have K3:=Lib.hid (K2.out.chain hb);obtain ⟨g2_0,g2_1,g2_2,g2_3,g2_4,g2_5,g2_6,g2_7,g2_8⟩:=HF.out _ K3.out;clear hb)
              | (go_at_call 128;((with_reducible refine (H2.out _ (HB.out.chain K3.out)).mono ?_);rintro e w4 ⟨rfl,hb⟩);have K4:=Lib.hid (K3.out.chain hb);obtain ⟨g3_0,g3_1,g3_2,g3_3,g3_4,g3_5,g3_6,g3_7,g3_8⟩:=HF.out _ K4.out;clear hb)
              | (go_at_call 130;((with_reducible refine (H3.out _ (HB.out.chain K4.out)).mono ?_);rintro e w5 ⟨rfl,hb⟩);have K5:=Lib.hid (K4.out.chain hb);obtain ⟨g4_0,g4_1,g4_2,g4_3,g4_4,g4_5,g4_6,g4_7,g4_8⟩:=HF.out _ K5.out;clear hb)
              | (go_at_call 132;((with_reducible refine (H4.out _ (HB.out.chain K5.out)).mono ?_);rintro e w6 ⟨rfl,hb⟩);have K6:=Lib.hid (K5.out.chain hb);obtain ⟨g5_0,g5_1,g5_2,g5_3,g5_4,g5_5,g5_6,g5_7,g5_8⟩:=HF.out _ K6.out;clear hb)
              | (go_at_call 134;((with_reducible refine (H5.out _ (HB.out.chain K6.out)).mono ?_);rintro e w7 ⟨rfl,hb⟩);have K7:=Lib.hid (K6.out.chain hb);clear hb))
             go_ret
             exact ⟨rfl,HB.out.chain K7.out⟩
           | true =>
             go_enter Tryz.func92,Tryz.ntmps92
             go_wp2_with (first
              | (go_at_call 126;rw [← hW1];clear hW1;((with_reducible refine (H0.out _ (HB.out.chain K1.out)).mono ?_);rintro e w2 ⟨rfl,hb⟩);have K2:=Lib.hid (K1.out.chain hb);obtain ⟨g1_0,g1_1,g1_2,g1_3,g1_4,g1_5,g1_6,g1_7,g1_8⟩:=HF.out _ K2.out;clear hb)
              | (go_at_call 106;((with_reducible refine (H1.out _ (HB.out.chain K2.out)).mono ?_);rintro e w3 ⟨rfl,hb⟩);have K3:=Lib.hid (K2.out.chain hb);obtain ⟨g2_0,g2_1,g2_2,g2_3,g2_4,g2_5,g2_6,g2_7,g2_8⟩:=HF.out _ K3.out;clear hb)
              | (go_at_call 128;((with_reducible refine (H2.out _ (HB.out.chain K3.out)).mono ?_);rintro e w4 ⟨rfl,hb⟩);have K4:=Lib.hid (K3.out.chain hb);obtain ⟨g3_0,g3_1,g3_2,g3_3,g3_4,g3_5,g3_6,g3_7,g3_8⟩:=HF.out _ K4.out;clear hb)
              | (go_at_call 130;((with_reducible refine (H3.out _ (HB.out.chain K4.out)).mono ?_);rintro e w5 ⟨rfl,hb⟩);have K5:=Lib.hid (K4.out.chain hb);obtain ⟨g4_0,g4_1,g4_2,g4_3,g4_4,g4_5,g4_6,g4_7,g4_8⟩:=HF.out _ K5.out;clear hb)
              | (go_at_call 132;((with_reducible refine (H4.out _ (HB.out.chain K5.out)).mono ?_);rintro e w6 ⟨rfl,hb⟩);have K6:=Lib.hid (K5.out.chain hb);obtain ⟨g5_0,g5_1,g5_2,g5_3,g5_4,g5_5,g5_6,g5_7,g5_8⟩:=HF.out _ K6.out;clear hb)
              | (go_at_call 134;((with_reducible refine (H5.out _ (HB.out.chain K6.out)).mono ?_);rintro e w7 ⟨rfl,hb⟩);have K7:=Lib.hid (K6.out.chain hb);clear hb))
             go_ret
             exact ⟨rfl,HB.out.chain K7.out⟩
theorem program_rules (w : World) : Calls Tryz.prog 91 #[] w fun e w' => e = .returned (rulesV 125 1048576 8) ∧ w' = w.alloc (rulesC 125 1048576 8):=by
 go_enter Tryz.func91,Tryz.ntmps91
 go_wp2
 refine bodyPost_ret (results_cell_row rfl _ _ w.heap.size 142 #[.func (.func 125) #[] #[],.int .i64 1048576,.int .i64 8] (0,0) _ rfl (heap_of_alloc _ _) Tryz.underlying142 rfl (by kernel_rfl)) rfl ?_
 exact ⟨rfl,rfl⟩
theorem tprogram_any (d : GAd) (p : Pg) (w : World) (hp : PartsAt w) (own : PgOwn w w.heap.size d p) :
 Calls Tryz.prog 70 #[progV d p] w fun e w' => e = .returned (.bool (vPg p)) ∧ Below w.heap.size w w':=by
 have HC : Hid (BC w 92 #[rulesV 125 1048576 8,.agg #[.slice d.r p.rs.length d.nr,.slice d.g p.gs.length d.ng,.slice d.k p.ks.length d.nk,.slice d.d p.ds.length d.nd,.slice d.m p.ms.length d.nm,.slice d.x p.xs.length d.nx]] (vPg p)):=Lib.hid (fun W hb => program_any d p W (hp.on hb) (own.on hb))
 have HP : Hid (∀ W,Calls Tryz.prog 91 #[] W fun e w' => e = .returned (rulesV 125 1048576 8) ∧ Below W.heap.size W w'):=Lib.hid (fun W => (program_rules W).mono (fun e w' h => by obtain ⟨h1,rfl⟩:=h;exact ⟨h1,below_alloc W _⟩))
 obtain ⟨⟨b0,b1,b2,b3,b4,b5⟩,_⟩:=own
 generalize vPg p = res at *
 show Calls Tryz.prog 70 #[.agg #[.slice d.r p.rs.length d.nr,.slice d.g p.gs.length d.ng,.slice d.k p.ks.length d.nk,.slice d.d p.ds.length d.nd,.slice d.m p.ms.length d.nm,.slice d.x p.xs.length d.nx]] w _
 generalize p.rs.length = n0 at *
 generalize p.gs.length = n1 at *
 generalize p.ks.length = n2 at *
 generalize p.ds.length = n3 at *
 generalize p.ms.length = n4 at *
 generalize p.xs.length = n5 at *
 obtain ⟨W1,hW1⟩ : ∃ W1,W1 = w.alloc (.cells #[.slice d.r n0 d.nr,.slice d.g n1 d.ng,.slice d.k n2 d.nk,.slice d.d n3 d.nd,.slice d.m n4 d.nm,.slice d.x n5 d.nx] 29):=⟨_,rfl⟩
 have HB : Hid (Below w.heap.size w W1):=Lib.hid (by rw [hW1];exact below_alloc w _)
 have q2:=heap_of_alloc w (.cells #[.slice d.r n0 d.nr,.slice d.g n1 d.ng,.slice d.k n2 d.nk,.slice d.d n3 d.nd,.slice d.m n4 d.nm,.slice d.x n5 d.nx] 29)
 rw [← hW1] at q2
 have HF : Hid (∀ W,Below W1.heap.size W1 W → W.cell? ⟨w.heap.size,0,none⟩ = some (.slice d.r n0 d.nr) ∧ W.cell? ⟨w.heap.size,1,none⟩ = some (.slice d.g n1 d.ng) ∧ W.cell? ⟨w.heap.size,2,none⟩ = some (.slice d.k n2 d.nk) ∧ W.cell? ⟨w.heap.size,3,none⟩ = some (.slice d.d n3 d.nd) ∧ W.cell? ⟨w.heap.size,4,none⟩ = some (.slice d.m n4 d.nm) ∧ W.cell? ⟨w.heap.size,5,none⟩ = some (.slice d.x n5 d.nx)):=Lib.hid (fun W hb => ⟨cell_of_block (kept_box hb q2) 0 rfl,cell_of_block (kept_box hb q2) 1 rfl,cell_of_block (kept_box hb q2) 2 rfl,cell_of_block (kept_box hb q2) 3 rfl,cell_of_block (kept_box hb q2) 4 rfl,cell_of_block (kept_box hb q2) 5 rfl⟩)
 have HB1:=Lib.hid (Below.refl W1.heap.size W1)
 obtain ⟨d0,d1,d2,d3,d4,d5⟩:=HF.out _ HB1.out
 unfold maxLen at b0 b1 b2 b3 b4 b5
 clear hp q2
 go_enter Tryz.func70,Tryz.ntmps70
 go_wp2
 rw [← hW1]
 clear hW1
 go_region_held3 (fun W => W.cell? ⟨w.heap.size,0,none⟩ = some (.slice d.r n0 d.nr) ∧ W.cell? ⟨w.heap.size,1,none⟩ = some (.slice d.g n1 d.ng) ∧ W.cell? ⟨w.heap.size,2,none⟩ = some (.slice d.k n2 d.nk) ∧ W.cell? ⟨w.heap.size,3,none⟩ = some (.slice d.d n3 d.nd) ∧ W.cell? ⟨w.heap.size,4,none⟩ = some (.slice d.m n4 d.nm) ∧ W.cell? ⟨w.heap.size,5,none⟩ = some (.slice d.x n5 d.nx))
  (first | go_keep | (trace_state;fail))
  (first
    | (go_at_call 91;refine (HP.out _).mono ?_;rintro e w5 ⟨rfl,hb5⟩;have HB5:=Lib.hid (HB1.out.drew.chain hb5);clear hb5;obtain ⟨g0,g1,g2,g3,g4,g5⟩:=HF.out _ HB5.out)
    | (go_at_call 92;refine (HC.out _ (HB.out.chain HB5.out)).mono ?_;rintro e w6 ⟨rfl,hb6⟩;have HB6:=Lib.hid (HB5.out.chain hb6);clear hb6;obtain ⟨i0,i1,i2,i3,i4,i5⟩:=HF.out _ HB6.out))
 all_goals go_wp2
 all_goals go_ret
 all_goals exact ⟨rfl,HB.out.chain HB6.out⟩
end Go.Proofs.YtojjfdegkooknaaGreatDoor
