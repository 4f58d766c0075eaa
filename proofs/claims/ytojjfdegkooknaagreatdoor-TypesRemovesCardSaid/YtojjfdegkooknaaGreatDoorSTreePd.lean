import Derived.Test.YtojjfdegkooknaaGreatDoorSTreePc
import Derived.Test.YtojjfdegkooknaaGreatDoorSTreeGc
set_option linter.unusedVariables false
set_option linter.unusedSimpArgs false
namespace Go.Proofs.YtojjfdegkooknaaGreatDoor
section
set_option maxRecDepth 100000
set_option maxHeartbeats 16000000
open Go.RowKit
theorem qf1 : ∃ (T N : Nat),46 = T /\ N = 12 /\ (∀ w : World,(isAgg T).run Tryz.prog w = .ok true w) /\ (∀ w : World,(sizeOf T).run Tryz.prog w = .ok N w) :=
 ⟨_,12,rfl,rfl,fun w => by kernel_rfl,fun w => by kernel_rfl⟩
def vRes (rt rn : List UInt8) : Bool:=(rt.isEmpty && rn.isEmpty) || (tyB rt && zu rn)
def vCt (ct : Bool) (lg : List Pm) (rq es : List Fm) : Bool:=if ct then vPs lg && vDj rq && vDj es else decide ((lg.length : Int) = 0) && decide ((rq.length : Int) = 0) && decide ((es.length : Int) = 0)
def vPr (x : Pr) : Bool:=zu x.nm && qg3 x.ln x.co && vPs x.ps && vRes x.rt x.rn && vCt x.ct x.lg x.rq x.es && (decide ((0 : Int) <= x.lo.length) && decide ((x.lo.length : Int) <= 100) && x.lo.all (vP zu)) && vx zu 1048576 8 30 x.bd
def xT (p : Pg) : Bool:=(decide ((0 : Int) <= p.rs.length) && decide ((p.rs.length : Int) <= 100) && p.rs.all vRc) && (decide ((0 : Int) <= p.gs.length) && decide ((p.gs.length : Int) <= 100) && p.gs.all (vP zu)) && (decide ((0 : Int) <= p.ks.length) && decide ((p.ks.length : Int) <= 100) && p.ks.all vLk) &&
 (decide ((0 : Int) <= p.ds.length) && decide ((p.ds.length : Int) <= 100) && p.ds.all vDf) && (decide ((0 : Int) <= p.ms.length) && decide ((p.ms.length : Int) <= 100) && p.ms.all vLm) && (decide ((0 : Int) <= p.xs.length) && decide ((p.xs.length : Int) <= 100) && p.xs.all vPr)
theorem qqT (cs : Array Value) (qn : cs.size = 12) (na nb nc : Nat) (A B C : Option Addr) (c4 c8 c9 : Nat) (bA : na <= maxLen) (bB : nb <= maxLen) (bC : nc <= maxLen) (w : World)
 (kx4 : cs[4]? = some (.slice A na c4)) (kx7 : cs[7]? = some (.bool false)) (kx8 : cs[8]? = some (.slice B nb c8)) (kx9 : cs[9]? = some (.slice C nc c9))
  :
 Calls Tryz.prog 157 #[qp 125 1048576 8,.agg cs] w fun e w' => e = .returned (.bool (decide ((na : Int) = 0) && decide ((nb : Int) = 0) && decide ((nc : Int) = 0))) /\ Below w.heap.size w w':=by
 obtain ⟨T,N,hT,hN,hag,qK⟩:=qf1
 have e4 : ∀ y : Operand,Op.box 46 y = Op.box T y:=fun y => by rw [hT]
 have qu : cs.size = N:=qn.trans hN.symm
 obtain ⟨W1,qh⟩ : ∃ W1,W1 = (w.alloc (qv 125 1048576 8)).alloc (.cells cs T):=⟨_,rfl⟩
 have HB : Hid (Below w.heap.size w W1):=hZ (by rw [qh];exact (qd w _).chain (qd _ _))
 have p1:=qr (o:=.cells cs T) (qe w (qv 125 1048576 8))
 have p2:=qe (w.alloc (qv 125 1048576 8)) (.cells cs T)
 rw [qj] at p2
 rw [<- qh] at p1 p2
 have HF : Hid (∀ W,Below W1.heap.size W1 W -> W.cell? ⟨w.heap.size,0,none⟩ = some (.func (.func 125) #[] #[]) /\ W.cell? ⟨w.heap.size,1,none⟩ = some (.int .i64 1048576) /\ W.cell? ⟨w.heap.size,2,none⟩ = some (.int .i64 8) /\ W.cell? ⟨w.heap.size + 1,4,none⟩ = some (.slice A na c4) /\ W.cell? ⟨w.heap.size + 1,7,none⟩ = some (.bool false) /\ W.cell? ⟨w.heap.size + 1,8,none⟩ = some (.slice B nb c8) /\ W.cell? ⟨w.heap.size + 1,9,none⟩ = some (.slice C nc c9)) :=
  hZ (fun W hb => ⟨qc (qg hb p1) 0 rfl,qc (qg hb p1) 1 rfl,qc (qg hb p1) 2 rfl,qc (qg hb p2) 4 kx4,qc (qg hb p2) 7 kx7,qc (qg hb p2) 8 kx8,qc (qg hb p2) 9 kx9⟩)
 have K1:=hZ (Below.refl W1.heap.size W1)
 have hF0:=HF.out _ K1.out
 rw [qh] at hF0
 obtain ⟨z0,z1,z2,z3,z4,z5,z6⟩:=hF0
 clear  hN p1 p2 qn kx4 kx7 kx8 kx9
 try unfold maxLen at *
 obtain ⟨res,zK⟩ : ∃ r,r = (decide ((na : Int) = 0) && decide ((nb : Int) = 0) && decide ((nc : Int) = 0)):=⟨_,rfl⟩
 rw [<- zK]
 have HRS:=hZ zK
 clear zK
 by_cases ha : na = 0
 ·subst ha
  by_cases hb : nb = 0
  ·subst hb
   by_cases hc : nc = 0
   ·subst hc
    go_enter Tryz.func157,Tryz.ntmps157
    simp only [e4]
    clear e4 hT
    go_wp2
    go_ret
    exact ⟨by rw [HRS.out];(first | rfl | (simp;done) | (simp;omega)),by rw [qh] at HB;exact HB.out⟩
   ·have ic : ¬ (nc : Int) = 0:=by omega
    go_enter Tryz.func157,Tryz.ntmps157
    simp only [e4]
    clear e4 hT
    go_wp2
    go_ret
    exact ⟨by rw [HRS.out];(first | rfl | (simp;done) | (simp;omega)),by rw [qh] at HB;exact HB.out⟩
  ·have ib : ¬ (nb : Int) = 0:=by omega
   go_enter Tryz.func157,Tryz.ntmps157
   simp only [e4]
   clear e4 hT
   go_wp2
   go_ret
   exact ⟨by rw [HRS.out];(first | rfl | (simp;done) | (simp;omega)),by rw [qh] at HB;exact HB.out⟩
 ·have ia : ¬ (na : Int) = 0:=by omega
  go_enter Tryz.func157,Tryz.ntmps157
  simp only [e4]
  clear e4 hT
  go_wp2
  go_ret
  exact ⟨by rw [HRS.out];(first | rfl | (simp;done) | (simp;omega)),by rw [qh] at HB;exact HB.out⟩
theorem qs1 (cs : Array Value) (qn : cs.size = 12) (x4 x8 x9 : Value) (v0 v1 v2 : Bool) (w : World)
 (kx4 : cs[4]? = some (x4)) (kx7 : cs[7]? = some (.bool true)) (kx8 : cs[8]? = some (x8)) (kx9 : cs[9]? = some (x9))
 (hq0 : BC w 154 #[qp 125 1048576 8,x4] v0)
 (hq1 : BC w 155 #[qp 125 1048576 8,x8] v1)
 (yK : BC w 155 #[qp 125 1048576 8,x9] v2) :
 Calls Tryz.prog 157 #[qp 125 1048576 8,.agg cs] w fun e w' => e = .returned (.bool (v0 && v1 && v2)) /\ Below w.heap.size w w':=by
 obtain ⟨T,N,hT,hN,hag,qK⟩:=qf1
 have e4 : ∀ y : Operand,Op.box 46 y = Op.box T y:=fun y => by rw [hT]
 have qu : cs.size = N:=qn.trans hN.symm
 have HQ0:=hZ hq0
 have HQ1:=hZ hq1
 have yQ:=hZ yK
 obtain ⟨W1,qh⟩ : ∃ W1,W1 = (w.alloc (qv 125 1048576 8)).alloc (.cells cs T):=⟨_,rfl⟩
 have HB : Hid (Below w.heap.size w W1):=hZ (by rw [qh];exact (qd w _).chain (qd _ _))
 have p1:=qr (o:=.cells cs T) (qe w (qv 125 1048576 8))
 have p2:=qe (w.alloc (qv 125 1048576 8)) (.cells cs T)
 rw [qj] at p2
 rw [<- qh] at p1 p2
 have HF : Hid (∀ W,Below W1.heap.size W1 W -> W.cell? ⟨w.heap.size,0,none⟩ = some (.func (.func 125) #[] #[]) /\ W.cell? ⟨w.heap.size,1,none⟩ = some (.int .i64 1048576) /\ W.cell? ⟨w.heap.size,2,none⟩ = some (.int .i64 8) /\ W.cell? ⟨w.heap.size + 1,4,none⟩ = some (x4) /\ W.cell? ⟨w.heap.size + 1,7,none⟩ = some (.bool true) /\ W.cell? ⟨w.heap.size + 1,8,none⟩ = some (x8) /\ W.cell? ⟨w.heap.size + 1,9,none⟩ = some (x9)) :=
  hZ (fun W hb => ⟨qc (qg hb p1) 0 rfl,qc (qg hb p1) 1 rfl,qc (qg hb p1) 2 rfl,qc (qg hb p2) 4 kx4,qc (qg hb p2) 7 kx7,qc (qg hb p2) 8 kx8,qc (qg hb p2) 9 kx9⟩)
 have K1:=hZ (Below.refl W1.heap.size W1)
 have hF0:=HF.out _ K1.out
 rw [qh] at hF0
 obtain ⟨z0,z1,z2,z3,z4,z5,z6⟩:=hF0
 clear hq0 hq1 yK hN p1 p2 qn kx4 kx7 kx8 kx9
 try unfold maxLen at *
 cases v0 with
 | false =>
   go_enter Tryz.func157,Tryz.ntmps157
   simp only [e4]
   clear e4 hT
   go_wp2_with (go_at_call 154;rw [<- qh];clear qh;((with_reducible refine (HQ0.out _ (HB.out.chain K1.out)).mono ?_);rintro e w2 ⟨rfl,hb⟩);have K2:=hZ (K1.out.chain hb);clear hb;clear z0 z1 z2 z3 z4 z5 z6)
   go_ret
   exact ⟨rfl,HB.out.chain K2.out⟩
 | true =>
   cases v1 with
   | false =>
     go_enter Tryz.func157,Tryz.ntmps157
     simp only [e4]
     clear e4 hT
     go_wp2_with (first
      | (go_at_call 154;rw [<- qh];clear qh;((with_reducible refine (HQ0.out _ (HB.out.chain K1.out)).mono ?_);rintro e w2 ⟨rfl,hb⟩);have K2:=hZ (K1.out.chain hb);clear hb;clear z0 z1 z2 z3 z4 z5 z6;obtain ⟨g1_0,g1_1,g1_2,-,-,g1_5,-⟩:=HF.out _ K2.out)
      | (go_at_call 155;((with_reducible refine (HQ1.out _ (HB.out.chain K2.out)).mono ?_);rintro e w3 ⟨rfl,hb⟩);have K3:=hZ (K2.out.chain hb);clear hb;clear g1_0 g1_1 g1_2 g1_5))
     go_ret
     exact ⟨rfl,HB.out.chain K3.out⟩
   | true =>
     cases v2 with
     | false =>
       go_enter Tryz.func157,Tryz.ntmps157
       simp only [e4]
       clear e4 hT
       go_wp2_with (first
        | (go_at_call 154;rw [<- qh];clear qh;((with_reducible refine (HQ0.out _ (HB.out.chain K1.out)).mono ?_);rintro e w2 ⟨rfl,hb⟩);have K2:=hZ (K1.out.chain hb);clear hb;clear z0 z1 z2 z3 z4 z5 z6;obtain ⟨g1_0,g1_1,g1_2,-,-,g1_5,-⟩:=HF.out _ K2.out)
        | (go_at_call 155;((with_reducible refine (HQ1.out _ (HB.out.chain K2.out)).mono ?_);rintro e w3 ⟨rfl,hb⟩);have K3:=hZ (K2.out.chain hb);clear hb;clear g1_0 g1_1 g1_2 g1_5;obtain ⟨g2_0,g2_1,g2_2,-,-,-,g2_6⟩:=HF.out _ K3.out)
        | (go_at_call 155;((with_reducible refine (yQ.out _ (HB.out.chain K3.out)).mono ?_);rintro e w4 ⟨rfl,hb⟩);have K4:=hZ (K3.out.chain hb);clear hb;clear g2_0 g2_1 g2_2 g2_6))
       go_ret
       exact ⟨rfl,HB.out.chain K4.out⟩
     | true =>
       go_enter Tryz.func157,Tryz.ntmps157
       simp only [e4]
       clear e4 hT
       go_wp2_with (first
        | (go_at_call 154;rw [<- qh];clear qh;((with_reducible refine (HQ0.out _ (HB.out.chain K1.out)).mono ?_);rintro e w2 ⟨rfl,hb⟩);have K2:=hZ (K1.out.chain hb);clear hb;clear z0 z1 z2 z3 z4 z5 z6;obtain ⟨g1_0,g1_1,g1_2,-,-,g1_5,-⟩:=HF.out _ K2.out)
        | (go_at_call 155;((with_reducible refine (HQ1.out _ (HB.out.chain K2.out)).mono ?_);rintro e w3 ⟨rfl,hb⟩);have K3:=hZ (K2.out.chain hb);clear hb;clear g1_0 g1_1 g1_2 g1_5;obtain ⟨g2_0,g2_1,g2_2,-,-,-,g2_6⟩:=HF.out _ K3.out)
        | (go_at_call 155;((with_reducible refine (yQ.out _ (HB.out.chain K3.out)).mono ?_);rintro e w4 ⟨rfl,hb⟩);have K4:=hZ (K3.out.chain hb);clear hb;clear g2_0 g2_1 g2_2 g2_6))
       go_ret
       exact ⟨rfl,HB.out.chain K4.out⟩
theorem qkK (d : PAd) (x : Pr) (w : World) (own : xJ w w.heap.size d x) :
 Calls Tryz.prog 157 #[qp 125 1048576 8,.agg (jJ d x)] w fun e w' => e = .returned (.bool (vCt x.ct x.lg x.rq x.es)) /\ Below w.heap.size w w':=by
 obtain ⟨⟨b0,b1,b2,b3,b4,b5,b6,b7,b8⟩,r0,r1,r2,r3,r4,r5⟩:=own
 obtain ⟨nm,ln,co,ps,lg,rt,rn,ct,rq,es,lo,bd⟩:=x
 cases ct with
 | false =>
   exact qqT _ rfl lg.length rq.length es.length d.g d.r d.e d.ng d.nr d.ne b2 b5 b6 w rfl rfl rfl rfl
 | true =>
   exact qs1 _ rfl _ _ _ (vPs lg) (vDj rq) (vDj es) w rfl rfl rfl rfl (fun W hb => qbD lg d.g d.ng W b2 (r1.on zj hb)) (fun W hb => qfc rq d.r d.nr W b5 (r2.on yk hb)) (fun W hb => qfc es d.e d.ne W b6 (r3.on yk hb))
theorem qsB (cs : Array Value) (qn : cs.size = 12) (nm rt rn : List UInt8) (ln co : Int) (x3 x10 x11 : Value) (v0 v1 v2 v3 v4 v5 v6 vr : Bool) (hvr0 : vr = ((rt.isEmpty && rn.isEmpty) || v3)) (w : World)
 (kx0 : cs[0]? = some (.string ⟨nm.toArray⟩)) (kx1 : cs[1]? = some (.int .i64 ln)) (kx2 : cs[2]? = some (.int .i64 co)) (kx3 : cs[3]? = some (x3)) (kx5 : cs[5]? = some (.string ⟨rt.toArray⟩)) (kx6 : cs[6]? = some (.string ⟨rn.toArray⟩)) (kx10 : cs[10]? = some (x10)) (kx11 : cs[11]? = some (x11))
 (hq0 : BC w 125 #[.string ⟨nm.toArray⟩] v0)
 (hq1 : BC w 156 #[qmP ln co] v1)
 (yK : BC w 154 #[qp 125 1048576 8,x3] v2)
 (hq3 : BC w 107 #[qp 125 1048576 8,qkb ⟨rt.toArray⟩ ⟨rn.toArray⟩] v3)
 (hq4 : BC w 157 #[qp 125 1048576 8,.agg cs] v4)
 (hq5 : BC w 106 #[x10,.int .i64 0,.int .i64 100,.func (.func 107) #[qp 125 1048576 8] #[]] v5)
 (hq6 : BC w 158 #[qp 125 1048576 8,x11] v6) :
 Calls Tryz.prog 135 #[qp 125 1048576 8,.agg cs] w fun e w' => e = .returned (.bool (v0 && v1 && v2 && vr && v4 && v5 && v6)) /\ Below w.heap.size w w':=by
 obtain ⟨T,N,hT,hN,hag,qK⟩:=qf1
 have e4 : ∀ y : Operand,Op.box 46 y = Op.box T y:=fun y => by rw [hT]
 have e1 : ∀ y : Operand,Op.load 46 y = Op.load T y:=fun y => by rw [hT]
 have qu : cs.size = N:=qn.trans hN.symm
 have HQ0:=hZ hq0
 have HQ1:=hZ hq1
 have yQ:=hZ yK
 have HQ3:=hZ hq3
 have HQ4:=hZ hq4
 have HQ5:=hZ hq5
 have HQ6:=hZ hq6
 obtain ⟨W1,qh⟩ : ∃ W1,W1 = (w.alloc (qv 125 1048576 8)).alloc (.cells cs T):=⟨_,rfl⟩
 have HB : Hid (Below w.heap.size w W1):=hZ (by rw [qh];exact (qd w _).chain (qd _ _))
 have p1:=qr (o:=.cells cs T) (qe w (qv 125 1048576 8))
 have p2:=qe (w.alloc (qv 125 1048576 8)) (.cells cs T)
 rw [qj] at p2
 rw [<- qh] at p1 p2
 have HF : Hid (∀ W,Below W1.heap.size W1 W -> W.cell? ⟨w.heap.size,0,none⟩ = some (.func (.func 125) #[] #[]) /\ W.cell? ⟨w.heap.size,1,none⟩ = some (.int .i64 1048576) /\ W.cell? ⟨w.heap.size,2,none⟩ = some (.int .i64 8) /\ W.cell? ⟨w.heap.size + 1,0,none⟩ = some (.string ⟨nm.toArray⟩) /\ W.cell? ⟨w.heap.size + 1,1,none⟩ = some (.int .i64 ln) /\ W.cell? ⟨w.heap.size + 1,2,none⟩ = some (.int .i64 co) /\ W.cell? ⟨w.heap.size + 1,3,none⟩ = some (x3) /\ W.cell? ⟨w.heap.size + 1,5,none⟩ = some (.string ⟨rt.toArray⟩) /\ W.cell? ⟨w.heap.size + 1,6,none⟩ = some (.string ⟨rn.toArray⟩) /\ W.cell? ⟨w.heap.size + 1,10,none⟩ = some (x10) /\ W.cell? ⟨w.heap.size + 1,11,none⟩ = some (x11) /\ (loadCellsFrom ⟨w.heap.size + 1,0,none⟩ 0 N #[]).run Tryz.prog W = .ok cs W) :=
  hZ (fun W hb => ⟨qc (qg hb p1) 0 rfl,qc (qg hb p1) 1 rfl,qc (qg hb p1) 2 rfl,qc (qg hb p2) 0 kx0,qc (qg hb p2) 1 kx1,qc (qg hb p2) 2 kx2,qc (qg hb p2) 3 kx3,qc (qg hb p2) 5 kx5,qc (qg hb p2) 6 kx6,qc (qg hb p2) 10 kx10,qc (qg hb p2) 11 kx11,qZ (fun j v hv => by rw [zD];exact qc (qg hb p2) j hv) qu⟩)
 have K1:=hZ (Below.refl W1.heap.size W1)
 have hF0:=HF.out _ K1.out
 rw [qh] at hF0
 obtain ⟨z0,z1,z2,z3,z4,z5,z6,z7,z8,z9,z10,z11⟩:=hF0
 clear z11
 clear hq0 hq1 yK hq3 hq4 hq5 hq6 hN p1 p2 qn kx0 kx1 kx2 kx3 kx5 kx6 kx10 kx11
 try unfold maxLen at *
 have HVR:=hZ hvr0
 clear hvr0
 cases v0 with
 | false =>
   go_enter Tryz.func135,Tryz.ntmps135
   simp only [e4,e1]
   clear e4 e1 hT
   go_wp2_with (go_at_call 125;rw [<- qh];clear qh;((with_reducible refine (HQ0.out _ (HB.out.chain K1.out)).mono ?_);rintro e w2 ⟨rfl,hb⟩);have K2:=hZ (K1.out.chain hb);clear hb;clear z0 z1 z2 z3 z4 z5 z6 z7 z8 z9 z10)
   go_ret
   exact ⟨rfl,HB.out.chain K2.out⟩
 | true =>
   cases v1 with
   | false =>
     go_enter Tryz.func135,Tryz.ntmps135
     simp only [e4,e1]
     clear e4 e1 hT
     go_wp2_with (first
      | (go_at_call 125;rw [<- qh];clear qh;((with_reducible refine (HQ0.out _ (HB.out.chain K1.out)).mono ?_);rintro e w2 ⟨rfl,hb⟩);have K2:=hZ (K1.out.chain hb);clear hb;clear z0 z1 z2 z3 z4 z5 z6 z7 z8 z9 z10;obtain ⟨-,-,-,-,g1_4,g1_5,-,-,-,-,-,-⟩:=HF.out _ K2.out)
      | (go_at_call 156;((with_reducible refine (HQ1.out _ (HB.out.chain K2.out)).mono ?_);rintro e w3 ⟨rfl,hb⟩);have K3:=hZ (K2.out.chain hb);clear hb;clear g1_4 g1_5))
     go_ret
     exact ⟨rfl,HB.out.chain K3.out⟩
   | true =>
     cases v2 with
     | false =>
       go_enter Tryz.func135,Tryz.ntmps135
       simp only [e4,e1]
       clear e4 e1 hT
       go_wp2_with (first
        | (go_at_call 125;rw [<- qh];clear qh;((with_reducible refine (HQ0.out _ (HB.out.chain K1.out)).mono ?_);rintro e w2 ⟨rfl,hb⟩);have K2:=hZ (K1.out.chain hb);clear hb;clear z0 z1 z2 z3 z4 z5 z6 z7 z8 z9 z10;obtain ⟨-,-,-,-,g1_4,g1_5,-,-,-,-,-,-⟩:=HF.out _ K2.out)
        | (go_at_call 156;((with_reducible refine (HQ1.out _ (HB.out.chain K2.out)).mono ?_);rintro e w3 ⟨rfl,hb⟩);have K3:=hZ (K2.out.chain hb);clear hb;clear g1_4 g1_5;obtain ⟨g2_0,g2_1,g2_2,-,-,-,g2_6,-,-,-,-,-⟩:=HF.out _ K3.out)
        | (go_at_call 154;((with_reducible refine (yQ.out _ (HB.out.chain K3.out)).mono ?_);rintro e w4 ⟨rfl,hb⟩);have K4:=hZ (K3.out.chain hb);clear hb;clear g2_0 g2_1 g2_2 g2_6))
       go_ret
       exact ⟨rfl,HB.out.chain K4.out⟩
     | true =>
       rcases rt with _ | ⟨x,rt⟩
       ·rcases rn with _ | ⟨y,rn⟩
        ·have hvr : vr = true:=HVR.out
         subst hvr
         cases v4 with
         | false =>
           go_enter Tryz.func135,Tryz.ntmps135
           simp only [e4,e1]
           clear e4 e1 hT
           go_wp2_with (first
            | (go_at_call 125;rw [<- qh];clear qh;((with_reducible refine (HQ0.out _ (HB.out.chain K1.out)).mono ?_);rintro e w2 ⟨rfl,hb⟩);have K2:=hZ (K1.out.chain hb);clear hb;clear z0 z1 z2 z3 z4 z5 z6 z7 z8 z9 z10;obtain ⟨-,-,-,-,g1_4,g1_5,-,-,-,-,-,-⟩:=HF.out _ K2.out)
            | (go_at_call 156;((with_reducible refine (HQ1.out _ (HB.out.chain K2.out)).mono ?_);rintro e w3 ⟨rfl,hb⟩);have K3:=hZ (K2.out.chain hb);clear hb;clear g1_4 g1_5;obtain ⟨g2_0,g2_1,g2_2,-,-,-,g2_6,-,-,-,-,-⟩:=HF.out _ K3.out)
            | (go_at_call 154;((with_reducible refine (yQ.out _ (HB.out.chain K3.out)).mono ?_);rintro e w4 ⟨rfl,hb⟩);have K4:=hZ (K3.out.chain hb);clear hb;clear g2_0 g2_1 g2_2 g2_6;obtain ⟨g3_0,g3_1,g3_2,-,-,-,-,g3_7,g3_8,-,-,g3_11⟩:=HF.out _ K4.out)
            | (go_at_call 157;((with_reducible refine (HQ4.out _ (HB.out.chain K4.out)).mono ?_);rintro e w5 ⟨rfl,hb⟩);have K5:=hZ (K4.out.chain hb);clear hb;clear g3_0 g3_1 g3_2 g3_7 g3_8 g3_11))
           go_ret
           exact ⟨rfl,HB.out.chain K5.out⟩
         | true =>
           cases v5 with
           | false =>
             go_enter Tryz.func135,Tryz.ntmps135
             simp only [e4,e1]
             clear e4 e1 hT
             go_wp2_with (first
              | (go_at_call 125;rw [<- qh];clear qh;((with_reducible refine (HQ0.out _ (HB.out.chain K1.out)).mono ?_);rintro e w2 ⟨rfl,hb⟩);have K2:=hZ (K1.out.chain hb);clear hb;clear z0 z1 z2 z3 z4 z5 z6 z7 z8 z9 z10;obtain ⟨-,-,-,-,g1_4,g1_5,-,-,-,-,-,-⟩:=HF.out _ K2.out)
              | (go_at_call 156;((with_reducible refine (HQ1.out _ (HB.out.chain K2.out)).mono ?_);rintro e w3 ⟨rfl,hb⟩);have K3:=hZ (K2.out.chain hb);clear hb;clear g1_4 g1_5;obtain ⟨g2_0,g2_1,g2_2,-,-,-,g2_6,-,-,-,-,-⟩:=HF.out _ K3.out)
              | (go_at_call 154;((with_reducible refine (yQ.out _ (HB.out.chain K3.out)).mono ?_);rintro e w4 ⟨rfl,hb⟩);have K4:=hZ (K3.out.chain hb);clear hb;clear g2_0 g2_1 g2_2 g2_6;obtain ⟨g3_0,g3_1,g3_2,-,-,-,-,g3_7,g3_8,-,-,g3_11⟩:=HF.out _ K4.out)
              | (go_at_call 157;((with_reducible refine (HQ4.out _ (HB.out.chain K4.out)).mono ?_);rintro e w5 ⟨rfl,hb⟩);have K5:=hZ (K4.out.chain hb);clear hb;clear g3_0 g3_1 g3_2 g3_7 g3_8 g3_11;obtain ⟨g4_0,g4_1,g4_2,-,-,-,-,-,-,g4_9,-,-⟩:=HF.out _ K5.out)
              | (go_at_call 106;((with_reducible refine (HQ5.out _ (HB.out.chain K5.out)).mono ?_);rintro e w6 ⟨rfl,hb⟩);have K6:=hZ (K5.out.chain hb);clear hb;clear g4_0 g4_1 g4_2 g4_9))
             go_ret
             exact ⟨rfl,HB.out.chain K6.out⟩
           | true =>
             cases v6 with
             | false =>
               go_enter Tryz.func135,Tryz.ntmps135
               simp only [e4,e1]
               clear e4 e1 hT
               go_wp2_with (first
                | (go_at_call 125;rw [<- qh];clear qh;((with_reducible refine (HQ0.out _ (HB.out.chain K1.out)).mono ?_);rintro e w2 ⟨rfl,hb⟩);have K2:=hZ (K1.out.chain hb);clear hb;clear z0 z1 z2 z3 z4 z5 z6 z7 z8 z9 z10;obtain ⟨-,-,-,-,g1_4,g1_5,-,-,-,-,-,-⟩:=HF.out _ K2.out)
                | (go_at_call 156;((with_reducible refine (HQ1.out _ (HB.out.chain K2.out)).mono ?_);rintro e w3 ⟨rfl,hb⟩);have K3:=hZ (K2.out.chain hb);clear hb;clear g1_4 g1_5;obtain ⟨g2_0,g2_1,g2_2,-,-,-,g2_6,-,-,-,-,-⟩:=HF.out _ K3.out)
                | (go_at_call 154;((with_reducible refine (yQ.out _ (HB.out.chain K3.out)).mono ?_);rintro e w4 ⟨rfl,hb⟩);have K4:=hZ (K3.out.chain hb);clear hb;clear g2_0 g2_1 g2_2 g2_6;obtain ⟨g3_0,g3_1,g3_2,-,-,-,-,g3_7,g3_8,-,-,g3_11⟩:=HF.out _ K4.out)
                | (go_at_call 157;((with_reducible refine (HQ4.out _ (HB.out.chain K4.out)).mono ?_);rintro e w5 ⟨rfl,hb⟩);have K5:=hZ (K4.out.chain hb);clear hb;clear g3_0 g3_1 g3_2 g3_7 g3_8 g3_11;obtain ⟨g4_0,g4_1,g4_2,-,-,-,-,-,-,g4_9,-,-⟩:=HF.out _ K5.out)
                | (go_at_call 106;((with_reducible refine (HQ5.out _ (HB.out.chain K5.out)).mono ?_);rintro e w6 ⟨rfl,hb⟩);have K6:=hZ (K5.out.chain hb);clear hb;clear g4_0 g4_1 g4_2 g4_9;obtain ⟨g5_0,g5_1,g5_2,-,-,-,-,-,-,-,g5_10,-⟩:=HF.out _ K6.out)
                | (go_at_call 158;((with_reducible refine (HQ6.out _ (HB.out.chain K6.out)).mono ?_);rintro e w7 ⟨rfl,hb⟩);have K7:=hZ (K6.out.chain hb);clear hb;clear g5_0 g5_1 g5_2 g5_10))
               go_ret
               exact ⟨rfl,HB.out.chain K7.out⟩
             | true =>
               go_enter Tryz.func135,Tryz.ntmps135
               simp only [e4,e1]
               clear e4 e1 hT
               go_wp2_with (first
                | (go_at_call 125;rw [<- qh];clear qh;((with_reducible refine (HQ0.out _ (HB.out.chain K1.out)).mono ?_);rintro e w2 ⟨rfl,hb⟩);have K2:=hZ (K1.out.chain hb);clear hb;clear z0 z1 z2 z3 z4 z5 z6 z7 z8 z9 z10;obtain ⟨-,-,-,-,g1_4,g1_5,-,-,-,-,-,-⟩:=HF.out _ K2.out)
                | (go_at_call 156;((with_reducible refine (HQ1.out _ (HB.out.chain K2.out)).mono ?_);rintro e w3 ⟨rfl,hb⟩);have K3:=hZ (K2.out.chain hb);clear hb;clear g1_4 g1_5;obtain ⟨g2_0,g2_1,g2_2,-,-,-,g2_6,-,-,-,-,-⟩:=HF.out _ K3.out)
                | (go_at_call 154;((with_reducible refine (yQ.out _ (HB.out.chain K3.out)).mono ?_);rintro e w4 ⟨rfl,hb⟩);have K4:=hZ (K3.out.chain hb);clear hb;clear g2_0 g2_1 g2_2 g2_6;obtain ⟨g3_0,g3_1,g3_2,-,-,-,-,g3_7,g3_8,-,-,g3_11⟩:=HF.out _ K4.out)
                | (go_at_call 157;((with_reducible refine (HQ4.out _ (HB.out.chain K4.out)).mono ?_);rintro e w5 ⟨rfl,hb⟩);have K5:=hZ (K4.out.chain hb);clear hb;clear g3_0 g3_1 g3_2 g3_7 g3_8 g3_11;obtain ⟨g4_0,g4_1,g4_2,-,-,-,-,-,-,g4_9,-,-⟩:=HF.out _ K5.out)
                | (go_at_call 106;((with_reducible refine (HQ5.out _ (HB.out.chain K5.out)).mono ?_);rintro e w6 ⟨rfl,hb⟩);have K6:=hZ (K5.out.chain hb);clear hb;clear g4_0 g4_1 g4_2 g4_9;obtain ⟨g5_0,g5_1,g5_2,-,-,-,-,-,-,-,g5_10,-⟩:=HF.out _ K6.out)
                | (go_at_call 158;((with_reducible refine (HQ6.out _ (HB.out.chain K6.out)).mono ?_);rintro e w7 ⟨rfl,hb⟩);have K7:=hZ (K6.out.chain hb);clear hb;clear g5_0 g5_1 g5_2 g5_10))
               go_ret
               exact ⟨rfl,HB.out.chain K7.out⟩
        ·skip
         have hvr : vr = v3:=HVR.out
         subst hvr
         cases vr with
         | false =>
           go_enter Tryz.func135,Tryz.ntmps135
           simp only [e4,e1]
           clear e4 e1 hT
           go_wp2_with (first
            | (go_at_call 125;rw [<- qh];clear qh;((with_reducible refine (HQ0.out _ (HB.out.chain K1.out)).mono ?_);rintro e w2 ⟨rfl,hb⟩);have K2:=hZ (K1.out.chain hb);clear hb;clear z0 z1 z2 z3 z4 z5 z6 z7 z8 z9 z10;obtain ⟨-,-,-,-,g1_4,g1_5,-,-,-,-,-,-⟩:=HF.out _ K2.out)
            | (go_at_call 156;((with_reducible refine (HQ1.out _ (HB.out.chain K2.out)).mono ?_);rintro e w3 ⟨rfl,hb⟩);have K3:=hZ (K2.out.chain hb);clear hb;clear g1_4 g1_5;obtain ⟨g2_0,g2_1,g2_2,-,-,-,g2_6,-,-,-,-,-⟩:=HF.out _ K3.out)
            | (go_at_call 154;((with_reducible refine (yQ.out _ (HB.out.chain K3.out)).mono ?_);rintro e w4 ⟨rfl,hb⟩);have K4:=hZ (K3.out.chain hb);clear hb;clear g2_0 g2_1 g2_2 g2_6;obtain ⟨g3_0,g3_1,g3_2,-,-,-,-,g3_7,g3_8,-,-,-⟩:=HF.out _ K4.out)
            | (go_at_call 107;((with_reducible refine (HQ3.out _ (HB.out.chain K4.out)).mono ?_);rintro e w5 ⟨rfl,hb⟩);have K5:=hZ (K4.out.chain hb);clear hb;clear g3_0 g3_1 g3_2 g3_7 g3_8))
           go_ret
           exact ⟨rfl,HB.out.chain K5.out⟩
         | true =>
           cases v4 with
           | false =>
             go_enter Tryz.func135,Tryz.ntmps135
             simp only [e4,e1]
             clear e4 e1 hT
             go_wp2_with (first
              | (go_at_call 125;rw [<- qh];clear qh;((with_reducible refine (HQ0.out _ (HB.out.chain K1.out)).mono ?_);rintro e w2 ⟨rfl,hb⟩);have K2:=hZ (K1.out.chain hb);clear hb;clear z0 z1 z2 z3 z4 z5 z6 z7 z8 z9 z10;obtain ⟨-,-,-,-,g1_4,g1_5,-,-,-,-,-,-⟩:=HF.out _ K2.out)
              | (go_at_call 156;((with_reducible refine (HQ1.out _ (HB.out.chain K2.out)).mono ?_);rintro e w3 ⟨rfl,hb⟩);have K3:=hZ (K2.out.chain hb);clear hb;clear g1_4 g1_5;obtain ⟨g2_0,g2_1,g2_2,-,-,-,g2_6,-,-,-,-,-⟩:=HF.out _ K3.out)
              | (go_at_call 154;((with_reducible refine (yQ.out _ (HB.out.chain K3.out)).mono ?_);rintro e w4 ⟨rfl,hb⟩);have K4:=hZ (K3.out.chain hb);clear hb;clear g2_0 g2_1 g2_2 g2_6;obtain ⟨g3_0,g3_1,g3_2,-,-,-,-,g3_7,g3_8,-,-,-⟩:=HF.out _ K4.out)
              | (go_at_call 107;((with_reducible refine (HQ3.out _ (HB.out.chain K4.out)).mono ?_);rintro e w5 ⟨rfl,hb⟩);have K5:=hZ (K4.out.chain hb);clear hb;clear g3_0 g3_1 g3_2 g3_7 g3_8;obtain ⟨g4_0,g4_1,g4_2,-,-,-,-,-,-,-,-,g4_11⟩:=HF.out _ K5.out)
              | (go_at_call 157;((with_reducible refine (HQ4.out _ (HB.out.chain K5.out)).mono ?_);rintro e w6 ⟨rfl,hb⟩);have K6:=hZ (K5.out.chain hb);clear hb;clear g4_0 g4_1 g4_2 g4_11))
             go_ret
             exact ⟨rfl,HB.out.chain K6.out⟩
           | true =>
             cases v5 with
             | false =>
               go_enter Tryz.func135,Tryz.ntmps135
               simp only [e4,e1]
               clear e4 e1 hT
               go_wp2_with (first
                | (go_at_call 125;rw [<- qh];clear qh;((with_reducible refine (HQ0.out _ (HB.out.chain K1.out)).mono ?_);rintro e w2 ⟨rfl,hb⟩);have K2:=hZ (K1.out.chain hb);clear hb;clear z0 z1 z2 z3 z4 z5 z6 z7 z8 z9 z10;obtain ⟨-,-,-,-,g1_4,g1_5,-,-,-,-,-,-⟩:=HF.out _ K2.out)
                | (go_at_call 156;((with_reducible refine (HQ1.out _ (HB.out.chain K2.out)).mono ?_);rintro e w3 ⟨rfl,hb⟩);have K3:=hZ (K2.out.chain hb);clear hb;clear g1_4 g1_5;obtain ⟨g2_0,g2_1,g2_2,-,-,-,g2_6,-,-,-,-,-⟩:=HF.out _ K3.out)
                | (go_at_call 154;((with_reducible refine (yQ.out _ (HB.out.chain K3.out)).mono ?_);rintro e w4 ⟨rfl,hb⟩);have K4:=hZ (K3.out.chain hb);clear hb;clear g2_0 g2_1 g2_2 g2_6;obtain ⟨g3_0,g3_1,g3_2,-,-,-,-,g3_7,g3_8,-,-,-⟩:=HF.out _ K4.out)
                | (go_at_call 107;((with_reducible refine (HQ3.out _ (HB.out.chain K4.out)).mono ?_);rintro e w5 ⟨rfl,hb⟩);have K5:=hZ (K4.out.chain hb);clear hb;clear g3_0 g3_1 g3_2 g3_7 g3_8;obtain ⟨g4_0,g4_1,g4_2,-,-,-,-,-,-,-,-,g4_11⟩:=HF.out _ K5.out)
                | (go_at_call 157;((with_reducible refine (HQ4.out _ (HB.out.chain K5.out)).mono ?_);rintro e w6 ⟨rfl,hb⟩);have K6:=hZ (K5.out.chain hb);clear hb;clear g4_0 g4_1 g4_2 g4_11;obtain ⟨g5_0,g5_1,g5_2,-,-,-,-,-,-,g5_9,-,-⟩:=HF.out _ K6.out)
                | (go_at_call 106;((with_reducible refine (HQ5.out _ (HB.out.chain K6.out)).mono ?_);rintro e w7 ⟨rfl,hb⟩);have K7:=hZ (K6.out.chain hb);clear hb;clear g5_0 g5_1 g5_2 g5_9))
               go_ret
               exact ⟨rfl,HB.out.chain K7.out⟩
             | true =>
               cases v6 with
               | false =>
                 go_enter Tryz.func135,Tryz.ntmps135
                 simp only [e4,e1]
                 clear e4 e1 hT
                 go_wp2_with (first
                  | (go_at_call 125;rw [<- qh];clear qh;((with_reducible refine (HQ0.out _ (HB.out.chain K1.out)).mono ?_);rintro e w2 ⟨rfl,hb⟩);have K2:=hZ (K1.out.chain hb);clear hb;clear z0 z1 z2 z3 z4 z5 z6 z7 z8 z9 z10;obtain ⟨-,-,-,-,g1_4,g1_5,-,-,-,-,-,-⟩:=HF.out _ K2.out)
                  | (go_at_call 156;((with_reducible refine (HQ1.out _ (HB.out.chain K2.out)).mono ?_);rintro e w3 ⟨rfl,hb⟩);have K3:=hZ (K2.out.chain hb);clear hb;clear g1_4 g1_5;obtain ⟨g2_0,g2_1,g2_2,-,-,-,g2_6,-,-,-,-,-⟩:=HF.out _ K3.out)
                  | (go_at_call 154;((with_reducible refine (yQ.out _ (HB.out.chain K3.out)).mono ?_);rintro e w4 ⟨rfl,hb⟩);have K4:=hZ (K3.out.chain hb);clear hb;clear g2_0 g2_1 g2_2 g2_6;obtain ⟨g3_0,g3_1,g3_2,-,-,-,-,g3_7,g3_8,-,-,-⟩:=HF.out _ K4.out)
                  | (go_at_call 107;((with_reducible refine (HQ3.out _ (HB.out.chain K4.out)).mono ?_);rintro e w5 ⟨rfl,hb⟩);have K5:=hZ (K4.out.chain hb);clear hb;clear g3_0 g3_1 g3_2 g3_7 g3_8;obtain ⟨g4_0,g4_1,g4_2,-,-,-,-,-,-,-,-,g4_11⟩:=HF.out _ K5.out)
                  | (go_at_call 157;((with_reducible refine (HQ4.out _ (HB.out.chain K5.out)).mono ?_);rintro e w6 ⟨rfl,hb⟩);have K6:=hZ (K5.out.chain hb);clear hb;clear g4_0 g4_1 g4_2 g4_11;obtain ⟨g5_0,g5_1,g5_2,-,-,-,-,-,-,g5_9,-,-⟩:=HF.out _ K6.out)
                  | (go_at_call 106;((with_reducible refine (HQ5.out _ (HB.out.chain K6.out)).mono ?_);rintro e w7 ⟨rfl,hb⟩);have K7:=hZ (K6.out.chain hb);clear hb;clear g5_0 g5_1 g5_2 g5_9;obtain ⟨g6_0,g6_1,g6_2,-,-,-,-,-,-,-,g6_10,-⟩:=HF.out _ K7.out)
                  | (go_at_call 158;((with_reducible refine (HQ6.out _ (HB.out.chain K7.out)).mono ?_);rintro e w8 ⟨rfl,hb⟩);have K8:=hZ (K7.out.chain hb);clear hb;clear g6_0 g6_1 g6_2 g6_10))
                 go_ret
                 exact ⟨rfl,HB.out.chain K8.out⟩
               | true =>
                 go_enter Tryz.func135,Tryz.ntmps135
                 simp only [e4,e1]
                 clear e4 e1 hT
                 go_wp2_with (first
                  | (go_at_call 125;rw [<- qh];clear qh;((with_reducible refine (HQ0.out _ (HB.out.chain K1.out)).mono ?_);rintro e w2 ⟨rfl,hb⟩);have K2:=hZ (K1.out.chain hb);clear hb;clear z0 z1 z2 z3 z4 z5 z6 z7 z8 z9 z10;obtain ⟨-,-,-,-,g1_4,g1_5,-,-,-,-,-,-⟩:=HF.out _ K2.out)
                  | (go_at_call 156;((with_reducible refine (HQ1.out _ (HB.out.chain K2.out)).mono ?_);rintro e w3 ⟨rfl,hb⟩);have K3:=hZ (K2.out.chain hb);clear hb;clear g1_4 g1_5;obtain ⟨g2_0,g2_1,g2_2,-,-,-,g2_6,-,-,-,-,-⟩:=HF.out _ K3.out)
                  | (go_at_call 154;((with_reducible refine (yQ.out _ (HB.out.chain K3.out)).mono ?_);rintro e w4 ⟨rfl,hb⟩);have K4:=hZ (K3.out.chain hb);clear hb;clear g2_0 g2_1 g2_2 g2_6;obtain ⟨g3_0,g3_1,g3_2,-,-,-,-,g3_7,g3_8,-,-,-⟩:=HF.out _ K4.out)
                  | (go_at_call 107;((with_reducible refine (HQ3.out _ (HB.out.chain K4.out)).mono ?_);rintro e w5 ⟨rfl,hb⟩);have K5:=hZ (K4.out.chain hb);clear hb;clear g3_0 g3_1 g3_2 g3_7 g3_8;obtain ⟨g4_0,g4_1,g4_2,-,-,-,-,-,-,-,-,g4_11⟩:=HF.out _ K5.out)
                  | (go_at_call 157;((with_reducible refine (HQ4.out _ (HB.out.chain K5.out)).mono ?_);rintro e w6 ⟨rfl,hb⟩);have K6:=hZ (K5.out.chain hb);clear hb;clear g4_0 g4_1 g4_2 g4_11;obtain ⟨g5_0,g5_1,g5_2,-,-,-,-,-,-,g5_9,-,-⟩:=HF.out _ K6.out)
                  | (go_at_call 106;((with_reducible refine (HQ5.out _ (HB.out.chain K6.out)).mono ?_);rintro e w7 ⟨rfl,hb⟩);have K7:=hZ (K6.out.chain hb);clear hb;clear g5_0 g5_1 g5_2 g5_9;obtain ⟨g6_0,g6_1,g6_2,-,-,-,-,-,-,-,g6_10,-⟩:=HF.out _ K7.out)
                  | (go_at_call 158;((with_reducible refine (HQ6.out _ (HB.out.chain K7.out)).mono ?_);rintro e w8 ⟨rfl,hb⟩);have K8:=hZ (K7.out.chain hb);clear hb;clear g6_0 g6_1 g6_2 g6_10))
                 go_ret
                 exact ⟨rfl,HB.out.chain K8.out⟩
       ·skip
        have hvr : vr = v3:=HVR.out
        subst hvr
        cases vr with
        | false =>
          go_enter Tryz.func135,Tryz.ntmps135
          simp only [e4,e1]
          clear e4 e1 hT
          go_wp2_with (first
           | (go_at_call 125;rw [<- qh];clear qh;((with_reducible refine (HQ0.out _ (HB.out.chain K1.out)).mono ?_);rintro e w2 ⟨rfl,hb⟩);have K2:=hZ (K1.out.chain hb);clear hb;clear z0 z1 z2 z3 z4 z5 z6 z7 z8 z9 z10;obtain ⟨-,-,-,-,g1_4,g1_5,-,-,-,-,-,-⟩:=HF.out _ K2.out)
           | (go_at_call 156;((with_reducible refine (HQ1.out _ (HB.out.chain K2.out)).mono ?_);rintro e w3 ⟨rfl,hb⟩);have K3:=hZ (K2.out.chain hb);clear hb;clear g1_4 g1_5;obtain ⟨g2_0,g2_1,g2_2,-,-,-,g2_6,-,-,-,-,-⟩:=HF.out _ K3.out)
           | (go_at_call 154;((with_reducible refine (yQ.out _ (HB.out.chain K3.out)).mono ?_);rintro e w4 ⟨rfl,hb⟩);have K4:=hZ (K3.out.chain hb);clear hb;clear g2_0 g2_1 g2_2 g2_6;obtain ⟨g3_0,g3_1,g3_2,-,-,-,-,g3_7,g3_8,-,-,-⟩:=HF.out _ K4.out)
           | (go_at_call 107;((with_reducible refine (HQ3.out _ (HB.out.chain K4.out)).mono ?_);rintro e w5 ⟨rfl,hb⟩);have K5:=hZ (K4.out.chain hb);clear hb;clear g3_0 g3_1 g3_2 g3_7 g3_8))
          go_ret
          exact ⟨rfl,HB.out.chain K5.out⟩
        | true =>
          cases v4 with
          | false =>
            go_enter Tryz.func135,Tryz.ntmps135
            simp only [e4,e1]
            clear e4 e1 hT
            go_wp2_with (first
             | (go_at_call 125;rw [<- qh];clear qh;((with_reducible refine (HQ0.out _ (HB.out.chain K1.out)).mono ?_);rintro e w2 ⟨rfl,hb⟩);have K2:=hZ (K1.out.chain hb);clear hb;clear z0 z1 z2 z3 z4 z5 z6 z7 z8 z9 z10;obtain ⟨-,-,-,-,g1_4,g1_5,-,-,-,-,-,-⟩:=HF.out _ K2.out)
             | (go_at_call 156;((with_reducible refine (HQ1.out _ (HB.out.chain K2.out)).mono ?_);rintro e w3 ⟨rfl,hb⟩);have K3:=hZ (K2.out.chain hb);clear hb;clear g1_4 g1_5;obtain ⟨g2_0,g2_1,g2_2,-,-,-,g2_6,-,-,-,-,-⟩:=HF.out _ K3.out)
             | (go_at_call 154;((with_reducible refine (yQ.out _ (HB.out.chain K3.out)).mono ?_);rintro e w4 ⟨rfl,hb⟩);have K4:=hZ (K3.out.chain hb);clear hb;clear g2_0 g2_1 g2_2 g2_6;obtain ⟨g3_0,g3_1,g3_2,-,-,-,-,g3_7,g3_8,-,-,-⟩:=HF.out _ K4.out)
             | (go_at_call 107;((with_reducible refine (HQ3.out _ (HB.out.chain K4.out)).mono ?_);rintro e w5 ⟨rfl,hb⟩);have K5:=hZ (K4.out.chain hb);clear hb;clear g3_0 g3_1 g3_2 g3_7 g3_8;obtain ⟨g4_0,g4_1,g4_2,-,-,-,-,-,-,-,-,g4_11⟩:=HF.out _ K5.out)
             | (go_at_call 157;((with_reducible refine (HQ4.out _ (HB.out.chain K5.out)).mono ?_);rintro e w6 ⟨rfl,hb⟩);have K6:=hZ (K5.out.chain hb);clear hb;clear g4_0 g4_1 g4_2 g4_11))
            go_ret
            exact ⟨rfl,HB.out.chain K6.out⟩
          | true =>
            cases v5 with
            | false =>
              go_enter Tryz.func135,Tryz.ntmps135
              simp only [e4,e1]
              clear e4 e1 hT
              go_wp2_with (first
               | (go_at_call 125;rw [<- qh];clear qh;((with_reducible refine (HQ0.out _ (HB.out.chain K1.out)).mono ?_);rintro e w2 ⟨rfl,hb⟩);have K2:=hZ (K1.out.chain hb);clear hb;clear z0 z1 z2 z3 z4 z5 z6 z7 z8 z9 z10;obtain ⟨-,-,-,-,g1_4,g1_5,-,-,-,-,-,-⟩:=HF.out _ K2.out)
               | (go_at_call 156;((with_reducible refine (HQ1.out _ (HB.out.chain K2.out)).mono ?_);rintro e w3 ⟨rfl,hb⟩);have K3:=hZ (K2.out.chain hb);clear hb;clear g1_4 g1_5;obtain ⟨g2_0,g2_1,g2_2,-,-,-,g2_6,-,-,-,-,-⟩:=HF.out _ K3.out)
               | (go_at_call 154;((with_reducible refine (yQ.out _ (HB.out.chain K3.out)).mono ?_);rintro e w4 ⟨rfl,hb⟩);have K4:=hZ (K3.out.chain hb);clear hb;clear g2_0 g2_1 g2_2 g2_6;obtain ⟨g3_0,g3_1,g3_2,-,-,-,-,g3_7,g3_8,-,-,-⟩:=HF.out _ K4.out)
               | (go_at_call 107;((with_reducible refine (HQ3.out _ (HB.out.chain K4.out)).mono ?_);rintro e w5 ⟨rfl,hb⟩);have K5:=hZ (K4.out.chain hb);clear hb;clear g3_0 g3_1 g3_2 g3_7 g3_8;obtain ⟨g4_0,g4_1,g4_2,-,-,-,-,-,-,-,-,g4_11⟩:=HF.out _ K5.out)
               | (go_at_call 157;((with_reducible refine (HQ4.out _ (HB.out.chain K5.out)).mono ?_);rintro e w6 ⟨rfl,hb⟩);have K6:=hZ (K5.out.chain hb);clear hb;clear g4_0 g4_1 g4_2 g4_11;obtain ⟨g5_0,g5_1,g5_2,-,-,-,-,-,-,g5_9,-,-⟩:=HF.out _ K6.out)
               | (go_at_call 106;((with_reducible refine (HQ5.out _ (HB.out.chain K6.out)).mono ?_);rintro e w7 ⟨rfl,hb⟩);have K7:=hZ (K6.out.chain hb);clear hb;clear g5_0 g5_1 g5_2 g5_9))
              go_ret
              exact ⟨rfl,HB.out.chain K7.out⟩
            | true =>
              cases v6 with
              | false =>
                go_enter Tryz.func135,Tryz.ntmps135
                simp only [e4,e1]
                clear e4 e1 hT
                go_wp2_with (first
                 | (go_at_call 125;rw [<- qh];clear qh;((with_reducible refine (HQ0.out _ (HB.out.chain K1.out)).mono ?_);rintro e w2 ⟨rfl,hb⟩);have K2:=hZ (K1.out.chain hb);clear hb;clear z0 z1 z2 z3 z4 z5 z6 z7 z8 z9 z10;obtain ⟨-,-,-,-,g1_4,g1_5,-,-,-,-,-,-⟩:=HF.out _ K2.out)
                 | (go_at_call 156;((with_reducible refine (HQ1.out _ (HB.out.chain K2.out)).mono ?_);rintro e w3 ⟨rfl,hb⟩);have K3:=hZ (K2.out.chain hb);clear hb;clear g1_4 g1_5;obtain ⟨g2_0,g2_1,g2_2,-,-,-,g2_6,-,-,-,-,-⟩:=HF.out _ K3.out)
                 | (go_at_call 154;((with_reducible refine (yQ.out _ (HB.out.chain K3.out)).mono ?_);rintro e w4 ⟨rfl,hb⟩);have K4:=hZ (K3.out.chain hb);clear hb;clear g2_0 g2_1 g2_2 g2_6;obtain ⟨g3_0,g3_1,g3_2,-,-,-,-,g3_7,g3_8,-,-,-⟩:=HF.out _ K4.out)
                 | (go_at_call 107;((with_reducible refine (HQ3.out _ (HB.out.chain K4.out)).mono ?_);rintro e w5 ⟨rfl,hb⟩);have K5:=hZ (K4.out.chain hb);clear hb;clear g3_0 g3_1 g3_2 g3_7 g3_8;obtain ⟨g4_0,g4_1,g4_2,-,-,-,-,-,-,-,-,g4_11⟩:=HF.out _ K5.out)
                 | (go_at_call 157;((with_reducible refine (HQ4.out _ (HB.out.chain K5.out)).mono ?_);rintro e w6 ⟨rfl,hb⟩);have K6:=hZ (K5.out.chain hb);clear hb;clear g4_0 g4_1 g4_2 g4_11;obtain ⟨g5_0,g5_1,g5_2,-,-,-,-,-,-,g5_9,-,-⟩:=HF.out _ K6.out)
                 | (go_at_call 106;((with_reducible refine (HQ5.out _ (HB.out.chain K6.out)).mono ?_);rintro e w7 ⟨rfl,hb⟩);have K7:=hZ (K6.out.chain hb);clear hb;clear g5_0 g5_1 g5_2 g5_9;obtain ⟨g6_0,g6_1,g6_2,-,-,-,-,-,-,-,g6_10,-⟩:=HF.out _ K7.out)
                 | (go_at_call 158;((with_reducible refine (HQ6.out _ (HB.out.chain K7.out)).mono ?_);rintro e w8 ⟨rfl,hb⟩);have K8:=hZ (K7.out.chain hb);clear hb;clear g6_0 g6_1 g6_2 g6_10))
                go_ret
                exact ⟨rfl,HB.out.chain K8.out⟩
              | true =>
                go_enter Tryz.func135,Tryz.ntmps135
                simp only [e4,e1]
                clear e4 e1 hT
                go_wp2_with (first
                 | (go_at_call 125;rw [<- qh];clear qh;((with_reducible refine (HQ0.out _ (HB.out.chain K1.out)).mono ?_);rintro e w2 ⟨rfl,hb⟩);have K2:=hZ (K1.out.chain hb);clear hb;clear z0 z1 z2 z3 z4 z5 z6 z7 z8 z9 z10;obtain ⟨-,-,-,-,g1_4,g1_5,-,-,-,-,-,-⟩:=HF.out _ K2.out)
                 | (go_at_call 156;((with_reducible refine (HQ1.out _ (HB.out.chain K2.out)).mono ?_);rintro e w3 ⟨rfl,hb⟩);have K3:=hZ (K2.out.chain hb);clear hb;clear g1_4 g1_5;obtain ⟨g2_0,g2_1,g2_2,-,-,-,g2_6,-,-,-,-,-⟩:=HF.out _ K3.out)
                 | (go_at_call 154;((with_reducible refine (yQ.out _ (HB.out.chain K3.out)).mono ?_);rintro e w4 ⟨rfl,hb⟩);have K4:=hZ (K3.out.chain hb);clear hb;clear g2_0 g2_1 g2_2 g2_6;obtain ⟨g3_0,g3_1,g3_2,-,-,-,-,g3_7,g3_8,-,-,-⟩:=HF.out _ K4.out)
                 | (go_at_call 107;((with_reducible refine (HQ3.out _ (HB.out.chain K4.out)).mono ?_);rintro e w5 ⟨rfl,hb⟩);have K5:=hZ (K4.out.chain hb);clear hb;clear g3_0 g3_1 g3_2 g3_7 g3_8;obtain ⟨g4_0,g4_1,g4_2,-,-,-,-,-,-,-,-,g4_11⟩:=HF.out _ K5.out)
                 | (go_at_call 157;((with_reducible refine (HQ4.out _ (HB.out.chain K5.out)).mono ?_);rintro e w6 ⟨rfl,hb⟩);have K6:=hZ (K5.out.chain hb);clear hb;clear g4_0 g4_1 g4_2 g4_11;obtain ⟨g5_0,g5_1,g5_2,-,-,-,-,-,-,g5_9,-,-⟩:=HF.out _ K6.out)
                 | (go_at_call 106;((with_reducible refine (HQ5.out _ (HB.out.chain K6.out)).mono ?_);rintro e w7 ⟨rfl,hb⟩);have K7:=hZ (K6.out.chain hb);clear hb;clear g5_0 g5_1 g5_2 g5_9;obtain ⟨g6_0,g6_1,g6_2,-,-,-,-,-,-,-,g6_10,-⟩:=HF.out _ K7.out)
                 | (go_at_call 158;((with_reducible refine (HQ6.out _ (HB.out.chain K7.out)).mono ?_);rintro e w8 ⟨rfl,hb⟩);have K8:=hZ (K7.out.chain hb);clear hb;clear g6_0 g6_1 g6_2 g6_10))
                go_ret
                exact ⟨rfl,HB.out.chain K8.out⟩
theorem qp4 (d : PAd) (x : Pr) (w : World) (hp : yY w) (own : xJ w w.heap.size d x) :
 Calls Tryz.prog 135 #[qp 125 1048576 8,.agg (jJ d x)] w fun e w' => e = .returned (.bool (vPr x)) /\ Below w.heap.size w w':=by
 have own':=own
 obtain ⟨⟨b0,b1,b2,b3,b4,b5,b6,b7,b8⟩,r0,r1,r2,r3,r4,r5⟩:=own'
 exact qsB (jJ d x) rfl x.nm x.rt x.rn x.ln x.co _ _ _ (zu x.nm) (qg3 x.ln x.co) (vPs x.ps) (tyB x.rt && zu x.rn) (vCt x.ct x.lg x.rq x.es) (decide ((0 : Int) <= x.lo.length) && decide ((x.lo.length : Int) <= 100) && x.lo.all (vP zu)) (vx zu 1048576 8 30 x.bd) (vRes x.rt x.rn) rfl w rfl rfl rfl rfl rfl rfl rfl rfl
  (fun W hb => vo x.nm W b0) (fun W hb => qi3 x.ln x.co W) (fun W hb => qbD x.ps d.p d.np W b1 (r0.on zj hb)) (fun W hb => qi5 _ zu qbr 1048576 8 x.rt x.rn W b3 b4) (fun W hb => qkK d x W (own.on hb))
  (fun W hb => qdS _ zu qbr 1048576 8 x.lo d.l d.nl 0 100 W b7 (r4.on zj hb)) (fun W hb => qmK _ zu qbr 1048576 8 (by omega) (by omega) x.bd d.b d.nb W (hp.on hb) (r5.on hb) b8)
end
section
set_option maxRecDepth 100000
set_option maxHeartbeats 8000000
open Go.RowKit
theorem qll (d : GAd) (p : Pg) (w : World) (hp : yY w) (own : xK w w.heap.size d p) :
 Calls Tryz.prog 92 #[qp 125 1048576 8,.agg #[.slice d.r p.rs.length d.nr,.slice d.g p.gs.length d.ng,.slice d.k p.ks.length d.nk,.slice d.d p.ds.length d.nd,.slice d.m p.ms.length d.nm,.slice d.x p.xs.length d.nx]] w fun e w' => e = .returned (.bool (xT p)) /\ Below w.heap.size w w':=by
 obtain ⟨⟨b0,b1,b2,b3,b4,b5⟩,r0,r1,r2,r3,r4,r5⟩:=own
 obtain ⟨v0,xh⟩ : ∃ v,v = (decide ((0 : Int) <= p.rs.length) && decide ((p.rs.length : Int) <= 100) && p.rs.all vRc):=⟨_,rfl⟩
 obtain ⟨v1,jo⟩ : ∃ v,v = (decide ((0 : Int) <= p.gs.length) && decide ((p.gs.length : Int) <= 100) && p.gs.all (vP zu)):=⟨_,rfl⟩
 obtain ⟨v2,je⟩ : ∃ v,v = (decide ((0 : Int) <= p.ks.length) && decide ((p.ks.length : Int) <= 100) && p.ks.all vLk):=⟨_,rfl⟩
 obtain ⟨v3,hv3⟩ : ∃ v,v = (decide ((0 : Int) <= p.ds.length) && decide ((p.ds.length : Int) <= 100) && p.ds.all vDf):=⟨_,rfl⟩
 obtain ⟨v4,hv4⟩ : ∃ v,v = (decide ((0 : Int) <= p.ms.length) && decide ((p.ms.length : Int) <= 100) && p.ms.all vLm):=⟨_,rfl⟩
 obtain ⟨v5,hv5⟩ : ∃ v,v = (decide ((0 : Int) <= p.xs.length) && decide ((p.xs.length : Int) <= 100) && p.xs.all vPr):=⟨_,rfl⟩
 have zK : xT p = (v0 && v1 && v2 && v3 && v4 && v5):=by
  rw [xh,jo,je,hv3,hv4,hv5]
  rfl
 rw [zK]
 have H0 : Hid (BC w 126 #[.slice d.r p.rs.length d.nr,.int .i64 0,.int .i64 100,.func (.func 127) #[qp 125 1048576 8] #[]] v0):=hZ (fun W hb => by rw [xh];exact qta vRc 127 #[qp 125 1048576 8] #[] (enters_of Tryz.func127 (by kernel_rfl) rfl) p.rs d.r d.nr 0 100 W b0 (r0.on qeX hb) (fun x v W hx zA hv => by obtain ⟨A,c,rfl,h1,h2,h3⟩:=hv;exact qmL x.nm x.fs A c W h1 h2 h3))
 have H1 : Hid (BC w 106 #[.slice d.g p.gs.length d.ng,.int .i64 0,.int .i64 100,.func (.func 107) #[qp 125 1048576 8] #[]] v1):=hZ (fun W hb => by rw [jo];exact qdS _ zu qbr 1048576 8 p.gs d.g d.ng 0 100 W b1 (r1.on zj hb))
 have H2 : Hid (BC w 128 #[.slice d.k p.ks.length d.nk,.int .i64 0,.int .i64 100,.func (.func 129) #[qp 125 1048576 8] #[]] v2):=hZ (fun W hb => by rw [je];exact qr7 vLk 129 #[qp 125 1048576 8] #[] (enters_of Tryz.func129 (by kernel_rfl) rfl) p.ks d.k d.nk 0 100 W b2 (r2.on qe3 hb) (fun x v W hx zA hv => by obtain ⟨A,c,rfl,h1,h2,h3⟩:=hv;exact qqe x.nm x.iv A c W h1 h2 h3))
 have H3 : Hid (BC w 130 #[.slice d.d p.ds.length d.nd,.int .i64 0,.int .i64 100,.func (.func 131) #[qp 125 1048576 8] #[]] v3):=hZ (fun W hb => by rw [hv3];exact qtb vDf 131 #[qp 125 1048576 8] #[] (enters_of Tryz.func131 (by kernel_rfl) rfl) p.ds d.d d.nd 0 100 W b3 (r3.on qfd hb) (fun x v W hx zA hv => by obtain ⟨A,c,A2,c2,rfl,h1,h2,h3,h4,h5⟩:=hv;exact qs0 x.nm x.ps x.cs A c A2 c2 W h1 h2 h3 h4 h5))
 have H4 : Hid (BC w 132 #[.slice d.m p.ms.length d.nm,.int .i64 0,.int .i64 100,.func (.func 133) #[qp 125 1048576 8] #[]] v4):=hZ (fun W hb => by rw [hv4];exact qpE vLm 133 #[qp 125 1048576 8] #[] (enters_of Tryz.func133 (by kernel_rfl) rfl) p.ms d.m d.nm 0 100 W b4 (r4.on qe2 hb) (fun x v W hx zA hv => by obtain ⟨A,c,e,f,rfl,h1,h2,h3,h4,h5⟩:=hv;exact qoi x.nm x.ps x.lf x.rt A c e f W h1 h2 h3 h4 h5))
 have H5 : Hid (BC w 134 #[.slice d.x p.xs.length d.nx,.int .i64 0,.int .i64 100,.func (.func 135) #[qp 125 1048576 8] #[]] v5):=hZ (fun W hb => by rw [hv5];exact qr6 vPr 135 #[qp 125 1048576 8] #[] (enters_of Tryz.func135 (by kernel_rfl) rfl) p.xs d.x d.nx 0 100 W b5 (r5.on qg5 hb) (fun x v W hx zA hv => by obtain ⟨e,rfl,h1⟩:=hv;exact qp4 e x W (hp.on (hb.chain zA)) h1))
 generalize p.rs.length = n0 at *
 generalize p.gs.length = n1 at *
 generalize p.ks.length = n2 at *
 generalize p.ds.length = n3 at *
 generalize p.ms.length = n4 at *
 generalize p.xs.length = n5 at *
 obtain ⟨W1,qh⟩ : ∃ W1,W1 = (w.alloc (qv 125 1048576 8)).alloc (.cells #[.slice d.r n0 d.nr,.slice d.g n1 d.ng,.slice d.k n2 d.nk,.slice d.d n3 d.nd,.slice d.m n4 d.nm,.slice d.x n5 d.nx] 29):=⟨_,rfl⟩
 have HB : Hid (Below w.heap.size w W1):=hZ (by rw [qh];exact (qd w _).chain (qd _ _))
 have q1:=qr (o:=.cells #[.slice d.r n0 d.nr,.slice d.g n1 d.ng,.slice d.k n2 d.nk,.slice d.d n3 d.nd,.slice d.m n4 d.nm,.slice d.x n5 d.nx] 29) (qe w (qv 125 1048576 8))
 have q2:=qe (w.alloc (qv 125 1048576 8)) (.cells #[.slice d.r n0 d.nr,.slice d.g n1 d.ng,.slice d.k n2 d.nk,.slice d.d n3 d.nd,.slice d.m n4 d.nm,.slice d.x n5 d.nx] 29)
 rw [qj] at q2
 rw [<- qh] at q1 q2
 have HF : Hid (∀ W,Below W1.heap.size W1 W -> W.cell? ⟨w.heap.size,0,none⟩ = some (.func (.func 125) #[] #[]) /\ W.cell? ⟨w.heap.size,1,none⟩ = some (.int .i64 1048576) /\ W.cell? ⟨w.heap.size,2,none⟩ = some (.int .i64 8) /\ W.cell? ⟨w.heap.size + 1,0,none⟩ = some (.slice d.r n0 d.nr) /\ W.cell? ⟨w.heap.size + 1,1,none⟩ = some (.slice d.g n1 d.ng) /\ W.cell? ⟨w.heap.size + 1,2,none⟩ = some (.slice d.k n2 d.nk) /\ W.cell? ⟨w.heap.size + 1,3,none⟩ = some (.slice d.d n3 d.nd) /\ W.cell? ⟨w.heap.size + 1,4,none⟩ = some (.slice d.m n4 d.nm) /\ W.cell? ⟨w.heap.size + 1,5,none⟩ = some (.slice d.x n5 d.nx)) :=
  hZ (fun W hb => ⟨qc (qg hb q1) 0 rfl,qc (qg hb q1) 1 rfl,qc (qg hb q1) 2 rfl,qc (qg hb q2) 0 rfl,qc (qg hb q2) 1 rfl,qc (qg hb q2) 2 rfl,qc (qg hb q2) 3 rfl,qc (qg hb q2) 4 rfl,qc (qg hb q2) 5 rfl⟩)
 have K1:=hZ (Below.refl W1.heap.size W1)
 clear q1 q2 zK xh jo je hv3 hv4 hv5 hp r0 r1 r2 r3 r4 r5
 try unfold maxLen at *
 cases v0 with
 | false =>
   go_enter Tryz.func92,Tryz.ntmps92
   go_wp2_with (go_at_call 126;rw [<- qh];clear qh;((with_reducible refine (H0.out _ (HB.out.chain K1.out)).mono ?_);rintro e w2 ⟨rfl,hb⟩);have K2:=hZ (K1.out.chain hb);clear hb)
   go_ret
   exact ⟨rfl,HB.out.chain K2.out⟩
 | true =>
   cases v1 with
   | false =>
     go_enter Tryz.func92,Tryz.ntmps92
     go_wp2_with (first
      | (go_at_call 126;rw [<- qh];clear qh;((with_reducible refine (H0.out _ (HB.out.chain K1.out)).mono ?_);rintro e w2 ⟨rfl,hb⟩);have K2:=hZ (K1.out.chain hb);obtain ⟨g1_0,g1_1,g1_2,g1_3,g1_4,g1_5,g1_6,g1_7,g1_8⟩:=HF.out _ K2.out;clear hb)
      | (go_at_call 106;((with_reducible refine (H1.out _ (HB.out.chain K2.out)).mono ?_);rintro e w3 ⟨rfl,hb⟩);have K3:=hZ (K2.out.chain hb);clear hb))
     go_ret
     exact ⟨rfl,HB.out.chain K3.out⟩
   | true =>
     cases v2 with
     | false =>
       go_enter Tryz.func92,Tryz.ntmps92
       go_wp2_with (first
        | (go_at_call 126;rw [<- qh];clear qh;((with_reducible refine (H0.out _ (HB.out.chain K1.out)).mono ?_);rintro e w2 ⟨rfl,hb⟩);have K2:=hZ (K1.out.chain hb);obtain ⟨g1_0,g1_1,g1_2,g1_3,g1_4,g1_5,g1_6,g1_7,g1_8⟩:=HF.out _ K2.out;clear hb)
        | (go_at_call 106;((with_reducible refine (H1.out _ (HB.out.chain K2.out)).mono ?_);rintro e w3 ⟨rfl,hb⟩);have K3:=hZ (K2.out.chain hb);obtain ⟨g2_0,g2_1,g2_2,g2_3,g2_4,g2_5,g2_6,g2_7,g2_8⟩:=HF.out _ K3.out;clear hb)
        | (go_at_call 128;((with_reducible refine (H2.out _ (HB.out.chain K3.out)).mono ?_);rintro e w4 ⟨rfl,hb⟩);have K4:=hZ (K3.out.chain hb);clear hb))
       go_ret
       exact ⟨rfl,HB.out.chain K4.out⟩
     | true =>
       cases v3 with
       | false =>
         go_enter Tryz.func92,Tryz.ntmps92
         go_wp2_with (first
          | (go_at_call 126;rw [<- qh];clear qh;((with_reducible refine (H0.out _ (HB.out.chain K1.out)).mono ?_);rintro e w2 ⟨rfl,hb⟩);have K2:=hZ (K1.out.chain hb);obtain ⟨g1_0,g1_1,g1_2,g1_3,g1_4,g1_5,g1_6,g1_7,g1_8⟩:=HF.out _ K2.out;clear hb)
          | (go_at_call 106;((with_reducible refine (H1.out _ (HB.out.chain K2.out)).mono ?_);rintro e w3 ⟨rfl,hb⟩);have K3:=hZ (K2.out.chain hb);obtain ⟨g2_0,g2_1,g2_2,g2_3,g2_4,g2_5,g2_6,g2_7,g2_8⟩:=HF.out _ K3.out;clear hb)
          | (go_at_call 128;((with_reducible refine (H2.out _ (HB.out.chain K3.out)).mono ?_);rintro e w4 ⟨rfl,hb⟩);have K4:=hZ (K3.out.chain hb);obtain ⟨g3_0,g3_1,g3_2,g3_3,g3_4,g3_5,g3_6,g3_7,g3_8⟩:=HF.out _ K4.out;clear hb)
          | (go_at_call 130;((with_reducible refine (H3.out _ (HB.out.chain K4.out)).mono ?_);rintro e w5 ⟨rfl,hb⟩);have K5:=hZ (K4.out.chain hb);clear hb))
         go_ret
         exact ⟨rfl,HB.out.chain K5.out⟩
       | true =>
         cases v4 with
         | false =>
           go_enter Tryz.func92,Tryz.ntmps92
           go_wp2_with (first
            | (go_at_call 126;rw [<- qh];clear qh;((with_reducible refine (H0.out _ (HB.out.chain K1.out)).mono ?_);rintro e w2 ⟨rfl,hb⟩);have K2:=hZ (K1.out.chain hb);obtain ⟨g1_0,g1_1,g1_2,g1_3,g1_4,g1_5,g1_6,g1_7,g1_8⟩:=HF.out _ K2.out;clear hb)
            | (go_at_call 106;((with_reducible refine (H1.out _ (HB.out.chain K2.out)).mono ?_);rintro e w3 ⟨rfl,hb⟩);have K3:=hZ (K2.out.chain hb);obtain ⟨g2_0,g2_1,g2_2,g2_3,g2_4,g2_5,g2_6,g2_7,g2_8⟩:=HF.out _ K3.out;clear hb)
            | (go_at_call 128;((with_reducible refine (H2.out _ (HB.out.chain K3.out)).mono ?_);rintro e w4 ⟨rfl,hb⟩);have K4:=hZ (K3.out.chain hb);obtain ⟨g3_0,g3_1,g3_2,g3_3,g3_4,g3_5,g3_6,g3_7,g3_8⟩:=HF.out _ K4.out;clear hb)
            | (go_at_call 130;((with_reducible refine (H3.out _ (HB.out.chain K4.out)).mono ?_);rintro e w5 ⟨rfl,hb⟩);have K5:=hZ (K4.out.chain hb);obtain ⟨g4_0,g4_1,g4_2,g4_3,g4_4,g4_5,g4_6,g4_7,g4_8⟩:=HF.out _ K5.out;clear hb)
            | (go_at_call 132;((with_reducible refine (H4.out _ (HB.out.chain K5.out)).mono ?_);rintro e w6 ⟨rfl,hb⟩);have K6:=hZ (K5.out.chain hb);clear hb))
           go_ret
           exact ⟨rfl,HB.out.chain K6.out⟩
         | true =>
           cases v5 with
           | false =>
             go_enter Tryz.func92,Tryz.ntmps92
             go_wp2_with (first
              | (go_at_call 126;rw [<- qh];clear qh;((with_reducible refine (H0.out _ (HB.out.chain K1.out)).mono ?_);rintro e w2 ⟨rfl,hb⟩);have K2:=hZ (K1.out.chain hb);obtain ⟨g1_0,g1_1,g1_2,g1_3,g1_4,g1_5,g1_6,g1_7,g1_8⟩:=HF.out _ K2.out;clear hb)
              | (go_at_call 106;((with_reducible refine (H1.out _ (HB.out.chain K2.out)).mono ?_);rintro e w3 ⟨rfl,hb⟩);have K3:=hZ (K2.out.chain hb);obtain ⟨g2_0,g2_1,g2_2,g2_3,g2_4,g2_5,g2_6,g2_7,g2_8⟩:=HF.out _ K3.out;clear hb)
              | (go_at_call 128;((with_reducible refine (H2.out _ (HB.out.chain K3.out)).mono ?_);rintro e w4 ⟨rfl,hb⟩);have K4:=hZ (K3.out.chain hb);obtain ⟨g3_0,g3_1,g3_2,g3_3,g3_4,g3_5,g3_6,g3_7,g3_8⟩:=HF.out _ K4.out;clear hb)
              | (go_at_call 130;((with_reducible refine (H3.out _ (HB.out.chain K4.out)).mono ?_);rintro e w5 ⟨rfl,hb⟩);have K5:=hZ (K4.out.chain hb);obtain ⟨g4_0,g4_1,g4_2,g4_3,g4_4,g4_5,g4_6,g4_7,g4_8⟩:=HF.out _ K5.out;clear hb)
              | (go_at_call 132;((with_reducible refine (H4.out _ (HB.out.chain K5.out)).mono ?_);rintro e w6 ⟨rfl,hb⟩);have K6:=hZ (K5.out.chain hb);obtain ⟨g5_0,g5_1,g5_2,g5_3,g5_4,g5_5,g5_6,g5_7,g5_8⟩:=HF.out _ K6.out;clear hb)
              | (go_at_call 134;((with_reducible refine (H5.out _ (HB.out.chain K6.out)).mono ?_);rintro e w7 ⟨rfl,hb⟩);have K7:=hZ (K6.out.chain hb);clear hb))
             go_ret
             exact ⟨rfl,HB.out.chain K7.out⟩
           | true =>
             go_enter Tryz.func92,Tryz.ntmps92
             go_wp2_with (first
              | (go_at_call 126;rw [<- qh];clear qh;((with_reducible refine (H0.out _ (HB.out.chain K1.out)).mono ?_);rintro e w2 ⟨rfl,hb⟩);have K2:=hZ (K1.out.chain hb);obtain ⟨g1_0,g1_1,g1_2,g1_3,g1_4,g1_5,g1_6,g1_7,g1_8⟩:=HF.out _ K2.out;clear hb)
              | (go_at_call 106;((with_reducible refine (H1.out _ (HB.out.chain K2.out)).mono ?_);rintro e w3 ⟨rfl,hb⟩);have K3:=hZ (K2.out.chain hb);obtain ⟨g2_0,g2_1,g2_2,g2_3,g2_4,g2_5,g2_6,g2_7,g2_8⟩:=HF.out _ K3.out;clear hb)
              | (go_at_call 128;((with_reducible refine (H2.out _ (HB.out.chain K3.out)).mono ?_);rintro e w4 ⟨rfl,hb⟩);have K4:=hZ (K3.out.chain hb);obtain ⟨g3_0,g3_1,g3_2,g3_3,g3_4,g3_5,g3_6,g3_7,g3_8⟩:=HF.out _ K4.out;clear hb)
              | (go_at_call 130;((with_reducible refine (H3.out _ (HB.out.chain K4.out)).mono ?_);rintro e w5 ⟨rfl,hb⟩);have K5:=hZ (K4.out.chain hb);obtain ⟨g4_0,g4_1,g4_2,g4_3,g4_4,g4_5,g4_6,g4_7,g4_8⟩:=HF.out _ K5.out;clear hb)
              | (go_at_call 132;((with_reducible refine (H4.out _ (HB.out.chain K5.out)).mono ?_);rintro e w6 ⟨rfl,hb⟩);have K6:=hZ (K5.out.chain hb);obtain ⟨g5_0,g5_1,g5_2,g5_3,g5_4,g5_5,g5_6,g5_7,g5_8⟩:=HF.out _ K6.out;clear hb)
              | (go_at_call 134;((with_reducible refine (H5.out _ (HB.out.chain K6.out)).mono ?_);rintro e w7 ⟨rfl,hb⟩);have K7:=hZ (K6.out.chain hb);clear hb))
             go_ret
             exact ⟨rfl,HB.out.chain K7.out⟩
theorem qjD (w : World) : Calls Tryz.prog 91 #[] w fun e w' => e = .returned (qp 125 1048576 8) /\ w' = w.alloc (qv 125 1048576 8):=by
 go_enter Tryz.func91,Tryz.ntmps91
 go_wp2
 refine bodyPost_ret (results_cell_row rfl _ _ w.heap.size 142 #[.func (.func 125) #[] #[],.int .i64 1048576,.int .i64 8] (0,0) _ rfl (qe _ _) Tryz.underlying142 rfl (by kernel_rfl)) rfl ?_
 exact ⟨rfl,rfl⟩
theorem qjZ (d : GAd) (p : Pg) (w : World) (hp : yY w) (own : xK w w.heap.size d p) :
 Calls Tryz.prog 70 #[qc7 d p] w fun e w' => e = .returned (.bool (xT p)) /\ Below w.heap.size w w':=by
 have HC : Hid (BC w 92 #[qp 125 1048576 8,.agg #[.slice d.r p.rs.length d.nr,.slice d.g p.gs.length d.ng,.slice d.k p.ks.length d.nk,.slice d.d p.ds.length d.nd,.slice d.m p.ms.length d.nm,.slice d.x p.xs.length d.nx]] (xT p)):=hZ (fun W hb => qll d p W (hp.on hb) (own.on hb))
 have HP : Hid (∀ W,Calls Tryz.prog 91 #[] W fun e w' => e = .returned (qp 125 1048576 8) /\ Below W.heap.size W w'):=hZ (fun W => (qjD W).mono (fun e w' h => by obtain ⟨h1,rfl⟩:=h;exact ⟨h1,qd W _⟩))
 obtain ⟨⟨b0,b1,b2,b3,b4,b5⟩,_⟩:=own
 generalize xT p = res at *
 show Calls Tryz.prog 70 #[.agg #[.slice d.r p.rs.length d.nr,.slice d.g p.gs.length d.ng,.slice d.k p.ks.length d.nk,.slice d.d p.ds.length d.nd,.slice d.m p.ms.length d.nm,.slice d.x p.xs.length d.nx]] w _
 generalize p.rs.length = n0 at *
 generalize p.gs.length = n1 at *
 generalize p.ks.length = n2 at *
 generalize p.ds.length = n3 at *
 generalize p.ms.length = n4 at *
 generalize p.xs.length = n5 at *
 obtain ⟨W1,qh⟩ : ∃ W1,W1 = w.alloc (.cells #[.slice d.r n0 d.nr,.slice d.g n1 d.ng,.slice d.k n2 d.nk,.slice d.d n3 d.nd,.slice d.m n4 d.nm,.slice d.x n5 d.nx] 29):=⟨_,rfl⟩
 have HB : Hid (Below w.heap.size w W1):=hZ (by rw [qh];exact qd w _)
 have q2:=qe w (.cells #[.slice d.r n0 d.nr,.slice d.g n1 d.ng,.slice d.k n2 d.nk,.slice d.d n3 d.nd,.slice d.m n4 d.nm,.slice d.x n5 d.nx] 29)
 rw [<- qh] at q2
 have HF : Hid (∀ W,Below W1.heap.size W1 W -> W.cell? ⟨w.heap.size,0,none⟩ = some (.slice d.r n0 d.nr) /\ W.cell? ⟨w.heap.size,1,none⟩ = some (.slice d.g n1 d.ng) /\ W.cell? ⟨w.heap.size,2,none⟩ = some (.slice d.k n2 d.nk) /\ W.cell? ⟨w.heap.size,3,none⟩ = some (.slice d.d n3 d.nd) /\ W.cell? ⟨w.heap.size,4,none⟩ = some (.slice d.m n4 d.nm) /\ W.cell? ⟨w.heap.size,5,none⟩ = some (.slice d.x n5 d.nx)):=hZ (fun W hb => ⟨qc (qg hb q2) 0 rfl,qc (qg hb q2) 1 rfl,qc (qg hb q2) 2 rfl,qc (qg hb q2) 3 rfl,qc (qg hb q2) 4 rfl,qc (qg hb q2) 5 rfl⟩)
 have qw:=hZ (Below.refl W1.heap.size W1)
 obtain ⟨d0,d1,d2,d3,d4,d5⟩:=HF.out _ qw.out
 unfold maxLen at b0 b1 b2 b3 b4 b5
 clear hp q2
 go_enter Tryz.func70,Tryz.ntmps70
 go_wp2
 rw [<- qh]
 clear qh
 go_region_held3 (fun W => W.cell? ⟨w.heap.size,0,none⟩ = some (.slice d.r n0 d.nr) /\ W.cell? ⟨w.heap.size,1,none⟩ = some (.slice d.g n1 d.ng) /\ W.cell? ⟨w.heap.size,2,none⟩ = some (.slice d.k n2 d.nk) /\ W.cell? ⟨w.heap.size,3,none⟩ = some (.slice d.d n3 d.nd) /\ W.cell? ⟨w.heap.size,4,none⟩ = some (.slice d.m n4 d.nm) /\ W.cell? ⟨w.heap.size,5,none⟩ = some (.slice d.x n5 d.nx))
  (first | go_keep | (trace_state;fail))
  (first
    | (go_at_call 91;refine (HP.out _).mono ?_;rintro e w5 ⟨rfl,hb5⟩;have HB5:=hZ (qw.out.drew.chain hb5);clear hb5;obtain ⟨g0,g1,g2,g3,g4,g5⟩:=HF.out _ HB5.out)
    | (go_at_call 92;refine (HC.out _ (HB.out.chain HB5.out)).mono ?_;rintro e w6 ⟨rfl,qR⟩;have HB6:=hZ (HB5.out.chain qR);clear qR;obtain ⟨i0,i1,i2,i3,i4,i5⟩:=HF.out _ HB6.out))
 all_goals go_wp2
 all_goals go_ret
 all_goals exact ⟨rfl,HB.out.chain HB6.out⟩
end
end Go.Proofs.YtojjfdegkooknaaGreatDoor
