/-
  TreePlaces' body, at any two programs and any byte.
-/
import Derived.Test.YtehmoomoocdidaaGreatDoorSTreeMl
import Derived.Test.YtehmoomoocdidaaGreatDoorSTreeMo
import Derived.Test.YtehmoomoocdidaaGreatDoorSTreeMi
import Derived.Test.YtehmoomoocdidaaGreatDoorSTreeMj
import Derived.Test.YtehmoomoocdidaaGreatDoorSTreeLx
import Derived.Test.YtehmoomoocdidaaGreatDoorSTreeQg
import Derived.Test.YtehmoomoocdidaaGreatDoorSTreePo
import Derived.Test.YtehmoomoocdidaaGreatDoorSTreeAx
set_option linter.unusedVariables false
set_option linter.unusedSimpArgs false
namespace Go.Proofs.YtehmoomoocdidaaGreatDoor
set_option maxRecDepth 100000
set_option maxHeartbeats 40000000
open Go.RowKit
theorem hid_ProgramM : ∃ (T N : Nat) (zc : Array Value),29 = T ∧ N = 6 ∧ zc.size = N ∧ (∀ w : World,(isAgg T).run Tryz.prog w = .ok true w) ∧ (∀ w : World,(sizeOf T).run Tryz.prog w = .ok N w) ∧ (∀ w : World,(zeroValue T).run Tryz.prog w = .ok (.agg zc) w) :=
 ⟨_,6,#[.slice none 0 0,.slice none 0 0,.slice none 0 0,.slice none 0 0,.slice none 0 0,.slice none 0 0],rfl,rfl,rfl,fun w => by kernel_rfl,fun w => by kernel_rfl,fun w => by kernel_rfl⟩
def PzLeft (W1 : World) (s : Nat) (v : Value) (wx : World) : Prop:=∃ (r : Int) (W : World),W = wx ∧ v = .bool (decide (r < 0)) ∧ (0 ≤ r → s ≤ 200000) ∧ Below W1.heap.size W1 W
theorem pgCs_five (d : GAd) (p : Pg) : (pgCs d p)[5]? = some (.slice d.x p.xs.length d.nx) ∧ (pgCs d p).size = 6 ∧ (pgCs d p).all (·.oneCell') = true:=by
 refine ⟨rfl,rfl,?_⟩
 unfold pgCs
 rw [List.all_toArray]
 rfl
theorem pgCs_set (d : GAd) (p : Pg) (ys : List Pr) (A : Option Addr) (n c : Nat) (hn : n = ys.length) : (pgCs d p).setIfInBounds 5 (.slice A n c) = pgCs { d with x:=A,nx:=c } { p with xs:=ys }:=by
 rw [hn]
 rfl
theorem samePg_true (p q : Pg) (h : SamePg p q) (r : Bool) (hr : r = true) : r = true ↔ SamePg p q:=by
 rw [hr]
 exact ⟨fun _ => h,fun _ => rfl⟩
theorem places_law (p q : Pg) (dp dq : GAd) (y : Int) (hy0 : 0 ≤ y) (hy1 : y ≤ 255) (w : World) (hP : PartsAt w) (hp : PgOwn w w.heap.size dp p) (hq : PgOwn w w.heap.size dq q) (hby : p.xs.length * 216 ≤ 140737488355328) :
 Calls Tryz.prog 3 #[progV dp p,progV dq q,.int .u8 y] w fun e w' => e = .returned (.bool true) ∧ Below w.heap.size w w':=by
 obtain ⟨F,hF⟩ : ∃ F : Pr → List St,∀ x,FlL x.bd (F x):=Classical.axiomOfChoice (fun x : Pr => fl_any _ x.bd (Nat.lt_succ_self _))
 obtain ⟨T,N,zc,hT,hN,hzc,hag,hsz,hzv⟩:=hid_ProgramM
 obtain ⟨T2,N2,zc2,hT2,hN2,hzc2,hag2,hsz2,hzv2⟩:=hid_ProcM
 obtain ⟨T3,N3,zc3,hT3,hN3,hzc3,hag3,hsz3,hzv3⟩:=stmt_hidden2
 have e1 : ∀ y : Operand,Op.load 29 y = Op.load T y:=fun y => by rw [hT]
 have e2 : ∀ y z : Operand,Op.store 29 y z = Op.store T y z:=fun y z => by rw [hT]
 have e3 : Op.alloc 29 = Op.alloc T:=by rw [hT]
 have e4 : ∀ y : Operand,Op.box 29 y = Op.box T y:=fun y => by rw [hT]
 have f1 : ∀ y : Operand,Op.load 40 y = Op.load T2 y:=fun y => by rw [hT2]
 have f2 : ∀ y z : Operand,Op.store 40 y z = Op.store T2 y z:=fun y z => by rw [hT2]
 have f3 : Op.alloc 40 = Op.alloc T2:=by rw [hT2]
 have g1 : ∀ y : Operand,Op.load 50 y = Op.load T3 y:=fun y => by rw [hT3]
 have g2 : ∀ y z : Operand,Op.store 50 y z = Op.store T3 y z:=fun y z => by rw [hT3]
 have g3 : Op.alloc 50 = Op.alloc T3:=by rw [hT3]
 obtain ⟨cp,hcp⟩ : ∃ cp,cp = pgCs dp p:=⟨_,rfl⟩
 obtain ⟨cq,hcq⟩ : ∃ cq,cq = pgCs dq q:=⟨_,rfl⟩
 obtain ⟨n,hnn⟩ : ∃ n,n = p.xs.length:=⟨_,rfl⟩
 obtain ⟨Ax,hAx⟩ : ∃ A,A = dp.x:=⟨_,rfl⟩
 obtain ⟨cx,hcx⟩ : ∃ c,c = dp.nx:=⟨_,rfl⟩
 have hpv : progV dp p = .agg cp:=by rw [hcp];rfl
 have hqv : progV dq q = .agg cq:=by rw [hcq];rfl
 have kp5 : cp[5]? = some (.slice Ax n cx):=by rw [hcp,hnn,hAx,hcx];exact (pgCs_five dp p).1
 have szp : cp.size = N:=by rw [hcp,hN];exact (pgCs_five dp p).2.1
 have szq : cq.size = N:=by rw [hcq,hN];exact (pgCs_five dq q).2.1
 have onp : cp.all (·.oneCell') = true:=by rw [hcp];exact (pgCs_five dp p).2.2
 obtain ⟨v0,hv0⟩:=boolOf (SamePg p q)
 obtain ⟨sm,hsm⟩ : ∃ s,s = (p.xs.map fun x => (F x).length).sum:=⟨_,rfl⟩
 have HH:=Lib.hid (And.intro hcp (And.intro hcq (And.intro hnn (And.intro hAx (And.intro hcx (And.intro hsm (And.intro hp (And.intro hq (And.intro hP (And.intro hv0 (And.intro hF hby)))))))))))
 have HN:=Lib.hid (And.intro hN (And.intro hzc (And.intro hN2 (And.intro hzc2 (And.intro hN3 (And.intro hzc3 onp))))))
 have HAw : Hid (∀ W,Calls Tryz.prog 4 #[] W fun e w' => e = .returned (.bool true) ∧ Below W.heap.size W w'):=Lib.hid awake_any
 have HL0 : Hid (∀ W,Below w.heap.size w W → Calls Tryz.prog 5 #[.int .i64 200000,.agg cp] W fun e w' => ∃ r : Int,e = .returned (.int .i64 r) ∧ -1 ≤ r ∧ r ≤ 200000 ∧ (0 ≤ r → sm ≤ 200000) ∧ Below W.heap.size W w'):=Lib.hid (fun W hb => by
  rw [← hpv]
  refine (left_program2 p dp 200000 W (by omega) (by omega) (hp.on hb)).mono ?_
  rintro e w' ⟨r,h1,h2,h3,h4,h5⟩
  exact ⟨r,h1,h2,h3,fun h => by have := h4 F (fun x _ => hF x) h;omega,h5⟩)
 have HL1 : Hid (∀ W (r : Int),-1 ≤ r → r ≤ 200000 → Below w.heap.size w W → Calls Tryz.prog 5 #[.int .i64 r,.agg cq] W fun e w' => ∃ r2 : Int,e = .returned (.int .i64 r2) ∧ r2 ≤ r ∧ Below W.heap.size W w'):=Lib.hid (fun W r z0 z1 hb => by
  rw [← hqv]
  refine (left_program2 q dq r W z0 z1 (hq.on hb)).mono ?_
  rintro e w' ⟨r2,h1,h2,h3,h4,h5⟩
  exact ⟨r2,h1,h3,h5⟩)
 have HEpp : Hid (BC w 9 #[.agg cp,.agg cp] true):=Lib.hid (fun W hb => by rw [← hpv];exact eqpg_any p p dp dp W (hp.on hb) (hp.on hb) true (samePg_true p p (samePg_refl p) true rfl))
 have HEpq : Hid (BC w 9 #[.agg cp,.agg cq] v0):=Lib.hid (fun W hb => by rw [← hpv,← hqv];exact eqpg_any p q dp dq W (hp.on hb) (hq.on hb) v0 hv0)
 have HEqp : Hid (BC w 9 #[.agg cq,.agg cp] v0):=Lib.hid (fun W hb => by rw [← hpv,← hqv];exact eqpg_any q p dq dp W (hq.on hb) (hp.on hb) v0 (hv0.trans ⟨samePg_symm,samePg_symm⟩))
 have HTp : Hid (BC w 10 #[.agg cp] (vPg p)):=Lib.hid (fun W hb => by rw [← hpv];exact tprogram_any dp p W (hP.on hb) (hp.on hb))
 have HSp : Hid (sm ≤ 1000000 → ∀ W,Below w.heap.size w W → Calls Tryz.prog 11 #[.agg cp] W fun e w' => e = .returned (.int .i64 sm) ∧ Below W.heap.size W w'):=Lib.hid (fun hs W hb => by rw [← hpv];exact size_any p dp F (fun x _ => hF x) sm hsm hs W (hp.on hb))
 obtain ⟨W1,hW1⟩ : ∃ W1,W1 = ((w.alloc (.cells cp T)).alloc (.cells cq T)):=⟨_,rfl⟩
 have HB : Hid (Below w.heap.size w W1):=Lib.hid (by rw [hW1];exact (below_alloc w _).chain (below_alloc _ _))
 have p0 : W1.heap[w.heap.size]? = some (.cells cp T (0,0)):=by rw [hW1];exact heap_keep (heap_of_alloc w (.cells cp T))
 have p1 : W1.heap[w.heap.size + 1]? = some (.cells cq T (0,0)):=by
  rw [hW1]
  have h:=heap_of_alloc (w.alloc (.cells cp T)) (.cells cq T)
  simp only [size_of_alloc] at h
  exact h
 obtain ⟨S,hS⟩ : ∃ S : World → Prop,S = fun W => Below W1.heap.size W1 W:=⟨_,rfl⟩
 have HS2 : Hid (∀ W,Below W1.heap.size W1 W → S W):=Lib.hid (fun W hb => by rw [hS];exact hb)
 have HS3 : Hid (∀ W,S W → Below W1.heap.size W1 W):=Lib.hid (fun W hb => by rw [hS] at hb;exact hb)
 have HC0 : Hid (∀ W,S W → (loadCellsFrom ⟨w.heap.size,0,none⟩ 0 N #[]).run Tryz.prog W = .ok cp W):=Lib.hid (fun W hs => load_list (fun j v hv => by rw [add_block0];exact cell_of_block (kept_box (HS3.out W hs) p0) j hv) szp)
 have HC1 : Hid (∀ W,S W → (loadCellsFrom ⟨w.heap.size + 1,0,none⟩ 0 N #[]).run Tryz.prog W = .ok cq W):=Lib.hid (fun W hs => load_list (fun j v hv => by rw [add_block0];exact cell_of_block (kept_box (HS3.out W hs) p1) j hv) szq)
 have HPB:=Lib.hid p0
 have HK5:=Lib.hid kp5
 have HPB1:=Lib.hid p1
 have HB1z : Hid (W1.heap.size = w.heap.size + 2):=Lib.hid (by rw [hW1];simp only [size_of_alloc])
 have hmx : Tryz.prog.follows .mixedOrders = true:=by kernel_rfl
 clear p0 p1 hS hp hq hP hv0 hcp hcq hnn hAx hcx hsm hpv hqv hF hby hN hzc hN2 hzc2 hN3 hzc3 onp kp5
 show Calls Tryz.prog 3 #[progV dp p,progV dq q,.int .u8 y] w _
 rw [show progV dp p = .agg cp from by rw [HH.out.1];rfl,show progV dq q = .agg cq from by rw [HH.out.2.1];rfl]
 go_enter Tryz.func3,Tryz.ntmps3
 simp only [e1,e2,e3,e4,f1,f2,f3,g1,g2,g3]
 clear e1 e2 e3 e4 f1 f2 f3 g1 g2 g3 hT hT2 hT3
 go_wp2_with (go_at_call 4;rw [← hW1];refine (HAw.out _).mono ?_;rintro e w2 ⟨rfl,hb2⟩;have HB2:=Lib.hid hb2;clear hb2)
 clear hW1
 go_cut [20] from 16 to 20 (fun v20 wx => PzLeft W1 sm v20 wx)
 case first =>
  refine wp_region_held (S:=S) hmx ?_
  change wpAnyH _ _ _ _ _ 5 #[false,false,false,false,false] _ w2.drew
  have HV0:=Lib.hid HB2.out.drew
  generalize w2.drew = V0 at HV0 ⊢
  have k0:=HS2.out _ HV0.out
  refine tk 0 16 (.agg cp) k0 ?v ?_
  case v => intro Wx hSx;have z0:=HC0.out Wx hSx;go_simp
  refine tk 2 18 (.agg cq) k0 ?v ?_
  case v => intro Wx hSx;have z0:=HC1.out Wx hSx;go_simp
  refine o1 1 (fun K hK => ?_)
  go_simp
  refine (HL0.out V0 (HB.out.chain HV0.out)).mono ?_
  rintro e V1 ⟨r1,rfl,p1,p2,p3,hb⟩
  have HV1:=Lib.hid (HV0.out.chain hb)
  clear hb
  have k1:=HS2.out _ HV1.out
  refine hK _ _ k1 ?_
  clear hK K k0
  refine o1 3 (fun K hK => ?_)
  go_simp
  refine (HL1.out V1 r1 p1 p2 (HB.out.chain HV1.out)).mono ?_
  rintro e V2 ⟨r2,rfl,p4,hb⟩
  have HV2:=Lib.hid (HV1.out.chain hb)
  clear hb
  have k2:=HS2.out _ HV2.out
  refine hK _ _ k2 ?_
  clear hK K k1
  refine tk 4 20 (.bool (decide (r2 < 0))) k2 ?v ?_
  case v => intro Wx hSx;go_simp
  simp only [Act.put,List.setIfInBounds_toArray,List.set_cons_zero,List.set_cons_succ]
  refine wpAnyH_done (by kernel_rfl) ?_ _
  go_wp2
  go_meet
  exact ⟨r2,_,rfl,rfl,fun h => p3 (by omega),HV2.out⟩
 case rest =>
  obtain ⟨r,W2,rfl,rfl,hsum,hx3⟩:=hcut
  have HX3:=Lib.hid hx3
  clear hx3 HL0 HL1 HAw
  by_cases hr : r < 0
  ·go_wp2
   go_ret
   exact ⟨rfl,HB.out.chain HX3.out⟩
  ·have HSM:=Lib.hid (hsum (by omega))
   clear hsum
   obtain ⟨bm,hbm⟩ : ∃ bm,bm = W2.heap.size:=⟨_,rfl⟩
   obtain ⟨W0,hW0⟩ : ∃ W0,W0 = W2.alloc (.cells cp T):=⟨_,rfl⟩
   have hlp:=HC0.out W2 (HS2.out _ HX3.out)
   have hst : (storeCells ⟨W2.heap.size,0,none⟩ cp.toList).run Tryz.prog (W2.alloc (.cells zc T)) = .ok () (W2.alloc (.cells cp T)):=by
    have h:=store_row (heap_of_alloc W2 (.cells zc T)) (HN.out.2.1.trans szp.symm) HN.out.2.2.2.2.2.2
    rw [World.setRow_alloc_new] at h
    exact h
   have hbw0 : Below w.heap.size w W0:=by rw [hW0];exact below_al (HB.out.chain HX3.out) _
   have c5 : (W2.alloc (.cells cp T)).cell? ⟨w.heap.size,5,none⟩ = some (.slice Ax n cx):=by
    have h:=cell_of_block (kept_box HX3.out HPB.out) 5 HK5.out
    exact (World.cell?_alloc_lt W2 _ _ (World.block_lt_of_cell? _ _ h)).trans h
   have hbx0 : W0.heap[bm]? = some (.cells cp T (0,0)):=by rw [hW0,hbm];exact heap_of_alloc W2 _
   have HCl : Hid (Calls Tryz.prog 6 #[.slice Ax n cx] W0 (CloneP w.heap.size p.xs n W0)):=Lib.hid (cloneP_any Ax cx n p.xs HH.out.2.2.1 (by rw [HH.out.2.2.1];exact HH.out.2.2.2.2.2.2.2.2.2.2.2) W0 w.heap.size hbw0.size (by
    have h:=HH.out.2.2.2.2.2.2.1.2.2.2.2.2.2
    rw [← HH.out.2.2.2.1] at h
    exact h.keep pr_keeps (fun _ hq => hbw0.cell hq) (Nat.le_refl _)))
   have HW0:=Lib.hid (And.intro hbw0 (And.intro hbx0 (And.intro hbm hW0)))
   clear hbw0
   go_wp2_with (go_at_call 6;rw [← hW0];refine HCl.out.mono ?_;rintro e W3 ⟨A,c,D,rfl,ho,hD,hb3⟩;have HO:=Lib.hid (And.intro ho (And.intro hD hb3));have hbx3:=kept_box hb3 hbx0;obtain ⟨x5a,x5b⟩:=cell_free hbx3 5 _ HK5.out;rw [hbm] at x5a x5b;clear ho hD hb3 hbx3)
   have hI0:=PlInv.start (y:=y) (F:=F) HH.out.2.2.1 HO.out.1 HO.out.2.1 HO.out.2.2 HW0.out.1 (bm:=bm) (by rw [hbm];exact ⟨(HB.out.chain HX3.out).size,by rw [hW0,size_of_alloc];omega⟩) (.slice A n c)
   obtain ⟨cm,hcm⟩ : ∃ cm,cm = cp.setIfInBounds 5 (.slice A n c):=⟨_,rfl⟩
   obtain ⟨W4,hW4⟩ : ∃ W4,W4 = W3.setCell ⟨bm,5,none⟩ (.slice A n c):=⟨_,rfl⟩
   rw [← hW4] at hI0
   have hbm4 : W4.heap[bm]? = some (.cells cm T (0,0)):=by rw [hW4,hcm];exact box_set (kept_box HO.out.2.2 hbx0) 5 _
   have hz0 : W0.heap.size = bm + 1:=by rw [hW0,hbm];exact size_of_alloc _ _
   have hb14 : Below bm W2 W4:=by
    rw [hW4]
    have h1 : Below bm W2 W0:=by rw [hW0,hbm];exact below_alloc W2 _
    exact (h1.trans (HO.out.2.2.mono (by omega))).setCell (p:=⟨bm,5,none⟩) (Nat.le_refl _) _
   have hws : w.heap.size + 1 < bm:=by
    have h1:=World.block_lt_of_cell? _ _ (cell_of_block HPB.out 5 HK5.out)
    have h2:=HX3.out.size
    have h3 : W1.heap.size = w.heap.size + 2:=HB1z.out
    omega
   have HQ : Hid (∀ W,Below W0.heap.size W4 W → (loadCellsFrom ⟨w.heap.size,0,none⟩ 0 N #[]).run Tryz.prog W = .ok cp W ∧ (loadCellsFrom ⟨w.heap.size + 1,0,none⟩ 0 N #[]).run Tryz.prog W = .ok cq W ∧ (loadCellsFrom ⟨bm,0,none⟩ 0 N #[]).run Tryz.prog W = .ok cm W):=Lib.hid (fun W hb => by
    have hcz : cm.size = N:=by rw [hcm,Array.size_setIfInBounds];exact szp
    have k : ∀ q : Addr,q.block < bm → W.cell? q = W2.cell? q:=fun q hq => (hb.cell (by omega)).trans (hb14.cell hq)
    refine ⟨load_list (fun j v hv => ?_) szp,load_list (fun j v hv => ?_) szq,load_list (fun j v hv => ?_) hcz⟩
    ·rw [add_block0,k _ (by show w.heap.size < bm;omega)]
     exact cell_of_block (kept_box HX3.out HPB.out) j hv
    ·rw [add_block0,k _ (by show w.heap.size + 1 < bm;omega)]
     exact cell_of_block (kept_box HX3.out HPB1.out) j hv
    ·rw [add_block0,hb.cell (show bm < W0.heap.size by omega)]
     exact cell_of_block hbm4 j hv)
   have HM5 : Hid (∀ W,Below W0.heap.size W4 W → W.cell? ⟨bm,5,none⟩ = some (.slice A n c)):=Lib.hid (fun W hb => by
    rw [hb.cell (show bm < W0.heap.size by omega)]
    refine cell_of_block hbm4 5 ?_
    rw [hcm,Array.getElem?_setIfInBounds_self_of_lt (by rw [szp,HN.out.1];decide)])
   have HZ0:=Lib.hid (And.intro hz0 (And.intro hws hcm))
   rw [← hbm,← hW4]
   have HI0:=Lib.hid (And.intro hI0 (Below.refl W0.heap.size W4))
   have m5:=HM5.out _ HI0.out.2
   have hW4z : Hid (W4.heap.size = W3.heap.size):=Lib.hid (by rw [hW4];simp [World.setCell])
   have hn63 : n ≤ 651562446090:=by have := HH.out.2.2.2.2.2.2.2.2.2.2.2;rw [← HH.out.2.2.1] at this;omega
   clear hI0 hbm hbm4 hz0 hb14 hws hlp hst c5 hbx0 hW0 x5a x5b hcm hW4
   go_loopg [8,29] n (fun m v8 j wr => ∃ (k : Nat) (fv : Bool),m = n - k ∧ k ≤ n ∧ j = .int .i64 k ∧ v8 = .bool fv ∧ Hid (PlInv w W0 y F p.xs D (.slice A n c) k fv wr ∧ Below W0.heap.size W4 wr))
   case atStart => exact ⟨0,true,rfl,Nat.zero_le _,(by first | rfl | go_num),rfl,HI0⟩
   case round =>
    obtain ⟨k,fv,rfl,hk,rfl,rfl,HI⟩:=hrel
    clear m5 HI0
    obtain ⟨wq,hwq⟩ : ∃ wq,wq = wr:=⟨_,rfl⟩
    subst hwq
    by_cases hlt : k < n
    ·have hki : (k : Int) < n:=by omega
     obtain ⟨x,hx⟩ : ∃ x,p.xs[k]? = some x:=⟨p.xs[k]'(by rw [← HH.out.2.2.1];exact hlt),List.getElem?_eq_getElem _⟩
     obtain ⟨g,hA⟩:=HI.out.1.form HH.out.2.2.1 hlt
     obtain ⟨ga,hga⟩ : ∃ ga,ga = (⟨g,0,none⟩ : Addr):=⟨_,rfl⟩
     rw [← hga] at hA
     subst hA
     have hcl:=PlInv.cells (by rw [hga] at HI;exact HI.out.1) HH.out.2.2.1 hx
     rw [← hga] at hcl
     have hpr : PrOwn wq w.heap.size (D k) x:=(HO.out.2.1 k x hx).keep (fun q hq => (HI.out.1.below.cell hq).trans (HW0.out.1.cell hq).symm) (Nat.le_refl _)
     have hnb : x.bd.length ≤ maxLen:=hpr.1.2.2.2.2.2.2.2.2
     obtain ⟨nb,hnbe⟩ : ∃ nb,nb = x.bd.length:=⟨_,rfl⟩
     obtain ⟨cs,hcs⟩ : ∃ cs,cs = prCs (D k) x:=⟨_,rfl⟩
     rw [← hcs] at hcl
     have h12 : cs.size = 12:=by rw [hcs];rfl
     have h1c : cs.all (·.oneCell') = true:=by rw [hcs];unfold prCs;rw [List.all_toArray];rfl
     have k11 : cs[11]? = some (.slice (D k).b nb (D k).nb):=by rw [hcs,hnbe];rfl
     have k1 : cs[1]? = some (.int .i64 x.ln):=by rw [hcs];rfl
     have k2 : cs[2]? = some (.int .i64 x.co):=by rw [hcs];rfl
     have hl1 : (loadCellsFrom (ga.add (k * 12)) 0 N2 #[]).run Tryz.prog wq = .ok cs wq:=load_list hcl (h12.trans HN.out.2.2.1.symm)
     have hst : (storeCells ⟨wq.heap.size,0,none⟩ cs.toList).run Tryz.prog (wq.alloc (.cells zc2 T2)) = .ok () (wq.alloc (.cells cs T2)):=by
      have h:=store_row (heap_of_alloc wq (.cells zc2 T2)) (HN.out.2.2.2.1.trans (HN.out.2.2.1.trans h12.symm)) h1c
      rw [World.setRow_alloc_new] at h
      exact h
     have hszc : cs.size = N2:=h12.trans HN.out.2.2.1.symm
     have hbwr : Below w.heap.size w wq:=HI.out.1.below
     obtain ⟨bx,hbx⟩ : ∃ bx,bx = wq.heap.size:=⟨_,rfl⟩
     obtain ⟨wo,hwo⟩ : ∃ wo,wo = wq.alloc (.cells cs T2):=⟨_,rfl⟩
     have hbo : Below bx wq wo:=by rw [hwo,hbx];exact below_alloc wq _
     have hbxo : wo.heap[bx]? = some (.cells cs T2 (0,0)):=by rw [hwo,hbx];exact heap_of_alloc wq _
     have c11 : (wq.alloc (.cells cs T2)).cell? ⟨wq.heap.size,11,none⟩ = some (.slice (D k).b nb (D k).nb):=cell_of_block (heap_of_alloc wq (.cells cs T2)) 11 k11
     obtain ⟨f,hf⟩ : ∃ f,f = F x:=⟨_,rfl⟩
     have hfl : FlL x.bd f:=by rw [hf];exact HH.out.2.2.2.2.2.2.2.2.2.2.1 x
     have hfn : f.length ≤ 200000:=by
      have h1:=sum_take_le p.xs (fun x => (F x).length) k x hx
      have h2:=HSM.out
      rw [HH.out.2.2.2.2.2.1] at h2
      rw [hf]
      exact Nat.le_trans (Nat.le_trans (Nat.le_add_left _ _) h1) h2
     obtain ⟨nf,hnf⟩ : ∃ nf,nf = f.length:=⟨_,rfl⟩
     have hbwo : Below w.heap.size w wo:=hbwr.trans (hbo.mono (by rw [hbx];exact hbwr.size))
     have hstr : ∀ W,Below w.heap.size wq W → StRow W w.heap.size x.bd (D k).b:=fun W hb => hpr.2.2.2.2.2.2.keep (fun q hq => hb.cell hq) (Nat.le_refl _)
     have HFl : Hid (Calls Tryz.prog 7 #[.slice (D k).b nb (D k).nb] wo (FlatPost w.heap.size f wo)):=Lib.hid (by
      rw [hnbe]
      exact flat_any _ x.bd (Nat.lt_succ_self _) (D k).b (D k).nb w.heap.size f wo (hstr wo (hbo.mono (by rw [hbx];exact hbwr.size))) hbwo.size hnb hfl hfn)
     have HMv : Hid (∀ W,Below wo.heap.size wo W → Calls Tryz.prog 8 #[.slice (D k).b nb (D k).nb,.int .i64 y] W (MovedPost w.heap.size y x.bd W)):=Lib.hid (fun W hb => by
      rw [hnbe]
      have hbb : Below w.heap.size w W:=hbwo.trans (hb.mono hbwo.size)
      exact moved_any _ x.bd (Nat.lt_succ_self _) y (D k).b (D k).nb w.heap.size f W (hstr W ((hbo.mono (by rw [hbx];exact hbwr.size)).trans (hb.mono hbwo.size))) hbb.size hnb hfl hfn hy0 (by omega))
     have HP1 : Hid (∀ W,Below wo.heap.size wo W → W.cell? ⟨bx,1,none⟩ = some (.int .i64 x.ln) ∧ W.cell? ⟨bx,2,none⟩ = some (.int .i64 x.co) ∧ W.cell? ⟨bx,11,none⟩ = some (.slice (D k).b nb (D k).nb)):=Lib.hid (fun W hb => ⟨cell_of_block (kept_box hb hbxo) 1 k1,cell_of_block (kept_box hb hbxo) 2 k2,cell_of_block (kept_box hb hbxo) 11 k11⟩)
     have HK:=Lib.hid (And.intro hx (And.intro hlt (And.intro hga (And.intro hpr (And.intro hbx (And.intro hwo (And.intro hbo (And.intro hf (And.intro hnf (And.intro hcl hcs))))))))))
     have HNF : Hid (nf ≤ 200000):=Lib.hid (by rw [hnf];exact hfn)
     clear hx hga hcl hpr hnb hnbe hcs h12 h1c k11 k1 k2 hbwr hbo hbx hbxo hf hfl hfn hbwo hstr
     go_wp2_with (go_at_call 7;rw [← hwo];clear hwo;refine HFl.out.mono ?_;rintro e W5 ⟨A5,c5,rfl,hfl5⟩;rw [← hnf] at hfl5 ⊢;have H5:=Lib.hid hfl5;clear hfl5 hnf c11 hst hl1)
     rw [← HK.out.2.2.2.2.1]
     have HNF5:=Lib.hid HK.out.2.2.2.2.2.2.2.2.1
     have hnfb:=HNF.out
     go_loopg [8,38] nf (fun m v8 j wi => ∃ (i : Nat),m = nf - i ∧ i ≤ nf ∧ j = .int .i64 i ∧ v8 = .bool (fv && (f.take i).all fineS) ∧ Hid (Below W5.heap.size W5 wi))
     case atStart => exact ⟨0,rfl,Nat.zero_le _,(by first | rfl | go_num),by simp,Lib.hid (Below.refl _ _)⟩
     case round =>
      obtain ⟨i,rfl,hi,rfl,rfl,HJ⟩:=hrel
      by_cases hlti : i < nf
      ·have hii : (i : Int) < nf:=by omega
       obtain ⟨s,hs⟩ : ∃ s,f[i]? = some s:=⟨f[i]'(by rw [← HNF5.out];exact hlti),List.getElem?_eq_getElem _⟩
       obtain ⟨D5,xs5,o5,cl5,el5,b5⟩:=H5.out
       rw [← HNF5.out] at o5
       obtain ⟨g5,hA5⟩ : ∃ g,A5 = some ⟨g,0,none⟩:=by
        rcases o5.2 with ⟨_,h0⟩ | ⟨g,cap,cur,hv,_⟩
        ·omega
        ·injection hv with h1 h2 h3
         exact ⟨g,h1⟩
       have hg5 : g5 < W5.heap.size:=(own_lt o5 g5 (by rw [hA5];rfl)).2
       have hcs5 : ∀ j v,(stCs (D5 i) s)[j]? = some v → W5.cell? (((⟨g5,0,none⟩ : Addr).add (i * 24)).add j) = some v:=fun j v hj => by
        rw [add_of_add]
        rw [hA5] at o5
        exact o5.cells (g:=g5) rfl _ _ (cl5 i s hs j v hj)
       obtain ⟨ga5,hga5⟩ : ∃ ga,ga = (⟨g5,0,none⟩ : Addr):=⟨_,rfl⟩
       rw [← hga5] at hA5 hcs5
       have hg5b : (ga5.add (i * 24)).block < W5.heap.size:=by rw [block_adds,hga5];exact hg5
       subst hA5
       have hone:=stCs_oneM (D5 i) s
       obtain ⟨css,hcss⟩ : ∃ css,css = stCs (D5 i) s:=⟨_,rfl⟩
       have h24 : css.size = 24:=by rw [hcss];exact stCs_size _ _
       have h24c : css.all (·.oneCell') = true:=by rw [hcss,Array.all_eq_true_iff_forall_mem];exact fun u hu => hone u (by simpa using hu)
       obtain ⟨ln,co,hlc,hfs⟩ : ∃ ln co : Int,((stCs (D5 i) s)[1]? = some (.int .i64 ln) ∧ (stCs (D5 i) s)[2]? = some (.int .i64 co)) ∧ fineS s = (decide (ln ≥ 0) && decide (co ≥ 0) && decide (ln ≤ 65536) && decide (co ≤ 65536)):=by
        obtain ⟨k0,ln,co,nm,fd,fr,⟨ek,en,es,el⟩,⟨ck,⟨ak,an,sa,al⟩,⟨bk,bn,sb,bl⟩,l⟩,cl,iv,b,t⟩:=s
        exact ⟨ln,co,⟨rfl,rfl⟩,rfl⟩
       rw [← hcss] at hcs5 hlc
       have hl3 : (loadCellsFrom (ga5.add (i * 24)) 0 N3 #[]).run Tryz.prog wr = .ok css wr:=load_list (fun j v hv => (HJ.out.cell (by rw [block_adds];exact hg5b)).trans (hcs5 j v hv)) (h24.trans HN.out.2.2.2.2.1.symm)
       have hst3 : (storeCells ⟨wr.heap.size,0,none⟩ css.toList).run Tryz.prog (wr.alloc (.cells zc3 T3)) = .ok () (wr.alloc (.cells css T3)):=by
        have h:=store_row (heap_of_alloc wr (.cells zc3 T3)) (HN.out.2.2.2.2.2.1.trans (HN.out.2.2.2.2.1.trans h24.symm)) h24c
        rw [World.setRow_alloc_new] at h
        exact h
       have hszs : css.size = N3:=h24.trans HN.out.2.2.2.2.1.symm
       have q1:=cell_of_block (heap_of_alloc wr (.cells css T3)) 1 hlc.1
       have q2:=cell_of_block (heap_of_alloc wr (.cells css T3)) 2 hlc.2
       have hbw : Below wr.heap.size wr (wr.alloc (.cells css T3)):=below_alloc wr _
       obtain ⟨fb,hfb⟩ : ∃ fb,fb = (fv && (f.take i).all fineS):=⟨_,rfl⟩
       rw [← hfb]
       have HS:=Lib.hid (And.intro hbw (And.intro hlti (And.intro (all_take_succ' fineS f i s hs) hfb)))
       have HFS:=Lib.hid hfs
       clear hs o5 cl5 el5 b5 hg5 hcs5 hga5 hg5b hone hcss h24 h24c hlc hfb hbw hfs
       cases fb with
       | false =>
         go_wp2
         go_roundg (nf - (i + 1))
         case measure => have := HS.out.2.1;omega
         case rel => exact ⟨i + 1,rfl,(by have := HS.out.2.1;omega),by go_num,(by rw [HS.out.2.2.1,← Bool.and_assoc,← HS.out.2.2.2];rw [HFS.out];first | (simp [*];done) | (simp;intros;omega)),Lib.hid (HJ.out.chain HS.out.1)⟩
       | true =>
         by_cases hq0 : ln ≥ 0
         case neg =>
          go_wp2
          go_roundg (nf - (i + 1))
          case measure => have := HS.out.2.1;omega
          case rel => exact ⟨i + 1,rfl,(by have := HS.out.2.1;omega),by go_num,(by rw [HS.out.2.2.1,← Bool.and_assoc,← HS.out.2.2.2];rw [HFS.out];first | (simp [*];done) | (simp;intros;omega)),Lib.hid (HJ.out.chain HS.out.1)⟩
         case pos =>
          by_cases hq1 : co ≥ 0
          case neg =>
           go_wp2
           go_roundg (nf - (i + 1))
           case measure => have := HS.out.2.1;omega
           case rel => exact ⟨i + 1,rfl,(by have := HS.out.2.1;omega),by go_num,(by rw [HS.out.2.2.1,← Bool.and_assoc,← HS.out.2.2.2];rw [HFS.out];first | (simp [*];done) | (simp;intros;omega)),Lib.hid (HJ.out.chain HS.out.1)⟩
          case pos =>
           by_cases hq2 : ln ≤ 65536
           case neg =>
            go_wp2
            go_roundg (nf - (i + 1))
            case measure => have := HS.out.2.1;omega
            case rel => exact ⟨i + 1,rfl,(by have := HS.out.2.1;omega),by go_num,(by rw [HS.out.2.2.1,← Bool.and_assoc,← HS.out.2.2.2];rw [HFS.out];first | (simp [*];done) | (simp;intros;omega)),Lib.hid (HJ.out.chain HS.out.1)⟩
           case pos =>
            by_cases hq3 : co ≤ 65536
            case neg =>
             go_wp2
             go_roundg (nf - (i + 1))
             case measure => have := HS.out.2.1;omega
             case rel => exact ⟨i + 1,rfl,(by have := HS.out.2.1;omega),by go_num,(by rw [HS.out.2.2.1,← Bool.and_assoc,← HS.out.2.2.2];rw [HFS.out];first | (simp [*];done) | (simp;intros;omega)),Lib.hid (HJ.out.chain HS.out.1)⟩
            case pos =>
             go_wp2
             go_roundg (nf - (i + 1))
             case measure => have := HS.out.2.1;omega
             case rel => exact ⟨i + 1,rfl,(by have := HS.out.2.1;omega),by go_num,(by rw [HS.out.2.2.1,← Bool.and_assoc,← HS.out.2.2.2];rw [HFS.out];first | (simp [*];done) | (simp;intros;omega)),Lib.hid (HJ.out.chain HS.out.1)⟩
      ·obtain rfl : i = nf:=by omega
       have hfB : Hid ((fv && fineP F x) = ((fv && (f.take i).all fineS) && (decide (x.ln ≥ 0) && decide (x.co ≥ 0) && decide (x.ln ≤ 65536) && decide (x.co ≤ 65536))) ∧ True):=Lib.hid ⟨by
        rw [show f.take i = F x from by rw [← HK.out.2.2.2.2.2.2.2.1];exact List.take_of_length_le (by rw [HNF5.out];exact Nat.le_refl _)]
        unfold fineP
        simp only [Bool.and_assoc],trivial⟩
       obtain ⟨b1,b2,b3⟩:=HP1.out wr ((flatted_below H5.out).trans (HJ.out.mono (flatted_below H5.out).size))
       obtain ⟨xln,hxln⟩ : ∃ z,z = x.ln:=⟨_,rfl⟩
       obtain ⟨xco,hxco⟩ : ∃ z,z = x.co:=⟨_,rfl⟩
       rw [← hxln] at b1 hfB
       rw [← hxco] at b2 hfB
       obtain ⟨fb,hfb⟩ : ∃ fb,fb = (fv && (f.take i).all fineS):=⟨_,rfl⟩
       rw [← hfb] at hfB ⊢
       have HFB:=hfB
       obtain ⟨fe,hfe⟩ : ∃ fe,fe = (fv && fineP F x):=⟨_,rfl⟩
       rw [← hfe] at HFB
       have HFE:=Lib.hid hfe
       have HX6:=Lib.hid (And.intro hxln hxco)
       clear hxln hxco hfb hfe hfB
       go_upto_region 16 with fail
       go_cut [8] from 68 to 92 (fun v8 wx => PzFine W5 fe v8 wx)
       case first =>
        cases fb with
        | false =>
          go_wp2
          go_meet
          exact ⟨_,rfl,(by rw [HFB.out.1];first | (simp [*];done) | (simp;intros;omega)),HJ.out⟩
        | true =>
          by_cases hq0 : xln ≥ 0
          case neg =>
           go_wp2
           go_meet
           exact ⟨_,rfl,(by rw [HFB.out.1];first | (simp [*];done) | (simp;intros;omega)),HJ.out⟩
          case pos =>
           by_cases hq1 : xco ≥ 0
           case neg =>
            go_wp2
            go_meet
            exact ⟨_,rfl,(by rw [HFB.out.1];first | (simp [*];done) | (simp;intros;omega)),HJ.out⟩
           case pos =>
            by_cases hq2 : xln ≤ 65536
            case neg =>
             go_wp2
             go_meet
             exact ⟨_,rfl,(by rw [HFB.out.1];first | (simp [*];done) | (simp;intros;omega)),HJ.out⟩
            case pos =>
             by_cases hq3 : xco ≤ 65536
             case neg =>
              go_wp2
              go_meet
              exact ⟨_,rfl,(by rw [HFB.out.1];first | (simp [*];done) | (simp;intros;omega)),HJ.out⟩
             case pos =>
              go_wp2
              go_meet
              exact ⟨_,rfl,(by rw [HFB.out.1];first | (simp [*];done) | (simp;intros;omega)),HJ.out⟩
       case rest =>
        obtain ⟨W6,rfl,rfl,hb6⟩:=hcut
        obtain ⟨g,hg⟩ : ∃ g,ga = (⟨g,0,none⟩ : Addr):=⟨ga.block,by rw [HK.out.2.2.1]⟩
        have hbxe:=HK.out.2.2.2.2.1
        have hwoz : wo.heap.size = bx + 1:=by rw [HK.out.2.2.2.2.2.1,hbxe];exact size_of_alloc _ _
        have hb06 : Below wo.heap.size wo W6:=(flatted_below H5.out).trans (hb6.mono (flatted_below H5.out).size)
        have hbq6 : Below wq.heap.size wq W6:=by
         have h1:=HK.out.2.2.2.2.2.2.1
         rw [hbxe] at h1
         exact h1.trans (hb06.mono (by rw [hwoz,hbxe];exact Nat.le_succ _))
        have hgk : ga.add (k * 12) = ⟨g,k * 12,none⟩:=by rw [hg];exact add_block0 g (k * 12)
        have hinv : PlInv w W0 y F p.xs D (.slice (some ⟨g,0,none⟩) n c) k fv wq:=by rw [← hg];exact HI.out.1
        have hgl:=(hinv.frozen HH.out.2.2.1 0).2
        have hbmz:=HZ0.out.1
        have hcel : ∀ j v,cs[j]? = some v → ∀ W,Below wq.heap.size wq W → W.cell? ⟨g,k * 12 + j,none⟩ = some v ∧ W.frozen? ⟨g,k * 12 + j,none⟩ = false:=fun j v hj W hb => by
         have h1:=HK.out.2.2.2.2.2.2.2.2.2.1 j v hj
         rw [hgk] at h1
         have h1' : wq.cell? ⟨g,k * 12 + j,none⟩ = some v:=by
          have e : (⟨g,k * 12,none⟩ : Addr).add j = ⟨g,k * 12 + j,none⟩:=by rw [← add_block0 g (k * 12),add_of_add,add_block0]
          rw [← e];exact h1
         refine ⟨(hb.cell (p:=⟨g,k * 12 + j,none⟩) hgl.2).trans h1',?_⟩
         rw [World.frozen?_of_block (w:=wq) (hb.block g hgl.2)]
         exact (hinv.frozen HH.out.2.2.1 (k * 12 + j)).1
        have hc0 : cs = prCs (D k) x:=HK.out.2.2.2.2.2.2.2.2.2.2
        obtain ⟨ca,hca⟩ : ∃ a,a = ga.add (k * 12):=⟨_,rfl⟩
        have hcab : ca.block = g ∧ ca.off = k * 12:=by rw [hca,hgk];exact ⟨rfl,rfl⟩
        have HFz : Hid (∀ W,Below wq.heap.size wq W → W.cell? ⟨ca.block,ca.off + 11,none⟩ = some (.slice (D k).b x.bd.length (D k).nb) ∧ W.frozen? ⟨ca.block,ca.off + 11,none⟩ = false):=Lib.hid (fun W hb => by
         rw [hcab.1,hcab.2]
         exact hcel 11 _ (by rw [hc0];rfl) W hb)
        have HFy : Hid (∀ W,Below wq.heap.size wq W → ∀ v,((W.setCell ⟨ca.block,ca.off + 11,none⟩ v).cell? ⟨ca.block,ca.off + 1,none⟩ = some (.int .i64 x.ln) ∧ (W.setCell ⟨ca.block,ca.off + 11,none⟩ v).frozen? ⟨ca.block,ca.off + 1,none⟩ = false) ∧
         ∀ u,((W.setCell ⟨ca.block,ca.off + 11,none⟩ v).setCell ⟨ca.block,ca.off + 1,none⟩ u).cell? ⟨ca.block,ca.off + 2,none⟩ = some (.int .i64 x.co) ∧ ((W.setCell ⟨ca.block,ca.off + 11,none⟩ v).setCell ⟨ca.block,ca.off + 1,none⟩ u).frozen? ⟨ca.block,ca.off + 2,none⟩ = false):=Lib.hid (fun W hb v => by
         rw [hcab.1,hcab.2]
         obtain ⟨a1,a2⟩:=hcel 1 (.int .i64 x.ln) (by rw [hc0];rfl) W hb
         obtain ⟨a3,a4⟩:=hcel 2 (.int .i64 x.co) (by rw [hc0];rfl) W hb
         refine ⟨⟨?_,?_⟩,fun u => ⟨?_,?_⟩⟩
         ·rw [World.cell?_setCell_other _ _ _ _ (fun e => by injection e with _ e _;omega)];exact a1
         ·rw [World.frozen?_setCell];exact a2
         ·rw [World.cell?_setCell_other _ _ _ _ (fun e => by injection e with _ e _;omega),World.cell?_setCell_other _ _ _ _ (fun e => by injection e with _ e _;omega)];exact a3
         ·rw [World.frozen?_setCell,World.frozen?_setCell];exact a4)
        obtain ⟨S6,hS6⟩ : ∃ S6 : World → Prop,S6 = fun W => W.cell? ⟨bm,5,none⟩ = some (.slice (some ga) n c) ∧ W.cell? ⟨bx,11,none⟩ = some (.slice (D k).b nb (D k).nb):=⟨_,rfl⟩
        have hbm5 : ∀ W,Below wq.heap.size wq W → W.cell? ⟨bm,5,none⟩ = some (.slice (some ga) n c):=fun W hb => HM5.out W (HI.out.2.trans (hb.mono (by omega)))
        have HT6 : Hid (∀ W,Below W6.heap.size W6 W → S6 W):=Lib.hid (fun W hb => by
         rw [hS6]
         exact ⟨hbm5 W (hbq6.trans (hb.mono hbq6.size)),(HP1.out W (hb06.trans (hb.mono hb06.size))).2.2⟩)
        have HT7 : Hid (∀ W v,Below W6.heap.size W6 W → S6 (W.setCell ⟨ca.block,ca.off + 11,none⟩ v)):=Lib.hid (fun W v hb => by
         have h:=HT6.out W hb
         rw [hS6] at h ⊢
         rw [hcab.1]
         exact ⟨(set_otherM _ _ _ (show bm ≠ g by omega)).trans h.1,(set_otherM _ _ _ (show bx ≠ g by omega)).trans h.2⟩)
        have HT8 : Hid (∀ W,S6 W → W.cell? ⟨bm,5,none⟩ = some (.slice (some ga) n c) ∧ W.cell? ⟨bx,11,none⟩ = some (.slice (D k).b nb (D k).nb)):=Lib.hid (fun W h => by rw [hS6] at h;exact h)
        have HB6:=Lib.hid (And.intro hb06 (And.intro hbq6 (And.intro hg (And.intro hcab (And.intro hgl hinv)))))
        have hlt6:=HK.out.2.1
        subst hca
        clear hS6 hb6 hb06 hbq6 hgk hinv hgl hbmz hcel hc0 hcab hbxe hwoz hbm5 hg
        go_wp2
        refine wp_region_held (S:=S6) hmx ?_
        change wpAnyH _ _ _ _ _ 11 #[false,false,false,false,false,false,false,false,false,false,false] _ W6.drew
        have HZ6 : Hid (Below W6.heap.size W6 W6.drew):=Lib.hid (Below.refl W6.heap.size W6).drew
        generalize W6.drew = V0 at HZ6 ⊢
        have s0:=HT6.out _ HZ6.out
        have hki6 : (k : Int) < n:=by omega
        refine tk 0 93 (.pointer (some ⟨bm,5,none⟩)) s0 ?v6 ?_
        case v6 => intro Wx hSx;go_simp
        refine tk 1 94 (.slice (some ga) n c) s0 ?v6 ?_
        case v6 => intro Wx hSx;obtain ⟨u0,u1⟩:=HT8.out Wx hSx;go_simp
        refine tk 2 95 (.int .i64 k) s0 ?v6 ?_
        case v6 => intro Wx hSx;go_simp
        refine tk 3 96 (.pointer (some ⟨bx,11,none⟩)) s0 ?v6 ?_
        case v6 => intro Wx hSx;go_simp
        refine tk 4 97 (.slice (D k).b nb (D k).nb) s0 ?v6 ?_
        case v6 => intro Wx hSx;obtain ⟨u0,u1⟩:=HT8.out Wx hSx;go_simp
        refine tk 5 98 (.int .u8 y) s0 ?v6 ?_
        case v6 => intro Wx hSx;go_simp
        refine tk 6 99 (.int .i64 y) s0 ?v6 ?_
        case v6 => intro Wx hSx;go_simp;exact Go.IntWalk.i64_in _ (by omega)
        refine o1 7 (fun K hK => ?_)
        go_simp
        (with_reducible refine (HMv.out V0 (HB6.out.1.trans (HZ6.out.mono HB6.out.1.size))).mono ?_)
        rintro e V1 ⟨A',c',m,rfl,hm1,hs1,hb1⟩
        have HM6:=Lib.hid (And.intro hm1 (And.intro hs1 (HZ6.out.chain hb1)))
        have s1:=HT6.out _ HM6.out.2.2
        clear hm1 hs1 hb1
        refine hK _ _ s1 ?_
        clear hK K s0
        simp only [List.setIfInBounds_toArray,List.set_cons_zero,List.set_cons_succ]
        refine tk 8 101 (.pointer (some (ga.add (k * 12)))) s1 ?v7 ?_
        case v7 => intro Wx hSx;go_simp
        refine tk 9 102 (.pointer (some ⟨(ga.add (k * 12)).block,(ga.add (k * 12)).off + 11,none⟩)) s1 ?v8 ?_
        case v8 => intro Wx hSx;go_simp
        obtain ⟨mn,hmn⟩ : ∃ mn,mn = m.length:=⟨_,rfl⟩
        rw [← hmn]
        have HMN:=Lib.hid hmn
        clear hmn
        have s2:=HT7.out V1 (.slice A' mn c') HM6.out.2.2
        have hbq1:=HB6.out.2.1.trans (HM6.out.2.2.mono HB6.out.2.1.size)
        obtain ⟨z1,z2⟩:=HFz.out V1 hbq1
        obtain ⟨⟨z3,z4⟩,z5⟩:=HFy.out V1 hbq1 (.slice A' mn c')
        obtain ⟨z6,z7⟩:=z5 (.int .i64 y)
        refine o1 10 (fun K hK => ?_)
        go_simp
        refine hK _ _ s2 ?_
        clear hK K s1 z1 z2
        refine wpAnyH_done (by kernel_rfl) ?_ _
        obtain ⟨z8,_⟩:=HT8.out _ s2
        clear z5 hbq1
        go_wp2
        go_roundg (n - (k + 1))
        case measure => have := HK.out.2.1;omega
        case rel =>
         obtain ⟨hb06,hbq6,hg,hcab,hgl,hinv⟩:=HB6.out
         obtain ⟨hm1,hs1,hb1⟩:=HM6.out
         have hbq1 : Below wq.heap.size wq V1:=hbq6.trans (hb1.mono hbq6.size)
         have hpr:=HK.out.2.2.2.1
         have hq6 : wq.heap.size ≤ V0.heap.size:=Nat.le_trans hbq6.size HZ6.out.size
         have hnext:=PlInv.next' (c':=c') (A':=A') HH.out.2.2.1 HW0.out.1.size hinv HK.out.1 hpr hbq1 hm1 (by rw [← mv_len hm1];exact hpr.1.2.2.2.2.2.2.2.2) (hs1.stay (fun _ _ => rfl) (fun b hb => by
          have hb' : b < w.heap.size ∨ V0.heap.size ≤ b:=hb
          show b < w.heap.size ∨ wq.heap.size ≤ b
          omega)) rfl
         refine ⟨k + 1,fe,rfl,(by have := HK.out.2.1;omega),by go_num,rfl,Lib.hid ⟨?_,?_⟩⟩
         ·rw [hcab.1,hcab.2,HFE.out,HMN.out,hg]
          exact hnext
         ·have h1 : Below W0.heap.size W4 V1:=HI.out.2.trans (hbq1.mono (by omega))
          exact ((h1.setCell (p:=⟨_,_,none⟩) (by rw [hcab.1];exact hgl.1) _).setCell (p:=⟨_,_,none⟩) (by rw [hcab.1];exact hgl.1) _).setCell (p:=⟨_,_,none⟩) (by rw [hcab.1];exact hgl.1) _
    ·obtain rfl : k = n:=by omega
     obtain ⟨ys,D',q1,q2,q3,q4,q5,q6,q7,q8⟩:=HI.out.1
     obtain ⟨hcp,hcq,hnn,hAx,hcx,hsm,hp,hq,hP,hv0,hF,hby⟩:=HH.out
     have hall : All2 (MvPr y) p.xs ys:=⟨q1.symm,fun i x z hx hz => q2 i x z (by rw [hnn];exact (List.getElem?_eq_some_iff.1 hx).1) hx hz⟩
     have hny : k = ys.length:=hnn.trans q1.symm
     rw [← hnn] at q4
     obtain ⟨A',c',hv,hrow⟩:=own_prRow q4 hny q5
     injection hv with hv1 hv2 hv3
     subst hv1 hv3
     obtain ⟨pm,hpm⟩ : ∃ pm : Pg,pm = { p with xs:=ys }:=⟨_,rfl⟩
     obtain ⟨dm,hdm⟩ : ∃ dm : GAd,dm = { dp with x:=A,nx:=c }:=⟨_,rfl⟩
     have hmv : MvPg y p pm:=by rw [hpm];exact ⟨rfl,hall⟩
     have hown : PgOwn wq wq.heap.size dm pm:=by
      obtain ⟨⟨a1,a2,a3,a4,a5,a6⟩,r1,r2,r3,r4,r5,r6⟩:=hp.on q6
      rw [hpm,hdm]
      exact ⟨⟨a1,a2,a3,a4,a5,by rw [q1];exact a6⟩,r1,r2,r3,r4,r5,hrow⟩
     have hmc : progV dm pm = .agg cm:=by
      have h1:=pgCs_set dp p ys A k c hny
      rw [← hcp,← HZ0.out.2.2] at h1
      rw [hpm,hdm,h1]
      rfl
     have hpc : progV dp p = .agg cp:=by rw [hcp];rfl
     have hqc : progV dq q = .agg cq:=by rw [hcq];rfl
     have hms : SamePg p pm:=mvPg_same hmv
     have hsum2 : sm = (pm.xs.map fun z => (F z).length).sum:=by
      rw [hsm,hpm]
      congr 1
      refine List.ext_getElem? (fun i => ?_)
      simp only [List.getElem?_map]
      cases h1 : p.xs[i]? with
      | none =>
        have : ys[i]? = none:=by
         rw [List.getElem?_eq_none_iff] at h1 ⊢
         omega
        rw [this]
      | some x =>
        have hi : i < ys.length:=by have := (List.getElem?_eq_some_iff.1 h1).1;omega
        rw [List.getElem?_eq_getElem hi]
        have h3:=hall.2 i x ys[i] h1 (List.getElem?_eq_getElem hi)
        have h4:=fl_same (hF x) (mv_same h3.1) (hF ys[i])
        simp [h4]
     have hval : fv = true → vPg p = vPg pm:=fun hfv => by
      rw [hnn,List.take_length] at q8
      rw [hfv] at q8
      exact mvPg_valid hy0 hy1 hmv (fun x hx => fineP_plain (hF x) (List.all_eq_true.1 q8.symm x hx))
     have HEpm : Hid (BC wq 9 #[.agg cp,.agg cm] true):=Lib.hid (fun W hb => by rw [← hpc,← hmc];exact eqpg_any p pm dp dm W ((hp.on q6).on hb) (hown.on hb) true (samePg_true _ _ hms true rfl))
     have HEmp : Hid (BC wq 9 #[.agg cm,.agg cp] true):=Lib.hid (fun W hb => by rw [← hpc,← hmc];exact eqpg_any pm p dm dp W (hown.on hb) ((hp.on q6).on hb) true (samePg_true _ _ (samePg_symm hms) true rfl))
     have HEmq : Hid (BC wq 9 #[.agg cm,.agg cq] v0):=Lib.hid (fun W hb => by rw [← hqc,← hmc];exact eqpg_any pm q dm dq W (hown.on hb) ((hq.on q6).on hb) v0 (hv0.trans (mvPg_iff hmv q)))
     have HTm : Hid (BC wq 10 #[.agg cm] (vPg pm)):=Lib.hid (fun W hb => by rw [← hmc];exact tprogram_any dm pm W ((hP.on q6).on hb) (hown.on hb))
     have hs6 : sm ≤ 1000000:=by have := HSM.out;omega
     have HSm : Hid (∀ W,Below wq.heap.size wq W → Calls Tryz.prog 11 #[.agg cm] W fun e w' => e = .returned (.int .i64 sm) ∧ Below W.heap.size W w'):=Lib.hid (fun W hb => by rw [← hmc];exact size_any pm dm F (fun x _ => hF x) sm hsum2 hs6 W (hown.on hb))
     have HEpp7 : Hid (BC wq 9 #[.agg cp,.agg cp] true):=Lib.hid (fun W hb => HEpp.out W (q6.chain hb))
     have HEpq7 : Hid (BC wq 9 #[.agg cp,.agg cq] v0):=Lib.hid (fun W hb => HEpq.out W (q6.chain hb))
     have HEqp7 : Hid (BC wq 9 #[.agg cq,.agg cp] v0):=Lib.hid (fun W hb => HEqp.out W (q6.chain hb))
     have HTp7 : Hid (BC wq 10 #[.agg cp] (vPg p)):=Lib.hid (fun W hb => HTp.out W (q6.chain hb))
     have HSp7 : Hid (∀ W,Below wq.heap.size wq W → Calls Tryz.prog 11 #[.agg cp] W fun e w' => e = .returned (.int .i64 sm) ∧ Below W.heap.size W w'):=Lib.hid (fun W hb => HSp.out hs6 W (q6.chain hb))
     have HBQ:=Lib.hid q6
     have hwz : W0.heap.size ≤ wq.heap.size:=Nat.le_trans HO.out.2.2.size (by rw [← hW4z.out];exact HI.out.2.size)
     obtain ⟨S7,hS7⟩ : ∃ S7 : World → Prop,S7 = fun W => Below wq.heap.size wq W:=⟨_,rfl⟩
     have HS7 : Hid (∀ W,Below wq.heap.size wq W → S7 W):=Lib.hid (fun W hb => by rw [hS7];exact hb)
     have HQ7 : Hid (∀ W,S7 W → (loadCellsFrom ⟨w.heap.size,0,none⟩ 0 N #[]).run Tryz.prog W = .ok cp W ∧ (loadCellsFrom ⟨w.heap.size + 1,0,none⟩ 0 N #[]).run Tryz.prog W = .ok cq W ∧ (loadCellsFrom ⟨bm,0,none⟩ 0 N #[]).run Tryz.prog W = .ok cm W):=Lib.hid (fun W hs => by rw [hS7] at hs;exact HQ.out W (HI.out.2.trans (hs.mono hwz)))
     have HVL:=Lib.hid hval
     have szm : cm.size = N:=by rw [HZ0.out.2.2,Array.size_setIfInBounds];exact szp
     clear hS7 hwz hs6 hsum2 hms hqc hpc hmc hown hmv hpm hdm hrow hv2 q1 q2 q3 q4 q5 q6 q7 q8 hall hny hcp hcq hnn hAx hcx hsm hp hq hP hv0 hF hby hval
     cases fv with
     | true =>
       have hvv:=HVL.out rfl
       obtain ⟨vv,hvp⟩ : ∃ vv,vv = vPg p:=⟨_,rfl⟩
       rw [← hvp] at HTp7 hvv
       rw [← hvv] at HTm
       clear hvp hvv
       go_wp2
       refine wp_region_held (S:=S7) hmx ?_
       change wpAnyH _ _ _ _ _ 26 #[false,false,false,false,false,false,false,false,false,false,false,false,false,false,false,false,false,false,false,false,false,false,false,false,false,false] _ wq.drew
       have HX0 : Hid (Below wq.heap.size wq wq.drew):=Lib.hid (Below.refl wq.heap.size wq).drew
       generalize wq.drew = X0 at HX0 ⊢
       have t0:=HS7.out _ HX0.out
       refine tk 0 112 (.agg cp) t0 ?v9 ?_
       case v9 => intro Wx hSx;have z0:=(HQ7.out Wx hSx).1;go_simp
       refine tk 1 113 (.agg cp) t0 ?v9 ?_
       case v9 => intro Wx hSx;have z0:=(HQ7.out Wx hSx).1;go_simp
       simp only [Act.put,List.setIfInBounds_toArray,List.set_cons_zero,List.set_cons_succ]
       refine o1 2 (fun K hK => ?_)
       go_simp
       refine (HEpp7.out X0 HX0.out).mono ?_
       rintro e X1 ⟨rfl,hb⟩
       have HX1:=Lib.hid (HX0.out.chain hb)
       clear hb
       have t1:=HS7.out _ HX1.out
       refine hK _ _ t1 ?_
       clear hK K t0
       refine tk 3 115 (.bool false) t1 ?v9 ?_
       case v9 => intro Wx hSx;go_simp
       refine tk 4 116 (.bool false) t1 ?v9 ?_
       case v9 => intro Wx hSx;go_simp
       simp only [Act.put,List.setIfInBounds_toArray,List.set_cons_zero,List.set_cons_succ]
       refine tk 5 117 (.agg cp) t1 ?v9 ?_
       case v9 => intro Wx hSx;have z0:=(HQ7.out Wx hSx).1;go_simp
       refine tk 6 118 (.agg cm) t1 ?v9 ?_
       case v9 => intro Wx hSx;have z0:=(HQ7.out Wx hSx).2.2;go_simp
       simp only [Act.put,List.setIfInBounds_toArray,List.set_cons_zero,List.set_cons_succ]
       refine o1 7 (fun K hK => ?_)
       go_simp
       refine (HEpm.out X1 HX1.out).mono ?_
       rintro e X2 ⟨rfl,hb⟩
       have HX2:=Lib.hid (HX1.out.chain hb)
       clear hb
       have t2:=HS7.out _ HX2.out
       refine hK _ _ t2 ?_
       clear hK K t1
       refine tk 8 120 (.bool false) t2 ?v9 ?_
       case v9 => intro Wx hSx;go_simp
       refine tk 9 121 (.bool false) t2 ?v9 ?_
       case v9 => intro Wx hSx;go_simp
       refine tk 10 122 (.bool false) t2 ?v9 ?_
       case v9 => intro Wx hSx;go_simp
       simp only [Act.put,List.setIfInBounds_toArray,List.set_cons_zero,List.set_cons_succ]
       refine tk 11 123 (.agg cm) t2 ?v9 ?_
       case v9 => intro Wx hSx;have z0:=(HQ7.out Wx hSx).2.2;go_simp
       refine tk 12 124 (.agg cp) t2 ?v9 ?_
       case v9 => intro Wx hSx;have z0:=(HQ7.out Wx hSx).1;go_simp
       simp only [Act.put,List.setIfInBounds_toArray,List.set_cons_zero,List.set_cons_succ]
       refine o1 13 (fun K hK => ?_)
       go_simp
       refine (HEmp.out X2 HX2.out).mono ?_
       rintro e X3 ⟨rfl,hb⟩
       have HX3:=Lib.hid (HX2.out.chain hb)
       clear hb
       have t3:=HS7.out _ HX3.out
       refine hK _ _ t3 ?_
       clear hK K t2
       refine tk 14 126 (.bool false) t3 ?v9 ?_
       case v9 => intro Wx hSx;go_simp
       refine tk 15 127 (.bool false) t3 ?v9 ?_
       case v9 => intro Wx hSx;go_simp
       refine tk 16 128 (.bool false) t3 ?v9 ?_
       case v9 => intro Wx hSx;go_simp
       simp only [Act.put,List.setIfInBounds_toArray,List.set_cons_zero,List.set_cons_succ]
       refine tk 17 129 (.bool true) t3 ?v9 ?_
       case v9 => intro Wx hSx;go_simp
       refine tk 18 130 (.bool true) t3 ?v9 ?_
       case v9 => intro Wx hSx;go_simp
       simp only [Act.put,List.setIfInBounds_toArray,List.set_cons_zero,List.set_cons_succ]
       refine tk 19 131 (.agg cp) t3 ?v9 ?_
       case v9 => intro Wx hSx;have z0:=(HQ7.out Wx hSx).1;go_simp
       refine tk 21 133 (.agg cm) t3 ?v9 ?_
       case v9 => intro Wx hSx;have z0:=(HQ7.out Wx hSx).2.2;go_simp
       simp only [Act.put,List.setIfInBounds_toArray,List.set_cons_zero,List.set_cons_succ]
       refine o1 20 (fun K hK => ?_)
       go_simp
       refine (HTp7.out X3 HX3.out).mono ?_
       rintro e X4 ⟨rfl,hb⟩
       have HX4:=Lib.hid (HX3.out.chain hb)
       clear hb
       have t4:=HS7.out _ HX4.out
       refine hK _ _ t4 ?_
       clear hK K t3
       refine o1 22 (fun K hK => ?_)
       go_simp
       refine (HTm.out X4 HX4.out).mono ?_
       rintro e X5 ⟨rfl,hb⟩
       have HX5:=Lib.hid (HX4.out.chain hb)
       clear hb
       have t5:=HS7.out _ HX5.out
       refine hK _ _ t5 ?_
       clear hK K t4
       refine tk 23 135 (.bool false) t5 ?v9 ?_
       case v9 => intro Wx hSx;go_simp
       refine tk 24 136 (.bool false) t5 ?v9 ?_
       case v9 => intro Wx hSx;go_simp
       refine tk 25 137 (.bool false) t5 ?v9 ?_
       case v9 => intro Wx hSx;go_simp
       simp only [Act.put,List.setIfInBounds_toArray,List.set_cons_zero,List.set_cons_succ]
       refine wpAnyH_done (by kernel_rfl) ?_ _
       have zp:=(HQ7.out _ t5).1
       have zq:=(HQ7.out _ t5).2.1
       go_wp2_with (go_at_call 9;refine (HEpq7.out X5 HX5.out).mono ?_;rintro e X6 ⟨rfl,hb⟩;have HX6:=Lib.hid (HX5.out.chain hb);clear hb zp zq)
       refine wp_region_held (S:=S7) hmx ?_
       change wpAnyH _ _ _ _ _ 20 #[false,false,false,false,false,false,false,false,false,false,false,false,false,false,false,false,false,false,false,false] _ X6.drew
       have HX7:=Lib.hid HX6.out.drew
       generalize X6.drew = X7 at HX7 ⊢
       have t7:=HS7.out _ HX7.out
       refine tk 0 141 (.bool v0) t7 ?v9 ?_
       case v9 => intro Wx hSx;go_simp
       refine tk 1 142 (.agg cq) t7 ?v9 ?_
       case v9 => intro Wx hSx;have z0:=(HQ7.out Wx hSx).2.1;go_simp
       refine tk 2 143 (.agg cp) t7 ?v9 ?_
       case v9 => intro Wx hSx;have z0:=(HQ7.out Wx hSx).1;go_simp
       simp only [Act.put,List.setIfInBounds_toArray,List.set_cons_zero,List.set_cons_succ]
       refine o1 3 (fun K hK => ?_)
       go_simp
       refine (HEqp7.out X7 HX7.out).mono ?_
       rintro e X8 ⟨rfl,hb⟩
       have HX8:=Lib.hid (HX7.out.chain hb)
       clear hb
       have t8:=HS7.out _ HX8.out
       refine hK _ _ t8 ?_
       clear hK K t7
       refine tk 4 145 (.bool true) t8 ?v9 ?_
       case v9 => intro Wx hSx;go_simp
       refine tk 5 146 (.bool true) t8 ?v9 ?_
       case v9 => intro Wx hSx;go_simp
       simp only [Act.put,List.setIfInBounds_toArray,List.set_cons_zero,List.set_cons_succ]
       refine tk 6 147 (.bool v0) t8 ?v9 ?_
       case v9 => intro Wx hSx;go_simp
       refine tk 7 148 (.agg cm) t8 ?v9 ?_
       case v9 => intro Wx hSx;have z0:=(HQ7.out Wx hSx).2.2;go_simp
       refine tk 8 149 (.agg cq) t8 ?v9 ?_
       case v9 => intro Wx hSx;have z0:=(HQ7.out Wx hSx).2.1;go_simp
       simp only [Act.put,List.setIfInBounds_toArray,List.set_cons_zero,List.set_cons_succ]
       refine o1 9 (fun K hK => ?_)
       go_simp
       refine (HEmq.out X8 HX8.out).mono ?_
       rintro e X9 ⟨rfl,hb⟩
       have HX9:=Lib.hid (HX8.out.chain hb)
       clear hb
       have t9:=HS7.out _ HX9.out
       refine hK _ _ t9 ?_
       clear hK K t8
       refine tk 10 151 (.bool true) t9 ?v9 ?_
       case v9 => intro Wx hSx;go_simp
       refine tk 11 152 (.bool true) t9 ?v9 ?_
       case v9 => intro Wx hSx;go_simp
       refine tk 12 153 (.bool true) t9 ?v9 ?_
       case v9 => intro Wx hSx;go_simp
       simp only [Act.put,List.setIfInBounds_toArray,List.set_cons_zero,List.set_cons_succ]
       refine tk 13 154 (.agg cp) t9 ?v9 ?_
       case v9 => intro Wx hSx;have z0:=(HQ7.out Wx hSx).1;go_simp
       refine tk 15 156 (.agg cm) t9 ?v9 ?_
       case v9 => intro Wx hSx;have z0:=(HQ7.out Wx hSx).2.2;go_simp
       simp only [Act.put,List.setIfInBounds_toArray,List.set_cons_zero,List.set_cons_succ]
       refine o1 14 (fun K hK => ?_)
       go_simp
       refine (HSp7.out X9 HX9.out).mono ?_
       rintro e X10 ⟨rfl,hb⟩
       have HX10:=Lib.hid (HX9.out.chain hb)
       clear hb
       have t10:=HS7.out _ HX10.out
       refine hK _ _ t10 ?_
       clear hK K t9
       refine o1 16 (fun K hK => ?_)
       go_simp
       refine (HSm.out X10 HX10.out).mono ?_
       rintro e X11 ⟨rfl,hb⟩
       have HX11:=Lib.hid (HX10.out.chain hb)
       clear hb
       have t11:=HS7.out _ HX11.out
       refine hK _ _ t11 ?_
       clear hK K t10
       refine tk 17 158 (.bool true) t11 ?v9 ?_
       case v9 => intro Wx hSx;go_simp
       refine tk 18 159 (.bool true) t11 ?v9 ?_
       case v9 => intro Wx hSx;go_simp
       refine tk 19 6 (.bool true) t11 ?v9 ?_
       case v9 => intro Wx hSx;go_simp
       simp only [Act.put,List.setIfInBounds_toArray,List.set_cons_zero,List.set_cons_succ]
       refine wpAnyH_done (by kernel_rfl) ?_ _
       go_wp2
       go_ret
       exact ⟨rfl,HBQ.out.chain HX11.out⟩
     | false =>
       go_wp2
       refine wp_region_held (S:=S7) hmx ?_
       change wpAnyH _ _ _ _ _ 26 #[false,false,false,false,false,false,false,false,false,false,false,false,false,false,false,false,false,false,false,false,false,false,false,false,false,false] _ wq.drew
       have HX0 : Hid (Below wq.heap.size wq wq.drew):=Lib.hid (Below.refl wq.heap.size wq).drew
       generalize wq.drew = X0 at HX0 ⊢
       have t0:=HS7.out _ HX0.out
       refine tk 0 112 (.agg cp) t0 ?v9 ?_
       case v9 => intro Wx hSx;have z0:=(HQ7.out Wx hSx).1;go_simp
       refine tk 1 113 (.agg cp) t0 ?v9 ?_
       case v9 => intro Wx hSx;have z0:=(HQ7.out Wx hSx).1;go_simp
       simp only [Act.put,List.setIfInBounds_toArray,List.set_cons_zero,List.set_cons_succ]
       refine o1 2 (fun K hK => ?_)
       go_simp
       refine (HEpp7.out X0 HX0.out).mono ?_
       rintro e X1 ⟨rfl,hb⟩
       have HX1:=Lib.hid (HX0.out.chain hb)
       clear hb
       have t1:=HS7.out _ HX1.out
       refine hK _ _ t1 ?_
       clear hK K t0
       refine tk 3 115 (.bool false) t1 ?v9 ?_
       case v9 => intro Wx hSx;go_simp
       refine tk 4 116 (.bool false) t1 ?v9 ?_
       case v9 => intro Wx hSx;go_simp
       simp only [Act.put,List.setIfInBounds_toArray,List.set_cons_zero,List.set_cons_succ]
       refine tk 5 117 (.agg cp) t1 ?v9 ?_
       case v9 => intro Wx hSx;have z0:=(HQ7.out Wx hSx).1;go_simp
       refine tk 6 118 (.agg cm) t1 ?v9 ?_
       case v9 => intro Wx hSx;have z0:=(HQ7.out Wx hSx).2.2;go_simp
       simp only [Act.put,List.setIfInBounds_toArray,List.set_cons_zero,List.set_cons_succ]
       refine o1 7 (fun K hK => ?_)
       go_simp
       refine (HEpm.out X1 HX1.out).mono ?_
       rintro e X2 ⟨rfl,hb⟩
       have HX2:=Lib.hid (HX1.out.chain hb)
       clear hb
       have t2:=HS7.out _ HX2.out
       refine hK _ _ t2 ?_
       clear hK K t1
       refine tk 8 120 (.bool false) t2 ?v9 ?_
       case v9 => intro Wx hSx;go_simp
       refine tk 9 121 (.bool false) t2 ?v9 ?_
       case v9 => intro Wx hSx;go_simp
       refine tk 10 122 (.bool false) t2 ?v9 ?_
       case v9 => intro Wx hSx;go_simp
       simp only [Act.put,List.setIfInBounds_toArray,List.set_cons_zero,List.set_cons_succ]
       refine tk 11 123 (.agg cm) t2 ?v9 ?_
       case v9 => intro Wx hSx;have z0:=(HQ7.out Wx hSx).2.2;go_simp
       refine tk 12 124 (.agg cp) t2 ?v9 ?_
       case v9 => intro Wx hSx;have z0:=(HQ7.out Wx hSx).1;go_simp
       simp only [Act.put,List.setIfInBounds_toArray,List.set_cons_zero,List.set_cons_succ]
       refine o1 13 (fun K hK => ?_)
       go_simp
       refine (HEmp.out X2 HX2.out).mono ?_
       rintro e X3 ⟨rfl,hb⟩
       have HX3:=Lib.hid (HX2.out.chain hb)
       clear hb
       have t3:=HS7.out _ HX3.out
       refine hK _ _ t3 ?_
       clear hK K t2
       refine tk 14 126 (.bool false) t3 ?v9 ?_
       case v9 => intro Wx hSx;go_simp
       refine tk 15 127 (.bool false) t3 ?v9 ?_
       case v9 => intro Wx hSx;go_simp
       refine tk 16 128 (.bool false) t3 ?v9 ?_
       case v9 => intro Wx hSx;go_simp
       simp only [Act.put,List.setIfInBounds_toArray,List.set_cons_zero,List.set_cons_succ]
       refine tk 17 129 (.bool false) t3 ?v9 ?_
       case v9 => intro Wx hSx;go_simp
       refine tk 18 130 (.bool false) t3 ?v9 ?_
       case v9 => intro Wx hSx;go_simp
       simp only [Act.put,List.setIfInBounds_toArray,List.set_cons_zero,List.set_cons_succ]
       refine sk 19 131 t3 ?_
       refine sk 20 132 t3 ?_
       refine sk 21 133 t3 ?_
       simp only [Act.put,List.setIfInBounds_toArray,List.set_cons_zero,List.set_cons_succ]
       refine sk 22 134 t3 ?_
       refine sk 23 135 t3 ?_
       simp only [Act.put,List.setIfInBounds_toArray,List.set_cons_zero,List.set_cons_succ]
       refine tk 24 136 (.bool false) t3 ?v9 ?_
       case v9 => intro Wx hSx;go_simp
       refine tk 25 137 (.bool false) t3 ?v9 ?_
       case v9 => intro Wx hSx;go_simp
       simp only [Act.put,List.setIfInBounds_toArray,List.set_cons_zero,List.set_cons_succ]
       refine wpAnyH_done (by kernel_rfl) ?_ _
       have zp:=(HQ7.out _ t3).1
       have zq:=(HQ7.out _ t3).2.1
       go_wp2_with (go_at_call 9;refine (HEpq7.out X3 HX3.out).mono ?_;rintro e X4 ⟨rfl,hb⟩;have HX4:=Lib.hid (HX3.out.chain hb);clear hb zp zq)
       refine wp_region_held (S:=S7) hmx ?_
       change wpAnyH _ _ _ _ _ 20 #[false,false,false,false,false,false,false,false,false,false,false,false,false,false,false,false,false,false,false,false] _ X4.drew
       have HX5:=Lib.hid HX4.out.drew
       generalize X4.drew = X5 at HX5 ⊢
       have t5:=HS7.out _ HX5.out
       refine tk 0 141 (.bool v0) t5 ?v9 ?_
       case v9 => intro Wx hSx;go_simp
       refine tk 1 142 (.agg cq) t5 ?v9 ?_
       case v9 => intro Wx hSx;have z0:=(HQ7.out Wx hSx).2.1;go_simp
       refine tk 2 143 (.agg cp) t5 ?v9 ?_
       case v9 => intro Wx hSx;have z0:=(HQ7.out Wx hSx).1;go_simp
       simp only [Act.put,List.setIfInBounds_toArray,List.set_cons_zero,List.set_cons_succ]
       refine o1 3 (fun K hK => ?_)
       go_simp
       refine (HEqp7.out X5 HX5.out).mono ?_
       rintro e X6 ⟨rfl,hb⟩
       have HX6:=Lib.hid (HX5.out.chain hb)
       clear hb
       have t6:=HS7.out _ HX6.out
       refine hK _ _ t6 ?_
       clear hK K t5
       refine tk 4 145 (.bool true) t6 ?v9 ?_
       case v9 => intro Wx hSx;go_simp
       refine tk 5 146 (.bool true) t6 ?v9 ?_
       case v9 => intro Wx hSx;go_simp
       simp only [Act.put,List.setIfInBounds_toArray,List.set_cons_zero,List.set_cons_succ]
       refine tk 6 147 (.bool v0) t6 ?v9 ?_
       case v9 => intro Wx hSx;go_simp
       refine tk 7 148 (.agg cm) t6 ?v9 ?_
       case v9 => intro Wx hSx;have z0:=(HQ7.out Wx hSx).2.2;go_simp
       refine tk 8 149 (.agg cq) t6 ?v9 ?_
       case v9 => intro Wx hSx;have z0:=(HQ7.out Wx hSx).2.1;go_simp
       simp only [Act.put,List.setIfInBounds_toArray,List.set_cons_zero,List.set_cons_succ]
       refine o1 9 (fun K hK => ?_)
       go_simp
       refine (HEmq.out X6 HX6.out).mono ?_
       rintro e X7 ⟨rfl,hb⟩
       have HX7:=Lib.hid (HX6.out.chain hb)
       clear hb
       have t7:=HS7.out _ HX7.out
       refine hK _ _ t7 ?_
       clear hK K t6
       refine tk 10 151 (.bool true) t7 ?v9 ?_
       case v9 => intro Wx hSx;go_simp
       refine tk 11 152 (.bool true) t7 ?v9 ?_
       case v9 => intro Wx hSx;go_simp
       refine tk 12 153 (.bool true) t7 ?v9 ?_
       case v9 => intro Wx hSx;go_simp
       simp only [Act.put,List.setIfInBounds_toArray,List.set_cons_zero,List.set_cons_succ]
       refine tk 13 154 (.agg cp) t7 ?v9 ?_
       case v9 => intro Wx hSx;have z0:=(HQ7.out Wx hSx).1;go_simp
       refine tk 15 156 (.agg cm) t7 ?v9 ?_
       case v9 => intro Wx hSx;have z0:=(HQ7.out Wx hSx).2.2;go_simp
       simp only [Act.put,List.setIfInBounds_toArray,List.set_cons_zero,List.set_cons_succ]
       refine o1 14 (fun K hK => ?_)
       go_simp
       refine (HSp7.out X7 HX7.out).mono ?_
       rintro e X8 ⟨rfl,hb⟩
       have HX8:=Lib.hid (HX7.out.chain hb)
       clear hb
       have t8:=HS7.out _ HX8.out
       refine hK _ _ t8 ?_
       clear hK K t7
       refine o1 16 (fun K hK => ?_)
       go_simp
       refine (HSm.out X8 HX8.out).mono ?_
       rintro e X9 ⟨rfl,hb⟩
       have HX9:=Lib.hid (HX8.out.chain hb)
       clear hb
       have t9:=HS7.out _ HX9.out
       refine hK _ _ t9 ?_
       clear hK K t8
       refine tk 17 158 (.bool true) t9 ?v9 ?_
       case v9 => intro Wx hSx;go_simp
       refine tk 18 159 (.bool true) t9 ?v9 ?_
       case v9 => intro Wx hSx;go_simp
       refine tk 19 6 (.bool true) t9 ?v9 ?_
       case v9 => intro Wx hSx;go_simp
       simp only [Act.put,List.setIfInBounds_toArray,List.set_cons_zero,List.set_cons_succ]
       refine wpAnyH_done (by kernel_rfl) ?_ _
       go_wp2
       go_ret
       exact ⟨rfl,HBQ.out.chain HX9.out⟩
end Go.Proofs.YtehmoomoocdidaaGreatDoor
