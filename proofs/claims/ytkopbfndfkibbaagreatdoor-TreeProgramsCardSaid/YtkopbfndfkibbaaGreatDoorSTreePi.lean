/-
  The reference's Program.
-/
import Derived.Test.YtkopbfndfkibbaaGreatDoorSTreePh
import Derived.Test.YtkopbfndfkibbaaGreatDoorSTreeLp
set_option linter.unusedVariables false
set_option linter.unusedSimpArgs false
namespace Go.Proofs.YtkopbfndfkibbaaGreatDoor
set_option maxRecDepth 100000
set_option maxHeartbeats 40000000
open Go.RowKit
theorem rc_hiddenP : ∃ (T N : Nat) (zc : Array Value),76 = T ∧ N = 2 ∧ zc.size = N ∧ (∀ w : World,(isAgg T).run Tryz.prog w = .ok true w) ∧ (∀ w : World,(sizeOf T).run Tryz.prog w = .ok N w) ∧ (∀ w : World,(zeroValue T).run Tryz.prog w = .ok (.agg zc) w) :=
 ⟨_,2,#[.string ⟨#[]⟩,.slice none 0 0],rfl,rfl,rfl,fun w => by kernel_rfl,fun w => by kernel_rfl,fun w => by kernel_rfl⟩
theorem lk_hiddenP : ∃ (T N : Nat) (zc : Array Value),63 = T ∧ N = 2 ∧ zc.size = N ∧ (∀ w : World,(isAgg T).run Tryz.prog w = .ok true w) ∧ (∀ w : World,(sizeOf T).run Tryz.prog w = .ok N w) ∧ (∀ w : World,(zeroValue T).run Tryz.prog w = .ok (.agg zc) w) :=
 ⟨_,2,#[.string ⟨#[]⟩,.slice none 0 0],rfl,rfl,rfl,fun w => by kernel_rfl,fun w => by kernel_rfl,fun w => by kernel_rfl⟩
theorem df_hiddenP : ∃ (T N : Nat) (zc : Array Value),55 = T ∧ N = 3 ∧ zc.size = N ∧ (∀ w : World,(isAgg T).run Tryz.prog w = .ok true w) ∧ (∀ w : World,(sizeOf T).run Tryz.prog w = .ok N w) ∧ (∀ w : World,(zeroValue T).run Tryz.prog w = .ok (.agg zc) w) :=
 ⟨_,3,#[.string ⟨#[]⟩,.slice none 0 0,.slice none 0 0],rfl,rfl,rfl,fun w => by kernel_rfl,fun w => by kernel_rfl,fun w => by kernel_rfl⟩
theorem lm_hiddenP : ∃ (T N : Nat) (zc : Array Value),61 = T ∧ N = 8 ∧ zc.size = N ∧ (∀ w : World,(isAgg T).run Tryz.prog w = .ok true w) ∧ (∀ w : World,(sizeOf T).run Tryz.prog w = .ok N w) ∧ (∀ w : World,(zeroValue T).run Tryz.prog w = .ok (.agg zc) w) :=
 ⟨_,8,#[.string ⟨#[]⟩,.slice none 0 0,.slice none 0 0,.slice none 0 0,.slice none 0 0,.slice none 0 0,.slice none 0 0,.slice none 0 0],rfl,rfl,rfl,fun w => by kernel_rfl,fun w => by kernel_rfl,fun w => by kernel_rfl⟩
theorem sprogram_any (o : OkF) (p : Pg) (d : GAd) (w : World) (hp : PgOwn w w.heap.size d p) :
 Calls Tryz.prog 7 #[progV d p] w fun e w' => e = .returned (.bool (rPg o p)) ∧ Below w.heap.size w w':=by
 obtain ⟨rs,gs,ks,ds,ms,xs⟩:=p
 obtain ⟨A0,A1,A2,A3,A4,A5,c0,c1,c2,c3,c4,c5⟩:=d
 obtain ⟨⟨m0,m1,m2,m3,m4,m5⟩,r0,r1,r2,r3,r4,r5⟩:=hp
 simp only at m0 m1 m2 m3 m4 m5 r0 r1 r2 r3 r4 r5
 obtain ⟨res,hres⟩ : ∃ r,r = rPg o ⟨rs,gs,ks,ds,ms,xs⟩:=⟨_,rfl⟩
 rw [← hres]
 unfold rPg at hres
 simp only at hres
 obtain ⟨n0,hn0⟩ : ∃ n,n = rs.length:=⟨_,rfl⟩
 obtain ⟨n1,hn1⟩ : ∃ n,n = gs.length:=⟨_,rfl⟩
 obtain ⟨n2,hn2⟩ : ∃ n,n = ks.length:=⟨_,rfl⟩
 obtain ⟨n3,hn3⟩ : ∃ n,n = ds.length:=⟨_,rfl⟩
 obtain ⟨n4,hn4⟩ : ∃ n,n = ms.length:=⟨_,rfl⟩
 obtain ⟨n5,hn5⟩ : ∃ n,n = xs.length:=⟨_,rfl⟩
 show Calls Tryz.prog 7 #[.agg #[.slice A0 rs.length c0,.slice A1 gs.length c1,.slice A2 ks.length c2,.slice A3 ds.length c3,.slice A4 ms.length c4,.slice A5 xs.length c5]] w _
 have HG0 : Hid (BC w 16 #[.slice A1 gs.length c1,.int .i64 0,.int .i64 100] (rPs 0 100 gs)):=Lib.hid (fun W hb => sparams_any gs A1 c1 0 100 W m1 (r1.on pm_keeps hb))
 have HG1 : Hid (BC w 17 #[.slice A1 gs.length c1] (plP gs)):=Lib.hid (fun W hb => splainp_any gs A1 c1 W m1 (r1.on pm_keeps hb))
 generalize rPs 0 100 gs = vg at *
 generalize plP gs = vh at *
 rw [← hn0,← hn1,← hn2,← hn3,← hn4,← hn5]
 rw [← hn1] at HG0 HG1
 rw [← hn0,← hn2,← hn3,← hn4,← hn5] at hres
 rw [← hn0] at m0
 rw [← hn1] at m1
 rw [← hn2] at m2
 rw [← hn3] at m3
 rw [← hn4] at m4
 rw [← hn5] at m5
 have HRES:=Lib.hid hres
 have HR0:=Lib.hid (And.intro r0 hn0)
 have HR2:=Lib.hid (And.intro r2 hn2)
 have HR3:=Lib.hid (And.intro r3 hn3)
 have HR4:=Lib.hid (And.intro r4 hn4)
 have HR5:=Lib.hid (And.intro r5 hn5)
 obtain ⟨W1,hW1⟩ : ∃ W1,W1 = w.alloc (.cells #[.slice A0 n0 c0,.slice A1 n1 c1,.slice A2 n2 c2,.slice A3 n3 c3,.slice A4 n4 c4,.slice A5 n5 c5] 29):=⟨_,rfl⟩
 have HB : Hid (Below w.heap.size w W1):=Lib.hid (by rw [hW1];exact below_alloc w _)
 have q2:=heap_of_alloc w (.cells #[.slice A0 n0 c0,.slice A1 n1 c1,.slice A2 n2 c2,.slice A3 n3 c3,.slice A4 n4 c4,.slice A5 n5 c5] 29)
 rw [← hW1] at q2
 have HF : Hid (∀ W,Below W1.heap.size W1 W → W.cell? ⟨w.heap.size,0,none⟩ = some (.slice A0 n0 c0) ∧ W.cell? ⟨w.heap.size,1,none⟩ = some (.slice A1 n1 c1) ∧ W.cell? ⟨w.heap.size,2,none⟩ = some (.slice A2 n2 c2) ∧ W.cell? ⟨w.heap.size,3,none⟩ = some (.slice A3 n3 c3) ∧ W.cell? ⟨w.heap.size,4,none⟩ = some (.slice A4 n4 c4) ∧ W.cell? ⟨w.heap.size,5,none⟩ = some (.slice A5 n5 c5)) :=
  Lib.hid (fun W hb => ⟨cell_of_block (kept_box hb q2) 0 rfl,cell_of_block (kept_box hb q2) 1 rfl,cell_of_block (kept_box hb q2) 2 rfl,cell_of_block (kept_box hb q2) 3 rfl,cell_of_block (kept_box hb q2) 4 rfl,cell_of_block (kept_box hb q2) 5 rfl⟩)
 have HB0:=Lib.hid (Below.refl W1.heap.size W1)
 obtain ⟨TA,NA,zcA,hTA,hNA,hzcA,hagA,hszA,hzvA⟩:=rc_hiddenP
 have e1A : ∀ y : Operand,Op.load 76 y = Op.load TA y:=fun y => by rw [hTA]
 have e2A : ∀ y z : Operand,Op.store 76 y z = Op.store TA y z:=fun y z => by rw [hTA]
 have e3A : Op.alloc 76 = Op.alloc TA:=by rw [hTA]
 have HNA:=Lib.hid (And.intro hNA hzcA)
 obtain ⟨TB,NB,zcB,hTB,hNB,hzcB,hagB,hszB,hzvB⟩:=lk_hiddenP
 have e1B : ∀ y : Operand,Op.load 63 y = Op.load TB y:=fun y => by rw [hTB]
 have e2B : ∀ y z : Operand,Op.store 63 y z = Op.store TB y z:=fun y z => by rw [hTB]
 have e3B : Op.alloc 63 = Op.alloc TB:=by rw [hTB]
 have HNB:=Lib.hid (And.intro hNB hzcB)
 obtain ⟨TC,NC,zcC,hTC,hNC,hzcC,hagC,hszC,hzvC⟩:=df_hiddenP
 have e1C : ∀ y : Operand,Op.load 55 y = Op.load TC y:=fun y => by rw [hTC]
 have e2C : ∀ y z : Operand,Op.store 55 y z = Op.store TC y z:=fun y z => by rw [hTC]
 have e3C : Op.alloc 55 = Op.alloc TC:=by rw [hTC]
 have HNC:=Lib.hid (And.intro hNC hzcC)
 obtain ⟨TD,ND,zcD,hTD,hND,hzcD,hagD,hszD,hzvD⟩:=lm_hiddenP
 have e1D : ∀ y : Operand,Op.load 61 y = Op.load TD y:=fun y => by rw [hTD]
 have e2D : ∀ y z : Operand,Op.store 61 y z = Op.store TD y z:=fun y z => by rw [hTD]
 have e3D : Op.alloc 61 = Op.alloc TD:=by rw [hTD]
 have HND:=Lib.hid (And.intro hND hzcD)
 obtain ⟨TE,NE,hTE,hNE,hagE,hszE⟩:=hid_ProcP
 have e1E : ∀ y : Operand,Op.load 67 y = Op.load TE y:=fun y => by rw [hTE]
 have HNE:=Lib.hid hNE
 unfold maxLen at m0 m1 m2 m3 m4 m5
 clear r0 r1 r2 r3 r4 r5 q2 hn0 hn1 hn2 hn3 hn4 hn5 hres hNE hNA hzcA hNB hzcB hNC hzcC hND hzcD
 go_enter Tryz.func7,Tryz.ntmps7
 simp only [e1A,e2A,e3A,e1B,e2B,e3B,e1C,e2C,e3C,e1D,e2D,e3D,e1E]
 clear e1A e2A e3A e1B e2B e3B e1C e2C e3C e1D e2D e3D hTA hTB hTC hTD e1E hTE
 go_upto_region 1 with fail
 rw [← hW1]
 clear hW1
 obtain ⟨f0,f1,f2,f3,f4,f5⟩:=HF.out _ HB0.out
 by_cases l0 : (n0 : Int) ≤ 100
 ·have l0' : ¬ (n0 : Int) > 100:=by omega
  by_cases l2 : (n2 : Int) ≤ 100
  ·have l2' : ¬ (n2 : Int) > 100:=by omega
   by_cases l3 : (n3 : Int) ≤ 100
   ·have l3' : ¬ (n3 : Int) > 100:=by omega
    by_cases l4 : (n4 : Int) ≤ 100
    ·have l4' : ¬ (n4 : Int) > 100:=by omega
     by_cases l5 : (n5 : Int) ≤ 100
     ·have l5' : ¬ (n5 : Int) > 100:=by omega
      cases vg with
      | false =>
        go_wp2_with (go_at_call 16;refine (HG0.out _ HB.out).mono ?_;rintro e w2 ⟨rfl,hb⟩;have H2:=Lib.hid (HB0.out.chain hb);clear hb f0 f1 f2 f3 f4 f5;obtain ⟨-,f1,-,-,-,-⟩:=HF.out _ H2.out)
        go_ret
        exact ⟨by rw [HRES.out];simp,HB.out.chain H2.out⟩
      | true =>
        cases vh with
        | false =>
          go_wp2_with (first
           | (go_at_call 16;refine (HG0.out _ HB.out).mono ?_;rintro e w2 ⟨rfl,hb⟩;have H2:=Lib.hid (HB0.out.chain hb);clear hb f0 f1 f2 f3 f4 f5;obtain ⟨-,f1,-,-,-,-⟩:=HF.out _ H2.out)
           | (go_at_call 17;refine (HG1.out _ (HB.out.chain H2.out)).mono ?_;rintro e w3 ⟨rfl,hb⟩;have H3:=Lib.hid (H2.out.chain hb);clear hb f1))
          go_ret
          exact ⟨by rw [HRES.out];simp,HB.out.chain H3.out⟩
        | true =>
          go_wp2_with (first
           | (go_at_call 16;refine (HG0.out _ HB.out).mono ?_;rintro e w2 ⟨rfl,hb⟩;have H2:=Lib.hid (HB0.out.chain hb);clear hb f0 f1 f2 f3 f4 f5;obtain ⟨-,f1,-,-,-,-⟩:=HF.out _ H2.out)
           | (go_at_call 17;refine (HG1.out _ (HB.out.chain H2.out)).mono ?_;rintro e w3 ⟨rfl,hb⟩;have H3:=Lib.hid (H2.out.chain hb);clear hb f1))
          go_loopg [3] n0 (fun m j wr => ∃ k : Nat,m = n0 - k ∧ k ≤ n0 ∧ j = .int .i64 k ∧ Hid (Below W1.heap.size W1 wr ∧ (rs.take k).all rRc = true))
          case atStart => exact ⟨0,rfl,Nat.zero_le _,(by first | rfl | go_num),Lib.hid ⟨H3.out,rfl⟩⟩
          case round =>
           obtain ⟨k0,rfl,hk0,rfl,HI0⟩:=hrel
           obtain ⟨f0,f1,f2,f3,f4,f5⟩:=HF.out _ HI0.out.1
           by_cases hlt0 : k0 < n0
           ·have hki : (k0 : Int) < n0:=by omega
            obtain ⟨⟨nm,fs⟩,hi⟩ : ∃ x,rs[k0]? = some x:=⟨rs[k0]'(by rw [← HR0.out.2];exact hlt0),List.getElem?_eq_getElem _⟩
            have hbw:=HB.out.chain HI0.out.1
            obtain ⟨a,rfl,hab,B1,e1,d0,d1,b0,b1,rp⟩:=(HR0.out.1.on rc_keeps hbw).at_ hi
            obtain ⟨v0,hv0⟩ : ∃ v,v = nameR nm:=⟨_,rfl⟩
            have HC0 : Hid (BC wr 18 #[.string ⟨nm.toArray⟩] v0):=Lib.hid (fun W hb => by rw [hv0];exact sname_any nm W b0)
            obtain ⟨v1,hv1⟩ : ∃ v,v = rPs 1 8 fs:=⟨_,rfl⟩
            have HC1 : Hid (BC wr 16 #[.slice B1 fs.length e1,.int .i64 1,.int .i64 8] v1):=Lib.hid (fun W hb => by rw [hv1];exact sparams_any fs B1 e1 1 8 W b1 (rp.on pm_keeps hb))
            obtain ⟨v2,hv2⟩ : ∃ v,v = plP fs:=⟨_,rfl⟩
            have HC2 : Hid (BC wr 17 #[.slice B1 fs.length e1] v2):=Lib.hid (fun W hb => by rw [hv2];exact splainp_any fs B1 e1 W b1 (rp.on pm_keeps hb))
            have HV : Hid (rRc ⟨nm,fs⟩ = (v0 && v1 && v2)):=Lib.hid (by rw [hv0,hv1,hv2];rfl)
            obtain ⟨cs,hcs⟩ : ∃ cs : Array Value,cs = #[.string ⟨nm.toArray⟩,.slice B1 fs.length e1]:=⟨_,rfl⟩
            have hcz : cs.size = 2:=by rw [hcs];rfl
            have h1c : cs.all (·.oneCell') = true:=by rw [hcs,List.all_toArray];rfl
            have hca : ∀ (j : Nat) (v : Value),cs[j]? = some v → wr.cell? ((a.add (k0 * 2)).add j) = some v:=by
             intro j v hv
             rw [hcs] at hv
             match j,hv with
             | 0,hv => injection hv with hv;subst hv;rw [show (a.add (k0 * 2)).add 0 = a.add (k0 * 2) from by simp [Addr.add]];exact d0
             | 1,hv => injection hv with hv;subst hv;exact d1
             | j + 2,hv => simp at hv
            generalize fs.length = l1 at *
            have hl1 : (loadCellsFrom (a.add (k0 * 2)) 0 NA #[]).run Tryz.prog wr = .ok cs wr:=load_list hca (hcz.trans HNA.out.1.symm)
            have hst : (storeCells ⟨wr.heap.size,0,none⟩ cs.toList).run Tryz.prog (wr.alloc (.cells zcA TA)) = .ok () (wr.alloc (.cells cs TA)):=by
             have h:=store_row (heap_of_alloc wr (.cells zcA TA)) (HNA.out.2.trans (HNA.out.1.trans hcz.symm)) h1c
             rw [World.setRow_alloc_new] at h
             exact h
            have hszc : cs.size = NA:=hcz.trans HNA.out.1.symm
            obtain ⟨wo,hwo⟩ : ∃ wo,wo = wr.alloc (.cells cs TA):=⟨_,rfl⟩
            have HBO : Hid (Below wr.heap.size wr wo):=Lib.hid (by rw [hwo];exact below_alloc wr _)
            have hbx : wo.heap[wr.heap.size]? = some (.cells cs TA (0,0)):=by rw [hwo];exact heap_of_alloc wr _
            have HBX : Hid (∀ W,Below wo.heap.size wo W → W.cell? ⟨wr.heap.size,0,none⟩ = some (.string ⟨nm.toArray⟩) ∧ W.cell? ⟨wr.heap.size,1,none⟩ = some (.slice B1 l1 e1)):=Lib.hid (fun W hb => ⟨cell_of_block (kept_box hb hbx) 0 (by rw [hcs];rfl),cell_of_block (kept_box hb hbx) 1 (by rw [hcs];rfl)⟩)
            have HZ0:=Lib.hid (Below.refl wo.heap.size wo)
            obtain ⟨g0,g1⟩:=HBX.out _ HZ0.out
            rw [hwo] at g0 g1
            have HX:=Lib.hid (And.intro hi (all_take_succ rRc rs k0 _ hi))
            have HLT:=Lib.hid (And.intro trivial hlt0)
            unfold maxLen at b0 b1
            clear hca hi hbw hbx hcs hcz h1c hab d0 d1 rp hv0 hv1 hv2
            cases v0 with
            | false =>
              go_wp2_with (go_at_call 18;rw [← hwo];clear hwo;((with_reducible refine (HC0.out _ (HBO.out.chain HZ0.out)).mono ?_);rintro e wy0 ⟨rfl,hb⟩);have HZ1:=Lib.hid (HZ0.out.chain hb);clear hb g0 g1)
              go_ret
              exact ⟨by rw [HRES.out,all_of_false rRc rs k0 _ HX.out.1 (by rw [HV.out];rfl)];simp,HB.out.chain ((HI0.out.1.chain HBO.out).chain HZ1.out)⟩
            | true =>
              cases v1 with
              | false =>
                go_wp2_with (first
                 | (go_at_call 18;rw [← hwo];clear hwo;((with_reducible refine (HC0.out _ (HBO.out.chain HZ0.out)).mono ?_);rintro e wy0 ⟨rfl,hb⟩);have HZ1:=Lib.hid (HZ0.out.chain hb);clear hb g0 g1;obtain ⟨-,y1⟩:=HBX.out _ HZ1.out)
                 | (go_at_call 16;((with_reducible refine (HC1.out _ (HBO.out.chain HZ1.out)).mono ?_);rintro e wy1 ⟨rfl,hb⟩);have HZ2:=Lib.hid (HZ1.out.chain hb);clear hb y1))
                go_ret
                exact ⟨by rw [HRES.out,all_of_false rRc rs k0 _ HX.out.1 (by rw [HV.out];rfl)];simp,HB.out.chain ((HI0.out.1.chain HBO.out).chain HZ2.out)⟩
              | true =>
                cases v2 with
                | false =>
                  go_wp2_with (first
                   | (go_at_call 18;rw [← hwo];clear hwo;((with_reducible refine (HC0.out _ (HBO.out.chain HZ0.out)).mono ?_);rintro e wy0 ⟨rfl,hb⟩);have HZ1:=Lib.hid (HZ0.out.chain hb);clear hb g0 g1;obtain ⟨-,y1⟩:=HBX.out _ HZ1.out)
                   | (go_at_call 16;((with_reducible refine (HC1.out _ (HBO.out.chain HZ1.out)).mono ?_);rintro e wy1 ⟨rfl,hb⟩);have HZ2:=Lib.hid (HZ1.out.chain hb);clear hb y1;obtain ⟨-,y2⟩:=HBX.out _ HZ2.out)
                   | (go_at_call 17;((with_reducible refine (HC2.out _ (HBO.out.chain HZ2.out)).mono ?_);rintro e wy2 ⟨rfl,hb⟩);have HZ3:=Lib.hid (HZ2.out.chain hb);clear hb y2))
                  go_ret
                  exact ⟨by rw [HRES.out,all_of_false rRc rs k0 _ HX.out.1 (by rw [HV.out];rfl)];simp,HB.out.chain ((HI0.out.1.chain HBO.out).chain HZ3.out)⟩
                | true =>
                  go_wp2_with (first
                   | (go_at_call 18;rw [← hwo];clear hwo;((with_reducible refine (HC0.out _ (HBO.out.chain HZ0.out)).mono ?_);rintro e wy0 ⟨rfl,hb⟩);have HZ1:=Lib.hid (HZ0.out.chain hb);clear hb g0 g1;obtain ⟨-,y1⟩:=HBX.out _ HZ1.out)
                   | (go_at_call 16;((with_reducible refine (HC1.out _ (HBO.out.chain HZ1.out)).mono ?_);rintro e wy1 ⟨rfl,hb⟩);have HZ2:=Lib.hid (HZ1.out.chain hb);clear hb y1;obtain ⟨-,y2⟩:=HBX.out _ HZ2.out)
                   | (go_at_call 17;((with_reducible refine (HC2.out _ (HBO.out.chain HZ2.out)).mono ?_);rintro e wy2 ⟨rfl,hb⟩);have HZ3:=Lib.hid (HZ2.out.chain hb);clear hb y2))
                  go_roundg (n0 - (k0 + 1))
                  case measure => have := HLT.out.2;omega
                  case rel => exact ⟨k0 + 1,rfl,(by have := HLT.out.2;omega),by go_num,Lib.hid ⟨(HI0.out.1.chain HBO.out).chain HZ3.out,by rw [HX.out.2,HI0.out.2,HV.out];rfl⟩⟩
           ·obtain rfl : k0 = n0:=by omega
            have HA0 : Hid (rs.all rRc = true):=Lib.hid (by
             have := HI0.out.2
             rwa [List.take_of_length_le (by rw [HR0.out.2];exact Nat.le_refl _)] at this)
            go_wp2
            go_loopg [5] n2 (fun m j wr => ∃ k : Nat,m = n2 - k ∧ k ≤ n2 ∧ j = .int .i64 k ∧ Hid (Below W1.heap.size W1 wr ∧ (ks.take k).all (rLk o) = true))
            case atStart => exact ⟨0,rfl,Nat.zero_le _,(by first | rfl | go_num),Lib.hid ⟨HI0.out.1,rfl⟩⟩
            case round =>
             clear f0 f1 f2 f3 f4 f5
             obtain ⟨k2,rfl,hk2,rfl,HI2⟩:=hrel
             obtain ⟨f0,f1,f2,f3,f4,f5⟩:=HF.out _ HI2.out.1
             by_cases hlt2 : k2 < n2
             ·have hki : (k2 : Int) < n2:=by omega
              obtain ⟨⟨nm,iv⟩,hi⟩ : ∃ x,ks[k2]? = some x:=⟨ks[k2]'(by rw [← HR2.out.2];exact hlt2),List.getElem?_eq_getElem _⟩
              have hbw:=HB.out.chain HI2.out.1
              obtain ⟨a,rfl,hab,B1,e1,d0,d1,b0,b1,rp⟩:=(HR2.out.1.on lk_keeps hbw).at_ hi
              obtain ⟨v0,hv0⟩ : ∃ v,v = nameR nm:=⟨_,rfl⟩
              have HC0 : Hid (BC wr 18 #[.string ⟨nm.toArray⟩] v0):=Lib.hid (fun W hb => by rw [hv0];exact sname_any nm W b0)
              obtain ⟨v1,hv1⟩ : ∃ v,v = rFs 1 iv:=⟨_,rfl⟩
              have HC1 : Hid (BC wr 19 #[.slice B1 iv.length e1,.int .i64 1] v1):=Lib.hid (fun W hb => by rw [hv1];exact sforms_any iv B1 e1 1 W b1 (rp.on fm_keeps hb))
              obtain ⟨v2,hv2⟩ : ∃ v,v = iv.all o.f:=⟨_,rfl⟩
              have HC2 : Hid (BC wr 20 #[.slice B1 iv.length e1] v2):=Lib.hid (fun W hb => by rw [hv2];exact plain_any o iv B1 e1 W b1 (rp.on fm_keeps hb))
              have HV : Hid ((rLk o) ⟨nm,iv⟩ = (v0 && v1 && v2)):=Lib.hid (by rw [hv0,hv1,hv2];rfl)
              obtain ⟨cs,hcs⟩ : ∃ cs : Array Value,cs = #[.string ⟨nm.toArray⟩,.slice B1 iv.length e1]:=⟨_,rfl⟩
              have hcz : cs.size = 2:=by rw [hcs];rfl
              have h1c : cs.all (·.oneCell') = true:=by rw [hcs,List.all_toArray];rfl
              have hca : ∀ (j : Nat) (v : Value),cs[j]? = some v → wr.cell? ((a.add (k2 * 2)).add j) = some v:=by
               intro j v hv
               rw [hcs] at hv
               match j,hv with
               | 0,hv => injection hv with hv;subst hv;rw [show (a.add (k2 * 2)).add 0 = a.add (k2 * 2) from by simp [Addr.add]];exact d0
               | 1,hv => injection hv with hv;subst hv;exact d1
               | j + 2,hv => simp at hv
              generalize iv.length = l1 at *
              have hl1 : (loadCellsFrom (a.add (k2 * 2)) 0 NB #[]).run Tryz.prog wr = .ok cs wr:=load_list hca (hcz.trans HNB.out.1.symm)
              have hst : (storeCells ⟨wr.heap.size,0,none⟩ cs.toList).run Tryz.prog (wr.alloc (.cells zcB TB)) = .ok () (wr.alloc (.cells cs TB)):=by
               have h:=store_row (heap_of_alloc wr (.cells zcB TB)) (HNB.out.2.trans (HNB.out.1.trans hcz.symm)) h1c
               rw [World.setRow_alloc_new] at h
               exact h
              have hszc : cs.size = NB:=hcz.trans HNB.out.1.symm
              obtain ⟨wo,hwo⟩ : ∃ wo,wo = wr.alloc (.cells cs TB):=⟨_,rfl⟩
              have HBO : Hid (Below wr.heap.size wr wo):=Lib.hid (by rw [hwo];exact below_alloc wr _)
              have hbx : wo.heap[wr.heap.size]? = some (.cells cs TB (0,0)):=by rw [hwo];exact heap_of_alloc wr _
              have HBX : Hid (∀ W,Below wo.heap.size wo W → W.cell? ⟨wr.heap.size,0,none⟩ = some (.string ⟨nm.toArray⟩) ∧ W.cell? ⟨wr.heap.size,1,none⟩ = some (.slice B1 l1 e1)):=Lib.hid (fun W hb => ⟨cell_of_block (kept_box hb hbx) 0 (by rw [hcs];rfl),cell_of_block (kept_box hb hbx) 1 (by rw [hcs];rfl)⟩)
              have HZ0:=Lib.hid (Below.refl wo.heap.size wo)
              obtain ⟨g0,g1⟩:=HBX.out _ HZ0.out
              rw [hwo] at g0 g1
              have HX:=Lib.hid (And.intro hi (all_take_succ (rLk o) ks k2 _ hi))
              have HLT:=Lib.hid (And.intro trivial hlt2)
              unfold maxLen at b0 b1
              clear hca hi hbw hbx hcs hcz h1c hab d0 d1 rp hv0 hv1 hv2
              cases v0 with
              | false =>
                go_wp2_with (go_at_call 18;rw [← hwo];clear hwo;((with_reducible refine (HC0.out _ (HBO.out.chain HZ0.out)).mono ?_);rintro e wy0 ⟨rfl,hb⟩);have HZ1:=Lib.hid (HZ0.out.chain hb);clear hb g0 g1)
                go_ret
                exact ⟨by rw [HRES.out,all_of_false (rLk o) ks k2 _ HX.out.1 (by rw [HV.out];rfl)];simp,HB.out.chain ((HI2.out.1.chain HBO.out).chain HZ1.out)⟩
              | true =>
                cases v1 with
                | false =>
                  go_wp2_with (first
                   | (go_at_call 18;rw [← hwo];clear hwo;((with_reducible refine (HC0.out _ (HBO.out.chain HZ0.out)).mono ?_);rintro e wy0 ⟨rfl,hb⟩);have HZ1:=Lib.hid (HZ0.out.chain hb);clear hb g0 g1;obtain ⟨-,y1⟩:=HBX.out _ HZ1.out)
                   | (go_at_call 19;((with_reducible refine (HC1.out _ (HBO.out.chain HZ1.out)).mono ?_);rintro e wy1 ⟨rfl,hb⟩);have HZ2:=Lib.hid (HZ1.out.chain hb);clear hb y1))
                  go_ret
                  exact ⟨by rw [HRES.out,all_of_false (rLk o) ks k2 _ HX.out.1 (by rw [HV.out];rfl)];simp,HB.out.chain ((HI2.out.1.chain HBO.out).chain HZ2.out)⟩
                | true =>
                  cases v2 with
                  | false =>
                    go_wp2_with (first
                     | (go_at_call 18;rw [← hwo];clear hwo;((with_reducible refine (HC0.out _ (HBO.out.chain HZ0.out)).mono ?_);rintro e wy0 ⟨rfl,hb⟩);have HZ1:=Lib.hid (HZ0.out.chain hb);clear hb g0 g1;obtain ⟨-,y1⟩:=HBX.out _ HZ1.out)
                     | (go_at_call 19;((with_reducible refine (HC1.out _ (HBO.out.chain HZ1.out)).mono ?_);rintro e wy1 ⟨rfl,hb⟩);have HZ2:=Lib.hid (HZ1.out.chain hb);clear hb y1;obtain ⟨-,y2⟩:=HBX.out _ HZ2.out)
                     | (go_at_call 20;((with_reducible refine (HC2.out _ (HBO.out.chain HZ2.out)).mono ?_);rintro e wy2 ⟨rfl,hb⟩);have HZ3:=Lib.hid (HZ2.out.chain hb);clear hb y2))
                    go_ret
                    exact ⟨by rw [HRES.out,all_of_false (rLk o) ks k2 _ HX.out.1 (by rw [HV.out];rfl)];simp,HB.out.chain ((HI2.out.1.chain HBO.out).chain HZ3.out)⟩
                  | true =>
                    go_wp2_with (first
                     | (go_at_call 18;rw [← hwo];clear hwo;((with_reducible refine (HC0.out _ (HBO.out.chain HZ0.out)).mono ?_);rintro e wy0 ⟨rfl,hb⟩);have HZ1:=Lib.hid (HZ0.out.chain hb);clear hb g0 g1;obtain ⟨-,y1⟩:=HBX.out _ HZ1.out)
                     | (go_at_call 19;((with_reducible refine (HC1.out _ (HBO.out.chain HZ1.out)).mono ?_);rintro e wy1 ⟨rfl,hb⟩);have HZ2:=Lib.hid (HZ1.out.chain hb);clear hb y1;obtain ⟨-,y2⟩:=HBX.out _ HZ2.out)
                     | (go_at_call 20;((with_reducible refine (HC2.out _ (HBO.out.chain HZ2.out)).mono ?_);rintro e wy2 ⟨rfl,hb⟩);have HZ3:=Lib.hid (HZ2.out.chain hb);clear hb y2))
                    go_roundg (n2 - (k2 + 1))
                    case measure => have := HLT.out.2;omega
                    case rel => exact ⟨k2 + 1,rfl,(by have := HLT.out.2;omega),by go_num,Lib.hid ⟨(HI2.out.1.chain HBO.out).chain HZ3.out,by rw [HX.out.2,HI2.out.2,HV.out];rfl⟩⟩
             ·obtain rfl : k2 = n2:=by omega
              have HA2 : Hid (ks.all (rLk o) = true):=Lib.hid (by
               have := HI2.out.2
               rwa [List.take_of_length_le (by rw [HR2.out.2];exact Nat.le_refl _)] at this)
              go_wp2
              go_loopg [7] n3 (fun m j wr => ∃ k : Nat,m = n3 - k ∧ k ≤ n3 ∧ j = .int .i64 k ∧ Hid (Below W1.heap.size W1 wr ∧ (ds.take k).all (rDf o) = true))
              case atStart => exact ⟨0,rfl,Nat.zero_le _,(by first | rfl | go_num),Lib.hid ⟨HI2.out.1,rfl⟩⟩
              case round =>
               clear f0 f1 f2 f3 f4 f5
               obtain ⟨k3,rfl,hk3,rfl,HI3⟩:=hrel
               obtain ⟨f0,f1,f2,f3,f4,f5⟩:=HF.out _ HI3.out.1
               by_cases hlt3 : k3 < n3
               ·have hki : (k3 : Int) < n3:=by omega
                obtain ⟨⟨nm,ps,fs⟩,hi⟩ : ∃ x,ds[k3]? = some x:=⟨ds[k3]'(by rw [← HR3.out.2];exact hlt3),List.getElem?_eq_getElem _⟩
                have hbw:=HB.out.chain HI3.out.1
                obtain ⟨a,rfl,hab,B1,e1,B2,e2,d0,d1,d2,b0,b1,b2,rp,rf⟩:=(HR3.out.1.on df_keeps hbw).at_ hi
                obtain ⟨v0,hv0⟩ : ∃ v,v = nameR nm:=⟨_,rfl⟩
                have HC0 : Hid (BC wr 18 #[.string ⟨nm.toArray⟩] v0):=Lib.hid (fun W hb => by rw [hv0];exact sname_any nm W b0)
                obtain ⟨v1,hv1⟩ : ∃ v,v = rPs 1 8 ps:=⟨_,rfl⟩
                have HC1 : Hid (BC wr 16 #[.slice B1 ps.length e1,.int .i64 1,.int .i64 8] v1):=Lib.hid (fun W hb => by rw [hv1];exact sparams_any ps B1 e1 1 8 W b1 (rp.on pm_keeps hb))
                obtain ⟨v2,hv2⟩ : ∃ v,v = plP ps:=⟨_,rfl⟩
                have HC2 : Hid (BC wr 17 #[.slice B1 ps.length e1] v2):=Lib.hid (fun W hb => by rw [hv2];exact splainp_any ps B1 e1 W b1 (rp.on pm_keeps hb))
                obtain ⟨v3,hv3⟩ : ∃ v,v = rFs 1 fs:=⟨_,rfl⟩
                have HC3 : Hid (BC wr 19 #[.slice B2 fs.length e2,.int .i64 1] v3):=Lib.hid (fun W hb => by rw [hv3];exact sforms_any fs B2 e2 1 W b2 (rf.on fm_keeps hb))
                obtain ⟨v4,hv4⟩ : ∃ v,v = fs.all o.f:=⟨_,rfl⟩
                have HC4 : Hid (BC wr 20 #[.slice B2 fs.length e2] v4):=Lib.hid (fun W hb => by rw [hv4];exact plain_any o fs B2 e2 W b2 (rf.on fm_keeps hb))
                have HV : Hid ((rDf o) ⟨nm,ps,fs⟩ = (v0 && v1 && v2 && v3 && v4)):=Lib.hid (by rw [hv0,hv1,hv2,hv3,hv4];rfl)
                obtain ⟨cs,hcs⟩ : ∃ cs : Array Value,cs = #[.string ⟨nm.toArray⟩,.slice B1 ps.length e1,.slice B2 fs.length e2]:=⟨_,rfl⟩
                have hcz : cs.size = 3:=by rw [hcs];rfl
                have h1c : cs.all (·.oneCell') = true:=by rw [hcs,List.all_toArray];rfl
                have hca : ∀ (j : Nat) (v : Value),cs[j]? = some v → wr.cell? ((a.add (k3 * 3)).add j) = some v:=by
                 intro j v hv
                 rw [hcs] at hv
                 match j,hv with
                 | 0,hv => injection hv with hv;subst hv;rw [show (a.add (k3 * 3)).add 0 = a.add (k3 * 3) from by simp [Addr.add]];exact d0
                 | 1,hv => injection hv with hv;subst hv;exact d1
                 | 2,hv => injection hv with hv;subst hv;exact d2
                 | j + 3,hv => simp at hv
                generalize ps.length = l1 at *
                generalize fs.length = l2 at *
                have hl1 : (loadCellsFrom (a.add (k3 * 3)) 0 NC #[]).run Tryz.prog wr = .ok cs wr:=load_list hca (hcz.trans HNC.out.1.symm)
                have hst : (storeCells ⟨wr.heap.size,0,none⟩ cs.toList).run Tryz.prog (wr.alloc (.cells zcC TC)) = .ok () (wr.alloc (.cells cs TC)):=by
                 have h:=store_row (heap_of_alloc wr (.cells zcC TC)) (HNC.out.2.trans (HNC.out.1.trans hcz.symm)) h1c
                 rw [World.setRow_alloc_new] at h
                 exact h
                have hszc : cs.size = NC:=hcz.trans HNC.out.1.symm
                obtain ⟨wo,hwo⟩ : ∃ wo,wo = wr.alloc (.cells cs TC):=⟨_,rfl⟩
                have HBO : Hid (Below wr.heap.size wr wo):=Lib.hid (by rw [hwo];exact below_alloc wr _)
                have hbx : wo.heap[wr.heap.size]? = some (.cells cs TC (0,0)):=by rw [hwo];exact heap_of_alloc wr _
                have HBX : Hid (∀ W,Below wo.heap.size wo W → W.cell? ⟨wr.heap.size,0,none⟩ = some (.string ⟨nm.toArray⟩) ∧ W.cell? ⟨wr.heap.size,1,none⟩ = some (.slice B1 l1 e1) ∧ W.cell? ⟨wr.heap.size,2,none⟩ = some (.slice B2 l2 e2)):=Lib.hid (fun W hb => ⟨cell_of_block (kept_box hb hbx) 0 (by rw [hcs];rfl),cell_of_block (kept_box hb hbx) 1 (by rw [hcs];rfl),cell_of_block (kept_box hb hbx) 2 (by rw [hcs];rfl)⟩)
                have HZ0:=Lib.hid (Below.refl wo.heap.size wo)
                obtain ⟨g0,g1,g2⟩:=HBX.out _ HZ0.out
                rw [hwo] at g0 g1 g2
                have HX:=Lib.hid (And.intro hi (all_take_succ (rDf o) ds k3 _ hi))
                have HLT:=Lib.hid (And.intro trivial hlt3)
                unfold maxLen at b0 b1 b2
                clear hca hi hbw hbx hcs hcz h1c hab d0 d1 d2 rp rf hv0 hv1 hv2 hv3 hv4
                cases v0 with
                | false =>
                  go_wp2_with (go_at_call 18;rw [← hwo];clear hwo;((with_reducible refine (HC0.out _ (HBO.out.chain HZ0.out)).mono ?_);rintro e wy0 ⟨rfl,hb⟩);have HZ1:=Lib.hid (HZ0.out.chain hb);clear hb g0 g1 g2)
                  go_ret
                  exact ⟨by rw [HRES.out,all_of_false (rDf o) ds k3 _ HX.out.1 (by rw [HV.out];rfl)];simp,HB.out.chain ((HI3.out.1.chain HBO.out).chain HZ1.out)⟩
                | true =>
                  cases v1 with
                  | false =>
                    go_wp2_with (first
                     | (go_at_call 18;rw [← hwo];clear hwo;((with_reducible refine (HC0.out _ (HBO.out.chain HZ0.out)).mono ?_);rintro e wy0 ⟨rfl,hb⟩);have HZ1:=Lib.hid (HZ0.out.chain hb);clear hb g0 g1 g2;obtain ⟨-,y1,-⟩:=HBX.out _ HZ1.out)
                     | (go_at_call 16;((with_reducible refine (HC1.out _ (HBO.out.chain HZ1.out)).mono ?_);rintro e wy1 ⟨rfl,hb⟩);have HZ2:=Lib.hid (HZ1.out.chain hb);clear hb y1))
                    go_ret
                    exact ⟨by rw [HRES.out,all_of_false (rDf o) ds k3 _ HX.out.1 (by rw [HV.out];rfl)];simp,HB.out.chain ((HI3.out.1.chain HBO.out).chain HZ2.out)⟩
                  | true =>
                    cases v2 with
                    | false =>
                      go_wp2_with (first
                       | (go_at_call 18;rw [← hwo];clear hwo;((with_reducible refine (HC0.out _ (HBO.out.chain HZ0.out)).mono ?_);rintro e wy0 ⟨rfl,hb⟩);have HZ1:=Lib.hid (HZ0.out.chain hb);clear hb g0 g1 g2;obtain ⟨-,y1,-⟩:=HBX.out _ HZ1.out)
                       | (go_at_call 16;((with_reducible refine (HC1.out _ (HBO.out.chain HZ1.out)).mono ?_);rintro e wy1 ⟨rfl,hb⟩);have HZ2:=Lib.hid (HZ1.out.chain hb);clear hb y1;obtain ⟨-,y2,-⟩:=HBX.out _ HZ2.out)
                       | (go_at_call 17;((with_reducible refine (HC2.out _ (HBO.out.chain HZ2.out)).mono ?_);rintro e wy2 ⟨rfl,hb⟩);have HZ3:=Lib.hid (HZ2.out.chain hb);clear hb y2))
                      go_ret
                      exact ⟨by rw [HRES.out,all_of_false (rDf o) ds k3 _ HX.out.1 (by rw [HV.out];rfl)];simp,HB.out.chain ((HI3.out.1.chain HBO.out).chain HZ3.out)⟩
                    | true =>
                      cases v3 with
                      | false =>
                        go_wp2_with (first
                         | (go_at_call 18;rw [← hwo];clear hwo;((with_reducible refine (HC0.out _ (HBO.out.chain HZ0.out)).mono ?_);rintro e wy0 ⟨rfl,hb⟩);have HZ1:=Lib.hid (HZ0.out.chain hb);clear hb g0 g1 g2;obtain ⟨-,y1,-⟩:=HBX.out _ HZ1.out)
                         | (go_at_call 16;((with_reducible refine (HC1.out _ (HBO.out.chain HZ1.out)).mono ?_);rintro e wy1 ⟨rfl,hb⟩);have HZ2:=Lib.hid (HZ1.out.chain hb);clear hb y1;obtain ⟨-,y2,-⟩:=HBX.out _ HZ2.out)
                         | (go_at_call 17;((with_reducible refine (HC2.out _ (HBO.out.chain HZ2.out)).mono ?_);rintro e wy2 ⟨rfl,hb⟩);have HZ3:=Lib.hid (HZ2.out.chain hb);clear hb y2;obtain ⟨-,-,y3⟩:=HBX.out _ HZ3.out)
                         | (go_at_call 19;((with_reducible refine (HC3.out _ (HBO.out.chain HZ3.out)).mono ?_);rintro e wy3 ⟨rfl,hb⟩);have HZ4:=Lib.hid (HZ3.out.chain hb);clear hb y3))
                        go_ret
                        exact ⟨by rw [HRES.out,all_of_false (rDf o) ds k3 _ HX.out.1 (by rw [HV.out];rfl)];simp,HB.out.chain ((HI3.out.1.chain HBO.out).chain HZ4.out)⟩
                      | true =>
                        cases v4 with
                        | false =>
                          go_wp2_with (first
                           | (go_at_call 18;rw [← hwo];clear hwo;((with_reducible refine (HC0.out _ (HBO.out.chain HZ0.out)).mono ?_);rintro e wy0 ⟨rfl,hb⟩);have HZ1:=Lib.hid (HZ0.out.chain hb);clear hb g0 g1 g2;obtain ⟨-,y1,-⟩:=HBX.out _ HZ1.out)
                           | (go_at_call 16;((with_reducible refine (HC1.out _ (HBO.out.chain HZ1.out)).mono ?_);rintro e wy1 ⟨rfl,hb⟩);have HZ2:=Lib.hid (HZ1.out.chain hb);clear hb y1;obtain ⟨-,y2,-⟩:=HBX.out _ HZ2.out)
                           | (go_at_call 17;((with_reducible refine (HC2.out _ (HBO.out.chain HZ2.out)).mono ?_);rintro e wy2 ⟨rfl,hb⟩);have HZ3:=Lib.hid (HZ2.out.chain hb);clear hb y2;obtain ⟨-,-,y3⟩:=HBX.out _ HZ3.out)
                           | (go_at_call 19;((with_reducible refine (HC3.out _ (HBO.out.chain HZ3.out)).mono ?_);rintro e wy3 ⟨rfl,hb⟩);have HZ4:=Lib.hid (HZ3.out.chain hb);clear hb y3;obtain ⟨-,-,y4⟩:=HBX.out _ HZ4.out)
                           | (go_at_call 20;((with_reducible refine (HC4.out _ (HBO.out.chain HZ4.out)).mono ?_);rintro e wy4 ⟨rfl,hb⟩);have HZ5:=Lib.hid (HZ4.out.chain hb);clear hb y4))
                          go_ret
                          exact ⟨by rw [HRES.out,all_of_false (rDf o) ds k3 _ HX.out.1 (by rw [HV.out];rfl)];simp,HB.out.chain ((HI3.out.1.chain HBO.out).chain HZ5.out)⟩
                        | true =>
                          go_wp2_with (first
                           | (go_at_call 18;rw [← hwo];clear hwo;((with_reducible refine (HC0.out _ (HBO.out.chain HZ0.out)).mono ?_);rintro e wy0 ⟨rfl,hb⟩);have HZ1:=Lib.hid (HZ0.out.chain hb);clear hb g0 g1 g2;obtain ⟨-,y1,-⟩:=HBX.out _ HZ1.out)
                           | (go_at_call 16;((with_reducible refine (HC1.out _ (HBO.out.chain HZ1.out)).mono ?_);rintro e wy1 ⟨rfl,hb⟩);have HZ2:=Lib.hid (HZ1.out.chain hb);clear hb y1;obtain ⟨-,y2,-⟩:=HBX.out _ HZ2.out)
                           | (go_at_call 17;((with_reducible refine (HC2.out _ (HBO.out.chain HZ2.out)).mono ?_);rintro e wy2 ⟨rfl,hb⟩);have HZ3:=Lib.hid (HZ2.out.chain hb);clear hb y2;obtain ⟨-,-,y3⟩:=HBX.out _ HZ3.out)
                           | (go_at_call 19;((with_reducible refine (HC3.out _ (HBO.out.chain HZ3.out)).mono ?_);rintro e wy3 ⟨rfl,hb⟩);have HZ4:=Lib.hid (HZ3.out.chain hb);clear hb y3;obtain ⟨-,-,y4⟩:=HBX.out _ HZ4.out)
                           | (go_at_call 20;((with_reducible refine (HC4.out _ (HBO.out.chain HZ4.out)).mono ?_);rintro e wy4 ⟨rfl,hb⟩);have HZ5:=Lib.hid (HZ4.out.chain hb);clear hb y4))
                          go_roundg (n3 - (k3 + 1))
                          case measure => have := HLT.out.2;omega
                          case rel => exact ⟨k3 + 1,rfl,(by have := HLT.out.2;omega),by go_num,Lib.hid ⟨(HI3.out.1.chain HBO.out).chain HZ5.out,by rw [HX.out.2,HI3.out.2,HV.out];rfl⟩⟩
               ·obtain rfl : k3 = n3:=by omega
                have HA3 : Hid (ds.all (rDf o) = true):=Lib.hid (by
                 have := HI3.out.2
                 rwa [List.take_of_length_le (by rw [HR3.out.2];exact Nat.le_refl _)] at this)
                go_wp2
                go_loopg [9] n4 (fun m j wr => ∃ k : Nat,m = n4 - k ∧ k ≤ n4 ∧ j = .int .i64 k ∧ Hid (Below W1.heap.size W1 wr ∧ (ms.take k).all (rLm o) = true))
                case atStart => exact ⟨0,rfl,Nat.zero_le _,(by first | rfl | go_num),Lib.hid ⟨HI3.out.1,rfl⟩⟩
                case round =>
                 clear f0 f1 f2 f3 f4 f5
                 obtain ⟨k4,rfl,hk4,rfl,HI4⟩:=hrel
                 obtain ⟨f0,f1,f2,f3,f4,f5⟩:=HF.out _ HI4.out.1
                 by_cases hlt4 : k4 < n4
                 ·have hki : (k4 : Int) < n4:=by omega
                  obtain ⟨⟨nm,ps,lf,rt⟩,hi⟩ : ∃ x,ms[k4]? = some x:=⟨ms[k4]'(by rw [← HR4.out.2];exact hlt4),List.getElem?_eq_getElem _⟩
                  have hbw:=HB.out.chain HI4.out.1
                  obtain ⟨a,rfl,hab,B1,e1,dd,ee,hc,b0,b1,rp,rf,rg⟩:=(HR4.out.1.on lm_keeps hbw).at_ hi
                  obtain ⟨wb,hwb⟩ : ∃ wb,wb = (wr.alloc (.cells (lmCs B1 e1 dd ee ⟨nm,ps,lf,rt⟩) TD)).alloc (.cells #[.slice dd.p lf.ps.length dd.np,.slice dd.a lf.ats.length dd.na,.slice dd.c lf.cls.length dd.nc,.slice ee.p rt.ps.length ee.np,.slice ee.a rt.ats.length ee.na,.slice ee.c rt.cls.length ee.nc] 59):=⟨_,rfl⟩
                  have HBO : Hid (Below wr.heap.size wr wb):=Lib.hid (by rw [hwb];exact (below_alloc wr _).chain (below_alloc _ _))
                  have hg2 : wb.heap[wr.heap.size + 1]? = some (.cells #[.slice dd.p lf.ps.length dd.np,.slice dd.a lf.ats.length dd.na,.slice dd.c lf.cls.length dd.nc,.slice ee.p rt.ps.length ee.np,.slice ee.a rt.ats.length ee.na,.slice ee.c rt.cls.length ee.nc] 59 (0,0)):=by
                   have h:=heap_of_alloc (wr.alloc (.cells (lmCs B1 e1 dd ee ⟨nm,ps,lf,rt⟩) TD)) (.cells #[.slice dd.p lf.ps.length dd.np,.slice dd.a lf.ats.length dd.na,.slice dd.c lf.cls.length dd.nc,.slice ee.p rt.ps.length ee.np,.slice ee.a rt.ats.length ee.na,.slice ee.c rt.cls.length ee.nc] 59)
                   rw [size_of_alloc,← hwb] at h
                   exact h
                  obtain ⟨v0,hv0⟩ : ∃ v,v = nameR nm:=⟨_,rfl⟩
                  have HC0 : Hid (BC wr 18 #[.string ⟨nm.toArray⟩] v0):=Lib.hid (fun W hb => by rw [hv0];exact sname_any nm W b0)
                  obtain ⟨v1,hv1⟩ : ∃ v,v = rPs 0 8 ps:=⟨_,rfl⟩
                  have HC1 : Hid (BC wr 16 #[.slice B1 ps.length e1,.int .i64 0,.int .i64 8] v1):=Lib.hid (fun W hb => by rw [hv1];exact sparams_any ps B1 e1 0 8 W b1 (rp.on pm_keeps hb))
                  obtain ⟨v2,hv2⟩ : ∃ v,v = plP ps:=⟨_,rfl⟩
                  have HC2 : Hid (BC wr 17 #[.slice B1 ps.length e1] v2):=Lib.hid (fun W hb => by rw [hv2];exact splainp_any ps B1 e1 W b1 (rp.on pm_keeps hb))
                  obtain ⟨v3,hv3⟩ : ∃ v,v = rFs 0 [lf,rt]:=⟨_,rfl⟩
                  have HC3 : Hid (BC wb 19 #[.slice (some ⟨wr.heap.size + 1,0,none⟩) 2 2,.int .i64 0] v3):=Lib.hid (fun W hb => by rw [hv3];exact sforms_any [lf,rt] (some ⟨wr.heap.size + 1,0,none⟩) 2 0 W (show 2 ≤ maxLen by decide) (fm_two (kept_box hb hg2) (rf.on (HBO.out.chain hb)) (rg.on (HBO.out.chain hb))))
                  obtain ⟨v4,hv4⟩ : ∃ v,v = [lf,rt].all o.f:=⟨_,rfl⟩
                  have HC4 : Hid (BC wb 20 #[.slice (some ⟨wr.heap.size + 1,0,none⟩) 2 2] v4):=Lib.hid (fun W hb => by rw [hv4];exact plain_any o [lf,rt] (some ⟨wr.heap.size + 1,0,none⟩) 2 W (show 2 ≤ maxLen by decide) (fm_two (kept_box hb hg2) (rf.on (HBO.out.chain hb)) (rg.on (HBO.out.chain hb))))
                  have HV : Hid ((rLm o) ⟨nm,ps,lf,rt⟩ = (v0 && v1 && v2 && v3 && v4)):=Lib.hid (by rw [hv0,hv1,hv2,hv3,hv4];rfl)
                  obtain ⟨cs,hcs⟩ : ∃ cs : Array Value,cs = lmCs B1 e1 dd ee ⟨nm,ps,lf,rt⟩:=⟨_,rfl⟩
                  have hcz : cs.size = 8:=by rw [hcs];rfl
                  have h1c : cs.all (·.oneCell') = true:=by rw [hcs];unfold lmCs;rw [List.all_toArray];rfl
                  rw [← hcs] at hc hwb
                  have hca : ∀ (j : Nat) (v : Value),cs[j]? = some v → wr.cell? ((a.add (k4 * 8)).add j) = some v:=hc
                  unfold lmCs at hcs
                  simp only at hcs
                  generalize ps.length = l1 at *
                  generalize lf.ps.length = u1 at *
                  generalize lf.ats.length = u2 at *
                  generalize lf.cls.length = u3 at *
                  generalize rt.ps.length = u4 at *
                  generalize rt.ats.length = u5 at *
                  generalize rt.cls.length = u6 at *
                  have hl1 : (loadCellsFrom (a.add (k4 * 8)) 0 ND #[]).run Tryz.prog wr = .ok cs wr:=load_list hca (hcz.trans HND.out.1.symm)
                  have hst : (storeCells ⟨wr.heap.size,0,none⟩ cs.toList).run Tryz.prog (wr.alloc (.cells zcD TD)) = .ok () (wr.alloc (.cells cs TD)):=by
                   have h:=store_row (heap_of_alloc wr (.cells zcD TD)) (HND.out.2.trans (HND.out.1.trans hcz.symm)) h1c
                   rw [World.setRow_alloc_new] at h
                   exact h
                  have hszc : cs.size = ND:=hcz.trans HND.out.1.symm
                  have hbx0:=heap_of_alloc wr (.cells cs TD)
                  have z2 : (wr.alloc (.cells cs TD)).cell? ⟨wr.heap.size,2,none⟩ = some (.slice dd.p u1 dd.np):=cell_of_block hbx0 2 (by rw [hcs];rfl)
                  have z3 : (wr.alloc (.cells cs TD)).cell? ⟨wr.heap.size,3,none⟩ = some (.slice dd.a u2 dd.na):=cell_of_block hbx0 3 (by rw [hcs];rfl)
                  have z4 : (wr.alloc (.cells cs TD)).cell? ⟨wr.heap.size,4,none⟩ = some (.slice dd.c u3 dd.nc):=cell_of_block hbx0 4 (by rw [hcs];rfl)
                  have z5 : (wr.alloc (.cells cs TD)).cell? ⟨wr.heap.size,5,none⟩ = some (.slice ee.p u4 ee.np):=cell_of_block hbx0 5 (by rw [hcs];rfl)
                  have z6 : (wr.alloc (.cells cs TD)).cell? ⟨wr.heap.size,6,none⟩ = some (.slice ee.a u5 ee.na):=cell_of_block hbx0 6 (by rw [hcs];rfl)
                  have z7 : (wr.alloc (.cells cs TD)).cell? ⟨wr.heap.size,7,none⟩ = some (.slice ee.c u6 ee.nc):=cell_of_block hbx0 7 (by rw [hcs];rfl)
                  have hbx : wb.heap[wr.heap.size]? = some (.cells cs TD (0,0)):=by rw [hwb];exact heap_keep hbx0
                  have HBX : Hid (∀ W,Below wb.heap.size wb W → W.cell? ⟨wr.heap.size,0,none⟩ = some (.string ⟨nm.toArray⟩) ∧ W.cell? ⟨wr.heap.size,1,none⟩ = some (.slice B1 l1 e1)):=Lib.hid (fun W hb => ⟨cell_of_block (kept_box hb hbx) 0 (by rw [hcs];rfl),cell_of_block (kept_box hb hbx) 1 (by rw [hcs];rfl)⟩)
                  have HZ0:=Lib.hid (Below.refl wb.heap.size wb)
                  obtain ⟨g0,g1⟩:=HBX.out _ HZ0.out
                  rw [hwb] at g0 g1
                  have HX:=Lib.hid (And.intro hi (all_take_succ (rLm o) ms k4 _ hi))
                  have HLT:=Lib.hid (And.intro trivial hlt4)
                  unfold maxLen at b0 b1
                  clear hca hi hbw hbx hcs hcz h1c hab rp rf rg hc hg2 hbx0 hv0 hv1 hv2 hv3 hv4
                  cases v0 with
                  | false =>
                    go_wp2_with (go_at_call 18;rw [← hwb];clear hwb;((with_reducible refine (HC0.out _ (HBO.out.chain HZ0.out)).mono ?_);rintro e wy0 ⟨rfl,hb⟩);have HZ1:=Lib.hid (HZ0.out.chain hb);clear hb g0 g1 z2 z3 z4 z5 z6 z7)
                    go_ret
                    exact ⟨by rw [HRES.out,all_of_false (rLm o) ms k4 _ HX.out.1 (by rw [HV.out];rfl)];simp,HB.out.chain ((HI4.out.1.chain HBO.out).chain HZ1.out)⟩
                  | true =>
                    cases v1 with
                    | false =>
                      go_wp2_with (first
                       | (go_at_call 18;rw [← hwb];clear hwb;((with_reducible refine (HC0.out _ (HBO.out.chain HZ0.out)).mono ?_);rintro e wy0 ⟨rfl,hb⟩);have HZ1:=Lib.hid (HZ0.out.chain hb);clear hb g0 g1 z2 z3 z4 z5 z6 z7;obtain ⟨-,y1⟩:=HBX.out _ HZ1.out)
                       | (go_at_call 16;((with_reducible refine (HC1.out _ (HBO.out.chain HZ1.out)).mono ?_);rintro e wy1 ⟨rfl,hb⟩);have HZ2:=Lib.hid (HZ1.out.chain hb);clear hb y1))
                      go_ret
                      exact ⟨by rw [HRES.out,all_of_false (rLm o) ms k4 _ HX.out.1 (by rw [HV.out];rfl)];simp,HB.out.chain ((HI4.out.1.chain HBO.out).chain HZ2.out)⟩
                    | true =>
                      cases v2 with
                      | false =>
                        go_wp2_with (first
                         | (go_at_call 18;rw [← hwb];clear hwb;((with_reducible refine (HC0.out _ (HBO.out.chain HZ0.out)).mono ?_);rintro e wy0 ⟨rfl,hb⟩);have HZ1:=Lib.hid (HZ0.out.chain hb);clear hb g0 g1 z2 z3 z4 z5 z6 z7;obtain ⟨-,y1⟩:=HBX.out _ HZ1.out)
                         | (go_at_call 16;((with_reducible refine (HC1.out _ (HBO.out.chain HZ1.out)).mono ?_);rintro e wy1 ⟨rfl,hb⟩);have HZ2:=Lib.hid (HZ1.out.chain hb);clear hb y1;obtain ⟨-,y2⟩:=HBX.out _ HZ2.out)
                         | (go_at_call 17;((with_reducible refine (HC2.out _ (HBO.out.chain HZ2.out)).mono ?_);rintro e wy2 ⟨rfl,hb⟩);have HZ3:=Lib.hid (HZ2.out.chain hb);clear hb y2))
                        go_ret
                        exact ⟨by rw [HRES.out,all_of_false (rLm o) ms k4 _ HX.out.1 (by rw [HV.out];rfl)];simp,HB.out.chain ((HI4.out.1.chain HBO.out).chain HZ3.out)⟩
                      | true =>
                        cases v3 with
                        | false =>
                          go_wp2_with (first
                           | (go_at_call 18;rw [← hwb];clear hwb;((with_reducible refine (HC0.out _ (HBO.out.chain HZ0.out)).mono ?_);rintro e wy0 ⟨rfl,hb⟩);have HZ1:=Lib.hid (HZ0.out.chain hb);clear hb g0 g1 z2 z3 z4 z5 z6 z7;obtain ⟨-,y1⟩:=HBX.out _ HZ1.out)
                           | (go_at_call 16;((with_reducible refine (HC1.out _ (HBO.out.chain HZ1.out)).mono ?_);rintro e wy1 ⟨rfl,hb⟩);have HZ2:=Lib.hid (HZ1.out.chain hb);clear hb y1;obtain ⟨-,y2⟩:=HBX.out _ HZ2.out)
                           | (go_at_call 17;((with_reducible refine (HC2.out _ (HBO.out.chain HZ2.out)).mono ?_);rintro e wy2 ⟨rfl,hb⟩);have HZ3:=Lib.hid (HZ2.out.chain hb);clear hb y2)
                           | (go_at_call 19;((with_reducible refine (HC3.out _ (HZ3.out)).mono ?_);rintro e wy3 ⟨rfl,hb⟩);have HZ4:=Lib.hid (HZ3.out.chain hb);clear hb))
                          go_ret
                          exact ⟨by rw [HRES.out,all_of_false (rLm o) ms k4 _ HX.out.1 (by rw [HV.out];rfl)];simp,HB.out.chain ((HI4.out.1.chain HBO.out).chain HZ4.out)⟩
                        | true =>
                          cases v4 with
                          | false =>
                            go_wp2_with (first
                             | (go_at_call 18;rw [← hwb];clear hwb;((with_reducible refine (HC0.out _ (HBO.out.chain HZ0.out)).mono ?_);rintro e wy0 ⟨rfl,hb⟩);have HZ1:=Lib.hid (HZ0.out.chain hb);clear hb g0 g1 z2 z3 z4 z5 z6 z7;obtain ⟨-,y1⟩:=HBX.out _ HZ1.out)
                             | (go_at_call 16;((with_reducible refine (HC1.out _ (HBO.out.chain HZ1.out)).mono ?_);rintro e wy1 ⟨rfl,hb⟩);have HZ2:=Lib.hid (HZ1.out.chain hb);clear hb y1;obtain ⟨-,y2⟩:=HBX.out _ HZ2.out)
                             | (go_at_call 17;((with_reducible refine (HC2.out _ (HBO.out.chain HZ2.out)).mono ?_);rintro e wy2 ⟨rfl,hb⟩);have HZ3:=Lib.hid (HZ2.out.chain hb);clear hb y2)
                             | (go_at_call 19;((with_reducible refine (HC3.out _ (HZ3.out)).mono ?_);rintro e wy3 ⟨rfl,hb⟩);have HZ4:=Lib.hid (HZ3.out.chain hb);clear hb)
                             | (go_at_call 20;((with_reducible refine (HC4.out _ (HZ4.out)).mono ?_);rintro e wy4 ⟨rfl,hb⟩);have HZ5:=Lib.hid (HZ4.out.chain hb);clear hb))
                            go_ret
                            exact ⟨by rw [HRES.out,all_of_false (rLm o) ms k4 _ HX.out.1 (by rw [HV.out];rfl)];simp,HB.out.chain ((HI4.out.1.chain HBO.out).chain HZ5.out)⟩
                          | true =>
                            go_wp2_with (first
                             | (go_at_call 18;rw [← hwb];clear hwb;((with_reducible refine (HC0.out _ (HBO.out.chain HZ0.out)).mono ?_);rintro e wy0 ⟨rfl,hb⟩);have HZ1:=Lib.hid (HZ0.out.chain hb);clear hb g0 g1 z2 z3 z4 z5 z6 z7;obtain ⟨-,y1⟩:=HBX.out _ HZ1.out)
                             | (go_at_call 16;((with_reducible refine (HC1.out _ (HBO.out.chain HZ1.out)).mono ?_);rintro e wy1 ⟨rfl,hb⟩);have HZ2:=Lib.hid (HZ1.out.chain hb);clear hb y1;obtain ⟨-,y2⟩:=HBX.out _ HZ2.out)
                             | (go_at_call 17;((with_reducible refine (HC2.out _ (HBO.out.chain HZ2.out)).mono ?_);rintro e wy2 ⟨rfl,hb⟩);have HZ3:=Lib.hid (HZ2.out.chain hb);clear hb y2)
                             | (go_at_call 19;((with_reducible refine (HC3.out _ (HZ3.out)).mono ?_);rintro e wy3 ⟨rfl,hb⟩);have HZ4:=Lib.hid (HZ3.out.chain hb);clear hb)
                             | (go_at_call 20;((with_reducible refine (HC4.out _ (HZ4.out)).mono ?_);rintro e wy4 ⟨rfl,hb⟩);have HZ5:=Lib.hid (HZ4.out.chain hb);clear hb))
                            go_roundg (n4 - (k4 + 1))
                            case measure => have := HLT.out.2;omega
                            case rel => exact ⟨k4 + 1,rfl,(by have := HLT.out.2;omega),by go_num,Lib.hid ⟨(HI4.out.1.chain HBO.out).chain HZ5.out,by rw [HX.out.2,HI4.out.2,HV.out];rfl⟩⟩
                 ·obtain rfl : k4 = n4:=by omega
                  have HA4 : Hid (ms.all (rLm o) = true):=Lib.hid (by
                   have := HI4.out.2
                   rwa [List.take_of_length_le (by rw [HR4.out.2];exact Nat.le_refl _)] at this)
                  go_wp2
                  go_loopg [12] n5 (fun m j wr => ∃ k : Nat,m = n5 - k ∧ k ≤ n5 ∧ j = .int .i64 k ∧ Hid (Below W1.heap.size W1 wr ∧ (xs.take k).all (rPr o) = true))
                  case atStart => exact ⟨0,rfl,Nat.zero_le _,(by first | rfl | go_num),Lib.hid ⟨HI4.out.1,rfl⟩⟩
                  case round =>
                   clear f0 f1 f2 f3 f4 f5
                   obtain ⟨k5,rfl,hk5,rfl,HI5⟩:=hrel
                   obtain ⟨f0,f1,f2,f3,f4,f5⟩:=HF.out _ HI5.out.1
                   by_cases hlt5 : k5 < n5
                   ·have hki : (k5 : Int) < n5:=by omega
                    obtain ⟨x,hi⟩ : ∃ x,xs[k5]? = some x:=⟨xs[k5]'(by rw [← HR5.out.2];exact hlt5),List.getElem?_eq_getElem _⟩
                    have hbw:=HB.out.chain HI5.out.1
                    obtain ⟨a,rfl,hab,dd,hca,own⟩:=(HR5.out.1.on pr_keeps hbw).at_ hi
                    obtain ⟨v0,hv0⟩ : ∃ v,v = rPr o x:=⟨_,rfl⟩
                    have HC0:=Lib.hid (sproc_any o dd x wr own)
                    rw [← hv0] at HC0
                    have HV:=Lib.hid hv0
                    obtain ⟨cs,hcs⟩ : ∃ cs,cs = prCs dd x:=⟨_,rfl⟩
                    rw [← hcs] at hca HC0
                    have hcz : cs.size = 12:=by rw [hcs];rfl
                    have hl1 : (loadCellsFrom (a.add (k5 * 12)) 0 NE #[]).run Tryz.prog wr = .ok cs wr:=load_list hca (hcz.trans HNE.out.symm)
                    have HX:=Lib.hid (And.intro hi (all_take_succ (rPr o) xs k5 _ hi))
                    have HLT:=Lib.hid (And.intro trivial hlt5)
                    clear hca hi hbw hcs hcz hab own hv0
                    cases v0 with
                    | false =>
                      go_wp2_with (go_at_call 21;refine HC0.out.mono ?_;rintro e wy ⟨rfl,hb⟩;have HZ1:=Lib.hid (HI5.out.1.chain hb);clear hb)
                      go_ret
                      exact ⟨by rw [HRES.out,all_of_false (rPr o) xs k5 _ HX.out.1 HV.out.symm];simp,HB.out.chain HZ1.out⟩
                    | true =>
                      go_wp2_with (go_at_call 21;refine HC0.out.mono ?_;rintro e wy ⟨rfl,hb⟩;have HZ1:=Lib.hid (HI5.out.1.chain hb);clear hb)
                      go_roundg (n5 - (k5 + 1))
                      case measure => have := HLT.out.2;omega
                      case rel => exact ⟨k5 + 1,rfl,(by have := HLT.out.2;omega),by go_num,Lib.hid ⟨HZ1.out,by rw [HX.out.2,HI5.out.2,← HV.out];rfl⟩⟩
                   ·obtain rfl : k5 = n5:=by omega
                    have HA5 : Hid (xs.all (rPr o) = true):=Lib.hid (by
                     have := HI5.out.2
                     rwa [List.take_of_length_le (by rw [HR5.out.2];exact Nat.le_refl _)] at this)
                    go_wp2
                    go_ret
                    exact ⟨by rw [HRES.out,HA0.out,HA2.out,HA3.out,HA4.out,HA5.out,decide_eq_true l0,decide_eq_true l2,decide_eq_true l3,decide_eq_true l4,decide_eq_true l5];rfl,HB.out.chain HI5.out.1⟩
     ·have l5' : (n5 : Int) > 100:=by omega
      go_wp2
      go_ret
      exact ⟨by rw [HRES.out,decide_eq_false (show ¬ (n5 : Int) ≤ 100 by omega)];simp,HB.out⟩
    ·have l4' : (n4 : Int) > 100:=by omega
     go_wp2
     go_ret
     exact ⟨by rw [HRES.out,decide_eq_false (show ¬ (n4 : Int) ≤ 100 by omega)];simp,HB.out⟩
   ·have l3' : (n3 : Int) > 100:=by omega
    go_wp2
    go_ret
    exact ⟨by rw [HRES.out,decide_eq_false (show ¬ (n3 : Int) ≤ 100 by omega)];simp,HB.out⟩
  ·have l2' : (n2 : Int) > 100:=by omega
   go_wp2
   go_ret
   exact ⟨by rw [HRES.out,decide_eq_false (show ¬ (n2 : Int) ≤ 100 by omega)];simp,HB.out⟩
 ·have l0' : (n0 : Int) > 100:=by omega
  go_wp2
  go_ret
  exact ⟨by rw [HRES.out,decide_eq_false (show ¬ (n0 : Int) ≤ 100 by omega)];simp,HB.out⟩
end Go.Proofs.YtkopbfndfkibbaaGreatDoor
