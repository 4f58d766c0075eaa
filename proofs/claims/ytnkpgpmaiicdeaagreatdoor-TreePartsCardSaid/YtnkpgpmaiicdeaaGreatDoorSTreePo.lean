/-
  rules.program, programRules, tree.Program.
-/
import Derived.Test.YtnkpgpmaiicdeaaGreatDoorSTreePd
set_option linter.unusedVariables false
set_option linter.unusedSimpArgs false
namespace Go.Proofs.YtnkpgpmaiicdeaaGreatDoor
set_option maxRecDepth 100000
set_option maxHeartbeats 8000000
open Go.RowKit
theorem program_any (d : GAd) (p : Pg) (w : World) (hp : PartsAt w) (own : PgOwn w w.heap.size d p) :
 Calls Tryz.prog 34 #[rulesV 60 1048576 8,.agg #[.slice d.r p.rs.length d.nr,.slice d.g p.gs.length d.ng,.slice d.k p.ks.length d.nk,.slice d.d p.ds.length d.nd,.slice d.m p.ms.length d.nm,.slice d.x p.xs.length d.nx]] w fun e w' => e = .returned (.bool (vPg p)) ∧ Below w.heap.size w w':=by
 obtain ⟨⟨b0,b1,b2,b3,b4,b5⟩,r0,r1,r2,r3,r4,r5⟩:=own
 obtain ⟨v0,hv0⟩ : ∃ v,v = (decide ((0 : Int) ≤ p.rs.length) && decide ((p.rs.length : Int) ≤ 100) && p.rs.all vRc):=⟨_,rfl⟩
 obtain ⟨v1,hv1⟩ : ∃ v,v = (decide ((0 : Int) ≤ p.gs.length) && decide ((p.gs.length : Int) ≤ 100) && p.gs.all (vP nameL)):=⟨_,rfl⟩
 obtain ⟨v2,hv2⟩ : ∃ v,v = (decide ((0 : Int) ≤ p.ks.length) && decide ((p.ks.length : Int) ≤ 100) && p.ks.all vLk):=⟨_,rfl⟩
 obtain ⟨v3,hv3⟩ : ∃ v,v = (decide ((0 : Int) ≤ p.ds.length) && decide ((p.ds.length : Int) ≤ 100) && p.ds.all vDf):=⟨_,rfl⟩
 obtain ⟨v4,hv4⟩ : ∃ v,v = (decide ((0 : Int) ≤ p.ms.length) && decide ((p.ms.length : Int) ≤ 100) && p.ms.all vLm):=⟨_,rfl⟩
 obtain ⟨v5,hv5⟩ : ∃ v,v = (decide ((0 : Int) ≤ p.xs.length) && decide ((p.xs.length : Int) ≤ 100) && p.xs.all vPr):=⟨_,rfl⟩
 have hres : vPg p = (v0 && v1 && v2 && v3 && v4 && v5):=by
  rw [hv0,hv1,hv2,hv3,hv4,hv5]
  rfl
 rw [hres]
 have H0 : Hid (BC w 61 #[.slice d.r p.rs.length d.nr,.int .i64 0,.int .i64 100,.func (.func 62) #[rulesV 60 1048576 8] #[]] v0):=Lib.hid (fun W hb => by rw [hv0];exact vl_rec vRc 62 #[rulesV 60 1048576 8] #[] (enters_of Tryz.func62 (by kernel_rfl) rfl) p.rs d.r d.nr 0 100 W b0 (r0.on rc_keeps hb) (fun x v W hx hbx hv => by obtain ⟨A,c,rfl,h1,h2,h3⟩:=hv;exact record_any x.nm x.fs A c W h1 h2 h3))
 have H1 : Hid (BC w 63 #[.slice d.g p.gs.length d.ng,.int .i64 0,.int .i64 100,.func (.func 64) #[rulesV 60 1048576 8] #[]] v1):=Lib.hid (fun W hb => by rw [hv1];exact vlr_param _ nameL name_ok 1048576 8 p.gs d.g d.ng 0 100 W b1 (r1.on pm_keeps hb))
 have H2 : Hid (BC w 65 #[.slice d.k p.ks.length d.nk,.int .i64 0,.int .i64 100,.func (.func 66) #[rulesV 60 1048576 8] #[]] v2):=Lib.hid (fun W hb => by rw [hv2];exact vl_lock vLk 66 #[rulesV 60 1048576 8] #[] (enters_of Tryz.func66 (by kernel_rfl) rfl) p.ks d.k d.nk 0 100 W b2 (r2.on lk_keeps hb) (fun x v W hx hbx hv => by obtain ⟨A,c,rfl,h1,h2,h3⟩:=hv;exact lock_any x.nm x.iv A c W h1 h2 h3))
 have H3 : Hid (BC w 67 #[.slice d.d p.ds.length d.nd,.int .i64 0,.int .i64 100,.func (.func 68) #[rulesV 60 1048576 8] #[]] v3):=Lib.hid (fun W hb => by rw [hv3];exact vl_def vDf 68 #[rulesV 60 1048576 8] #[] (enters_of Tryz.func68 (by kernel_rfl) rfl) p.ds d.d d.nd 0 100 W b3 (r3.on df_keeps hb) (fun x v W hx hbx hv => by obtain ⟨A,c,A2,c2,rfl,h1,h2,h3,h4,h5⟩:=hv;exact def_any x.nm x.ps x.cs A c A2 c2 W h1 h2 h3 h4 h5))
 have H4 : Hid (BC w 69 #[.slice d.m p.ms.length d.nm,.int .i64 0,.int .i64 100,.func (.func 70) #[rulesV 60 1048576 8] #[]] v4):=Lib.hid (fun W hb => by rw [hv4];exact vl_lemma vLm 70 #[rulesV 60 1048576 8] #[] (enters_of Tryz.func70 (by kernel_rfl) rfl) p.ms d.m d.nm 0 100 W b4 (r4.on lm_keeps hb) (fun x v W hx hbx hv => by obtain ⟨A,c,e,f,rfl,h1,h2,h3,h4,h5⟩:=hv;exact lemma_any x.nm x.ps x.lf x.rt A c e f W h1 h2 h3 h4 h5))
 have H5 : Hid (BC w 71 #[.slice d.x p.xs.length d.nx,.int .i64 0,.int .i64 100,.func (.func 72) #[rulesV 60 1048576 8] #[]] v5):=Lib.hid (fun W hb => by rw [hv5];exact vl_proc vPr 72 #[rulesV 60 1048576 8] #[] (enters_of Tryz.func72 (by kernel_rfl) rfl) p.xs d.x d.nx 0 100 W b5 (r5.on pr_keeps hb) (fun x v W hx hbx hv => by obtain ⟨e,rfl,h1⟩:=hv;exact proc_any e x W (hp.on (hb.chain hbx)) h1))
 generalize p.rs.length = n0 at *
 generalize p.gs.length = n1 at *
 generalize p.ks.length = n2 at *
 generalize p.ds.length = n3 at *
 generalize p.ms.length = n4 at *
 generalize p.xs.length = n5 at *
 obtain ⟨W1,hW1⟩ : ∃ W1,W1 = (w.alloc (rulesC 60 1048576 8)).alloc (.cells #[.slice d.r n0 d.nr,.slice d.g n1 d.ng,.slice d.k n2 d.nk,.slice d.d n3 d.nd,.slice d.m n4 d.nm,.slice d.x n5 d.nx] 53):=⟨_,rfl⟩
 have HB : Hid (Below w.heap.size w W1):=Lib.hid (by rw [hW1];exact (below_alloc w _).chain (below_alloc _ _))
 have q1:=heap_keep (o:=.cells #[.slice d.r n0 d.nr,.slice d.g n1 d.ng,.slice d.k n2 d.nk,.slice d.d n3 d.nd,.slice d.m n4 d.nm,.slice d.x n5 d.nx] 53) (heap_of_alloc w (rulesC 60 1048576 8))
 have q2:=heap_of_alloc (w.alloc (rulesC 60 1048576 8)) (.cells #[.slice d.r n0 d.nr,.slice d.g n1 d.ng,.slice d.k n2 d.nk,.slice d.d n3 d.nd,.slice d.m n4 d.nm,.slice d.x n5 d.nx] 53)
 rw [size_of_alloc] at q2
 rw [← hW1] at q1 q2
 have HF : Hid (∀ W,Below W1.heap.size W1 W → W.cell? ⟨w.heap.size,0,none⟩ = some (.func (.func 60) #[] #[]) ∧ W.cell? ⟨w.heap.size,1,none⟩ = some (.int .i64 1048576) ∧ W.cell? ⟨w.heap.size,2,none⟩ = some (.int .i64 8) ∧ W.cell? ⟨w.heap.size + 1,0,none⟩ = some (.slice d.r n0 d.nr) ∧ W.cell? ⟨w.heap.size + 1,1,none⟩ = some (.slice d.g n1 d.ng) ∧ W.cell? ⟨w.heap.size + 1,2,none⟩ = some (.slice d.k n2 d.nk) ∧ W.cell? ⟨w.heap.size + 1,3,none⟩ = some (.slice d.d n3 d.nd) ∧ W.cell? ⟨w.heap.size + 1,4,none⟩ = some (.slice d.m n4 d.nm) ∧ W.cell? ⟨w.heap.size + 1,5,none⟩ = some (.slice d.x n5 d.nx)) :=
  Lib.hid (fun W hb => ⟨cell_of_block (kept_box hb q1) 0 rfl,cell_of_block (kept_box hb q1) 1 rfl,cell_of_block (kept_box hb q1) 2 rfl,cell_of_block (kept_box hb q2) 0 rfl,cell_of_block (kept_box hb q2) 1 rfl,cell_of_block (kept_box hb q2) 2 rfl,cell_of_block (kept_box hb q2) 3 rfl,cell_of_block (kept_box hb q2) 4 rfl,cell_of_block (kept_box hb q2) 5 rfl⟩)
 have K1:=Lib.hid (Below.refl W1.heap.size W1)
 clear q1 q2 hres hv0 hv1 hv2 hv3 hv4 hv5 hp r0 r1 r2 r3 r4 r5
 try unfold maxLen at *
 cases v0 with
 | false =>
   go_enter Tryz.func34,Tryz.ntmps34
   go_wp2_with (go_at_call 61;rw [← hW1];clear hW1;((with_reducible refine (H0.out _ (HB.out.chain K1.out)).mono ?_);rintro e w2 ⟨rfl,hb⟩);have K2:=Lib.hid (K1.out.chain hb);clear hb)
   go_ret
   exact ⟨rfl,HB.out.chain K2.out⟩
 | true =>
   cases v1 with
   | false =>
     go_enter Tryz.func34,Tryz.ntmps34
     go_wp2_with (first
      | (go_at_call 61;rw [← hW1];clear hW1;((with_reducible refine (H0.out _ (HB.out.chain K1.out)).mono ?_);rintro e w2 ⟨rfl,hb⟩);have K2:=Lib.hid (K1.out.chain hb);obtain ⟨g1_0,g1_1,g1_2,g1_3,g1_4,g1_5,g1_6,g1_7,g1_8⟩:=HF.out _ K2.out;clear hb)
      | (go_at_call 63;((with_reducible refine (H1.out _ (HB.out.chain K2.out)).mono ?_);rintro e w3 ⟨rfl,hb⟩);have K3:=Lib.hid (K2.out.chain hb);clear hb))
     go_ret
     exact ⟨rfl,HB.out.chain K3.out⟩
   | true =>
     cases v2 with
     | false =>
       go_enter Tryz.func34,Tryz.ntmps34
       go_wp2_with (first
        | (go_at_call 61;rw [← hW1];clear hW1;((with_reducible refine (H0.out _ (HB.out.chain K1.out)).mono ?_);rintro e w2 ⟨rfl,hb⟩);have K2:=Lib.hid (K1.out.chain hb);obtain ⟨g1_0,g1_1,g1_2,g1_3,g1_4,g1_5,g1_6,g1_7,g1_8⟩:=HF.out _ K2.out;clear hb)
        | (go_at_call 63;((with_reducible refine (H1.out _ (HB.out.chain K2.out)).mono ?_);rintro e w3 ⟨rfl,hb⟩);have K3:=Lib.hid (K2.out.chain hb);obtain ⟨g2_0,g2_1,g2_2,g2_3,g2_4,g2_5,g2_6,g2_7,g2_8⟩:=HF.out _ K3.out;clear hb)
        | (go_at_call 65;((with_reducible refine (H2.out _ (HB.out.chain K3.out)).mono ?_);rintro e w4 ⟨rfl,hb⟩);have K4:=Lib.hid (K3.out.chain hb);clear hb))
       go_ret
       exact ⟨rfl,HB.out.chain K4.out⟩
     | true =>
       cases v3 with
       | false =>
         go_enter Tryz.func34,Tryz.ntmps34
         go_wp2_with (first
          | (go_at_call 61;rw [← hW1];clear hW1;((with_reducible refine (H0.out _ (HB.out.chain K1.out)).mono ?_);rintro e w2 ⟨rfl,hb⟩);have K2:=Lib.hid (K1.out.chain hb);obtain ⟨g1_0,g1_1,g1_2,g1_3,g1_4,g1_5,g1_6,g1_7,g1_8⟩:=HF.out _ K2.out;clear hb)
          | (go_at_call 63;((with_reducible refine (H1.out _ (HB.out.chain K2.out)).mono ?_);rintro e w3 ⟨rfl,hb⟩);have K3:=Lib.hid (K2.out.chain hb);obtain ⟨g2_0,g2_1,g2_2,g2_3,g2_4,g2_5,g2_6,g2_7,g2_8⟩:=HF.out _ K3.out;clear hb)
          | (go_at_call 65;((with_reducible refine (H2.out _ (HB.out.chain K3.out)).mono ?_);rintro e w4 ⟨rfl,hb⟩);have K4:=Lib.hid (K3.out.chain hb);obtain ⟨g3_0,g3_1,g3_2,g3_3,g3_4,g3_5,g3_6,g3_7,g3_8⟩:=HF.out _ K4.out;clear hb)
          | (go_at_call 67;((with_reducible refine (H3.out _ (HB.out.chain K4.out)).mono ?_);rintro e w5 ⟨rfl,hb⟩);have K5:=Lib.hid (K4.out.chain hb);clear hb))
         go_ret
         exact ⟨rfl,HB.out.chain K5.out⟩
       | true =>
         cases v4 with
         | false =>
           go_enter Tryz.func34,Tryz.ntmps34
           go_wp2_with (first
            | (go_at_call 61;rw [← hW1];clear hW1;((with_reducible refine (H0.out _ (HB.out.chain K1.out)).mono ?_);rintro e w2 ⟨rfl,hb⟩);have K2:=Lib.hid (K1.out.chain hb);obtain ⟨g1_0,g1_1,g1_2,g1_3,g1_4,g1_5,g1_6,g1_7,g1_8⟩:=HF.out _ K2.out;clear hb)
            | (go_at_call 63;((with_reducible refine (H1.out _ (HB.out.chain K2.out)).mono ?_);rintro e w3 ⟨rfl,hb⟩);have K3:=Lib.hid (K2.out.chain hb);obtain ⟨g2_0,g2_1,g2_2,g2_3,g2_4,g2_5,g2_6,g2_7,g2_8⟩:=HF.out _ K3.out;clear hb)
            | (go_at_call 65;((with_reducible refine (H2.out _ (HB.out.chain K3.out)).mono ?_);rintro e w4 ⟨rfl,hb⟩);have K4:=Lib.hid (K3.out.chain hb);obtain ⟨g3_0,g3_1,g3_2,g3_3,g3_4,g3_5,g3_6,g3_7,g3_8⟩:=HF.out _ K4.out;clear hb)
            | (go_at_call 67;((with_reducible refine (H3.out _ (HB.out.chain K4.out)).mono ?_);rintro e w5 ⟨rfl,hb⟩);have K5:=Lib.hid (K4.out.chain hb);obtain ⟨g4_0,g4_1,g4_2,g4_3,g4_4,g4_5,g4_6,g4_7,g4_8⟩:=HF.out _ K5.out;clear hb)
            | (go_at_call 69;((with_reducible refine (H4.out _ (HB.out.chain K5.out)).mono ?_);rintro e w6 ⟨rfl,hb⟩);have K6:=Lib.hid (K5.out.chain hb);clear hb))
           go_ret
           exact ⟨rfl,HB.out.chain K6.out⟩
         | true =>
           cases v5 with
           | false =>
             go_enter Tryz.func34,Tryz.ntmps34
             go_wp2_with (first
              | (go_at_call 61;rw [← hW1];clear hW1;((with_reducible refine (H0.out _ (HB.out.chain K1.out)).mono ?_);rintro e w2 ⟨rfl,hb⟩);have K2:=Lib.hid (K1.out.chain hb);obtain ⟨g1_0,g1_1,g1_2,g1_3,g1_4,g1_5,g1_6,g1_7,g1_8⟩:=HF.out _ K2.out;clear hb)
              | (go_at_call 63;((with_reducible refine (H1.out _ (HB.out.chain K2.out)).mono ?_);rintro e w3 ⟨rfl,hb⟩);have K3:=Lib.hid (K2.out.chain hb);obtain ⟨g2_0,g2_1,g2_2,g2_3,g2_4,g2_5,g2_6,g2_7,g2_8⟩:=HF.out _ K3.out;clear hb)
              | (go_at_call 65;((with_reducible refine (H2.out _ (HB.out.chain K3.out)).mono ?_);rintro e w4 ⟨rfl,hb⟩);have K4:=Lib.hid (K3.out.chain hb);obtain ⟨g3_0,g3_1,g3_2,g3_3,g3_4,g3_5,g3_6,g3_7,g3_8⟩:=HF.out _ K4.out;clear hb)
              | (go_at_call 67;((with_reducible refine (H3.out _ (HB.out.chain K4.out)).mono ?_);rintro e w5 ⟨rfl,hb⟩);have K5:=Lib.hid (K4.out.chain hb);obtain ⟨g4_0,g4_1,g4_2,g4_3,g4_4,g4_5,g4_6,g4_7,g4_8⟩:=HF.out _ K5.out;clear hb)
              | (go_at_call 69;((with_reducible refine (H4.out _ (HB.out.chain K5.out)).mono ?_);rintro e w6 ⟨rfl,hb⟩);have K6:=Lib.hid (K5.out.chain hb);obtain ⟨g5_0,g5_1,g5_2,g5_3,g5_4,g5_5,g5_6,g5_7,g5_8⟩:=HF.out _ K6.out;clear hb)
              | (go_at_call 71;((with_reducible refine (H5.out _ (HB.out.chain K6.out)).mono ?_);rintro e w7 ⟨rfl,hb⟩);have K7:=Lib.hid (K6.out.chain hb);clear hb))
             go_ret
             exact ⟨rfl,HB.out.chain K7.out⟩
           | true =>
             go_enter Tryz.func34,Tryz.ntmps34
             go_wp2_with (first
              | (go_at_call 61;rw [← hW1];clear hW1;((with_reducible refine (H0.out _ (HB.out.chain K1.out)).mono ?_);rintro e w2 ⟨rfl,hb⟩);have K2:=Lib.hid (K1.out.chain hb);obtain ⟨g1_0,g1_1,g1_2,g1_3,g1_4,g1_5,g1_6,g1_7,g1_8⟩:=HF.out _ K2.out;clear hb)
              | (go_at_call 63;((with_reducible refine (H1.out _ (HB.out.chain K2.out)).mono ?_);rintro e w3 ⟨rfl,hb⟩);have K3:=Lib.hid (K2.out.chain hb);obtain ⟨g2_0,g2_1,g2_2,g2_3,g2_4,g2_5,g2_6,g2_7,g2_8⟩:=HF.out _ K3.out;clear hb)
              | (go_at_call 65;((with_reducible refine (H2.out _ (HB.out.chain K3.out)).mono ?_);rintro e w4 ⟨rfl,hb⟩);have K4:=Lib.hid (K3.out.chain hb);obtain ⟨g3_0,g3_1,g3_2,g3_3,g3_4,g3_5,g3_6,g3_7,g3_8⟩:=HF.out _ K4.out;clear hb)
              | (go_at_call 67;((with_reducible refine (H3.out _ (HB.out.chain K4.out)).mono ?_);rintro e w5 ⟨rfl,hb⟩);have K5:=Lib.hid (K4.out.chain hb);obtain ⟨g4_0,g4_1,g4_2,g4_3,g4_4,g4_5,g4_6,g4_7,g4_8⟩:=HF.out _ K5.out;clear hb)
              | (go_at_call 69;((with_reducible refine (H4.out _ (HB.out.chain K5.out)).mono ?_);rintro e w6 ⟨rfl,hb⟩);have K6:=Lib.hid (K5.out.chain hb);obtain ⟨g5_0,g5_1,g5_2,g5_3,g5_4,g5_5,g5_6,g5_7,g5_8⟩:=HF.out _ K6.out;clear hb)
              | (go_at_call 71;((with_reducible refine (H5.out _ (HB.out.chain K6.out)).mono ?_);rintro e w7 ⟨rfl,hb⟩);have K7:=Lib.hid (K6.out.chain hb);clear hb))
             go_ret
             exact ⟨rfl,HB.out.chain K7.out⟩
theorem program_rules (w : World) : Calls Tryz.prog 33 #[] w fun e w' => e = .returned (rulesV 60 1048576 8) ∧ w' = w.alloc (rulesC 60 1048576 8):=by
 go_enter Tryz.func33,Tryz.ntmps33
 go_wp2
 refine bodyPost_ret (results_cell_row rfl _ _ w.heap.size 91 #[.func (.func 60) #[] #[],.int .i64 1048576,.int .i64 8] (0,0) _ rfl (heap_of_alloc _ _) Tryz.underlying91 rfl (by kernel_rfl)) rfl ?_
 exact ⟨rfl,rfl⟩
theorem tprogram_any (d : GAd) (p : Pg) (w : World) (hp : PartsAt w) (own : PgOwn w w.heap.size d p) :
 Calls Tryz.prog 12 #[progV d p] w fun e w' => e = .returned (.bool (vPg p)) ∧ Below w.heap.size w w':=by
 have HC : Hid (BC w 34 #[rulesV 60 1048576 8,.agg #[.slice d.r p.rs.length d.nr,.slice d.g p.gs.length d.ng,.slice d.k p.ks.length d.nk,.slice d.d p.ds.length d.nd,.slice d.m p.ms.length d.nm,.slice d.x p.xs.length d.nx]] (vPg p)):=Lib.hid (fun W hb => program_any d p W (hp.on hb) (own.on hb))
 have HP : Hid (∀ W,Calls Tryz.prog 33 #[] W fun e w' => e = .returned (rulesV 60 1048576 8) ∧ Below W.heap.size W w'):=Lib.hid (fun W => (program_rules W).mono (fun e w' h => by obtain ⟨h1,rfl⟩:=h;exact ⟨h1,below_alloc W _⟩))
 obtain ⟨⟨b0,b1,b2,b3,b4,b5⟩,_⟩:=own
 generalize vPg p = res at *
 show Calls Tryz.prog 12 #[.agg #[.slice d.r p.rs.length d.nr,.slice d.g p.gs.length d.ng,.slice d.k p.ks.length d.nk,.slice d.d p.ds.length d.nd,.slice d.m p.ms.length d.nm,.slice d.x p.xs.length d.nx]] w _
 generalize p.rs.length = n0 at *
 generalize p.gs.length = n1 at *
 generalize p.ks.length = n2 at *
 generalize p.ds.length = n3 at *
 generalize p.ms.length = n4 at *
 generalize p.xs.length = n5 at *
 obtain ⟨W1,hW1⟩ : ∃ W1,W1 = w.alloc (.cells #[.slice d.r n0 d.nr,.slice d.g n1 d.ng,.slice d.k n2 d.nk,.slice d.d n3 d.nd,.slice d.m n4 d.nm,.slice d.x n5 d.nx] 53):=⟨_,rfl⟩
 have HB : Hid (Below w.heap.size w W1):=Lib.hid (by rw [hW1];exact below_alloc w _)
 have q2:=heap_of_alloc w (.cells #[.slice d.r n0 d.nr,.slice d.g n1 d.ng,.slice d.k n2 d.nk,.slice d.d n3 d.nd,.slice d.m n4 d.nm,.slice d.x n5 d.nx] 53)
 rw [← hW1] at q2
 have HF : Hid (∀ W,Below W1.heap.size W1 W → W.cell? ⟨w.heap.size,0,none⟩ = some (.slice d.r n0 d.nr) ∧ W.cell? ⟨w.heap.size,1,none⟩ = some (.slice d.g n1 d.ng) ∧ W.cell? ⟨w.heap.size,2,none⟩ = some (.slice d.k n2 d.nk) ∧ W.cell? ⟨w.heap.size,3,none⟩ = some (.slice d.d n3 d.nd) ∧ W.cell? ⟨w.heap.size,4,none⟩ = some (.slice d.m n4 d.nm) ∧ W.cell? ⟨w.heap.size,5,none⟩ = some (.slice d.x n5 d.nx)):=Lib.hid (fun W hb => ⟨cell_of_block (kept_box hb q2) 0 rfl,cell_of_block (kept_box hb q2) 1 rfl,cell_of_block (kept_box hb q2) 2 rfl,cell_of_block (kept_box hb q2) 3 rfl,cell_of_block (kept_box hb q2) 4 rfl,cell_of_block (kept_box hb q2) 5 rfl⟩)
 have HB1:=Lib.hid (Below.refl W1.heap.size W1)
 obtain ⟨d0,d1,d2,d3,d4,d5⟩:=HF.out _ HB1.out
 unfold maxLen at b0 b1 b2 b3 b4 b5
 clear hp q2
 go_enter Tryz.func12,Tryz.ntmps12
 go_wp2
 rw [← hW1]
 clear hW1
 go_region_held3 (fun W => W.cell? ⟨w.heap.size,0,none⟩ = some (.slice d.r n0 d.nr) ∧ W.cell? ⟨w.heap.size,1,none⟩ = some (.slice d.g n1 d.ng) ∧ W.cell? ⟨w.heap.size,2,none⟩ = some (.slice d.k n2 d.nk) ∧ W.cell? ⟨w.heap.size,3,none⟩ = some (.slice d.d n3 d.nd) ∧ W.cell? ⟨w.heap.size,4,none⟩ = some (.slice d.m n4 d.nm) ∧ W.cell? ⟨w.heap.size,5,none⟩ = some (.slice d.x n5 d.nx))
  (first | go_keep | (trace_state;fail))
  (first
    | (go_at_call 33;refine (HP.out _).mono ?_;rintro e w5 ⟨rfl,hb5⟩;have HB5:=Lib.hid (HB1.out.drew.chain hb5);clear hb5;obtain ⟨g0,g1,g2,g3,g4,g5⟩:=HF.out _ HB5.out)
    | (go_at_call 34;refine (HC.out _ (HB.out.chain HB5.out)).mono ?_;rintro e w6 ⟨rfl,hb6⟩;have HB6:=Lib.hid (HB5.out.chain hb6);clear hb6;obtain ⟨i0,i1,i2,i3,i4,i5⟩:=HF.out _ HB6.out))
 all_goals go_wp2
 all_goals go_ret
 all_goals exact ⟨rfl,HB.out.chain HB6.out⟩
end Go.Proofs.YtnkpgpmaiicdeaaGreatDoor
