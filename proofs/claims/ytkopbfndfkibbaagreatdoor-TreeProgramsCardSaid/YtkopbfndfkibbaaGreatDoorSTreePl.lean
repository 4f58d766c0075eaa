/-
  What the code answers on a program is what the reference answers.
  rules.program, programRules, tree.Program.
  The body of the law TreePrograms.
-/
import Derived.Test.YtkopbfndfkibbaaGreatDoorSTreeGa
import Derived.Test.YtkopbfndfkibbaaGreatDoorSTreePd
import Derived.Test.YtkopbfndfkibbaaGreatDoorSTreePi
import Derived.Test.YtkopbfndfkibbaaGreatDoorSTreeAx
set_option linter.unusedVariables false
set_option linter.unusedSimpArgs false
namespace Go.Proofs.YtkopbfndfkibbaaGreatDoor
open Go.RowKit
theorem nameL_fn : nameL = nameR:=funext name_eq
theorem pl_eq (a b : Int) (l : List Pm) : (decide (a ≤ (l.length : Int)) && decide ((l.length : Int) ≤ b) && l.all (vP nameR)) = (rPs a b l && plP l):=by
 rw [Bool.eq_iff_iff,ops_iff (p:=vP nameR) (q:=vP varR) (N:=NpP) (fun x _ => vP_plain x),Bool.and_eq_true (rPs a b l),plP_iff]
 exact Iff.rfl
theorem fl_eq (o : OkF) (a : Int) (l : List Fm) : (decide (a ≤ (l.length : Int)) && decide ((l.length : Int) ≤ 100) && l.all (vF nameR 1048576 8)) = (rFs a l && l.all o.f):=by
 rw [Bool.eq_iff_iff,ops_iff (p:=vF nameR 1048576 8) (q:=vF varR nuP 100) (N:=NpF) (fun x _ => vF_plain x),Bool.and_eq_true (rFs a l),all_ok o.hf]
 exact Iff.rfl
theorem vPs_eq (l : List Pm) : vPs l = (rPs 0 8 l && plP l):=by
 unfold vPs
 rw [nameL_fn,pl_eq]
theorem vDj_eq (o : OkF) (l : List Fm) : vDj l = (rFs 1 l && l.all o.f):=by
 unfold vDj
 rw [nameL_fn,fl_eq o]
theorem one_more (n : Nat) (A B : Bool) : (decide ((n : Int) > 0) && (decide ((0 : Int) ≤ (n : Int)) && B && A)) = (decide ((1 : Int) ≤ (n : Int)) && B && A):=by
 rw [show decide ((n : Int) > 0) = decide ((1 : Int) ≤ (n : Int)) from decide_eq_decide.2 (by omega),show decide ((0 : Int) ≤ (n : Int)) = true from decide_eq_true (by omega)]
 cases decide ((1 : Int) ≤ (n : Int)) <;> cases B <;> rfl
theorem ps_one (l : List Pm) : (decide ((l.length : Int) > 0) && vPs l) = (rPs 1 8 l && plP l):=by
 unfold vPs
 rw [nameL_fn,one_more,pl_eq]
theorem vRc_eq (x : Rc) : vRc x = rRc x:=by
 unfold vRc rRc
 rw [Bool.and_assoc,ps_one,nameL_fn,Bool.and_assoc]
theorem vLk_eq (o : OkF) (x : Lk) : vLk x = rLk o x:=by
 unfold vLk rLk
 rw [vDj_eq o,nameL_fn,Bool.and_assoc]
theorem vDf_eq (o : OkF) (x : Df) : vDf x = rDf o x:=by
 unfold vDf rDf
 rw [Bool.and_assoc (nameL x.nm),ps_one,vDj_eq o,nameL_fn]
 generalize nameR x.nm = a
 generalize rPs 1 8 x.ps = b
 generalize plP x.ps = c
 generalize rFs 1 x.cs = d
 generalize x.cs.all o.f = e
 cases a <;> cases b <;> cases c <;> cases d <;> cases e <;> rfl
theorem vF_eq (o : OkF) (x : Fm) : vF nameR 1048576 8 x = (vF varR nuP 100 x && o.f x):=by
 rw [Bool.eq_iff_iff,vF_plain,Bool.and_eq_true,o.hf]
theorem vLm_eq (o : OkF) (x : Lm) : vLm x = rLm o x:=by
 unfold vLm rLm rFs
 rw [vPs_eq,nameL_fn,vF_eq o,vF_eq o]
 simp only [List.all_cons,List.all_nil,List.length_cons,List.length_nil]
 rw [show decide ((0 : Int) ≤ ((0 + 1 + 1 : Nat) : Int)) = true from rfl,show decide (((0 + 1 + 1 : Nat) : Int) ≤ 100) = true from rfl]
 generalize nameR x.nm = a
 generalize rPs 0 8 x.ps = b
 generalize plP x.ps = c
 generalize vF varR nuP 100 x.lf = d
 generalize vF varR nuP 100 x.rt = e
 generalize o.f x.lf = f
 generalize o.f x.rt = g
 cases a <;> cases b <;> cases c <;> cases d <;> cases e <;> cases f <;> cases g <;> rfl
theorem vRes_eq (rt rn : List UInt8) : vRes rt rn = (rRes rt rn && !(dlrB rn)):=by
 unfold vRes rRes
 rw [nameL_fn]
 have hn : nameR rn = (varR rn && !(dlrB rn)):=by
  rw [Bool.eq_iff_iff,name_var,Bool.and_eq_true,Bool.not_eq_true',← Bool.not_eq_true,dlr_iff]
 rw [hn]
 cases rn with
 | nil =>
   rw [dlr_nil]
   generalize tyB rt = a
   generalize varR [] = b
   cases rt <;> cases a <;> cases b <;> rfl
 | cons x t =>
   generalize dlrB (x :: t) = d
   generalize tyB rt = a
   generalize varR (x :: t) = b
   cases rt <;> cases a <;> cases b <;> cases d <;> rfl
theorem len_zero {α : Type} (l : List α) (h : decide ((l.length : Int) = 0) = true) : l = []:=by
 have := of_decide_eq_true h
 exact List.eq_nil_of_length_eq_zero (by omega)
theorem vCt_eq (o : OkF) (ct : Bool) (lg : List Pm) (rq es : List Fm) : vCt ct lg rq es = (rPs 0 8 lg && plP lg && rCt o ct lg rq es):=by
 unfold vCt rCt
 cases ct with
 | true =>
   simp only [if_true]
   rw [vPs_eq,vDj_eq o,vDj_eq o]
   generalize rPs 0 8 lg = a
   generalize plP lg = b
   generalize rFs 1 rq = c
   generalize rFs 1 es = d
   generalize rq.all o.f = e
   generalize es.all o.f = f
   cases a <;> cases b <;> cases c <;> cases d <;> cases e <;> cases f <;> rfl
 | false =>
   simp only [Bool.false_eq_true,if_false]
   cases h : decide ((lg.length : Int) = 0) with
   | false =>
     rw [Bool.false_and,Bool.false_and,Bool.and_false,Bool.and_false]
   | true =>
     have := len_zero lg h
     subst this
     rw [show rPs 0 8 [] = true from rfl,show plP [] = true from rfl]
     simp only [Bool.true_and,Bool.and_true]
theorem vSs_eq (o : OkF) (l : List St) : vSs nameR 1048576 8 30 l = (vSs varR nuP 100 30 l && l.all o.s):=by
 rw [Bool.eq_iff_iff,vSs_plain,Bool.and_eq_true,all_ok o.hs]
theorem vPr_eq (o : OkF) (x : Pr) : vPr x = rPr o x:=by
 unfold vPr rPr
 rw [vRes_eq,vCt_eq o,vPs_eq,nameL_fn,pl_eq,vSs_eq o]
 generalize nameR x.nm = a0
 generalize vPos x.ln x.co = a1
 generalize rPs 0 8 x.ps = a2
 generalize rPs 0 8 x.lg = a3
 generalize rPs 0 100 x.lo = a4
 generalize vSs varR nuP 100 30 x.bd = a5
 generalize rRes x.rt x.rn = a6
 generalize dlrB x.rn = a7
 generalize plP x.ps = a8
 generalize plP x.lg = a9
 generalize plP x.lo = a10
 generalize x.bd.all o.s = a11
 generalize rCt o x.ct x.lg x.rq x.es = a12
 rw [Bool.eq_iff_iff]
 simp only [Bool.and_eq_true]
 constructor
 ·rintro ⟨⟨⟨⟨⟨⟨h0,h1⟩,h2,h8⟩,h6,h7⟩,⟨h3,h9⟩,h12⟩,h4,h10⟩,h5,h11⟩
  exact ⟨⟨⟨⟨⟨⟨⟨⟨⟨⟨⟨⟨h0,h1⟩,h2⟩,h3⟩,h4⟩,h5⟩,h6⟩,h7⟩,h8⟩,h9⟩,h10⟩,h11⟩,h12⟩
 ·rintro ⟨⟨⟨⟨⟨⟨⟨⟨⟨⟨⟨⟨h0,h1⟩,h2⟩,h3⟩,h4⟩,h5⟩,h6⟩,h7⟩,h8⟩,h9⟩,h10⟩,h11⟩,h12⟩
  exact ⟨⟨⟨⟨⟨⟨h0,h1⟩,h2,h8⟩,h6,h7⟩,⟨h3,h9⟩,h12⟩,h4,h10⟩,h5,h11⟩
theorem all_fn {α : Type} {p q : α → Bool} (h : ∀ x,p x = q x) (l : List α) : l.all p = l.all q:=by rw [funext h]
theorem len_nonneg {α : Type} (l : List α) : decide ((0 : Int) ≤ (l.length : Int)) = true:=decide_eq_true (by omega)
theorem vPg_eq (o : OkF) (p : Pg) : vPg p = rPg o p:=by
 unfold vPg rPg
 rw [nameL_fn,pl_eq,all_fn vRc_eq,all_fn (vLk_eq o),all_fn (vDf_eq o),all_fn (vLm_eq o),all_fn (vPr_eq o)]
 simp only [len_nonneg,Bool.true_and]
 rw [Bool.eq_iff_iff]
 simp only [Bool.and_eq_true]
 constructor
 ·rintro ⟨⟨⟨⟨⟨⟨a1,a2⟩,b1,b2⟩,c1,c2⟩,d1,d2⟩,e1,e2⟩,f1,f2⟩
  exact ⟨⟨⟨⟨⟨⟨⟨⟨⟨⟨⟨a1,c1⟩,d1⟩,e1⟩,f1⟩,b1⟩,b2⟩,a2⟩,c2⟩,d2⟩,e2⟩,f2⟩
 ·rintro ⟨⟨⟨⟨⟨⟨⟨⟨⟨⟨⟨a1,c1⟩,d1⟩,e1⟩,f1⟩,b1⟩,b2⟩,a2⟩,c2⟩,d2⟩,e2⟩,f2⟩
  exact ⟨⟨⟨⟨⟨⟨a1,a2⟩,b1,b2⟩,c1,c2⟩,d1,d2⟩,e1,e2⟩,f1,f2⟩
end Go.Proofs.YtkopbfndfkibbaaGreatDoor
namespace Go.Proofs.YtkopbfndfkibbaaGreatDoor
set_option maxRecDepth 100000
set_option maxHeartbeats 8000000
open Go.RowKit
theorem program_any (d : GAd) (p : Pg) (w : World) (hp : PartsAt w) (own : PgOwn w w.heap.size d p) :
 Calls Tryz.prog 15 #[rulesV 33 1048576 8,.agg #[.slice d.r p.rs.length d.nr,.slice d.g p.gs.length d.ng,.slice d.k p.ks.length d.nk,.slice d.d p.ds.length d.nd,.slice d.m p.ms.length d.nm,.slice d.x p.xs.length d.nx]] w fun e w' => e = .returned (.bool (vPg p)) ∧ Below w.heap.size w w':=by
 obtain ⟨⟨b0,b1,b2,b3,b4,b5⟩,r0,r1,r2,r3,r4,r5⟩:=own
 obtain ⟨v0,hv0⟩ : ∃ v,v = (decide ((0 : Int) ≤ p.rs.length) && decide ((p.rs.length : Int) ≤ 100) && p.rs.all vRc):=⟨_,rfl⟩
 obtain ⟨v1,hv1⟩ : ∃ v,v = (decide ((0 : Int) ≤ p.gs.length) && decide ((p.gs.length : Int) ≤ 100) && p.gs.all (vP nameL)):=⟨_,rfl⟩
 obtain ⟨v2,hv2⟩ : ∃ v,v = (decide ((0 : Int) ≤ p.ks.length) && decide ((p.ks.length : Int) ≤ 100) && p.ks.all vLk):=⟨_,rfl⟩
 obtain ⟨v3,hv3⟩ : ∃ v,v = (decide ((0 : Int) ≤ p.ds.length) && decide ((p.ds.length : Int) ≤ 100) && p.ds.all vDf):=⟨_,rfl⟩
 obtain ⟨v4,hv4⟩ : ∃ v,v = (decide ((0 : Int) ≤ p.ms.length) && decide ((p.ms.length : Int) ≤ 100) && p.ms.all vLm):=⟨_,rfl⟩
 obtain ⟨v5,hv5⟩ : ∃ v,v = (decide ((0 : Int) ≤ p.xs.length) && decide ((p.xs.length : Int) ≤ 100) && p.xs.all vPr):=⟨_,rfl⟩
 have hres : vPg p = (v0 && v1 && v2 && v3 && v4 && v5):=by
  rw [hv0,hv1,hv2,hv3,hv4,hv5]
  rfl
 rw [hres]
 have H0 : Hid (BC w 34 #[.slice d.r p.rs.length d.nr,.int .i64 0,.int .i64 100,.func (.func 35) #[rulesV 33 1048576 8] #[]] v0):=Lib.hid (fun W hb => by rw [hv0];exact vl_rec vRc 35 #[rulesV 33 1048576 8] #[] (enters_of Tryz.func35 (by kernel_rfl) rfl) p.rs d.r d.nr 0 100 W b0 (r0.on rc_keeps hb) (fun x v W hx hbx hv => by obtain ⟨A,c,rfl,h1,h2,h3⟩:=hv;exact record_any x.nm x.fs A c W h1 h2 h3))
 have H1 : Hid (BC w 36 #[.slice d.g p.gs.length d.ng,.int .i64 0,.int .i64 100,.func (.func 37) #[rulesV 33 1048576 8] #[]] v1):=Lib.hid (fun W hb => by rw [hv1];exact vlr_param _ nameL name_ok 1048576 8 p.gs d.g d.ng 0 100 W b1 (r1.on pm_keeps hb))
 have H2 : Hid (BC w 38 #[.slice d.k p.ks.length d.nk,.int .i64 0,.int .i64 100,.func (.func 39) #[rulesV 33 1048576 8] #[]] v2):=Lib.hid (fun W hb => by rw [hv2];exact vl_lock vLk 39 #[rulesV 33 1048576 8] #[] (enters_of Tryz.func39 (by kernel_rfl) rfl) p.ks d.k d.nk 0 100 W b2 (r2.on lk_keeps hb) (fun x v W hx hbx hv => by obtain ⟨A,c,rfl,h1,h2,h3⟩:=hv;exact lock_any x.nm x.iv A c W h1 h2 h3))
 have H3 : Hid (BC w 40 #[.slice d.d p.ds.length d.nd,.int .i64 0,.int .i64 100,.func (.func 41) #[rulesV 33 1048576 8] #[]] v3):=Lib.hid (fun W hb => by rw [hv3];exact vl_def vDf 41 #[rulesV 33 1048576 8] #[] (enters_of Tryz.func41 (by kernel_rfl) rfl) p.ds d.d d.nd 0 100 W b3 (r3.on df_keeps hb) (fun x v W hx hbx hv => by obtain ⟨A,c,A2,c2,rfl,h1,h2,h3,h4,h5⟩:=hv;exact def_any x.nm x.ps x.cs A c A2 c2 W h1 h2 h3 h4 h5))
 have H4 : Hid (BC w 42 #[.slice d.m p.ms.length d.nm,.int .i64 0,.int .i64 100,.func (.func 43) #[rulesV 33 1048576 8] #[]] v4):=Lib.hid (fun W hb => by rw [hv4];exact vl_lemma vLm 43 #[rulesV 33 1048576 8] #[] (enters_of Tryz.func43 (by kernel_rfl) rfl) p.ms d.m d.nm 0 100 W b4 (r4.on lm_keeps hb) (fun x v W hx hbx hv => by obtain ⟨A,c,e,f,rfl,h1,h2,h3,h4,h5⟩:=hv;exact lemma_any x.nm x.ps x.lf x.rt A c e f W h1 h2 h3 h4 h5))
 have H5 : Hid (BC w 44 #[.slice d.x p.xs.length d.nx,.int .i64 0,.int .i64 100,.func (.func 45) #[rulesV 33 1048576 8] #[]] v5):=Lib.hid (fun W hb => by rw [hv5];exact vl_proc vPr 45 #[rulesV 33 1048576 8] #[] (enters_of Tryz.func45 (by kernel_rfl) rfl) p.xs d.x d.nx 0 100 W b5 (r5.on pr_keeps hb) (fun x v W hx hbx hv => by obtain ⟨e,rfl,h1⟩:=hv;exact proc_any e x W (hp.on (hb.chain hbx)) h1))
 generalize p.rs.length = n0 at *
 generalize p.gs.length = n1 at *
 generalize p.ks.length = n2 at *
 generalize p.ds.length = n3 at *
 generalize p.ms.length = n4 at *
 generalize p.xs.length = n5 at *
 obtain ⟨W1,hW1⟩ : ∃ W1,W1 = (w.alloc (rulesC 33 1048576 8)).alloc (.cells #[.slice d.r n0 d.nr,.slice d.g n1 d.ng,.slice d.k n2 d.nk,.slice d.d n3 d.nd,.slice d.m n4 d.nm,.slice d.x n5 d.nx] 29):=⟨_,rfl⟩
 have HB : Hid (Below w.heap.size w W1):=Lib.hid (by rw [hW1];exact (below_alloc w _).chain (below_alloc _ _))
 have q1:=heap_keep (o:=.cells #[.slice d.r n0 d.nr,.slice d.g n1 d.ng,.slice d.k n2 d.nk,.slice d.d n3 d.nd,.slice d.m n4 d.nm,.slice d.x n5 d.nx] 29) (heap_of_alloc w (rulesC 33 1048576 8))
 have q2:=heap_of_alloc (w.alloc (rulesC 33 1048576 8)) (.cells #[.slice d.r n0 d.nr,.slice d.g n1 d.ng,.slice d.k n2 d.nk,.slice d.d n3 d.nd,.slice d.m n4 d.nm,.slice d.x n5 d.nx] 29)
 rw [size_of_alloc] at q2
 rw [← hW1] at q1 q2
 have HF : Hid (∀ W,Below W1.heap.size W1 W → W.cell? ⟨w.heap.size,0,none⟩ = some (.func (.func 33) #[] #[]) ∧ W.cell? ⟨w.heap.size,1,none⟩ = some (.int .i64 1048576) ∧ W.cell? ⟨w.heap.size,2,none⟩ = some (.int .i64 8) ∧ W.cell? ⟨w.heap.size + 1,0,none⟩ = some (.slice d.r n0 d.nr) ∧ W.cell? ⟨w.heap.size + 1,1,none⟩ = some (.slice d.g n1 d.ng) ∧ W.cell? ⟨w.heap.size + 1,2,none⟩ = some (.slice d.k n2 d.nk) ∧ W.cell? ⟨w.heap.size + 1,3,none⟩ = some (.slice d.d n3 d.nd) ∧ W.cell? ⟨w.heap.size + 1,4,none⟩ = some (.slice d.m n4 d.nm) ∧ W.cell? ⟨w.heap.size + 1,5,none⟩ = some (.slice d.x n5 d.nx)) :=
  Lib.hid (fun W hb => ⟨cell_of_block (kept_box hb q1) 0 rfl,cell_of_block (kept_box hb q1) 1 rfl,cell_of_block (kept_box hb q1) 2 rfl,cell_of_block (kept_box hb q2) 0 rfl,cell_of_block (kept_box hb q2) 1 rfl,cell_of_block (kept_box hb q2) 2 rfl,cell_of_block (kept_box hb q2) 3 rfl,cell_of_block (kept_box hb q2) 4 rfl,cell_of_block (kept_box hb q2) 5 rfl⟩)
 have K1:=Lib.hid (Below.refl W1.heap.size W1)
 clear q1 q2 hres hv0 hv1 hv2 hv3 hv4 hv5 hp r0 r1 r2 r3 r4 r5
 try unfold maxLen at *
 cases v0 with
 | false =>
   go_enter Tryz.func15,Tryz.ntmps15
   go_wp2_with (go_at_call 34;rw [← hW1];clear hW1;((with_reducible refine (H0.out _ (HB.out.chain K1.out)).mono ?_);rintro e w2 ⟨rfl,hb⟩);have K2:=Lib.hid (K1.out.chain hb);clear hb)
   go_ret
   exact ⟨rfl,HB.out.chain K2.out⟩
 | true =>
   cases v1 with
   | false =>
     go_enter Tryz.func15,Tryz.ntmps15
     go_wp2_with (first
      | (go_at_call 34;rw [← hW1];clear hW1;((with_reducible refine (H0.out _ (HB.out.chain K1.out)).mono ?_);rintro e w2 ⟨rfl,hb⟩);have K2:=Lib.hid (K1.out.chain hb);obtain ⟨g1_0,g1_1,g1_2,g1_3,g1_4,g1_5,g1_6,g1_7,g1_8⟩:=HF.out _ K2.out;clear hb)
      | (go_at_call 36;((with_reducible refine (H1.out _ (HB.out.chain K2.out)).mono ?_);rintro e w3 ⟨rfl,hb⟩);have K3:=Lib.hid (K2.out.chain hb);clear hb))
     go_ret
     exact ⟨rfl,HB.out.chain K3.out⟩
   | true =>
     cases v2 with
     | false =>
       go_enter Tryz.func15,Tryz.ntmps15
       go_wp2_with (first
        | (go_at_call 34;rw [← hW1];clear hW1;((with_reducible refine (H0.out _ (HB.out.chain K1.out)).mono ?_);rintro e w2 ⟨rfl,hb⟩);have K2:=Lib.hid (K1.out.chain hb);obtain ⟨g1_0,g1_1,g1_2,g1_3,g1_4,g1_5,g1_6,g1_7,g1_8⟩:=HF.out _ K2.out;clear hb)
        | (go_at_call 36;((with_reducible refine (H1.out _ (HB.out.chain K2.out)).mono ?_);rintro e w3 ⟨rfl,hb⟩);have K3:=Lib.hid (K2.out.chain hb);obtain ⟨g2_0,g2_1,g2_2,g2_3,g2_4,g2_5,g2_6,g2_7,g2_8⟩:=HF.out _ K3.out;clear hb)
        | (go_at_call 38;((with_reducible refine (H2.out _ (HB.out.chain K3.out)).mono ?_);rintro e w4 ⟨rfl,hb⟩);have K4:=Lib.hid (K3.out.chain hb);clear hb))
       go_ret
       exact ⟨rfl,HB.out.chain K4.out⟩
     | true =>
       cases v3 with
       | false =>
         go_enter Tryz.func15,Tryz.ntmps15
         go_wp2_with (first
          | (go_at_call 34;rw [← hW1];clear hW1;((with_reducible refine (H0.out _ (HB.out.chain K1.out)).mono ?_);rintro e w2 ⟨rfl,hb⟩);have K2:=Lib.hid (K1.out.chain hb);obtain ⟨g1_0,g1_1,g1_2,g1_3,g1_4,g1_5,g1_6,g1_7,g1_8⟩:=HF.out _ K2.out;clear hb)
          | (go_at_call 36;((with_reducible refine (H1.out _ (HB.out.chain K2.out)).mono ?_);rintro e w3 ⟨rfl,hb⟩);have K3:=Lib.hid (K2.out.chain hb);obtain ⟨g2_0,g2_1,g2_2,g2_3,g2_4,g2_5,g2_6,g2_7,g2_8⟩:=HF.out _ K3.out;clear hb)
          | (go_at_call 38;((with_reducible refine (H2.out _ (HB.out.chain K3.out)).mono ?_);rintro e w4 ⟨rfl,hb⟩);have K4:=Lib.hid (K3.out.chain hb);obtain ⟨g3_0,g3_1,g3_2,g3_3,g3_4,g3_5,g3_6,g3_7,g3_8⟩:=HF.out _ K4.out;clear hb)
          | (go_at_call 40;((with_reducible refine (H3.out _ (HB.out.chain K4.out)).mono ?_);rintro e w5 ⟨rfl,hb⟩);have K5:=Lib.hid (K4.out.chain hb);clear hb))
         go_ret
         exact ⟨rfl,HB.out.chain K5.out⟩
       | true =>
         cases v4 with
         | false =>
           go_enter Tryz.func15,Tryz.ntmps15
           go_wp2_with (first
            | (go_at_call 34;rw [← hW1];clear hW1;((with_reducible refine (H0.out _ (HB.out.chain K1.out)).mono ?_);rintro e w2 ⟨rfl,hb⟩);have K2:=Lib.hid (K1.out.chain hb);obtain ⟨g1_0,g1_1,g1_2,g1_3,g1_4,g1_5,g1_6,g1_7,g1_8⟩:=HF.out _ K2.out;clear hb)
            | (go_at_call 36;((with_reducible refine (H1.out _ (HB.out.chain K2.out)).mono ?_);rintro e w3 ⟨rfl,hb⟩);have K3:=Lib.hid (K2.out.chain hb);obtain ⟨g2_0,g2_1,g2_2,g2_3,g2_4,g2_5,g2_6,g2_7,g2_8⟩:=HF.out _ K3.out;clear hb)
            | (go_at_call 38;((with_reducible refine (H2.out _ (HB.out.chain K3.out)).mono ?_);rintro e w4 ⟨rfl,hb⟩);have K4:=Lib.hid (K3.out.chain hb);obtain ⟨g3_0,g3_1,g3_2,g3_3,g3_4,g3_5,g3_6,g3_7,g3_8⟩:=HF.out _ K4.out;clear hb)
            | (go_at_call 40;((with_reducible refine (H3.out _ (HB.out.chain K4.out)).mono ?_);rintro e w5 ⟨rfl,hb⟩);have K5:=Lib.hid (K4.out.chain hb);obtain ⟨g4_0,g4_1,g4_2,g4_3,g4_4,g4_5,g4_6,g4_7,g4_8⟩:=HF.out _ K5.out;clear hb)
            | (go_at_call 42;((with_reducible refine (H4.out _ (HB.out.chain K5.out)).mono ?_);rintro e w6 ⟨rfl,hb⟩);have K6:=Lib.hid (K5.out.chain hb);clear hb))
           go_ret
           exact ⟨rfl,HB.out.chain K6.out⟩
         | true =>
           cases v5 with
           | false =>
             go_enter Tryz.func15,Tryz.ntmps15
             go_wp2_with (first
              | (go_at_call 34;rw [← hW1];clear hW1;((with_reducible refine (H0.out _ (HB.out.chain K1.out)).mono ?_);rintro e w2 ⟨rfl,hb⟩);have K2:=Lib.hid (K1.out.chain hb);obtain ⟨g1_0,g1_1,g1_2,g1_3,g1_4,g1_5,g1_6,g1_7,g1_8⟩:=HF.out _ K2.out;clear hb)
              | (go_at_call 36;((with_reducible refine (H1.out _ (HB.out.chain K2.out)).mono ?_);rintro e w3 ⟨rfl,hb⟩);have K3:=Lib.hid (K2.out.chain hb);obtain ⟨g2_0,g2_1,g2_2,g2_3,g2_4,g2_5,g2_6,g2_7,g2_8⟩:=HF.out _ K3.out;clear hb)
              | (go_at_call 38;((with_reducible refine (H2.out _ (HB.out.chain K3.out)).mono ?_);rintro e w4 ⟨rfl,hb⟩);have K4:=Lib.hid (K3.out.chain hb);obtain ⟨g3_0,g3_1,g3_2,g3_3,g3_4,g3_5,g3_6,g3_7,g3_8⟩:=HF.out _ K4.out;clear hb)
              | (go_at_call 40;((with_reducible refine (H3.out _ (HB.out.chain K4.out)).mono ?_);rintro e w5 ⟨rfl,hb⟩);have K5:=Lib.hid (K4.out.chain hb);obtain ⟨g4_0,g4_1,g4_2,g4_3,g4_4,g4_5,g4_6,g4_7,g4_8⟩:=HF.out _ K5.out;clear hb)
              | (go_at_call 42;((with_reducible refine (H4.out _ (HB.out.chain K5.out)).mono ?_);rintro e w6 ⟨rfl,hb⟩);have K6:=Lib.hid (K5.out.chain hb);obtain ⟨g5_0,g5_1,g5_2,g5_3,g5_4,g5_5,g5_6,g5_7,g5_8⟩:=HF.out _ K6.out;clear hb)
              | (go_at_call 44;((with_reducible refine (H5.out _ (HB.out.chain K6.out)).mono ?_);rintro e w7 ⟨rfl,hb⟩);have K7:=Lib.hid (K6.out.chain hb);clear hb))
             go_ret
             exact ⟨rfl,HB.out.chain K7.out⟩
           | true =>
             go_enter Tryz.func15,Tryz.ntmps15
             go_wp2_with (first
              | (go_at_call 34;rw [← hW1];clear hW1;((with_reducible refine (H0.out _ (HB.out.chain K1.out)).mono ?_);rintro e w2 ⟨rfl,hb⟩);have K2:=Lib.hid (K1.out.chain hb);obtain ⟨g1_0,g1_1,g1_2,g1_3,g1_4,g1_5,g1_6,g1_7,g1_8⟩:=HF.out _ K2.out;clear hb)
              | (go_at_call 36;((with_reducible refine (H1.out _ (HB.out.chain K2.out)).mono ?_);rintro e w3 ⟨rfl,hb⟩);have K3:=Lib.hid (K2.out.chain hb);obtain ⟨g2_0,g2_1,g2_2,g2_3,g2_4,g2_5,g2_6,g2_7,g2_8⟩:=HF.out _ K3.out;clear hb)
              | (go_at_call 38;((with_reducible refine (H2.out _ (HB.out.chain K3.out)).mono ?_);rintro e w4 ⟨rfl,hb⟩);have K4:=Lib.hid (K3.out.chain hb);obtain ⟨g3_0,g3_1,g3_2,g3_3,g3_4,g3_5,g3_6,g3_7,g3_8⟩:=HF.out _ K4.out;clear hb)
              | (go_at_call 40;((with_reducible refine (H3.out _ (HB.out.chain K4.out)).mono ?_);rintro e w5 ⟨rfl,hb⟩);have K5:=Lib.hid (K4.out.chain hb);obtain ⟨g4_0,g4_1,g4_2,g4_3,g4_4,g4_5,g4_6,g4_7,g4_8⟩:=HF.out _ K5.out;clear hb)
              | (go_at_call 42;((with_reducible refine (H4.out _ (HB.out.chain K5.out)).mono ?_);rintro e w6 ⟨rfl,hb⟩);have K6:=Lib.hid (K5.out.chain hb);obtain ⟨g5_0,g5_1,g5_2,g5_3,g5_4,g5_5,g5_6,g5_7,g5_8⟩:=HF.out _ K6.out;clear hb)
              | (go_at_call 44;((with_reducible refine (H5.out _ (HB.out.chain K6.out)).mono ?_);rintro e w7 ⟨rfl,hb⟩);have K7:=Lib.hid (K6.out.chain hb);clear hb))
             go_ret
             exact ⟨rfl,HB.out.chain K7.out⟩
theorem program_rules (w : World) : Calls Tryz.prog 14 #[] w fun e w' => e = .returned (rulesV 33 1048576 8) ∧ w' = w.alloc (rulesC 33 1048576 8):=by
 go_enter Tryz.func14,Tryz.ntmps14
 go_wp2
 refine bodyPost_ret (results_cell_row rfl _ _ w.heap.size 71 #[.func (.func 33) #[] #[],.int .i64 1048576,.int .i64 8] (0,0) _ rfl (heap_of_alloc _ _) Tryz.underlying71 rfl (by kernel_rfl)) rfl ?_
 exact ⟨rfl,rfl⟩
theorem tprogram_any (d : GAd) (p : Pg) (w : World) (hp : PartsAt w) (own : PgOwn w w.heap.size d p) :
 Calls Tryz.prog 6 #[progV d p] w fun e w' => e = .returned (.bool (vPg p)) ∧ Below w.heap.size w w':=by
 have HC : Hid (BC w 15 #[rulesV 33 1048576 8,.agg #[.slice d.r p.rs.length d.nr,.slice d.g p.gs.length d.ng,.slice d.k p.ks.length d.nk,.slice d.d p.ds.length d.nd,.slice d.m p.ms.length d.nm,.slice d.x p.xs.length d.nx]] (vPg p)):=Lib.hid (fun W hb => program_any d p W (hp.on hb) (own.on hb))
 have HP : Hid (∀ W,Calls Tryz.prog 14 #[] W fun e w' => e = .returned (rulesV 33 1048576 8) ∧ Below W.heap.size W w'):=Lib.hid (fun W => (program_rules W).mono (fun e w' h => by obtain ⟨h1,rfl⟩:=h;exact ⟨h1,below_alloc W _⟩))
 obtain ⟨⟨b0,b1,b2,b3,b4,b5⟩,_⟩:=own
 generalize vPg p = res at *
 show Calls Tryz.prog 6 #[.agg #[.slice d.r p.rs.length d.nr,.slice d.g p.gs.length d.ng,.slice d.k p.ks.length d.nk,.slice d.d p.ds.length d.nd,.slice d.m p.ms.length d.nm,.slice d.x p.xs.length d.nx]] w _
 generalize p.rs.length = n0 at *
 generalize p.gs.length = n1 at *
 generalize p.ks.length = n2 at *
 generalize p.ds.length = n3 at *
 generalize p.ms.length = n4 at *
 generalize p.xs.length = n5 at *
 obtain ⟨W1,hW1⟩ : ∃ W1,W1 = w.alloc (.cells #[.slice d.r n0 d.nr,.slice d.g n1 d.ng,.slice d.k n2 d.nk,.slice d.d n3 d.nd,.slice d.m n4 d.nm,.slice d.x n5 d.nx] 29):=⟨_,rfl⟩
 have HB : Hid (Below w.heap.size w W1):=Lib.hid (by rw [hW1];exact below_alloc w _)
 have q2:=heap_of_alloc w (.cells #[.slice d.r n0 d.nr,.slice d.g n1 d.ng,.slice d.k n2 d.nk,.slice d.d n3 d.nd,.slice d.m n4 d.nm,.slice d.x n5 d.nx] 29)
 rw [← hW1] at q2
 have HF : Hid (∀ W,Below W1.heap.size W1 W → W.cell? ⟨w.heap.size,0,none⟩ = some (.slice d.r n0 d.nr) ∧ W.cell? ⟨w.heap.size,1,none⟩ = some (.slice d.g n1 d.ng) ∧ W.cell? ⟨w.heap.size,2,none⟩ = some (.slice d.k n2 d.nk) ∧ W.cell? ⟨w.heap.size,3,none⟩ = some (.slice d.d n3 d.nd) ∧ W.cell? ⟨w.heap.size,4,none⟩ = some (.slice d.m n4 d.nm) ∧ W.cell? ⟨w.heap.size,5,none⟩ = some (.slice d.x n5 d.nx)):=Lib.hid (fun W hb => ⟨cell_of_block (kept_box hb q2) 0 rfl,cell_of_block (kept_box hb q2) 1 rfl,cell_of_block (kept_box hb q2) 2 rfl,cell_of_block (kept_box hb q2) 3 rfl,cell_of_block (kept_box hb q2) 4 rfl,cell_of_block (kept_box hb q2) 5 rfl⟩)
 have HB1:=Lib.hid (Below.refl W1.heap.size W1)
 obtain ⟨d0,d1,d2,d3,d4,d5⟩:=HF.out _ HB1.out
 unfold maxLen at b0 b1 b2 b3 b4 b5
 clear hp q2
 go_enter Tryz.func6,Tryz.ntmps6
 go_wp2
 rw [← hW1]
 clear hW1
 go_region_held3 (fun W => W.cell? ⟨w.heap.size,0,none⟩ = some (.slice d.r n0 d.nr) ∧ W.cell? ⟨w.heap.size,1,none⟩ = some (.slice d.g n1 d.ng) ∧ W.cell? ⟨w.heap.size,2,none⟩ = some (.slice d.k n2 d.nk) ∧ W.cell? ⟨w.heap.size,3,none⟩ = some (.slice d.d n3 d.nd) ∧ W.cell? ⟨w.heap.size,4,none⟩ = some (.slice d.m n4 d.nm) ∧ W.cell? ⟨w.heap.size,5,none⟩ = some (.slice d.x n5 d.nx))
  (first | go_keep | (trace_state;fail))
  (first
    | (go_at_call 14;refine (HP.out _).mono ?_;rintro e w5 ⟨rfl,hb5⟩;have HB5:=Lib.hid (HB1.out.drew.chain hb5);clear hb5;obtain ⟨g0,g1,g2,g3,g4,g5⟩:=HF.out _ HB5.out)
    | (go_at_call 15;refine (HC.out _ (HB.out.chain HB5.out)).mono ?_;rintro e w6 ⟨rfl,hb6⟩;have HB6:=Lib.hid (HB5.out.chain hb6);clear hb6;obtain ⟨i0,i1,i2,i3,i4,i5⟩:=HF.out _ HB6.out))
 all_goals go_wp2
 all_goals go_ret
 all_goals exact ⟨rfl,HB.out.chain HB6.out⟩
end Go.Proofs.YtkopbfndfkibbaaGreatDoor
namespace Go.Proofs.YtkopbfndfkibbaaGreatDoor
set_option maxRecDepth 100000
set_option maxHeartbeats 8000000
open Go.RowKit
theorem programs_law (d : GAd) (p : Pg) (w : World) (hp : PartsAt w) (own : PgOwn w w.heap.size d p) :
 Calls Tryz.prog 3 #[progV d p] w fun e w' => e = .returned (.bool true) ∧ Below w.heap.size w w':=by
 obtain ⟨o⟩:=ok_any
 obtain ⟨v1,hv1⟩ : ∃ v1,v1 = rPg o p:=⟨_,rfl⟩
 have HAw : Hid (∀ W,Calls Tryz.prog 4 #[] W fun e w' => e = .returned (.bool true) ∧ Below W.heap.size W w'):=Lib.hid awake_any
 have HL : Hid (∀ W,Below w.heap.size w W → Calls Tryz.prog 5 #[.int .i64 200000,.agg #[.slice d.r p.rs.length d.nr,.slice d.g p.gs.length d.ng,.slice d.k p.ks.length d.nk,.slice d.d p.ds.length d.nd,.slice d.m p.ms.length d.nm,.slice d.x p.xs.length d.nx]] W fun e w' => ∃ r : Int,e = .returned (.int .i64 r) ∧ -1 ≤ r ∧ r ≤ 200000 ∧ Below W.heap.size W w'):=Lib.hid (fun W hb => left_program p d 200000 W (by omega) (by omega) (own.on hb))
 have HT : Hid (BC w 6 #[.agg #[.slice d.r p.rs.length d.nr,.slice d.g p.gs.length d.ng,.slice d.k p.ks.length d.nk,.slice d.d p.ds.length d.nd,.slice d.m p.ms.length d.nm,.slice d.x p.xs.length d.nx]] v1):=Lib.hid (fun W hb => by
  rw [hv1,← vPg_eq o]
  exact tprogram_any d p W (hp.on hb) (own.on hb))
 have HS : Hid (BC w 7 #[.agg #[.slice d.r p.rs.length d.nr,.slice d.g p.gs.length d.ng,.slice d.k p.ks.length d.nk,.slice d.d p.ds.length d.nd,.slice d.m p.ms.length d.nm,.slice d.x p.xs.length d.nx]] v1):=Lib.hid (fun W hb => by
  rw [hv1]
  exact sprogram_any o p d W (own.on hb))
 obtain ⟨⟨b0,b1,b2,b3,b4,b5⟩,_⟩:=own
 show Calls Tryz.prog 3 #[.agg #[.slice d.r p.rs.length d.nr,.slice d.g p.gs.length d.ng,.slice d.k p.ks.length d.nk,.slice d.d p.ds.length d.nd,.slice d.m p.ms.length d.nm,.slice d.x p.xs.length d.nx]] w _
 clear hv1 hp
 generalize p.rs.length = n0 at *
 generalize p.gs.length = n1 at *
 generalize p.ks.length = n2 at *
 generalize p.ds.length = n3 at *
 generalize p.ms.length = n4 at *
 generalize p.xs.length = n5 at *
 obtain ⟨W1,hW1⟩ : ∃ W1,W1 = w.alloc (.cells #[.slice d.r n0 d.nr,.slice d.g n1 d.ng,.slice d.k n2 d.nk,.slice d.d n3 d.nd,.slice d.m n4 d.nm,.slice d.x n5 d.nx] 29):=⟨_,rfl⟩
 have HB : Hid (Below w.heap.size w W1):=Lib.hid (by rw [hW1];exact below_alloc w _)
 have q2:=heap_of_alloc w (.cells #[.slice d.r n0 d.nr,.slice d.g n1 d.ng,.slice d.k n2 d.nk,.slice d.d n3 d.nd,.slice d.m n4 d.nm,.slice d.x n5 d.nx] 29)
 rw [← hW1] at q2
 have HF : Hid (∀ W,Below W1.heap.size W1 W → W.cell? ⟨w.heap.size,0,none⟩ = some (.slice d.r n0 d.nr) ∧ W.cell? ⟨w.heap.size,1,none⟩ = some (.slice d.g n1 d.ng) ∧ W.cell? ⟨w.heap.size,2,none⟩ = some (.slice d.k n2 d.nk) ∧ W.cell? ⟨w.heap.size,3,none⟩ = some (.slice d.d n3 d.nd) ∧ W.cell? ⟨w.heap.size,4,none⟩ = some (.slice d.m n4 d.nm) ∧ W.cell? ⟨w.heap.size,5,none⟩ = some (.slice d.x n5 d.nx)):=Lib.hid (fun W hb => ⟨cell_of_block (kept_box hb q2) 0 rfl,cell_of_block (kept_box hb q2) 1 rfl,cell_of_block (kept_box hb q2) 2 rfl,cell_of_block (kept_box hb q2) 3 rfl,cell_of_block (kept_box hb q2) 4 rfl,cell_of_block (kept_box hb q2) 5 rfl⟩)
 unfold maxLen at b0 b1 b2 b3 b4 b5
 clear q2
 go_enter Tryz.func3,Tryz.ntmps3
 go_wp2_with (first
  | (go_at_call 4;rw [← hW1];refine (HAw.out _).mono ?_;rintro e w2 ⟨rfl,hb2⟩;have HB2:=Lib.hid hb2;clear hb2 hW1;obtain ⟨d0,d1,d2,d3,d4,d5⟩:=HF.out _ HB2.out)
  | (go_at_call 5;refine (HL.out _ (HB.out.chain HB2.out)).mono ?_;rintro e w3 ⟨r,rfl,p0,p1,hb3⟩;have HB3:=Lib.hid (HB2.out.chain hb3);clear hb3;obtain ⟨f0,f1,f2,f3,f4,f5⟩:=HF.out _ HB3.out))
 ·go_ret
  exact ⟨rfl,HB.out.chain HB3.out⟩
 ·clear d0 d1 d2 d3 d4 d5
  go_region_held3 (fun W => W.cell? ⟨w.heap.size,0,none⟩ = some (.slice d.r n0 d.nr) ∧ W.cell? ⟨w.heap.size,1,none⟩ = some (.slice d.g n1 d.ng) ∧ W.cell? ⟨w.heap.size,2,none⟩ = some (.slice d.k n2 d.nk) ∧ W.cell? ⟨w.heap.size,3,none⟩ = some (.slice d.d n3 d.nd) ∧ W.cell? ⟨w.heap.size,4,none⟩ = some (.slice d.m n4 d.nm) ∧ W.cell? ⟨w.heap.size,5,none⟩ = some (.slice d.x n5 d.nx))
   (first | go_keep | (trace_state;fail))
   (first
     | (go_at_call 6;refine (HT.out _ (HB.out.chain HB3.out.drew)).mono ?_;rintro e w5 ⟨rfl,hb5⟩;have HB5:=Lib.hid (HB3.out.drew.chain hb5);clear hb5;obtain ⟨g0,g1,g2,g3,g4,g5⟩:=HF.out _ HB5.out)
     | (go_at_call 7;refine (HS.out _ (HB.out.chain HB5.out)).mono ?_;rintro e w6 ⟨rfl,hb6⟩;have HB6:=Lib.hid (HB5.out.chain hb6);clear hb6;obtain ⟨i0,i1,i2,i3,i4,i5⟩:=HF.out _ HB6.out))
  all_goals go_wp2
  all_goals go_ret
  all_goals exact ⟨by simp,HB.out.chain HB6.out⟩
end Go.Proofs.YtkopbfndfkibbaaGreatDoor
