/-
  clone.formula, at any formula.
-/
import Derived.Test.YtnkpgpmaiicdeaaGreatDoorSTreeCg
set_option linter.unusedVariables false
set_option linter.unusedSimpArgs false
namespace Go.Proofs.YtnkpgpmaiicdeaaGreatDoor
set_option maxRecDepth 100000
set_option maxHeartbeats 4000000
open Go.RowKit
def WA (x : At) : Prop:=WE x.a ∧ WE x.b
def WL (x : Cl) : Prop:=x.l.length * 56 ≤ 140737488355328 ∧ ∀ y ∈ x.l,WE y
def WF (x : Fm) : Prop:=x.ps.length * 32 ≤ 140737488355328 ∧ x.ats.length * 120 ≤ 140737488355328 ∧ x.cls.length * 48 ≤ 140737488355328 ∧ (∀ y ∈ x.ats,WA y) ∧ ∀ y ∈ x.cls,WL y
theorem pm_ofV {w : World} {B : Nat} {l : List Pm} {A : Option Addr} (h : RowV VPm 2 w B l A) : PmRow w B l A:=by
 cases l with
 | nil => exact .nil A
 | cons x0 l0 =>
   obtain ⟨a,cs0,rfl,hab,_⟩:=h 0 x0 rfl
   refine .row a _ hab (fun i x hi => ?_)
   obtain ⟨a',cs,ha,_,_,hc,rfl,b1,b2⟩:=h i x hi
   obtain rfl:=Option.some.inj ha
   have c0:=hc 0 _ rfl
   rw [show (a.add (i * 2)).add 0 = a.add (i * 2) by simp [Addr.add]] at c0
   exact ⟨c0,hc 1 _ rfl,b1,b2⟩
theorem at_ofV {w : World} {B : Nat} {l : List At} {A : Option Addr} (h : RowV VAt 9 w B l A) : AtRow w B l A:=by
 cases l with
 | nil => exact .nil A
 | cons x0 l0 =>
   obtain ⟨a,cs0,rfl,hab,_⟩:=h 0 x0 rfl
   refine .row a _ hab (fun i x hi => ?_)
   obtain ⟨a',cs,ha,_,_,hc,ak,an,sa,al,bk,bn,sb,bl,Aa,ca,Ab,cb,h1,h2,rfl,h3,h4,h5⟩:=h i x hi
   obtain rfl:=Option.some.inj ha
   have c0:=hc 0 _ rfl
   rw [show (a.add (i * 9)).add 0 = a.add (i * 9) by simp [Addr.add]] at c0
   exact ⟨ak,an,sa,al,bk,bn,sb,bl,Aa,ca,Ab,cb,h1,h2,⟨c0,hc 1 _ rfl,hc 2 _ rfl,hc 3 _ rfl,hc 4 _ rfl,hc 5 _ rfl,hc 6 _ rfl,hc 7 _ rfl,hc 8 _ rfl⟩,h3,h4,h5⟩
theorem cl_ofV {w : World} {B : Nat} {l : List Cl} {A : Option Addr} (h : RowV VCl 3 w B l A) : ClRow w B l A:=by
 cases l with
 | nil => exact .nil A
 | cons x0 l0 =>
   obtain ⟨a,cs0,rfl,hab,_⟩:=h 0 x0 rfl
   refine .row a _ hab (fun i x hi => ?_)
   obtain ⟨a',cs,ha,_,_,hc,A',c',rfl,b1,b2,r⟩:=h i x hi
   obtain rfl:=Option.some.inj ha
   have c0:=hc 0 _ rfl
   rw [show (a.add (i * 3)).add 0 = a.add (i * 3) by simp [Addr.add]] at c0
   exact ⟨A',c',c0,hc 1 _ rfl,hc 2 _ rfl,b1,b2,r⟩
theorem cal_ofV {w : World} {B : Nat} {l : List Cal} {A : Option Addr} (h : RowV VCal 3 w B l A) : CalRow w B l A:=by
 cases l with
 | nil => exact .nil A
 | cons x0 l0 =>
   obtain ⟨a,cs0,rfl,hab,_⟩:=h 0 x0 rfl
   refine .row a _ hab (fun i x hi => ?_)
   obtain ⟨a',cs,ha,_,_,hc,A',c',rfl,b1,b2,b3,r⟩:=h i x hi
   obtain rfl:=Option.some.inj ha
   have c0:=hc 0 _ rfl
   rw [show (a.add (i * 3)).add 0 = a.add (i * 3) by simp [Addr.add]] at c0
   exact ⟨A',c',c0,hc 1 _ rfl,hc 2 _ rfl,b1,b2,b3,r⟩
theorem fm_ofV {w : World} {B : Nat} {l : List Fm} {A : Option Addr} (h : RowV VFm 3 w B l A) : FmRow w B l A:=by
 cases l with
 | nil => exact .nil A
 | cons x0 l0 =>
   obtain ⟨a,cs0,rfl,hab,_⟩:=h 0 x0 rfl
   refine .row a _ hab (fun i x hi => ?_)
   obtain ⟨a',cs,ha,_,_,hc,d,rfl,b1,r1,r2,r3⟩:=h i x hi
   obtain rfl:=Option.some.inj ha
   have c0:=hc 0 _ rfl
   rw [show (a.add (i * 3)).add 0 = a.add (i * 3) by simp [Addr.add]] at c0
   exact ⟨d.p,d.np,d.a,d.na,d.c,d.nc,c0,hc 1 _ rfl,hc 2 _ rfl,b1,r1,r2,r3⟩
theorem pm_lens {w : World} {B : Nat} {l : List Pm} {A : Option Addr} (h : RowV VPm 2 w B l A) : ∀ x ∈ l,x.t.length ≤ maxLen ∧ x.nm.length ≤ maxLen:=by
 intro x hx
 obtain ⟨i,hi,rfl⟩:=List.getElem_of_mem hx
 obtain ⟨a,cs,_,_,_,_,_,b1,b2⟩:=h i _ (List.getElem?_eq_getElem hi)
 exact ⟨b1,b2⟩
theorem row_next {α : Type} {V : World → Nat → Array Value → α → Prop} {n : Nat} {S : Nat → Prop} {w w' : World} {l : List α} {A : Option Addr} (h : RowInC V n S w l A) (hk : ∀ q : Addr,S q.block → q.block < w.heap.size → w'.cell? q = w.cell? q) : RowInC V n S w' l A:=by
 obtain ⟨w0,h1,h2⟩:=h
 exact ⟨w0,fun q v hq => ⟨(hk q (h1 q v hq).2 (lt_of_cell (h1 q v hq).1)).trans (h1 q v hq).1,(h1 q v hq).2⟩,h2⟩
theorem cformula_any (x : Fm) (hw : WF x) (cs : Array Value) (w : World) (hv : VFm w w.heap.size cs x) : Calls Tryz.prog 53 #[.agg cs] w (CopyV VFm 3 x w):=by
 have hone:=vfm_one hv
 obtain ⟨d,hcs,hl,rp,ra,rc⟩:=hv
 obtain ⟨T,N,zc,hT,hN,hzc,hag,hsz,hzv⟩:=hid_FormulaC
 have e1 : ∀ y : Operand,Op.load 63 y = Op.load T y:=fun y => by rw [hT]
 have e2 : ∀ y z : Operand,Op.store 63 y z = Op.store T y z:=fun y z => by rw [hT]
 have e3 : Op.alloc 63 = Op.alloc T:=by rw [hT]
 have e4 : ∀ y : Operand,Op.box 63 y = Op.box T y:=fun y => by rw [hT]
 obtain ⟨np,hnp⟩ : ∃ m,m = x.ps.length:=⟨_,rfl⟩
 obtain ⟨na,hna⟩ : ∃ m,m = x.ats.length:=⟨_,rfl⟩
 obtain ⟨nc,hnc⟩ : ∃ m,m = x.cls.length:=⟨_,rfl⟩
 rw [← hnp,← hna,← hnc] at hcs
 have HP : Hid (∀ W,Below w.heap.size w W → Calls Tryz.prog 89 #[.slice d.p np d.np] W (CopyRow VPm 2 x.ps W)):=Lib.hid (fun W hb =>
  cparams_any d.p d.np np x.ps hnp (by rw [hnp];exact hw.1) (pm_lens (pm_rowV rp)) W (pm_rowV (rp.on pm_keeps hb)))
 have HA : Hid (∀ W,Below w.heap.size w W → Calls Tryz.prog 90 #[.slice d.a na d.na,.func (.func 91) #[] #[]] W (CopyRow VAt 9 x.ats W)):=Lib.hid (fun W hb => by
  rw [hna]
  exact clist_Atom x.ats d.a d.na W (at_rowV (ra.on at_keeps hb)) hw.2.1 (fun y hy cs' W' _ hv' => catom_any y (hw.2.2.2.1 y hy).1 (hw.2.2.2.1 y hy).2 cs' W' hv'))
 have HC : Hid (∀ W,Below w.heap.size w W → Calls Tryz.prog 92 #[.slice d.c nc d.nc,.func (.func 93) #[] #[]] W (CopyRow VCl 3 x.cls W)):=Lib.hid (fun W hb => by
  rw [hnc]
  exact clist_Cell x.cls d.c d.nc W (cl_rowV (rc.on cl_keeps hb)) hw.2.2.1 (fun y hy cs' W' _ hv' => ccell_any y (hw.2.2.2.2 y hy).1 (hw.2.2.2.2 y hy).2 cs' W' hv'))
 have h3 : cs.size = 3:=by rw [hcs];rfl
 have hszc : cs.size = N:=h3.trans hN.symm
 have HH:=Lib.hid (And.intro hcs (And.intro hl (And.intro hnp (And.intro hna (And.intro hnc (And.intro hN (And.intro hzc hone)))))))
 have HB0 : Hid (Below w.heap.size w ((w.alloc (.cells cs T)).alloc (.cells zc T))):=Lib.hid ((below_alloc w _).chain (below_alloc _ _))
 have c0:=cell_of_block (heap_keep (o:=.cells zc T) (heap_of_alloc w (.cells cs T))) 0 (v:=.slice d.p np d.np) (by rw [hcs];rfl)
 clear hcs hl rp ra rc hw hnp hna hnc hN hzc hone h3
 go_enter Tryz.func53,Tryz.ntmps53
 simp only [e1,e2,e3,e4]
 clear e1 e2 e3 e4 hT
 go_wp2_with (first
  | (go_at_call 89;refine (HP.out _ HB0.out).mono ?_;rintro e w3 ⟨A1,c1,rfl,hrow,hb⟩;rw [← HH.out.2.2.1];have hbox:=kept_box hb (heap_keep (o:=.cells zc T) (heap_of_alloc w (.cells cs T)));have hres:=kept_box hb (heap_alloc2_new w (.cells cs T) (.cells zc T));obtain ⟨x0,f0⟩:=cell_free hbox 0 _ (show cs[0]? = some (.slice d.p np d.np) by rw [HH.out.1];rfl);have hbox1:=heap_setCell_at hbox 0 (Value.slice A1 np c1);have hres1:=heap_setCell_off hres (Nat.succ_ne_self _) 0 (Value.slice A1 np c1);have y1:=cell_of_block hbox1 1 (v:=.slice d.a na d.na) (by rw [HH.out.1];rfl);have HB1 : Hid (Below w.heap.size w (w3.setCell ⟨w.heap.size,0,none⟩ (Value.slice A1 np c1))):=Lib.hid ((HB0.out.chain hb).setCell (p:=⟨w.heap.size,0,none⟩) (Nat.le_refl _) (Value.slice A1 np c1));have HR1:=Lib.hid (And.intro hbox1 (And.intro hres1 (And.intro hrow hb)));clear hbox hres hrow hb hbox1 hres1 c0)
  | (go_at_call 90;refine (HA.out _ HB1.out).mono ?_;rintro e w4 ⟨A2,c2,rfl,hrow,hb⟩;rw [← HH.out.2.2.2.1];have hbox:=kept_box hb HR1.out.1;have hres:=kept_box hb HR1.out.2.1;obtain ⟨x1,f1⟩:=cell_free hbox 1 _ (show (cs.setIfInBounds 0 (Value.slice A1 np c1))[1]? = some (.slice d.a na d.na) by rw [HH.out.1];rfl);have hbox1:=heap_setCell_at hbox 1 (Value.slice A2 na c2);have hres1:=heap_setCell_off hres (Nat.succ_ne_self _) 1 (Value.slice A2 na c2);have y2:=cell_of_block hbox1 2 (v:=.slice d.c nc d.nc) (by rw [HH.out.1];rfl);have HB2 : Hid (Below w.heap.size w (w4.setCell ⟨w.heap.size,1,none⟩ (Value.slice A2 na c2))):=Lib.hid ((HB1.out.chain hb).setCell (p:=⟨w.heap.size,1,none⟩) (Nat.le_refl _) (Value.slice A2 na c2));have HR2:=Lib.hid (And.intro hbox1 (And.intro hres1 (And.intro hrow hb)));clear hbox hres hrow hb hbox1 hres1 y1)
  | (go_at_call 92;refine (HC.out _ HB2.out).mono ?_;rintro e w5 ⟨A3,c3,rfl,hrow,hb⟩;rw [← HH.out.2.2.2.2.1];have hbox:=kept_box hb HR2.out.1;have hres:=kept_box hb HR2.out.2.1;obtain ⟨x2,f2⟩:=cell_free hbox 2 _ (show ((cs.setIfInBounds 0 (Value.slice A1 np c1)).setIfInBounds 1 (Value.slice A2 na c2))[2]? = some (.slice d.c nc d.nc) by rw [HH.out.1];rfl);obtain ⟨cs2,hcs2⟩ : ∃ cs2,cs2 = ((cs.setIfInBounds 0 (Value.slice A1 np c1)).setIfInBounds 1 (Value.slice A2 na c2)).setIfInBounds 2 (Value.slice A3 nc c3):=⟨_,rfl⟩;have hbox1:=heap_setCell_at hbox 2 (Value.slice A3 nc c3);rw [← hcs2] at hbox1;have hres1:=heap_setCell_off hres (Nat.succ_ne_self _) 2 (Value.slice A3 nc c3);have hsz2 : cs2.size = N:=(by rw [hcs2,Array.size_setIfInBounds,Array.size_setIfInBounds,Array.size_setIfInBounds,hszc]);have hone2 : cs2.all (·.oneCell') = true:=(by rw [hcs2];exact all_setI (all_setI (all_setI HH.out.2.2.2.2.2.2.2 0 rfl) 1 rfl) 2 rfl);have hld:=load_list (W:=w5.setCell ⟨w.heap.size,2,none⟩ (Value.slice A3 nc c3)) (a:=⟨w.heap.size,0,none⟩) (N:=N) (cs:=cs2) (fun j v hv => by rw [add_block0];exact cell_of_block hbox1 j hv) hsz2;have hst:=store_cells (cs:=cs2) hres1 (HH.out.2.2.2.2.2.2.1.trans hsz2.symm) hone2;have HR3:=Lib.hid (And.intro hres1 (And.intro hrow (And.intro hb ((And.intro hcs2 hone2)))));clear hbox hres hrow hb hbox1 hres1 hcs2 hone2 y2))
 refine bodyPost_ret (results_cell_row rfl _ _ (w.heap.size + 1) T cs2 (0,0) _ rfl (setRow_heap _ _ zc _ _ _ HR3.out.1) Tryz.underlying63 rfl (by rw [hsz2,HH.out.2.2.2.2.2.1];kernel_rfl)) rfl ?_
 obtain ⟨hcs,hl,hnp,hna,hnc,hN,hzc,hone⟩:=HH.out
 obtain ⟨b1,r1,row1,hb1⟩:=HR1.out
 obtain ⟨b2,r2,row2,hb2⟩:=HR2.out
 obtain ⟨r3,row3,hb3,hcs2,hone2⟩:=HR3.out
 obtain ⟨wp,i1,i2⟩:=row1
 obtain ⟨wa,j1,j2⟩:=row2
 obtain ⟨wc,k1,k2⟩:=row3
 have s1 : ((w.alloc (.cells cs T)).alloc (.cells zc T)).heap.size = w.heap.size + 2:=by rw [size_of_alloc,size_of_alloc]
 have z1 : (w3.setCell ⟨w.heap.size,0,none⟩ (Value.slice A1 np c1)).heap.size = w3.heap.size:=by simp [World.setCell]
 have z2 : (w4.setCell ⟨w.heap.size,1,none⟩ (Value.slice A2 na c2)).heap.size = w4.heap.size:=by simp [World.setCell]
 have n1:=hb1.size
 have n2:=hb2.size
 rw [s1] at n1
 rw [z1] at n2
 have q3 : ∀ q : Addr,w.heap.size + 2 ≤ q.block → ((w5.setCell ⟨w.heap.size,2,none⟩ (Value.slice A3 nc c3)).setRow (w.heap.size + 1) cs2).cell? q = w5.cell? q:=fun q hq => boxes_off hq
 have q2 : ∀ q : Addr,w.heap.size + 2 ≤ q.block → q.block < w4.heap.size → ((w5.setCell ⟨w.heap.size,2,none⟩ (Value.slice A3 nc c3)).setRow (w.heap.size + 1) cs2).cell? q = w4.cell? q:=fun q hq hlt => (q3 q hq).trans ((hb3.cell (by rw [z2];exact hlt)).trans (set_otherM _ _ _ (show q.block ≠ w.heap.size by omega)))
 have q1 : ∀ q : Addr,w.heap.size + 2 ≤ q.block → q.block < w3.heap.size → ((w5.setCell ⟨w.heap.size,2,none⟩ (Value.slice A3 nc c3)).setRow (w.heap.size + 1) cs2).cell? q = w3.cell? q:=fun q hq hlt => (q2 q hq (by omega)).trans ((hb2.cell (by rw [z1];exact hlt)).trans (set_otherM _ _ _ (show q.block ≠ w.heap.size by omega)))
 refine ⟨cs2,rfl,hsz2.trans hN,hone2,⟨World.mask ((w5.setCell ⟨w.heap.size,2,none⟩ (Value.slice A3 nc c3)).setRow (w.heap.size + 1) cs2) (fun b => w.heap.size + 2 ≤ b),?_,⟨A1,A2,A3,c1,c2,c3⟩,?_,hl,(pm_ofV i2).sub pm_subs ?_,(at_ofV j2).sub at_subs ?_,(cl_ofV k2).sub cl_subs ?_⟩,?_⟩
 ·intro q v hq
  obtain ⟨m1,m2⟩:=mask_in _ _ q v hq
  have m3 : w.heap.size + 2 ≤ q.block:=m2
  exact ⟨m1,by omega⟩
 ·rw [hcs2,hcs,hnp,hna,hnc]
  rfl
 ·intro q v hq
  obtain ⟨m1,m2⟩:=i1 q v hq
  have m3 : w.heap.size + 2 ≤ q.block:=by rw [← s1];exact m2
  rw [mask_at _ _ q m3,q1 q m3 (lt_of_cell m1)]
  exact m1
 ·intro q v hq
  obtain ⟨m1,m2⟩:=j1 q v hq
  have m3 : w3.heap.size ≤ q.block:=by rw [← z1];exact m2
  rw [mask_at _ _ q (by omega),q2 q (by omega) (lt_of_cell m1)]
  exact m1
 ·intro q v hq
  obtain ⟨m1,m2⟩:=k1 q v hq
  have m3 : w4.heap.size ≤ q.block:=by rw [← z2];exact m2
  rw [mask_at _ _ q (by omega),q3 q (by omega)]
  exact m1
 ·exact below_setRow ((HB2.out.chain hb3).setCell (p:=⟨w.heap.size,2,none⟩) (Nat.le_refl _) (Value.slice A3 nc c3)) (Nat.le_succ _) cs2
end Go.Proofs.YtnkpgpmaiicdeaaGreatDoor
