import Derived.Test.YtojjfdegkooknaaGreatDoorQTreeCf
set_option linter.unusedVariables false
set_option linter.unusedSimpArgs false
namespace Go.Proofs.YtojjfdegkooknaaGreatDoor
set_option maxRecDepth 100000
set_option maxHeartbeats 4000000
open Go.RowKit
def WA (x : At) : Prop:=WE x.a ∧ WE x.b
def WL (x : Cl) : Prop:=x.l.length * 56 ≤ 140737488355328 ∧ ∀ y ∈ x.l,WE y
def WF (x : Fm) : Prop:=x.ps.length * 32 ≤ 140737488355328 ∧ x.ats.length * 120 ≤ 140737488355328 ∧ x.cls.length * 48 ≤ 140737488355328 ∧ (∀ y ∈ x.ats,WA y) ∧ ∀ y ∈ x.cls,WL y
theorem pm_ofV {w : World} {B : Nat} {l : List Pm} {A : Option Addr} (h : RowV VPm 2 w B l A) : PmRow w B l A:=by
 cases l with
 | nil => exact .nil A
 | cons x0 l0 =>
   obtain ⟨a,cs0,rfl,hab,_⟩:=h 0 x0 rfl
   refine .row a _ hab (fun i x hi => ?_)
   obtain ⟨a',cs,ha,_,_,hc,rfl,b1,b2⟩:=h i x hi
   obtain rfl:=Option.some.inj ha
   have c0:=hc 0 _ rfl
   rw [show (a.add (i * 2)).add 0 = a.add (i * 2) by simp [Addr.add]] at c0
   exact ⟨c0,hc 1 _ rfl,b1,b2⟩
theorem at_ofV {w : World} {B : Nat} {l : List At} {A : Option Addr} (h : RowV VAt 9 w B l A) : AtRow w B l A:=by
 cases l with
 | nil => exact .nil A
 | cons x0 l0 =>
   obtain ⟨a,cs0,rfl,hab,_⟩:=h 0 x0 rfl
   refine .row a _ hab (fun i x hi => ?_)
   obtain ⟨a',cs,ha,_,_,hc,ak,an,sa,al,bk,bn,sb,bl,Aa,ca,Ab,cb,h1,h2,rfl,h3,h4,h5⟩:=h i x hi
   obtain rfl:=Option.some.inj ha
   have c0:=hc 0 _ rfl
   rw [show (a.add (i * 9)).add 0 = a.add (i * 9) by simp [Addr.add]] at c0
   exact ⟨ak,an,sa,al,bk,bn,sb,bl,Aa,ca,Ab,cb,h1,h2,⟨c0,hc 1 _ rfl,hc 2 _ rfl,hc 3 _ rfl,hc 4 _ rfl,hc 5 _ rfl,hc 6 _ rfl,hc 7 _ rfl,hc 8 _ rfl⟩,h3,h4,h5⟩
theorem cl_ofV {w : World} {B : Nat} {l : List Cl} {A : Option Addr} (h : RowV VCl 3 w B l A) : ClRow w B l A:=by
 cases l with
 | nil => exact .nil A
 | cons x0 l0 =>
   obtain ⟨a,cs0,rfl,hab,_⟩:=h 0 x0 rfl
   refine .row a _ hab (fun i x hi => ?_)
   obtain ⟨a',cs,ha,_,_,hc,A',c',rfl,b1,b2,r⟩:=h i x hi
   obtain rfl:=Option.some.inj ha
   have c0:=hc 0 _ rfl
   rw [show (a.add (i * 3)).add 0 = a.add (i * 3) by simp [Addr.add]] at c0
   exact ⟨A',c',c0,hc 1 _ rfl,hc 2 _ rfl,b1,b2,r⟩
theorem cal_ofV {w : World} {B : Nat} {l : List Cal} {A : Option Addr} (h : RowV VCal 3 w B l A) : CalRow w B l A:=by
 cases l with
 | nil => exact .nil A
 | cons x0 l0 =>
   obtain ⟨a,cs0,rfl,hab,_⟩:=h 0 x0 rfl
   refine .row a _ hab (fun i x hi => ?_)
   obtain ⟨a',cs,ha,_,_,hc,A',c',rfl,b1,b2,b3,r⟩:=h i x hi
   obtain rfl:=Option.some.inj ha
   have c0:=hc 0 _ rfl
   rw [show (a.add (i * 3)).add 0 = a.add (i * 3) by simp [Addr.add]] at c0
   exact ⟨A',c',c0,hc 1 _ rfl,hc 2 _ rfl,b1,b2,b3,r⟩
theorem fm_ofV {w : World} {B : Nat} {l : List Fm} {A : Option Addr} (h : RowV VFm 3 w B l A) : FmRow w B l A:=by
 cases l with
 | nil => exact .nil A
 | cons x0 l0 =>
   obtain ⟨a,cs0,rfl,hab,_⟩:=h 0 x0 rfl
   refine .row a _ hab (fun i x hi => ?_)
   obtain ⟨a',cs,ha,_,_,hc,d,rfl,b1,r1,r2,r3⟩:=h i x hi
   obtain rfl:=Option.some.inj ha
   have c0:=hc 0 _ rfl
   rw [show (a.add (i * 3)).add 0 = a.add (i * 3) by simp [Addr.add]] at c0
   exact ⟨d.p,d.np,d.a,d.na,d.c,d.nc,c0,hc 1 _ rfl,hc 2 _ rfl,b1,r1,r2,r3⟩
theorem pm_lens {w : World} {B : Nat} {l : List Pm} {A : Option Addr} (h : RowV VPm 2 w B l A) : ∀ x ∈ l,x.t.length ≤ maxLen ∧ x.nm.length ≤ maxLen:=by
 intro x hx
 obtain ⟨i,hi,rfl⟩:=List.getElem_of_mem hx
 obtain ⟨a,cs,_,_,_,_,_,b1,b2⟩:=h i _ (List.getElem?_eq_getElem hi)
 exact ⟨b1,b2⟩
theorem cformula_any (x : Fm) (hw : WF x) (cs : Array Value) (w : World) (hv : VFm w w.heap.size cs x) : Calls Tryz.prog 66 #[.agg cs] w (CopyV VFm 3 x w):=by
 have hone:=vfm_one hv
 obtain ⟨d,hcs,hl,rp,ra,rc⟩:=hv
 obtain ⟨T,N,zc,hT,hN,hzc,hag,hsz,hzv⟩:=hid_FormulaC
 have e1 : ∀ y : Operand,Op.load 69 y = Op.load T y:=fun y => by rw [hT]
 have e2 : ∀ y z : Operand,Op.store 69 y z = Op.store T y z:=fun y z => by rw [hT]
 have e3 : Op.alloc 69 = Op.alloc T:=by rw [hT]
 have e4 : ∀ y : Operand,Op.box 69 y = Op.box T y:=fun y => by rw [hT]
 obtain ⟨np,hnp⟩ : ∃ m,m = x.ps.length:=⟨_,rfl⟩
 obtain ⟨na,hna⟩ : ∃ m,m = x.ats.length:=⟨_,rfl⟩
 obtain ⟨nc,hnc⟩ : ∃ m,m = x.cls.length:=⟨_,rfl⟩
 rw [← hnp,← hna,← hnc] at hcs
 have HP : Hid (∀ W,Below w.heap.size w W → Calls Tryz.prog 20 #[.slice d.p np d.np] W (CopyRow VPm 2 x.ps W)):=Lib.hid (fun W hb =>
  cparams_any d.p d.np np x.ps hnp (by rw [hnp];exact hw.1) (pm_lens (pm_rowV rp)) W (pm_rowV (rp.on pm_keeps hb)))
 have HA : Hid (∀ W,Below w.heap.size w W → Calls Tryz.prog 86 #[.slice d.a na d.na,.func (.func 87) #[] #[]] W (CopyRow VAt 9 x.ats W)):=Lib.hid (fun W hb => by
  rw [hna]
  exact clist_Atom x.ats d.a d.na W (at_rowV (ra.on at_keeps hb)) hw.2.1 (fun y hy cs' W' _ hv' => catom_any y (hw.2.2.2.1 y hy).1 (hw.2.2.2.1 y hy).2 cs' W' hv'))
 have HC : Hid (∀ W,Below w.heap.size w W → Calls Tryz.prog 88 #[.slice d.c nc d.nc,.func (.func 89) #[] #[]] W (CopyRow VCl 3 x.cls W)):=Lib.hid (fun W hb => by
  rw [hnc]
  exact clist_Cell x.cls d.c d.nc W (cl_rowV (rc.on cl_keeps hb)) hw.2.2.1 (fun y hy cs' W' _ hv' => ccell_any y (hw.2.2.2.2 y hy).1 (hw.2.2.2.2 y hy).2 cs' W' hv'))
 have h3 : cs.size = 3:=by rw [hcs];rfl
 have hszc : cs.size = N:=h3.trans hN.symm
 have HH:=Lib.hid (And.intro hcs (And.intro hl (And.intro hnp (And.intro hna (And.intro hnc (And.intro hN (And.intro hzc hone)))))))
 have HB0 : Hid (Below w.heap.size w ((w.alloc (.cells cs T)).alloc (.cells zc T))):=Lib.hid ((below_alloc w _).chain (below_alloc _ _))
 have c0:=cell_of_block (heap_keep (o:=.cells zc T) (heap_of_alloc w (.cells cs T))) 0 (v:=.slice d.p np d.np) (by rw [hcs];rfl)
 clear hcs hl rp ra rc hw hnp hna hnc hN hzc hone h3
 go_enter Tryz.func66,Tryz.ntmps66
 simp only [e1,e2,e3,e4]
 clear e1 e2 e3 e4 hT
 go_wp2_with (first
  | (go_at_call 20;refine (HP.out _ HB0.out).mono ?_;rintro e w3 ⟨A1,c1,rfl,hrow,hb⟩;rw [← HH.out.2.2.1];have hbox:=kept_box hb (heap_keep (o:=.cells zc T) (heap_of_alloc w (.cells cs T)));have hres:=kept_box hb (heap_alloc2_new w (.cells cs T) (.cells zc T));obtain ⟨x0,f0⟩:=cell_free hbox 0 _ (show cs[0]? = some (.slice d.p np d.np) by rw [HH.out.1];rfl);have hbox1:=heap_setCell_at hbox 0 (Value.slice A1 np c1);have hres1:=heap_setCell_off hres (Nat.succ_ne_self _) 0 (Value.slice A1 np c1);have y1:=cell_of_block hbox1 1 (v:=.slice d.a na d.na) (by rw [HH.out.1];rfl);have HB1 : Hid (Below w.heap.size w (w3.setCell ⟨w.heap.size,0,none⟩ (Value.slice A1 np c1))):=Lib.hid ((HB0.out.chain hb).setCell (p:=⟨w.heap.size,0,none⟩) (Nat.le_refl _) (Value.slice A1 np c1));have HR1:=Lib.hid (And.intro hbox1 (And.intro hres1 (And.intro hrow hb)));clear hbox hres hrow hb hbox1 hres1 c0)
  | (go_at_call 86;refine (HA.out _ HB1.out).mono ?_;rintro e w4 ⟨A2,c2,rfl,hrow,hb⟩;rw [← HH.out.2.2.2.1];have hbox:=kept_box hb HR1.out.1;have hres:=kept_box hb HR1.out.2.1;obtain ⟨x1,f1⟩:=cell_free hbox 1 _ (show (cs.setIfInBounds 0 (Value.slice A1 np c1))[1]? = some (.slice d.a na d.na) by rw [HH.out.1];rfl);have hbox1:=heap_setCell_at hbox 1 (Value.slice A2 na c2);have hres1:=heap_setCell_off hres (Nat.succ_ne_self _) 1 (Value.slice A2 na c2);have y2:=cell_of_block hbox1 2 (v:=.slice d.c nc d.nc) (by rw [HH.out.1];rfl);have HB2 : Hid (Below w.heap.size w (w4.setCell ⟨w.heap.size,1,none⟩ (Value.slice A2 na c2))):=Lib.hid ((HB1.out.chain hb).setCell (p:=⟨w.heap.size,1,none⟩) (Nat.le_refl _) (Value.slice A2 na c2));have HR2:=Lib.hid (And.intro hbox1 (And.intro hres1 (And.intro hrow hb)));clear hbox hres hrow hb hbox1 hres1 y1)
  | (go_at_call 88;refine (HC.out _ HB2.out).mono ?_;rintro e w5 ⟨A3,c3,rfl,hrow,hb⟩;rw [← HH.out.2.2.2.2.1];have hbox:=kept_box hb HR2.out.1;have hres:=kept_box hb HR2.out.2.1;obtain ⟨x2,f2⟩:=cell_free hbox 2 _ (show ((cs.setIfInBounds 0 (Value.slice A1 np c1)).setIfInBounds 1 (Value.slice A2 na c2))[2]? = some (.slice d.c nc d.nc) by rw [HH.out.1];rfl);obtain ⟨cs2,hcs2⟩ : ∃ cs2,cs2 = ((cs.setIfInBounds 0 (Value.slice A1 np c1)).setIfInBounds 1 (Value.slice A2 na c2)).setIfInBounds 2 (Value.slice A3 nc c3):=⟨_,rfl⟩;have hbox1:=heap_setCell_at hbox 2 (Value.slice A3 nc c3);rw [← hcs2] at hbox1;have hres1:=heap_setCell_off hres (Nat.succ_ne_self _) 2 (Value.slice A3 nc c3);have hsz2 : cs2.size = N:=(by rw [hcs2,Array.size_setIfInBounds,Array.size_setIfInBounds,Array.size_setIfInBounds,hszc]);have hone2 : cs2.all (·.oneCell') = true:=(by rw [hcs2];exact all_setI (all_setI (all_setI HH.out.2.2.2.2.2.2.2 0 rfl) 1 rfl) 2 rfl);have hld:=load_list (W:=w5.setCell ⟨w.heap.size,2,none⟩ (Value.slice A3 nc c3)) (a:=⟨w.heap.size,0,none⟩) (N:=N) (cs:=cs2) (fun j v hv => by rw [add_block0];exact cell_of_block hbox1 j hv) hsz2;have hst:=store_cells (cs:=cs2) hres1 (HH.out.2.2.2.2.2.2.1.trans hsz2.symm) hone2;have HR3:=Lib.hid (And.intro hres1 (And.intro hrow (And.intro hb ((And.intro hcs2 hone2)))));clear hbox hres hrow hb hbox1 hres1 hcs2 hone2 y2))
 refine bodyPost_ret (results_cell_row rfl _ _ (w.heap.size + 1) T cs2 (0,0) _ rfl (setRow_heap _ _ zc _ _ _ HR3.out.1) Tryz.underlying69 rfl (by rw [hsz2,HH.out.2.2.2.2.2.1];kernel_rfl)) rfl ?_
 obtain ⟨hcs,hl,hnp,hna,hnc,hN,hzc,hone⟩:=HH.out
 obtain ⟨b1,r1,row1,hb1⟩:=HR1.out
 obtain ⟨b2,r2,row2,hb2⟩:=HR2.out
 obtain ⟨r3,row3,hb3,hcs2,hone2⟩:=HR3.out
 obtain ⟨wp,i1,i2⟩:=row1
 obtain ⟨wa,j1,j2⟩:=row2
 obtain ⟨wc,k1,k2⟩:=row3
 have s1 : ((w.alloc (.cells cs T)).alloc (.cells zc T)).heap.size = w.heap.size + 2:=by rw [size_of_alloc,size_of_alloc]
 have z1 : (w3.setCell ⟨w.heap.size,0,none⟩ (Value.slice A1 np c1)).heap.size = w3.heap.size:=by simp [World.setCell]
 have z2 : (w4.setCell ⟨w.heap.size,1,none⟩ (Value.slice A2 na c2)).heap.size = w4.heap.size:=by simp [World.setCell]
 have n1:=hb1.size
 have n2:=hb2.size
 rw [s1] at n1
 rw [z1] at n2
 have q3 : ∀ q : Addr,w.heap.size + 2 ≤ q.block → ((w5.setCell ⟨w.heap.size,2,none⟩ (Value.slice A3 nc c3)).setRow (w.heap.size + 1) cs2).cell? q = w5.cell? q:=fun q hq => boxes_off hq
 have q2 : ∀ q : Addr,w.heap.size + 2 ≤ q.block → q.block < w4.heap.size → ((w5.setCell ⟨w.heap.size,2,none⟩ (Value.slice A3 nc c3)).setRow (w.heap.size + 1) cs2).cell? q = w4.cell? q:=fun q hq hlt => (q3 q hq).trans ((hb3.cell (by rw [z2];exact hlt)).trans (set_otherM _ _ _ (show q.block ≠ w.heap.size by omega)))
 have q1 : ∀ q : Addr,w.heap.size + 2 ≤ q.block → q.block < w3.heap.size → ((w5.setCell ⟨w.heap.size,2,none⟩ (Value.slice A3 nc c3)).setRow (w.heap.size + 1) cs2).cell? q = w3.cell? q:=fun q hq hlt => (q2 q hq (by omega)).trans ((hb2.cell (by rw [z1];exact hlt)).trans (set_otherM _ _ _ (show q.block ≠ w.heap.size by omega)))
 refine ⟨cs2,rfl,hsz2.trans hN,hone2,⟨World.mask ((w5.setCell ⟨w.heap.size,2,none⟩ (Value.slice A3 nc c3)).setRow (w.heap.size + 1) cs2) (fun b => w.heap.size + 2 ≤ b),?_,⟨A1,A2,A3,c1,c2,c3⟩,?_,hl,(pm_ofV i2).sub pm_subs ?_,(at_ofV j2).sub at_subs ?_,(cl_ofV k2).sub cl_subs ?_⟩,?_⟩
 ·intro q v hq
  obtain ⟨m1,m2⟩:=mask_in _ _ q v hq
  have m3 : w.heap.size + 2 ≤ q.block:=m2
  exact ⟨m1,by omega⟩
 ·rw [hcs2,hcs,hnp,hna,hnc]
  rfl
 ·intro q v hq
  obtain ⟨m1,m2⟩:=i1 q v hq
  have m3 : w.heap.size + 2 ≤ q.block:=by rw [← s1];exact m2
  rw [mask_at _ _ q m3,q1 q m3 (lt_of_cell m1)]
  exact m1
 ·intro q v hq
  obtain ⟨m1,m2⟩:=j1 q v hq
  have m3 : w3.heap.size ≤ q.block:=by rw [← z1];exact m2
  rw [mask_at _ _ q (by omega),q2 q (by omega) (lt_of_cell m1)]
  exact m1
 ·intro q v hq
  obtain ⟨m1,m2⟩:=k1 q v hq
  have m3 : w4.heap.size ≤ q.block:=by rw [← z2];exact m2
  rw [mask_at _ _ q (by omega),q3 q (by omega)]
  exact m1
 ·exact below_setRow ((HB2.out.chain hb3).setCell (p:=⟨w.heap.size,2,none⟩) (Nat.le_refl _) (Value.slice A3 nc c3)) (Nat.le_succ _) cs2
end Go.Proofs.YtojjfdegkooknaaGreatDoor
namespace Go.Proofs.YtojjfdegkooknaaGreatDoor
set_option maxRecDepth 100000
set_option maxHeartbeats 4000000
open Go.RowKit
structure StaysB (B0 : Nat) (R : Nat → Array Value → World → Prop) : Prop where
 part : ∀ B v W W',R B v W → Part (fun b => B0 ≤ b ∧ b < B) W W' → R B v W'
 mono : ∀ B B' v W,R B v W → B' ≤ B → R B' v W
theorem part_rowB {W : World} {b B B0 : Nat} (cs : Array Value) (hb : b < B) (h0 : B0 ≤ b) : Part (fun k => B0 ≤ k ∧ k < B) W (W.setRow b cs):=by
 have h:=part_row (W:=W) (b:=b) (B:=b + 1) cs (Nat.lt_succ_self b)
 refine ⟨h.os,h.tape,h.output,h.size,fun k hk hn => ?_⟩
 exact setRow_other _ _ _ _ (fun e => hn ⟨by omega,by omega⟩)
theorem cs1_anyB {B0 : Nat} (R : Nat → Array Value → World → Prop) (hR : StaysB B0 R) (cs : Array Value) (h24 : cs.size = 24) (lv : Int) (p : Nat) (w : World) (hB0 : B0 ≤ w.heap.size) (hp : w.cell? ⟨p,0,none⟩ = some (.int .i64 lv)) (hpl : p < w.heap.size) (h : 1 ≤ lv) (h2 : lv ≤ 9223372036854775807)
 (hC : ∀ W,Below w.heap.size w W → Calls Tryz.prog 124 #[.agg cs,.int .i64 (lv - 1)] W fun e w' => ∃ cs' : Array Value,e = .returned (.agg cs') ∧ cs'.size = 24 ∧ cs'.all (·.oneCell') = true ∧ R W.heap.size cs' w' ∧ Below W.heap.size W w') :
 Calls Tryz.prog 123 #[.agg cs,.pointer (some ⟨p,0,none⟩)] w fun e w' => ∃ cs' : Array Value,e = .returned (.agg cs') ∧ cs'.size = 24 ∧ cs'.all (·.oneCell') = true ∧ R w.heap.size cs' w' ∧ Below w.heap.size w w':=by
 obtain ⟨T,N,zc,hT,hN,hzc,hag,hsz,hzv⟩:=stmt_hidden2
 have e1 : ∀ y : Operand,Op.load 90 y = Op.load T y:=fun y => by rw [hT]
 have e2 : ∀ y z : Operand,Op.store 90 y z = Op.store T y z:=fun y z => by rw [hT]
 have e3 : Op.alloc 90 = Op.alloc T:=by rw [hT]
 have e4 : ∀ y : Operand,Op.box 90 y = Op.box T y:=fun y => by rw [hT]
 have hszc : cs.size = N:=h24.trans hN.symm
 have hb1:=heap_of_alloc w (.cells cs T)
 have hb2:=heap_keep (o:=.cells zc T) hb1
 have hb3:=heap_alloc2_new w (.cells cs T) (.cells zc T)
 have hld:=load_new hb2 hszc
 have hld1:=load_new hb1 hszc
 have hlb:=blw (o:=.cells zc T) (blw (o:=.cells cs T) (Below.refl w.heap.size w))
 have HH:=Lib.hid (And.intro hC (And.intro hR (And.intro hN (And.intro hT (And.intro hb3 hlb)))))
 have hl1 : lv - 1 ≤ 9223372036854775807:=by omega
 have hl0 : -9223372036854775808 ≤ lv - 1:=by omega
 clear hC hR hN hb1 hb2 hb3 hlb h24
 go_enter Tryz.func123,Tryz.ntmps123
 simp only [e1,e2,e3,e4]
 clear e1 e2 e3 e4 hT
 go_wp2_with (go_at_call 124;refine (HH.out.1 _ HH.out.2.2.2.2.2).mono ?_;rintro e w3 ⟨cs2,rfl,h24',h1',hr,hb⟩;have hres:=kept_box (b:=w.heap.size + 1) (o:=.cells zc T (0,0)) hb HH.out.2.2.2.2.1;have hst:=store_cells (cs:=cs2) hres (hzc.trans (h24'.trans HH.out.2.2.1.symm).symm) h1';have hsz2 : cs2.size = N:=h24'.trans HH.out.2.2.1.symm;have HBR:=Lib.hid (And.intro hres (And.intro hr (And.intro hb (And.intro h24' h1'))));clear hres hr hb h24' h1')
 refine bodyPost_ret (results_cell_row rfl _ _ (w.heap.size + 1) T cs2 (0,0) _ rfl (setRow_heap _ _ zc _ _ _ HBR.out.1) Tryz.underlying90 rfl (by rw [hsz2,HH.out.2.2.1];kernel_rfl)) rfl ?_
 have hz2 : w.heap.size + 1 < ((w.alloc (.cells cs T)).alloc (.cells zc T)).heap.size:=(Array.getElem?_eq_some_iff.1 HH.out.2.2.2.2.1).1
 refine ⟨cs2,rfl,HBR.out.2.2.2.1,HBR.out.2.2.2.2,?_,below_setRow (HH.out.2.2.2.2.2.chain HBR.out.2.2.1) (Nat.le_succ _) cs2⟩
 refine HH.out.2.1.mono _ _ _ _ (HH.out.2.1.part _ _ _ _ HBR.out.2.1 (part_rowB cs2 hz2 (by omega))) (by omega)
theorem CpRow.nextB {B0 : Nat} {R : Nat → Nat → Array Value → World → Prop} (hR : ∀ i,StaysB B0 (R i)) {g n k : Nat} {outs : List (Array Value)} {w W W3 : World} (h : CpRow R g n k outs w W) (hk : k < n) (hgw : g = w.heap.size) (hB0 : B0 ≤ w.heap.size) {cs : Array Value} (h24 : cs.size = 24) (h1 : cs.all (·.oneCell') = true)
 (hb : Below W.heap.size W W3) (hr : R k (g + 1) cs W3) : ∃ W4,(storeCells ⟨g,k * 24,none⟩ cs.toList).run Tryz.prog W3 = .ok () W4 ∧ CpRow R g n (k + 1) (outs ++ [cs]) w W4:=by
 obtain ⟨cur,hc,hs,ht⟩:=h.row
 have hc3:=kept_box hb hc
 have hrun:=run_storeCells_at (P:=Tryz.prog) g (k * 24) 90 cs.toList 0 cur W3 hc3 (by rw [Array.length_toList,h24,hs];omega) (fun v hv => (Array.all_eq_true_iff_forall_mem.1 h1) v (by simpa using hv))
 refine ⟨_,hrun,?_⟩
 obtain ⟨l1,l2⟩:=stored_take cur.toList k n cs.toList (flatC outs) (by simpa using hs) hk (by simpa using h24) ht
 have hpart : ∀ cells : Array Value,Part (fun b => B0 ≤ b ∧ b < g + 1) W3 (W3.setRow g cells):=fun cells => part_rowB cells (Nat.lt_succ_self g) (by omega)
 refine ⟨by rw [List.length_append,h.len];rfl,fun c hm => ?_,fun c hm => ?_,⟨_,setRow_heap _ _ cur _ _ _ hc3,?_,?_⟩,fun i c hi => ?_,below_setRow (h.below.trans (hb.mono h.below.size)) (by omega) _⟩
 ·rcases List.mem_append.1 hm with hm | hm
  ·exact h.sz c hm
  ·rw [List.mem_singleton.1 hm];exact h24
 ·rcases List.mem_append.1 hm with hm | hm
  ·exact h.one c hm
  ·rw [List.mem_singleton.1 hm];exact h1
 ·rw [Array.length_toList,h24] 
  simp only [Nat.add_zero,List.size_toArray]
  exact l1
 ·rw [Array.length_toList,h24]
  simp only [Nat.add_zero]
  rw [l2]
  unfold flatC
  rw [List.flatMap_append]
  simp
 ·by_cases hik : i < outs.length
  ·rw [List.getElem?_append_left hik] at hi
   have h0:=(hR i).part _ _ _ _ (h.rel i c hi) (Part.of_below hb)
   exact (hR i).part _ _ _ _ h0 (hpart _)
  ·rw [List.getElem?_append_right (by omega)] at hi
   have hi0 : i = k:=by
    have := (List.getElem?_eq_some_iff.1 hi).1
    simp at this
    have := h.len
    omega
   subst hi0
   rw [h.len,Nat.sub_self] at hi
   obtain rfl : cs = c:=by simpa using hi
   exact (hR i).part _ _ _ _ hr (hpart _)
theorem copyList_anyB {B0 : Nat} (R : Nat → Nat → Array Value → World → Prop) (hR : ∀ i,StaysB B0 (R i)) (ins : List (Array Value)) (hin : ∀ c ∈ ins,c.size = 24) (hin1 : ∀ (i : Nat) (c : Array Value),ins[i]? = some c → c.all (·.oneCell') = true) (a : Addr) (n c p : Nat) (w : World) (hn : n * 368 ≤ 140737488355328) (hlen : ins.length = n) (hB0 : B0 ≤ w.heap.size) (ha : 0 < n → a.block < w.heap.size)
 (hrow : ∀ i cs,ins[i]? = some cs → ∀ (j : Nat) (v : Value),cs[j]? = some v → w.cell? ((a.add (i * 24)).add j) = some v)
 (hC : ∀ i cs W,ins[i]? = some cs → Below w.heap.size w W → Calls Tryz.prog 123 #[.agg cs,.pointer (some ⟨p,0,none⟩)] W fun e w' => ∃ cs' : Array Value,e = .returned (.agg cs') ∧ cs'.size = 24 ∧ cs'.all (·.oneCell') = true ∧ R i W.heap.size cs' w' ∧ Below W.heap.size W w') :
 Calls Tryz.prog 122 #[.slice (some a) n c,.func (.func 123) #[] #[.pointer (some ⟨p,0,none⟩)]] w fun e w' =>
  ∃ outs,e = .returned (.slice (some ⟨w.heap.size,0,none⟩) n n) ∧ CpRow R w.heap.size n n outs w w':=by
 obtain ⟨i0,hi,hiz,his,hib⟩:=info_parts infoStmt
 obtain ⟨T,N,zc,hT,hN,hzc,hag,hsz,hzv⟩:=stmt_hidden2
 have e1 : ∀ y : Operand,Op.load 90 y = Op.load T y:=fun y => by rw [hT]
 have e2 : ∀ y z : Operand,Op.store 90 y z = Op.store T y z:=fun y z => by rw [hT]
 have e3 : Op.alloc 90 = Op.alloc T:=by rw [hT]
 have hq:=fun w => Lib.run_eql_slice_nil (P:=Tryz.prog) w 44 _ (some a) n c 0 0 Tryz.underlying44
 have HH:=Lib.hid (And.intro hR (And.intro hin (And.intro hrow (And.intro hC (And.intro hN (And.intro hT hin1))))))
 clear hR hin hrow hC hN hin1
 go_enter Tryz.func122,Tryz.ntmps122
 simp only [e1,e2,e3]
 clear e1 e2 e3 hT
 go_wp2_with (at_make;refine wpList_make_full _ rfl _ _ 44 rfl w.heap.size 90 i0 _ 24 Tryz.underlying44 hi hiz his _ _ _ _ n rfl rfl rfl rfl ?b2 ?b3 (Nat.le_refl _) ?_)
 case b2 => first | omega | (rw [hib];omega)
 case b3 => unfold maxLen;omega
 intro w2 hown hgrow
 have hb0 : Below w.heap.size w w2:=⟨hgrow.os,hgrow.tape,hgrow.output,hgrow.size,fun k hk => hgrow.block k hk (by simp)⟩
 have HS : Hid (CpRow R w.heap.size n 0 [] w w2):=Lib.hid (by
  refine ⟨rfl,(fun c h => by cases h),(fun c h => by cases h),?_,(fun i c h => by cases h),hb0⟩
  rcases hown.2 with ⟨hv,hn0⟩ | ⟨g,cap,cur,hv,hg,hb,h1,h2,h3,h4⟩
  ·cases hv
  ·injection hv with hA hl hcap
   injection hA with hA
   injection hA with hA
   subst hA hcap
   refine ⟨cur,hb,?_,rfl⟩
   exact h3)
 clear hown hgrow hb0 hi hiz his hib
 go_wp2
 go_loopg [15] n (fun m j wr => ∃ (k : Nat) (outs : List (Array Value)),m = n - k ∧ k ≤ n ∧ j = .int .i64 k ∧ CpRow R w.heap.size n k outs w wr)
 case atStart => exact ⟨0,[],rfl,Nat.zero_le _,rfl,HS.out⟩
 case round =>
  obtain ⟨k,outs,rfl,hk,rfl,hcp⟩:=hrel
  have HCp:=Lib.hid hcp
  clear hcp
  by_cases hlt : k < n
  ·obtain ⟨cs,hcs⟩ : ∃ cs,ins[k]? = some cs:=⟨_,List.getElem?_eq_getElem (by omega)⟩
   have hszc : cs.size = N:=(HH.out.2.1 cs (List.mem_of_getElem? hcs)).trans HH.out.2.2.2.2.1.symm
   have hl1:=load_list (W:=wr) (a:=a.add (k * 24)) (N:=N) (cs:=cs) (fun j v hv => (HCp.out.below.cell (by rw [show ((a.add (k * 24)).add j).block = a.block by unfold Addr.add;split <;> split <;> rfl];exact ha (by omega))).trans (HH.out.2.2.1 k cs hcs j v hv)) hszc
   have hst:=store_fresh (w:=wr) (t:=T) (hzc.trans hszc.symm) (HH.out.2.2.2.2.2.2 k cs hcs)
   have hl2:=load_new (heap_of_alloc wr (.cells cs T)) hszc
   have hz:=size_of_alloc wr (.cells cs T)
   have HC2:=Lib.hid (HH.out.2.2.2.1 k cs (wr.alloc (.cells cs T)) hcs (HCp.out.below.trans ((below_alloc wr _).mono HCp.out.below.size)))
   have hki : (k : Int) < n:=by omega
   clear hcs
   go_wp2_with (go_at_call 123;refine HC2.out.mono ?_;rintro e w3 ⟨cs',rfl,h24',h1',hr,hb⟩;obtain ⟨w4,hw4,hcp4⟩:=HCp.out.nextB HH.out.1 hlt rfl hB0 h24' h1' ((below_alloc wr (.cells cs T)).chain hb) ((HH.out.1 k).mono _ _ _ _ hr (by have := HCp.out.below.size;have := HCp.out.row;obtain ⟨cur,hcur,_⟩:=this;have := (Array.getElem?_eq_some_iff.1 hcur).1;omega));have hsz' : cs'.size = N:=(h24'.trans HH.out.2.2.2.2.1.symm);have HC4:=Lib.hid hcp4;clear hcp4 h24' h1' hr hb)
   go_roundg (n - (k + 1))
   case measure => omega
   case rel => exact ⟨k + 1,outs ++ [cs'],rfl,by omega,by go_num,HC4.out⟩
  ·obtain rfl : k = n:=by omega
   go_wp2
   go_ret
   exact ⟨outs,rfl,HCp.out⟩
theorem copyStmts_anyB {B0 : Nat} (R : Nat → Nat → Array Value → World → Prop) (hR : ∀ i,StaysB B0 (R i)) (ins : List (Array Value)) (hin : ∀ c ∈ ins,c.size = 24) (hin1 : ∀ (i : Nat) (c : Array Value),ins[i]? = some c → c.all (·.oneCell') = true) (a : Addr) (n c : Nat) (lv : Int) (w : World) (hn : n * 368 ≤ 140737488355328) (hlen : ins.length = n) (hB0 : B0 ≤ w.heap.size) (ha : 0 < n → a.block < w.heap.size) (h : 1 ≤ lv) (h2 : lv ≤ 9223372036854775807)
 (hrow : ∀ i cs,ins[i]? = some cs → ∀ (j : Nat) (v : Value),cs[j]? = some v → w.cell? ((a.add (i * 24)).add j) = some v)
 (hC : ∀ i cs W,ins[i]? = some cs → Below w.heap.size w W → Calls Tryz.prog 124 #[.agg cs,.int .i64 (lv - 1)] W fun e w' => ∃ cs' : Array Value,e = .returned (.agg cs') ∧ cs'.size = 24 ∧ cs'.all (·.oneCell') = true ∧ R i W.heap.size cs' w' ∧ Below W.heap.size W w') :
 Calls Tryz.prog 90 #[.slice (some a) n c,.int .i64 lv] w fun e w' => ∃ g outs,e = .returned (.slice (some ⟨g,0,none⟩) n n) ∧ w.heap.size ≤ g ∧ CpRow R g n n outs w w':=by
 have hz:=size_of_alloc w (.cells #[.int .i64 lv] 3)
 have hb:=below_alloc w (.cells #[.int .i64 lv] 3)
 have hlvc:=cell_of_block (heap_of_alloc w (.cells #[.int .i64 lv] 3)) 0 (v:=.int .i64 lv) rfl
 have HL:=Lib.hid (copyList_anyB (B0:=B0) R hR ins hin hin1 a n c w.heap.size (w.alloc (.cells #[.int .i64 lv] 3)) hn hlen (by omega) (fun h0 => by have := ha h0;omega)
  (fun i cs hi j v hv => (hb.cell (by rw [show ((a.add (i * 24)).add j).block = a.block by unfold Addr.add;split <;> split <;> rfl];exact ha (Nat.lt_of_le_of_lt (Nat.zero_le i) (by rw [← hlen];exact (List.getElem?_eq_some_iff.1 hi).1)))).trans (hrow i cs hi j v hv))
  (fun i cs W hi hW => cs1_anyB (B0:=B0) (R i) (hR i) cs (hin cs (List.mem_of_getElem? hi)) lv w.heap.size W (by have := hW.size;omega) ((hW.cell (p:=⟨w.heap.size,0,none⟩) (by show w.heap.size < _;omega)).trans hlvc) (by have := hW.size;omega) h h2
    (fun W' hW' => hC i cs W' hi (hb.trans ((hW.trans (hW'.mono hW.size)).mono (by omega))))))
 have h0 : ¬ lv = 0:=by omega
 clear hR hin hin1 hrow hC hlvc
 go_enter Tryz.func90,Tryz.ntmps90
 go_wp2_with (go_at_call 122;refine HL.out.mono ?_;rintro e w3 ⟨outs,rfl,hcp⟩;have HC:=Lib.hid hcp;clear hcp)
 go_ret
 have hc:=HC.out
 rw [hz] at hc
 exact ⟨_,outs,rfl,Nat.le_succ _,⟨hc.len,hc.sz,hc.one,hc.row,hc.rel,hb.chain hc.below⟩⟩
end Go.Proofs.YtojjfdegkooknaaGreatDoor
