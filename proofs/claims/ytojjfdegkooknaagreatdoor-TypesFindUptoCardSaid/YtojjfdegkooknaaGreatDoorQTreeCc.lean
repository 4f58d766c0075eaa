import Derived.Test.YtojjfdegkooknaaGreatDoorQTreeCb
import Derived.Test.YtojjfdegkooknaaGreatDoorQTreeMo
set_option linter.unusedVariables false
set_option linter.unusedSimpArgs false
namespace Go.Proofs.YtojjfdegkooknaaGreatDoor
set_option maxRecDepth 100000
set_option maxHeartbeats 2000000
open Go.RowKit
inductive WE : Ex → Prop
 | mk (k n : Int) (s : List UInt8) (l : List Ex) (h : l.length * 56 ≤ 140737488355328) (hs : ∀ x ∈ l,WE x) : WE (.mk k n s l)
theorem ExRow.ofV {w : World} {B : Nat} {l : List Ex} {A : Option Addr} (h : RowV VEx 4 w B l A) : ExRow w B l A:=by
 cases l with
 | nil => exact .nil A
 | cons x0 l0 =>
   obtain ⟨a,cs0,rfl,hab,_⟩:=h 0 x0 rfl
   have h1 : ∀ i : Nat,∃ p : Option Addr × Nat,∀ k n s m,(x0 :: l0)[i]? = some (.mk k n s m) → (w.cell? (a.add (i * 4)) = some (.int .i64 k) ∧ w.cell? ((a.add (i * 4)).add 1) = some (.int .i64 n) ∧ w.cell? ((a.add (i * 4)).add 2) = some (.string ⟨s.toArray⟩) ∧
    w.cell? ((a.add (i * 4)).add 3) = some (.slice p.1 m.length p.2) ∧ s.length ≤ maxLen ∧ m.length ≤ maxLen) ∧ ExRow w B m p.1:=by
    intro i
    cases e : (x0 :: l0)[i]? with
    | none => exact ⟨(none,0),fun k n s m hx => by cases hx⟩
    | some x =>
      obtain ⟨a',cs,ha,_,_,hc,k,n,s,m,A',c',hx,rfl,b1,b2,r⟩:=h i x e
      obtain rfl:=Option.some.inj ha
      refine ⟨(A',c'),fun k2 n2 s2 m2 hy => ?_⟩
      rw [hx] at hy
      injection hy with hy
      injection hy with y1 y2 y3 y4
      subst y1 y2 y3 y4
      have c0:=hc 0 _ rfl
      rw [show (a.add (i * 4)).add 0 = a.add (i * 4) by simp [Addr.add]] at c0
      exact ⟨⟨c0,hc 1 _ rfl,hc 2 _ rfl,hc 3 _ rfl,b1,b2⟩,r⟩
   obtain ⟨f,hf⟩:=Classical.axiomOfChoice h1
   exact .row a _ (fun i => (f i).1) (fun i => (f i).2) hab (fun i k n s m hi => (hf i k n s m hi).1) (fun i k n s m hi => (hf i k n s m hi).2)
theorem all_setI {cs : Array Value} (h1 : cs.all (·.oneCell') = true) (i : Nat) {u : Value} (hu : u.oneCell' = true) : (cs.setIfInBounds i u).all (·.oneCell') = true:=by
 rw [Array.all_eq_true_iff_forall_mem] at h1 ⊢
 intro v hv
 rw [Array.mem_iff_getElem?] at hv
 obtain ⟨j,hj⟩:=hv
 rw [Array.getElem?_setIfInBounds] at hj
 split at hj
 ·split at hj
  ·obtain rfl:=Option.some.inj hj;exact hu
  ·cases hj
 ·exact h1 v (Array.mem_of_getElem? hj)
theorem boxes_off {w3 : World} {b i : Nat} {v : Value} {cs : Array Value} {q : Addr} (hq : b + 2 ≤ q.block) : ((w3.setCell ⟨b,i,none⟩ v).setRow (b + 1) cs).cell? q = w3.cell? q :=
 World.cell?_of_block ((setRow_other _ (b + 1) q.block cs (by omega)).trans (Below.heap_setCell w3 ⟨b,i,none⟩ v q.block (show q.block ≠ b by omega)))
theorem cexpr_any : ∀ (M : Nat) (x : Ex),SizeOf.sizeOf x < M → WE x → ∀ (cs : Array Value) (w : World),VEx w w.heap.size cs x → Calls Tryz.prog 120 #[.agg cs] w (CopyV VEx 4 x w):=by
 intro M
 induction M with
 | zero => intro x h;omega
 | succ M ih =>
   intro x hM hw cs w hv
   have hone:=vex_one hv
   obtain ⟨k,n,s,l,A,c,rfl,hcs,h3,h4,h5⟩:=hv
   have hl : l.length * 56 ≤ 140737488355328 ∧ ∀ x ∈ l,WE x:=by cases hw;exact ⟨by assumption,by assumption⟩
   obtain ⟨T,N,zc,hT,hN,hzc,hag,hsz,hzv⟩:=hid_ExprC
   have e1 : ∀ y : Operand,Op.load 84 y = Op.load T y:=fun y => by rw [hT]
   have e2 : ∀ y z : Operand,Op.store 84 y z = Op.store T y z:=fun y z => by rw [hT]
   have e3 : Op.alloc 84 = Op.alloc T:=by rw [hT]
   have e4 : ∀ y : Operand,Op.box 84 y = Op.box T y:=fun y => by rw [hT]
   have HL : Hid (∀ W,Below w.heap.size w W → Calls Tryz.prog 121 #[.slice A l.length c,.func (.func 120) #[] #[]] W (CopyRow VEx 4 l W)):=Lib.hid (fun W hb =>
    clist_Expr l A c W (h5.on hb).rowV hl.1 (fun y hy cs' W' _ hv' => ih y (by have h1:=List.sizeOf_lt_of_mem hy;simp at hM;omega) (hl.2 y hy) cs' W' hv'))
   have h24 : cs.size = 4:=by rw [hcs];rfl
   have k3 : cs[3]? = some (.slice A l.length c):=by rw [hcs];rfl
   have hszc : cs.size = N:=h24.trans hN.symm
   obtain ⟨m,hm⟩ : ∃ m,m = l.length:=⟨_,rfl⟩
   have HH:=Lib.hid (And.intro hcs (And.intro h3 (And.intro h4 (And.intro hm (And.intro hN (And.intro hzc hone))))))
   rw [← hm] at HL k3
   have HB0 : Hid (Below w.heap.size w ((w.alloc (.cells cs T)).alloc (.cells zc T))):=Lib.hid ((below_alloc w _).chain (below_alloc _ _))
   have c3:=cell_of_block (heap_keep (o:=.cells zc T) (heap_of_alloc w (.cells cs T))) 3 k3
   have K3:=Lib.hid k3
   clear hcs h3 h4 h5 hw hl hM ih hN hzc hone hm k3
   go_enter Tryz.func120,Tryz.ntmps120
   simp only [e1,e2,e3,e4]
   clear e1 e2 e3 e4 hT
   go_wp2_with (go_at_call 121;refine (HL.out _ HB0.out).mono ?_;rintro e w3 ⟨A',c',rfl,hrow,hb⟩;rw [← HH.out.2.2.2.1];have hbox:=kept_box hb (heap_keep (o:=.cells zc T) (heap_of_alloc w (.cells cs T)));have hres:=kept_box hb (heap_alloc2_new w (.cells cs T) (.cells zc T));obtain ⟨x3,f3⟩:=cell_free hbox 3 _ K3.out;obtain ⟨cs2,hcs2⟩ : ∃ cs2,cs2 = cs.setIfInBounds 3 (.slice A' m c'):=⟨_,rfl⟩;have hsz2 : cs2.size = N:=(by rw [hcs2,Array.size_setIfInBounds,hszc]);have hone2 : cs2.all (·.oneCell') = true:=(by rw [hcs2];exact all_setI HH.out.2.2.2.2.2.2 3 rfl);have hld:=load_list (W:=w3.setCell ⟨w.heap.size,3,none⟩ (.slice A' m c')) (a:=⟨w.heap.size,0,none⟩) (N:=N) (cs:=cs2) (fun j v hv => by rw [add_block0];exact cell_of_block (heap_setCell_at hbox 3 (.slice A' m c')) j (by rw [← hcs2];exact hv)) hsz2;have hres2:=heap_setCell_off hres (Nat.succ_ne_self _) 3 (.slice A' m c');have hst:=store_cells (cs:=cs2) hres2 (HH.out.2.2.2.2.2.1.trans hsz2.symm) hone2;have HBR:=Lib.hid (And.intro hres2 (And.intro hrow (And.intro hb (And.intro hcs2 hone2))));clear hbox hres hrow hb hcs2 hone2 hres2)
   refine bodyPost_ret (results_cell_row rfl _ _ (w.heap.size + 1) T cs2 (0,0) _ rfl (setRow_heap _ _ zc _ _ _ HBR.out.1) Tryz.underlying84 rfl (by rw [hsz2,HH.out.2.2.2.2.1];kernel_rfl)) rfl ?_
   obtain ⟨hres2,hrow,hb,hcs2,hone2⟩:=HBR.out
   obtain ⟨hcs,h3,h4,hm,hN,_,_⟩:=HH.out
   refine ⟨cs2,rfl,hsz2.trans hN,hone2,?_,?_⟩
   ·obtain ⟨w0,i1,i2⟩:=hrow
    refine ⟨w0,fun q v hq => ?_,k,n,s,l,A',c',rfl,by rw [hcs2,hcs,hm];rfl,h3,h4,.ofV i2⟩
    obtain ⟨j1,j2⟩:=i1 q v hq
    have j3 : w.heap.size + 2 ≤ q.block:=by simpa [size_of_alloc] using j2
    exact ⟨(boxes_off j3).trans j1,by omega⟩
   ·exact below_setRow (((HB0.out.chain hb).setCell (p:=⟨w.heap.size,3,none⟩) (Nat.le_refl _) _)) (Nat.le_succ _) _
end Go.Proofs.YtojjfdegkooknaaGreatDoor
namespace Go.Proofs.YtojjfdegkooknaaGreatDoor
set_option maxRecDepth 100000
set_option maxHeartbeats 2000000
open Go.RowKit
theorem ccell_any (x : Cl) (hl : x.l.length * 56 ≤ 140737488355328) (hw : ∀ y ∈ x.l,WE y) (cs : Array Value) (w : World) (hv : VCl w w.heap.size cs x) : Calls Tryz.prog 89 #[.agg cs] w (CopyV VCl 3 x w):=by
 have hone:=vcl_one hv
 obtain ⟨A,c,hcs,h3,h4,h5,-⟩:=hv
 obtain ⟨T,N,zc,hT,hN,hzc,hag,hsz,hzv⟩:=hid_CellC
 have e1 : ∀ y : Operand,Op.load 97 y = Op.load T y:=fun y => by rw [hT]
 have e2 : ∀ y z : Operand,Op.store 97 y z = Op.store T y z:=fun y z => by rw [hT]
 have e3 : Op.alloc 97 = Op.alloc T:=by rw [hT]
 have e4 : ∀ y : Operand,Op.box 97 y = Op.box T y:=fun y => by rw [hT]
 have HL : Hid (∀ W,Below w.heap.size w W → Calls Tryz.prog 121 #[.slice A x.l.length c,.func (.func 120) #[] #[]] W (fun e w' => ∃ (A : Option Addr) (c : Nat),e = .returned (.slice A x.l.length c) ∧ RowInC VEx 4 (fun b => W.heap.size ≤ b) w' x.l A ∧ Below W.heap.size W w' ∧ x.l.length ≤ c)):=Lib.hid (fun W hb =>
  clist_ExprC x.l A c W (h5.on hb).rowV hl (fun y hy cs' W' _ hv' => cexpr_any _ y (Nat.lt_succ_self _) (hw y hy) cs' W' hv'))
 have h24 : cs.size = 3:=by rw [hcs];rfl
 have k2 : cs[2]? = some (.slice A x.l.length c):=by rw [hcs];rfl
 have hszc : cs.size = N:=h24.trans hN.symm
 obtain ⟨m,hm⟩ : ∃ m,m = x.l.length:=⟨_,rfl⟩
 have HH:=Lib.hid (And.intro hcs (And.intro h3 (And.intro h4 (And.intro hm (And.intro hN (And.intro hzc hone))))))
 rw [← hm] at HL k2
 have HB0 : Hid (Below w.heap.size w ((w.alloc (.cells cs T)).alloc (.cells zc T))):=Lib.hid ((below_alloc w _).chain (below_alloc _ _))
 have c2:=cell_of_block (heap_keep (o:=.cells zc T) (heap_of_alloc w (.cells cs T))) 2 k2
 have K2:=Lib.hid k2
 clear hcs h3 h4 h5 hw hl hN hzc hone hm k2
 go_enter Tryz.func89,Tryz.ntmps89
 simp only [e1,e2,e3,e4]
 clear e1 e2 e3 e4 hT
 go_wp2_with (go_at_call 121;refine (HL.out _ HB0.out).mono ?_;rintro e w3 ⟨A',c',rfl,hrow,hb,hcap⟩;have HCap:=Lib.hid hcap;clear hcap;have hbox:=kept_box hb (heap_keep (o:=.cells zc T) (heap_of_alloc w (.cells cs T)));have hres:=kept_box hb (heap_alloc2_new w (.cells cs T) (.cells zc T));obtain ⟨x3,f3⟩:=cell_free hbox 2 _ K2.out;obtain ⟨cs2,hcs2⟩ : ∃ cs2,cs2 = cs.setIfInBounds 2 (.slice A' m c'):=⟨_,rfl⟩;have hsz2 : cs2.size = N:=(by rw [hcs2,Array.size_setIfInBounds,hszc]);have hone2 : cs2.all (·.oneCell') = true:=(by rw [hcs2];exact all_setI HH.out.2.2.2.2.2.2 2 rfl);have hld:=load_list (W:=w3.setCell ⟨w.heap.size,2,none⟩ (.slice A' m c')) (a:=⟨w.heap.size,0,none⟩) (N:=N) (cs:=cs2) (fun j v hv => by rw [add_block0];exact cell_of_block (heap_setCell_at hbox 2 (.slice A' m c')) j (by rw [← hcs2];exact hv)) hsz2;have hres2:=heap_setCell_off hres (Nat.succ_ne_self _) 2 (.slice A' m c');have hst:=store_cells (cs:=cs2) hres2 (HH.out.2.2.2.2.2.1.trans hsz2.symm) hone2;have HBR:=Lib.hid (And.intro hres2 (And.intro hrow (And.intro hb (And.intro hcs2 hone2))));clear hbox hres hrow hb hcs2 hone2 hres2)
 refine bodyPost_ret (results_cell_row rfl _ _ (w.heap.size + 1) T cs2 (0,0) _ rfl (setRow_heap _ _ zc _ _ _ HBR.out.1) Tryz.underlying97 rfl (by rw [hsz2,HH.out.2.2.2.2.1];kernel_rfl)) rfl ?_
 obtain ⟨hres2,hrow,hb,hcs2,hone2⟩:=HBR.out
 obtain ⟨hcs,h3,h4,hm,hN,_,_⟩:=HH.out
 refine ⟨cs2,rfl,hsz2.trans hN,hone2,?_,?_⟩
 ·obtain ⟨w0,i1,i2⟩:=hrow
  refine ⟨w0,fun q v hq => ?_,⟨A',c',by rw [hcs2,hcs,hm];rfl,h3,h4,.ofV i2,by rw [← hm];exact HCap.out⟩⟩
  obtain ⟨j1,j2⟩:=i1 q v hq
  have j3 : w.heap.size + 2 ≤ q.block:=by simpa [size_of_alloc] using j2
  exact ⟨(boxes_off j3).trans j1,by omega⟩
 ·exact below_setRow (((HB0.out.chain hb).setCell (p:=⟨w.heap.size,2,none⟩) (Nat.le_refl _) _)) (Nat.le_succ _) _
theorem ccall_any (x : Cal) (hl : x.l.length * 56 ≤ 140737488355328) (hw : ∀ y ∈ x.l,WE y) (cs : Array Value) (w : World) (hv : VCal w w.heap.size cs x) : Calls Tryz.prog 151 #[.agg cs] w (CopyV VCal 3 x w):=by
 have hone:=vcal_one hv
 obtain ⟨A,c,hcs,h3,h3b,h4,h5⟩:=hv
 obtain ⟨T,N,zc,hT,hN,hzc,hag,hsz,hzv⟩:=hid_CallC
 have e1 : ∀ y : Operand,Op.load 217 y = Op.load T y:=fun y => by rw [hT]
 have e2 : ∀ y z : Operand,Op.store 217 y z = Op.store T y z:=fun y z => by rw [hT]
 have e3 : Op.alloc 217 = Op.alloc T:=by rw [hT]
 have e4 : ∀ y : Operand,Op.box 217 y = Op.box T y:=fun y => by rw [hT]
 have HL : Hid (∀ W,Below w.heap.size w W → Calls Tryz.prog 121 #[.slice A x.l.length c,.func (.func 120) #[] #[]] W (CopyRow VEx 4 x.l W)):=Lib.hid (fun W hb =>
  clist_Expr x.l A c W (h5.on hb).rowV hl (fun y hy cs' W' _ hv' => cexpr_any _ y (Nat.lt_succ_self _) (hw y hy) cs' W' hv'))
 have h24 : cs.size = 3:=by rw [hcs];rfl
 have k2 : cs[2]? = some (.slice A x.l.length c):=by rw [hcs];rfl
 have hszc : cs.size = N:=h24.trans hN.symm
 obtain ⟨m,hm⟩ : ∃ m,m = x.l.length:=⟨_,rfl⟩
 have HH:=Lib.hid (And.intro hcs (And.intro h3 (And.intro h4 (And.intro hm (And.intro hN (And.intro hzc hone))))))
 rw [← hm] at HL k2
 have HB0 : Hid (Below w.heap.size w ((w.alloc (.cells cs T)).alloc (.cells zc T))):=Lib.hid ((below_alloc w _).chain (below_alloc _ _))
 have c2:=cell_of_block (heap_keep (o:=.cells zc T) (heap_of_alloc w (.cells cs T))) 2 k2
 have K2:=Lib.hid k2
 clear hcs h3 h4 h5 hw hl hN hzc hone hm k2
 go_enter Tryz.func151,Tryz.ntmps151
 simp only [e1,e2,e3,e4]
 clear e1 e2 e3 e4 hT
 go_wp2_with (go_at_call 121;refine (HL.out _ HB0.out).mono ?_;rintro e w3 ⟨A',c',rfl,hrow,hb⟩;rw [← HH.out.2.2.2.1];have hbox:=kept_box hb (heap_keep (o:=.cells zc T) (heap_of_alloc w (.cells cs T)));have hres:=kept_box hb (heap_alloc2_new w (.cells cs T) (.cells zc T));obtain ⟨x3,f3⟩:=cell_free hbox 2 _ K2.out;obtain ⟨cs2,hcs2⟩ : ∃ cs2,cs2 = cs.setIfInBounds 2 (.slice A' m c'):=⟨_,rfl⟩;have hsz2 : cs2.size = N:=(by rw [hcs2,Array.size_setIfInBounds,hszc]);have hone2 : cs2.all (·.oneCell') = true:=(by rw [hcs2];exact all_setI HH.out.2.2.2.2.2.2 2 rfl);have hld:=load_list (W:=w3.setCell ⟨w.heap.size,2,none⟩ (.slice A' m c')) (a:=⟨w.heap.size,0,none⟩) (N:=N) (cs:=cs2) (fun j v hv => by rw [add_block0];exact cell_of_block (heap_setCell_at hbox 2 (.slice A' m c')) j (by rw [← hcs2];exact hv)) hsz2;have hres2:=heap_setCell_off hres (Nat.succ_ne_self _) 2 (.slice A' m c');have hst:=store_cells (cs:=cs2) hres2 (HH.out.2.2.2.2.2.1.trans hsz2.symm) hone2;have HBR:=Lib.hid (And.intro hres2 (And.intro hrow (And.intro hb (And.intro hcs2 hone2))));clear hbox hres hrow hb hcs2 hone2 hres2)
 refine bodyPost_ret (results_cell_row rfl _ _ (w.heap.size + 1) T cs2 (0,0) _ rfl (setRow_heap _ _ zc _ _ _ HBR.out.1) Tryz.underlying217 rfl (by rw [hsz2,HH.out.2.2.2.2.1];kernel_rfl)) rfl ?_
 obtain ⟨hres2,hrow,hb,hcs2,hone2⟩:=HBR.out
 obtain ⟨hcs,h3,h4,hm,hN,_,_⟩:=HH.out
 refine ⟨cs2,rfl,hsz2.trans hN,hone2,?_,?_⟩
 ·obtain ⟨w0,i1,i2⟩:=hrow
  refine ⟨w0,fun q v hq => ?_,⟨A',c',by rw [hcs2,hcs,hm];rfl,h3,h3b,h4,.ofV i2⟩⟩
  obtain ⟨j1,j2⟩:=i1 q v hq
  have j3 : w.heap.size + 2 ≤ q.block:=by simpa [size_of_alloc] using j2
  exact ⟨(boxes_off j3).trans j1,by omega⟩
 ·exact below_setRow (((HB0.out.chain hb).setCell (p:=⟨w.heap.size,2,none⟩) (Nat.le_refl _) _)) (Nat.le_succ _) _
end Go.Proofs.YtojjfdegkooknaaGreatDoor
namespace Go.Proofs.YtojjfdegkooknaaGreatDoor
set_option maxRecDepth 100000
set_option maxHeartbeats 1000000
open Go.RowKit
theorem infoPmC : (Tryz.prog.info? 42).map (fun i => (i.zero,i.size,i.bytes)) = some (some (.agg #[.string ⟨#[]⟩,.string ⟨#[]⟩]),2,32):=by kernel_rfl
def pmC (x : Pm) : List Value:=[.string ⟨x.t.toArray⟩,.string ⟨x.nm.toArray⟩]
def pmL (l : List Pm) : List Value:=l.flatMap pmC
theorem pmL_len (l : List Pm) : (pmL l).length = l.length * 2:=by
 induction l with
 | nil => rfl
 | cons x l ih =>
   unfold pmL at ih ⊢
   rw [List.flatMap_cons,List.length_append,ih,List.length_cons]
   simp [pmC]
   omega
theorem pmL_get : ∀ (l : List Pm) (i j : Nat),j < 2 → (pmL l)[i * 2 + j]? = (l[i]?).bind fun x => (pmC x)[j]?
 | [],i,j,_ => by simp [pmL]
 | x :: l,i,j,hj => by
   have h2:=fun i => pmL_get l i j hj
   have h1 : (pmC x).length = 2:=rfl
   unfold pmL at h2 ⊢
   rw [List.flatMap_cons]
   match i with
   | 0 =>
     rw [List.getElem?_append_left (by omega),Nat.zero_mul,Nat.zero_add]
     simp
   | i + 1 =>
     rw [List.getElem?_append_right (by omega),h1,show (i + 1) * 2 + j - 2 = i * 2 + j from by omega,h2 i]
     rfl
theorem pmL_one (l : List Pm) : ∀ u ∈ pmL l,u.oneCell' = true:=by
 intro u hu
 unfold pmL at hu
 obtain ⟨x,_,hx⟩:=List.mem_flatMap.1 hu
 unfold pmC at hx
 simp only [List.mem_cons,List.not_mem_nil,or_false] at hx
 rcases hx with rfl | rfl <;> rfl
theorem pm_reads {w : World} {B : Nat} {l : List Pm} {A : Option Addr} (h : RowV VPm 2 w B l A) : Reads w B 2 A l.length (pmL l):=by
 refine ⟨pmL_len l,fun h0 => ?_⟩
 obtain ⟨a,cs,rfl,hab,_⟩:=h 0 l[0] (List.getElem?_eq_getElem h0)
 refine ⟨a,rfl,hab,fun p u hu => ?_⟩
 have h2:=pmL_get l (p / 2) (p % 2) (by omega)
 rw [show p / 2 * 2 + p % 2 = p from by omega,hu] at h2
 cases e : l[p / 2]? with
 | none => rw [e] at h2;cases h2
 | some x =>
   rw [e] at h2
   obtain ⟨a',cs',ha,_,_,hc,hv,_⟩:=h (p / 2) x e
   obtain rfl:=Option.some.inj ha
   have h3:=hc (p % 2) u (by rw [hv];rw [List.getElem?_toArray];exact h2.symm)
   rw [add_of_add,show p / 2 * 2 + p % 2 = p from by omega] at h3
   exact h3
theorem cparams_any (A : Option Addr) (c n : Nat) (l : List Pm) (hn : n = l.length) (hb : n * 32 ≤ 140737488355328) (hl : ∀ x ∈ l,x.t.length ≤ maxLen ∧ x.nm.length ≤ maxLen) (w : World) (hf : RowV VPm 2 w w.heap.size l A) :
 Calls Tryz.prog 20 #[.slice A n c] w (CopyRow VPm 2 l w):=by
 have hr:=pm_reads hf
 have HF:=Lib.hid (And.intro hr (And.intro hn (And.intro hb hl)))
 clear hf hn hb hr hl
 cases A with
 | none =>
   have h0 : n = 0:=by
    rcases Nat.eq_zero_or_pos n with h | h
    ·exact h
    ·obtain ⟨a,ha,_⟩:=HF.out.1.2 (by rw [← HF.out.2.1];exact h)
     cases ha
   subst h0
   have hq:=Lib.run_eql_slice_nil (P:=Tryz.prog) w 23 42 none 0 c 0 0 Tryz.underlying23
   go_enter Tryz.func20,Tryz.ntmps20
   go_wp2
   go_ret
   have h1 : l = []:=List.eq_nil_of_length_eq_zero HF.out.2.1.symm
   subst h1
   exact ⟨none,0,rfl,rowIn_nil _ _ _ _ _,Below.refl _ _⟩
 | some a =>
   obtain ⟨i0,hi,hiz,his,hib⟩:=info_parts infoPmC
   have HR:=Lib.hid (And.intro (World.ownsRow_made w #[] 0 (base:=w.heap.size) (e:=42) (size:=2) (Nat.le_refl _) (by unfold maxLen;omega) rfl) (HF.out.1.alloc (Nat.le_refl _) (.cells #[] 42)))
   have HI:=Lib.hid (And.intro hi (And.intro hiz (And.intro his hib)))
   clear hi hiz his hib
   have hq:=Lib.run_eql_slice_nil (P:=Tryz.prog) w 23 42 (some a) n c 0 0 Tryz.underlying23
   go_enter Tryz.func20,Tryz.ntmps20
   go_wp2_with (at_builtin;refine wpList_append_any _ rfl _ _ 23 rfl w.heap.size 42 i0 _ 2 32 Tryz.underlying23 HI.out.1 HI.out.2.1 HI.out.2.2.1 HI.out.2.2.2 rfl (by decide) _ 0 [] rfl HR.out.1 w.heap.size (some a) n c (pmL l) rfl (HF.out.2.1 ▸ HR.out.2) (pmL_one l) (by have := HF.out.2.2;unfold maxLen;omega) (by have := HF.out.2.2;omega) (by rw [size_of_alloc];omega) ?_;intro v' w2 hown hgrow hat;have HO:=Lib.hid (And.intro hown (And.intro hgrow hat));clear hown hgrow hat)
   go_ret
   have hb : Below w.heap.size w w2:=((below_alloc w _).trans (below_grown HR.out.1 HO.out.2.1 (by rw [size_of_alloc];omega)))
   have h1:=HO.out.1
   rw [Nat.zero_add,List.nil_append] at h1
   obtain ⟨A',c',hv⟩:=own_sliceM h1
   rw [hv] at h1
   refine ⟨A',c',by rw [hv,HF.out.2.1] <;> rfl,?_,hb⟩
   rcases h1.2 with ⟨e,h0⟩ | ⟨g,cap,cur,e,hg1,hg,g1,g2,g3,g4⟩
   ·subst h0
    have h1 : l = []:=List.eq_nil_of_length_eq_zero HF.out.2.1.symm
    subst h1
    exact rowIn_nil _ _ _ _ _
   ·injection e with e1 _ e3
    subst e1
    refine ⟨World.mask w2 (fun b => w.heap.size ≤ b),mask_in w2 _,fun i x hi => ?_⟩
    refine ⟨⟨g,0,none⟩,#[.string ⟨x.t.toArray⟩,.string ⟨x.nm.toArray⟩],rfl,?_,rfl,fun j v hj => ?_,rfl,HF.out.2.2.2 x (List.mem_of_getElem? hi)⟩
    ·have := (Array.getElem?_eq_some_iff.1 hg).1
     unfold World.mask
     simpa using this
    ·have hj2 : j < 2:=(Array.getElem?_eq_some_iff.1 hj).1
     rw [add_add_plain,add_block0,mask_at w2 _ ⟨g,_,none⟩ hg1]
     refine cell_of_block hg _ ?_
     have h5:=pmL_get l i j hj2
     rw [hi] at h5
     have h6 : (pmL l)[i * 2 + j]? = some v:=h5.trans (by rw [List.getElem?_toArray] at hj;exact hj)
     rw [← g4,List.getElem?_take] at h6
     split at h6
     ·simpa using h6
     ·cases h6
end Go.Proofs.YtojjfdegkooknaaGreatDoor
