/-
  tree.Size: rows of statements in the order of their text; the sum of their numbers.
-/
import Derived.Test.YtnkpgpmaiicdeaaGreatDoorSTreeMo
set_option linter.unusedVariables false
set_option linter.unusedSimpArgs false
namespace Go.Proofs.YtnkpgpmaiicdeaaGreatDoor
set_option maxRecDepth 100000
set_option maxHeartbeats 8000000
open Go.RowKit
theorem StRow.tail {w : World} {B : Nat} {s : St} {l : List St} {a : Addr} (h : StRow w B (s :: l) (some a)) : StRow w B l (some (a.add 24)):=by
 cases h with
 | row a ss D hb cells s1 s2 =>
   refine .row _ _ (fun i => D (i + 1)) (by rw [block_adds];exact hb) (fun i x hi => ⟨fun j v hv => ?_,(cells (i + 1) x hi).2⟩) (fun i x hi => s1 (i + 1) x hi) (fun i x hi => s2 (i + 1) x hi)
   have h1:=(cells (i + 1) x hi).1 j v hv
   rw [add_of_add,add_of_add,show 24 + (i * 24 + j) = (i + 1) * 24 + j from by omega,← add_of_add]
   exact h1
theorem ord_of {w : World} {B : Nat} (hB : B ≤ w.heap.size) : ∀ (M : Nat) (l : List St),SizeOf.sizeOf l < M → ∀ (f : List St) (A : Option Addr),StRow w B l A → FlL l f → l.length ≤ maxLen →
 ∃ ls : List (Array Value),Ord w (fun b => b < B) A l.length ls ∧ ls.length = f.length:=by
 intro M
 induction M with
 | zero => intro l h;omega
 | succ M ih =>
   intro l hM f A hr hf hl
   match l with
   | [] => cases hf;exact ⟨[],.nil A,rfl⟩
   | s :: l =>
     obtain ⟨a,d,rfl,hab,hc,hown,hb1,hb2⟩:=hr.at_ (i:=0) rfl
     cases hf with
     | cons _ _ fb fo fl h1 h2 h3 =>
       have hsz : SizeOf.sizeOf s.body < M ∧ SizeOf.sizeOf s.els < M ∧ SizeOf.sizeOf l < M:=by
        obtain ⟨k0,ln,co,nm,fd,fr,e,cn,cl,iv,b,t⟩:=s
        simp only [St.body,St.els]
        simp at hM
        omega
       have hlen : s.body.length ≤ maxLen ∧ s.els.length ≤ maxLen:=by
        obtain ⟨k0,ln,co,nm,fd,fr,⟨ek,en,es,el⟩,⟨ck,⟨ak,an,sa,al⟩,⟨bk,bn,sb,bl⟩,ll⟩,cl,iv,b,t⟩:=s
        exact ⟨hown.1.2.2.2.2.2.2.2.2.2.2.2.2.1,hown.1.2.2.2.2.2.2.2.2.2.2.2.2.2⟩
       obtain ⟨l1,o1,e1⟩:=ih s.body hsz.1 fb d.s hb1 h1 hlen.1
       obtain ⟨l2,o2,e2⟩:=ih s.els hsz.2.1 fo d.t hb2 h2 hlen.2
       obtain ⟨l3,o3,e3⟩:=ih l hsz.2.2 fl _ hr.tail h3 (by simp at hl;omega)
       refine ⟨_,.cons a l.length (stCs d s) d.s d.t s.body.length s.els.length d.ns d.nt l1 l2 l3 hab (Nat.lt_of_lt_of_le hab hB) (stCs_size d s) ?_ hlen.1 hlen.2 (fun j v hv => ?_) (stCs_22 d s) (stCs_23 d s) o1 o2 o3,?_⟩
       ·rw [Array.all_eq_true_iff_forall_mem]
        exact fun u hu => stCs_oneM d s u (by simpa using hu)
       ·have h4:=hc j v hv
        rw [Nat.zero_mul,show a.add 0 = a by simp [Addr.add]] at h4
        exact h4
       ·simp only [List.length_cons,List.length_append]
        omega
def mark (D : Nat) : Deferred:={ target:=.collected D,args:=#[] }
theorem leaves_marks {F : Fence} {n : Nat} {P : Program} {fn : Func} {tmps : Array Value} {R : Ending → World → Prop} (K : World → Prop) (L : Nat) (hK : ∀ w D,L ≤ D → K w → K (w.putObj D (.deferred none))) (hend : ∀ w,K w → LeavesInM F n P fn tmps R [] .returning w) :
 ∀ (ds : List Nat) (w : World),ds.Nodup → (∀ D ∈ ds,L ≤ D ∧ w.heap[D]? = some (.deferred (some []))) → K w → LeavesInM F n P fn tmps R (ds.map mark) .returning w
 | [],w,_,_,hk => hend w hk
 | D :: ds,w,hnd,hd,hk => by
   obtain ⟨h1,h2⟩:=hd D (List.mem_cons_self ..)
   refine ⟨by simp,.inl ⟨D,_,rfl,run_takeDeferred h2,?_⟩⟩
   refine leaves_marks K L hK hend ds _ (List.nodup_cons.1 hnd).2 (fun D' hD' => ?_) (hK _ _ h1 hk)
   obtain ⟨h3,h4⟩:=hd D' (List.mem_cons_of_mem _ hD')
   exact ⟨h3,(World.putObj_heap_other (fun e => (List.nodup_cons.1 hnd).1 (by first | exact e ▸ hD' | (rw [← e];exact hD') | (rw [e];exact hD')))).trans h4⟩
attribute [local go_sem] Oper.semAt_some
structure SzSt (bn : Nat) (s0 : Nat) (W0 : World) (Pv : Nat → Prop) (pre : List (Array Value)) (W : World) : Prop where
 cell : W.heap[bn]? = some (.cells #[.int .i64 ((s0 + pre.length : Nat) : Int)] 3 (0,0))
 off : ∀ b,Pv b → W0.heap.size ≤ b
 size : W0.heap.size ≤ W.heap.size
 keep : ∀ b,b < W0.heap.size → b ≠ bn → W.heap[b]? = W0.heap[b]?
 os : W.os = W0.os
 tape : W.tape = W0.tape
 output : W.output = W0.output
theorem SzSt.abid {bn s0 : Nat} {W0 : World} (hN : bn < W0.heap.size) : Abid (SzSt bn s0 W0):=by
 intro Pv Pv' s W W' h hp hn hl
 have hno : ∀ b,b < W0.heap.size → ¬ Pv b:=fun b hb hp => by have := h.off b hp;omega
 refine ⟨(hp.block bn (Nat.lt_of_lt_of_le hN h.size) (hno bn hN)).trans h.cell,fun b hb => ?_,Nat.le_trans h.size hp.size,fun b hb hne => (hp.block b (Nat.lt_of_lt_of_le hb h.size) (hno b hb)).trans (h.keep b hb hne),hp.os.trans h.os,hp.tape.trans h.tape,hp.output.trans h.output⟩
 rcases hn b hb with hb | hb
 ·exact h.off b hb
 ·exact Nat.le_trans h.size hb
def SzInv (w : World) (bn : Nat) (s : Nat) (ds : List Nat) (W : World) : Prop :=
 W.heap[bn]? = some (.cells #[.int .i64 (s : Int)] 3 (0,0)) ∧ (∀ b,b < w.heap.size → W.heap[b]? = w.heap[b]?) ∧ w.heap.size ≤ W.heap.size ∧ W.os = w.os ∧ W.tape = w.tape ∧ W.output = w.output ∧ ds.Nodup ∧ (∀ D ∈ ds,bn < D ∧ D < W.heap.size ∧ W.heap[D]? = some (.deferred (some [])))
theorem sum_take_succ {α : Type} : ∀ (l : List α) (g : α → Nat) (k : Nat) (x : α),l[k]? = some x → ((l.take (k + 1)).map g).sum = ((l.take k).map g).sum + g x
 | a :: l,g,0,x,h => by
   obtain rfl : a = x:=Option.some.inj h
   simp
 | a :: l,g,k + 1,x,h => by
   have ih:=sum_take_succ l g k x h
   rw [List.take_succ_cons,List.take_succ_cons,List.map_cons,List.map_cons,List.sum_cons,List.sum_cons,ih]
   omega
 | [],_,_,_,h => by simp at h
theorem sum_take_le {α : Type} : ∀ (l : List α) (g : α → Nat) (k : Nat) (x : α),l[k]? = some x → ((l.take k).map g).sum + g x ≤ (l.map g).sum
 | a :: l,g,0,x,h => by
   obtain rfl : a = x:=Option.some.inj h
   simp
 | a :: l,g,k + 1,x,h => by
   have ih:=sum_take_le l g k x h
   rw [List.take_succ_cons,List.map_cons,List.map_cons,List.sum_cons,List.sum_cons]
   omega
 | [],_,_,_,h => by simp at h
theorem size_any (p : Pg) (d : GAd) (F : Pr → List St) (hF : ∀ x ∈ p.xs,FlL x.bd (F x)) (N : Nat) (hN : N = (p.xs.map fun x => (F x).length).sum) (hb : N ≤ 1000000) (w : World) (hp : PgOwn w w.heap.size d p) :
 Calls Tryz.prog 10 #[progV d p] w fun e w' => e = .returned (.int .i64 N) ∧ Below w.heap.size w w':=by
 obtain ⟨T2,N2,zc,hT2,hN2,hzc,hag2,hsz2,hzv2⟩:=hid_ProcM
 have f1 : ∀ y : Operand,Op.load 46 y = Op.load T2 y:=fun y => by rw [hT2]
 have f2 : ∀ y z : Operand,Op.store 46 y z = Op.store T2 y z:=fun y z => by rw [hT2]
 have f3 : Op.alloc 46 = Op.alloc T2:=by rw [hT2]
 have HN2:=Lib.hid (And.intro hN2 hzc)
 obtain ⟨dr,dg,dk,dd,dm,dx,er,eg,ek,ed,em,ex⟩:=d
 obtain ⟨⟨m1,m2,m3,m4,m5,m6⟩,r1,r2,r3,r4,r5,r6⟩:=hp
 simp only at r6
 obtain ⟨np,hnp⟩ : ∃ n,n = p.xs.length:=⟨_,rfl⟩
 have HP:=Lib.hid (And.intro r6 (And.intro hnp (And.intro hF (And.intro hN hb))))
 rw [← hnp] at m6
 show Calls Tryz.prog 10 #[.agg #[.slice dr p.rs.length er,.slice dg p.gs.length eg,.slice dk p.ks.length ek,.slice dd p.ds.length ed,.slice dm p.ms.length em,.slice dx p.xs.length ex]] w _
 rw [← hnp]
 clear r1 r2 r3 r4 r5 r6 hnp hF hN hb hN2 hzc m1 m2 m3 m4 m5
 generalize p.rs.length = n0
 generalize p.gs.length = n1
 generalize p.ks.length = n2
 generalize p.ds.length = n3
 generalize p.ms.length = n4
 unfold maxLen at m6
 refine (callsIn_wide (n:=20)).1 ?_
 refine callsIn_of_wp_marks Tryz.func10 rfl trivial ?_ rfl
 simp only [Tryz.ntmps10,List.size_toArray,List.length_cons,List.length_nil,Nat.reduceAdd,Nat.reduceSub,Array.replicate_succ,Array.replicate_zero,List.push_toArray,List.append_toArray,List.nil_append,List.cons_append,f1,f2,f3]
 clear f1 f2 f3 hT2
 gi_wp2
 obtain ⟨cp,hcp⟩ : ∃ cp : Array Value,cp = #[.slice dr n0 er,.slice dg n1 eg,.slice dk n2 ek,.slice dd n3 ed,.slice dm n4 em,.slice dx np ex]:=⟨_,rfl⟩
 obtain ⟨W0,hW0⟩ : ∃ W0,W0 = (w.alloc (.cells cp 53)).alloc (.cells #[.int .i64 0] 3):=⟨_,rfl⟩
 have h00:=heap_of_alloc (w.alloc (.cells cp 53)) (.cells #[.int .i64 0] 3)
 rw [size_of_alloc,← hW0] at h00
 have hb00 : Below w.heap.size w W0:=by rw [hW0];exact (below_alloc w _).chain (below_alloc _ _)
 have hz00 : W0.heap.size = w.heap.size + 2:=by rw [hW0];simp only [size_of_alloc]
 have H0 : Hid (SzInv w (w.heap.size + 1) 0 [] W0):=Lib.hid ⟨h00,fun b hb => hb00.block b hb,hb00.size,hb00.os,hb00.tape,hb00.output,List.nodup_nil,fun D hD => by cases hD⟩
 rw [← hcp,← hW0]
 have HCP:=Lib.hid hcp
 obtain ⟨B,hB⟩ : ∃ B,B = w.heap.size:=⟨_,rfl⟩
 have HBW:=Lib.hid hB
 rw [← hB] at H0 ⊢
 clear h00 hb00 hz00 hW0 hcp hB
 refine wpIn_loop (fun a W => ∃ (k : Nat) (ds : List Nat) (x5 x10 x11 x12 x13 x14 x15 x16 x17 x18 x19 : Value),k ≤ np ∧ a = { tmps:=#[.agg cp,.pointer (some ⟨B,0,none⟩),.int .i64 0,.pointer (some ⟨B + 1,0,none⟩),undef,x5,.pointer (some ⟨B,5,none⟩),.slice dx np ex,.int .i64 np,.int .i64 k,x10,x11,x12,x13,x14,x15,x16,x17,x18,x19,undef],defers:=ds.map mark } ∧ Hid (SzInv w (B + 1) ((p.xs.take k).map fun x => (F x).length).sum ds W)) (fun a _ => np - (intOf (a.tmps.getD 9 undef)).toNat) ⟨0,[],_,_,_,_,_,_,_,_,_,_,_,Nat.zero_le _,rfl,by rw [List.take_zero];exact H0⟩ ?_
 clear H0
 have g32 : Fence.wide.fn 29:=trivial
 rintro a W ⟨k,ds,x5,x10,x11,x12,x13,x14,x15,x16,x17,x18,x19,hk,rfl,HI⟩
 by_cases hlt : k < np
 ·have hki : (k : Int) < np:=by omega
  obtain ⟨x,hx⟩ : ∃ x,p.xs[k]? = some x:=⟨p.xs[k]'(by rw [← HP.out.2.1];exact hlt),List.getElem?_eq_getElem _⟩
  have hbl : ∀ b,b < w.heap.size → W.heap[b]? = w.heap[b]?:=HI.out.2.1
  obtain ⟨a,rfl,hab,d1,hca,own1⟩:=HP.out.1.at_ hx
  obtain ⟨cs,hcs⟩ : ∃ cs,cs = prCs d1 x:=⟨_,rfl⟩
  rw [← hcs] at hca
  have h12 : cs.size = 12:=by rw [hcs];rfl
  have h1c : cs.all (·.oneCell') = true:=by rw [hcs];unfold prCs;rw [List.all_toArray];rfl
  obtain ⟨nb,hnb⟩ : ∃ nb,nb = x.bd.length:=⟨_,rfl⟩
  have k11 : cs[11]? = some (.slice d1.b nb d1.nb):=by rw [hcs,hnb];rfl
  have hl1 : (loadCellsFrom (a.add (k * 12)) 0 N2 #[]).run Tryz.prog W = .ok cs W:=load_list (fun j v hv => (World.cell?_of_block (w:=w) (hbl _ (by rw [block_adds,block_adds];exact hab))).trans (hca j v hv)) (h12.trans HN2.out.1.symm)
  have hst : (storeCells ⟨W.heap.size,0,none⟩ cs.toList).run Tryz.prog (W.alloc (.cells zc T2)) = .ok () (W.alloc (.cells cs T2)):=by
   have h:=store_row (heap_of_alloc W (.cells zc T2)) (HN2.out.2.trans (HN2.out.1.trans h12.symm)) h1c
   rw [World.setRow_alloc_new] at h
   exact h
  have hszc : cs.size = N2:=h12.trans HN2.out.1.symm
  have c11:=cell_of_block (heap_of_alloc W (.cells cs T2)) 11 k11
  obtain ⟨ls,ho,hlen⟩:=ord_of (w:=w) (Nat.le_refl _) _ x.bd (Nat.lt_succ_self _) (F x) d1.b own1.2.2.2.2.2.2 (HP.out.2.2.1 x (List.mem_of_getElem? hx)) own1.1.2.2.2.2.2.2.2.2
  rw [← hnb] at ho
  have hnm : nb ≤ maxLen:=by rw [hnb];exact own1.1.2.2.2.2.2.2.2.2
  have HO:=Lib.hid (And.intro ho (And.intro hlen (And.intro hnm (And.intro hx hlt))))
  clear hca own1 hx hcs h12 h1c k11 ho hlen hnm hbl hnb hab
  gi_wp2_with (first
   | (gi_at_call 29;refine (inOrder_in Fence.wide _ trivial rfl _ _ _ _).mono ?_;rintro e W3 ⟨rfl,rfl⟩))
  obtain ⟨bi,hbi⟩ : ∃ bi,bi = W.heap.size + 1:=⟨_,rfl⟩
  obtain ⟨W3,hW3⟩ : ∃ W3,W3 = (W.alloc (.cells cs T2)).alloc (.cells #[.slice d1.b nb d1.nb] 22):=⟨_,rfl⟩
  have hb3 : Below W.heap.size W W3:=by rw [hW3];exact (below_alloc W _).chain (below_alloc _ _)
  have hz3 : W3.heap.size = W.heap.size + 2:=by rw [hW3];simp only [size_of_alloc]
  have hi3 : W3.heap[bi]? = some (.cells #[.slice d1.b nb d1.nb] 22 (0,0)):=by
   rw [hW3,hbi]
   have h:=heap_of_alloc (W.alloc (.cells cs T2)) (.cells #[.slice d1.b nb d1.nb] 22)
   rw [size_of_alloc] at h
   exact h
  rw [← hW3,← hbi]
  have hbn : B + 1 < W.heap.size:=(Array.getElem?_eq_some_iff.1 HI.out.1).1
  obtain ⟨s0,hs0⟩ : ∃ s0,s0 = ((p.xs.take k).map fun x => (F x).length).sum:=⟨_,rfl⟩
  have hcell : W3.heap[B + 1]? = some (.cells #[.int .i64 (s0 : Int)] 3 (0,0)):=(hb3.block _ hbn).trans (by rw [hs0];exact HI.out.1)
  have hord : Ord W3 (fun b => b < w.heap.size) d1.b nb ls:=HO.out.1.keep (fun b hb => (hb3.block b (Nat.lt_of_lt_of_le hb HI.out.2.2.1)).trans (HI.out.2.1 b hb)) (fun b hb => Nat.lt_of_lt_of_le hb (Nat.le_trans HI.out.2.2.1 hb3.size))
  have hws : w.heap.size ≤ W3.heap.size:=Nat.le_trans HI.out.2.2.1 hb3.size
  have hsum : s0 + ls.length ≤ 1000000:=by
   rw [hs0,HO.out.2.1]
   exact Nat.le_trans (sum_take_le p.xs (fun x => (F x).length) k x HO.out.2.2.2.1) (by rw [← HP.out.2.2.2.1];exact HP.out.2.2.2.2)
  have HW3:=Lib.hid (And.intro hb3 (And.intro hz3 (And.intro hbn (And.intro hs0 (And.intro hsum hbi)))))
  clear hl1 hst hszc c11 hW3
  refine wpIn_rangeFunc_pv (F:=Fence.wide) rfl (by omega) (gf:=46) (lb:=#[.pointer (some ⟨bi,0,none⟩)]) rfl trivial (enters_of Tryz.func46 (by kernel_rfl) rfl)
   (inOrder_seq Fence.wide (20 - 1) rfl trivial trivial rfl bi nb d1.nb d1.b ls (fun b => b < w.heap.size) W3 (cell_of_block hi3 0 rfl) (by omega) hord (fun b hb => Nat.lt_of_lt_of_le hb hws) HO.out.2.2.1)
   (Below.refl _ _) (fun _ => rfl) (SzSt (B + 1) s0 W3) (fun _ _ _ _ => False) (SzSt.abid (by omega)) (fun _ _ _ _ _ _ h => h.elim) ⟨by simpa using hcell,fun _ h => h.elim,Nat.le_refl _,fun _ _ _ => rfl,rfl,rfl,rfl⟩ ?round (fun b hb => Nat.lt_of_lt_of_le hb hws) (fun _ _ _ h _ => h) (fun _ _ _ h _ => h) ?done (fun _ _ _ _ _ h => h.elim)
  case round =>
   intro Pv pre x1 W1 r hlt1 hge hD hL hr hJ hy
   clear hz3 hb3 hi3 hbn hcell hord hws hsum
   have hpl : pre.length < ls.length:=by
    obtain ⟨t,ht⟩:=hy
    rw [← ht]
    simp
   gi_wp2
   refine ⟨Part.refl _ _,fun r' => ?_⟩
   obtain ⟨Wb,hWb⟩ : ∃ Wb,Wb = W1.putObj (W3.heap.size + 1) (.loop r'):=⟨_,rfl⟩
   have hpb : Part Pv W1 Wb:=by rw [hWb];exact Part.putObj _ _ hL
   have hJb : SzSt (B + 1) s0 W3 Pv pre Wb:=SzSt.abid (by have := HW3.out;omega) Pv Pv pre W1 Wb hJ hpb (fun b hb => Or.inl hb) (fun b hb => by rw [hWb];simpa using hlt1 b hb)
   rw [← hWb]
   have cN:=cell_of_block hJb.cell 0 (v:=.int .i64 ((s0 + pre.length : Nat) : Int)) rfl
   have fN:=frozen_at hJb.cell 0
   have HX:=Lib.hid (And.intro hJb (And.intro hlt1 (And.intro hge hpl)))
   have hsm : ((s0 + pre.length : Nat) : Int) ≤ 1000000:=by have := HW3.out.2.2.2.2.1;omega
   generalize hq : ((s0 + pre.length : Nat) : Int) = sq at cN hsm
   have hsq : 0 ≤ sq:=by omega
   have HQ:=Lib.hid hq
   clear hJb hlt1 hge hpl hpb hJ hy hr hWb hL hD hq
   gi_wp2
   refine ⟨fun b hb hk => ?_,?_,?_⟩
   ·refine Below.heap_setCell Wb ⟨B + 1,0,none⟩ _ b ?_
    show b ≠ B + 1
    have := HW3.out
    have hB:=HBW.out
    rcases hk with hk | hk
    ·have := HX.out.2.2.1 b hk;omega
    ·omega
   ·simp [World.setCell]
   ·have hJb:=HX.out.1
    refine ⟨?_,hJb.off,by simpa [World.setCell] using hJb.size,fun b hb hne => (Below.heap_setCell Wb ⟨B + 1,0,none⟩ _ b hne).trans (hJb.keep b hb hne),hJb.os,hJb.tape,hJb.output⟩
    have h:=heap_setCell_at hJb.cell 0 (.int .i64 (sq + 1))
    rw [List.length_append,show ((s0 + (pre.length + [x1].length) : Nat) : Int) = sq + 1 from by rw [← HQ.out];simp;omega]
    exact h
  case done =>
   intro Pv xs W1 hS hJ hD hL hlt1 hdef
   clear hz3 hb3 hi3 hbn hcell hord hws hsum
   have hS' : xs = ls:=hS
   subst hS'
   have HX:=Lib.hid (And.intro hJ (And.intro hlt1 hdef))
   clear hS hJ hD hL hlt1 hdef
   gi_wp2
   obtain ⟨hJ,hlt1,hdef⟩:=HX.out
   have hw3:=HW3.out
   have hi:=HI.out
   have hB:=HBW.out
   refine ⟨⟨k + 1,W3.heap.size :: ds,_,_,_,_,_,_,_,_,_,_,_,hlt,(by first | rfl | (simp;first | done | omega)),Lib.hid ⟨?_,fun b hb => ?_,?_,hJ.os.trans (hw3.1.os.trans hi.2.2.2.1),hJ.tape.trans (hw3.1.tape.trans hi.2.2.2.2.1),hJ.output.trans (hw3.1.output.trans hi.2.2.2.2.2.1),?_,fun D hDD => ?_⟩⟩,?_⟩
   ·rw [sum_take_succ p.xs (fun x => (F x).length) k x HO.out.2.2.2.1,← hw3.2.2.2.1,← HO.out.2.1]
    exact hJ.cell
   ·exact (hJ.keep b (by omega) (by omega)).trans ((hw3.1.block b (by omega)).trans (hi.2.1 b hb))
   ·have := hJ.size;omega
   ·refine List.nodup_cons.2 ⟨fun hmem => ?_,hi.2.2.2.2.2.2.1⟩
    have := (hi.2.2.2.2.2.2.2 _ hmem).2.1
    omega
   ·rcases List.mem_cons.1 hDD with rfl | hDD
    ·exact ⟨by omega,(Array.getElem?_eq_some_iff.1 hdef).1,hdef⟩
    ·obtain ⟨q1,q2,q3⟩:=hi.2.2.2.2.2.2.2 D hDD
     exact ⟨q1,by have := hJ.size;omega,(hJ.keep D (by omega) (by omega)).trans ((hw3.1.block D q2).trans q3)⟩
   ·simp [intOf];omega
 ·obtain rfl : k = np:=by omega
  have cN:=cell_of_block HI.out.1 0 (v:=.int .i64 _) rfl
  gi_wp2
  have hN : ((p.xs.take k).map fun x => (F x).length).sum = N:=by rw [HP.out.2.2.2.1,HP.out.2.1,List.take_length]
  rw [← List.map_take,hN]
  refine leaves_marks (fun W => (∀ b,b < w.heap.size → W.heap[b]? = w.heap[b]?) ∧ w.heap.size ≤ W.heap.size ∧ W.os = w.os ∧ W.tape = w.tape ∧ W.output = w.output) (w.heap.size + 1) (fun W D hD hK => ?_) (fun W hK => ?_) ds W HI.out.2.2.2.2.2.2.1 (fun D hDD => ?_) ?_
  ·obtain ⟨q1,q2,q3,q4,q5⟩:=hK
   exact ⟨fun b hb => (World.putObj_heap_other (by omega)).trans (q1 b hb),by simpa using q2,q3,q4,q5⟩
  ·exact ⟨.int .i64 N,by kernel_rfl,rfl,⟨hK.2.2.1,hK.2.2.2.1,hK.2.2.2.2,hK.2.1,hK.1⟩⟩
  ·obtain ⟨q1,q2,q3⟩:=HI.out.2.2.2.2.2.2.2 D hDD
   exact ⟨by have := HBW.out;omega,q3⟩
  ·obtain ⟨_,q1,q2,q3,q4,q5,_⟩:=HI.out
   exact ⟨q1,q2,q3,q4,q5⟩
end Go.Proofs.YtnkpgpmaiicdeaaGreatDoor
