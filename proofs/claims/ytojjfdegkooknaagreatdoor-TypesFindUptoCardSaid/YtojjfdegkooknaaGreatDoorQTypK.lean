import Derived.Test.YtojjfdegkooknaaGreatDoorQTypW
import Derived.Tactics2
import Derived.Defers
import Derived.Recover
import Derived.Laws.Pointers
set_option linter.unusedVariables false
set_option linter.unusedSimpArgs false
namespace Go.Proofs.YtojjfdegkooknaaGreatDoor
set_option maxRecDepth 100000
set_option maxHeartbeats 1000000
open Go.RowKit
section
variable {P : Program} {ops : Array Oper} {Q : Exit → Act → List Frame → World → Prop} {a : Act} {cs : List Frame} {w w' : World} {i : Nat} {rest : List Nat} {o : Oper}
structure OpsS (P : Program) (ops : Array Oper) (Q : Exit → Act → List Frame → World → Prop) (l : List Nat) (a : Act) (cs : List Frame) (w : World) : Prop where
 h : wpOpsS P ops Q l a cs w
theorem opsS_value (d : Option Tmp) (v : Value) (hr : (execOp a.eval o).run P w = .ok (.value v) w') (h : OpsS P ops Q rest (a.put d v) cs w') (ho : ops[i]? = some o:=by rfl) (hw : Region.wanted o (yielded ops a.tmps) = true:=by kernel_rfl) (hd : o.dst = d:=by rfl) : OpsS P ops Q (i :: rest) a cs w:=by
 refine ⟨?_⟩
 subst hd
 simp only [wpOpsS,ho,hw,if_true,hr]
 exact h.h
theorem opsS_skip (d : Option Tmp) (hr : (execOp a.eval o).run P w = .ok .skip w') (h : OpsS P ops Q rest (a.put d undef) cs w') (ho : ops[i]? = some o:=by rfl) (hw : Region.wanted o (yielded ops a.tmps) = true:=by kernel_rfl) (hd : o.dst = d:=by rfl) : OpsS P ops Q (i :: rest) a cs w:=by
 refine ⟨?_⟩
 subst hd
 simp only [wpOpsS,ho,hw,if_true,hr]
 exact h.h
theorem opsS_recover (d : Option Tmp) (v : Value) (cs' : List Frame) (hr : (execOp a.eval o).run P w = .ok .recover w') (hrec : recoverD cs = some (v,cs')) (h : OpsS P ops Q rest (a.put d v) cs' w') (ho : ops[i]? = some o:=by rfl) (hw : Region.wanted o (yielded ops a.tmps) = true:=by kernel_rfl) (hd : o.dst = d:=by rfl) : OpsS P ops Q (i :: rest) a cs w:=by
 refine ⟨?_⟩
 subst hd
 simp only [wpOpsS,ho,hw,if_true,hr,hrec]
 exact h.h
theorem opsS_none (d : Option Tmp) (hr : (execOp a.eval o).run P w = .ok .recover w') (hrec : recoverD cs = none) (h : OpsS P ops Q rest (a.put d .nilIface) cs w') (ho : ops[i]? = some o:=by rfl) (hw : Region.wanted o (yielded ops a.tmps) = true:=by kernel_rfl) (hd : o.dst = d:=by rfl) : OpsS P ops Q (i :: rest) a cs w:=by
 refine ⟨?_⟩
 subst hd
 simp only [wpOpsS,ho,hw,if_true,hr,hrec]
 exact h.h
theorem opsS_done (h : Q .normal a cs w) : OpsS P ops Q [] a cs w:=⟨h⟩
end
theorem caught1_panicking (R : Nat) (n : ByteArray) (x : Int) (older : List PanicEntry) (v0 v1 : Value) (w : World) (hR : w.heap[R]? = some (.cells #[v0,v1] 116 (0,0))) :
 CallsD Tryz.prog 68 #[.pointer (some ⟨R,0,none⟩)] (.panicking ({ v:=.iface 116 (.agg #[.string n,.int .i64 x]),recovered:=false } :: older)) w fun e u' w' =>
  e = .returned (.tuple #[]) ∧ u' = .panicking ({ v:=.iface 116 (.agg #[.string n,.int .i64 x]),recovered:=true } :: older) ∧ w' = ((w.alloc (.cells #[.string n,.int .i64 x] 116)).setCell ⟨R,0,none⟩ (.string n)).setCell ⟨R,1,none⟩ (.int .i64 x):=by
 have hlt:=(Array.getElem?_eq_some_iff.1 hR).1
 refine callsD_of_wpS Tryz.func68 rfl fun c₀ cs hu => ?_
 simp only [Tryz.ntmps68,List.size_toArray,List.length_cons,List.length_nil,Nat.reduceAdd,Nat.reduceSub,Array.replicate_succ,Array.replicate_zero,List.push_toArray,List.append_toArray,List.nil_append,List.cons_append]
 apply wpS_seq
 apply wpS_region
 apply OpsS.h
 change OpsS _ _ _ [0,1,2,3,4,5,6,7] _ _ _
 refine opsS_recover (w':=w) (some 4) (.iface 116 (.agg #[.string n,.int .i64 x])) ({ c₀ with mode:=.panicking ({ v:=.iface 116 (.agg #[.string n,.int .i64 x]),recovered:=true } :: older) } :: cs) ?_ ?_ ?_
 ·kernel_rfl
 ·simp [recoverD,hu]
 refine opsS_value (w':=w) (some 5) (.tuple #[.agg #[.string n,.int .i64 x],.bool true]) ?_ ?_
 ·kernel_rfl
 refine opsS_value (w':=w) (some 3) (.tuple #[.agg #[.string n,.int .i64 x],.bool true]) ?_ ?_
 ·kernel_rfl
 refine opsS_value (w':=w) (some 6) (.agg #[.string n,.int .i64 x]) ?_ ?_
 ·kernel_rfl
 refine opsS_value (w':=w) (some 7) (.bool true) ?_ ?_
 ·kernel_rfl
 refine opsS_value (w':=w.alloc (.cells #[.string ⟨#[]⟩,.int .i64 0] 116)) (some 1) (.pointer (some ⟨w.heap.size,0,none⟩)) ?_ ?_
 ·kernel_rfl
 simp only [Act.put,List.setIfInBounds_toArray,List.set_cons_zero,List.set_cons_succ]
 have hs1:=st_new (w:=w) (t:=116) (zc:=#[.string ⟨#[]⟩,.int .i64 0]) (cs:=#[.string n,.int .i64 x]) rfl (by rw [List.all_toArray];rfl)
 have hl1:=ld_new (heap_of_alloc w (.cells #[.string n,.int .i64 x] 116)) (N:=2) rfl
 have hR2 : (w.alloc (.cells #[.string n,.int .i64 x] 116)).heap[R]? = some (.cells #[v0,v1] 116 (0,0)):=heap_keep hR
 have z0:=cell_of_block hR2 0 (v:=v0) rfl
 have z1:=cell_of_block hR2 1 (v:=v1) rfl
 have f0:=frozen_at hR2 0
 have f1:=frozen_at hR2 1
 have hR4 : ((w.setCell ⟨R,0,none⟩ (.string n)).alloc (.cells #[.string n,.int .i64 x] 116)).heap[R]? = some (.cells #[.string n,v1] 116 (0,0)):=heap_keep (heap_setCell_at hR 0 (.string n))
 have z4:=cell_of_block hR4 1 (v:=v1) rfl
 have f4:=frozen_at hR4 1
 refine opsS_skip (w':=w.alloc (.cells #[.string n,.int .i64 x] 116)) none ?_ ?_
 ·go_simp
 refine opsS_value (w':=w.alloc (.cells #[.string n,.int .i64 x] 116)) (some 2) (.bool true) ?_ ?_
 ·kernel_rfl
 refine opsS_done ?_
 show Code.wpS _ _ _ _ _ _
 simp only [Act.put,List.setIfInBounds_toArray,List.set_cons_zero,List.set_cons_succ]
 apply wpS_seq
 apply wpS_region
 apply OpsS.h
 change OpsS _ _ _ [0] _ _ _
 refine opsS_value (w':=w.alloc (.cells #[.string n,.int .i64 x] 116)) (some 8) (.bool true) ?_ ?_
 ·kernel_rfl
 refine opsS_done ?_
 show Code.wpS _ _ _ _ _ _
 simp only [Act.put,List.setIfInBounds_toArray,List.set_cons_zero,List.set_cons_succ]
 refine wpS_cond (t:=true) (by kernel_rfl) ?_
 simp only [if_true]
 apply wpS_region
 apply OpsS.h
 change OpsS _ _ _ [0,1] _ _ _
 refine opsS_value (w':=w.alloc (.cells #[.string n,.int .i64 x] 116)) (some 9) (.agg #[.string n,.int .i64 x]) ?_ ?_
 ·go_simp
 refine opsS_skip (w':=((w.alloc (.cells #[.string n,.int .i64 x] 116)).setCell ⟨R,0,none⟩ (.string n)).setCell ⟨R,1,none⟩ (.int .i64 x)) none ?_ ?_
 ·go_simp
 refine opsS_done ?_
 exact ⟨rfl,_,rfl,_,results_none rfl _ _ _,rfl,rfl,rfl⟩
theorem caught1_idle (R : Nat) (w : World) :
 CallsD Tryz.prog 68 #[.pointer (some ⟨R,0,none⟩)] .returning w fun e u' w' => e = .returned (.tuple #[]) ∧ u' = .returning ∧ w' = w.alloc (.cells #[.string ⟨#[]⟩,.int .i64 0] 116):=by
 refine callsD_of_wpS Tryz.func68 rfl fun c₀ cs hu => ?_
 simp only [Tryz.ntmps68,List.size_toArray,List.length_cons,List.length_nil,Nat.reduceAdd,Nat.reduceSub,Array.replicate_succ,Array.replicate_zero,List.push_toArray,List.append_toArray,List.nil_append,List.cons_append]
 apply wpS_seq
 apply wpS_region
 apply OpsS.h
 change OpsS _ _ _ [0,1,2,3,4,5,6,7] _ _ _
 refine opsS_none (w':=w) (some 4) ?_ ?_ ?_
 ·kernel_rfl
 ·simp [recoverD,hu]
 refine opsS_value (w':=w) (some 5) (.tuple #[.agg #[.string ⟨#[]⟩,.int .i64 0],.bool false]) ?_ ?_
 ·kernel_rfl
 refine opsS_value (w':=w) (some 3) (.tuple #[.agg #[.string ⟨#[]⟩,.int .i64 0],.bool false]) ?_ ?_
 ·kernel_rfl
 refine opsS_value (w':=w) (some 6) (.agg #[.string ⟨#[]⟩,.int .i64 0]) ?_ ?_
 ·kernel_rfl
 refine opsS_value (w':=w) (some 7) (.bool false) ?_ ?_
 ·kernel_rfl
 refine opsS_value (w':=w.alloc (.cells #[.string ⟨#[]⟩,.int .i64 0] 116)) (some 1) (.pointer (some ⟨w.heap.size,0,none⟩)) ?_ ?_
 ·kernel_rfl
 simp only [Act.put,List.setIfInBounds_toArray,List.set_cons_zero,List.set_cons_succ]
 have hs1:=st_new (w:=w) (t:=116) (zc:=#[.string ⟨#[]⟩,.int .i64 0]) (cs:=#[.string ⟨#[]⟩,.int .i64 0]) rfl (by rw [List.all_toArray];rfl)
 refine opsS_skip (w':=w.alloc (.cells #[.string ⟨#[]⟩,.int .i64 0] 116)) none ?_ ?_
 ·go_simp
 refine opsS_value (w':=w.alloc (.cells #[.string ⟨#[]⟩,.int .i64 0] 116)) (some 2) (.bool false) ?_ ?_
 ·kernel_rfl
 refine opsS_done ?_
 show Code.wpS _ _ _ _ _ _
 simp only [Act.put,List.setIfInBounds_toArray,List.set_cons_zero,List.set_cons_succ]
 apply wpS_seq
 apply wpS_region
 apply OpsS.h
 change OpsS _ _ _ [0] _ _ _
 refine opsS_value (w':=w.alloc (.cells #[.string ⟨#[]⟩,.int .i64 0] 116)) (some 8) (.bool false) ?_ ?_
 ·kernel_rfl
 refine opsS_done ?_
 show Code.wpS _ _ _ _ _ _
 simp only [Act.put,List.setIfInBounds_toArray,List.set_cons_zero,List.set_cons_succ]
 refine wpS_cond (t:=false) (by kernel_rfl) ?_
 simp only [Bool.false_eq_true,if_false]
 refine wpS_of_wp (wp_skip ?_)
 cases c₀
 simp_all [bodyPostS,results,Act.put,Tryz.results68]
end Go.Proofs.YtojjfdegkooknaaGreatDoor
namespace Go.Proofs.YtojjfdegkooknaaGreatDoor
set_option maxRecDepth 100000
set_option maxHeartbeats 4000000
open Go.RowKit
structure Near (cb : Nat) (w w' : World) : Prop where
 os : w'.os = w.os
 tape : w'.tape = w.tape
 output : w'.output = w.output
 size : w.heap.size ≤ w'.heap.size
 block : ∀ b,b < w.heap.size → b ≠ cb → w'.heap[b]? = w.heap[b]?
theorem near_of {cb : Nat} {w w' : World} (h : Below w.heap.size w w') : Near cb w w':=⟨h.os,h.tape,h.output,h.size,fun b hb _ => h.block b hb⟩
theorem Near.trans {cb : Nat} {a b c : World} (h : Near cb a b) (h' : Near cb b c) : Near cb a c :=
 ⟨h'.os.trans h.os,h'.tape.trans h.tape,h'.output.trans h.output,Nat.le_trans h.size h'.size,fun k hk hne => (h'.block k (Nat.lt_of_lt_of_le hk h.size) hne).trans (h.block k hk hne)⟩
theorem near_end {cb : Nat} {w w2 w3 : World} (h : Near cb w w2) (hb : Below w.heap.size w2 w3) : Near cb w w3 :=
 ⟨hb.os.trans h.os,hb.tape.trans h.tape,hb.output.trans h.output,Nat.le_trans h.size hb.size,fun b hlt hne => (hb.block b hlt).trans (h.block b hlt hne)⟩
def thrOf : Ck → Thr
 | none => ([],0)
 | some t => t
theorem caught_any (G : Nat) (p : Value) (hG : ∀ args w,(callFunc G args).run Tryz.prog w = .ok (.enter G args) w) (C : Ck) (cb : Nat) (Pl : World → Prop) (w : World) (hcb : cb < w.heap.size)
 (hC : ∀ W,Below w.heap.size w W → Calls Tryz.prog G #[p] W fun e w' => CkEnd C e ∧ Near cb W w' ∧ Pl w') :
 Calls Tryz.prog 51 #[.func (.func G) #[p] #[]] w fun e w' => e = .returned (.agg #[.string ⟨(thrOf C).1.toArray⟩,.int .i64 (thrOf C).2]) ∧ Near cb w w' ∧ ∃ w1,Pl w1 ∧ w'.heap[cb]? = w1.heap[cb]?:=by
 have hmf : ∀ (fn : Fn) (first cap : Array Value) (w : World),(Instr.makeFunc fn first cap).run Tryz.prog w = .ok (.func fn first cap) w:=fun _ _ _ _ => rfl
 obtain ⟨W1,hW1⟩ : ∃ W1,W1 = w.alloc (.cells #[.string ⟨#[]⟩,.int .i64 1] 116):=⟨_,rfl⟩
 have hb1 : Below w.heap.size w W1:=by rw [hW1];exact below_alloc w _
 have hp1 : W1.heap[w.heap.size]? = some (.cells #[.string ⟨#[]⟩,.int .i64 1] 116 (0,0)):=by rw [hW1];exact heap_of_alloc w _
 have HC:=Lib.hid (hC W1 hb1)
 have HB:=Lib.hid (And.intro hb1 (And.intro hp1 hcb))
 clear hC hb1 hp1 hcb
 go_enter_defers Tryz.func51,Tryz.ntmps51
 go_wp2_with fail
 rw [← hW1]
 clear hW1
 refine HC.out.mono ?_
 rintro e w2 ⟨he,hn,hpl⟩
 have hR:=(hn.block w.heap.size (by have := (Array.getElem?_eq_some_iff.1 HB.out.2.1).1;exact this) (by have := HB.out.2.2;omega)).trans HB.out.2.1
 have H2:=Lib.hid (And.intro hn (And.intro hpl hR))
 clear hn hpl
 cases C with
 | none =>
   obtain rfl : e = _:=he
   have z0:=cell_of_block hR 0 (v:=.string ⟨#[]⟩) rfl
   have z1:=cell_of_block hR 1 (v:=.int .i64 1) rfl
   have f0:=frozen_at hR 0
   have f1:=frozen_at hR 1
   clear hR
   go_wp2
   refine leaves_cons (f:=68) (args:=#[.pointer (some ⟨w.heap.size,0,none⟩)]) (by simp) (by simp [go_sem]) ?_
   refine (caught1_idle w.heap.size _).mono ?_
   rintro e u' w3 ⟨rfl,rfl,rfl⟩
   have hR:=H2.out.2.2
   have h3:=heap_keep (o:=.cells #[.string ⟨#[]⟩,.int .i64 0] 116) (heap_setCell_at (heap_setCell_at hR 0 (.string ⟨#[]⟩)) 1 (.int .i64 0))
   have hbb : Below w.heap.size w2 (((w2.setCell ⟨w.heap.size,0,none⟩ (.string ⟨#[]⟩)).setCell ⟨w.heap.size,1,none⟩ (.int .i64 0)).alloc (.cells #[.string ⟨#[]⟩,.int .i64 0] 116)) :=
    (((Below.refl w.heap.size w2).setCell (p:=⟨w.heap.size,0,none⟩) (Nat.le_refl _) _).setCell (p:=⟨w.heap.size,1,none⟩) (Nat.le_refl _) _).alloc (by have := H2.out.1.size;have := HB.out.1.size;simp [World.setCell];omega) _
   refine ⟨_,results_cell_row rfl _ _ w.heap.size 116 #[.string ⟨#[]⟩,.int .i64 0] (0,0) _ rfl h3 Tryz.underlying116 rfl (by kernel_rfl),rfl,near_end ((near_of HB.out.1).trans H2.out.1) hbb,w2,H2.out.2.1,hbb.block cb HB.out.2.2⟩
 | some t =>
   obtain rfl : e = _:=he
   refine leaves_cons (f:=68) (args:=#[.pointer (some ⟨w.heap.size,0,none⟩)]) (by simp) (by simp [go_sem]) ?_
   refine (caught1_panicking w.heap.size ⟨t.1.toArray⟩ t.2 [] _ _ _ hR).mono ?_
   rintro e u' w3 ⟨rfl,rfl,rfl⟩
   have h3:=heap_setCell_at (heap_setCell_at (heap_keep (o:=.cells #[.string ⟨t.1.toArray⟩,.int .i64 t.2] 116) hR) 0 (.string ⟨t.1.toArray⟩)) 1 (.int .i64 t.2)
   have hbb : Below w.heap.size w2 (((w2.alloc (.cells #[.string ⟨t.1.toArray⟩,.int .i64 t.2] 116)).setCell ⟨w.heap.size,0,none⟩ (.string ⟨t.1.toArray⟩)).setCell ⟨w.heap.size,1,none⟩ (.int .i64 t.2)) :=
    (((Below.refl w.heap.size w2).alloc (by have := H2.out.1.size;have := HB.out.1.size;omega) _).setCell (p:=⟨w.heap.size,0,none⟩) (Nat.le_refl _) _).setCell (p:=⟨w.heap.size,1,none⟩) (Nat.le_refl _) _
   refine ⟨_,results_cell_row rfl _ _ w.heap.size 116 #[.string ⟨t.1.toArray⟩,.int .i64 t.2] (0,0) _ rfl h3 Tryz.underlying116 rfl (by kernel_rfl),rfl,near_end ((near_of HB.out.1).trans H2.out.1) hbb,w2,H2.out.2.1,hbb.block cb HB.out.2.2⟩
end Go.Proofs.YtojjfdegkooknaaGreatDoor
