/-
  tree.Expr at any expression.
-/
import Derived.Test.YtkopbfndfkibbaaGreatDoorSTreeXw
set_option linter.unusedVariables false
set_option linter.unusedSimpArgs false
namespace Go.Proofs.YtkopbfndfkibbaaGreatDoor
set_option maxRecDepth 100000
set_option maxHeartbeats 8000000
open Go.RowKit
structure VarOk (fv : Nat) (var : List UInt8 → Bool) : Prop where
 enters : ∀ args w,(callFunc fv args).run Tryz.prog w = .ok (.enter fv args) w
 says : ∀ s w,s.length ≤ maxLen → Calls Tryz.prog fv #[.string ⟨s.toArray⟩] w fun e w' => e = .returned (.bool (var s)) ∧ Below w.heap.size w w'
theorem variable_ok : VarOk 64 varB:=⟨enters_of Tryz.func64 (by kernel_rfl) rfl,variable_any⟩
abbrev exprC (k n : Int) (s : ByteArray) (l : Value) : Obj:=.cells #[.int .i64 k,.int .i64 n,.string s,l] 35
theorem rexpr_any (fv : Nat) (var : List UInt8 → Bool) (hv : VarOk fv var) (nu ex : Int) (h0 : 0 ≤ nu) (h1 : nu ≤ 4611686018427387904) (k n : Int) (s : List UInt8) (l : List Ex) (A : Option Addr) (c : Nat) (w : World) (hr : ExRow w w.heap.size l A) (hs : s.length ≤ maxLen) (hl : l.length ≤ maxLen) :
 Calls Tryz.prog 27 #[rulesV fv nu ex,exprV k n ⟨s.toArray⟩ (.slice A l.length c)] w fun e w' => e = .returned (.bool (vE var nu 30 (.mk k n s l))) ∧ Below w.heap.size w w':=by
 obtain ⟨W1,hW1⟩ : ∃ W1,W1 = (w.alloc (rulesC fv nu ex)).alloc (exprC k n ⟨s.toArray⟩ (.slice A l.length c)):=⟨_,rfl⟩
 have HB : Hid (Below w.heap.size w W1):=Lib.hid (by rw [hW1];exact (below_alloc w _).chain (below_alloc _ _))
 have HZ : Hid (True ∧ W1.heap.size = w.heap.size + 2):=Lib.hid ⟨trivial,by rw [hW1];exact (size_of_alloc _ _).trans (congrArg (· + 1) (size_of_alloc _ _))⟩
 have HC : Hid (Calls Tryz.prog 99 #[exprV k n ⟨s.toArray⟩ (.slice A l.length c),.pointer (some ⟨W1.heap.size + 1,0,none⟩),.pointer (some ⟨W1.heap.size,0,none⟩)] ((W1.alloc (rulesC fv nu ex)).alloc (.cells #[.int .i64 30] 3)).drew fun e w' => e = .returned (.bool (vE var nu 30 (.mk k n s l))) ∧ Below W1.heap.size W1 w'):=Lib.hid (by
  have hb3 : Below W1.heap.size W1 ((W1.alloc (rulesC fv nu ex)).alloc (.cells #[.int .i64 30] 3)).drew:=((below_alloc W1 _).chain (below_alloc _ _)).drew
  have hz : ((W1.alloc (rulesC fv nu ex)).alloc (.cells #[.int .i64 30] 3)).drew.heap.size = W1.heap.size + 2:=(size_of_alloc _ _).trans (congrArg (· + 1) (size_of_alloc _ _))
  exact (ew_any fv hv.enters var hv.says nu ex h0 h1 30 (by omega) k n s l A c W1.heap.size (W1.heap.size + 1) _ (rulesAt_new W1 fv nu ex 30).drewn (by omega) (depth_new W1 _ 30) ((hr.stay (HB.out.chain hb3) (Nat.le_refl _)).more (by have := HB.out.size;omega)) hs hl).mono fun e w' ⟨he,hb⟩ => ⟨he,hb3.chain hb⟩)
 have HX : Hid (∀ fv nu ex dd W,Calls Tryz.prog 65 #[rulesV fv nu ex,.int .i64 dd] W fun e w' =>
  e = .returned (.func (.func 99) #[] #[.pointer (some ⟨W.heap.size + 1,0,none⟩),.pointer (some ⟨W.heap.size,0,none⟩)]) ∧ w' = (W.alloc (rulesC fv nu ex)).alloc (.cells #[.int .i64 dd] 3)):=Lib.hid expr_within
 have he157:=enters157
 generalize vE var nu 30 (.mk k n s l) = res at *
 have q1:=heap_keep (o:=exprC k n ⟨s.toArray⟩ (.slice A l.length c)) (heap_of_alloc w (rulesC fv nu ex))
 have q2:=heap_of_alloc (w.alloc (rulesC fv nu ex)) (exprC k n ⟨s.toArray⟩ (.slice A l.length c))
 rw [size_of_alloc] at q2
 rw [← hW1] at q1 q2
 have c0:=cell_of_block q1 0 rfl
 have c1:=cell_of_block q1 1 rfl
 have c2:=cell_of_block q1 2 rfl
 have d0:=cell_of_block q2 0 rfl
 have d1:=cell_of_block q2 1 rfl
 have d2:=cell_of_block q2 2 rfl
 have d3:=cell_of_block q2 3 rfl
 have HQ:=Lib.hid (And.intro q1 q2)
 unfold maxLen at hl hs
 clear hr hv q1 q2 h0 h1
 go_enter Tryz.func27,Tryz.ntmps27
 go_wp2
 rw [← hW1]
 clear hW1
 go_region_held3 (fun W => W.cell? ⟨w.heap.size,0,none⟩ = some (.func (.func fv) #[] #[]) ∧ W.cell? ⟨w.heap.size,1,none⟩ = some (.int .i64 nu) ∧ W.cell? ⟨w.heap.size,2,none⟩ = some (.int .i64 ex) ∧
  W.cell? ⟨w.heap.size + 1,0,none⟩ = some (.int .i64 k) ∧ W.cell? ⟨w.heap.size + 1,1,none⟩ = some (.int .i64 n) ∧ W.cell? ⟨w.heap.size + 1,2,none⟩ = some (.string ⟨s.toArray⟩) ∧ W.cell? ⟨w.heap.size + 1,3,none⟩ = some (.slice A l.length c))
  (first | go_keep | (trace_state;fail))
  (first
    | (go_at_call 65;refine (HX.out _ _ _ _ _).mono ?_;rintro e w2 ⟨rfl,rfl⟩)
    | (go_at_call 99;refine HC.out.mono ?_;rintro e w3 ⟨rfl,hb3⟩;have HB3:=Lib.hid hb3;have q1:=(hb3.block _ (Array.getElem?_eq_some_iff.1 HQ.out.1).1).trans HQ.out.1;have q2:=(hb3.block _ (Array.getElem?_eq_some_iff.1 HQ.out.2).1).trans HQ.out.2;clear hb3;have g0:=cell_of_block q1 0 rfl;have g1:=cell_of_block q1 1 rfl;have g2:=cell_of_block q1 2 rfl;have g3:=cell_of_block q2 0 rfl;have g4:=cell_of_block q2 1 rfl;have g5:=cell_of_block q2 2 rfl;have g6:=cell_of_block q2 3 rfl;clear q1 q2))
 all_goals go_wp2
 all_goals go_ret
 all_goals exact ⟨rfl,HB.out.chain HB3.out⟩
theorem texpr_any (k n : Int) (s : List UInt8) (l : List Ex) (A : Option Addr) (c : Nat) (w : World) (hr : ExRow w w.heap.size l A) (hs : s.length ≤ maxLen) (hl : l.length ≤ maxLen) :
 Calls Tryz.prog 10 #[exprV k n ⟨s.toArray⟩ (.slice A l.length c)] w fun e w' => e = .returned (.bool (vE varB 1125899906842624 30 (.mk k n s l))) ∧ Below w.heap.size w w':=by
 obtain ⟨W1,hW1⟩ : ∃ W1,W1 = w.alloc (exprC k n ⟨s.toArray⟩ (.slice A l.length c)):=⟨_,rfl⟩
 have HB : Hid (Below w.heap.size w W1):=Lib.hid (by rw [hW1];exact below_alloc w _)
 have HC : Hid (Calls Tryz.prog 27 #[rulesV 64 1125899906842624 100,exprV k n ⟨s.toArray⟩ (.slice A l.length c)] (W1.alloc (rulesC 64 1125899906842624 100)).drew fun e w' => e = .returned (.bool (vE varB 1125899906842624 30 (.mk k n s l))) ∧ Below W1.heap.size W1 w'):=Lib.hid (by
  have hb3 : Below W1.heap.size W1 (W1.alloc (rulesC 64 1125899906842624 100)).drew:=(below_alloc W1 _).drew
  exact (rexpr_any _ varB variable_ok 1125899906842624 100 (by omega) (by omega) k n s l A c _ ((hr.stay (HB.out.chain hb3) (Nat.le_refl _)).more (by have := HB.out.size;have := hb3.size;omega)) hs hl).mono fun e w' ⟨he,hb⟩ => ⟨he,hb3.chain hb⟩)
 have HP : Hid (∀ W,Calls Tryz.prog 26 #[] W fun e w' => e = .returned (rulesV 64 1125899906842624 100) ∧ w' = W.alloc (rulesC 64 1125899906842624 100)):=Lib.hid proof_rules
 generalize vE varB 1125899906842624 30 (.mk k n s l) = res at *
 have q2:=heap_of_alloc w (exprC k n ⟨s.toArray⟩ (.slice A l.length c))
 rw [← hW1] at q2
 have d0:=cell_of_block q2 0 rfl
 have d1:=cell_of_block q2 1 rfl
 have d2:=cell_of_block q2 2 rfl
 have d3:=cell_of_block q2 3 rfl
 have HQ:=Lib.hid q2
 unfold maxLen at hl hs
 clear hr q2
 go_enter Tryz.func10,Tryz.ntmps10
 go_wp2
 rw [← hW1]
 clear hW1
 go_region_held3 (fun W => W.cell? ⟨w.heap.size,0,none⟩ = some (.int .i64 k) ∧ W.cell? ⟨w.heap.size,1,none⟩ = some (.int .i64 n) ∧ W.cell? ⟨w.heap.size,2,none⟩ = some (.string ⟨s.toArray⟩) ∧ W.cell? ⟨w.heap.size,3,none⟩ = some (.slice A l.length c))
  (first | go_keep | (trace_state;fail))
  (first
    | (go_at_call 26;refine (HP.out _).mono ?_;rintro e w2 ⟨rfl,rfl⟩)
    | (go_at_call 27;refine HC.out.mono ?_;rintro e w3 ⟨rfl,hb3⟩;have HB3:=Lib.hid hb3;have q2:=(hb3.block _ (Array.getElem?_eq_some_iff.1 HQ.out).1).trans HQ.out;clear hb3;have g3:=cell_of_block q2 0 rfl;have g4:=cell_of_block q2 1 rfl;have g5:=cell_of_block q2 2 rfl;have g6:=cell_of_block q2 3 rfl;clear q2))
 all_goals go_wp2
 all_goals go_ret
 all_goals exact ⟨rfl,HB.out.chain HB3.out⟩
end Go.Proofs.YtkopbfndfkibbaaGreatDoor
