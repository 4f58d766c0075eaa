/-
  Copies of trees that hold no lists.
-/
import Derived.Test.YtnkpgpmaiicdeaaGreatDoorRows
import Derived.WalkKit
import Derived.WalkSpells
import Derived.WalkLawsBesides
import Derived.Lib.Hide
import Derived.Deep.RegionWith
import Derived.Laws.Rows
import Derived.Test.YtnkpgpmaiicdeaaGreatDoorSLexMZ
set_option linter.unusedVariables false
set_option linter.unusedSimpArgs false
namespace Go.Proofs.YtnkpgpmaiicdeaaGreatDoor
set_option maxRecDepth 100000
set_option maxHeartbeats 2000000
open Go.RowKit
theorem eql_nil {P : Program} (w : World) (t e : TypeId) (h : P.underlying t = some (.slice e)) : (binOp .eql t (.slice none 0 0) (.slice none 0 0)).run P w = .ok (.bool true) w :=
 Lib.run_eql_slice_nil w t e none 0 0 0 0 h
theorem heap_keep {W : World} {o v : Obj} {k : Nat} (h : W.heap[k]? = some v) : (W.alloc o).heap[k]? = some v :=
 (Below.heap_alloc W o k (Array.getElem?_eq_some_iff.1 h).1).trans h
theorem heap_drew {W : World} {v : Obj} {k : Nat} (h : W.heap[k]? = some v) : W.drew.heap[k]? = some v:=h
abbrev exprV (k n : Int) (s : ByteArray) (l : Value) : Value:=.agg #[.int .i64 k,.int .i64 n,.string s,l]
theorem cl_expr (f : Value) (w : World) : Calls Tryz.prog 87 #[.slice none 0 0,f] w fun e w' => e = .returned (.slice none 0 0) ∧ w' = w:=by
 have hq:=fun w => eql_nil (P:=Tryz.prog) w 31 _ Tryz.underlying31
 go_enter Tryz.func87,Tryz.ntmps87
 go_wp2
 go_ret
 exact ⟨rfl,rfl⟩
theorem cl_cond (f : Value) (w : World) : Calls Tryz.prog 88 #[.slice none 0 0,f] w fun e w' => e = .returned (.slice none 0 0) ∧ w' = w:=by
 have hq:=fun w => eql_nil (P:=Tryz.prog) w 34 _ Tryz.underlying34
 go_enter Tryz.func88,Tryz.ntmps88
 go_wp2
 go_ret
 exact ⟨rfl,rfl⟩
theorem cl_call (f : Value) (w : World) : Calls Tryz.prog 50 #[.slice none 0 0,f] w fun e w' => e = .returned (.slice none 0 0) ∧ w' = w:=by
 have hq:=fun w => eql_nil (P:=Tryz.prog) w 37 _ Tryz.underlying37
 go_enter Tryz.func50,Tryz.ntmps50
 go_wp2
 go_ret
 exact ⟨rfl,rfl⟩
theorem cl_formula (f : Value) (w : World) : Calls Tryz.prog 52 #[.slice none 0 0,f] w fun e w' => e = .returned (.slice none 0 0) ∧ w' = w:=by
 have hq:=fun w => eql_nil (P:=Tryz.prog) w 38 _ Tryz.underlying38
 go_enter Tryz.func52,Tryz.ntmps52
 go_wp2
 go_ret
 exact ⟨rfl,rfl⟩
theorem cl_stmt (f : Value) (w : World) : Calls Tryz.prog 85 #[.slice none 0 0,f] w fun e w' => e = .returned (.slice none 0 0) ∧ w' = w:=by
 have hq:=fun w => eql_nil (P:=Tryz.prog) w 22 _ Tryz.underlying22
 go_enter Tryz.func85,Tryz.ntmps85
 go_wp2
 go_ret
 exact ⟨rfl,rfl⟩
theorem copyExpr_nil (k n : Int) (s : ByteArray) (w : World) : Calls Tryz.prog 48 #[exprV k n s (.slice none 0 0)] w fun e w' => e = .returned (exprV k n s (.slice none 0 0)) ∧ w' = (w.alloc (.cells #[.int .i64 k,.int .i64 n,.string s,.slice none 0 0] 33)).alloc (.cells #[.int .i64 k,.int .i64 n,.string s,.slice none 0 0] 33):=by
 go_enter Tryz.func48,Tryz.ntmps48
 go_wp2_with (go_at_call 87;refine (cl_expr _ _).mono ?_;rintro e w1 ⟨rfl,rfl⟩)
 refine bodyPost_ret (results_cell_row rfl _ _ (w.heap.size + 1) 33 #[.int .i64 k,.int .i64 n,.string s,.slice none 0 0] (0,0) _ rfl (heap_alloc2_new _ _ _) Tryz.underlying33 rfl (by kernel_rfl)) rfl ?_
 exact ⟨rfl,rfl⟩
abbrev condV (ck ak bk : Int) : Value:=.agg #[.int .i64 ck,.int .i64 ak,.int .i64 0,.string ⟨#[]⟩,.slice none 0 0,.int .i64 bk,.int .i64 0,.string ⟨#[]⟩,.slice none 0 0,.slice none 0 0]
abbrev condW (ck ak bk : Int) (w : World) : World :=
 (((((w.alloc (.cells #[.int .i64 ck,.int .i64 ak,.int .i64 0,.string ⟨#[]⟩,.slice none 0 0,.int .i64 bk,.int .i64 0,.string ⟨#[]⟩,.slice none 0 0,.slice none 0 0] 36)).alloc
   (.cells #[.int .i64 ck,.int .i64 ak,.int .i64 0,.string ⟨#[]⟩,.slice none 0 0,.int .i64 bk,.int .i64 0,.string ⟨#[]⟩,.slice none 0 0,.slice none 0 0] 36)).alloc
   (.cells #[.int .i64 ak,.int .i64 0,.string ⟨#[]⟩,.slice none 0 0] 33)).alloc (.cells #[.int .i64 ak,.int .i64 0,.string ⟨#[]⟩,.slice none 0 0] 33)).alloc
   (.cells #[.int .i64 bk,.int .i64 0,.string ⟨#[]⟩,.slice none 0 0] 33)).alloc (.cells #[.int .i64 bk,.int .i64 0,.string ⟨#[]⟩,.slice none 0 0] 33)
theorem copyCond_nil (ck ak bk : Int) (w : World) : Calls Tryz.prog 49 #[condV ck ak bk] w fun e w' => e = .returned (condV ck ak bk) ∧ ∃ q,w' = (condW ck ak bk w).drewN q:=by
 have HE : Hid (∀ k n s w,Calls Tryz.prog 48 #[exprV k n s (.slice none 0 0)] w fun e w' => e = .returned (exprV k n s (.slice none 0 0)) ∧ w' = (w.alloc (.cells #[.int .i64 k,.int .i64 n,.string s,.slice none 0 0] 33)).alloc (.cells #[.int .i64 k,.int .i64 n,.string s,.slice none 0 0] 33)):=Lib.hid copyExpr_nil
 go_enter Tryz.func49,Tryz.ntmps49
 go_wp2_with (go_at_call 88;refine (cl_cond _ _).mono ?_;rintro e w1 ⟨rfl,rfl⟩)
 go_region_with (go_at_call 48;refine (HE.out _ _ _ _).mono ?_;rintro e w2 ⟨rfl,rfl⟩)
 all_goals (go_wp2_with (go_at_call 88;refine (cl_cond _ _).mono ?_;rintro e w1 ⟨rfl,rfl⟩))
 all_goals
  refine bodyPost_ret (results_cell_row rfl _ _ (w.heap.size + 1) 36 #[.int .i64 ck,.int .i64 ak,.int .i64 0,.string ⟨#[]⟩,.slice none 0 0,.int .i64 bk,.int .i64 0,.string ⟨#[]⟩,.slice none 0 0,.slice none 0 0] (0,0) _ rfl ?_ Tryz.underlying36 rfl (by kernel_rfl)) rfl ?_
  ·repeat first
    | exact heap_alloc2_new _ _ _
    | apply heap_drew
    | apply heap_keep
  ·refine ⟨rfl,?_⟩
   first
    | exact ⟨0,rfl⟩
    | exact ⟨1,rfl⟩
    | exact ⟨2,rfl⟩
    | exact ⟨3,rfl⟩
    | exact ⟨4,rfl⟩
end Go.Proofs.YtnkpgpmaiicdeaaGreatDoor
