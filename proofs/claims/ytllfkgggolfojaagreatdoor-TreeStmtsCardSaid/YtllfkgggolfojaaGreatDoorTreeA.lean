/-
  Copies of trees that hold no lists.
-/
import Derived.Test.YtllfkgggolfojaaGreatDoorRows
import Derived.WalkKit
import Derived.WalkSpells
import Derived.WalkLawsBesides
import Derived.Lib.Hide
import Derived.Deep.RegionWith
import Derived.Laws.Rows
import Derived.Test.YtllfkgggolfojaaGreatDoorLexZ
namespace Go.Proofs.YtllfkgggolfojaaGreatDoor
open Go.RowKit

theorem eql_nil {P : Program} (w : World) (t e : TypeId) (h : P.underlying t = some (.slice e)) : (binOp .eql t (.slice none 0 0) (.slice none 0 0)).run P w = .ok (.bool true) w :=
  Lib.run_eql_slice_nil w t e none 0 0 0 0 h

theorem heap_keep {W : World} {o v : Obj} {k : Nat} (h : W.heap[k]? = some v) : (W.alloc o).heap[k]? = some v :=
  (Below.heap_alloc W o k (Array.getElem?_eq_some_iff.1 h).1).trans h

theorem heap_drew {W : World} {v : Obj} {k : Nat} (h : W.heap[k]? = some v) : W.drew.heap[k]? = some v := h

abbrev exprV (k n : Int) (s : ByteArray) (l : Value) : Value := .agg #[.int .i64 k, .int .i64 n, .string s, l]

set_option maxRecDepth 100000 in
theorem cl_expr (f : Value) (w : World) : Calls Tryz.prog 93 #[.slice none 0 0, f] w fun e w' => e = .returned (.slice none 0 0) ∧ w' = w := by
  have hq := fun w => eql_nil (P := Tryz.prog) w 34 _ Tryz.underlying34
  go_enter Tryz.func93, Tryz.ntmps93
  go_wp2
  go_ret
  exact ⟨rfl, rfl⟩

set_option maxRecDepth 100000 in
theorem cl_cond (f : Value) (w : World) : Calls Tryz.prog 94 #[.slice none 0 0, f] w fun e w' => e = .returned (.slice none 0 0) ∧ w' = w := by
  have hq := fun w => eql_nil (P := Tryz.prog) w 37 _ Tryz.underlying37
  go_enter Tryz.func94, Tryz.ntmps94
  go_wp2
  go_ret
  exact ⟨rfl, rfl⟩

set_option maxRecDepth 100000 in
theorem cl_call (f : Value) (w : World) : Calls Tryz.prog 59 #[.slice none 0 0, f] w fun e w' => e = .returned (.slice none 0 0) ∧ w' = w := by
  have hq := fun w => eql_nil (P := Tryz.prog) w 42 _ Tryz.underlying42
  go_enter Tryz.func59, Tryz.ntmps59
  go_wp2
  go_ret
  exact ⟨rfl, rfl⟩

set_option maxRecDepth 100000 in
theorem cl_formula (f : Value) (w : World) : Calls Tryz.prog 61 #[.slice none 0 0, f] w fun e w' => e = .returned (.slice none 0 0) ∧ w' = w := by
  have hq := fun w => eql_nil (P := Tryz.prog) w 29 _ Tryz.underlying29
  go_enter Tryz.func61, Tryz.ntmps61
  go_wp2
  go_ret
  exact ⟨rfl, rfl⟩

set_option maxRecDepth 100000 in
theorem cl_stmt (f : Value) (w : World) : Calls Tryz.prog 53 #[.slice none 0 0, f] w fun e w' => e = .returned (.slice none 0 0) ∧ w' = w := by
  have hq := fun w => eql_nil (P := Tryz.prog) w 31 _ Tryz.underlying31
  go_enter Tryz.func53, Tryz.ntmps53
  go_wp2
  go_ret
  exact ⟨rfl, rfl⟩

set_option maxRecDepth 100000 in
set_option maxHeartbeats 1000000 in
theorem copyExpr_nil (k n : Int) (s : ByteArray) (w : World) : Calls Tryz.prog 57 #[exprV k n s (.slice none 0 0)] w fun e w' => e = .returned (exprV k n s (.slice none 0 0)) ∧ w' = (w.alloc (.cells #[.int .i64 k, .int .i64 n, .string s, .slice none 0 0] 36)).alloc (.cells #[.int .i64 k, .int .i64 n, .string s, .slice none 0 0] 36) := by
  go_enter Tryz.func57, Tryz.ntmps57
  go_wp2_with (go_at_call 93; refine (cl_expr _ _).mono ?_; rintro e w1 ⟨rfl, rfl⟩)
  refine bodyPost_ret (results_cell_row rfl _ _ (w.heap.size + 1) 36 #[.int .i64 k, .int .i64 n, .string s, .slice none 0 0] (0, 0) _ rfl (heap_alloc2_new _ _ _) Tryz.underlying36 rfl (by kernel_rfl)) rfl ?_
  exact ⟨rfl, rfl⟩

abbrev condV (ck ak bk : Int) : Value := .agg #[.int .i64 ck, .int .i64 ak, .int .i64 0, .string ⟨#[]⟩, .slice none 0 0, .int .i64 bk, .int .i64 0, .string ⟨#[]⟩, .slice none 0 0, .slice none 0 0]

/-- What a call of copyCond makes. -/
abbrev condW (ck ak bk : Int) (w : World) : World :=
  (((((w.alloc (.cells #[.int .i64 ck, .int .i64 ak, .int .i64 0, .string ⟨#[]⟩, .slice none 0 0, .int .i64 bk, .int .i64 0, .string ⟨#[]⟩, .slice none 0 0, .slice none 0 0] 39)).alloc
    (.cells #[.int .i64 ck, .int .i64 ak, .int .i64 0, .string ⟨#[]⟩, .slice none 0 0, .int .i64 bk, .int .i64 0, .string ⟨#[]⟩, .slice none 0 0, .slice none 0 0] 39)).alloc
    (.cells #[.int .i64 ak, .int .i64 0, .string ⟨#[]⟩, .slice none 0 0] 36)).alloc (.cells #[.int .i64 ak, .int .i64 0, .string ⟨#[]⟩, .slice none 0 0] 36)).alloc
    (.cells #[.int .i64 bk, .int .i64 0, .string ⟨#[]⟩, .slice none 0 0] 36)).alloc (.cells #[.int .i64 bk, .int .i64 0, .string ⟨#[]⟩, .slice none 0 0] 36)

set_option maxRecDepth 100000 in
set_option maxHeartbeats 2000000 in
theorem copyCond_nil (ck ak bk : Int) (w : World) : Calls Tryz.prog 58 #[condV ck ak bk] w fun e w' => e = .returned (condV ck ak bk) ∧ ∃ q, w' = (condW ck ak bk w).drewN q := by
  have HE : Hid (∀ k n s w, Calls Tryz.prog 57 #[exprV k n s (.slice none 0 0)] w fun e w' => e = .returned (exprV k n s (.slice none 0 0)) ∧ w' = (w.alloc (.cells #[.int .i64 k, .int .i64 n, .string s, .slice none 0 0] 36)).alloc (.cells #[.int .i64 k, .int .i64 n, .string s, .slice none 0 0] 36)) := Lib.hid copyExpr_nil
  go_enter Tryz.func58, Tryz.ntmps58
  go_wp2_with (go_at_call 94; refine (cl_cond _ _).mono ?_; rintro e w1 ⟨rfl, rfl⟩)
  go_region_with (go_at_call 57; refine (HE.out _ _ _ _).mono ?_; rintro e w2 ⟨rfl, rfl⟩)
  all_goals (go_wp2_with (go_at_call 94; refine (cl_cond _ _).mono ?_; rintro e w1 ⟨rfl, rfl⟩))
  all_goals
    refine bodyPost_ret (results_cell_row rfl _ _ (w.heap.size + 1) 39 #[.int .i64 ck, .int .i64 ak, .int .i64 0, .string ⟨#[]⟩, .slice none 0 0, .int .i64 bk, .int .i64 0, .string ⟨#[]⟩, .slice none 0 0, .slice none 0 0] (0, 0) _ rfl ?_ Tryz.underlying39 rfl (by kernel_rfl)) rfl ?_
    · repeat first
        | exact heap_alloc2_new _ _ _
        | apply heap_drew
        | apply heap_keep
    · refine ⟨rfl, ?_⟩
      first
        | exact ⟨0, rfl⟩
        | exact ⟨1, rfl⟩
        | exact ⟨2, rfl⟩
        | exact ⟨3, rfl⟩
        | exact ⟨4, rfl⟩

end Go.Proofs.YtllfkgggolfojaaGreatDoor
