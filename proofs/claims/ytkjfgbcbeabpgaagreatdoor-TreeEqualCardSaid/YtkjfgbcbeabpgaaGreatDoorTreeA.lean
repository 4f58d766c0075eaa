/-
  Copies of trees that hold no lists.
-/
import Derived.Test.YtkjfgbcbeabpgaaGreatDoorRows
import Derived.WalkKit
import Derived.WalkSpells
import Derived.WalkLawsBesides
import Derived.Lib.Hide
import Derived.Deep.RegionWith
import Derived.Laws.Rows
import Derived.Test.YtkjfgbcbeabpgaaGreatDoorLexZ
namespace Go.Proofs.YtkjfgbcbeabpgaaGreatDoor
open Go.RowKit

theorem eql_nil {P : Program} (w : World) (t e : TypeId) (h : P.underlying t = some (.slice e)) : (binOp .eql t (.slice none 0 0) (.slice none 0 0)).run P w = .ok (.bool true) w :=
  Lib.run_eql_slice_nil w t e none 0 0 0 0 h

theorem heap_keep {W : World} {o v : Obj} {k : Nat} (h : W.heap[k]? = some v) : (W.alloc o).heap[k]? = some v :=
  (Below.heap_alloc W o k (Array.getElem?_eq_some_iff.1 h).1).trans h

theorem heap_drew {W : World} {v : Obj} {k : Nat} (h : W.heap[k]? = some v) : W.drew.heap[k]? = some v := h

abbrev exprV (k n : Int) (s : ByteArray) (l : Value) : Value := .agg #[.int .i64 k, .int .i64 n, .string s, l]

set_option maxRecDepth 100000 in
theorem cl_expr (f : Value) (w : World) : Calls Tryz.prog 173 #[.slice none 0 0, f] w fun e w' => e = .returned (.slice none 0 0) ∧ w' = w := by
  have hq := fun w => eql_nil (P := Tryz.prog) w 22 _ Tryz.underlying22
  go_enter Tryz.func173, Tryz.ntmps173
  go_wp2
  go_ret
  exact ⟨rfl, rfl⟩

set_option maxRecDepth 100000 in
theorem cl_cond (f : Value) (w : World) : Calls Tryz.prog 174 #[.slice none 0 0, f] w fun e w' => e = .returned (.slice none 0 0) ∧ w' = w := by
  have hq := fun w => eql_nil (P := Tryz.prog) w 25 _ Tryz.underlying25
  go_enter Tryz.func174, Tryz.ntmps174
  go_wp2
  go_ret
  exact ⟨rfl, rfl⟩

set_option maxRecDepth 100000 in
theorem cl_call (f : Value) (w : World) : Calls Tryz.prog 133 #[.slice none 0 0, f] w fun e w' => e = .returned (.slice none 0 0) ∧ w' = w := by
  have hq := fun w => eql_nil (P := Tryz.prog) w 65 _ Tryz.underlying65
  go_enter Tryz.func133, Tryz.ntmps133
  go_wp2
  go_ret
  exact ⟨rfl, rfl⟩

set_option maxRecDepth 100000 in
theorem cl_formula (f : Value) (w : World) : Calls Tryz.prog 135 #[.slice none 0 0, f] w fun e w' => e = .returned (.slice none 0 0) ∧ w' = w := by
  have hq := fun w => eql_nil (P := Tryz.prog) w 40 _ Tryz.underlying40
  go_enter Tryz.func135, Tryz.ntmps135
  go_wp2
  go_ret
  exact ⟨rfl, rfl⟩

set_option maxRecDepth 100000 in
theorem cl_stmt (f : Value) (w : World) : Calls Tryz.prog 171 #[.slice none 0 0, f] w fun e w' => e = .returned (.slice none 0 0) ∧ w' = w := by
  have hq := fun w => eql_nil (P := Tryz.prog) w 42 _ Tryz.underlying42
  go_enter Tryz.func171, Tryz.ntmps171
  go_wp2
  go_ret
  exact ⟨rfl, rfl⟩

set_option maxRecDepth 100000 in
set_option maxHeartbeats 1000000 in
theorem copyExpr_nil (k n : Int) (s : ByteArray) (w : World) : Calls Tryz.prog 131 #[exprV k n s (.slice none 0 0)] w fun e w' => e = .returned (exprV k n s (.slice none 0 0)) ∧ w' = (w.alloc (.cells #[.int .i64 k, .int .i64 n, .string s, .slice none 0 0] 24)).alloc (.cells #[.int .i64 k, .int .i64 n, .string s, .slice none 0 0] 24) := by
  go_enter Tryz.func131, Tryz.ntmps131
  go_wp2_with (go_at_call 173; refine (cl_expr _ _).mono ?_; rintro e w1 ⟨rfl, rfl⟩)
  refine bodyPost_ret (results_cell_row rfl _ _ (w.heap.size + 1) 24 #[.int .i64 k, .int .i64 n, .string s, .slice none 0 0] (0, 0) _ rfl (heap_alloc2_new _ _ _) Tryz.underlying24 rfl (by kernel_rfl)) rfl ?_
  exact ⟨rfl, rfl⟩

abbrev condV (ck ak bk : Int) : Value := .agg #[.int .i64 ck, .int .i64 ak, .int .i64 0, .string ⟨#[]⟩, .slice none 0 0, .int .i64 bk, .int .i64 0, .string ⟨#[]⟩, .slice none 0 0, .slice none 0 0]

/-- What a call of copyCond makes. -/
abbrev condW (ck ak bk : Int) (w : World) : World :=
  (((((w.alloc (.cells #[.int .i64 ck, .int .i64 ak, .int .i64 0, .string ⟨#[]⟩, .slice none 0 0, .int .i64 bk, .int .i64 0, .string ⟨#[]⟩, .slice none 0 0, .slice none 0 0] 27)).alloc
    (.cells #[.int .i64 ck, .int .i64 ak, .int .i64 0, .string ⟨#[]⟩, .slice none 0 0, .int .i64 bk, .int .i64 0, .string ⟨#[]⟩, .slice none 0 0, .slice none 0 0] 27)).alloc
    (.cells #[.int .i64 ak, .int .i64 0, .string ⟨#[]⟩, .slice none 0 0] 24)).alloc (.cells #[.int .i64 ak, .int .i64 0, .string ⟨#[]⟩, .slice none 0 0] 24)).alloc
    (.cells #[.int .i64 bk, .int .i64 0, .string ⟨#[]⟩, .slice none 0 0] 24)).alloc (.cells #[.int .i64 bk, .int .i64 0, .string ⟨#[]⟩, .slice none 0 0] 24)

set_option maxRecDepth 100000 in
set_option maxHeartbeats 2000000 in
theorem copyCond_nil (ck ak bk : Int) (w : World) : Calls Tryz.prog 132 #[condV ck ak bk] w fun e w' => e = .returned (condV ck ak bk) ∧ ∃ q, w' = (condW ck ak bk w).drewN q := by
  have HE : Hid (∀ k n s w, Calls Tryz.prog 131 #[exprV k n s (.slice none 0 0)] w fun e w' => e = .returned (exprV k n s (.slice none 0 0)) ∧ w' = (w.alloc (.cells #[.int .i64 k, .int .i64 n, .string s, .slice none 0 0] 24)).alloc (.cells #[.int .i64 k, .int .i64 n, .string s, .slice none 0 0] 24)) := Lib.hid copyExpr_nil
  go_enter Tryz.func132, Tryz.ntmps132
  go_wp2_with (go_at_call 174; refine (cl_cond _ _).mono ?_; rintro e w1 ⟨rfl, rfl⟩)
  go_region_with (go_at_call 131; refine (HE.out _ _ _ _).mono ?_; rintro e w2 ⟨rfl, rfl⟩)
  all_goals (go_wp2_with (go_at_call 174; refine (cl_cond _ _).mono ?_; rintro e w1 ⟨rfl, rfl⟩))
  all_goals
    refine bodyPost_ret (results_cell_row rfl _ _ (w.heap.size + 1) 27 #[.int .i64 ck, .int .i64 ak, .int .i64 0, .string ⟨#[]⟩, .slice none 0 0, .int .i64 bk, .int .i64 0, .string ⟨#[]⟩, .slice none 0 0, .slice none 0 0] (0, 0) _ rfl ?_ Tryz.underlying27 rfl (by kernel_rfl)) rfl ?_
    · repeat first
        | exact heap_alloc2_new _ _ _
        | apply heap_drew
        | apply heap_keep
    · refine ⟨rfl, ?_⟩
      first
        | exact ⟨0, rfl⟩
        | exact ⟨1, rfl⟩
        | exact ⟨2, rfl⟩
        | exact ⟨3, rfl⟩
        | exact ⟨4, rfl⟩

end Go.Proofs.YtkjfgbcbeabpgaaGreatDoor
