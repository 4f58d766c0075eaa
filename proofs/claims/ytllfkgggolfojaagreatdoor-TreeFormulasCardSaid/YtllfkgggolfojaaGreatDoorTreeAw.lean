/-
  awake's expression: tree.Expr and tree.Vars at it.
  awake: what its walk says.
-/
import Derived.Test.YtllfkgggolfojaaGreatDoorTreeXe
import Derived.Test.YtllfkgggolfojaaGreatDoorTreeV
import Derived.Test.YtllfkgggolfojaaGreatDoorTreeC
import Derived.Test.YtllfkgggolfojaaGreatDoorTreeW
import Derived.Great.BuildSlice
import Derived.Great.FillDense
namespace Go.Proofs.YtllfkgggolfojaaGreatDoor
open Go.RowKit
open Go.Sort

abbrev rowTwo : Array Value := #[.int .i64 2, .int .i64 0, .string ⟨#[121]⟩, .slice none 0 0, .int .i64 2, .int .i64 0, .string ⟨#[120]⟩, .slice none 0 0]
abbrev rowOne (r2 : Nat) : Array Value := #[.int .i64 4, .int .i64 0, .string ⟨#[]⟩, .slice (some ⟨r2, 0, none⟩) 2 2]

/-- Where the expression's rows lie. -/
structure EAt (W : World) (r1 r2 : Nat) : Prop where
  h1 : W.heap[r1]? = some (.cells (rowOne r2) 36 (0, 0))
  h2 : W.heap[r2]? = some (.cells rowTwo 36 (0, 0))

abbrev exTwo : List Ex := [.mk 2 0 [121] [], .mk 2 0 [120] []]
abbrev exOne : List Ex := [.mk 4 0 [] exTwo]

theorem EAt.lt1 {W : World} {r1 r2 : Nat} (h : EAt W r1 r2) : r1 < W.heap.size := (Array.getElem?_eq_some_iff.1 h.h1).1
theorem EAt.lt2 {W : World} {r1 r2 : Nat} (h : EAt W r1 r2) : r2 < W.heap.size := (Array.getElem?_eq_some_iff.1 h.h2).1

theorem EAt.stay {W W' : World} {r1 r2 : Nat} (h : EAt W r1 r2) (hb : Below W.heap.size W W') : EAt W' r1 r2 := ⟨kept_box hb h.h1, kept_box hb h.h2⟩

theorem EAt.two {W : World} {r1 r2 : Nat} (h : EAt W r1 r2) : ExRow W W.heap.size exTwo (some ⟨r2, 0, none⟩) := by
  refine .row _ _ (fun _ => none) (fun _ => 0) h.lt2 (fun i k n s l hi => ?_) (fun i k n s l hi => ?_)
  · match i, hi with
    | 0, hi =>
      injection hi with hi; injection hi with e1 e2 e3 e4; subst e1 e2 e3 e4
      simp only [add_block0]
      exact ⟨cell_of_block h.h2 0 rfl, cell_of_block h.h2 1 rfl, cell_of_block h.h2 2 rfl, cell_of_block h.h2 3 rfl, by decide, by decide⟩
    | 1, hi =>
      injection hi with hi; injection hi with e1 e2 e3 e4; subst e1 e2 e3 e4
      simp only [add_add_plain, add_block0]
      exact ⟨cell_of_block h.h2 4 rfl, cell_of_block h.h2 5 rfl, cell_of_block h.h2 6 rfl, cell_of_block h.h2 7 rfl, by decide, by decide⟩
    | i + 2, hi => simp at hi
  · match i, hi with
    | 0, hi => injection hi with hi; injection hi with e1 e2 e3 e4; subst e4; exact .nil _
    | 1, hi => injection hi with hi; injection hi with e1 e2 e3 e4; subst e4; exact .nil _
    | i + 2, hi => simp at hi

theorem EAt.one {W : World} {r1 r2 : Nat} (h : EAt W r1 r2) : ExRow W W.heap.size exOne (some ⟨r1, 0, none⟩) := by
  refine .row _ _ (fun _ => some ⟨r2, 0, none⟩) (fun _ => 2) h.lt1 (fun i k n s l hi => ?_) (fun i k n s l hi => ?_)
  · match i, hi with
    | 0, hi =>
      injection hi with hi; injection hi with e1 e2 e3 e4; subst e1 e2 e3 e4
      simp only [add_block0]
      exact ⟨cell_of_block h.h1 0 rfl, cell_of_block h.h1 1 rfl, cell_of_block h.h1 2 rfl, cell_of_block h.h1 3 rfl, by decide, by decide⟩
    | i + 1, hi => simp at hi
  · match i, hi with
    | 0, hi => injection hi with hi; injection hi with e1 e2 e3 e4; subst e4; exact h.two
    | i + 1, hi => simp at hi

set_option maxRecDepth 100000 in
theorem vE_awake : vE varB 1125899906842624 30 (.mk 6 2 [] exOne) = true := by kernel_rfl

theorem e_expr (r1 r2 : Nat) (W : World) (h : EAt W r1 r2) :
    Calls Tryz.prog 13 #[exprV 6 2 ⟨#[]⟩ (.slice (some ⟨r1, 0, none⟩) 1 1)] W fun e w' => e = .returned (.bool true) ∧ Below W.heap.size W w' := by
  have := texpr_any 6 2 [] exOne (some ⟨r1, 0, none⟩) 1 W h.one (by decide) (by decide)
  rw [vE_awake] at this
  exact this

theorem sort_yx : [[121], [120]].mergeSort (fun (x y : List UInt8) => decide (x ≤ y)) = [[120], [121]] := by
  simp [List.mergeSort, List.merge, List.MergeSort.Internal.splitInTwo]
  decide
theorem sort_xy : [[120], [121]].mergeSort (fun (x y : List UInt8) => decide (x ≤ y)) = [[120], [121]] := by
  simp [List.mergeSort, List.merge, List.MergeSort.Internal.splitInTwo]
  decide

theorem putted_perm (ss : List (List UInt8)) (h : ss.Perm [[121], [120]]) : (ss.mergeSort (fun x y => decide (x ≤ y))).map encStr = [.string ⟨#[120]⟩, .string ⟨#[121]⟩] := by
  have hl := h.length_eq
  match ss, hl with
  | [a, b], _ =>
    have h1 := h.mem_iff (a := a)
    have h2 := h.mem_iff (a := b)
    have h3 := h.mem_iff (a := [121])
    have h4 := h.mem_iff (a := [120])
    simp only [List.mem_cons, List.not_mem_nil, or_false, true_or, or_true, true_iff, iff_true] at h1 h2 h3 h4
    rcases h1 with rfl | rfl
    · rcases h2 with rfl | rfl
      · simp at h4
      · rw [sort_yx]; rfl
    · rcases h2 with rfl | rfl
      · rw [sort_xy]; rfl
      · simp at h3

/-- tree.Vars at it: a new row of x and y. -/
theorem e_vars (r1 r2 : Nat) (W : World) (h : EAt W r1 r2) :
    Calls Tryz.prog 17 #[exprV 6 2 ⟨#[]⟩ (.slice (some ⟨r1, 0, none⟩) 1 1)] W fun e w' => ∃ g c, e = .returned (.slice (some ⟨g, 0, none⟩) 2 c) ∧ w'.cell? ⟨g, 0, none⟩ = some (.string ⟨#[120]⟩) ∧ w'.cell? ⟨g, 1, none⟩ = some (.string ⟨#[121]⟩) ∧ Below W.heap.size W w' := by
  have hk : (strKeys (((DataW.map [] : DataW Unit).put (.string [121]) (.lit (.bool true))).put (.string [120]) (.lit (.bool true)))).Perm [[121], [120]] := by
    first
      | exact (show _ = [[121], [120]] by kernel_rfl) ▸ List.Perm.refl _
      | exact (show _ = [[120], [121]] by kernel_rfl) ▸ List.Perm.swap _ _ _
      | decide
  refine (vars_any 6 2 ⟨#[]⟩ (some ⟨r1, 0, none⟩) 1 1 2 (((DataW.map []).put (.string [121]) (.lit (.bool true))).put (.string [120]) (.lit (.bool true))) W (by decide) (by decide) (fun W2 b hb hB hN => ?_)).mono fun e w' ⟨v, ss, B, he, hp, hB, hrow, hnil, hbl⟩ => ?_
  · have h2 := h.stay hb
    exact collect_nest 6 2 4 0 (by decide) (by decide) ⟨#[]⟩ ⟨#[]⟩ ⟨#[121]⟩ ⟨#[120]⟩ (by decide) (by decide) ⟨r1, 0, none⟩ ⟨r2, 0, none⟩ 1 2 b 0 (.map []) W2 h2.lt1 (by have := h.lt1; show r1 ≠ b; omega) h2.lt2 (by have := h.lt2; show r2 ≠ b; omega) hN (by decide)
      ⟨by rw [add_block0]; exact cell_of_block h2.h1 0 rfl, by rw [add_add_plain, add_block0]; exact cell_of_block h2.h1 1 rfl, by rw [add_add_plain, add_block0]; exact cell_of_block h2.h1 2 rfl, by rw [add_add_plain, add_block0]; exact cell_of_block h2.h1 3 rfl⟩
      ⟨by rw [add_block0]; exact cell_of_block h2.h2 0 rfl, by rw [add_add_plain, add_block0]; exact cell_of_block h2.h2 1 rfl, by rw [add_add_plain, add_block0]; exact cell_of_block h2.h2 2 rfl, by rw [add_add_plain, add_block0]; exact cell_of_block h2.h2 3 rfl⟩
      ⟨by rw [add_block0]; exact cell_of_block h2.h2 4 rfl, by rw [add_add_plain, add_block0]; exact cell_of_block h2.h2 5 rfl, by rw [add_add_plain, add_block0]; exact cell_of_block h2.h2 6 rfl, by rw [add_add_plain, add_block0]; exact cell_of_block h2.h2 7 rfl⟩
  · replace hp := hp.trans hk
    have hl : ss.length = 2 := hp.length_eq
    rw [putted_perm ss hp, hl] at hrow
    obtain ⟨_, ⟨hv, h0⟩ | ⟨g, cap, cur, hv, hg, hc, h1, h2, h3, h4⟩⟩ := hrow
    · cases h0
    · subst hv
      have hcell : ∀ j x, ([.string ⟨#[120]⟩, .string ⟨#[121]⟩] : List Value)[j]? = some x → w'.cell? ⟨g, j, none⟩ = some x := fun j x hx => by
        refine cell_of_block hc j ?_
        rw [← h4, List.getElem?_take] at hx
        split at hx
        · simpa using hx
        · cases hx
      exact ⟨g, cap, he, hcell 0 _ rfl, hcell 1 _ rfl, hbl⟩

end Go.Proofs.YtllfkgggolfojaaGreatDoor

namespace Go.Proofs.YtllfkgggolfojaaGreatDoor
open Go.RowKit

abbrev condA : Array Value := #[.int .i64 1, .int .i64 3, .int .i64 0, .string ⟨#[]⟩, .slice none 0 0, .int .i64 3, .int .i64 0, .string ⟨#[]⟩, .slice none 0 0, .slice none 0 0]

theorem stmt_hidden3 : ∃ (T N : Nat) (zc : Array Value), 44 = T ∧ N = 24 ∧ zc.size = N ∧ (∀ w : World, (isAgg T).run Tryz.prog w = .ok true w) ∧ (∀ w : World, (sizeOf T).run Tryz.prog w = .ok N w) ∧ (∀ w : World, (zeroValue T).run Tryz.prog w = .ok (.agg zc) w) ∧
    zc = #[.int .i64 0, .int .i64 0, .int .i64 0, .string ⟨#[]⟩, .string ⟨#[]⟩, .string ⟨#[]⟩, .int .i64 0, .int .i64 0, .string ⟨#[]⟩, .slice none 0 0, .int .i64 0, .int .i64 0, .int .i64 0, .string ⟨#[]⟩, .slice none 0 0, .int .i64 0, .int .i64 0, .string ⟨#[]⟩, .slice none 0 0, .slice none 0 0, .slice none 0 0, .slice none 0 0, .slice none 0 0, .slice none 0 0] :=
  ⟨_, 24, #[.int .i64 0, .int .i64 0, .int .i64 0, .string ⟨#[]⟩, .string ⟨#[]⟩, .string ⟨#[]⟩, .int .i64 0, .int .i64 0, .string ⟨#[]⟩, .slice none 0 0, .int .i64 0, .int .i64 0, .int .i64 0, .string ⟨#[]⟩, .slice none 0 0, .int .i64 0, .int .i64 0, .string ⟨#[]⟩, .slice none 0 0, .slice none 0 0, .slice none 0 0, .slice none 0 0, .slice none 0 0, .slice none 0 0], rfl, rfl, rfl, stmt_runs'.1, stmt_runs'.2, (fun w => by kernel_rfl), rfl⟩

/-- The statements of the example, their arrays behind names. -/
theorem one_named : ∃ v : Array Value, (Value.agg #[.int .i64 1, .int .i64 0, .int .i64 0, .string ⟨#[120]⟩, .string ⟨#[]⟩, .string ⟨#[]⟩, .int .i64 1, .int .i64 1, .string ⟨#[]⟩, .slice none 0 0, .int .i64 0, .int .i64 0, .int .i64 0, .string ⟨#[]⟩, .slice none 0 0, .int .i64 0, .int .i64 0, .string ⟨#[]⟩, .slice none 0 0, .slice none 0 0, .slice none 0 0, .slice none 0 0, .slice none 0 0, .slice none 0 0] = .agg v) ∧ NilSt v 1 1 0 0 0 (.slice none 0 0) ∧ v[3]? = some (.string ⟨#[120]⟩) := ⟨_, rfl, ⟨rfl, by kernel_rfl, rfl, rfl, rfl, rfl, rfl, rfl, rfl, rfl, rfl, rfl, rfl, rfl, rfl, rfl, rfl, rfl, rfl, rfl⟩, rfl⟩
theorem two_named : ∃ v : Array Value, (Value.agg #[.int .i64 1, .int .i64 0, .int .i64 0, .string ⟨#[121]⟩, .string ⟨#[]⟩, .string ⟨#[]⟩, .int .i64 1, .int .i64 2, .string ⟨#[]⟩, .slice none 0 0, .int .i64 0, .int .i64 0, .int .i64 0, .string ⟨#[]⟩, .slice none 0 0, .int .i64 0, .int .i64 0, .string ⟨#[]⟩, .slice none 0 0, .slice none 0 0, .slice none 0 0, .slice none 0 0, .slice none 0 0, .slice none 0 0] = .agg v) ∧ NilSt v 1 2 0 0 0 (.slice none 0 0) ∧ v[3]? = some (.string ⟨#[121]⟩) := ⟨_, rfl, ⟨rfl, by kernel_rfl, rfl, rfl, rfl, rfl, rfl, rfl, rfl, rfl, rfl, rfl, rfl, rfl, rfl, rfl, rfl, rfl, rfl, rfl⟩, rfl⟩
theorem while_named (x : Option Addr) : ∃ v : Array Value, (Value.agg #[.int .i64 9, .int .i64 0, .int .i64 0, .string ⟨#[]⟩, .string ⟨#[]⟩, .string ⟨#[]⟩, .int .i64 0, .int .i64 0, .string ⟨#[]⟩, .slice none 0 0, .int .i64 1, .int .i64 3, .int .i64 0, .string ⟨#[]⟩, .slice none 0 0, .int .i64 3, .int .i64 0, .string ⟨#[]⟩, .slice none 0 0, .slice none 0 0, .slice none 0 0, .slice none 0 0, .slice x 1 1, .slice none 0 0] = .agg v) ∧ NilSt v 0 0 1 3 3 (.slice x 1 1) ∧ v[3]? = some (.string ⟨#[]⟩) := ⟨_, rfl, ⟨rfl, by kernel_rfl, rfl, rfl, rfl, rfl, rfl, rfl, rfl, rfl, rfl, rfl, rfl, rfl, rfl, rfl, rfl, rfl, rfl, rfl⟩, rfl⟩

theorem fill_rows (sz : Nat) (his : sz = 24) (zr : Array Value) (vs : List (Array Value)) (h24 : ∀ c ∈ vs, c.size = 24) (hz : zr.size = vs.length * 24) :
    Instr.fill (fun i => some (i * sz, sz)) zr (((vs.map Value.agg).zipIdx 0).map fun x => (x.2, x.1)) = some (flatC vs).toArray := by
  subst his
  have := Go.Great.fill_whole (s := 24) (by decide) (vs.map Value.agg) zr (fun v hv => by
    obtain ⟨c, hc, rfl⟩ := List.mem_map.1 hv
    exact h24 c hc) (by rw [List.length_map, hz])
  rw [this, List.flatMap_map]
  rfl

/-- An operation that yields v, told which slot it fills. -/
theorem wpListIn_value {F : Fence} {n : Nat} {P : Program} {ops : Array Oper} {rest : List Oper} {o : Oper} {a : Act} {w : World} {Q : Exit → Act → World → Prop} (d : Nat) (hd : o.dst = some d) (hg : o.guard = none) (hnd : ∀ c, o.op ≠ .defer c) (hab : o.about P w a.eval = none) (v : Value) (hrun : (execOp a.eval o).run P w = .ok (.value v) w)
    (hK : wpListIn F n P ops Q rest (a.put o.dst v) w) : wpListIn F n P ops Q (o :: rest) a w := wpListIn_plain hg fun K hK' => by
  unfold Oper.wpIn
  refine ⟨fun f hf => (by rw [hab] at hf; cases hf), ?_⟩
  rw [Oper.semAt_plain F _ _ hnd, hrun]
  exact hK' _ _ hK

/-- A slice literal of statements. -/
theorem wpListIn_rows {F : Fence} {n : Nat} {ops : Array Oper} {rest : List Oper} {o : Oper} {a : Act} {w : World} {Q : Exit → Act → World → Prop} (d : Nat) (hd : o.dst = some d) (hg : o.guard = none) (len : Nat) (parts : Array (Nat × Operand)) (ho : o.op = .buildSlice 31 len parts) (vs : List (Array Value)) (hlen : vs.length = len) (h0 : 0 < len) (h1 : len ≤ 1000)
    (h24 : ∀ c ∈ vs, c.size = 24) (hparts : parts.toList.map (fun x => (x.1, a.eval x.2)) = ((vs.map Value.agg).zipIdx 0).map fun x => (x.2, x.1)) (N : Nat) (hN : w.heap.size = N)
    (h : wpListIn F n Tryz.prog ops Q rest (a.put (some d) (.slice (some ⟨N, 0, none⟩) len len)) (w.alloc (.cells (flatC vs).toArray 44))) : wpListIn F n Tryz.prog ops Q (o :: rest) a w := by
  obtain ⟨i0, hi, hiz, his, hib⟩ := info_parts infoStmt
  subst hN
  rw [← hd] at h
  refine wpListIn_plain hg fun K hK' => ?_
  unfold Oper.wpIn
  refine ⟨fun f hf => (by simp [Oper.about, ho] at hf), ?_⟩
  rw [Oper.semAt_plain F _ _ (by rw [ho]; intro c hc; cases hc)]
  have e : (parts.map fun (i, x) => (i, a.eval x)).toList = ((vs.map Value.agg).zipIdx 0).map fun x => (x.2, x.1) := by
    rw [← hparts, Array.toList_map]
  unfold execOp
  simp only [ho, Sem.run_bind]
  rw [run_buildSlice w 31 44 len _ _ i0 _ Tryz.underlying31 hi hiz (by rw [his]; omega) (by rw [his]; omega) (by rw [e]; exact fill_rows i0.size his _ vs h24 (by simp [his, hlen]))]
  exact hK' _ _ h

/-- The names that are walked over. -/
def nmA (k : Nat) : List UInt8 := if k = 0 then [] else if k = 1 then [120] else [121]
def nmsA (n : Nat) : List Value := (List.range n).map fun k => .string ⟨(nmA k).toArray⟩

theorem nmsA_succ (n : Nat) : nmsA (n + 1) = nmsA n ++ [.string ⟨(nmA n).toArray⟩] := by
  unfold nmsA
  rw [List.range_succ, List.map_append]
  rfl

def RlA (k : Nat) (cs : Array Value) (_ : World) : Prop := cs.size = 24 ∧ cs.all (·.oneCell') = true ∧ cs[3]? = some (.string ⟨(nmA k).toArray⟩)

theorem NilSt.set22 {cs : Array Value} {ek en ck ak bk : Int} {bd : Value} (h : NilSt cs ek en ck ak bk bd) (x : Option Addr) (n c : Nat) : NilSt (cs.setIfInBounds 22 (.slice x n c)) ek en ck ak bk (.slice x n c) := by
  have e : ∀ {j : Nat} {v : Value}, j ≠ 22 → cs[j]? = some v → (cs.setIfInBounds 22 (.slice x n c))[j]? = some v := fun hj hv => by
    rw [Array.getElem?_setIfInBounds_ne (Ne.symm hj)]; exact hv
  refine ⟨by rw [Array.size_setIfInBounds]; exact h.h24, all_set h.h1 x n c, e (by decide) h.c6, e (by decide) h.c7, e (by decide) h.c8, e (by decide) h.c9, e (by decide) h.c10, e (by decide) h.c11, e (by decide) h.c12, e (by decide) h.c13, e (by decide) h.c14, e (by decide) h.c15, e (by decide) h.c16, e (by decide) h.c17, e (by decide) h.c18, e (by decide) h.c19, e (by decide) h.c20, e (by decide) h.c21, ?_, e (by decide) h.c23⟩
  rw [Array.getElem?_setIfInBounds_self_of_lt (by rw [h.h24]; omega)]

/-- What copyStmt does with each of the three. -/
theorem copies_three {csW csO csT : Array Value} {ek en ck ak bk ek2 en2 ck2 ak2 bk2 ek3 en3 ck3 ak3 bk3 : Int} {x : Option Addr} {c : Nat} (hW : NilSt csW ek en ck ak bk (.slice x 1 c)) (hO : NilSt csO ek2 en2 ck2 ak2 bk2 (.slice none 0 0)) (hT : NilSt csT ek3 en3 ck3 ak3 bk3 (.slice none 0 0))
    (h3W : csW[3]? = some (.string ⟨#[]⟩)) (h3O : csO[3]? = some (.string ⟨#[120]⟩)) (h3T : csT[3]? = some (.string ⟨#[121]⟩)) (g1 : Nat) (w : World) (hg : w.heap[g1]? = some (.cells csO 44 (0, 0)))
    (k : Nat) (cs : Array Value) (W : World) (hk : ([csW.setIfInBounds 22 (.slice (some ⟨g1, 0, none⟩) 1 1), csO, csT] : List (Array Value))[k]? = some cs) (hQ : W.heap[g1]? = w.heap[g1]?) :
    Calls Tryz.prog 32 #[.agg cs, .int .i64 30] W fun e W' => ∃ cs' : Array Value, e = .returned (.agg cs') ∧ RlA k cs' W' ∧ Below W.heap.size W W' := by
  have hg' := hQ.trans hg
  match k, hk with
  | 0, hk =>
    injection hk with hk; subst hk
    refine (while_copy (hW.set22 (some ⟨g1, 0, none⟩) 1 1) hO 30 W (by omega) (by omega) (Array.getElem?_eq_some_iff.1 hg').1 (fun j v hv => by rw [add_block0]; exact cell_of_block hg' j hv)).mono fun e w' ⟨v, he, hv, hb⟩ => ⟨_, he, ?_, hb⟩
    obtain ⟨g, cur, rfl, _⟩ := hv
    refine ⟨by rw [Array.size_setIfInBounds, Array.size_setIfInBounds]; exact hW.h24, all_set (all_set hW.h1 _ _ _) _ _ _, ?_⟩
    rw [Array.getElem?_setIfInBounds_ne (by decide), Array.getElem?_setIfInBounds_ne (by decide)]
    exact h3W
  | 1, hk =>
    injection hk with hk; subst hk
    exact (leaf_copy hO 30 W (by omega) (by omega)).mono fun e w' ⟨he, hb⟩ => ⟨_, he, ⟨hO.h24, hO.h1, h3O⟩, hb⟩
  | 2, hk =>
    injection hk with hk; subst hk
    exact (leaf_copy hT 30 W (by omega) (by omega)).mono fun e w' ⟨he, hb⟩ => ⟨_, he, ⟨hT.h24, hT.h1, h3T⟩, hb⟩
  | k + 3, hk => simp at hk

/-- In the midst of awake's loop: N is the block of names. -/
structure AwSt (N : Nat) (W0 : World) (Pv : Nat → Prop) (pre : List (Nat × Array Value)) (W : World) : Prop where
  row : ∃ A c, W.heap[N]? = some (.cells #[.slice A pre.length c] 50 (0, 0)) ∧ W.ownsRow W0.heap.size 9 1 (.slice A pre.length c) pre.length (nmsA pre.length) ∧ ∀ g, (Value.slice A pre.length c).ownBlock = some g → ¬ Pv g
  off : ∀ b, Pv b → W0.heap.size ≤ b
  size : W0.heap.size ≤ W.heap.size
  keep : ∀ b, b < W0.heap.size → b ≠ N → W.heap[b]? = W0.heap[b]?
  os : W.os = W0.os
  tape : W.tape = W0.tape
  output : W.output = W0.output

theorem AwSt.abid {N : Nat} {W0 : World} (hN : N < W0.heap.size) : Abid (AwSt N W0) := by
  intro Pv Pv' s W W' h hp hn hl
  obtain ⟨A, c, h1, h2, h3⟩ := h.row
  have hno : ∀ b, b < W0.heap.size → ¬ Pv b := fun b hb hp => by have := h.off b hp; omega
  refine ⟨⟨A, c, (hp.block N (Nat.lt_of_lt_of_le hN h.size) (hno N hN)).trans h1, ?_, fun g hg hpg => ?_⟩, fun b hb => ?_, Nat.le_trans h.size hp.size, fun b hb hne => (hp.block b (Nat.lt_of_lt_of_le hb h.size) (hno b hb)).trans (h.keep b hb hne), hp.os.trans h.os, hp.tape.trans h.tape, hp.output.trans h.output⟩
  · obtain ⟨hl0, hr⟩ := h2
    refine ⟨hl0, hr.imp id fun ⟨g, cap, cur, e1, e2, e3, e4⟩ => ⟨g, cap, cur, e1, e2, ?_, e4⟩⟩
    have hgl := (Array.getElem?_eq_some_iff.1 e3).1
    exact (hp.block g hgl (h3 g (by rw [e1]; rfl))).trans e3
  · rcases hn g hpg with hx | hx
    · exact h3 g hg hx
    · have := (h2.lt g hg).2
      omega
  · rcases hn b hb with hb | hb
    · exact h.off b hb
    · exact Nat.le_trans h.size hb

end Go.Proofs.YtllfkgggolfojaaGreatDoor
