/-
  awake's expression: tree.Expr and tree.Vars at it. awake: what its walk says.
  awake returns true.
-/
import Derived.Test.YtllfkgggolfojaaGreatDoorTreeXe
import Derived.Test.YtllfkgggolfojaaGreatDoorTreeV
import Derived.Test.YtllfkgggolfojaaGreatDoorTreeC
import Derived.Great.BuildSlice
import Derived.Great.FillDense
import Derived.Test.YtllfkgggolfojaaGreatDoorTreeAp
import Derived.Stop.RegionWithIn
namespace Go.Proofs.YtllfkgggolfojaaGreatDoor
open Go.RowKit
open Go.Sort

abbrev rowTwo : Array Value := #[.int .i64 2, .int .i64 0, .string ⟨#[121]⟩, .slice none 0 0, .int .i64 2, .int .i64 0, .string ⟨#[120]⟩, .slice none 0 0]
abbrev rowOne (r2 : Nat) : Array Value := #[.int .i64 4, .int .i64 0, .string ⟨#[]⟩, .slice (some ⟨r2, 0, none⟩) 2 2]

/-- Where the expression's rows lie. -/
structure EAt (W : World) (r1 r2 : Nat) : Prop where
  h1 : W.heap[r1]? = some (.cells (rowOne r2) 36 (0, 0))
  h2 : W.heap[r2]? = some (.cells rowTwo 36 (0, 0))

abbrev exTwo : List Ex := [.mk 2 0 [121] [], .mk 2 0 [120] []]
abbrev exOne : List Ex := [.mk 4 0 [] exTwo]

theorem EAt.lt1 {W : World} {r1 r2 : Nat} (h : EAt W r1 r2) : r1 < W.heap.size := (Array.getElem?_eq_some_iff.1 h.h1).1
theorem EAt.lt2 {W : World} {r1 r2 : Nat} (h : EAt W r1 r2) : r2 < W.heap.size := (Array.getElem?_eq_some_iff.1 h.h2).1

theorem EAt.stay {W W' : World} {r1 r2 : Nat} (h : EAt W r1 r2) (hb : Below W.heap.size W W') : EAt W' r1 r2 := ⟨kept_box hb h.h1, kept_box hb h.h2⟩

theorem EAt.two {W : World} {r1 r2 : Nat} (h : EAt W r1 r2) : ExRow W W.heap.size exTwo (some ⟨r2, 0, none⟩) := by
  refine .row _ _ (fun _ => none) (fun _ => 0) h.lt2 (fun i k n s l hi => ?_) (fun i k n s l hi => ?_)
  · match i, hi with
    | 0, hi =>
      injection hi with hi; injection hi with e1 e2 e3 e4; subst e1 e2 e3 e4
      simp only [add_block0]
      exact ⟨cell_of_block h.h2 0 rfl, cell_of_block h.h2 1 rfl, cell_of_block h.h2 2 rfl, cell_of_block h.h2 3 rfl, by decide, by decide⟩
    | 1, hi =>
      injection hi with hi; injection hi with e1 e2 e3 e4; subst e1 e2 e3 e4
      simp only [add_block0]
      exact ⟨cell_of_block h.h2 4 rfl, cell_of_block h.h2 5 rfl, cell_of_block h.h2 6 rfl, cell_of_block h.h2 7 rfl, by decide, by decide⟩
    | i + 2, hi => simp at hi
  · match i, hi with
    | 0, hi => injection hi with hi; injection hi with e1 e2 e3 e4; subst e4; exact .nil _
    | 1, hi => injection hi with hi; injection hi with e1 e2 e3 e4; subst e4; exact .nil _
    | i + 2, hi => simp at hi

theorem EAt.one {W : World} {r1 r2 : Nat} (h : EAt W r1 r2) : ExRow W W.heap.size exOne (some ⟨r1, 0, none⟩) := by
  refine .row _ _ (fun _ => some ⟨r2, 0, none⟩) (fun _ => 2) h.lt1 (fun i k n s l hi => ?_) (fun i k n s l hi => ?_)
  · match i, hi with
    | 0, hi =>
      injection hi with hi; injection hi with e1 e2 e3 e4; subst e1 e2 e3 e4
      simp only [add_block0]
      exact ⟨cell_of_block h.h1 0 rfl, cell_of_block h.h1 1 rfl, cell_of_block h.h1 2 rfl, cell_of_block h.h1 3 rfl, by decide, by decide⟩
    | i + 1, hi => simp at hi
  · match i, hi with
    | 0, hi => injection hi with hi; injection hi with e1 e2 e3 e4; subst e4; exact h.two
    | i + 1, hi => simp at hi

set_option maxRecDepth 100000 in
theorem vE_awake : vE varB 1125899906842624 30 (.mk 6 2 [] exOne) = true := by kernel_rfl

theorem e_expr (r1 r2 : Nat) (W : World) (h : EAt W r1 r2) :
    Calls Tryz.prog 13 #[exprV 6 2 ⟨#[]⟩ (.slice (some ⟨r1, 0, none⟩) 1 1)] W fun e w' => e = .returned (.bool true) ∧ Below W.heap.size W w' := by
  have := texpr_any 6 2 [] exOne (some ⟨r1, 0, none⟩) 1 W h.one (by decide) (by decide)
  rw [vE_awake] at this
  exact this

theorem sort_yx : [[121], [120]].mergeSort (fun (x y : List UInt8) => decide (x ≤ y)) = [[120], [121]] := by
  simp [List.mergeSort, List.merge, List.MergeSort.Internal.splitInTwo]
  decide
theorem sort_xy : [[120], [121]].mergeSort (fun (x y : List UInt8) => decide (x ≤ y)) = [[120], [121]] := by
  simp [List.mergeSort, List.merge, List.MergeSort.Internal.splitInTwo]
  decide

theorem putted_perm (ss : List (List UInt8)) (h : ss.Perm [[121], [120]]) : (ss.mergeSort (fun x y => decide (x ≤ y))).map encStr = [.string ⟨#[120]⟩, .string ⟨#[121]⟩] := by
  have hl := h.length_eq
  match ss, hl with
  | [a, b], _ =>
    have h1 := h.mem_iff (a := a)
    have h2 := h.mem_iff (a := b)
    have h3 := h.mem_iff (a := [121])
    have h4 := h.mem_iff (a := [120])
    simp only [List.mem_cons, List.not_mem_nil, or_false, true_or, or_true, true_iff, iff_true] at h1 h2 h3 h4
    rcases h1 with rfl | rfl
    · rcases h2 with rfl | rfl
      · simp at h4
      · rw [sort_yx]; rfl
    · rcases h2 with rfl | rfl
      · rw [sort_xy]; rfl
      · simp at h3

/-- tree.Vars at it: a new row of x and y. -/
theorem e_vars (r1 r2 : Nat) (W : World) (h : EAt W r1 r2) :
    Calls Tryz.prog 17 #[exprV 6 2 ⟨#[]⟩ (.slice (some ⟨r1, 0, none⟩) 1 1)] W fun e w' => ∃ g c, e = .returned (.slice (some ⟨g, 0, none⟩) 2 c) ∧ w'.cell? ⟨g, 0, none⟩ = some (.string ⟨#[120]⟩) ∧ w'.cell? ⟨g, 1, none⟩ = some (.string ⟨#[121]⟩) ∧ Below W.heap.size W w' := by
  have hk : (strKeys (((DataW.map [] : DataW Unit).put (.string [121]) (.lit (.bool true))).put (.string [120]) (.lit (.bool true)))).Perm [[121], [120]] := by
    first
      | exact (show _ = [[121], [120]] by kernel_rfl) ▸ List.Perm.refl _
      | exact (show _ = [[120], [121]] by kernel_rfl) ▸ List.Perm.swap _ _ _
      | decide
  refine (vars_any 6 2 ⟨#[]⟩ (some ⟨r1, 0, none⟩) 1 1 2 (((DataW.map []).put (.string [121]) (.lit (.bool true))).put (.string [120]) (.lit (.bool true))) W (by decide) (by decide) (fun W2 b hb hB hN => ?_)).mono fun e w' ⟨v, ss, B, he, hp, hB, hrow, hnil, hbl⟩ => ?_
  · have h2 := h.stay hb
    exact collect_nest 6 2 4 0 (by decide) (by decide) ⟨#[]⟩ ⟨#[]⟩ ⟨#[121]⟩ ⟨#[120]⟩ (by decide) (by decide) ⟨r1, 0, none⟩ ⟨r2, 0, none⟩ 1 2 b 0 (.map []) W2 h2.lt1 (by have := h.lt1; show r1 ≠ b; omega) h2.lt2 (by have := h.lt2; show r2 ≠ b; omega) hN (by decide)
      ⟨by rw [add_block0]; exact cell_of_block h2.h1 0 rfl, by rw [add_add_plain, add_block0]; exact cell_of_block h2.h1 1 rfl, by rw [add_add_plain, add_block0]; exact cell_of_block h2.h1 2 rfl, by rw [add_add_plain, add_block0]; exact cell_of_block h2.h1 3 rfl⟩
      ⟨by rw [add_block0]; exact cell_of_block h2.h2 0 rfl, by rw [add_add_plain, add_block0]; exact cell_of_block h2.h2 1 rfl, by rw [add_add_plain, add_block0]; exact cell_of_block h2.h2 2 rfl, by rw [add_add_plain, add_block0]; exact cell_of_block h2.h2 3 rfl⟩
      ⟨by rw [add_block0]; exact cell_of_block h2.h2 4 rfl, by rw [add_add_plain, add_block0]; exact cell_of_block h2.h2 5 rfl, by rw [add_add_plain, add_block0]; exact cell_of_block h2.h2 6 rfl, by rw [add_add_plain, add_block0]; exact cell_of_block h2.h2 7 rfl⟩
  · replace hp := hp.trans hk
    have hl : ss.length = 2 := hp.length_eq
    rw [putted_perm ss hp, hl] at hrow
    obtain ⟨_, ⟨hv, h0⟩ | ⟨g, cap, cur, hv, hg, hc, h1, h2, h3, h4⟩⟩ := hrow
    · cases h0
    · subst hv
      have hcell : ∀ j x, ([.string ⟨#[120]⟩, .string ⟨#[121]⟩] : List Value)[j]? = some x → w'.cell? ⟨g, j, none⟩ = some x := fun j x hx => by
        refine cell_of_block hc j ?_
        rw [← h4, List.getElem?_take] at hx
        split at hx
        · simpa using hx
        · cases hx
      exact ⟨g, cap, he, hcell 0 _ rfl, hcell 1 _ rfl, hbl⟩

end Go.Proofs.YtllfkgggolfojaaGreatDoor

namespace Go.Proofs.YtllfkgggolfojaaGreatDoor
open Go.RowKit

abbrev condA : Array Value := #[.int .i64 1, .int .i64 3, .int .i64 0, .string ⟨#[]⟩, .slice none 0 0, .int .i64 3, .int .i64 0, .string ⟨#[]⟩, .slice none 0 0, .slice none 0 0]

theorem stmt_hidden3 : ∃ (T N : Nat) (zc : Array Value), 44 = T ∧ N = 24 ∧ zc.size = N ∧ (∀ w : World, (isAgg T).run Tryz.prog w = .ok true w) ∧ (∀ w : World, (sizeOf T).run Tryz.prog w = .ok N w) ∧ (∀ w : World, (zeroValue T).run Tryz.prog w = .ok (.agg zc) w) ∧
    zc = #[.int .i64 0, .int .i64 0, .int .i64 0, .string ⟨#[]⟩, .string ⟨#[]⟩, .string ⟨#[]⟩, .int .i64 0, .int .i64 0, .string ⟨#[]⟩, .slice none 0 0, .int .i64 0, .int .i64 0, .int .i64 0, .string ⟨#[]⟩, .slice none 0 0, .int .i64 0, .int .i64 0, .string ⟨#[]⟩, .slice none 0 0, .slice none 0 0, .slice none 0 0, .slice none 0 0, .slice none 0 0, .slice none 0 0] :=
  ⟨_, 24, #[.int .i64 0, .int .i64 0, .int .i64 0, .string ⟨#[]⟩, .string ⟨#[]⟩, .string ⟨#[]⟩, .int .i64 0, .int .i64 0, .string ⟨#[]⟩, .slice none 0 0, .int .i64 0, .int .i64 0, .int .i64 0, .string ⟨#[]⟩, .slice none 0 0, .int .i64 0, .int .i64 0, .string ⟨#[]⟩, .slice none 0 0, .slice none 0 0, .slice none 0 0, .slice none 0 0, .slice none 0 0, .slice none 0 0], rfl, rfl, rfl, stmt_runs'.1, stmt_runs'.2, (fun w => by kernel_rfl), rfl⟩

/-- The statements of the example, their arrays behind names. -/
theorem one_named : ∃ v : Array Value, (Value.agg #[.int .i64 1, .int .i64 0, .int .i64 0, .string ⟨#[120]⟩, .string ⟨#[]⟩, .string ⟨#[]⟩, .int .i64 1, .int .i64 1, .string ⟨#[]⟩, .slice none 0 0, .int .i64 0, .int .i64 0, .int .i64 0, .string ⟨#[]⟩, .slice none 0 0, .int .i64 0, .int .i64 0, .string ⟨#[]⟩, .slice none 0 0, .slice none 0 0, .slice none 0 0, .slice none 0 0, .slice none 0 0, .slice none 0 0] = .agg v) ∧ NilSt v 1 1 0 0 0 (.slice none 0 0) ∧ v[3]? = some (.string ⟨#[120]⟩) := ⟨_, rfl, ⟨rfl, by kernel_rfl, rfl, rfl, rfl, rfl, rfl, rfl, rfl, rfl, rfl, rfl, rfl, rfl, rfl, rfl, rfl, rfl, rfl, rfl⟩, rfl⟩
theorem two_named : ∃ v : Array Value, (Value.agg #[.int .i64 1, .int .i64 0, .int .i64 0, .string ⟨#[121]⟩, .string ⟨#[]⟩, .string ⟨#[]⟩, .int .i64 1, .int .i64 2, .string ⟨#[]⟩, .slice none 0 0, .int .i64 0, .int .i64 0, .int .i64 0, .string ⟨#[]⟩, .slice none 0 0, .int .i64 0, .int .i64 0, .string ⟨#[]⟩, .slice none 0 0, .slice none 0 0, .slice none 0 0, .slice none 0 0, .slice none 0 0, .slice none 0 0] = .agg v) ∧ NilSt v 1 2 0 0 0 (.slice none 0 0) ∧ v[3]? = some (.string ⟨#[121]⟩) := ⟨_, rfl, ⟨rfl, by kernel_rfl, rfl, rfl, rfl, rfl, rfl, rfl, rfl, rfl, rfl, rfl, rfl, rfl, rfl, rfl, rfl, rfl, rfl, rfl⟩, rfl⟩
theorem while_named (x : Option Addr) : ∃ v : Array Value, (Value.agg #[.int .i64 9, .int .i64 0, .int .i64 0, .string ⟨#[]⟩, .string ⟨#[]⟩, .string ⟨#[]⟩, .int .i64 0, .int .i64 0, .string ⟨#[]⟩, .slice none 0 0, .int .i64 1, .int .i64 3, .int .i64 0, .string ⟨#[]⟩, .slice none 0 0, .int .i64 3, .int .i64 0, .string ⟨#[]⟩, .slice none 0 0, .slice none 0 0, .slice none 0 0, .slice none 0 0, .slice x 1 1, .slice none 0 0] = .agg v) ∧ NilSt v 0 0 1 3 3 (.slice x 1 1) ∧ v[3]? = some (.string ⟨#[]⟩) := ⟨_, rfl, ⟨rfl, by kernel_rfl, rfl, rfl, rfl, rfl, rfl, rfl, rfl, rfl, rfl, rfl, rfl, rfl, rfl, rfl, rfl, rfl, rfl, rfl⟩, rfl⟩

theorem fill_rows (sz : Nat) (his : sz = 24) (zr : Array Value) (vs : List (Array Value)) (h24 : ∀ c ∈ vs, c.size = 24) (hz : zr.size = vs.length * 24) :
    Instr.fill (fun i => some (i * sz, sz)) zr (((vs.map Value.agg).zipIdx 0).map fun x => (x.2, x.1)) = some (flatC vs).toArray := by
  subst his
  have := Go.Great.fill_whole (s := 24) (by decide) (vs.map Value.agg) zr (fun v hv => by
    obtain ⟨c, hc, rfl⟩ := List.mem_map.1 hv
    exact h24 c hc) (by rw [List.length_map, hz])
  rw [this, List.flatMap_map]
  rfl

/-- An operation that yields v, told which slot it fills. -/
theorem wpListIn_value {F : Fence} {n : Nat} {P : Program} {ops : Array Oper} {rest : List Oper} {o : Oper} {a : Act} {w : World} {Q : Exit → Act → World → Prop} (d : Nat) (_hd : o.dst = some d) (hg : o.guard = none) (hnd : ∀ c, o.op ≠ .defer c) (hab : o.about P w a.eval = none) (v : Value) (hrun : (execOp a.eval o).run P w = .ok (.value v) w)
    (hK : wpListIn F n P ops Q rest (a.put o.dst v) w) : wpListIn F n P ops Q (o :: rest) a w := wpListIn_plain hg fun K hK' => by
  unfold Oper.wpIn
  refine ⟨fun f hf => (by rw [hab] at hf; cases hf), ?_⟩
  rw [Oper.semAt_plain F _ _ hnd, hrun]
  exact hK' _ _ hK

/-- A slice literal of statements. -/
theorem wpListIn_rows {F : Fence} {n : Nat} {ops : Array Oper} {rest : List Oper} {o : Oper} {a : Act} {w : World} {Q : Exit → Act → World → Prop} (d : Nat) (hd : o.dst = some d) (hg : o.guard = none) (len : Nat) (parts : Array (Nat × Operand)) (ho : o.op = .buildSlice 31 len parts) (vs : List (Array Value)) (hlen : vs.length = len) (h0 : 0 < len) (h1 : len ≤ 1000)
    (h24 : ∀ c ∈ vs, c.size = 24) (hparts : parts.toList.map (fun x => (x.1, a.eval x.2)) = ((vs.map Value.agg).zipIdx 0).map fun x => (x.2, x.1)) (N : Nat) (hN : w.heap.size = N)
    (h : wpListIn F n Tryz.prog ops Q rest (a.put (some d) (.slice (some ⟨N, 0, none⟩) len len)) (w.alloc (.cells (flatC vs).toArray 44))) : wpListIn F n Tryz.prog ops Q (o :: rest) a w := by
  obtain ⟨i0, hi, hiz, his, hib⟩ := info_parts infoStmt
  subst hN
  rw [← hd] at h
  refine wpListIn_plain hg fun K hK' => ?_
  unfold Oper.wpIn
  refine ⟨fun f hf => (by simp [Oper.about, ho] at hf), ?_⟩
  rw [Oper.semAt_plain F _ _ (by rw [ho]; intro c hc; cases hc)]
  have e : (parts.map fun (i, x) => (i, a.eval x)).toList = ((vs.map Value.agg).zipIdx 0).map fun x => (x.2, x.1) := by
    rw [← hparts, Array.toList_map]
  unfold execOp
  simp only [ho, Sem.run_bind]
  rw [run_buildSlice w 31 44 len _ _ i0 _ Tryz.underlying31 hi hiz (by rw [his]; omega) (by rw [his]; omega) (by rw [e]; exact fill_rows i0.size his _ vs h24 (by simp [his, hlen]))]
  exact hK' _ _ h

/-- The names that are walked over. -/
def nmA (k : Nat) : List UInt8 := if k = 0 then [] else if k = 1 then [120] else [121]
def nmsA (n : Nat) : List Value := (List.range n).map fun k => .string ⟨(nmA k).toArray⟩

theorem nmsA_succ (n : Nat) : nmsA (n + 1) = nmsA n ++ [.string ⟨(nmA n).toArray⟩] := by
  unfold nmsA
  rw [List.range_succ, List.map_append]
  rfl

def RlA (k : Nat) (cs : Array Value) (_ : World) : Prop := cs.size = 24 ∧ cs.all (·.oneCell') = true ∧ cs[3]? = some (.string ⟨(nmA k).toArray⟩)

theorem NilSt.set22 {cs : Array Value} {ek en ck ak bk : Int} {bd : Value} (h : NilSt cs ek en ck ak bk bd) (x : Option Addr) (n c : Nat) : NilSt (cs.setIfInBounds 22 (.slice x n c)) ek en ck ak bk (.slice x n c) := by
  have e : ∀ {j : Nat} {v : Value}, j ≠ 22 → cs[j]? = some v → (cs.setIfInBounds 22 (.slice x n c))[j]? = some v := fun hj hv => by
    rw [Array.getElem?_setIfInBounds_ne (Ne.symm hj)]; exact hv
  refine ⟨by rw [Array.size_setIfInBounds]; exact h.h24, all_set h.h1 x n c, e (by decide) h.c6, e (by decide) h.c7, e (by decide) h.c8, e (by decide) h.c9, e (by decide) h.c10, e (by decide) h.c11, e (by decide) h.c12, e (by decide) h.c13, e (by decide) h.c14, e (by decide) h.c15, e (by decide) h.c16, e (by decide) h.c17, e (by decide) h.c18, e (by decide) h.c19, e (by decide) h.c20, e (by decide) h.c21, ?_, e (by decide) h.c23⟩
  rw [Array.getElem?_setIfInBounds_self_of_lt (by rw [h.h24]; omega)]

/-- What copyStmt does with each of the three. -/
theorem copies_three {csW csO csT : Array Value} {ek en ck ak bk ek2 en2 ck2 ak2 bk2 ek3 en3 ck3 ak3 bk3 : Int} {x : Option Addr} {c : Nat} (hW : NilSt csW ek en ck ak bk (.slice x 1 c)) (hO : NilSt csO ek2 en2 ck2 ak2 bk2 (.slice none 0 0)) (hT : NilSt csT ek3 en3 ck3 ak3 bk3 (.slice none 0 0))
    (h3W : csW[3]? = some (.string ⟨#[]⟩)) (h3O : csO[3]? = some (.string ⟨#[120]⟩)) (h3T : csT[3]? = some (.string ⟨#[121]⟩)) (g1 : Nat) (w : World) (hg : w.heap[g1]? = some (.cells csO 44 (0, 0)))
    (k : Nat) (cs : Array Value) (W : World) (hk : ([csW.setIfInBounds 22 (.slice (some ⟨g1, 0, none⟩) 1 1), csO, csT] : List (Array Value))[k]? = some cs) (hQ : W.heap[g1]? = w.heap[g1]?) :
    Calls Tryz.prog 32 #[.agg cs, .int .i64 30] W fun e W' => ∃ cs' : Array Value, e = .returned (.agg cs') ∧ RlA k cs' W' ∧ Below W.heap.size W W' := by
  have hg' := hQ.trans hg
  match k, hk with
  | 0, hk =>
    injection hk with hk; subst hk
    refine (while_copy (hW.set22 (some ⟨g1, 0, none⟩) 1 1) hO 30 W (by omega) (by omega) (Array.getElem?_eq_some_iff.1 hg').1 (fun j v hv => by rw [add_block0]; exact cell_of_block hg' j hv)).mono fun e w' ⟨v, he, hv, hb⟩ => ⟨_, he, ?_, hb⟩
    obtain ⟨g, cur, rfl, _⟩ := hv
    refine ⟨by rw [Array.size_setIfInBounds, Array.size_setIfInBounds]; exact hW.h24, all_set (all_set hW.h1 _ _ _) _ _ _, ?_⟩
    rw [Array.getElem?_setIfInBounds_ne (by decide), Array.getElem?_setIfInBounds_ne (by decide)]
    exact h3W
  | 1, hk =>
    injection hk with hk; subst hk
    exact (leaf_copy hO 30 W (by omega) (by omega)).mono fun e w' ⟨he, hb⟩ => ⟨_, he, ⟨hO.h24, hO.h1, h3O⟩, hb⟩
  | 2, hk =>
    injection hk with hk; subst hk
    exact (leaf_copy hT 30 W (by omega) (by omega)).mono fun e w' ⟨he, hb⟩ => ⟨_, he, ⟨hT.h24, hT.h1, h3T⟩, hb⟩
  | k + 3, hk => simp at hk

/-- In the midst of awake's loop: N is the block of names. -/
structure AwSt (N : Nat) (W0 : World) (Pv : Nat → Prop) (pre : List (Nat × Array Value)) (W : World) : Prop where
  row : ∃ A c, W.heap[N]? = some (.cells #[.slice A pre.length c] 50 (0, 0)) ∧ W.ownsRow W0.heap.size 9 1 (.slice A pre.length c) pre.length (nmsA pre.length) ∧ ∀ g, (Value.slice A pre.length c).ownBlock = some g → ¬ Pv g
  off : ∀ b, Pv b → W0.heap.size ≤ b
  size : W0.heap.size ≤ W.heap.size
  keep : ∀ b, b < W0.heap.size → b ≠ N → W.heap[b]? = W0.heap[b]?
  os : W.os = W0.os
  tape : W.tape = W0.tape
  output : W.output = W0.output

theorem AwSt.abid {N : Nat} {W0 : World} (hN : N < W0.heap.size) : Abid (AwSt N W0) := by
  intro Pv Pv' s W W' h hp hn hl
  obtain ⟨A, c, h1, h2, h3⟩ := h.row
  have hno : ∀ b, b < W0.heap.size → ¬ Pv b := fun b hb hp => by have := h.off b hp; omega
  refine ⟨⟨A, c, (hp.block N (Nat.lt_of_lt_of_le hN h.size) (hno N hN)).trans h1, ?_, fun g hg hpg => ?_⟩, fun b hb => ?_, Nat.le_trans h.size hp.size, fun b hb hne => (hp.block b (Nat.lt_of_lt_of_le hb h.size) (hno b hb)).trans (h.keep b hb hne), hp.os.trans h.os, hp.tape.trans h.tape, hp.output.trans h.output⟩
  · obtain ⟨hl0, hr⟩ := h2
    refine ⟨hl0, hr.imp id fun ⟨g, cap, cur, e1, e2, e3, e4⟩ => ⟨g, cap, cur, e1, e2, ?_, e4⟩⟩
    have hgl := (Array.getElem?_eq_some_iff.1 e3).1
    exact (hp.block g hgl (h3 g (by rw [e1]; rfl))).trans e3
  · rcases hn g hpg with hx | hx
    · exact h3 g hg hx
    · have := (h2.lt g hg).2
      omega
  · rcases hn b hb with hb | hb
    · exact h.off b hb
    · exact Nat.le_trans h.size hb

end Go.Proofs.YtllfkgggolfojaaGreatDoor

namespace Go.Proofs.YtllfkgggolfojaaGreatDoor
open Go.RowKit

attribute [local go_sem] Oper.semAt_some

theorem results_bool {fn : Func} {p : Tmp} (h : fn.results = #[.cell p 4]) (tmps : Array Value) (w : World) (a : Addr) (b : Bool) (hp : tmps.getD p undef = .pointer (some a)) (hc : w.cell? a = some (.bool b)) :
    (results fn tmps).run Tryz.prog w = .ok (.bool b) w := by
  have hp' : tmps[p]?.getD undef = .pointer (some a) := by simpa using hp
  have hag : (isAgg 4).run Tryz.prog w = .ok false w := by kernel_rfl
  simp [results, h, hp', asAddr, loadVar, hag, hc, go_sem, Result.andThen]

theorem infoStrA : (Tryz.prog.info? 9).map (fun i => (i.zero, i.size, i.bytes)) = some (some (.string ⟨#[]⟩), 1, 16) := by kernel_rfl

set_option maxRecDepth 100000 in
set_option maxHeartbeats 8000000 in
theorem awake_any (w : World) : Calls Tryz.prog 6 #[] w fun e w' => e = .returned (.bool true) ∧ Below w.heap.size w w' := by
  obtain ⟨T, M, zc, hT, hM, hzc, hag, hsz, hzv, hzl⟩ := stmt_hidden3
  have e1 : ∀ y : Operand, Op.load 44 y = Op.load T y := fun y => by rw [hT]
  have e2 : ∀ y z : Operand, Op.store 44 y z = Op.store T y z := fun y z => by rw [hT]
  have e3 : Op.alloc 44 = Op.alloc T := by rw [hT]
  obtain ⟨oneV, hone, hOS, hO3⟩ := one_named
  obtain ⟨twoV, htwo, hTS, hT3⟩ := two_named
  obtain ⟨whV, hwh, hWS, hW3⟩ := while_named (some ⟨w.heap.size + 1 + 1 + 1 + 1 + 1, 0, none⟩)
  have s1 := store_fresh (w := w.alloc (.cells #[.bool false] 4)) (t := T) (zc := zc) (cs := oneV) (by rw [hzc, hM, hOS.h24]) hOS.h1
  have s2 := store_fresh (w := (w.alloc (.cells #[.bool false] 4)).alloc (.cells oneV T)) (t := T) (zc := zc) (cs := twoV) (by rw [hzc, hM, hTS.h24]) hTS.h1
  obtain ⟨W5, hW5⟩ : ∃ W5, W5 = ((((w.alloc (.cells #[.bool false] 4)).alloc (.cells oneV T)).alloc (.cells twoV T)).alloc (.cells condA 39)).alloc (.cells #[.slice none 0 0] 50) := ⟨_, rfl⟩
  have q1 := heap_of_alloc (w.alloc (.cells #[.bool false] 4)) (.cells oneV T)
  have q2 := heap_of_alloc ((w.alloc (.cells #[.bool false] 4)).alloc (.cells oneV T)) (.cells twoV T)
  have q0 := heap_keep (o := .cells #[.slice none 0 0] 50) (heap_keep (o := .cells condA 39) (heap_keep (o := .cells twoV T) (heap_keep (o := .cells oneV T) (heap_of_alloc w (.cells #[.bool false] 4)))))
  have q1 := heap_keep (o := .cells #[.slice none 0 0] 50) (heap_keep (o := .cells condA 39) (heap_keep (o := .cells twoV T) q1))
  have q2 := heap_keep (o := .cells #[.slice none 0 0] 50) (heap_keep (o := .cells condA 39) q2)
  have q4 := heap_of_alloc ((((w.alloc (.cells #[.bool false] 4)).alloc (.cells oneV T)).alloc (.cells twoV T)).alloc (.cells condA 39)) (.cells #[.slice none 0 0] 50)
  have z5 : W5.heap.size = w.heap.size + 1 + 1 + 1 + 1 + 1 := by rw [hW5]; simp only [size_of_alloc]
  have b5 : Below w.heap.size w W5 := by rw [hW5]; exact ((((below_alloc w _).chain (below_alloc _ _)).chain (below_alloc _ _)).chain (below_alloc _ _)).chain (below_alloc _ _)
  rw [← hW5] at q0 q1 q2 q4
  simp only [size_of_alloc] at q1 q2 q4 s1 s2
  have hl1 := load_list (a := ⟨w.heap.size + 1, 0, none⟩) (N := M) (fun j v hv => by rw [add_block0]; exact cell_of_block q1 j hv) (by rw [hM, hOS.h24])
  have q2' := heap_keep (o := .cells (flatC [oneV]).toArray 44) q2
  have hl2 := load_list (a := ⟨w.heap.size + 1 + 1, 0, none⟩) (N := M) (fun j v hv => by rw [add_block0]; exact cell_of_block q2' j hv) (by rw [hM, hTS.h24])
  rw [hW5] at hl1 hl2
  have z1 : oneV.size = M := by rw [hM, hOS.h24]
  have z2 : twoV.size = M := by rw [hM, hTS.h24]
  have HV1 : Hid (∀ c ∈ [oneV], c.size = 24) := Lib.hid (fun c hc => by rw [List.mem_singleton.1 hc]; exact hOS.h24)
  have HV2 : Hid (∀ c ∈ [whV, twoV], c.size = 24) := Lib.hid (fun c hc => by
    simp only [List.mem_cons, List.not_mem_nil, or_false] at hc
    rcases hc with rfl | rfl
    · exact hWS.h24
    · exact hTS.h24)
  -- the walk's contract
  obtain ⟨W7, hW7⟩ : ∃ W7, W7 = (W5.alloc (.cells (flatC [oneV]).toArray 44)).alloc (.cells (flatC [whV, twoV]).toArray 44) := ⟨_, rfl⟩
  have b7 : Below W5.heap.size W5 W7 := by rw [hW7]; exact (below_alloc _ _).chain (below_alloc _ _)
  have z7 : W7.heap.size = w.heap.size + 1 + 1 + 1 + 1 + 1 + 1 + 1 := by rw [hW7]; simp only [size_of_alloc, z5]
  have r5 : W7.heap[w.heap.size + 1 + 1 + 1 + 1 + 1]? = some (.cells (flatC [oneV]).toArray 44 (0, 0)) := by rw [hW7, ← z5]; exact heap_keep (heap_of_alloc W5 _)
  have r6 : W7.heap[w.heap.size + 1 + 1 + 1 + 1 + 1 + 1]? = some (.cells (flatC [whV, twoV]).toArray 44 (0, 0)) := by
    rw [hW7, ← z5]
    have := heap_of_alloc (W5.alloc (.cells (flatC [oneV]).toArray 44)) (.cells (flatC [whV, twoV]).toArray 44)
    rwa [size_of_alloc] at this
  have HWk : Hid (Calls Tryz.prog 15 #[.slice (some ⟨w.heap.size + 1 + 1 + 1 + 1 + 1 + 1, 0, none⟩) 2 2] W7 fun e w' => ∃ (b g g1 : Nat), e = .returned (.func (.func 30) #[] #[.pointer (some ⟨b, 0, none⟩)]) ∧ w'.cell? ⟨b, 0, none⟩ = some (.slice (some ⟨g, 0, none⟩) 2 2) ∧ b < w'.heap.size ∧ W7.heap.size ≤ g ∧ g < w'.heap.size ∧ W7.heap.size ≤ g1 ∧ g1 < w'.heap.size ∧ w'.heap[g1]? = some (.cells oneV 44 (0, 0)) ∧
      Ord w' (fun b => b = g ∨ b = g1) (some ⟨g, 0, none⟩) 2 [whV.setIfInBounds 22 (.slice (some ⟨g1, 0, none⟩) 1 1), oneV, twoV] ∧ Below W7.heap.size W7 w') := Lib.hid (by
    have hlt : ∀ (c : Array Value) (j : Nat) (v : Value), c.size = 24 → c[j]? = some v → j < 24 := fun c j v hc hv => by rw [← hc]; exact (Array.getElem?_eq_some_iff.1 hv).1
    refine walk_two hWS hOS hTS _ 2 W7 (by show w.heap.size + 1 + 1 + 1 + 1 + 1 + 1 < _; omega) (by show w.heap.size + 1 + 1 + 1 + 1 + 1 < _; omega) (fun j v hv => ?_) (fun j v hv => ?_) (fun j v hv => ?_)
    · rw [add_block0]
      refine cell_of_block r6 j ?_
      have := flatC_get HV2.out 0 j whV rfl (hlt _ _ _ hWS.h24 hv)
      rw [Nat.zero_mul, Nat.zero_add] at this
      simpa using this.trans hv
    · rw [add_add_plain, add_block0]
      refine cell_of_block r6 (24 + j) ?_
      have := flatC_get HV2.out 1 j twoV rfl (hlt _ _ _ hTS.h24 hv)
      rw [Nat.one_mul] at this
      simpa using this.trans hv
    · rw [add_block0]
      refine cell_of_block r5 j ?_
      have := flatC_get HV1.out 0 j oneV rfl (hlt _ _ _ hOS.h24 hv)
      rw [Nat.zero_mul, Nat.zero_add] at this
      simpa using this.trans hv)
  have HN1 := Lib.hid hone
  have HN2 := Lib.hid htwo
  have HN3 := Lib.hid hwh
  have HM := Lib.hid (And.intro hM hzc)
  have HT := Lib.hid hT
  have HS := Lib.hid (And.intro hOS (And.intro hO3 (And.intro hTS (And.intro hT3 (And.intro hWS hW3)))))
  have HB7 := Lib.hid (And.intro (b5.chain b7) (And.intro z7 (And.intro (kept_box b7 q0) (kept_box b7 q4))))
  clear hone htwo hwh hM hzc q0 q1 q2 q2' q4 hOS hO3 hTS hT3 hWS hW3 b5 b7 z7 r5 r6 hzl z5
  rw [hW5] at hW7
  clear hW5 W5
  have hq : ∀ b w, (binOp .eql 52 (.func (.func 30) #[] #[.pointer (some ⟨b, 0, none⟩)]) .nilFunc).run Tryz.prog w = .ok (.bool false) w := fun b w => by kernel_rfl
  have g40 : Fence.wide.fn 15 := trivial
  have g46 : Fence.wide.fn 16 := trivial
  have g15 : Fence.wide.fn 13 := trivial
  have g47 : Fence.wide.fn 17 := trivial
  refine (callsIn_wide (n := 20)).1 ?_
  refine callsIn_of_wp_marks Tryz.func6 rfl trivial ?_ rfl
  simp only [Tryz.ntmps6, List.size_toArray, List.length_nil, Nat.reduceSub, Array.replicate_succ, Array.replicate_zero, List.push_toArray, List.append_toArray, List.nil_append, List.cons_append, e1, e2, e3]
  clear e1 e2 e3 hT
  gi_wp2_with (first
    | (refine wpListIn_value 12 rfl rfl (by intro c hc; cases hc) rfl (.agg oneV) (by rw [← HN1.out]; kernel_rfl) ?_)
    | (refine wpListIn_value 14 rfl rfl (by intro c hc; cases hc) rfl (.agg twoV) (by rw [← HN2.out]; kernel_rfl) ?_)
    | (refine wpListIn_value 21 rfl rfl (by intro c hc; cases hc) rfl (.agg whV) (by rw [← HN3.out]; kernel_rfl) ?_)
    | (refine wpListIn_rows 20 rfl rfl 1 _ rfl [oneV] rfl (by decide) (by decide) HV1.out (by rfl) (w.heap.size + 1 + 1 + 1 + 1 + 1) (by simp only [size_of_alloc]) ?_)
    | (refine wpListIn_rows 23 rfl rfl 2 _ rfl [whV, twoV] rfl (by decide) (by decide) HV2.out (by rfl) (w.heap.size + 1 + 1 + 1 + 1 + 1 + 1) (by simp only [size_of_alloc]) ?_)
    | (gi_at_call 15; rw [← hW7]; refine (callsIn_wide.2 HWk.out).mono ?_; rintro e W8 ⟨b, g, g1, rfl, p1, p2, p3, p4, p5, p6, p7, p8, p9⟩; have HP := Lib.hid (And.intro p1 (And.intro p2 (And.intro p3 (And.intro p4 (And.intro p5 (And.intro p6 (And.intro p7 (And.intro p8 p9)))))))); clear p1 p2 p3 p4 p5 p6 p7 p8 p9))
  obtain ⟨N, hN⟩ : ∃ N, N = w.heap.size + 1 + 1 + 1 + 1 := ⟨_, rfl⟩
  obtain ⟨R0, hR0⟩ : ∃ R0, R0 = w.heap.size := ⟨_, rfl⟩
  have HNN := Lib.hid (And.intro hN hR0)
  have hb8 := HP.out.2.2.2.2.2.2.2.2
  have h7 := HB7.out.2.1
  have hNW8 : N < W8.heap.size := by have := hb8.size; omega
  have hN8 : W8.heap[N]? = some (.cells #[.slice none 0 0] 50 (0, 0)) := by rw [hN]; exact kept_box hb8 HB7.out.2.2.2
  have hI0 : AwSt N W8 (fun _ => False) [] W8 := ⟨⟨none, 0, hN8, World.ownsRow_nil _ _ _ _, fun _ h => by cases h⟩, fun _ h => h.elim, Nat.le_refl _, fun _ _ _ => rfl, rfl, rfl, rfl⟩
  have h8 := Lib.hid hI0
  have hR8 : W8.heap[R0]? = some (.cells #[.bool false] 4 (0, 0)) := by rw [hR0]; exact kept_box hb8 HB7.out.2.2.1
  have HW8 := Lib.hid (And.intro hR8 (show Below R0 w W8 by rw [hR0]; exact HB7.out.1.chain hb8))
  clear hR8 hb8
  clear hN8 hI0
  rw [← hN]
  have hN' := Lib.hid (And.intro trivial (show R0 < N ∧ N < W7.heap.size by omega))
  clear hN
  rw [← hR0] at h7 ⊢
  clear hR0 h7 s1 s2 hl1 hl2 hW7 q1 q2
  refine wpIn_rangeFunc_pv (F := Fence.wide) rfl (by omega) (gf := 30) (lb := #[.pointer (some ⟨b, 0, none⟩)]) rfl trivial (enters_of Tryz.func30 (by kernel_rfl) rfl)
    (walk_seq Fence.wide (20 - 1) (by omega) rfl trivial trivial trivial trivial trivial rfl b 2 2 _ _ (fun b => b = g ∨ b = g1) RlA W8 HP.out.1 HP.out.2.1 HP.out.2.2.2.2.2.2.2.1 (fun b hb => by have := HP.out; rcases hb with rfl | rfl <;> omega) (by decide) (show 3 ≤ 1000000 by decide)
      (fun m k cs W hk hQ => callsIn_wide.2 (copies_three HS.out.2.2.2.2.1 HS.out.1 HS.out.2.2.1 HS.out.2.2.2.2.2 HS.out.2.1 HS.out.2.2.2.1 g1 W8 HP.out.2.2.2.2.2.2.1 k cs W hk (hQ g1 (Or.inr rfl)))))
    (Below.refl _ _) (fun _ => rfl) (AwSt N W8) (fun _ _ _ _ => False) (AwSt.abid hNW8) (fun _ _ _ _ _ _ h => h.elim) h8.out ?round (fun b hb => by have := HP.out; rcases hb with rfl | rfl <;> omega) (fun _ _ _ h _ => h) (fun _ _ _ h _ => h) ?done (fun _ _ _ _ _ h => h.elim)
  case round =>
    rintro Pv pre ⟨k, cs⟩ W1 r hlt hge hD hL hr hI ⟨hk, hkl, hcs, hca, hc3⟩
    dsimp only at hk hcs hca hc3
    subst hk
    obtain ⟨A, c, hrow, hown, hoff⟩ := hI.row
    have hNlt : N < W1.heap.size := Nat.lt_of_lt_of_le hNW8 hI.size
    have hszc : cs.size = M := hcs.trans HM.out.1.symm
    have hst := store_fresh (w := W1) (t := T) (zc := zc) (cs := cs) (by rw [HM.out.2, hszc]) hca
    have hbx := heap_of_alloc W1 (.cells cs T)
    have hrow1 := heap_keep (o := .cells cs T) hrow
    have HR := Lib.hid (And.intro hI (And.intro hlt (And.intro hge (And.intro hD (And.intro hL (And.intro hkl (And.intro hoff hNlt)))))))
    have HO := Lib.hid hown
    clear hlt hge hD hL hr hkl hoff hown hI
    gi_wp2
    refine ⟨Part.alloc _ _, fun r' => ?_⟩
    have hne1 : W8.heap.size + 1 ≠ N := by omega
    have hne : W1.heap.size ≠ W8.heap.size + 1 := fun e => by have := HR.out.2.1 _ HR.out.2.2.2.2.1; omega
    obtain ⟨Wb, hWb⟩ : ∃ Wb, Wb = (W1.alloc (.cells cs T)).putObj (W8.heap.size + 1) (.loop r') := ⟨_, rfl⟩
    have hzb : Wb.heap.size = W1.heap.size + 1 := by rw [hWb]; simp
    have hpb : Part Pv W1 Wb := by rw [hWb]; exact (Part.alloc _ _).trans (Part.putObj _ _ HR.out.2.2.2.2.1)
    have hIb : AwSt N W8 Pv pre Wb := AwSt.abid hNW8 Pv Pv pre W1 Wb HR.out.1 hpb (fun b hb => Or.inl hb) (fun b hb => by have := HR.out.2.1 b hb; omega)
    have hbb : Wb.heap[W1.heap.size]? = some (.cells cs T (0, 0)) := by rw [hWb]; exact (World.putObj_heap_other hne).trans hbx
    have hrb : Wb.heap[N]? = some (.cells #[.slice A pre.length c] 50 (0, 0)) := by rw [hWb]; exact (World.putObj_heap_other (Ne.symm hne1)).trans hrow1
    have hob : Wb.ownsRow W8.heap.size 9 1 (.slice A pre.length c) pre.length (nmsA pre.length) := by
      obtain ⟨hl0, hr⟩ := HO.out
      refine ⟨hl0, hr.imp id fun ⟨g, cap, cur, e1, e2, e3, e4⟩ => ⟨g, cap, cur, e1, e2, ?_, e4⟩⟩
      exact (hpb.block g (Array.getElem?_eq_some_iff.1 e3).1 (HR.out.2.2.2.2.2.2.1 g (by rw [e1]; rfl))).trans e3
    rw [← hWb]
    have cN := cell_of_block hrb 0 (v := .slice A pre.length c) rfl
    have c3 := cell_of_block hbb 3 hc3
    obtain ⟨nm, hnm⟩ : ∃ nm : ByteArray, nm = ⟨(nmA pre.length).toArray⟩ := ⟨_, rfl⟩
    have HNM := Lib.hid hnm
    rw [← hnm] at c3
    have HOA := Lib.hid (hob.alloc (.cells #[.string nm] 9))
    have HX := Lib.hid (And.intro hIb (And.intro hrb (And.intro hzb (And.intro hob hbb))))
    have hlen3 : pre.length < 3 := HR.out.2.2.2.2.2.1
    have hgn := heap_of_alloc Wb (.cells #[.string nm] 9)
    have HNW := Lib.hid hgn
    clear hzb hIb hrb hbb hob hWb hst hbx hrow1 hrow hc3 hgn hpb hnm
    have hi64 : (pre.length : Int) < 3 := by omega
    obtain ⟨i1, si, siz, sis, sib⟩ := info_parts infoStrA
    gi_wp2_with (first
      | (gi_at_builtin; refine wpListIn_append_new _ rfl _ _ 50 rfl W8.heap.size 9 i1 _ 1 16 Tryz.underlying50 si siz sis sib rfl (by decide) _ pre.length _ rfl HOA.out ⟨Wb.heap.size, 0, none⟩ 1 1 [.string nm] rfl rfl ?ac ?ao ?b1 ?b2 ?b3 ?_))
    case ac =>
      intro j u hu
      match j, hu with
      | 0, hu => injection hu with hu; subst hu; rw [add_block0]; exact cell_of_block HNW.out 0 rfl
      | j + 1, hu => simp at hu
    case ao => intro u hu; rw [List.mem_singleton.1 hu]; rfl
    case b1 => unfold maxLen; omega
    case b2 => omega
    case b3 => rw [size_of_alloc]; have := HX.out.1.size; omega
    intro v' w' ho hg hnew
    obtain ⟨g', c', rfl⟩ : ∃ g' c', v' = .slice (some ⟨g', 0, none⟩) (pre.length + 1) c' := by
      rcases ho.2 with ⟨_, h0⟩ | ⟨g', cap, cur, e1, _⟩
      · omega
      · exact ⟨_, _, e1⟩
    have hoN : some N ≠ (Value.slice A pre.length c).ownBlock := fun e => by
      have := (HX.out.2.2.2.1.lt N e.symm).1
      omega
    have hNr : w'.heap[N]? = some (.cells #[.slice A pre.length c] 50 (0, 0)) :=
      (hg.block N (by rw [size_of_alloc]; have := HX.out.1.size; omega) hoN).trans (heap_keep HX.out.2.1)
    have cN2 := cell_of_block hNr 0 (v := .slice A pre.length c) rfl
    have fN2 := frozen_at hNr 0
    have HF := Lib.hid (And.intro ho (And.intro hg (And.intro hnew (And.intro hoN hNr))))
    clear ho hg hnew hoN hNr cN c3
    gi_wp2
    have hg' : W8.heap.size ≤ g' := (HF.out.1.lt g' rfl).1
    have hsz' := HF.out.2.1.size
    rw [size_of_alloc] at hsz'
    have ownNe : ∀ b, (Pv b ∨ b = g ∨ b = g1) → some b ≠ (Value.slice A pre.length c).ownBlock := fun b hb e => by
      rcases hb with hb | hb
      · exact HR.out.2.2.2.2.2.2.1 b e.symm hb
      · have h1 := (HX.out.2.2.2.1.lt b e.symm).1
        have h2 := HP.out.2.2.2.1
        have h3 := HP.out.2.2.2.2.2.1
        rcases hb with rfl | rfl <;> omega
    have neN : ∀ b, (Pv b ∨ b = g ∨ b = g1) → b ≠ N := fun b hb => by
      have h2 := hN'.out.2.2
      have h3 := HP.out.2.2.1
      have h4 := HP.out.2.2.2.2.1
      rcases hb with hb | rfl | rfl
      · have := HR.out.2.2.1 b hb; omega
      · omega
      · omega
    refine ⟨fun b hb hk => ?_, ?_, ?_⟩
    · refine (Below.heap_setCell w' ⟨N, 0, none⟩ _ b (neN b hk)).trans ((HF.out.2.1.block b (by rw [size_of_alloc]; omega) (ownNe b hk)).trans (Below.heap_alloc Wb _ b hb))
    · simp only [World.setCell, Array.size_modify]
      omega
    · have hl1 : (pre ++ [(pre.length, cs)]).length = pre.length + 1 := by simp
      refine ⟨⟨some ⟨g', 0, none⟩, c', ?_, ?_, fun q hq hpv => ?_⟩, HX.out.1.off, ?_, fun b hb hne => ?_, ?_, ?_, ?_⟩
      · rw [hl1]
        exact heap_setCell_at HF.out.2.2.2.2 0 _
      · rw [hl1, nmsA_succ, ← HNM.out]
        obtain ⟨hl0, hr⟩ := HF.out.1
        refine ⟨hl0, hr.imp id fun ⟨g, cap, cur, e1, e2, e3, e4⟩ => ⟨g, cap, cur, e1, e2, ?_, e4⟩⟩
        exact (Below.heap_setCell w' ⟨N, 0, none⟩ _ g (by show g ≠ N; omega)).trans e3
      · have hq' : (Value.slice (some ⟨g', 0, none⟩) (pre.length + 1) c').ownBlock = some q := hq
        rcases HF.out.2.2.1 q hq' with h | h
        · exact HR.out.2.2.2.2.2.2.1 q h hpv
        · have := HR.out.2.1 q hpv
          have := HX.out.2.2.1
          omega
      · have := HX.out.1.size
        simp only [World.setCell, Array.size_modify]
        omega
      · refine (Below.heap_setCell w' ⟨N, 0, none⟩ _ b hne).trans ((HF.out.2.1.block b (by rw [size_of_alloc]; have := HX.out.1.size; omega) (fun e => by have := (HX.out.2.2.2.1.lt b e.symm).1; omega)).trans ((Below.heap_alloc Wb _ b (by have := HX.out.1.size; omega)).trans (HX.out.1.keep b hb hne)))
      · exact HF.out.2.1.os.trans HX.out.1.os
      · exact HF.out.2.1.tape.trans HX.out.1.tape
      · exact HF.out.2.1.output.trans HX.out.1.output
  case done =>
    intro Pv xs W1 hS hI hD hL hlt hdef
    have hS3 : xs.length = 3 := hS
    obtain ⟨A, c, hrow, hown, hoff⟩ := hI.row
    rw [hS3] at hrow hown
    obtain ⟨gn, rfl⟩ : ∃ gn, A = some ⟨gn, 0, none⟩ := by
      rcases hown.2 with ⟨_, h0⟩ | ⟨gn, cap, cur, e1, _⟩
      · cases h0
      · injection e1 with e1; exact ⟨gn, e1⟩
    obtain ⟨curn, hgn⟩ : ∃ cur, W1.heap[gn]? = some (.cells cur 9 (0, 0)) := by
      rcases hown.2 with ⟨h0, _⟩ | ⟨g', cap, cur, e1, _, e3, _⟩
      · cases h0
      · injection e1 with e1
        injection e1 with e1
        injection e1 with e1
        subst e1
        exact ⟨cur, e3⟩
    have hnc : ∀ j v, (nmsA 3)[j]? = some v → W1.cell? ⟨gn, j, none⟩ = some v := fun j v hv => by
      have := hown.cells (g := gn) rfl j v hv
      rwa [add_block0] at this
    have hN8 := hN'.out.2
    have hRow : W1.heap[R0]? = some (.cells #[.bool false] 4 (0, 0)) := (hI.keep R0 (by omega) (by omega)).trans HW8.out.1
    have cN := cell_of_block hrow 0 (v := .slice (some ⟨gn, 0, none⟩) 3 c) rfl
    have hRc := cell_of_block hRow 0 (v := .bool false) rfl
    obtain ⟨V5, hV5⟩ : ∃ V5, V5 = ((((W1.alloc (.cells #[.int .i64 2, .int .i64 0, .string ⟨#[120]⟩, .slice none 0 0] 36)).alloc (.cells #[.int .i64 2, .int .i64 0, .string ⟨#[121]⟩, .slice none 0 0] 36)).alloc (.cells rowTwo 36)).alloc (.cells (rowOne (W1.heap.size + 1 + 1)) 36)).alloc (exprC 6 2 ⟨#[]⟩ (.slice (some ⟨W1.heap.size + 1 + 1 + 1, 0, none⟩) 1 1)) := ⟨_, rfl⟩
    have bV : Below W1.heap.size W1 V5 := by rw [hV5]; exact ((((below_alloc W1 _).chain (below_alloc _ _)).chain (below_alloc _ _)).chain (below_alloc _ _)).chain (below_alloc _ _)
    have zV : V5.heap.size = W1.heap.size + 1 + 1 + 1 + 1 + 1 := by rw [hV5]; simp only [size_of_alloc]
    have hEA : EAt V5 (W1.heap.size + 1 + 1 + 1) (W1.heap.size + 1 + 1) := by
      constructor
      · rw [hV5]
        have := heap_keep (o := exprC 6 2 ⟨#[]⟩ (.slice (some ⟨W1.heap.size + 1 + 1 + 1, 0, none⟩) 1 1)) (heap_of_alloc (((W1.alloc (.cells #[.int .i64 2, .int .i64 0, .string ⟨#[120]⟩, .slice none 0 0] 36)).alloc (.cells #[.int .i64 2, .int .i64 0, .string ⟨#[121]⟩, .slice none 0 0] 36)).alloc (.cells rowTwo 36)) (.cells (rowOne (W1.heap.size + 1 + 1)) 36))
        simp only [size_of_alloc] at this
        exact this
      · rw [hV5]
        have := heap_keep (o := exprC 6 2 ⟨#[]⟩ (.slice (some ⟨W1.heap.size + 1 + 1 + 1, 0, none⟩) 1 1)) (heap_keep (o := .cells (rowOne (W1.heap.size + 1 + 1)) 36) (heap_of_alloc ((W1.alloc (.cells #[.int .i64 2, .int .i64 0, .string ⟨#[120]⟩, .slice none 0 0] 36)).alloc (.cells #[.int .i64 2, .int .i64 0, .string ⟨#[121]⟩, .slice none 0 0] 36)) (.cells rowTwo 36)))
        simp only [size_of_alloc] at this
        exact this
    have hEB : V5.heap[W1.heap.size + 1 + 1 + 1 + 1]? = some (exprC 6 2 ⟨#[]⟩ (.slice (some ⟨W1.heap.size + 1 + 1 + 1, 0, none⟩) 1 1)) := by
      rw [hV5]
      have := heap_of_alloc ((((W1.alloc (.cells #[.int .i64 2, .int .i64 0, .string ⟨#[120]⟩, .slice none 0 0] 36)).alloc (.cells #[.int .i64 2, .int .i64 0, .string ⟨#[121]⟩, .slice none 0 0] 36)).alloc (.cells rowTwo 36)).alloc (.cells (rowOne (W1.heap.size + 1 + 1)) 36)) (exprC 6 2 ⟨#[]⟩ (.slice (some ⟨W1.heap.size + 1 + 1 + 1, 0, none⟩) 1 1))
      simp only [size_of_alloc] at this
      exact this
    have cN5 := (bV.cell (p := ⟨N, 0, none⟩) (Array.getElem?_eq_some_iff.1 hrow).1).trans cN
    -- the first comparison
    have HE1 : Hid (Calls Tryz.prog 16 #[.slice (some ⟨gn, 0, none⟩) 3 c, .slice (some ⟨W1.heap.size + 1 + 1 + 1 + 1 + 1, 0, none⟩) 3 3] (V5.alloc (.cells #[.string ⟨#[]⟩, .string ⟨#[120]⟩, .string ⟨#[121]⟩] 9)) fun e w' => e = .returned (.bool true) ∧ Below V5.heap.size V5 w') := Lib.hid (by
      have hnl := heap_of_alloc V5 (.cells #[.string ⟨#[]⟩, .string ⟨#[120]⟩, .string ⟨#[121]⟩] 9)
      rw [zV] at hnl
      have bA := bV.chain (below_alloc V5 (.cells #[.string ⟨#[]⟩, .string ⟨#[120]⟩, .string ⟨#[121]⟩] 9))
      refine (Tryz.slices_Equal_string gn 0 3 c (W1.heap.size + 1 + 1 + 1 + 1 + 1) 0 3 3 [⟨#[]⟩, ⟨#[120]⟩, ⟨#[121]⟩] [⟨#[]⟩, ⟨#[120]⟩, ⟨#[121]⟩] _ (by decide) (by decide) (by decide) (by decide) (fun j hj => ?_) (fun j hj => ?_)).mono fun e w' ⟨he, q, hw⟩ => ⟨by rw [he]; rfl, hw ▸ below_dn (below_alloc _ _) q⟩
      · rw [Nat.zero_add]
        match j, hj with
        | 0, _ => exact (bA.cell (p := ⟨gn, 0, none⟩) (Array.getElem?_eq_some_iff.1 (show W1.heap[gn]? = _ from hgn)).1).trans (hnc 0 _ rfl)
        | 1, _ => exact (bA.cell (p := ⟨gn, 1, none⟩) (Array.getElem?_eq_some_iff.1 (show W1.heap[gn]? = _ from hgn)).1).trans (hnc 1 _ rfl)
        | 2, _ => exact (bA.cell (p := ⟨gn, 2, none⟩) (Array.getElem?_eq_some_iff.1 (show W1.heap[gn]? = _ from hgn)).1).trans (hnc 2 _ rfl)
      · rw [Nat.zero_add]
        match j, hj with
        | 0, _ => exact cell_of_block hnl 0 rfl
        | 1, _ => exact cell_of_block hnl 1 rfl
        | 2, _ => exact cell_of_block hnl 2 rfl)
    have HE2 : Hid (∀ (w4 : World) (g4 c4 : Nat), w4.cell? ⟨g4, 0, none⟩ = some (.string ⟨#[120]⟩) → w4.cell? ⟨g4, 1, none⟩ = some (.string ⟨#[121]⟩) → Calls Tryz.prog 16 #[.slice (some ⟨g4, 0, none⟩) 2 c4, .slice (some ⟨w4.heap.size, 0, none⟩) 2 2] (w4.alloc (.cells #[.string ⟨#[120]⟩, .string ⟨#[121]⟩] 9)) fun e w' => e = .returned (.bool true) ∧ Below w4.heap.size w4 w') := Lib.hid (fun w4 g4 c4 h0 h1 => by
      have hnl := heap_of_alloc w4 (.cells #[.string ⟨#[120]⟩, .string ⟨#[121]⟩] 9)
      have bA := below_alloc w4 (.cells #[.string ⟨#[120]⟩, .string ⟨#[121]⟩] 9)
      have hg4 := World.block_lt_of_cell? w4 _ h0
      refine (Tryz.slices_Equal_string g4 0 2 c4 w4.heap.size 0 2 2 [⟨#[120]⟩, ⟨#[121]⟩] [⟨#[120]⟩, ⟨#[121]⟩] _ (by decide) (by decide) (by decide) (by decide) (fun j hj => ?_) (fun j hj => ?_)).mono fun e w' ⟨he, q, hw⟩ => ⟨by rw [he]; rfl, hw ▸ below_dn bA q⟩
      · rw [Nat.zero_add]
        match j, hj with
        | 0, _ => exact (bA.cell (p := ⟨g4, 0, none⟩) hg4).trans h0
        | 1, _ => exact (bA.cell (p := ⟨g4, 1, none⟩) hg4).trans h1
      · rw [Nat.zero_add]
        match j, hj with
        | 0, _ => exact cell_of_block hnl 0 rfl
        | 1, _ => exact cell_of_block hnl 1 rfl)
    have HI := Lib.hid (And.intro hI (And.intro hlt (And.intro hdef (And.intro hRow (And.intro bV (And.intro hEA hEB))))))
    clear hS hI hD hL hlt hdef hS3 hown hoff hnc hRow hN8 hrow hgn hRc cN bV hEA hEB zV
    rw [hV5] at cN5
    gi_wp2_with (first
      | (gi_at_call 16; rw [← hV5]; refine (callsIn_wide.2 HE1.out).mono ?_; rintro e w2 ⟨rfl, hb2⟩; have HB2 := Lib.hid hb2; have hc := kept_box hb2 HI.out.2.2.2.2.2.2; have k0 := cell_of_block hc 0 (v := .int .i64 6) rfl; have k1 := cell_of_block hc 1 (v := .int .i64 2) rfl; have k2 := cell_of_block hc 2 (v := .string ⟨#[]⟩) rfl; have k3 := cell_of_block hc 3 (v := .slice (some ⟨W1.heap.size + 1 + 1 + 1, 0, none⟩) 1 1) rfl; clear hc hb2)
      | (gi_at_call 13; refine (callsIn_wide.2 (e_expr _ _ w2 (HI.out.2.2.2.2.2.1.stay HB2.out))).mono ?_; rintro e w3 ⟨rfl, hb3⟩; have HB3 := Lib.hid (HB2.out.chain hb3); have hc := kept_box HB3.out HI.out.2.2.2.2.2.2; have l0 := cell_of_block hc 0 (v := .int .i64 6) rfl; have l1 := cell_of_block hc 1 (v := .int .i64 2) rfl; have l2 := cell_of_block hc 2 (v := .string ⟨#[]⟩) rfl; have l3 := cell_of_block hc 3 (v := .slice (some ⟨W1.heap.size + 1 + 1 + 1, 0, none⟩) 1 1) rfl; clear hc hb3)
      | (gi_at_call 17; refine (callsIn_wide.2 (e_vars _ _ w3 (HI.out.2.2.2.2.2.1.stay HB3.out))).mono ?_; rintro e w4 ⟨g4, c4, rfl, hx, hy, hb4⟩; have HB4 := Lib.hid (And.intro (HB3.out.chain hb4) (And.intro hx hy)); clear hb4 hx hy)
      | (gi_at_call 16; refine (callsIn_wide.2 (HE2.out w4 g4 c4 HB4.out.2.1 HB4.out.2.2)).mono ?_; rintro e w5 ⟨rfl, hb5⟩; have HB5 := Lib.hid (HI.out.2.2.2.2.1.chain (HB4.out.1.chain hb5)); have hc := kept_box HB5.out HI.out.2.2.2.1; have m0 := cell_of_block hc 0 (v := .bool false) rfl; have m1 := frozen_at hc 0; clear hc hb5))
    have hR0 := HNN.out.2
    have hdq : (w5.setCell ⟨R0, 0, none⟩ (.bool true)).heap[W8.heap.size]? = some (.deferred (some [])) := by
      have hlt8 := HW8.out.2.size
      have h8 := (Array.getElem?_eq_some_iff.1 HW8.out.1).1
      exact (Below.heap_setCell w5 ⟨R0, 0, none⟩ _ W8.heap.size (by show W8.heap.size ≠ R0; omega)).trans (kept_box HB5.out HI.out.2.2.1)
    refine ⟨by simp, .inl ⟨_, _, rfl, run_takeDeferred hdq, ?_⟩⟩
    have h8 := (Array.getElem?_eq_some_iff.1 HW8.out.1).1
    have hres : ((w5.setCell ⟨R0, 0, none⟩ (.bool true)).putObj W8.heap.size (.deferred none)).heap[R0]? = some (.cells #[.bool true] 4 (0, 0)) :=
      (World.putObj_heap_other (by omega)).trans (heap_setCell_at (kept_box HB5.out HI.out.2.2.2.1) 0 (.bool true))
    refine ⟨_, results_bool rfl _ _ ⟨R0, 0, none⟩ true rfl (cell_of_block hres 0 rfl), rfl, ?_⟩
    have hb8 := HW8.out.2
    have hI := HI.out.1
    have hb5 := HB5.out
    have hNR := hN'.out.2.1
    have hsz8 := hI.size
    have hsz5 := hb5.size
    rw [← hR0]
    refine ⟨hb5.os.trans (hI.os.trans hb8.os), hb5.tape.trans (hI.tape.trans hb8.tape), hb5.output.trans (hI.output.trans hb8.output), ?_, fun k hk => ?_⟩
    · simp only [World.putObj_size, World.setCell, Array.size_modify]
      have := hb8.size
      omega
    · refine (World.putObj_heap_other (by omega)).trans ((Below.heap_setCell w5 ⟨R0, 0, none⟩ _ k (by show k ≠ R0; omega)).trans ((hb5.block k (by omega)).trans ((hI.keep k (by omega) (by omega)).trans (hb8.block k hk))))

end Go.Proofs.YtllfkgggolfojaaGreatDoor
