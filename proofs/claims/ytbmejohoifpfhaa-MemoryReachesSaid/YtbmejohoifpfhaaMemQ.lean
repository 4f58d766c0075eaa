/-
  Moves of a walk by hand through a region that draws its order: side conditions by the kernel.
-/
import Derived.Test.YtbmejohoifpfhaaMemW
import Derived.Test.YtbmejohoifpfhaaTreeRp
import Derived.Deep.RegionHeld3
import Derived.Deep.CutRange
namespace Go.Proofs.Ytbmejohoifpfhaa
open Go.RowKit

section
variable {P : Program} {ops : Array Oper} {Q : Exit → Act → World → Prop} {md : Region.Mode} {S : World → Prop}

/-- anyH_take, its side conditions by the kernel. -/
theorem tk (i d : Nat) (v : Value) {oi : Oper} {k : Nat} {l : Array Bool} {a : Act} {w : World} (hS : S w) (hv : ∀ w, S w → (execOp a.eval oi).run P w = .ok (.value v) w)
    (h : wpAnyH P md ops Q S k (l.setIfInBounds i true) (a.put (some d) v) w) (hi : ops[i]? = some oi := by rfl) (hd : oi.dst = some d := by rfl)
    (hs : Region.noSelect ops = true := by kernel_rfl) (hf : Region.free md ops l i = true := by kernel_rfl) (hr : (Region.ready md ops l).contains i = true := by kernel_rfl)
    (hQ : ∀ c a w, Q (.panic c) (a.put (some d) v) w → Q (.panic c) a w := by exact fun _ _ _ h => h) (hw : Region.wanted oi (yielded ops a.tmps) = true := by kernel_rfl) : wpAnyH P md ops Q S (k + 1) l a w :=
  anyH_take i (some d) hS hi hd hs hf hr hQ hw hv h

/-- anyH_skip, its side conditions by the kernel. -/
theorem sk (i d : Nat) {oi : Oper} {k : Nat} {l : Array Bool} {a : Act} {w : World} (hS : S w)
    (h : wpAnyH P md ops Q S k (l.setIfInBounds i true) (a.put (some d) undef) w) (hi : ops[i]? = some oi := by rfl) (hd : oi.dst = some d := by rfl)
    (hs : Region.noSelect ops = true := by kernel_rfl) (hf : Region.free md ops l i = true := by kernel_rfl) (hr : (Region.ready md ops l).contains i = true := by kernel_rfl)
    (hQ : ∀ c a w, Q (.panic c) (a.put (some d) undef) w → Q (.panic c) a w := by exact fun _ _ _ h => h) (hw : Region.wanted oi (yielded ops a.tmps) = false := by kernel_rfl) : wpAnyH P md ops Q S (k + 1) l a w :=
  anyH_skip i (some d) hS hi hd hs hf hr hQ hw h

theorem o1 (i : Nat) {o : Oper} {k : Nat} {l : Array Bool} {a : Act} {w : World}
    (h : ∀ K : Act → World → Prop, (∀ a w, S w → wpAnyH P md ops Q S k (l.setIfInBounds i true) a w → K a w) → Oper.wp P o a w K Q)
    (hr : Region.ready md ops l = [i] := by kernel_rfl) (ho : ops[i]? = some o := by rfl) (hw : Region.wanted o (yielded ops a.tmps) = true := by kernel_rfl) : wpAnyH P md ops Q S (k + 1) l a w :=
  anyH_one i hr ho hw h

end

theorem wrap_nat {j : Nat} (h : j ≤ 9223372036854775807) : IntKind.i64.wrap (j : Int) = j := by rw [IntKind.wrap_i64]; omega

theorem box_at {w w' : World} {cs : Array Value} {t : TypeId} (hb : Below (w.alloc (.cells cs t)).heap.size (w.alloc (.cells cs t)) w') (j : Nat) (v : Value) (hv : cs[j]? = some v) : w'.cell? ⟨w.heap.size, j, none⟩ = some v := by
  have h0 : (w.alloc (.cells cs t)).heap[w.heap.size]? = some (.cells cs t (0, 0)) := heap_of_alloc w _
  refine (hb.cell (p := ⟨w.heap.size, j, none⟩) (Array.getElem?_eq_some_iff.1 h0).1).trans ?_
  unfold World.cell?
  rw [show ((w.alloc (.cells cs t)).heap[(⟨w.heap.size, j, none⟩ : Addr).block]?) = some (.cells cs t (0, 0)) from h0]
  exact hv

end Go.Proofs.Ytbmejohoifpfhaa
