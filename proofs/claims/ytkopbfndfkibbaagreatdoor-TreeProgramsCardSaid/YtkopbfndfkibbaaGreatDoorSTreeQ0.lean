/-
  Equality of trees: plain words. Lists whose elements correspond; rows of memory whose elements are told by their cells; contracts of functions that compare.
-/
import Derived.Test.YtkopbfndfkibbaaGreatDoorSTreeB
import Derived.Test.YtkopbfndfkibbaaGreatDoorSTreeRp
import Derived.Deep.RegionHeld3
import Derived.Laws.Tables
import Derived.Deep.CutRange
set_option linter.unusedVariables false
set_option linter.unusedSimpArgs false
namespace Go.Proofs.YtkopbfndfkibbaaGreatDoor
open Go.RowKit
def KeepsV {α : Type} (V : World → Nat → Array Value → α → Prop) : Prop :=
 ∀ (w w' : World) (B B' : Nat) (cs : Array Value) (x : α),(∀ q : Addr,q.block < B → w'.cell? q = w.cell? q) → B ≤ B' → V w B cs x → V w' B' cs x
theorem kept {α : Type} {V : World → Nat → Array Value → α → Prop} (hV : KeepsV V) {w w' : World} (hb : Below w.heap.size w w') {cs : Array Value} {x : α} (h : V w w.heap.size cs x) : V w' w'.heap.size cs x :=
 hV _ _ _ _ _ _ (fun _ hq => hb.cell hq) hb.size h
end Go.Proofs.YtkopbfndfkibbaaGreatDoor
namespace Go.Proofs.YtkopbfndfkibbaaGreatDoor
open Go.RowKit
section
variable {P : Program} {ops : Array Oper} {Q : Exit → Act → World → Prop} {md : Region.Mode} {S : World → Prop}
end
theorem Below.setRow {B : Nat} {a w : World} (h : Below B a w) {g : Nat} (hg : B ≤ g) (cs : Array Value) : Below B a (w.setRow g cs) :=
 ⟨h.os,h.tape,h.output,by rw [size_setRow];exact h.size,fun i hi => (setRow_other w g i cs (by omega)).trans (h.block i hi)⟩
theorem store_row {W : World} {b : Nat} {T : TypeId} {zc cs : Array Value} (hb : W.heap[b]? = some (.cells zc T (0,0))) (hsz : zc.size = cs.size) (h1 : cs.all (·.oneCell') = true) :
 (storeCells ⟨b,0,none⟩ cs.toList).run Tryz.prog W = .ok () (W.setRow b cs):=by
 have := run_storeCells_from (P:=Tryz.prog) b T cs.toList 0 zc W hb (by simp [hsz]) (fun v hv => (Array.all_eq_true_iff_forall_mem.1 h1) v (by simpa using hv))
 simpa using this
end Go.Proofs.YtkopbfndfkibbaaGreatDoor
