/-
  Stores in memory: a binding's two cells, a row of bindings.
-/
import Derived.Test.YtbmejohoifpfhaaDoorValM
import Derived.Test.YtbmejohoifpfhaaDoorTreeT
namespace Go.Proofs.YtbmejohoifpfhaaDoor
open Go.RowKit

def BdAt (w : World) (_ : Nat) (p : Addr) (x : Bd) : Prop :=
  w.cell? p = some (.string ⟨x.n.toArray⟩) ∧ w.cell? (p.add 1) = some (.int .i64 x.v) ∧ x.n.length ≤ maxLen

theorem bd_keeps : Keeps BdAt := fun w w' B B' p x hk _ hp ⟨h0, h1, h2⟩ => ⟨(hk _ hp).trans h0, (hk _ (by rw [block_adds]; exact hp)).trans h1, h2⟩

abbrev BdRow := RowX BdAt 2

/-- A store's row in a later world. -/
theorem bd_later {w w' : World} {A : Option Addr} {l : List Bd} (h : BdRow w w.heap.size l A) (hb : Below w.heap.size w w') : BdRow w' w'.heap.size l A := h.on bd_keeps hb

theorem bd_ex {l : List Bd} {i : Nat} (h : i < l.length) : ∃ x, l[i]? = some x := ⟨l[i], List.getElem?_eq_getElem h⟩

/-- The cells of the binding at index i, as a walk spells them. -/
theorem bd_cells {w : World} {B : Nat} {A : Option Addr} {l : List Bd} (h : BdRow w B l A) {i : Nat} {x : Bd} (hi : l[i]? = some x) :
    ∃ a, A = some a ∧ a.block < B ∧ w.cell? (a.add (i * 2)) = some (.string ⟨x.n.toArray⟩) ∧ w.cell? ⟨(a.add (i * 2)).block, (a.add (i * 2)).off + 1, none⟩ = some (.int .i64 x.v) ∧ x.n.length ≤ maxLen := by
  obtain ⟨a, h1, h2, h3, h4, h5⟩ := h.at_ hi
  exact ⟨a, h1, h2, h3, h4, h5⟩

end Go.Proofs.YtbmejohoifpfhaaDoor
