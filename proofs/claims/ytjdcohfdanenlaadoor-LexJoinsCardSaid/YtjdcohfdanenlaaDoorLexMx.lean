/-
  What a call of lex.Split needs of the world.
-/
import Derived.Test.YtjdcohfdanenlaaDoorLexZ
namespace Go.Proofs.YtjdcohfdanenlaaDoor
open Go.RowKit

def MaxAt (w : World) : Prop := 0 < w.heap.size ∧ ∃ m, w.cell? ⟨0, 0, none⟩ = some (.int .i64 m)

theorem MaxAt.later {w w' : World} (h : MaxAt w) {B : Nat} (hB : 0 < B) (hb : Below B w w') (hs : w.heap.size ≤ w'.heap.size) : MaxAt w' := by
  obtain ⟨hg, m, hm⟩ := h
  exact ⟨by omega, m, (hb.cell (p := ⟨0, 0, none⟩) hB).trans hm⟩

theorem MaxAt.next {w w' : World} (h : MaxAt w) (hb : Below w.heap.size w w') : MaxAt w' := h.later h.1 hb hb.size

end Go.Proofs.YtjdcohfdanenlaaDoor
