/-
  What At answers, where the block is known to be there or not.
-/
import Derived.Test.YtbmejohoifpfhaaMemLm
namespace Go.Proofs.Ytbmejohoifpfhaa
open Go.RowKit

theorem AtIs.neg {l : List Bk} {t q : Int} (h : AtIs l t q) (hn : NoAt l t) : q = -1 := by
  rcases h with h | ⟨i, _, h⟩
  · exact h.1
  · exact (noAt_has hn h).elim

theorem AtIs.pos {l : List Bk} {t q : Int} {k : Nat} (h : AtIs l t q) (hl : MemOk l) (g : HasAt l t k) : q = k := by
  rcases h with h | ⟨i, hi, h⟩
  · exact (noAt_has h.2 g).elim
  · rw [hi, hasAt_uniq hl h g]

end Go.Proofs.Ytbmejohoifpfhaa
